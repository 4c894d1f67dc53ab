import PyProof.Rows.All
import Wide.All
import OpenK.AllK
import Wide.FinOn
import Lean
import PyProof.EqAt
import PyProof.EqKinds
import PyProof.TupleCall
import PyProof.NeKinds
import KE.KTryMore
import PyProof.NsDelKeeps
import PySem.SetTable
import PyProof.StrLawsChain
import PyProof.StrBlockL
import KE.KIntText
import PyProof.DictTable
import PyProof.SliceStr2
import PyProof.MeetsStr
import PyProof.StrWalks
import PyProof.TupleKey
import PyProof.SetKind
import PyProof.Rows.SetFrom
import PyProof.ZipIter
import PyProof.Rows.ZipGen
import PyProof.LayNew
import PyProof.ExcInit
import PyProof.ExcClass3
import PyProof.EnumFor
import PyProof.EnumMake
import PyProof.EnumStmt
import PyProof.Rows.StrNews
import KE.KDictSum
import KE.KSortTup
import PyProof.DictWalks
import PyProof.DictRoadsH
import PyProof.DictKeyH
import PyProof.AutoSeq1
import PyProof.MeetsStr2
import PySem.Challenge.RW_chalkline_k32_drawings_written
set_option Elab.async false
set_option linter.all false
set_option compiler.extract_closed false
set_option maxRecDepth 100000
set_option maxHeartbeats 1000000
section
open PySem PyProof.Rows
abbrev xFg := PySem.W.Frag
abbrev xaa := @List.length_append
abbrev xab := @wpAny_bind
abbrev xad := @Heap.get?_push_of_some
abbrev xae := @List.length_map
abbrev xaf := @List.length_cons
abbrev xag := @List.mem_cons
abbrev xah := @List.mem_cons_of_mem
abbrev xai := @decide_eq_true
abbrev xaj := @Nat.le_trans
abbrev xak := @Nat.le_refl
abbrev xal := @List.size_toArray
abbrev xam := @List.getElem?_eq_some_iff
abbrev xan := @Heap.lt_size
abbrev xao := @List.getElem?_set_ne
abbrev xap := @wpAny_pure
abbrev xaq := @absurd
abbrev xar := @Nat.lt_of_lt_of_le
abbrev xas := @List.getElem?_eq_getElem
abbrev xat := @of_decide_eq_true
abbrev xau := @decide_eq_false
abbrev xav := @Heap.get?_push_size
abbrev xaw := @Bool.and_eq_true
abbrev xax := @List.mem_cons_self
abbrev xay := @List.mem_append
abbrev xaz := @List.map_append
abbrev xa0 := @List.getElem?_set_self
abbrev xa1 := @if_neg
abbrev xa2 := @Bool.false_ne_true
abbrev xa3 := @List.append_assoc
abbrev xa4 := @if_pos
abbrev xa5 := @List.not_mem_nil
abbrev xa6 := @Nat.ne_of_lt
abbrev xa7 := @List.mem_map
abbrev xa8 := @List.all_eq_true
abbrev xa9 := @List.length_take
abbrev xba := @List.getElem?_map
abbrev xbb := @List.mem_singleton
abbrev xbc := @List.getElem?_append_left
abbrev xbd := @Ne.symm
abbrev xbe := @List.getElem?_append_right
abbrev xbf := @List.getD_eq_getElem?_getD
abbrev xbg := @List.mem_append_right
abbrev xbh := @List.length_nil
abbrev xbi := @List.map_cons
abbrev xbj := @PySem.W.mg_none_of
abbrev xbk := @Option.some.inj
abbrev xbl := @Int.toNat_natCast
abbrev xbm := @List.append_nil
abbrev xbn := @PySem.W.mg_of
abbrev xbo := @List.mem_of_getElem?
abbrev xbp := @List.map_map
abbrev xbq := @Heap.size_push
abbrev xbr := @Heap.get?_update_other
abbrev xbs := @Nat.lt_irrefl
abbrev xbt := @Array.getElem?_eq_some_iff
abbrev xbu := @List.length_drop
abbrev xbv := @Nat.zero_le
abbrev xbw := @List.getElem?_range
abbrev xbx := @List.lookup_cons
abbrev xby := @List.getElem_mem
abbrev xbz := @Nat.lt_of_le_of_lt
abbrev xb0 := @List.length_replicate
abbrev xb1 := @List.forIn_cons
abbrev xb2 := @List.nil_append
abbrev xb3 := @List.getElem?_eq_none
abbrev xb4 := @List.length_set
abbrev xb5 := @Nat.lt_succ_self
abbrev xb6 := @Option.isSome_iff_exists
abbrev xb7 := @Array.length_toList
abbrev xb8 := @List.getElem?_replicate
abbrev xb9 := @List.getElem?_cons_succ
abbrev xca := @Nat.ne_of_gt
abbrev xcb := @List.map_nil
abbrev xcc := @List.mem_append_left
abbrev xcd := @List.mem_of_mem_take
abbrev xce := @List.any_cons
abbrev xcf := @List.filterMap_cons
abbrev xcg := @Bool.eq_iff_iff
abbrev xch := @Nat.le_of_lt
abbrev xci := @Nat.zero_add
abbrev xcj := @List.length_eq_zero_iff
abbrev xck := @Bool.not_eq_true'
abbrev xcl := @Heap.get?_push_at
abbrev xcm := @List.drop_of_length_le
abbrev xcn := @Option.map_eq_some_iff
abbrev xco := @Bool.true_and
abbrev xcp := @Bool.and_true
abbrev xcq := @List.map_take
abbrev xcr := @Nat.le_add_right
abbrev xcs := @Heap.get?_update_self
abbrev xct := @List.nodup_cons
abbrev xcu := @Bool.or_eq_true
abbrev xcv := @List.map_congr_left
abbrev xcw := @List.length_pos_iff
abbrev xcx := @List.mem_range
end
open PySem
section
namespace L2
open PySem.Spec PyProof.Rows
abbrev Key := Sum Int Str
def yV : Key -> Value -> Bool
 | .inl k, v => Value.isInt k v
 | .inr x, v => Value.isStrOf x v
def ML (w : World) : Key -> Int
 | .inl k => hashInt k
 | .inr x => hashStr w x
theorem jE : ∀ {k : Key} {v : Value}, yV k v = true -> (∃ i t, k = Sum.inl i /\ v = Value.int i t) \/ (∃ x t, k = Sum.inr x /\ v = Value.str x t)
 | .inl i, v, h => by
  obtain ⟨t, e⟩ := Value.isInt_shape (k := i) (v := v) h
  exact .inl ⟨i, t, rfl, e⟩
 | .inr x, v, h => by
  obtain ⟨t, e⟩ := Value.isStrOf_shape (x := x) (v := v) h
  exact .inr ⟨x, t, rfl, e⟩
theorem MM (a b : Int) : decide ((Sum.inl a : Key) = Sum.inl b) = (a == b) := by
 by_cases e : a = b
 ·subst e; simp
 ·have h : ¬ (Sum.inl a : Key) = Sum.inl b := fun q => e (Sum.inl.inj q)
  rw [xau h]
  exact (beq_eq_false_iff_ne.mpr e).symm
theorem MN (a b : Str) : decide ((Sum.inr a : Key) = Sum.inr b) = decide (a = b) := by
 by_cases e : a = b
 ·subst e; simp
 ·have h : ¬ (Sum.inr a : Key) = Sum.inr b := fun q => e (Sum.inr.inj q)
  rw [xau h, xau e]
theorem MO (a : Int) (b : Str) : decide ((Sum.inl a : Key) = Sum.inr b) = false := xau (fun q => nomatch q)
theorem MP (a : Str) (b : Int) : decide ((Sum.inr a : Key) = Sum.inl b) = false := xau (fun q => nomatch q)
def yW (prog : Program) (w : World) : PySem.KeyKind prog w Key where
 is := yV
 hash := ML w
 inj := fun v a b ha hb => by
  rcases jE ha with ⟨i, t, rfl, rfl⟩ | ⟨x, t, rfl, rfl⟩
  ·rcases jE hb with ⟨j, u, rfl, e⟩ | ⟨y, u, rfl, e⟩
   ·injection e with e1 _; rw [e1]
   ·exact nomatch e
  ·rcases jE hb with ⟨j, u, rfl, e⟩ | ⟨y, u, rfl, e⟩
   ·exact nomatch e
   ·injection e with e1 _; rw [e1]
 byValue := fun k v h => by
  rcases jE h with ⟨i, t, rfl, rfl⟩ | ⟨x, t, rfl, rfl⟩ <;> rfl
 pyHash := fun hv h => by
  rcases jE hv with ⟨i, t, rfl, rfl⟩ | ⟨x, t, rfl, rfl⟩
  ·exact wpAny_pyHash_int h
  ·exact wpAny_pyHash_str h
 eqBool := fun hu hv h => by
  rcases jE hu with ⟨i, t, rfl, rfl⟩ | ⟨x, t, rfl, rfl⟩
  ·rcases jE hv with ⟨j, u, rfl, rfl⟩ | ⟨y, u, rfl, rfl⟩
   ·rw [MM] at h; exact wpAny_eqBool_int h
   ·rw [MO] at h; exact SeqAt.EqAt.int_str i t y u _ _ _ _ h
  ·rcases jE hv with ⟨j, u, rfl, rfl⟩ | ⟨y, u, rfl, rfl⟩
   ·rw [MP] at h; exact SeqAt.EqAt.str_int x t j u _ _ _ _ h
   ·rw [MN] at h; exact wpAny_eqBool_str h
 «strs» := fun k x t v h => by
  rcases jE h with ⟨i, u, rfl, e⟩ | ⟨y, u, rfl, e⟩
  ·exact nomatch e
  ·injection e with e1 _
   subst e1
   cases v <;> rfl
end L2
namespace L2
open PySem.Spec PyProof.Rows
inductive V where
 | non | bl (b : Bool) | int (i : Int) | str (x : Str) | byt (b : Array UInt8) | flt (b : UInt64) | ref (a : Addr) | ty (n : String)
 deriving DecidableEq
def aR : V -> Value -> Prop
 | .non, u => u = Value.none
 | .bl b, u => u = Value.bool b
 | .int i, u => ∃ t, u = Value.int i t
 | .str x, u => ∃ t, u = Value.str x t
 | .byt b, u => ∃ t, u = Value.bytes b t
 | .flt b, u => ∃ t, u = Value.float b t
 | .ref a, u => u = Value.ref a
 | .ty n, u => u = Value.type n
abbrev a6 : List V -> List Value -> Prop := Paired aR
theorem a6.length {xs : List V} {us : List Value} (r : a6 xs us) : xs.length = us.length := Paired.length r
theorem a6.get : ∀ {xs : List V} {us : List Value} {i : Nat} {x : V}, a6 xs us -> xs[i]? = some x -> ∃ u, us[i]? = some u /\ aR x u
 | _, _, _, _, .nil, e => by simp at e
 | _, _, 0, _, .cons r _, e => by simp at e; subst e; exact ⟨_, rfl, r⟩
 | _, _, i + 1, x, .cons _ t, e => by
  obtain ⟨u, h1, h2⟩ := a6.get (i := i) (x := x) t (by simpa using e)
  exact ⟨u, by simpa using h1, h2⟩
theorem a6.append : ∀ {xs ys : List V} {us ws : List Value}, a6 xs us -> a6 ys ws -> a6 (xs ++ ys) (us ++ ws)
 | _, _, _, _, .nil, s => s
 | _, _, _, _, .cons r t, s => .cons r (a6.append t s)
theorem a6.take : ∀ {xs : List V} {us : List Value} (n : Nat), a6 xs us -> a6 (xs.take n) (us.take n)
 | _, _, 0, _ => .nil
 | _, _, _ + 1, .nil => .nil
 | _, _, n + 1, .cons r t => .cons r (a6.take n t)
theorem a6.drop : ∀ {xs : List V} {us : List Value} (n : Nat), a6 xs us -> a6 (xs.drop n) (us.drop n)
 | _, _, 0, r => r
 | _, _, _ + 1, .nil => .nil
 | _, _, n + 1, .cons _ t => a6.drop n t
def iJ : Option V -> Option Value -> Prop
 | some v, some u => aR v u
 | none, none => True
 | _, _ => False
def KV {κ : Type} : List (κ × V) -> List (κ × Value) -> Prop := Paired fun (p : κ × V) (q : κ × Value) => p.1 = q.1 /\ aR p.2 q.2
def kV : Key -> V
 | .inl i => .int i
 | .inr x => .str x
inductive HO where
 | lst (xs : List V)
 | tup (xs : List V)
 | dK (kvs : List (Key × V)) | dT (kvs : List (List Key × V))
 | set (S : Int -> Bool) (n : Nat)
 | ins (C dx : Addr) (fs : List (Str × V))
 | own (x : Addr)
 | xd (fs : List (Str × V))
 | met (f x : Addr)
 | rng (lo hi : Int)
 | frz (o : Obj) (u : HO)
 | tbl (ps : Array Value)
 | ext (φ : Heap -> Prop)
abbrev Hp := Addr -> Option HO
def aO (H : Hp) (a : Addr) (o : HO) : Hp := fun b => if b = a then some o else H b
theorem bP {H : Hp} {a : Addr} {o : HO} : aO H a o a = some o := by unfold aO; rw [xa4 rfl]
theorem bC {H : Hp} {a b : Addr} {o : HO} (h : b ≠ a) : aO H a o b = H b := by unfold aO; rw [xa1 h]
theorem cR {H : Hp} {a b : Addr} {o : HO} (h : H a = some o) (h' : H b = none) : a ≠ b := by
 intro e; subst e; rw [h] at h'; cases h'
def jF (h : Heap) (a : Addr) (items : Array Value) : Prop := ∃ o, h.get? a = some o /\ o.cls = .type "tuple" /\ (∃ n, o.data = .seq items n) /\ o.dict = none
theorem jF.tup {h : Heap} {a : Addr} {items : Array Value} (x : jF h a items) : IsTup h a items := by
 obtain ⟨o, e, c, d, _⟩ := x; exact ⟨o, e, c, d⟩
theorem jF.new (h : Heap) (items : Array Value) : jF (h.push { cls := .type "tuple", data := .seq items }) h.objs.size items := ⟨_, xav h rfl, rfl, ⟨0, rfl⟩, rfl⟩
section
variable (P : Program) (w : World)
def dI (H : Hp) (h : Heap) (a : Addr) : HO -> Prop
 | .lst xs => xs.length <= sizeLine /\ ∃ (its : List Value) (n : Nat), a6 xs its /\ h.get? a = some { cls := .type "list", data := .seq its.toArray n }
 | .tup xs => xs.length <= sizeLine /\ ∃ its : List Value, a6 xs its /\ jF h a its.toArray
 | .dK kvs => kvs.length <= sizeLine /\ (a == sysModules) = false /\ ∃ vs, KV kvs vs /\ h.DictOf (yW P w) a vs
 | .dT kvs => kvs.length <= sizeLine /\ (a == sysModules) = false /\ ∃ xs : List (List Key × Addr × Value),
   Paired (fun (p : List Key × V) (q : List Key × Addr × Value) => p.1 = q.1 /\ H q.2.1 = some (.tup (p.1.map kV)) /\ aR p.2 q.2.2) kvs xs /\
   ∃ o es ep, h.get? a = some o /\ o.ExactDict /\ o.data = .dict es ep /\ es.toList = xs.map (entryOfKey (tupleKind (yW P w))) /\ (xs.map (·.1)).Nodup
 | .set S n => h.SetOf (intKind P w) a S n
 | .ins C dx fs => H dx = some (.own a) /\ fs.length <= 1000 /\ dx ≠ a /\ h.get? a = some (PySem.W.instObj C dx) /\
   ∃ mA, h.Ns1 dx mA /\ (∀ f, iJ (fs.lookup f) (mA f)) /\ PySem.Within mA (fs.map (·.1))
 | .own _ => ∃ o, h.get? a = some o
 | .xd fs => ∃ mA, h.Ns1 a mA /\ ∀ f, iJ (fs.lookup f) (mA f)
 | .rng lo hi => ∃ t u v, h.get? a = some { cls := .type "range", data := .fields #[.int lo t, .int hi u, .int 1 v] }
 | .frz o u => h.get? a = some o /\ dI H h a u
 | .tbl ps => h.get? a = some { cls := .none, data := .fields ps }
 | .met f x => h.get? a = some (PySem.W.methodObj (.ref f) (.ref x))
 | .ext φ => φ h /\ (∃ o, h.get? a = some o) /\ ∀ h1 h2 : Heap, φ h1 -> (∀ o, h1.get? a = some o -> h2.get? a = some o) -> φ h2
def cP (H : Hp) (h : Heap) : Prop := ∀ a o, H a = some o -> dI P w H h a o
end
section
variable {P : Program} {w : World} {H H' : Hp} {h h' : Heap} {a : Addr} {o : HO}
theorem dI.lt (x : dI P w H h a o) : a < h.objs.size := by
 cases o with
 | lst xs => obtain ⟨_, _, _, _, e⟩ := x; exact xan e
 | tup xs => obtain ⟨_, _, _, p⟩ := x; exact p.tup.lt
 | dK kvs => obtain ⟨_, _, _, _, o, _, _, e, _⟩ := x; exact xan e
 | dT kvs => obtain ⟨_, _, _, _, o, _, _, e, _⟩ := x; exact xan e
 | set S n => obtain ⟨o, _, _, _, e, _⟩ := x; exact xan e
 | ins C dx fs => obtain ⟨_, _, _, e, _⟩ := x; exact xan e
 | own y => obtain ⟨_, e⟩ := x; exact xan e
 | xd fs => obtain ⟨_, ⟨_, _, _, e, _⟩, _⟩ := x; exact xan e
 | rng lo hi => obtain ⟨_, _, _, e⟩ := x; exact xan e
 | frz ob u => obtain ⟨e, _⟩ := x; exact xan e
 | tbl ps => exact xan (show h.get? a = some _ from x)
 | met f y => exact xan (show h.get? a = some _ from x)
 | ext φ => obtain ⟨_, ⟨_, e⟩, _⟩ := x; exact xan e
theorem Paired.mapP {α β : Type} {F G : α -> β -> Prop} : ∀ {l₁ : List α} {l₂ : List β}, Paired F l₁ l₂ -> (∀ a b, F a b -> G a b) -> Paired G l₁ l₂
 | _, _, .nil, _ => .nil
 | _, _, .cons r t, f => .cons (f _ _ r) (Paired.mapP t f)
theorem dI.stay (x : dI P w H h a o) (k : ∀ b u, (b = a \/ H b = some (.own a)) -> h.get? b = some u -> h'.get? b = some u)
  (ho : ∀ b, H b = some (.own a) -> H' b = some (.own a)) (ht : ∀ b xs, H b = some (.tup xs) -> H' b = some (.tup xs)) : dI P w H' h' a o := by
 induction o with
 | lst xs => obtain ⟨z, its, n, r, e⟩ := x; exact ⟨z, its, n, r, k _ _ (.inl rfl) e⟩
 | tup xs => obtain ⟨z, its, r, ob, e, c⟩ := x; exact ⟨z, its, r, ob, k _ _ (.inl rfl) e, c⟩
 | dK kvs => obtain ⟨z, y, vs, r, ob, es, ep, e, c⟩ := x; exact ⟨z, y, vs, r, ob, es, ep, k _ _ (.inl rfl) e, c⟩
 | dT kvs =>
  obtain ⟨z, y, xs, r, ob, es, ep, e, c⟩ := x
  exact ⟨z, y, xs, Paired.mapP r fun p q z => ⟨z.1, ht _ _ z.2.1, z.2.2⟩, ob, es, ep, k _ _ (.inl rfl) e, c⟩
 | set S n => obtain ⟨ob, es, ep, t, e, c⟩ := x; exact ⟨ob, es, ep, t, k _ _ (.inl rfl) e, c⟩
 | ins C dx fs =>
  obtain ⟨d, z, ne, e, mA, ⟨od, es, ep, e2, c⟩, r⟩ := x
  exact ⟨ho _ d, z, ne, k _ _ (.inl rfl) e, mA, ⟨od, es, ep, k _ _ (.inr d) e2, c⟩, r⟩
 | own y => obtain ⟨ob, e⟩ := x; exact ⟨ob, k _ _ (.inl rfl) e⟩
 | xd fs => obtain ⟨mA, ⟨od, es, ep, e, c⟩, r⟩ := x; exact ⟨mA, ⟨od, es, ep, k _ _ (.inl rfl) e, c⟩, r⟩
 | rng lo hi => obtain ⟨t, u, v, e⟩ := x; exact ⟨t, u, v, k _ _ (.inl rfl) e⟩
 | frz ob u ih => obtain ⟨e, q⟩ := x; exact ⟨k _ _ (.inl rfl) e, ih q⟩
 | tbl ps =>
  have e : h.get? a = some { cls := .none, data := .fields ps } := x
  show h'.get? a = some { cls := .none, data := .fields ps }
  exact k a _ (.inl rfl) e
 | met f y =>
  have e : h.get? a = some (PySem.W.methodObj (.ref f) (.ref y)) := x
  show h'.get? a = some (PySem.W.methodObj (.ref f) (.ref y))
  exact k a _ (.inl rfl) e
 | ext φ => obtain ⟨p, ⟨o, e⟩, st⟩ := x; exact ⟨st _ _ p fun o q => k _ _ (.inl rfl) q, ⟨o, k _ _ (.inl rfl) e⟩, st⟩
theorem cP.lt (x : cP P w H h) (e : H a = some o) : a < h.objs.size := (x a o e).lt
theorem cP.fresh (x : cP P w H h) (e : h.objs.size <= a) : H a = none := by
 cases q : H a with
 | none => rfl
 | some u => exact xaq (xar (x.lt q) e) (xbs _)
theorem cP.kept (x : cP P w H h) (k : ∀ b u, h.get? b = some u -> h'.get? b = some u) : cP P w H h' := fun a o e =>
 (x a o e).stay (fun b u _ q => k b u q) (fun _ q => q) fun _ _ q => q
theorem cP.laid (x : cP P w H h) (k : ∀ b u, h.get? b = some u -> h'.get? b = some u) (hp : h.objs.size <= a) (new : dI P w (aO H a o) h' a o) : cP P w (aO H a o) h' := fun b u e => by
 have hn := x.fresh hp
 by_cases hb : b = a
 ·subst hb; rw [bP] at e; cases e; exact new
 ·rw [bC hb] at e
  exact (x b u e).stay (fun c v _ q => k c v q) (fun c q => by rw [bC (cR q hn)]; exact q) fun c xs q => by rw [bC (cR q hn)]; exact q
end
def Rd (H : Hp) (a : Addr) (u : HO) : Prop := H a = some u \/ ∃ o, H a = some (.frz o u)
theorem Rd.ok {P : Program} {w : World} {H : Hp} {h : Heap} {a : Addr} {u : HO} (r : Rd H a u) (x : cP P w H h) : dI P w H h a u := by
 rcases r with r | ⟨o, r⟩
 ·exact x a u r
 ·obtain ⟨_, q⟩ := x a _ r
  exact q
def qJ : Option HO -> Prop
 | some (.lst _) => True
 | some (.dK _) => True
 | some (.dT _) => True
 | some (.set _ _) => True
 | some (.ins _ _ _) => True
 | some (.ext _) => True
 | _ => False
section
variable {P : Program} {w : World} {H : Hp} {h h' : Heap} {x e : Addr} {o' : HO}
theorem cP.write (ok : cP P w H h) (mu : qJ (H x)) (he : e = x \/ H e = some (.own x)) (k : ∀ b u, b ≠ e -> h.get? b = some u -> h'.get? b = some u) (heo : ∃ u, h'.get? e = some u)
  (new : dI P w (aO H x o') h' x o') : cP P w (aO H x o') h' := fun b u q => by
 have nown : ∀ c y, H c = some (.own y) -> c ≠ x := fun c y r z => by subst z; rw [r] at mu; exact mu
 have ntup : ∀ c xs, H c = some (.tup xs) -> c ≠ x := fun c xs r z => by subst z; rw [r] at mu; exact mu
 by_cases hb : b = x
 ·subst hb; rw [bP] at q; cases q; exact new
 ·rw [bC hb] at q
  by_cases hbe : b = e
  ·have q' : H b = some (.own x) := by
    rcases he with z | z
    ·exact xaq (hbe.trans z) hb
    ·rw [hbe]; exact z
   rw [q] at q'; cases q'
   obtain ⟨v, hv⟩ := heo
   exact ⟨v, by rw [hbe]; exact hv⟩
  ·refine (ok b u q).stay (fun c v hc r => k c v ?_ r) (fun c r => by rw [bC (nown c b r)]; exact r) fun c xs r => by rw [bC (ntup c xs r)]; exact r
   rcases hc with rfl | hc
   ·exact hbe
   ·rintro rfl
    rcases he with z | z
    ·exact nown c b hc z
    ·rw [hc] at z; cases z; exact hb rfl
end
structure Un (fs ex : List Addr) (H H' : Hp) (h h' : Heap) : Prop where
 keep : ∀ b o, h.get? b = some o -> H b = none -> b ∉ fs -> b ∉ ex -> h'.get? b = some o
 slot : ∀ b o, h.get? b = some o -> H b = none -> b ∈ fs -> b ∉ ex -> ∃ sl, h'.get? b = some { o with slots := sl }
 free : ∀ b o, h.get? b = some o -> H b = none -> b ∉ ex -> H' b = none
 there : ∀ b o, h.get? b = some o -> b ∉ ex -> ∃ o', h'.get? b = some o'
 tups : ∀ b xs, H b = some (.tup xs) -> H' b = some (.tup xs)
 frzs : ∀ b o u, H b = some (.frz o u) -> H' b = some (.frz o u)
 tbls : ∀ b ps, H b = some (.tbl ps) -> ∃ more, H' b = some (.tbl (ps ++ more))
section
variable {fs fs' ex ex' : List Addr} {H H1 H2 : Hp} {h h1 h2 h' : Heap} {a x e : Addr} {o : HO}
theorem Un.any (u : Un fs ex H H1 h h1) {b : Addr} {ob : Obj} (q : h.get? b = some ob) (n : H b = none) (hx : b ∉ ex) : ∃ sl, h1.get? b = some { ob with slots := sl } := by
 by_cases hb : b ∈ fs
 ·exact u.slot b ob q n hb hx
 ·exact ⟨ob.slots, u.keep b ob q n hb hx⟩
theorem Un.kept (k : ∀ b u, h.get? b = some u -> h'.get? b = some u) : Un fs ex H H h h' :=
 ⟨fun b ob q _ _ _ => k b ob q, fun b ob q _ _ _ => ⟨ob.slots, k b ob q⟩, fun _ _ _ n _ => n, fun b ob q _ => ⟨ob, k b ob q⟩, fun _ _ q => q, fun _ _ _ q => q, fun _ ps q => ⟨#[], by rw [q]; simp⟩⟩
theorem Un.refl : Un fs ex H H h h := Un.kept fun _ _ q => q
theorem Un.laid (k : ∀ b u, h.get? b = some u -> h'.get? b = some u) (hp : h.objs.size <= a) (hn : H a = none) : Un fs ex H (aO H a o) h h' where
 keep := fun b u q _ _ _ => k b u q
 slot := fun b u q _ _ _ => ⟨u.slots, k b u q⟩
 free := fun b u q n _ => by rw [bC (xa6 (xar (xan q) hp))]; exact n
 there := fun b u q _ => ⟨u, k b u q⟩
 tups := fun b xs q => by rw [bC (cR q hn)]; exact q
 frzs := fun b u xs q => by rw [bC (cR q hn)]; exact q
 tbls := fun b ps q => ⟨#[], by rw [bC (cR q hn), q]; simp⟩
theorem Un.write (mu : qJ (H x)) (he : e = x \/ H e = some (.own x)) (k : ∀ b u, b ≠ e -> h.get? b = some u -> h'.get? b = some u) (heo : ∃ u, h'.get? e = some u) : Un fs ex H (aO H x o) h h' := by
 have hx : ∀ b, H b = none -> b ≠ x := fun b n z => by subst z; rw [n] at mu; exact mu
 have hb : ∀ b, H b = none -> b ≠ e := fun b n z => by
  subst z
  rcases he with r | r
  ·exact hx b n r
  ·rw [n] at r; cases r
 have hm : ∀ b u, H b = some u -> ¬ qJ (some u) -> b ≠ x := fun b u q nm z => by subst z; rw [q] at mu; exact nm mu
 refine ⟨fun b u q n _ _ => k b u (hb b n) q, fun b u q n _ _ => ⟨u.slots, k b u (hb b n) q⟩, fun b u q n _ => by rw [bC (hx b n)]; exact n, fun b u q _ => ?_,
  fun b xs q => by rw [bC (hm b _ q fun z => z)]; exact q, fun b u xs q => by rw [bC (hm b _ q fun z => z)]; exact q, fun b ps q => ⟨#[], by rw [bC (hm b _ q fun z => z), q]; simp⟩⟩
 by_cases hbe : b = e
 ·subst hbe; exact heo
 ·exact ⟨u, k b u hbe q⟩
end
def trk (h : Heap) (H : Hp) : List Addr := (List.range h.objs.size).filter fun a => (H a).isSome
def jG (h : Heap) (H : Hp) : Heap := PySem.W.hideAll h (trk h H)
theorem MQ (h : Heap) (H : Hp) : (jG h H).objs.size = h.objs.size := PySem.W.hideAll_size _ _
theorem MR {h : Heap} {H : Hp} {b : Addr} {o : Obj} (e : h.get? b = some o) (n : H b = none) : (jG h H).get? b = some o :=
 PySem.W.hideAll_get _ e fun hm => by
  have q : (H b).isSome = true := (List.mem_filter.mp hm).2
  rw [n] at q; simp at q
theorem MS {h : Heap} {H : Hp} {b : Addr} {o : Obj} (e : (jG h H).get? b = some o) : h.get? b = some o /\ H b = none := by
 have e' : h.get? b = some o := PySem.W.of_hideAll (trk h H) e
 refine ⟨e', ?_⟩
 cases q : H b with
 | none => rfl
 | some x =>
  have hm : b ∈ trk h H := List.mem_filter.mpr ⟨xcx.mpr (xan e'), by simp [q]⟩
  have z : (jG h H).get? b = none := PySem.W.hideAll_none (trk h H) hm
  rw [z] at e; cases e
def MT (g h : Heap) (L : Addr) : List (Addr × Obj) := (List.range h.objs.size).filterMap fun a => if a = L \/ (g.get? a).isSome = true then none else (h.get? a).map fun o => (a, o)
def rest (g h : Heap) (L d : Addr) : List (Addr × Obj) := (MT g h L).filter fun p => decide (p.1 ≠ d)
end L2
namespace L2
open PySem.Spec PyProof.Rows
structure Mod (K : xFg) (mg : Str -> Option Value) (base : Heap) : Prop where
 kin : K.In base
 glob : base.Ns mainGlobals mg
 blt : ∃ mb, base.Ns builtinsNs mb /\ ∀ x : Str, x ≠ "__name__" -> mb x = bootBuiltins x
 nolimit : base.NoLimit
structure Cx where
 prog : Program
 w : World
 K : xFg
 mg : Str -> Option Value
 base : Heap
 A : Around
 N : List Str
 s₀ : Shared
 H₀ : Hp
 env : Env
 outer : List Env
 stack : List Env
 ex : List Addr
 fn : Str -> Bool
 calm : Bool
 pn : List (Addr × Obj)
 xe : Value -> Shared -> Prop
def cK (l : List Env) : List Addr := l.filterMap (·.frame)
abbrev Cx.fs (X : Cx) : List Addr := cK X.outer
def gA (sc : Scope) (x : Str) : Prop := sc.names.lookup x = some .local \/ sc.names.lookup x = some .cell \/ sc.names.lookup x = some .free
def gC (sc : Scope) (x : Str) : Prop := sc.names.lookup x = some .local \/ sc.names.lookup x = some .cell
def MU (env : Env) (h : Heap) (m : Str -> Option Value) (x : Str) (u : Value) : Prop :=
 (env.kindOf x = some .local /\ m x = some u) \/ ((env.kindOf x = some .cell \/ env.kindOf x = some .free) /\ ∃ c, env.cells.lookup x = some c /\ h.IsCell c (some u))
structure Cx.Ok (X : Cx) : Prop where
 mod : Mod X.K X.mg X.base
 kind : X.env.scope.kind = .function
 glob : X.env.globals = mainGlobals
 blt : X.env.builtins = builtinsNs
 above : X.s₀.heap.objs.size <= X.env.locals
 inj : ∀ x y c, X.env.cells.lookup x = some c -> X.env.cells.lookup y = some c -> x = y
 has : ∀ x, (X.env.kindOf x = some .cell \/ X.env.kindOf x = some .free) -> ∃ c, X.env.cells.lookup x = some c
 cab : ∀ x c, X.fn x = true -> X.env.cells.lookup x = some c -> X.s₀.heap.objs.size <= c
 hd : X.calm = true -> X.A.handled = none
 frames : X.A.frames = some X.stack
 stk : X.stack = X.outer \/ (X.stack = X.env :: X.outer /\ X.env.frame = some X.env.locals)
 exf : ∀ b ∈ X.ex, b ≠ X.env.locals /\ ∀ x c, X.env.cells.lookup x = some c -> c ≠ b
 bs : ∀ b o, X.base.get? b = some o -> X.s₀.heap.get? b = some o /\ X.H₀ b = none
 bsz : X.base.objs.size <= X.s₀.heap.objs.size
 noex : ∀ b o, X.base.get? b = some o -> b ∉ X.ex
 exfs : ∀ b ∈ X.ex, b ∉ X.fs
 funs : X.s₀.heap.FunFrames X.base X.outer
 frf : ∀ b ∈ X.fs, X.H₀ b = none
structure aH (X : Cx) (pins : List (Addr × Obj)) (U : List (Option V)) (H : Hp) (s : Shared) : Prop where
 ok : X.Ok
 os : s.os = X.s₀.os
 bare : AllBare s.gens
 base : Un X.fs X.ex X.H₀ H X.s₀.heap s.heap
 loc : ∃ m, s.heap.Ns X.env.locals m /\ ∀ (i : Nat) (x : Str) (v : V), X.N[i]? = some x -> U[i]? = some (some v) -> gA X.env.scope x -> ∃ u, aR v u /\ MU X.env s.heap m x u
 cell : ∀ x c, X.env.cells.lookup x = some c -> ∃ v, s.heap.IsCell c v
 free : H X.env.locals = none
 freeC : ∀ x c, X.env.cells.lookup x = some c -> H c = none
 pin : ∀ p ∈ X.pn ++ pins, s.heap.get? p.1 = some p.2 /\ H p.1 = none /\ p.1 ≠ X.env.locals /\ p.1 ∉ X.fs /\ ∀ v, p.2.data ≠ .cell v
 hok : cP X.prog X.w H s.heap
 len : U.length = X.N.length
section
variable {X : Cx} {pins : List (Addr × Obj)} {U : List (Option V)} {H H' : Hp} {s : Shared} {h' : Heap}
theorem Cx.Ok.nofr (ok : X.Ok) {b : Addr} {o : Obj} (e : X.base.get? b = some o) : b ∉ X.fs := fun hb => by
 have := (ok.funs.mem hb).1
 rw [e] at this; cases this
theorem aH.bs (I : aH X pins U H s) : ∀ b o, X.base.get? b = some o -> s.heap.get? b = some o /\ H b = none := fun b o e =>
 ⟨I.base.keep b o (I.ok.bs b o e).1 (I.ok.bs b o e).2 (I.ok.nofr e) (I.ok.noex b o e), I.base.free b o (I.ok.bs b o e).1 (I.ok.bs b o e).2 (I.ok.noex b o e)⟩
theorem aH.bk (I : aH X pins U H s) : ∀ b o, X.base.get? b = some o -> s.heap.get? b = some o := fun b o e => (I.bs b o e).1
theorem aH.mod (I : aH X pins U H s) : Mod X.K X.mg X.base := I.ok.mod
theorem aH.kIn (I : aH X pins U H s) : X.K.In s.heap := I.ok.mod.kin.keeps I.bk
theorem aH.fr (I : aH X pins U H s) : ∃ m, Fr X.base X.env.locals s.heap m :=
 let ⟨m, hn, _⟩ := I.loc
 ⟨m, hn, I.bk, xaj I.ok.bsz I.ok.above⟩
theorem aH.lt (I : aH X pins U H s) : X.env.locals < s.heap.objs.size := let ⟨_, hn, _⟩ := I.loc; hn.lt
theorem aH.sz (I : aH X pins U H s) : X.s₀.heap.objs.size <= s.heap.objs.size := xaj I.ok.above (xch I.lt)
theorem aH.nofs (I : aH X pins U H s) {a : Addr} (h : s.heap.objs.size <= a) : a ∉ X.fs := fun hb => by
 obtain ⟨_, o, ho, _⟩ := I.ok.funs.mem hb
 exact xaq (xar (xan ho) (xaj I.sz h)) (xbs _)
theorem aH.cne (I : aH X pins U H s) : ∀ x c, X.env.cells.lookup x = some c -> c ≠ X.env.locals := fun x c e z => by
 obtain ⟨v, o, ho, hd⟩ := I.cell x c e
 obtain ⟨m, ⟨o', es, ep, ho', hd', _⟩, _⟩ := I.loc
 rw [z, ho'] at ho; cases ho; rw [hd'] at hd; cases hd
theorem aH.funs (I : aH X pins U H s) : s.heap.FunFrames X.base X.outer := by
 have all : ∀ (l : List Env), (∀ b ∈ cK l, b ∈ X.fs) -> X.s₀.heap.FunFrames X.base l -> s.heap.FunFrames X.base l := by
  intro l
  induction l with
  | nil => intro _ _; trivial
  | cons env r ih =>
   intro hs hl
   obtain ⟨hk, ⟨L, o, hf, hn, ho, hd⟩, hr⟩ := hl
   have hL : L ∈ X.fs := hs L (by unfold cK; rw [xcf, hf]; exact xax)
   obtain ⟨sl, e⟩ := I.base.slot L o ho (I.ok.frf L hL) hL fun z => I.ok.exfs L z hL
   exact ⟨hk, ⟨L, _, hf, hn, e, hd⟩, ih (fun b hb => hs b (by unfold cK; rw [xcf, hf]; exact xah _ hb)) hr⟩
 exact all X.outer (fun _ hb => hb) I.ok.funs
theorem aH.stack (I : aH X pins U H s) : s.heap.FunFrames X.base X.stack := by
 rcases I.ok.stk with e | ⟨e, hf⟩
 ·rw [e]; exact I.funs
 ·rw [e]
  obtain ⟨m, hn, _⟩ := I.loc
  refine .cons (by rw [I.ok.kind]; decide) hf hn ?_ I.funs
  exact Heap.get?_none_of_le (xaj I.ok.bsz I.ok.above)
theorem aH.stkSub (I : aH X pins U H s) : ∀ b ∈ cK X.stack, b ∈ X.env.locals :: X.fs := fun b hb => by
 rcases I.ok.stk with e | ⟨e, hf⟩
 ·rw [e] at hb; exact xah _ hb
 ·rw [e] at hb
  unfold cK at hb
  rw [xcf, hf] at hb
  exact hb
theorem aH.stkFree (I : aH X pins U H s) : ∀ b ∈ cK X.stack, H b = none := fun b hb => by
 rcases xag.mp (I.stkSub b hb) with e | hb
 ·rw [e]; exact I.free
 ·obtain ⟨_, o, ho, _⟩ := I.ok.funs.mem hb
  exact I.base.free b o ho (I.ok.frf b hb) fun z => I.ok.exfs b z hb
theorem aH.step {g' : Array GenState} {t' : Nat} {d' : Drawn} {ch : List Addr} (I : aH X pins U H s)
  (hch : ∀ b ∈ ch, (b ∈ X.ex \/ X.s₀.heap.objs.size <= b) /\ b ≠ X.env.locals /\ (∀ x c, X.env.cells.lookup x = some c -> c ≠ b) /\ ∀ p ∈ X.pn ++ pins, p.1 ≠ b)
  (keep : ∀ b o, b ≠ X.env.locals -> b ∉ X.fs -> b ∉ ch -> s.heap.get? b = some o -> H b = none -> h'.get? b = some o)
  (slot : ∀ b o, b ≠ X.env.locals -> b ∈ X.fs -> b ∉ ch -> s.heap.get? b = some o -> H b = none -> ∃ sl, h'.get? b = some { o with slots := sl }) (free : ∀ b o, b ∉ ch -> s.heap.get? b = some o -> H b = none -> H' b = none)
  (there : ∀ b o, b ∉ ch -> s.heap.get? b = some o -> ∃ o', h'.get? b = some o')
  (tups : ∀ b xs, H b = some (.tup xs) -> H' b = some (.tup xs)) (frzs : ∀ b o u, H b = some (.frz o u) -> H' b = some (.frz o u)) (tbls : ∀ b ps, H b = some (.tbl ps) -> ∃ more, H' b = some (.tbl (ps ++ more)))
  (ns : ∀ m, s.heap.Ns X.env.locals m -> h'.Ns X.env.locals m) (hok : cP X.prog X.w H' h') (hg : AllBare g') :
  aH X pins U H' { s with heap := h', gens := g', drawn := d', toks := t' } := by
 have neL : ∀ b o, X.s₀.heap.get? b = some o -> b ≠ X.env.locals := fun b o e => xa6 (xar (xan e) I.ok.above)
 have neC : ∀ b o, X.s₀.heap.get? b = some o -> b ∉ X.ex -> b ∉ ch := fun b o e hx hb => by
  rcases (hch b hb).1 with z | z
  ·exact hx z
  ·exact xaq (xar (xan e) z) (xbs _)
 have cellK : ∀ x c, X.env.cells.lookup x = some c -> ∀ v, s.heap.IsCell c v -> h'.IsCell c v := fun x c e v ⟨o, ho, hd⟩ => by
  have nch : c ∉ ch := fun z => (hch c z).2.2.1 x c e rfl
  by_cases hc : c ∈ X.fs
  ·obtain ⟨sl, q⟩ := slot c o (I.cne x c e) hc nch ho (I.freeC x c e)
   exact ⟨_, q, hd⟩
  ·exact ⟨o, keep c o (I.cne x c e) hc nch ho (I.freeC x c e), hd⟩
 refine ⟨I.ok, I.os, hg, ⟨fun b o e n hb hx => ?_, fun b o e n hb hx => ?_, fun b o e n hx => ?_, fun b o e hx => ?_, fun b xs e => tups b xs (I.base.tups b xs e), fun b o xs e => frzs b o xs (I.base.frzs b o xs e), fun b ps e => ?_⟩, ?_, fun x c e => ?_, ?_, fun x c e => ?_, fun p hp => ?_, hok, I.len⟩
 ·exact keep b o (neL b o e) hb (neC b o e hx) (I.base.keep b o e n hb hx) (I.base.free b o e n hx)
 ·obtain ⟨sl, e1⟩ := I.base.slot b o e n hb hx
  obtain ⟨sl', e2⟩ := slot b _ (neL b o e) hb (neC b o e hx) e1 (I.base.free b o e n hx)
  exact ⟨sl', e2⟩
 ·obtain ⟨o', e1⟩ := I.base.there b o e hx
  exact free b o' (neC b o e hx) e1 (I.base.free b o e n hx)
 ·obtain ⟨o', e1⟩ := I.base.there b o e hx
  exact there b o' (neC b o e hx) e1
 ·obtain ⟨m1, e1⟩ := I.base.tbls b ps e
  obtain ⟨m2, e2⟩ := tbls b _ e1
  exact ⟨m1 ++ m2, by rw [e2, Array.append_assoc]⟩
 ·obtain ⟨m, hn, hl⟩ := I.loc
  refine ⟨m, ns m hn, fun i x v e1 e2 e3 => ?_⟩
  obtain ⟨u, r, l⟩ := hl i x v e1 e2 e3
  refine ⟨u, r, ?_⟩
  rcases l with l | ⟨k, c, e, z⟩
  ·exact .inl l
  ·exact .inr ⟨k, c, e, cellK x c e _ z⟩
 ·obtain ⟨v, z⟩ := I.cell x c e
  exact ⟨v, cellK x c e v z⟩
 ·obtain ⟨m, ⟨o, _, _, ho, _⟩, _⟩ := I.loc
  exact free _ o (fun z => (hch _ z).2.1 rfl) ho I.free
 ·obtain ⟨v, o, ho, hd⟩ := I.cell x c e
  exact free c o (fun z => (hch c z).2.2.1 x c e rfl) ho (I.freeC x c e)
 ·obtain ⟨e, n, ne, nf, d⟩ := I.pin p hp
  have nch : p.1 ∉ ch := fun z => (hch p.1 z).2.2.2 p hp rfl
  exact ⟨keep p.1 p.2 ne nf nch e n, free p.1 p.2 nch e n, ne, nf, d⟩
theorem aH.un {t' : Nat} (I : aH X pins U H s) (u : Un X.fs [] H H' s.heap h') (hok : cP X.prog X.w H' h') : aH X pins U H' { s with heap := h', toks := t' } := by
 obtain ⟨m, ⟨o, es, ep, ho, r⟩, _⟩ := id I.loc
 obtain ⟨sl, hL⟩ := u.any ho I.free (by simp)
 exact I.step (g' := s.gens) (d' := s.drawn) (ch := []) (fun _ z => nomatch z) (fun b o _ hb _ e n => u.keep b o e n hb (by simp)) (fun b o _ hb _ e n => u.slot b o e n hb (by simp)) (fun b o _ e n => u.free b o e n (by simp)) (fun b o _ e => u.there b o e (by simp)) u.tups u.frzs u.tbls (fun m' hm => by
  obtain ⟨o', es', ep', ho', r'⟩ := hm
  rw [ho] at ho'; cases ho'
  exact ⟨_, es', ep', hL, r'⟩) hok I.bare
theorem aH.call {g' : Array GenState} {t' : Nat} {d' : Drawn} {ch : List Addr} (I : aH X pins U H s) (u : Un (cK X.stack) ch H H' s.heap h') (hok : cP X.prog X.w H' h') (hg : AllBare g')
  (hch : ∀ b ∈ ch, (b ∈ X.ex \/ X.s₀.heap.objs.size <= b) /\ b ≠ X.env.locals /\ (∀ x c, X.env.cells.lookup x = some c -> c ≠ b) /\ ∀ p ∈ X.pn ++ pins, p.1 ≠ b) :
  aH X pins U H' { s with heap := h', gens := g', drawn := d', toks := t' } := by
 obtain ⟨m, ⟨o, es, ep, ho, r⟩, _⟩ := id I.loc
 obtain ⟨sl, hL⟩ := u.any ho I.free fun z => (hch _ z).2.1 rfl
 exact I.step (ch := ch) hch (fun b o hL hb hc e n => u.keep b o e n (fun z => (xag.mp (I.stkSub b z)).elim hL hb) hc) (fun b o _ _ hc e n => u.any e n hc) (fun b o hc e n => u.free b o e n hc) (fun b o hc e => u.there b o e hc) u.tups u.frzs u.tbls (fun m' hm => by
  obtain ⟨o', es', ep', ho', r'⟩ := hm
  rw [ho] at ho'; cases ho'
  exact ⟨_, es', ep', hL, r'⟩) hok hg
theorem aH.turned {t' : Nat} {it : Addr} (I : aH X pins U H s) (k : ∀ b o, b ≠ it -> s.heap.get? b = some o -> h'.get? b = some o) (hn : H it = none) (hL : it ≠ X.env.locals)
  (h1 : it ∈ X.ex \/ X.s₀.heap.objs.size <= it) (h2 : ∀ x c, X.env.cells.lookup x = some c -> c ≠ it) (h3 : ∀ p ∈ X.pn ++ pins, p.1 ≠ it) : aH X pins U H { s with heap := h', toks := t' } := by
 have nit : ∀ b u, H b = some u -> b ≠ it := fun b u e z => by rw [z, hn] at e; cases e
 refine I.step (g' := s.gens) (d' := s.drawn) (ch := [it]) (fun b hb => ?_) (fun b o _ _ hc e _ => k b o (fun z => hc (by simp [z])) e) (fun b o _ _ hc e _ => ⟨o.slots, k b o (fun z => hc (by simp [z])) e⟩) (fun _ _ _ _ n => n)
  (fun b o hc e => ⟨o, k b o (fun z => hc (by simp [z])) e⟩) (fun _ _ e => e) (fun _ _ _ e => e) (fun b ps e => ⟨#[], by rw [e]; simp⟩) (fun m hm => ?_) (fun b u e => ?_) I.bare
 ·have e : b = it := by simpa using hb
  subst e
  exact ⟨h1, hL, h2, h3⟩
 ·obtain ⟨o, es, ep, ho, r⟩ := hm
  exact ⟨o, es, ep, k _ o (xbd hL) ho, r⟩
 ·refine (I.hok b u e).stay (fun c v hc q => k c v ?_ q) (fun _ q => q) fun _ _ q => q
  rcases hc with z | z
  ·rw [z]; exact nit b u e
  ·exact nit c _ z
theorem aH.tok (I : aH X pins U H s) (t : Nat) : aH X pins U H { s with toks := t } := I.un (h' := s.heap) (t' := t) Un.refl I.hok
theorem aH.kept {t' : Nat} (I : aH X pins U H s) (k : ∀ b u, s.heap.get? b = some u -> h'.get? b = some u) : aH X pins U H { s with heap := h', toks := t' } := I.un (Un.kept k) (I.hok.kept k)
theorem aH.laid {a : Addr} {o : HO} {t' : Nat} (I : aH X pins U H s) (k : ∀ b u, s.heap.get? b = some u -> h'.get? b = some u) (hp : s.heap.objs.size <= a) (new : dI X.prog X.w (aO H a o) h' a o) :
  aH X pins U (aO H a o) { s with heap := h', toks := t' } := I.un (Un.laid k hp (I.hok.fresh hp)) (I.hok.laid k hp new)
theorem aH.write {x e : Addr} {o : HO} {t' : Nat} (I : aH X pins U H s) (mu : qJ (H x)) (he : e = x \/ H e = some (.own x)) (k : ∀ b u, b ≠ e -> s.heap.get? b = some u -> h'.get? b = some u) (heo : ∃ u, h'.get? e = some u)
  (new : dI X.prog X.w (aO H x o) h' x o) : aH X pins U (aO H x o) { s with heap := h', toks := t' } := I.un (Un.write mu he k heo) (I.hok.write mu he k heo new)
theorem aH.weak {U' : List (Option V)} (I : aH X pins U H s) (hl : U'.length = U.length) (w : ∀ (i : Nat) v, U'[i]? = some (some v) -> U[i]? = some (some v)) : aH X pins U' H s :=
 ⟨I.ok, I.os, I.bare, I.base, let ⟨m, hn, hl'⟩ := I.loc; ⟨m, hn, fun i x v e1 e2 e3 => hl' i x v e1 (w i v e2) e3⟩, I.cell, I.free, I.freeC, I.pin, I.hok, hl.trans I.len⟩
theorem aH.pins_of {pins' : List (Addr × Obj)} (I : aH X pins U H s) (h : ∀ p ∈ pins', s.heap.get? p.1 = some p.2 /\ H p.1 = none /\ p.1 ≠ X.env.locals /\ p.1 ∉ X.fs /\ ∀ v, p.2.data ≠ .cell v) : aH X pins' U H s :=
 ⟨I.ok, I.os, I.bare, I.base, I.loc, I.cell, I.free, I.freeC, fun p hp => (xay.mp hp).elim (fun z => I.pin p (xcc _ z)) (h p), I.hok, I.len⟩
theorem yX {N : List Str} (hN : N.Nodup) {i j : Nat} {x : Str} (a : N[i]? = some x) (b : N[j]? = some x) : i = j := by
 obtain ⟨h1, e1⟩ := xam.mp a
 obtain ⟨h2, e2⟩ := xam.mp b
 exact (List.getElem_inj hN).mp (e1.trans e2.symm)
theorem MV {M : Model} {A : Around} {E : Value -> Shared -> Prop} {i : Nat} {x : Str} {v : V} {u : Value} {Q : Unit -> Shared -> Prop} (I : aH X pins U H s) (hN : X.N.Nodup) (hi : X.N[i]? = some x) (hx : gC X.env.scope x) (r : aR v u)
  (h : ∀ s', aH X pins (U.set i (some v)) H s' -> (∃ a, Heap.SameBut a s.heap s'.heap /\ (a = X.env.locals \/ X.env.cells.lookup x = some a)) -> Q () s') (hf : X.fn x = true \/ X.env.scope.names.lookup x = some .local := by first | exact .inl rfl | exact .inr rfl | assumption) : wpAny M A (storeName X.env x u) Q E s := by
 obtain ⟨m, hn, hl⟩ := id I.loc
 have hcls : (X.env.scope.kind == .class || (X.env.scope.kind == .module && X.env.locals != X.env.globals)) = false := by rw [I.ok.kind]; rfl
 have hiU : i < U.length := by rw [I.len]; exact (xam.mp hi).1
 have cne := I.cne
 have tracked : ∀ {a : Addr} {h' : Heap}, (∃ o, s.heap.get? a = some o /\ H a = none) -> Heap.SameBut a s.heap h' -> cP X.prog X.w H h' := fun {a h'} ha hs b ob e => by
  obtain ⟨_, _, hfree⟩ := ha
  refine (I.hok b ob e).stay (fun c w' hc q => (hs.2 c ?_).trans q) (fun _ q => q) fun _ _ q => q
  rintro rfl
  rcases hc with rfl | hc
  ·rw [hfree] at e; cases e
  ·rw [hfree] at hc; cases hc
 rcases hx with hk | hk
 ·refine wpAny_storeName_local hk hn (fun h' hn' hs => ?_) hcls
  obtain ⟨oL, _, _, hoL, _⟩ := id hn
  refine h _ ⟨I.ok, I.os, I.bare, ⟨fun b o e n hb hx => ?_, fun b o e n hb hx => ?_, I.base.free, fun b o e hx => ?_, I.base.tups, I.base.frzs, I.base.tbls⟩, ⟨_, hn', fun j y v' e1 e2 e3 => ?_⟩, fun y c e => ?_, I.free, I.freeC, fun p hp => ?_, tracked ⟨oL, hoL, I.free⟩ hs, by simpa using I.len⟩ ⟨_, hs, .inl rfl⟩
  ·exact (hs.2 b (xa6 (xar (xan e) I.ok.above))).trans (I.base.keep b o e n hb hx)
  ·obtain ⟨sl, e1⟩ := I.base.slot b o e n hb hx
   exact ⟨sl, (hs.2 b (xa6 (xar (xan e) I.ok.above))).trans e1⟩
  ·obtain ⟨o', e1⟩ := I.base.there b o e hx
   exact ⟨o', (hs.2 b (xa6 (xar (xan e) I.ok.above))).trans e1⟩
  ·by_cases hj : j = i
   ·subst hj
    rw [hi] at e1; cases e1
    rw [xa0 hiU] at e2
    cases e2
    exact ⟨u, r, .inl ⟨hk, by simp⟩⟩
   ·rw [xao (xbd hj)] at e2
    obtain ⟨u', r', q⟩ := hl j y v' e1 e2 e3
    refine ⟨u', r', ?_⟩
    rcases q with ⟨k, e⟩ | ⟨k, c, e, z⟩
    ·refine .inl ⟨k, ?_⟩
     have : y ≠ x := fun e => hj (yX hN e1 (e ▸ hi))
     simp [this, e]
    ·exact .inr ⟨k, c, e, z.sameBut hs (cne y c e)⟩
  ·obtain ⟨w', z⟩ := I.cell y c e
   exact ⟨w', z.sameBut hs (cne y c e)⟩
  ·obtain ⟨e, n, ne, nf, d⟩ := I.pin p hp
   exact ⟨(hs.2 p.1 ne).trans e, n, ne, nf, d⟩
 ·have hfn : X.fn x = true := by
   rcases hf with z | z
   ·exact z
   ·rw [z] at hk; cases hk
  obtain ⟨c, hc⟩ := I.ok.has x (.inl hk)
  obtain ⟨w', z⟩ := I.cell x c hc
  refine wpAny_storeName_cell I.ok.kind hk hc z (fun h' hc' hs => ?_)
  obtain ⟨oc, hoc, hocd⟩ := id z
  refine h { s with heap := h' } ⟨I.ok, I.os, I.bare, ⟨fun b o e n hb hx => ?_, fun b o e n hb hx => ?_, I.base.free, fun b o e hx => ?_, I.base.tups, I.base.frzs, I.base.tbls⟩, ⟨m, hn.sameBut hs (xbd (cne x c hc)), fun j y v' e1 e2 e3 => ?_⟩, fun y c' e => ?_, I.free, I.freeC, fun p hp => ?_, tracked ⟨oc, hoc, I.freeC x c hc⟩ hs, by simpa using I.len⟩ ⟨c, hs, .inr hc⟩
  ·exact (hs.2 b (xa6 (xar (xan e) (I.ok.cab x c hfn hc)))).trans (I.base.keep b o e n hb hx)
  ·obtain ⟨sl, e1⟩ := I.base.slot b o e n hb hx
   exact ⟨sl, (hs.2 b (xa6 (xar (xan e) (I.ok.cab x c hfn hc)))).trans e1⟩
  ·obtain ⟨o', e1⟩ := I.base.there b o e hx
   exact ⟨o', (hs.2 b (xa6 (xar (xan e) (I.ok.cab x c hfn hc)))).trans e1⟩
  ·by_cases hj : j = i
   ·subst hj
    rw [hi] at e1; cases e1
    rw [xa0 hiU] at e2
    cases e2
    exact ⟨u, r, .inr ⟨.inl hk, c, hc, hc'⟩⟩
   ·rw [xao (xbd hj)] at e2
    obtain ⟨u', r', q⟩ := hl j y v' e1 e2 e3
    refine ⟨u', r', ?_⟩
    rcases q with q | ⟨k, c', e, z'⟩
    ·exact .inl q
    ·refine .inr ⟨k, c', e, z'.sameBut hs ?_⟩
     rintro rfl
     exact hj (yX hN e1 (I.ok.inj _ _ _ e hc ▸ hi))
  ·by_cases hcc : c' = c
   ·subst hcc; exact ⟨_, hc'⟩
   ·obtain ⟨w2, z2⟩ := I.cell y c' e
    exact ⟨w2, z2.sameBut hs hcc⟩
  ·obtain ⟨e, n, ne, nf, d⟩ := I.pin p hp
   refine ⟨(hs.2 p.1 ?_).trans e, n, ne, nf, d⟩
   intro q
   rw [q, hoc] at e
   have q' : oc = p.2 := xbk e
   exact d w' (by rw [<- q']; exact hocd)
theorem uK {M : Model} {A : Around} {E : Value -> Shared -> Prop} {i : Nat} {x : Str} {v : V} {u : Value} {Q : Unit -> Shared -> Prop} (I : aH X pins U H s) (hN : X.N.Nodup) (hi : X.N[i]? = some x) (hx : gC X.env.scope x) (r : aR v u)
  (h : ∀ s', aH X pins (U.set i (some v)) H s' -> Q () s') (hf : X.fn x = true \/ X.env.scope.names.lookup x = some .local := by first | exact .inl rfl | exact .inr rfl | assumption) : wpAny M A (storeName X.env x u) Q E s :=
 MV I hN hi hx r (fun s' I' _ => h s' I') hf
theorem aH.call' {s' : Shared} {ch : List Addr} (I : aH X pins U H s) (ho : s'.os = s.os) (u : Un (cK X.stack) ch H H' s.heap s'.heap) (hok : cP X.prog X.w H' s'.heap) (hg : AllBare s'.gens)
  (hch : ∀ b ∈ ch, (b ∈ X.ex \/ X.s₀.heap.objs.size <= b) /\ b ≠ X.env.locals /\ (∀ x c, X.env.cells.lookup x = some c -> c ≠ b) /\ ∀ p ∈ X.pn ++ pins, p.1 ≠ b) : aH X pins U H' s' := by
 obtain ⟨h', g', d', t', o'⟩ := s'
 have e : o' = s.os := ho
 subst e
 exact I.call (g' := g') (t' := t') (d' := d') u hok hg hch
end
abbrev XK := Value -> Option Addr -> Hp -> Prop
abbrev St := List (Option V)
abbrev VK := V -> Hp -> Prop
abbrev TE := St -> Hp -> VK -> Prop
abbrev TT := St -> Hp -> (Bool -> Hp -> Prop) -> Prop
abbrev TA := St -> Hp -> (List V -> Hp -> Prop) -> Prop
structure iK where
 nx : St -> Hp -> Prop
 rt : VK
 bk : St -> Hp -> Prop := fun _ _ => False
 ct : St -> Hp -> Prop := fun _ _ => False
abbrev TS := iK -> St -> Hp -> Prop
def EP (X : Cx) (pins : List (Addr × Obj)) (U : St) (Q : VK) (u : Value) (s' : Shared) : Prop := ∃ v H', aH X pins U H' s' /\ aR v u /\ Q v H'
def TP (X : Cx) (pins : List (Addr × Obj)) (U : St) (Q : Bool -> Hp -> Prop) (b : Bool) (s' : Shared) : Prop := ∃ H', aH X pins U H' s' /\ Q b H'
def AP (X : Cx) (pins : List (Addr × Obj)) (U : St) (Q : List V -> Hp -> Prop) (us : List Value) (s' : Shared) : Prop := ∃ vs H', aH X pins U H' s' /\ a6 vs us /\ Q vs H'
def SP (X : Cx) (pins : List (Addr × Obj)) (D : iK) (f : Flow) (s' : Shared) : Prop :=
 match f with
 | .next => ∃ U' H', aH X pins U' H' s' /\ D.nx U' H'
 | .brk => ∃ U' H', aH X pins U' H' s' /\ D.bk U' H'
 | .cont => ∃ U' H', aH X pins U' H' s' /\ D.ct U' H'
 | .ret u => ∃ v U' H', aH X pins U' H' s' /\ aR v u /\ D.rt v H'
def PE (X : Cx) (e : Expr) (t : TE) : Prop :=
 ∀ (pins : List (Addr × Obj)) (s : Shared) (U : St) (H : Hp) (Q : VK), aH X pins U H s -> t U H Q -> wpAny (model X.prog X.w) X.A (eval e X.env) (EP X pins U Q) X.xe s
def PT (X : Cx) (e : Expr) (t : TT) : Prop :=
 ∀ (pins : List (Addr × Obj)) (s : Shared) (U : St) (H : Hp) (Q : Bool -> Hp -> Prop), aH X pins U H s -> t U H Q -> wpAny (model X.prog X.w) X.A (isTrue e X.env (eval e X.env)) (TP X pins U Q) X.xe s
def PW (X : Cx) (e : Expr) (t : TT) : Prop :=
 ∀ (whole : Sem Value) (pins : List (Addr × Obj)) (s : Shared) (U : St) (H : Hp) (Q : Bool -> Hp -> Prop), aH X pins U H s -> t U H Q -> wpAny (model X.prog X.w) X.A (isTrue e X.env whole) (TP X pins U Q) X.xe s
def PA (X : Cx) (es : List Expr) (t : TA) : Prop :=
 ∀ (pos : Pos) (pins : List (Addr × Obj)) (s : Shared) (U : St) (H : Hp) (Q : List V -> Hp -> Prop), aH X pins U H s -> t U H Q -> wpAny (model X.prog X.w) X.A (spliced (backTo pos (starEach es X.env))) (AP X pins U Q) X.xe s
def PS (X : Cx) (st : Stmt) (t : TS) : Prop :=
 ∀ (pins : List (Addr × Obj)) (s : Shared) (U : St) (H : Hp) (D : iK), aH X pins U H s -> t D U H -> wpAny (model X.prog X.w) X.A (exec st X.env) (SP X pins D) X.xe s
def cU (X : Cx) (st : List Stmt) (t : TS) : Prop :=
 ∀ (pins : List (Addr × Obj)) (s : Shared) (U : St) (H : Hp) (D : iK), aH X pins U H s -> t D U H -> wpAny (model X.prog X.w) X.A (execs st X.env) (SP X pins D) X.xe s
theorem aP {α : Type} {t : Sem α} {Q Q' : α -> Shared -> Prop} {M : Model} {A : Around} {E : Value -> Shared -> Prop} {s : Shared} (h : wpAny M A t Q E s) (hQ : ∀ a s, Q a s -> Q' a s) : wpAny M A t Q' E s := wpAny_mono h hQ fun _ _ x => x
end L2
namespace L2
open PySem.Spec PyProof.Rows
section
variable {X : Cx}
theorem bin {a b : Expr} {ta tb : TE} (ha : PE X a ta) (hb : PE X b tb) {pins : List (Addr × Obj)} {s : Shared} {U : St} {H : Hp} {R : V -> V -> Hp -> Prop} (I : aH X pins U H s) (h : ta U H fun x H1 => tb U H1 fun y H2 => R x y H2)
  {α : Type} {Q : α -> Shared -> Prop} {f : Value -> Value -> Sem α}
  (hf : ∀ v u s2 x y H2, aH X pins U H2 s2 -> aR x v -> aR y u -> R x y H2 -> wpAny (model X.prog X.w) X.A (f v u) Q X.xe s2) :
  wpAny (model X.prog X.w) X.A (eval a X.env) (fun v s₁ => wpAny (model X.prog X.w) X.A (eval b X.env) (fun u s₂ => wpAny (model X.prog X.w) X.A (f v u) Q X.xe s₂) X.xe s₁) X.xe s := by
 refine aP (ha pins s U H _ I h) fun v s1 ⟨x, H1, I1, r1, q1⟩ => ?_
 refine aP (hb pins s1 U H1 _ I1 q1) fun u s2 ⟨y, H2, I2, r2, q2⟩ => ?_
 exact hf v u s2 x y H2 I2 r1 r2 q2
def yY (i : Nat) : TE := fun U H Q => ∃ v, U[i]? = some (some v) /\ Q v H
def tC (v : V) : TE := fun _ H Q => Q v H
theorem MX {i : Nat} {x : Str} {pos : Pos} (hN : X.N[i]? = some x) (hv : gA X.env.scope x) (hd : (x == ("__debug__" : Str)) = false := by decide) (hcd : (x == ("__classdict__" : Str)) = false := by decide) : PE X (.Name x pos) (yY i) := by
 intro pins s U H Q I h
 obtain ⟨v, e, h⟩ := h
 obtain ⟨m, hn, hl⟩ := I.loc
 obtain ⟨u, r, l⟩ := hl i x v hN e hv
 have fin : EP X pins U Q u s := ⟨v, H, I, r, h⟩
 rcases l with ⟨hk, hm⟩ | ⟨hk, c, hc, hcell⟩
 ·exact wpAny_Name (wpAny_loadName_local I.ok.kind hk hn hm fin) hd
 ·rcases hk with hk | hk
  ·exact wpAny_Name (wpAny_loadName_cell I.ok.kind hk hc hcell fin) hd
  ·exact wpAny_Name (wpAny_loadName_free I.ok.kind hk hc hcell fin hcd) hd
theorem uL {i j pos} : PE X (.Constant (.int i) j pos) (tC (.int i)) := fun _ _ _ H _ I h => wpAny_Constant_int ⟨.int i, H, I.tok _, ⟨_, rfl⟩, h⟩
theorem MY {b j pos} : PE X (.Constant (.bool b) j pos) (tC (.bl b)) := fun _ _ _ H _ I h => Constant_bool ⟨.bl b, H, I, rfl, h⟩
theorem MZ {x j pos} : PE X (.Constant (.str x) j pos) (tC (.str x)) := fun _ _ _ H _ I h => Calls.Constant_str ⟨.str x, H, I.tok _, ⟨_, rfl⟩, h⟩
def Gl (X : Cx) (x : Str) : Prop := X.env.kindOf x = some .globalImplicit
theorem qK {E : Value -> Shared -> Prop} {pins : List (Addr × Obj)} {s : Shared} {U : St} {H : Hp} {x : Str} {u : Value} {pos : Pos} {Q : Value -> Shared -> Prop} (I : aH X pins U H s) (hg : Gl X x) (hm : X.mg x = some u) (h : Q u s)
  (hd : (x == ("__debug__" : Str)) = false := by decide) : wpAny (model X.prog X.w) X.A (eval (.Name x pos) X.env) Q E s :=
 Calls.Name_function_global I.ok.kind hg (Calls.loadGlobal_global (by rw [I.ok.glob]; exact I.mod.glob.keeps I.bk) hm h) hd
theorem oO {E : Value -> Shared -> Prop} {pins : List (Addr × Obj)} {s : Shared} {U : St} {H : Hp} {x : Str} {u : Value} {pos : Pos} {Q : Value -> Shared -> Prop} (I : aH X pins U H s) (hg : Gl X x) (hm : X.mg x = none) (hv : bootBuiltins x = some u) (h : Q u s)
  (hn : x ≠ "__name__" := by decide) (hd : (x == ("__debug__" : Str)) = false := by decide) : wpAny (model X.prog X.w) X.A (eval (.Name x pos) X.env) Q E s := by
 obtain ⟨mb, h1, h2⟩ := I.mod.blt
 exact Calls.Name_function_global I.ok.kind hg (Calls.loadGlobal_builtin (by rw [I.ok.glob]; exact I.mod.glob.keeps I.bk) hm (by rw [I.ok.blt]; exact h1.keeps I.bk) ((h2 x hn).trans hv) h) hd
theorem M0 {x : Str} {v : V} {u : Value} {pos : Pos} (hg : Gl X x) (hm : X.mg x = some u) (r : aR v u) (hd : (x == ("__debug__" : Str)) = false := by decide) : PE X (.Name x pos) (tC v) :=
 fun _ _ _ H _ I h => qK I hg hm ⟨v, H, I, r, h⟩ hd
theorem M1 {x : Str} {v : V} {u : Value} {pos : Pos} (hg : Gl X x) (hm : X.mg x = none) (hv : bootBuiltins x = some u) (r : aR v u) (hn : x ≠ "__name__" := by decide) (hd : (x == ("__debug__" : Str)) = false := by decide) : PE X (.Name x pos) (tC v) :=
 fun _ _ _ H _ I h => oO I hg hm hv ⟨v, H, I, r, h⟩ hn hd
def t2I (ta tb : TE) (k : Int -> Int -> Hp -> Prop) : St -> Hp -> Prop := fun U H => ta U H fun x H1 => tb U H1 fun y H2 => ∃ i j, x = .int i /\ y = .int j /\ k i j H2
variable {a b : Expr} {ta tb : TE} {pos : Pos}
def PC (X : Cx) (op : CmpOp) (a b : Expr) (t : TE) : Prop :=
 ∀ (pins : List (Addr × Obj)) (s : Shared) (U : St) (H : Hp) (Q : VK), aH X pins U H s -> t U H Q ->
  wpAny (model X.prog X.w) X.A (eval a X.env) (fun v s₁ => wpAny (model X.prog X.w) X.A (eval b X.env) (fun u s₂ => wpAny (model X.prog X.w) X.A (compareOp op v u) (EP X pins U Q) X.xe s₂) X.xe s₁) X.xe s
theorem cV (b : Expr) {op : CmpOp} (h : op ≠ .In) (h2 : op ≠ .NotIn) : behindInMarks op b = false := by
 have e1 : (op == CmpOp.In) = false := by cases op <;> first | rfl | exact xaq rfl h
 have e2 : (op == CmpOp.NotIn) = false := by cases op <;> first | rfl | exact xaq rfl h2
 cases b <;> simp [behindInMarks, e1, e2]
def yZ (p : Int -> Int -> Bool) (ta tb : TE) : TE := fun U H Q => t2I ta tb (fun i j H2 => Q (.bl (p i j)) H2) U H
abbrev tLt : TE -> TE -> TE := yZ fun i j => decide (i < j)
theorem M4 {op : CmpOp} {p : Int -> Int -> Bool} (ha : PE X a ta) (hb : PE X b tb)
  (rule : ∀ (i j : Int) (t u : Tok) (Q : Value -> Shared -> Prop) (s : Shared), Q (.bool (p i j)) s -> wpAny (model X.prog X.w) X.A (compareOp op (.int i t) (.int j u)) Q X.xe s) : PC X op a b (yZ p ta tb) := by
 intro pins s U H Q I h
 refine bin ha hb I h fun v u s2 x y H2 I2 rx ry q => ?_
 obtain ⟨i, j, rfl, rfl, q⟩ := q
 obtain ⟨t, rfl⟩ := rx
 obtain ⟨t', rfl⟩ := ry
 exact rule i j t t' _ s2 ⟨.bl _, H2, I2, rfl, q⟩
theorem M5 (ha : PE X a ta) (hb : PE X b tb) : PC X .Lt a b (tLt ta tb) := M4 ha hb fun _ _ _ _ _ _ h => lt_int h
def tB (t : TE) : TT := fun U H Q => t U H fun x H1 => ∃ c, x = .bl c /\ Q c H1
theorem M6 {op : CmpOp} {t : TE} (h : PC X op a b t) (h1 : behindInMarks op b = false := by first | exact cV _ (by decide) (by decide) | rfl) : PT X (.Compare a [op] [b] pos) (tB t) := by
 intro pins s U H Q I hw
 refine wpAny_isTrue_Compare1 (aP (h pins s U H _ I hw) fun v s1 h1 => aP h1 fun u s2 h2 => aP h2 fun c s3 ⟨x, H1, I1, r1, q1⟩ => ?_) h1
 obtain ⟨d, rfl, q⟩ := q1
 cases r1
 exact wpAny_truthy_bool ⟨H1, I1, q⟩
theorem M7 {e : Expr} {t : TE} (h : PE X e t) (he : ∀ whole, isTrue e X.env whole = (do let v <- whole; standAt e.pos; holding [v] (truthy v)) := by intro _; rfl) : PT X e (tB t) := by
 intro pins s U H Q I hw
 refine isTrue_plain (aP (h pins s U H _ I hw) fun v s1 ⟨x, H1, I1, r1, q1⟩ => ?_) (he _)
 obtain ⟨d, rfl, q⟩ := q1
 cases r1
 exact wpAny_truthy_bool ⟨H1, I1, q⟩
variable {tA tB' : TT} {rest : List Expr}
def M8 (t u : TT) : TT := fun U H Q => t U H fun c H1 => if c = true then u U H1 Q else Q false H1
def tOr (t u : TT) : TT := fun U H Q => t U H fun c H1 => if c = true then Q true H1 else u U H1 Q
def NA (t : TT) : TT := fun U H Q => t U H fun c H1 => Q (!c) H1
theorem NB (ha : PT X a tA) : PW X (.BoolOp .And [a] pos) tA := by
 intro wh pins s U H Q I h
 refine isTrue_and (aP (ha pins s U H Q I h) fun c s1 e => ?_)
 cases c with
 | true => exact isTrue_and_nil e
 | false => exact e
theorem NC (ha : PT X a tA) : PW X (.BoolOp .Or [a] pos) tA := by
 intro wh pins s U H Q I h
 refine isTrue_or (aP (ha pins s U H Q I h) fun c s1 e => ?_)
 cases c with
 | false => exact isTrue_or_nil e
 | true => exact e
theorem ND (ha : PT X a tA) (hb : PW X (.BoolOp .And (b :: rest) pos) tB') : PW X (.BoolOp .And (a :: b :: rest) pos) (M8 tA tB') := by
 intro wh pins s U H Q I h
 refine isTrue_and (aP (ha pins s U H _ I h) fun c s1 ⟨H1, I1, q1⟩ => ?_)
 cases c with
 | true => exact hb wh pins s1 U H1 Q I1 q1
 | false => exact ⟨H1, I1, q1⟩
theorem NF (ha : PT X a tA) (hb : PW X (.BoolOp .Or (b :: rest) pos) tB') : PW X (.BoolOp .Or (a :: b :: rest) pos) (tOr tA tB') := by
 intro wh pins s U H Q I h
 refine isTrue_or (aP (ha pins s U H _ I h) fun c s1 ⟨H1, I1, q1⟩ => ?_)
 cases c with
 | true => exact ⟨H1, I1, q1⟩
 | false => exact hb wh pins s1 U H1 Q I1 q1
theorem NG (ha : PT X a tA) : PT X (.UnaryOp .Not a pos) (NA tA) := by
 intro pins s U H Q I h
 exact isTrue_not (ha pins s U H (fun c H1 => Q (!c) H1) I h)
def NH (ta tb : TE) : TE := fun U H Q => ta U H fun x H1 => ∃ c, x = .bl c /\ if c = true then tb U H1 Q else Q (.bl false) H1
def NI (ta : TE) : TE := fun U H Q => ta U H fun x H1 => ∃ c, x = .bl c /\ Q (.bl (!c)) H1
theorem NJ {op} {t : TE} (h : PE X a t) : PE X (.BoolOp op [a] pos) t := fun pins s U H Q I hw => BoolOp_one (h pins s U H Q I hw)
theorem NK (ha : PE X a ta) (hb : PE X (.BoolOp .And (b :: rest) pos) tb) : PE X (.BoolOp .And (a :: b :: rest) pos) (NH ta tb) := by
 intro pins s U H Q I h
 refine BoolOp_and (aP (ha pins s U H _ I h) fun v s1 ⟨x, H1, I1, r1, q1⟩ => ?_)
 obtain ⟨c, rfl, q1⟩ := q1
 cases r1
 refine wpAny_truthy_bool ?_
 cases c with
 | true => exact hb pins s1 U H1 Q I1 q1
 | false => exact ⟨.bl false, H1, I1, rfl, q1⟩
theorem NL (ha : PE X a ta) : PE X (.UnaryOp .Not a pos) (NI ta) := by
 intro pins s U H Q I h
 refine UnaryOp_ (aP (ha pins s U H _ I h) fun v s1 ⟨x, H1, I1, r1, q1⟩ => ?_)
 obtain ⟨c, rfl, q1⟩ := q1
 cases r1
 exact not_of (wpAny_truthy_bool ⟨.bl (!c), H1, I1, rfl, q1⟩)
def tIf (t : TT) (ta tb : TE) : TE := fun U H Q => t U H fun c H1 => if c = true then ta U H1 Q else tb U H1 Q
theorem NN {c : Expr} (hc : PT X c tA) (ha : PE X a ta) (hb : PE X b tb) : PE X (.IfExp c a b pos) (tIf tA ta tb) := by
 intro pins s U H Q I h
 refine wpAny_IfExp (aP (hc pins s U H _ I h) fun d s1 ⟨H1, I1, q1⟩ => ?_)
 cases d with
 | true => exact ha pins s1 U H1 Q I1 q1
 | false => exact hb pins s1 U H1 Q I1 q1
end
end L2
namespace L2
open PySem.Spec PyProof.Rows
def bH (K : xFg) (H : Hp) (a : Addr) (xs : List V) : Prop :=
 Rd H a (.lst xs) \/
  ∃ (o : Obj) (its : Array Value) (n : Nat), K.lookup a = some o /\ o.cls = .type "list" /\ o.dict = none /\ o.data = .seq its n /\ its.size <= sizeLine /\ a6 xs its.toList
def bJ (K : xFg) (H : Hp) (a : Addr) (xs : List V) : Prop :=
 Rd H a (.tup xs) \/
  ∃ (o : Obj) (its : Array Value) (n : Nat), K.lookup a = some o /\ o.cls = .type "tuple" /\ o.data = .seq its n /\ its.size <= sizeLine /\ a6 xs its.toList /\ o.dict = none
def NO : Value -> Option V
 | .none => some .non
 | .bool b => some (.bl b)
 | .int i _ => some (.int i)
 | .str x _ => some (.str x)
 | .bytes b _ => some (.byt b)
 | .float b _ => some (.flt b)
 | .ref a => some (.ref a)
 | .type n => some (.ty n)
 | _ => none
theorem aR.abs {x : V} {u : Value} (r : aR x u) : NO u = some x := by
 cases x with
 | non => cases r; rfl
 | bl _ => cases r; rfl
 | int _ => obtain ⟨t, rfl⟩ := r; rfl
 | str _ => obtain ⟨t, rfl⟩ := r; rfl
 | byt _ => obtain ⟨t, rfl⟩ := r; rfl
 | flt _ => obtain ⟨t, rfl⟩ := r; rfl
 | ref _ => cases r; rfl
 | ty _ => cases r; rfl
theorem aR.inj {x y : V} {u : Value} (r : aR x u) (q : aR y u) : x = y := xbk (r.abs.symm.trans q.abs)
theorem a6.inj : ∀ {xs ys : List V} {us : List Value}, a6 xs us -> a6 ys us -> xs = ys
 | _, _, _, .nil, .nil => rfl
 | _, _, _, .cons r t, .cons r' t' => by rw [r.inj r', a6.inj t t']
section
variable {X : Cx} {pins : List (Addr × Obj)} {U : St} {H : Hp} {s : Shared} {a : Addr} {xs ys : List V}
theorem bH.of {K : xFg} (h : H a = some (.lst xs)) : bH K H a xs := .inl (.inl h)
theorem bJ.of {K : xFg} (h : H a = some (.tup xs)) : bJ K H a xs := .inl (.inl h)
theorem aH.list (I : aH X pins U H s) (h : bH X.K H a xs) : ∃ its : List Value, a6 xs its /\ PlainL s.heap a its.toArray /\ xs.length <= sizeLine := by
 rcases h with h | ⟨o, its, n, hk, hc, hd, hs, hz, r⟩
 ·obtain ⟨z, its, n, r, e⟩ := h.ok I.hok
  exact ⟨its, r, ⟨_, n, e, rfl, rfl, rfl⟩, z⟩
 ·refine ⟨its.toList, r, ⟨o, n, I.kIn a o hk, hc, hd, by simpa using hs⟩, ?_⟩
  have e := r.length
  simp only [xb7] at e
  omega
theorem aH.tupN (I : aH X pins U H s) (h : bJ X.K H a xs) : ∃ its : List Value, a6 xs its /\ jF s.heap a its.toArray /\ xs.length <= sizeLine := by
 rcases h with h | ⟨o, its, n, hk, hc, hs, hz, r, hd⟩
 ·obtain ⟨z, its, r, p⟩ := h.ok I.hok
  exact ⟨its, r, p, z⟩
 ·refine ⟨its.toList, r, ⟨o, I.kIn a o hk, hc, ⟨n, by simpa using hs⟩, hd⟩, ?_⟩
  have e := r.length
  simp only [xb7] at e
  omega
theorem aH.tuple (I : aH X pins U H s) (h : bJ X.K H a xs) : ∃ its : List Value, a6 xs its /\ IsTup s.heap a its.toArray /\ xs.length <= sizeLine := by
 obtain ⟨its, r, p, z⟩ := I.tupN h
 exact ⟨its, r, p.tup, z⟩
theorem aH.list_inj (I : aH X pins U H s) (h : bH X.K H a xs) (h' : bH X.K H a ys) : xs = ys := by
 obtain ⟨its, r, ⟨o, n, e, _, _, d⟩, _⟩ := I.list h
 obtain ⟨its', r', ⟨o', n', e', _, _, d'⟩, _⟩ := I.list h'
 rw [e] at e'; cases e'
 rw [d] at d'
 injection d' with d1 _
 have : its = its' := by simpa using congrArg Array.toList d1
 subst this
 exact r.inj r'
theorem aH.tuple_inj (I : aH X pins U H s) (h : bJ X.K H a xs) (h' : bJ X.K H a ys) : xs = ys := by
 obtain ⟨its, r, ⟨o, e, _, n, d⟩, _⟩ := I.tuple h
 obtain ⟨its', r', ⟨o', e', _, n', d'⟩, _⟩ := I.tuple h'
 rw [e] at e'; cases e'
 rw [d] at d'
 injection d' with d1 _
 have : its = its' := by simpa using congrArg Array.toList d1
 subst this
 exact r.inj r'
end
section
variable {X : Cx} {st : Stmt} {rest : List Stmt} {t u : TS} {e : Expr} {te : TE} {pos : Pos}
def NP : TS := fun D U H => D.nx U H
def NQ (t u : TS) : TS := fun D U H => t { D with nx := u D } U H
theorem y0 : cU X [] NP := fun _ _ U H _ I h => wpAny_execs_nil ⟨U, H, I, h⟩
theorem kB (h1 : PS X st t) (h2 : cU X rest u) : cU X (st :: rest) (NQ t u) := by
 intro pins s U H D I h
 refine wpAny_execs_cons (aP (h1 pins s U H { D with nx := u D } I h) fun f s1 q => ?_)
 cases f with
 | next =>
  obtain ⟨U', H', I', q⟩ := q
  exact h2 pins s1 U' H' D I' q
 | ret v => exact q
 | brk => exact q
 | cont => exact q
theorem mO (h1 : PS X st t) : cU X [st] t := by
 intro pins s U H D I h
 refine wpAny_execs_cons (aP (h1 pins s U H D I h) fun f s1 q => ?_)
 cases f with
 | next => exact wpAny_execs_nil q
 | ret v => exact q
 | brk => exact q
 | cont => exact q
theorem aH.quiet {pins : List (Addr × Obj)} {U : St} {H : Hp} {s : Shared} (I : aH X pins U H s) : interactive X.env = false := by simp [interactive, I.ok.kind]
def NS (te : TE) : TS := fun D U H => te U H fun _ H1 => D.nx U H1
theorem qL (he : PE X e te) (hs : swapsWith e none pos.line X.env = pure false := by rfl) : PS X (.Expr e pos) (NS te) := by
 intro pins s U H D I h
 exact wpAny_Expr_any (aP (he pins s U H _ I h) fun v s1 ⟨x, H1, I1, r1, q1⟩ => ⟨U, H1, I1, q1⟩) I.quiet hs
def NT (te : TE) : TS := fun D U H => te U H D.rt
theorem qM (he : PE X e te) : PS X (.Return (some e) pos) (NT te) := by
 intro pins s U H D I h
 exact wpAny_Return_some (aP (he pins s U H _ I h) fun v s1 ⟨x, H1, I1, r1, q1⟩ => ⟨x, U, H1, I1, r1, q1⟩)
def NU (c : TT) (t u : TS) : TS := fun D U H => c U H fun b H1 => if b = true then t D U H1 else u D U H1
theorem y1 {c : Expr} {a b : List Stmt} {tc : TT} (hc : PT X c tc) (ha : cU X a t) (hb : cU X b u) : PS X (.If c a b pos) (NU tc t u) := by
 intro pins s U H D I h
 refine wpAny_If (aP (hc pins s U H _ I h) fun d s1 ⟨H1, I1, q1⟩ => ?_)
 cases d with
 | true => exact ha pins s1 U H1 D I1 q1
 | false => exact hb pins s1 U H1 D I1 q1
end
abbrev TG := V -> St -> Hp -> (St -> Hp -> Prop) -> Prop
abbrev iL := List V -> St -> Hp -> (St -> Hp -> Prop) -> Prop
def PG (X : Cx) (target : Expr) (t : TG) : Prop :=
 ∀ (pins : List (Addr × Obj)) (s : Shared) (U : St) (H : Hp) (v : V) (u : Value) (Q : St -> Hp -> Prop), aH X pins U H s -> aR v u -> t v U H Q ->
  wpAny (model X.prog X.w) X.A (assign target X.env u) (fun _ s' => ∃ U' H', aH X pins U' H' s' /\ Q U' H') X.xe s
def mP (X : Cx) (ts : List Expr) (t : iL) : Prop :=
 ∀ (pins : List (Addr × Obj)) (s : Shared) (U : St) (H : Hp) (vs : List V) (us : List Value) (Q : St -> Hp -> Prop), aH X pins U H s -> a6 vs us -> t vs U H Q ->
  wpAny (model X.prog X.w) X.A (assignInOrder ((assignEach ts X.env).map (·.2)) us) (fun _ s' => ∃ U' H', aH X pins U' H' s' /\ Q U' H') X.xe s
abbrev TSet := V -> V -> V -> Hp -> (Hp -> Prop) -> Prop
section
variable {X : Cx} {pos : Pos}
def kC (i : Nat) : TG := fun v U H Q => Q (U.set i (some v)) H
theorem y6 {i : Nat} {x : Str} (hN : X.N.Nodup) (hi : X.N[i]? = some x) (hx : gC X.env.scope x) (hf : X.fn x = true \/ X.env.scope.names.lookup x = some .local := by first | exact .inl rfl | exact .inr rfl | assumption) : PG X (.Name x pos) (kC i) := by
 intro pins s U H v u Q I r h
 exact wpAny_assign_Name (uK I hN hi hx r (fun s' I' => ⟨_, H, I', h⟩) hf)
def zA : iL := fun vs U H Q => vs = [] /\ Q U H
def zB (t : TG) (u : iL) : iL := fun vs U H Q => ∃ v r, vs = v :: r /\ t v U H fun U' H' => u r U' H' Q
theorem NV : mP X [] zA := by
 intro pins s U H vs us Q I r h
 obtain ⟨e, h⟩ := h
 subst e
 cases r
 exact assignInOrder_nil ⟨U, H, I, h⟩
theorem NW {e : Expr} {es : List Expr} {t : TG} {u : iL} (h1 : PG X e t) (h2 : mP X es u)
  (hs : (assignEach (e :: es) X.env).map (·.2) = assign e X.env :: (assignEach es X.env).map (·.2) := by rfl) : mP X (e :: es) (zB t u) := by
 intro pins s U H vs us Q I r h
 obtain ⟨v, vr, e1, h⟩ := h
 subst e1
 cases r with
 | cons r rr =>
  rw [hs]
  refine assignInOrder_cons (aP (h1 pins s U H _ _ _ I r h) fun _ s1 ⟨σ1, H1, I1, q1⟩ => ?_)
  exact h2 pins s1 σ1 H1 _ _ Q I1 rr q1
def NX (K : xFg) (n : Nat) (t : iL) : TG := fun v U H Q => ∃ a xs, v = .ref a /\ bJ K H a xs /\ xs.length = n /\ t xs U H Q
theorem NZ {es : List Expr} {k : Nat} {t : iL} {n : Nat} (hc : X.calm = true) (h : mP X es t)
  (hn : (assignEach es X.env).length = n := by rfl) (hst : (assignEach es X.env).findIdx? (·.1) = none := by rfl) : PG X (.Tuple es k pos) (NX X.K n t) := by
 intro pins s U H v u Q I r hw
 obtain ⟨a, xs, e1, hq, hl, hw⟩ := hw
 subst e1
 cases r
 obtain ⟨its, rv, ht, hz⟩ := I.tuple hq
 refine assign_Tuple_tuple (I.ok.hd hc) ht (by simp [hn, <- hl, rv.length]) hst fun h' hx => ?_
 have I1 : aH X pins U H { s with heap := h' } := I.kept (t' := s.toks) fun b o e => hx b o (xa6 (xan e)) e
 exact h pins _ U H xs _ Q I1 (by simpa using rv) hw
def gSub (to ti : TE) (t : TSet) : TG := fun v U H Q => to U H fun o H1 => ti U H1 fun i H2 => t o i v H2 fun H3 => Q U H3
def lG (te : TE) (g : TG) : TS := fun D U H => te U H fun x H1 => g x U H1 D.nx
theorem N0 {tg e : Expr} {te : TE} {g : TG} (he : PE X e te) (hg : PG X tg g) (hs : swapsWithSole [tg] e pos.line X.env = pure false := by rfl) (hw : swappedStores [tg] e X.env = pure none := by rfl)
  (h1 : (assignEach [tg] X.env).map (·.2) = [assign tg X.env] := by rfl) : PS X (.Assign [tg] e pos) (lG te g) := by
 intro pins s U H D I h
 refine wpAny_Assign_stores (aP (he pins s U H _ I h) fun v s1 ⟨x, H1, I1, r1, q1⟩ => ?_) hs hw
 rw [h1]
 exact aP (hg pins s1 U H1 x v _ I1 r1 q1) fun _ s2 q => q
theorem kE {i : Nat} {x : Str} {e : Expr} {te : TE} {pos' : Pos} (hN : X.N.Nodup) (hi : X.N[i]? = some x) (hx : gC X.env.scope x) (he : PE X e te) (hs : swapsWith e (some (.Name x pos')) pos.line X.env = pure false := by rfl) (hf : X.fn x = true \/ X.env.scope.names.lookup x = some .local := by first | exact .inl rfl | exact .inr rfl | assumption) :
  PS X (.Assign [.Name x pos'] e pos) (lG te (kC i)) := by
 intro pins s U H D I h
 refine wpAny_Assign_Name (aP (he pins s U H _ I h) fun v s1 ⟨y, H1, I1, r1, q1⟩ => ?_) hs
 exact uK I1 hN hi hx r1 (fun s2 I2 => ⟨_, H1, I2, q1⟩) hf
end
section
variable {X : Cx} {pos : Pos}
def N1 (c : TT) (tb : TS) : TS := fun D U H => ∃ W : Nat -> St -> Hp -> Prop, (∃ m, W m U H) /\ ∀ m U H, W m U H ->
 c U H fun b H1 => if b = true then ∃ N : St -> Hp -> Prop, (∀ U' H', N U' H' -> ∃ m', m' < m /\ W m' U' H') /\ tb { D with nx := N, ct := N, bk := D.nx } U H1 else D.nx U H1
theorem N2 {c : Expr} {body : List Stmt} {tc : TT} {tb : TS} (hp : PassesOwn (model X.prog X.w) X.A X.env X.xe) (hc : PT X c tc) (hb : cU X body tb) : PS X (.While c body [] pos) (N1 tc tb) := by
 intro pins s U H D I h
 obtain ⟨W, ⟨m0, w0⟩, turn⟩ := h
 refine wpAny_While (codeAny_whileLoop (fun n s' => ∃ U' H', aH X pins U' H' s' /\ W n U' H') ?_ m0 ⟨U, H, I, w0⟩)
 rintro n s1 ⟨σ1, H1, I1, w1⟩
 refine wpAny_passesOwn hp (aP (hc pins s1 σ1 H1 _ I1 (turn n σ1 H1 w1)) fun b s2 ⟨H2, I2, q2⟩ => ?_)
 cases b with
 | true =>
  obtain ⟨N, hN, q2⟩ := q2
  rw [xa4 rfl]
  refine wpAny_passesOwn hp (aP (hb pins s2 σ1 H2 _ I2 q2) fun f s3 q3 => ?_)
  cases f with
  | next =>
   obtain ⟨σ3, H3, I3, n3⟩ := q3
   obtain ⟨m', hm, w3⟩ := hN σ3 H3 n3
   exact ⟨m', hm, σ3, H3, I3, w3⟩
  | cont =>
   obtain ⟨σ3, H3, I3, n3⟩ := q3
   obtain ⟨m', hm, w3⟩ := hN σ3 H3 n3
   exact ⟨m', hm, σ3, H3, I3, w3⟩
  | brk => exact q3
  | ret v => exact q3
 | false =>
  rw [xa1 xa2]
  exact wpAny_execs_nil ⟨σ1, H2, I2, q2⟩
end
structure It where
 go : Nat -> Hp -> Prop
 yld : Nat -> Hp -> V -> Hp -> Prop
 stop : Nat -> Hp -> Prop
def fQ (X : Cx) (pins : List (Addr × Obj)) (H : Hp) (b : Addr) : Prop :=
 H b = none /\ b ≠ X.env.locals /\ b ∉ X.fs /\ (b ∈ X.ex \/ X.s₀.heap.objs.size <= b) /\ (∀ x c, X.env.cells.lookup x = some c -> c ≠ b) /\ ∀ p ∈ X.pn ++ pins, p.1 ≠ b
theorem aH.fpOk {X : Cx} {pins : List (Addr × Obj)} {U : St} {H H' : Hp} {s : Shared} {b : Addr} (I : aH X pins U H s) (hb : s.heap.objs.size <= b) (hn : H' b = none) : fQ X pins H' b := by
 refine ⟨hn, xca (xar I.lt hb), I.nofs hb, .inr (xaj I.sz hb), fun x c e z => ?_, fun p hp z => ?_⟩
 ·obtain ⟨v, q⟩ := I.cell x c e
  exact xaq (xar q.lt (by rw [z]; exact hb)) (xbs _)
 ·exact xaq (xar (xan (I.pin p hp).1) (by rw [z]; exact hb)) (xbs _)
structure lH (P : Program) (w : World) (K : xFg) (tg : Expr) (J : It) (fp : List Addr) (it : Addr) (tn : Nat -> Heap -> Prop) : Prop where
 mem : it ∈ fp
 obj : ∀ i h, tn i h -> ∀ b ∈ fp, ∃ o, h.get? b = some o /\ ∀ v, o.data ≠ .cell v
 keep : ∀ i h h', tn i h -> (∀ b ∈ fp, ∀ o, h.get? b = some o -> h'.get? b = some o) -> tn i h'
 item : ∀ (X : Cx), X.prog = P -> X.w = w -> X.K = K -> X.calm = true -> ∀ (i : Nat) (pins : List (Addr × Obj)) (s : Shared) (U : St) (H : Hp) (E : Value -> Shared -> Prop), aH X pins U H s -> (∀ b ∈ fp, fQ X pins H b) -> tn i s.heap -> J.go i H ->
  wpAny (model P w) X.A (pyNext (.ref it)) (fun r s1 => ∃ u, r = some u /\
   wpAny (model P w) X.A (letOwnedTupleGo tg (.ref it) u) (fun _ s2 => ∃ x H', aH X pins U H' s2 /\ aR x u /\ J.yld i H x H' /\ tn (i + 1) s2.heap /\ ∀ b ∈ fp, H' b = none) E s1) E s
 done : ∀ (X : Cx), X.prog = P -> X.w = w -> X.K = K -> X.calm = true -> ∀ (i : Nat) (pins : List (Addr × Obj)) (s : Shared) (U : St) (H : Hp) (E : Value -> Shared -> Prop), aH X pins U H s -> (∀ b ∈ fp, fQ X pins H b) -> tn i s.heap -> J.stop i H ->
  wpAny (model P w) X.A (pyNext (.ref it)) (fun r s1 => r = none /\ aH X pins U H s1) E s
 self : ∀ (A : Around) (i : Nat) (s : Shared) (Q : Value -> Shared -> Prop) (E : Value -> Shared -> Prop), tn i s.heap -> Q (.ref it) s -> wpAny (model P w) A (pyIter (.ref it)) Q E s
abbrev TI := St -> Hp -> (It -> Hp -> Prop) -> Prop
def PIE (X : Cx) (pins : List (Addr × Obj)) (U : St) (tg : Expr) (R : It -> Hp -> Prop) (itv : Value) (s2 : Shared) : Prop :=
 ∃ (it : Addr) (fp : List Addr) (tn : Nat -> Heap -> Prop) (J : It) (H' : Hp), itv = .ref it /\ aH X pins U H' s2 /\ lH X.prog X.w X.K tg J fp it tn /\ tn 0 s2.heap /\ (∀ b ∈ fp, fQ X pins H' b) /\ R J H'
def PI (X : Cx) (tg iter : Expr) (wi : TI) : Prop :=
 ∀ (pins : List (Addr × Obj)) (s : Shared) (U : St) (H : Hp) (R : It -> Hp -> Prop), aH X pins U H s -> wi U H R ->
  wpAny (model X.prog X.w) X.A (eval iter X.env) (fun v s1 => wpAny (model X.prog X.w) X.A (pyIter v) (PIE X pins U tg R) X.xe s1) X.xe s
theorem qN {M : Model} {A : Around} {E : Value -> Shared -> Prop} {s : Shared} {tg : Expr} {it : Addr} {u : Value} {o : Obj} {n : String} {vs : Array Value} {Q : Unit -> Shared -> Prop} (ho : s.heap.get? it = some o) (hc : o.cls = .type n) (hd : o.data = .fields vs)
  (hn : ["enumerate", "zip", "dict_itemiterator", "dict_reverseitemiterator", "odict_iterator", "itertools.zip_longest", "itertools.pairwise"].contains n = false) (hQ : Q () s) : wpAny M A (letOwnedTupleGo tg (.ref it) u) Q E s := by
 unfold letOwnedTupleGo
 cases tg <;> first
  | exact xap hQ
  | (cases u <;> first
    | exact xap hQ
    | (refine xab (wpAny_load ho ?_)
       rw [hc, hd]
       show wpAny M A (if (["enumerate", "zip", "dict_itemiterator", "dict_reverseitemiterator", "odict_iterator", "itertools.zip_longest", "itertools.pairwise"].contains n && vs[0]? == some (rawInt _)) = true then _ else _) Q E s
       rw [xa1 (by intro h; rw [hn, Bool.false_and] at h; cases h)]
       exact xap hQ))
def mQ (K : xFg) (a : Addr) : It :=
 ⟨fun i H => ∃ xs x, bH K H a xs /\ xs[i]? = some x, fun i H x H' => H' = H /\ ∀ xs, bH K H a xs -> xs[i]? = some x, fun i H => ∃ xs, bH K H a xs /\ xs.length <= i⟩
def mR (K : xFg) (a : Addr) : It :=
 ⟨fun i H => ∃ xs x, bJ K H a xs /\ xs[i]? = some x, fun i H x H' => H' = H /\ ∀ xs, bJ K H a xs -> xs[i]? = some x, fun i H => ∃ xs, bJ K H a xs /\ xs.length <= i⟩
def qO (lo : Int) (n : Nat) : It := ⟨fun i _ => i < n, fun i H x H' => H' = H /\ x = .int (lo + i), fun i _ => n <= i⟩
theorem N3 {P : Program} {w : World} {K : xFg} {tg : Expr} (a it : Addr) : lH P w K tg (mQ K a) [it] it (fun i h => h.IsListIter it a i) where
 mem := by simp
 obj := fun i h st b hb => by
  have e : b = it := by simpa using hb
  subst e
  obtain ⟨o, e, c, d⟩ := st
  exact ⟨o, e, fun v z => by rw [d] at z; cases z⟩
 keep := fun i h h' st k => st.at fun o e => k it (by simp) o e
 item := by
  intro X hP hw hK hc i pins s U H E I hf st hg
  subst hP hw hK
  obtain ⟨xs, x, hq, hx⟩ := hg
  obtain ⟨its, rv, p, hz⟩ := I.list hq
  obtain ⟨u, hu, ru⟩ := rv.get hx
  obtain ⟨f0, f1, f2, f3, f4, f5⟩ := hf it (by simp)
  refine wpAny_pyNext_list_item st p.isList (x := u) (by simpa using hu) fun h' st' sb => ?_
  have I1 : aH X pins U H { s with heap := h' } := I.turned (t' := s.toks) (fun b o hb e => (sb.2 b hb).trans e) f0 f1 f3 f4 f5
  obtain ⟨o, e, c, d⟩ := id st'
  exact ⟨u, rfl, qN (s := { s with heap := h' }) e c d (by decide) ⟨x, H, I1, ru, ⟨rfl, fun ys hy => by rw [I.list_inj hy hq]; exact hx⟩, st', fun b hb => (hf b hb).1⟩⟩
 done := by
  intro X hP hw hK hc i pins s U H E I hf st hg
  subst hP hw hK
  obtain ⟨xs, hq, hx⟩ := hg
  obtain ⟨its, rv, p, hz⟩ := I.list hq
  obtain ⟨f0, f1, f2, f3, f4, f5⟩ := hf it (by simp)
  have hl := rv.length
  exact wpAny_pyNext_list_end (I.ok.hd hc) st p.isList (by simp; omega) fun h' eb => ⟨rfl, I.turned (t' := s.toks) (fun b o hb e => eb b o hb e) f0 f1 f3 f4 f5⟩
 self := fun _ _ _ _ _ st h => wpAny_pyIter_listiter st h
theorem N4 {P : Program} {w : World} {K : xFg} {tg : Expr} (a it : Addr) : lH P w K tg (mR K a) [it] it (fun i h => h.IsTupleIter it a i) where
 mem := by simp
 obj := fun i h st b hb => by
  have e : b = it := by simpa using hb
  subst e
  obtain ⟨o, e, c, d⟩ := st
  exact ⟨o, e, fun v z => by rw [d] at z; cases z⟩
 keep := fun i h h' st k => st.at fun o e => k it (by simp) o e
 item := by
  intro X hP hw hK hc i pins s U H E I hf st hg
  subst hP hw hK
  obtain ⟨xs, x, hq, hx⟩ := hg
  obtain ⟨its, rv, p, hz⟩ := I.tuple hq
  obtain ⟨u, hu, ru⟩ := rv.get hx
  obtain ⟨f0, f1, f2, f3, f4, f5⟩ := hf it (by simp)
  refine wpAny_pyNext_tuple_item st (show s.heap.IsTuple a its.toArray from p) (x := u) (by simpa using hu) fun h' st' sb => ?_
  have I1 : aH X pins U H { s with heap := h' } := I.turned (t' := s.toks) (fun b o hb e => (sb.2 b hb).trans e) f0 f1 f3 f4 f5
  obtain ⟨o, e, c, d⟩ := id st'
  exact ⟨u, rfl, qN (s := { s with heap := h' }) e c d (by decide) ⟨x, H, I1, ru, ⟨rfl, fun ys hy => by rw [I.tuple_inj hy hq]; exact hx⟩, st', fun b hb => (hf b hb).1⟩⟩
 done := by
  intro X hP hw hK hc i pins s U H E I hf st hg
  subst hP hw hK
  obtain ⟨xs, hq, hx⟩ := hg
  obtain ⟨its, rv, p, hz⟩ := I.tuple hq
  obtain ⟨f0, f1, f2, f3, f4, f5⟩ := hf it (by simp)
  have hl := rv.length
  exact wpAny_pyNext_tuple_end (I.ok.hd hc) st (show s.heap.IsTuple a its.toArray from p) (by simp; omega) fun h' eb => ⟨rfl, I.turned (t' := s.toks) (fun b o hb e => eb b o hb e) f0 f1 f3 f4 f5⟩
 self := fun _ _ _ _ _ st h => wpAny_pyIter_tupleiter st h
theorem N5 {P : Program} {w : World} {K : xFg} {tg : Expr} (it : Addr) (lo : Int) (n : Nat) : lH P w K tg (qO lo n) [it] it (fun i h => IsRangeIter h it (lo + (i : Nat) * 1) ((n : Int) - (i : Nat)) 1) where
 mem := by simp
 obj := fun i h st b hb => by
  have e : b = it := by simpa using hb
  subst e
  exact ⟨_, st, fun v z => by
   have z' : Data.fields _ = Data.cell v := z
   cases z'⟩
 keep := fun i h h' st k => k it (by simp) _ st
 item := by
  intro X hP hw hK hc i pins s U H E I hf st hg
  subst hP hw hK
  obtain ⟨f0, f1, f2, f3, f4, f5⟩ := hf it (by simp)
  have W := Walks.range (prog := X.prog) (w := X.w) (I.ok.hd hc) it lo 1 n
  refine W.item i s _ _ hg st fun v h' tk hv st' kk => ?_
  obtain ⟨t, rfl⟩ := hv
  have I1 : aH X pins U H { s with heap := h', toks := tk } := I.turned (fun b o hb e => kk b o (by simpa using hb) e) f0 f1 f3 f4 f5
  refine ⟨_, rfl, qN (s := { s with heap := h', toks := tk }) (n := "range_iterator") st' rfl rfl (by decide) ⟨.int (lo + i), H, I1, ⟨t, ?_⟩, ⟨rfl, rfl⟩, st', fun b hb => (hf b hb).1⟩⟩
  rw [Int.mul_one]
 done := by
  intro X hP hw hK hc i pins s U H E I hf st hg
  subst hP hw hK
  obtain ⟨f0, f1, f2, f3, f4, f5⟩ := hf it (by simp)
  exact wpAny_pyNext_range_end (I.ok.hd hc) st (by have : n <= i := hg; omega) fun h' eb => ⟨rfl, I.turned (t' := s.toks) (fun b o hb e => eb b o hb e) f0 f1 f3 f4 f5⟩
 self := fun _ _ _ _ _ st h => wpAny_pyIter_rangeiter st h
end L2
namespace L2
open PySem.Spec PyProof.Rows
section
variable {X : Cx} {tg : Expr}
def zD (K : xFg) (tl : TE) : TI := fun U H R => tl U H fun x H1 => ∃ a, x = .ref a /\ (∃ xs, bH K H1 a xs) /\ R (mQ K a) H1
def zE (K : xFg) (tl : TE) : TI := fun U H R => tl U H fun x H1 => ∃ a, x = .ref a /\ (∃ xs, bJ K H1 a xs) /\ R (mR K a) H1
theorem N6 {l : Expr} {tl : TE} (hl : PE X l tl) : PI X tg l (zD X.K tl) := by
 intro pins s U H R I h
 refine aP (hl pins s U H _ I h) fun v s1 ⟨x, H1, I1, r1, q1⟩ => ?_
 obtain ⟨a, e, ⟨xs, hq⟩, q⟩ := q1
 subst e
 cases r1
 obtain ⟨its, rv, p, hz⟩ := I1.list hq
 refine wpAny_pyIter_list p.isList ?_
 refine ⟨s1.heap.objs.size, [s1.heap.objs.size], _, _, H1, rfl, I1.kept (t' := s1.toks) fun b o e => xad _ e, N3 a _, ⟨_, xav _ rfl, rfl, rfl⟩, fun b hb => ?_, q⟩
 have e : b = s1.heap.objs.size := by simpa using hb
 subst e
 exact I1.fpOk (xak _) (I1.hok.fresh (xak _))
theorem N7 {l : Expr} {tl : TE} (hl : PE X l tl) : PI X tg l (zE X.K tl) := by
 intro pins s U H R I h
 refine aP (hl pins s U H _ I h) fun v s1 ⟨x, H1, I1, r1, q1⟩ => ?_
 obtain ⟨a, e, ⟨xs, hq⟩, q⟩ := q1
 subst e
 cases r1
 obtain ⟨its, rv, p, hz⟩ := I1.tuple hq
 refine wpAny_pyIter_tuple (show s1.heap.IsTuple a its.toArray from p) ?_
 refine ⟨s1.heap.objs.size, [s1.heap.objs.size], _, _, H1, rfl, I1.kept (t' := s1.toks) fun b o e => xad _ e, N4 a _, ⟨_, xav _ rfl, rfl, rfl⟩, fun b hb => ?_, q⟩
 have e : b = s1.heap.objs.size := by simpa using hb
 subst e
 exact I1.fpOk (xak _) (I1.hok.fresh (xak _))
theorem N8 {pins : List (Addr × Obj)} {U : St} {H : Hp} {s : Shared} {R : It -> Hp -> Prop} {E : Value -> Shared -> Prop} {lo hi : Int} {t u v : Tok} {tk : Nat} (I : aH X pins U H s) (h1 : -(2 ^ 62) <= lo) (h2 : lo < 2 ^ 62) (h3 : -(2 ^ 62) <= hi) (h4 : hi < 2 ^ 62)
  (q : R (qO lo (hi - lo).toNat) H) : wpAny (model X.prog X.w) X.A (pyIter (.ref s.heap.objs.size)) (PIE X pins U tg R) E { s with heap := s.heap.push { cls := .type "range", data := .fields #[.int lo t, .int hi u, .int 1 v] }, toks := tk } := by
 refine wpAny_pyIter_range (IsRange.new ..) (small_one h1 h2 h3 h4) ?_
 have I1 : aH X pins U H { s with heap := s.heap.push { cls := .type "range", data := .fields #[.int lo t, .int hi u, .int 1 v] }, toks := tk } := I.kept fun b o e => xad _ e
 refine ⟨(s.heap.push { cls := .type "range", data := .fields #[.int lo t, .int hi u, .int 1 v] }).objs.size, [(s.heap.push { cls := .type "range", data := .fields #[.int lo t, .int hi u, .int 1 v] }).objs.size], _, _, H, rfl,
  I1.kept (t' := tk) fun b o e => xad _ e, N5 _ lo (hi - lo).toNat, ?_, fun b hb => ?_, q⟩
 ·have e1 : lo + ((0 : Nat) : Int) * 1 = lo := by simp
  have e2 : (((hi - lo).toNat : Nat) : Int) - ((0 : Nat) : Int) = Builtin.Range.rangeSize lo hi 1 := by rw [rangeSize_one]; split <;> omega
  show IsRangeIter _ _ (lo + ((0 : Nat) : Int) * 1) ((((hi - lo).toNat : Nat) : Int) - ((0 : Nat) : Int)) 1
  rw [e1, e2]
  exact xav _ rfl
 ·have e : b = (s.heap.push { cls := .type "range", data := .fields #[.int lo t, .int hi u, .int 1 v] }).objs.size := by simpa using hb
  subst e
  exact I1.fpOk (xak _) (I1.hok.fresh (xak _))
def N9 (ta : TA) : TI := fun U H R => ta U H fun vs H1 => ∃ j : Int, vs = [.int j] /\ -(2 ^ 62) <= j /\ j < 2 ^ 62 /\ R (qO 0 j.toNat) H1
theorem OA {a : Expr} {ta : TA} {p pos : Pos} (hg : Gl X "range") (hm : X.mg "range" = none) (ha : PA X [a] ta) (hs : starEach [a] X.env = [(false, eval a X.env)] := by rfl) : PI X tg (.Call (.Name "range" p) [a] [] pos) (N9 ta) := by
 intro pins s U H R I h
 refine Call_ (oO I hg hm boot_range (PyProof.Rows.callWith_type1 (aP (ha pos pins s U H _ I h) fun us s1 ⟨vs, H1, I1, r1, q1⟩ => ?_) hs rfl))
 obtain ⟨j, e, q1, q2, q⟩ := q1
 subst e
 cases r1 with
 | cons r rr =>
  cases rr
  obtain ⟨t, rfl⟩ := r
  exact call_range_1 (N8 I1 (by omega) (by omega) q1 q2 (by simpa using q))
def OB (wi : TI) (g : TG) (tb : TS) : TS := fun D U H => wi U H fun J H1 => ∃ W : Nat -> Nat -> St -> Hp -> Prop, (∃ m, W 0 m U H1) /\ ∀ i m U H, W i m U H ->
 (J.stop i H /\ D.nx U H) \/ (J.go i H /\ ∃ N : St -> Hp -> Prop, (∀ U' H', N U' H' -> ∃ m', m' < m /\ W (i + 1) m' U' H') /\ ∀ x H', J.yld i H x H' -> g x U H' fun σ2 H2 => tb { D with nx := N, ct := N, bk := D.nx } σ2 H2)
def oP (fp : List Addr) (h : Heap) : List (Addr × Obj) := fp.filterMap fun b => (h.get? b).map fun o => (b, o)
theorem qP {fp : List Addr} {h : Heap} {b : Addr} {o : Obj} (hb : b ∈ fp) (e : h.get? b = some o) : (b, o) ∈ oP fp h := List.mem_filterMap.mpr ⟨b, hb, by rw [e]; rfl⟩
theorem OC {fp : List Addr} {h : Heap} {p : Addr × Obj} (hp : p ∈ oP fp h) : p.1 ∈ fp /\ h.get? p.1 = some p.2 := by
 obtain ⟨b, hb, e⟩ := List.mem_filterMap.mp hp
 cases q : h.get? b with
 | none => rw [q] at e; cases e
 | some o =>
  rw [q] at e
  have e' : (b, o) = p := xbk e
  subst e'
  exact ⟨hb, q⟩
theorem aH.pinned {pins : List (Addr × Obj)} {U : St} {H : Hp} {s : Shared} {fp : List Addr} (I : aH X pins U H s) (hf : ∀ b ∈ fp, fQ X pins H b) (ho : ∀ b ∈ fp, ∃ o, s.heap.get? b = some o /\ ∀ v, o.data ≠ .cell v) : aH X (pins ++ oP fp s.heap) U H s :=
 I.pins_of fun p hp => (xay.mp hp).elim (fun z => I.pin p (xbg _ z)) fun z => by
  obtain ⟨hb, e⟩ := OC z
  obtain ⟨f0, f1, f2, _⟩ := hf p.1 hb
  obtain ⟨o, e', d⟩ := ho p.1 hb
  rw [e] at e'; cases e'
  exact ⟨e, f0, f1, f2, d⟩
theorem aH.unpinned {pins pl : List (Addr × Obj)} {U : St} {H : Hp} {s : Shared} (I : aH X (pins ++ pl) U H s) : aH X pins U H s := I.pins_of fun p hp => I.pin p (xbg _ (xcc _ hp))
theorem OD {iter : Expr} {body : List Stmt} {wi : TI} {g : TG} {tb : TS} {pos : Pos} (hp : PassesOwn (model X.prog X.w) X.A X.env X.xe) (hc : X.calm = true) (hi : PI X tg iter wi) (hg : PG X tg g) (hb : cU X body tb)
  (hs : ∀ x, foldedSetIterable iter X.env x = pure x := by intro _; rfl) : PS X (.For tg iter body [] pos) (OB wi g tb) := by
 intro pins s U H D I h
 refine wpAny_For (aP (hi pins s U H _ I h) fun v s1 h1 => aP h1 fun itv s2 h2 => ?_) hs
 obtain ⟨it, fp, tn, J, H2, e, I2, T, st2, f2, W, ⟨m0, w0⟩, turn⟩ := h2
 subst e
 have stat : ∀ {H' : Hp}, (∀ b ∈ fp, H' b = none) -> ∀ b ∈ fp, fQ X pins H' b := fun hn b hb => ⟨hn b hb, (f2 b hb).2⟩
 refine codeAny_forLoop_any (fun n s' => ∃ i U' H', aH X pins U' H' s' /\ tn i s'.heap /\ (∀ b ∈ fp, H' b = none) /\ W i n U' H') ?_ m0 ⟨0, U, H2, I2, st2, fun b hb => (f2 b hb).1, w0⟩
 rintro n s3 ⟨i, σ3, H3, I3, st3, fr3, w3⟩
 rcases turn i n σ3 H3 w3 with ⟨stop, qn⟩ | ⟨go, N, hN, step⟩
 ·refine wpAny_passesOwn hp (aP (T.done X rfl rfl rfl hc i pins s3 σ3 H3 X.xe I3 (stat fr3) st3 stop) fun r s4 ⟨hr, I4⟩ => ?_)
  subst hr
  exact wpAny_execs_nil ⟨σ3, H3, I4, qn⟩
 ·refine wpAny_passesOwn hp (aP (T.item X rfl rfl rfl hc i pins s3 σ3 H3 X.xe I3 (stat fr3) st3 go) fun r s4 ⟨u, hr, h4⟩ => ?_)
  subst hr
  refine wpAny_passesOwn hp (aP h4 fun _ s5 ⟨x, H5, I5, r5, y5, st5, fr5⟩ => ?_)
  have I5' := I5.pinned (stat fr5) (T.obj _ _ st5)
  refine wpAny_passesOwn hp (aP (hg _ s5 σ3 H5 x u _ I5' r5 (step x H5 y5)) fun _ s6 ⟨σ6, H6, I6, q6⟩ => ?_)
  refine wpAny_passesOwn hp (aP (hb _ s6 σ6 H6 _ I6 q6) fun f s7 q7 => ?_)
  have again : ∀ {σ7 : St} {H7 : Hp}, aH X (pins ++ oP fp s5.heap) σ7 H7 s7 -> N σ7 H7 -> ∃ m, m < n /\ ∃ i U' H', aH X pins U' H' s7 /\ tn i s7.heap /\ (∀ b ∈ fp, H' b = none) /\ W i m U' H' := fun {σ7 H7} I7 n7 => by
   obtain ⟨m', hm, w7⟩ := hN σ7 H7 n7
   refine ⟨m', hm, i + 1, σ7, H7, I7.unpinned, T.keep _ _ _ st5 fun b hb o e => (I7.pin (b, o) (xbg _ (xbg _ (qP hb e)))).1, fun b hb => ?_, w7⟩
   obtain ⟨o, e, d⟩ := T.obj _ _ st5 b hb
   exact (I7.pin (b, o) (xbg _ (xbg _ (qP hb e)))).2.1
  cases f with
  | next => obtain ⟨σ7, H7, I7, n7⟩ := q7; exact again I7 n7
  | cont => obtain ⟨σ7, H7, I7, n7⟩ := q7; exact again I7 n7
  | brk => obtain ⟨σ7, H7, I7, q7⟩ := q7; exact ⟨σ7, H7, I7.unpinned, q7⟩
  | ret v => obtain ⟨x7, σ7, H7, I7, r7, q7⟩ := q7; exact ⟨x7, σ7, H7, I7.unpinned, r7, q7⟩
end
end L2
namespace L2
open PySem.Spec PyProof.Rows
abbrev R2 := V -> V -> Hp -> VK -> Prop
def bM (X : Cx) (f : Value -> Value -> Sem Value) (r : R2) : Prop :=
 ∀ (pins : List (Addr × Obj)) (s : Shared) (U : St) (H : Hp) (x y : V) (v u : Value) (Q : VK), aH X pins U H s -> aR x v -> aR y u -> r x y H Q ->
  wpAny (model X.prog X.w) X.A (f v u) (EP X pins U Q) X.xe s
def qQ (X : Cx) (f : Value -> Sem Value) (r : V -> Hp -> VK -> Prop) : Prop :=
 ∀ (pins : List (Addr × Obj)) (s : Shared) (U : St) (H : Hp) (x : V) (v : Value) (Q : VK), aH X pins U H s -> aR x v -> r x H Q ->
  wpAny (model X.prog X.w) X.A (f v) (EP X pins U Q) X.xe s
def c9 (X : Cx) (f : Value) (r : List V -> Hp -> VK -> Prop) : Prop :=
 ∀ (pins : List (Addr × Obj)) (s : Shared) (U : St) (H : Hp) (xs : List V) (us : List Value) (Q : VK), aH X pins U H s -> a6 xs us -> r xs H Q ->
  wpAny (model X.prog X.w) X.A (call f us) (EP X pins U Q) X.xe s
def mS (r : R2) (ta tb : TE) : TE := fun U H Q => ta U H fun x H1 => tb U H1 fun y H2 => r x y H2 Q
def tUn (r : V -> Hp -> VK -> Prop) (ta : TE) : TE := fun U H Q => ta U H fun x H1 => r x H1 Q
def rI (C : Int -> Int -> Prop) (g : Int -> Int -> V) : R2 := fun x y H Q => ∃ i j, x = .int i /\ y = .int j /\ C i j /\ Q (g i j) H
def jH (g : Int -> Int -> V) : R2 := fun x y H Q => ∃ i j, x = .int i /\ y = .int j /\ Q (g i j) H
def rU (g : Int -> V) : V -> Hp -> VK -> Prop := fun x H Q => ∃ i, x = .int i /\ Q (g i) H
section
variable {X : Cx} {a b c : Expr} {ta tb tc : TE} {pos : Pos}
theorem qR (ha : PE X a ta) (hb : PE X b tb) {pins : List (Addr × Obj)} {s : Shared} {U : St} {H : Hp} {R : V -> V -> Hp -> Prop} (I : aH X pins U H s)
  (h : ta U H fun x H1 => tb U H1 fun y H2 => R x y H2) {Q : Value -> Shared -> Prop} {f : Value -> Value -> Sem Value}
  (hf : ∀ v u s2 x y H2, aH X pins U H2 s2 -> aR x v -> aR y u -> R x y H2 -> wpAny (model X.prog X.w) X.A (f v u) Q X.xe s2) :
  wpAny (model X.prog X.w) X.A (eval a X.env) (fun v s₁ => wpAny (model X.prog X.w) X.A (eval b X.env) (fun u s₂ => wpAny (model X.prog X.w) X.A (f v u) Q X.xe s₂) X.xe s₁) X.xe s := by
 refine aP (ha pins s U H _ I h) fun v s1 ⟨x, H1, I1, r1, q1⟩ => ?_
 refine aP (hb pins s1 U H1 _ I1 q1) fun u s2 ⟨y, H2, I2, r2, q2⟩ => ?_
 exact hf v u s2 x y H2 I2 r1 r2 q2
theorem zF {op : Operator} {r : R2} (ho : bM X (binaryOp op) r) (ha : PE X a ta) (hb : PE X b tb) : PE X (.BinOp a op b pos) (mS r ta tb) := by
 intro pins s U H Q I h
 exact wpAny_BinOp (qR ha hb I h fun v u s2 x y H2 I2 rx ry q => ho pins s2 U H2 x y v u Q I2 rx ry q)
theorem OF {op : UnaryOp} {r : V -> Hp -> VK -> Prop} (ho : qQ X (unaryOp op) r) (ha : PE X a ta) : PE X (.UnaryOp op a pos) (tUn r ta) := by
 intro pins s U H Q I h
 exact UnaryOp_ (aP (ha pins s U H _ I h) fun v s1 ⟨x, H1, I1, r1, q1⟩ => ho pins s1 U H1 x v Q I1 r1 q1)
theorem mT {f : Value -> Value -> Sem Value} {C : Int -> Int -> Prop} {g : Int -> Int -> Int}
  (rule : ∀ (i j : Int) (t u : Tok) (s : Shared) (Q : Value -> Shared -> Prop) (E : Value -> Shared -> Prop), C i j -> Q (.int (g i j) s.toks) { s with toks := s.toks + 1 } -> wpAny (model X.prog X.w) X.A (f (.int i t) (.int j u)) Q E s) :
  bM X f (rI C fun i j => .int (g i j)) := by
 intro pins s U H x y v u Q I rx ry h
 obtain ⟨i, j, rfl, rfl, hc, q⟩ := h
 obtain ⟨t, rfl⟩ := rx
 obtain ⟨t', rfl⟩ := ry
 exact rule i j t t' s _ _ hc ⟨.int (g i j), H, I.tok _, ⟨_, rfl⟩, q⟩
theorem OG {f : Value -> Value -> Sem Value} {g : Int -> Int -> Int}
  (rule : ∀ (i j : Int) (t u : Tok) (s : Shared) (Q : Value -> Shared -> Prop) (E : Value -> Shared -> Prop), Q (.int (g i j) s.toks) { s with toks := s.toks + 1 } -> wpAny (model X.prog X.w) X.A (f (.int i t) (.int j u)) Q E s) :
  bM X f (jH fun i j => .int (g i j)) := by
 intro pins s U H x y v u Q I rx ry h
 obtain ⟨i, j, rfl, rfl, q⟩ := h
 obtain ⟨t, rfl⟩ := rx
 obtain ⟨t', rfl⟩ := ry
 exact rule i j t t' s _ _ ⟨.int (g i j), H, I.tok _, ⟨_, rfl⟩, q⟩
theorem qS {f : Value -> Value -> Sem Value} {g : Int -> Int -> Bool}
  (rule : ∀ (i j : Int) (t u : Tok) (s : Shared) (Q : Value -> Shared -> Prop) (E : Value -> Shared -> Prop), Q (.bool (g i j)) s -> wpAny (model X.prog X.w) X.A (f (.int i t) (.int j u)) Q E s) :
  bM X f (jH fun i j => .bl (g i j)) := by
 intro pins s U H x y v u Q I rx ry h
 obtain ⟨i, j, rfl, rfl, q⟩ := h
 obtain ⟨t, rfl⟩ := rx
 obtain ⟨t', rfl⟩ := ry
 exact rule i j t t' s _ _ ⟨.bl (g i j), H, I, rfl, q⟩
def OH (i j : Int) : Prop := 0 <= j /\ j <= 1000000 /\ i.natAbs < 2 ^ 64
theorem OI : bM X (binaryOp .Add) (jH fun i j => .int (i + j)) := OG fun _ _ _ _ _ _ _ q => add_int q
theorem OJ : bM X (binaryOp .Mod) (rI (fun _ j => j ≠ 0) fun i j => .int (i.fmod j)) := mT fun _ _ _ _ _ _ _ hc q => mod_int' hc q
theorem OK : bM X (binaryOp .Pow) (rI OH fun i j => .int (i ^ j.toNat)) := mT fun _ _ _ _ _ _ _ hc q => pow_int_small hc.1 hc.2.1 hc.2.2 q
theorem unI {f : Value -> Sem Value} {g : Int -> Int}
  (rule : ∀ (i : Int) (t : Tok) (s : Shared) (Q : Value -> Shared -> Prop) (E : Value -> Shared -> Prop), Q (.int (g i) s.toks) { s with toks := s.toks + 1 } -> wpAny (model X.prog X.w) X.A (f (.int i t)) Q E s) :
  qQ X f (rU fun i => .int (g i)) := by
 intro pins s U H x v Q I rx h
 obtain ⟨i, rfl, q⟩ := h
 obtain ⟨t, rfl⟩ := rx
 exact rule i t s _ _ ⟨.int (g i), H, I.tok _, ⟨_, rfl⟩, q⟩
theorem OM : qQ X (unaryOp .USub) (rU fun i => .int (-i)) := unI fun _ _ _ _ _ q => neg_int q
end
section
variable {X : Cx} {a b c : Expr} {ta tb tc : TE} {pos : Pos}
theorem oQ {pins : List (Addr × Obj)} {U : St} {H : Hp} {s : Shared} {Q : VK} {k k' : Bool} (I : aH X pins U H s) (q : Q (.bl k) H) (e : k = k') : EP X pins U Q (.bool k') s := by
 subst e
 exact ⟨.bl k, H, I, rfl, q⟩
theorem ON : bM X (compareOp .Lt) (jH fun i j => .bl (decide (i < j))) := qS fun _ _ _ _ _ _ _ q => lt_int q
theorem OO : bM X (compareOp .LtE) (jH fun i j => .bl (decide (i <= j))) := qS fun _ _ _ _ _ _ _ q => le_int q
theorem OP : bM X (compareOp .Gt) (jH fun i j => .bl (decide (j < i))) := qS fun _ _ _ _ _ _ _ q => gt_int q
theorem OQ : bM X (compareOp .GtE) (jH fun i j => .bl (decide (j <= i))) := qS fun _ _ _ _ _ _ _ q => ge_int q
theorem OR : bM X (compareOp .In) (fun x y H Q => ∃ i j, x = .str i /\ y = .str j /\ Q (.bl (!(Builtin.Str.occurrences j i 0 j.length 1).isEmpty)) H) := by
 intro pins s U H x y v u Q I rx ry h
 obtain ⟨i, j, rfl, rfl, q⟩ := h
 obtain ⟨t, rfl⟩ := rx
 obtain ⟨t', rfl⟩ := ry
 exact in_str (oQ I q rfl)
theorem OS : bM X (compareOp .Is) (fun x y H Q => y = .non /\ Q (.bl (decide (x = .non))) H) := by
 intro pins s U H x y v u Q I rx ry h
 obtain ⟨rfl, q⟩ := h
 cases ry
 refine is_none_gen (oQ I q ?_)
 cases x <;> first
  | (cases rx; rfl)
  | (obtain ⟨t, rfl⟩ := rx; rfl)
theorem OT : bM X (compareOp .IsNot) (fun x y H Q => y = .non /\ Q (.bl (!decide (x = .non))) H) := by
 intro pins s U H x y v u Q I rx ry h
 obtain ⟨rfl, q⟩ := h
 cases ry
 refine isnot_none_gen (oQ I q ?_)
 cases x <;> first
  | (cases rx; rfl)
  | (obtain ⟨t, rfl⟩ := rx; rfl)
theorem bM.or {f : Value -> Value -> Sem Value} {r r' : R2} (h : bM X f r) (h' : bM X f r') : bM X f (fun x y H Q => r x y H Q \/ r' x y H Q) := by
 intro pins s U H x y v u Q I rx ry q
 rcases q with q | q
 ·exact h pins s U H x y v u Q I rx ry q
 ·exact h' pins s U H x y v u Q I rx ry q
theorem OU {op : CmpOp} {r : R2} (ho : bM X (compareOp op) r) (ha : PE X a ta) (hb : PE X b tb) (hm : behindInMarks op b = false) : PE X (.Compare a [op] [b] pos) (mS r ta tb) := by
 intro pins s U H Q I h
 exact wpAny_Compare1 (qR ha hb I h fun v u s2 x y H2 I2 rx ry q => ho pins s2 U H2 x y v u Q I2 rx ry q) hm
def uM (t : TE) : TT := fun U H Q => t U H fun x H' => ∃ k, x = .bl k /\ Q k H'
theorem zG {op : CmpOp} {r : R2} (ho : bM X (compareOp op) r) (ha : PE X a ta) (hb : PE X b tb) (hm : behindInMarks op b = false) : PT X (.Compare a [op] [b] pos) (uM (mS r ta tb)) := by
 intro pins s U H Q I h
 refine wpAny_isTrue_Compare1 (aP (ha pins s U H _ I h) fun v s1 ⟨x, H1, I1, r1, q1⟩ => aP (hb pins s1 U H1 _ I1 q1) fun u s2 ⟨y, H2, I2, r2, q2⟩ =>
  aP (ho pins s2 U H2 x y v u _ I2 r1 r2 q2) fun c s3 ⟨z, H3, I3, r3, k, e, q3⟩ => ?_) hm
 subst e
 cases r3
 exact wpAny_truthy_bool ⟨H3, I3, q3⟩
def zH (r r' : R2) (ta tb tc : TE) : TE := fun U H Q => ta U H fun x H1 => tb U H1 fun y H2 => r x y H2 fun z H3 => ∃ k, z = .bl k /\
 (if k = true then tc U H3 fun w' H4 => r' y w' H4 Q else Q (.bl false) H3)
theorem OV {op op' : CmpOp} {r r' : R2} (ho : bM X (compareOp op) r) (ho' : bM X (compareOp op') r') (ha : PE X a ta) (hb : PE X b tb) (hc : PE X c tc)
  (hm : lastMarks [op, op'] [b, c] = false := by with_unfolding_all rfl) : PT X (.Compare a [op, op'] [b, c] pos) (uM (zH r r' ta tb tc)) := by
 intro pins s U H Q I h
 refine isTrue_chain (aP (ha pins s U H _ I h) fun v s1 ⟨x, H1, I1, r1, q1⟩ => test_link (aP (hb pins s1 U H1 _ I1 q1) fun u s2 ⟨y, H2, I2, r2, q2⟩ =>
  aP (ho pins s2 U H2 x y v u _ I2 r1 r2 q2) fun d s3 ⟨z, H3, I3, r3, k, e, q3⟩ => ?_)) hm
 subst e
 cases r3
 refine wpAny_truthy_bool ?_
 cases k with
 | false =>
  obtain ⟨k', e', q'⟩ := q3
  cases e'
  exact ite_ff ⟨H3, I3, q'⟩
 | true =>
  refine ite_tt (test_last (aP (hc pins s3 U H3 _ I3 q3) fun w' s4 ⟨z', H4, I4, r4, q4⟩ => aP (ho' pins s4 U H4 y z' u w' _ I4 r2 r4 q4) fun d' s5 ⟨z2, H5, I5, r5, k2, e2, q5⟩ => ?_))
  subst e2
  cases r5
  exact wpAny_truthy_bool ⟨H5, I5, q5⟩
theorem qT : (sizeLine : Nat) < 2 ^ 63 := by rw [sizeLine_eq]; decide
theorem OW : bM X (binaryOp .Add) (fun x y H Q => ∃ i j, x = .str i /\ y = .str j /\ i.length + j.length <= sizeLine /\ Q (.str (i ++ j)) H) := by
 intro pins s U H x y v u Q I rx ry h
 obtain ⟨i, j, rfl, rfl, hz, q⟩ := h
 obtain ⟨t, rfl⟩ := rx
 obtain ⟨t', rfl⟩ := ry
 exact add_str (fun t' tk => ⟨.str (i ++ j), H, I.tok _, ⟨_, rfl⟩, q⟩) hz
def zI (b : Expr) : Prop := ∀ o i, subscripted b false o i = operate [o, i] (getItem o i)
theorem OX (ha : PE X a ta) (hb : PE X b tb) (hs : zI b) :
  PE X (.Subscript a b pos) (mS (fun x y H Q => ∃ z i c, x = .str z /\ y = .int i /\ 0 <= i /\ i < 2 ^ 63 /\ i < z.length /\ z.cps[i.toNat]? = some c /\ Q (.str ⟨#[c]⟩) H) ta tb) := by
 intro pins s U H Q I h
 refine Subscript_ (qR ha hb I h fun v u s2 x y H2 I2 rx ry q => ?_)
 obtain ⟨z, i, c, rfl, rfl, h0, h63, h1, hc, q⟩ := q
 obtain ⟨t, rfl⟩ := rx
 obtain ⟨t', rfl⟩ := ry
 have e : seqIndex? i z.length = some i.toNat := PySem.StrLaws.seqIndex_nonneg h0 h1
 exact tail_any (typeIs_str s2 z t) slot_str_getitem.lookup (getItem_str (c := c) (by
  have e1 : decide (i < -(2 ^ 63 : Int)) = false := xau (by omega)
  have e2 : decide (i ≥ 2 ^ 63) = false := xau (by omega)
  rw [e1, e2] <;> rfl) (by rw [e]; exact hc) ⟨.str ⟨#[c]⟩, H2, I2.tok _, ⟨_, rfl⟩, q⟩) (hs _ _)
theorem g6 {x : V} {us : List Value} (r : a6 [x] us) : ∃ u, us = [u] /\ aR x u := by
 cases r with
 | cons r1 r2 => cases r2; exact ⟨_, rfl, r1⟩
theorem zJ {x y : V} {us : List Value} (r : a6 [x, y] us) : ∃ u w', us = [u, w'] /\ aR x u /\ aR y w' := by
 cases r with
 | cons r1 r2 =>
  cases r2 with
  | cons r3 r4 => cases r4; exact ⟨_, _, rfl, r1, r3⟩
theorem OY : c9 X (.type "int") (fun xs H Q => (∃ i, xs = [.int i] /\ Q (.int i) H) \/ ∃ k, xs = [.bl k] /\ Q (.int (if k then 1 else 0)) H) := by
 intro pins s U H xs us Q I r h
 rcases h with ⟨i, rfl, q⟩ | ⟨k, rfl, q⟩
 ·obtain ⟨u, rfl, t, rfl⟩ := g6 r
  exact call_int_int ⟨.int i, H, I, ⟨_, rfl⟩, q⟩
 ·obtain ⟨u, rfl, r1⟩ := g6 r
  cases r1
  exact call_int_bool ⟨.int (if k then 1 else 0), H, I.tok _, ⟨_, rfl⟩, q⟩
theorem OZ : c9 X (.type "str") (fun xs H Q => ∃ i, xs = [.int i] /\ i.natAbs.log2 < 1920 /\ Q (.str (toString i)) H) := by
 intro pins s U H xs us Q I r h
 obtain ⟨i, rfl, hz, q⟩ := h
 obtain ⟨u, rfl, t, rfl⟩ := g6 r
 exact PySem.P.str_of_int hz ⟨.str _, H, I.tok _, ⟨_, rfl⟩, q⟩
end
end L2
namespace L2
open PySem.Spec PyProof.Rows
structure lI (h : Heap) (x dx C : Addr) (mA : Str -> Option Value) : Prop where
 obj : h.get? x = some (PySem.W.instObj C dx)
 ns : h.Ns1 dx mA
 ne : dx ≠ x
theorem O0 {h : Heap} {dx : Addr} {mA : Str -> Option Value} (n : h.Ns1 dx mA) : ∃ od, h.get? dx = some od /\ ∀ name, PySem.W.lookIn name od = some (mA name) := by
 obtain ⟨o, es, ep, ho, hd, hk, _, hm⟩ := n
 refine ⟨o, ho, fun name => ?_⟩
 have e := hm name
 unfold nsFind findBy at e
 rw [<- Array.find?_toList] at e
 unfold PySem.W.lookIn
 rw [hd]
 dsimp only
 split
 ·rename_i y q
  rw [q] at e
  exact congrArg some e
 ·rename_i q
  rw [q] at e
  have a : es.toList.any (·.refKey) = false := by
   rw [List.any_eq_false]
   intro y hy
   obtain ⟨z, t, hkey⟩ := hk y (Array.mem_toList_iff.mp hy)
   simp [DictEntry.refKey, hkey]
  have a' : ¬ es.toList.any (·.refKey) = true := by rw [a]; exact xa2
  rw [xa1 a']
  exact congrArg some e
theorem lI.look {h : Heap} {x dx C : Addr} {mA : Str -> Option Value} (I : lI h x dx C mA) : ∃ od, PySem.W.InstAt h x (PySem.W.instObj C dx) C (some od) /\ ∀ name, PySem.W.lookIn name od = some (mA name) :=
 let ⟨od, ho, hl⟩ := O0 I.ns
 ⟨od, ⟨I.obj, rfl, rfl, ho⟩, hl⟩
section
variable {prog : Program} {w : World} {A : Around} {E : Value -> Shared -> Prop} {s : Shared} {K : xFg} {x dx C f : Addr} {mA : Str -> Option Value} {name : Str} {v : Value}
theorem O3 {expr : Bool} {Q : Value -> Shared -> Prop} (X : K.In s.heap) (I : lI s.heap x dx C mA) (hg : PySem.W.plainGet K C name = true) (hh : PySem.W.hasDictIn K C = true)
  (ha : PySem.W.findIn K (.ref C) name = some none) (hv : mA name = some v) (hv' : PySem.W.handedIn v = true) (h : Q v { s with toks := s.toks + 1 }) :
  wpAny (model prog w) A (getAttr (.ref x) name expr) Q E s := by
 obtain ⟨od, J, hl⟩ := I.look
 exact PySem.W.get_value X J (PySem.W.plainGet_of hg).1 (PySem.W.findObj_own hh ha rfl (by rw [hl, hv])) hv' h
theorem O4 {pl : Sem Bool} {Q : Value × List Value -> Shared -> Prop} (X : K.In s.heap) (I : lI s.heap x dx C mA) (hg : PySem.W.plainGet K C name = true)
  (hf : PySem.W.findIn K (.ref C) name = some (some (.ref f))) (ht : PySem.W.isFn K (.ref f) = true) (hv : mA name = none) (h : Q (.ref f, [.ref x]) s) :
  wpAny (model prog w) A (getMethod (.ref x) name pl) Q E s := by
 obtain ⟨od, J, hl⟩ := I.look
 exact PySem.W.method_fn X J (PySem.W.plainGet_of hg).1 (PySem.W.plainGet_of hg).2 hf (beq_iff_eq.mp ht) (by show (PySem.W.lookIn name od).map (·.isSome) = some false; rw [hl, hv]; rfl) h
theorem O5 {ns : List Str} {Q : Unit -> Shared -> Prop} (X : K.In s.heap) (I : lI s.heap x dx C mA)
  (hs : PySem.W.findIn K (.ref C) "__setattr__" = some (some (.builtin "object.__setattr__"))) (hp : PySem.W.plainOver K C = true) (ht : PySem.W.takerIn K C name = some none) (hh : PySem.W.hasDictIn K C = true)
  (hw : PySem.Within mA ns) (hsz : ns.length <= sizeLine)
  (h : ∀ h', lI h' x dx C (fun y => if y = name then some v else mA y) -> Heap.SameBut dx s.heap h' -> Q () { s with heap := h', toks := s.toks + 2 }) :
  wpAny (model prog w) A (setAttr (.ref x) name v) Q E s := by
 obtain ⟨od, J, hl⟩ := I.look
 refine PySem.W.set_plain X J hs (PySem.W.osa_open (s := { s with toks := s.toks + 1 }) (r := none) X J hp ht fun b => ?_)
 obtain ⟨cd, hc, hd'⟩ := PySem.W.any_some hh
 have hx : s.heap.get? x = some ⟨.ref C, some dx, .plain, #[]⟩ := I.obj
 refine xab (xap (xab (xab (wpAny_loadPart hx (xab (PySem.W.Looks.here (s := { s with toks := s.toks + 1 }) (PySem.W.looks_clsIn X hc) ?_))))))
 rw [hd']
 refine xap (a := some dx) (xab (xap (xab ?_)))
 refine wpAny_nsSet1 (s := { s with toks := s.toks + 1 }) I.ns fun h' hn2 hs2 => ?_
 obtain ⟨oD, esD, epD, hoD, hdD, hcD⟩ := hn2.count (PySem.Within.cons name v hw)
 refine xab (wpAny_lookBehind hoD (by rw [hdD]; exact pastItsLine_dict (xaj hcD (by rw [xaf]; omega))) ?_)
 exact xap (h _ ⟨(hs2.2 _ (xbd I.ne)).trans I.obj, hn2, I.ne⟩ hs2)
theorem O6 {R : Result -> Shared -> Prop} {vs : List Value} {kw : List (Str × Value)} (X : K.In s.heap) (hm : PySem.W.makesIn K C = true)
  (hi : PySem.W.findIn K (.ref C) "__init__" = some (some (.ref f))) (hf : PySem.W.typeIn K (.ref f) = some (.type "function"))
  (h : codeAny (model prog w) (A.under (.builtin "type.__call__" ⟨.ref C :: vs, kw⟩)) (.call (.ref f) ⟨.ref (s.heap.objs.size + 1) :: vs, kw⟩) (PySem.W.InitBack (s.heap.objs.size + 1) R)
   { s with heap := (s.heap.push PySem.W.emptyDict).push (PySem.W.instObj C s.heap.objs.size) }) :
  codeAny (model prog w) A (.call (.ref C) ⟨vs, kw⟩) R s := by
 obtain ⟨hh, g, d, t, os⟩ := s
 exact PySem.W.make_core (PySem.W.makes_of X hm) (PySem.W.looks_findIn X hi) (fun self => PySem.W.bind_fn X self hf) (.inl rfl) h
end
def dW (f : Str) (v : V) : List (Str × V) -> List (Str × V)
 | [] => [(f, v)]
 | (g, x) :: r => if g = f then (g, v) :: r else (g, x) :: dW f v r
theorem zK (f g : Str) (v : V) : ∀ fs : List (Str × V), (dW f v fs).lookup g = if g = f then some v else fs.lookup g
 | [] => by
  show List.lookup g [(f, v)] = _
  by_cases h : g = f
  ·have hb : (g == f) = true := beq_iff_eq.mpr h
   simp only [List.lookup, hb, xa4 h]
  ·have hb : (g == f) = false := beq_eq_false_iff_ne.mpr h
   simp only [List.lookup, hb, xa1 h]
 | (k, x) :: r => by
  have ih := zK f g v r
  rw [show dW f v ((k, x) :: r) = (if k = f then (k, v) :: r else (k, x) :: dW f v r) from rfl]
  by_cases hk : k = f
  ·rw [xa4 hk]
   by_cases h : g = k
   ·have hb : (g == k) = true := beq_iff_eq.mpr h
    simp only [List.lookup, hb, xa4 (h.trans hk)]
   ·have hb : (g == k) = false := beq_eq_false_iff_ne.mpr h
    simp only [List.lookup, hb, xa1 (fun e : g = f => h (e.trans hk.symm))]
  ·rw [xa1 hk]
   by_cases h : g = k
   ·have hb : (g == k) = true := beq_iff_eq.mpr h
    simp only [List.lookup, hb, xa1 (fun e : g = f => hk (h.symm.trans e))]
   ·have hb : (g == k) = false := beq_eq_false_iff_ne.mpr h
    simp only [List.lookup, hb]
    exact ih
theorem uN (f : Str) (v : V) : ∀ fs : List (Str × V), f ∈ (dW f v fs).map (·.1) /\ ∀ g, g ∈ fs.map (·.1) -> g ∈ (dW f v fs).map (·.1)
 | [] => ⟨by simp [dW], fun g h => by simp at h⟩
 | (k, x) :: r => by
  obtain ⟨i1, i2⟩ := uN f v r
  rw [show dW f v ((k, x) :: r) = (if k = f then (k, v) :: r else (k, x) :: dW f v r) from rfl]
  by_cases hk : k = f
  ·rw [xa4 hk]
   subst hk
   exact ⟨by simp, fun g h => by simpa using h⟩
  ·rw [xa1 hk]
   refine ⟨?_, fun g h => ?_⟩
   ·rw [xbi]
    exact xah _ i1
   ·rw [xbi] at h ⊢
    rcases xag.mp h with e | e
    ·exact xag.mpr (.inl e)
    ·exact xah _ (i2 g e)
theorem zL (f : Str) (v : V) : ∀ fs : List (Str × V), (dW f v fs).length <= fs.length + 1
 | [] => by simp [dW]
 | (k, x) :: r => by
  have ih := zL f v r
  rw [show dW f v ((k, x) :: r) = (if k = f then (k, v) :: r else (k, x) :: dW f v r) from rfl]
  by_cases hk : k = f
  ·rw [xa4 hk, xaf, xaf]; omega
  ·rw [xa1 hk, xaf, xaf]; omega
theorem iJ.some_of {v : V} {o : Option Value} (r : iJ (some v) o) : ∃ u, o = some u /\ aR v u := by
 cases o with
 | none => exact (show False from r).elim
 | some u => exact ⟨u, rfl, r⟩
theorem iJ.none_of {o : Option Value} (r : iJ none o) : o = none := by
 cases o with
 | none => rfl
 | some u => exact (show False from r).elim
theorem O7 {v : V} {u : Value} (r : aR v u) : PySem.W.handedIn u = true := by
 cases v with
 | non => cases (show u = Value.none from r); rfl
 | bl b => cases (show u = Value.bool b from r); rfl
 | int i => obtain ⟨t, e⟩ := (show ∃ t, u = Value.int i t from r); cases e; rfl
 | str x => obtain ⟨t, e⟩ := (show ∃ t, u = Value.str x t from r); cases e; rfl
 | byt b => obtain ⟨t, e⟩ := (show ∃ t, u = Value.bytes b t from r); cases e; rfl
 | flt b => obtain ⟨t, e⟩ := (show ∃ t, u = Value.float b t from r); cases e; rfl
 | ref a => cases (show u = Value.ref a from r); rfl
 | ty n => cases (show u = Value.type n from r); rfl
section
variable {P : Program} {w : World} {H H' : Hp} {h h' : Heap} {a C dx : Addr} {fs fs' : List (Str × V)}
theorem uO (hok : cP P w H h) (e : H a = some (.ins C dx fs)) : ∃ mA, lI h a dx C mA /\ (∀ f, iJ (fs.lookup f) (mA f)) /\ PySem.Within mA (fs.map (·.1)) /\ fs.length <= 1000 /\ H dx = some (.own a) := by
 obtain ⟨d, z, ne, ob, mA, n, r, q⟩ := (show dI P w H h a (.ins C dx fs) from hok a _ e)
 exact ⟨mA, ⟨ob, n, ne⟩, r, q, z, d⟩
end
structure hJ (K : xFg) (C : Addr) : Prop where
 pg : PySem.W.plainGet K C Str.empty = true
 hd : PySem.W.hasDictIn K C = true
 po : PySem.W.plainOver K C = true
 sa : PySem.W.findIn K (.ref C) "__setattr__" = some (some (.builtin "object.__setattr__"))
theorem hJ.get {K : xFg} {C : Addr} (c : hJ K C) (f : Str) : PySem.W.plainGet K C f = true := c.pg
def jI (K : xFg) (C : Addr) (f : Str) : Prop := PySem.W.findIn K (.ref C) f = some none
theorem jI.taker {K : xFg} {C : Addr} {f : Str} (n : jI K C f) : PySem.W.takerIn K C f = some none := by
 unfold PySem.W.takerIn
 rw [show PySem.W.findIn K (.ref C) f = some none from n]
 rfl
structure kF (K : xFg) (C : Addr) (m : Str) (f : Addr) : Prop where
 at_ : PySem.W.findIn K (.ref C) m = some (some (.ref f))
 fn : PySem.W.isFn K (.ref f) = true
 kp : PySem.W.keepIn K (.ref f) = true
section
variable {X : Cx} {pins : List (Addr × Obj)} {U : St} {H : Hp} {s : Shared} {a C dx : Addr} {fs : List (Str × V)} {f : Str} {v : V} {A : Around} {E : Value -> Shared -> Prop}
theorem zM {b : Bool} {Q : Value -> Shared -> Prop} (I : aH X pins U H s) (e : H a = some (.ins C dx fs)) (c : hJ X.K C) (n : jI X.K C f) (l : fs.lookup f = some v)
  (h : ∀ u s', aH X pins U H s' -> aR v u -> Q u s') : wpAny (model X.prog X.w) A (getAttr (.ref a) f b) Q E s := by
 obtain ⟨mA, O, r, _, _, _⟩ := uO I.hok e
 obtain ⟨u, hu, ru⟩ := iJ.some_of (v := v) (o := mA f) (by rw [<- l]; exact r f)
 exact O3 I.kIn O (c.get f) c.hd n hu (O7 ru) (h u _ (I.tok _) ru)
theorem zN {m : Str} {g : Addr} {pl : Sem Bool} {Q : Value × List Value -> Shared -> Prop} (I : aH X pins U H s) (e : H a = some (.ins C dx fs)) (c : hJ X.K C) (k : kF X.K C m g) (l : fs.lookup m = none)
  (h : Q (.ref g, [.ref a]) s) : wpAny (model X.prog X.w) A (getMethod (.ref a) m pl) Q E s := by
 obtain ⟨mA, O, r, _, _, _⟩ := uO I.hok e
 have hn : mA m = none := iJ.none_of (by rw [<- l]; exact r m)
 exact O4 I.kIn O (c.get m) k.at_ k.fn hn h
theorem zO {y : V} {u : Value} {Q : Unit -> Shared -> Prop} (I : aH X pins U H s) (e : H a = some (.ins C dx fs)) (c : hJ X.K C) (n : jI X.K C f) (hl : fs.length < 1000) (ry : aR y u)
  (h : ∀ s', aH X pins U (aO H a (.ins C dx (dW f y fs))) s' -> Q () s') : wpAny (model X.prog X.w) A (setAttr (.ref a) f u) Q E s := by
 obtain ⟨mA, O, r, wi, _, ho⟩ := uO I.hok e
 have hz : (fs.map (·.1)).length <= sizeLine := by rw [xae, sizeLine_eq]; omega
 refine O5 I.kIn O c.sa c.po n.taker c.hd wi hz fun h' O' sb => h _ ?_
 have hd : ∃ o, h'.get? dx = some o := let ⟨o, _, _, e', _⟩ := O'.ns; ⟨o, e'⟩
 refine I.write (x := a) (e := dx) (by rw [e]; exact True.intro) (.inr ho) (fun b q hb z => (sb.2 b hb).trans z) hd ?_
 refine ⟨by rw [bC O.ne]; exact ho, ?_, O.ne, O'.obj, _, O'.ns, fun g => ?_, fun g hg => ?_⟩
 ·have := zL f y fs; omega
 ·show iJ ((dW f y fs).lookup g) (if g = f then some u else mA g)
  rw [zK]
  by_cases q : g = f
  ·rw [xa4 q, xa4 q]; exact ry
  ·rw [xa1 q, xa1 q]; exact r g
 ·by_cases q : g = f
  ·rw [q]; exact (uN f y fs).1
  ·refine (uN f y fs).2 g (wi g fun z => hg ?_)
   show (if g = f then some u else mA g) = none
   rw [xa1 q]; exact z
theorem aH.made (I : aH X pins U H s) : aH X pins U (aO (aO H s.heap.objs.size (.own (s.heap.objs.size + 1))) (s.heap.objs.size + 1) (.ins C s.heap.objs.size []))
  { s with heap := (s.heap.push PySem.W.emptyDict).push (PySem.W.instObj C s.heap.objs.size) } := by
 have e1 : (s.heap.push PySem.W.emptyDict).get? s.heap.objs.size = some PySem.W.emptyDict := xav s.heap rfl
 have e2 : ((s.heap.push PySem.W.emptyDict).push (PySem.W.instObj C s.heap.objs.size)).get? (s.heap.objs.size + 1) = some (PySem.W.instObj C s.heap.objs.size) := by
  have := xav (s.heap.push PySem.W.emptyDict) (o := PySem.W.instObj C s.heap.objs.size) rfl
  rwa [xbq] at this
 have e3 : (s.heap.push PySem.W.emptyDict).Ns s.heap.objs.size (fun _ => none) := ⟨PySem.W.emptyDict, #[], _, e1, rfl, (fun e he => xaq he (by simp)), fun _ => rfl⟩
 have I1 := I.laid (a := s.heap.objs.size) (o := .own (s.heap.objs.size + 1)) (h' := s.heap.push PySem.W.emptyDict) (t' := s.toks) (fun b u q => xad _ q) (xak _) ⟨_, e1⟩
 refine I1.laid (a := s.heap.objs.size + 1) (o := .ins C s.heap.objs.size []) (t' := s.toks) (fun b u q => xad _ q) (Nat.le_of_eq (xbq _ _)) ?_
 have ne : s.heap.objs.size ≠ s.heap.objs.size + 1 := xa6 (xb5 _)
 refine ⟨by rw [bC ne, bP], xbv _, ne, e2, fun _ => none, (Heap.Ns1.of_empty e3).at fun o q => xad _ q, fun _ => True.intro, fun y hy => xaq rfl hy⟩
theorem O8 {prog : Program} {w : World} {env : Env} {e : Expr} {f : Str} {pos : Pos} {s : Shared} {Q : Value -> Shared -> Prop} (hb : attributeBase e f env (eval e env) = eval e env)
  (h : wpAny (model prog w) A (eval e env) (fun o s₁ => wpAny (model prog w) A (getAttr o f true) Q E s₁) E s) : wpAny (model prog w) A (eval (.Attribute e f pos) env) Q E s :=
 Attribute_any_ h (by rw [arm_eval_Attribute, hb])
end
def O9 (K : xFg) (ta : TE) (f : Str) : TE := fun U H Q => ta U H fun x H1 => ∃ a C dx fs v, x = .ref a /\ H1 a = some (.ins C dx fs) /\ hJ K C /\ jI K C f /\ fs.lookup f = some v /\ Q v H1
def PB (K : xFg) (ta tv : TE) (f : Str) : TS := fun D U H => tv U H fun y H1 => ta U H1 fun x H2 => ∃ a C dx fs, x = .ref a /\ H2 a = some (.ins C dx fs) /\ hJ K C /\ jI K C f /\ fs.length < 1000 /\
 D.nx U (aO H2 a (.ins C dx (dW f y fs)))
def zP (X : Cx) (op : Operator) (rd : V -> V -> Hp -> VK -> Prop) : Prop :=
 ∀ (pins : List (Addr × Obj)) (s : Shared) (U : St) (H : Hp) (x y : V) (u v : Value) (Q : VK), aH X pins U H s -> aR x u -> aR y v -> rd x y H Q -> wpAny (model X.prog X.w) X.A (inplaceOp op u v) (EP X pins U Q) X.xe s
def PD (K : xFg) (ta tv : TE) (rd : V -> V -> Hp -> VK -> Prop) (f : Str) : TS := fun D U H => ta U H fun x H1 => ∃ a C dx fs v, x = .ref a /\ H1 a = some (.ins C dx fs) /\ hJ K C /\ jI K C f /\ fs.lookup f = some v /\
 tv U H1 fun y H2 => rd v y H2 fun z H3 => ∃ dx' fs', H3 a = some (.ins C dx' fs') /\ fs'.length < 1000 /\ D.nx U (aO H3 a (.ins C dx' (dW f z fs')))
section
variable {X : Cx} {o e value : Expr} {f : Str} {pos pos' tpos : Pos} {ta tv : TE}
theorem qU (he : PE X e ta) (hb : attributeBase e f X.env (eval e X.env) = eval e X.env) : PE X (.Attribute e f pos) (O9 X.K ta f) := by
 intro pins s U H Q I h
 refine O8 hb (aP (he pins s U H _ I h) fun u s1 ⟨x, H1, I1, rx, a, C, dx, fs, v, ex, ea, c, n, l, q⟩ => ?_)
 subst ex
 obtain rfl : u = Value.ref a := rx
 exact zM I1 ea c n l fun u' s2 I2 ru => ⟨v, H1, I2, ru, q⟩
theorem zQ (ha : PE X o ta) (hv : PE X value tv) (hs : swapsWith value (some (.Attribute o f pos')) pos.line X.env = pure false) : PS X (.Assign [.Attribute o f pos'] value pos) (PB X.K ta tv f) := by
 intro pins s U H D I h
 refine plainObj_wpAny_Assign_Attribute (aP (hv pins s U H _ I h) fun u s1 ⟨y, H1, I1, ry, q⟩ => aP (ha pins s1 U H1 _ I1 q) fun ov s2 ⟨x, H2, I2, rx, a, C, dx, fs, ex, ea, c, n, l, q2⟩ => ?_) hs
 subst ex
 obtain rfl : ov = Value.ref a := rx
 exact zO I2 ea c n l ry fun s3 I3 => ⟨U, _, I3, q2⟩
theorem PF {op : Operator} {rd : V -> V -> Hp -> VK -> Prop} (ha : PE X o ta) (hv : PE X value tv) (hop : zP X op rd) : PS X (.AugAssign (.Attribute o f tpos) op value pos) (PD X.K ta tv rd f) := by
 intro pins s U H D I h
 refine wpAny_AugAssign_AttributeAny (aP (ha pins s U H _ I h) fun ov s1 ⟨x, H1, I1, rx, a, C, dx, fs, v, ex, ea, c, n, l, q⟩ => ?_)
 subst ex
 obtain rfl : ov = Value.ref a := rx
 refine zM I1 ea c n l fun u s2 I2 ru => aP (hv pins s2 U H1 _ I2 q) fun w3 s3 ⟨y, H2, I3, ry, q3⟩ => aP (hop pins s3 U H2 v y u w3 _ I3 ru ry q3) fun w4 s4 ⟨z, H3, I4, rz, dx', fs', ea', l', q4⟩ => ?_
 exact zO I4 ea' c n l' rz fun s5 I5 => ⟨U, _, I5, q4⟩
def PH : V -> V -> Hp -> VK -> Prop := fun x y H Q => ∃ i j, x = .int i /\ y = .int j /\ Q (.int (i + j)) H
theorem PJ : zP X .Add PH := by
 rintro pins s U H x y u v Q I rx ry ⟨i, j, rfl, rfl, q⟩
 obtain ⟨t, rfl⟩ := (show ∃ t, u = Value.int i t from rx)
 obtain ⟨t', rfl⟩ := (show ∃ t', v = Value.int j t' from ry)
 exact PyProof.Rows.iadd_int ⟨.int (i + j), H, I.tok _, ⟨_, rfl⟩, q⟩
theorem za1 {pl : Sem Bool} {m : Str} {apos : Pos} {args : List Expr} {pins : List (Addr × Obj)} {s : Shared} {U : St} {H : Hp} {Q : Value -> Shared -> Prop} {te : TE} (he : PE X e te) (I : aH X pins U H s)
  (h : te U H fun x H1 => ∃ a C dx fs g, x = .ref a /\ H1 a = some (.ins C dx fs) /\ hJ X.K C /\ kF X.K C m g /\ fs.lookup m = none /\
   ∀ s1, aH X pins U H1 s1 -> wpAny (model X.prog X.w) X.A (callWith pos (.ref g) [.ref a] (backTo pos (starEach args X.env)) (backToKw pos (keywordEach [] X.env))) Q X.xe s1)
  (ht : eval (.Call (.Attribute e m apos) args [] pos) X.env = (do
   let ov <- eval e X.env
   standAt apos.atName
   let (f, first) <- holding [ov] (getMethod ov m pl)
   callWith pos f first (backTo pos (starEach args X.env)) (backToKw pos (keywordEach [] X.env)))) :
  wpAny (model X.prog X.w) X.A (eval (.Call (.Attribute e m apos) args [] pos) X.env) Q X.xe s := by
 refine PySem.W.methodCall_KW (pl := pl) (aP (he pins s U H _ I h) fun u s1 ⟨x, H1, I1, rx, a, C, dx, fs, g, ex, ea, c, k, l, q⟩ => ?_) ht
 subst ex
 obtain rfl : u = Value.ref a := rx
 exact zN I1 ea c k l (q s1 I1)
end
end L2
namespace L2
open PySem.Spec PyProof.Rows
structure cL (k : Nat) (A : Around) : Prop where
 hd : A.handled = none
 dp : A.depth + 3 * k + 5 < recursionLimit
 un : A.units + 16 * k + 200 < cLine
theorem cL.mono {j k : Nat} {A : Around} (r : cL k A) (h : j <= k) : cL j A := ⟨r.hd, by have := r.dp; omega, by have := r.un; omega⟩
theorem cL.deeper {k : Nat} {A : Around} (r : cL (k + 1) A) (env : Env) : cL k (A.deeper env) :=
 ⟨r.hd, by have := r.dp; show A.depth + 1 + 3 * k + 5 < _; omega, by have := r.un; show A.units + 3 + 16 * k + 200 < _; omega⟩
theorem PK {A : Around} {C : Addr} {us : List Value} {kw : List (Str × Value)} : (A.under (.builtin "type.__call__" ⟨.ref C :: us, kw⟩)).depth = A.depth + 1 := by
 first | rfl | simp [Around.under, Code.weight, Code.isCreation, Code.isGuard, Code.isCaller, Code.frames, Code.isFrame, guardIds]
theorem PL {A : Around} {C : Addr} {us : List Value} {kw : List (Str × Value)} : (A.under (.builtin "type.__call__" ⟨.ref C :: us, kw⟩)).units = A.units + 1 := by
 first | rfl | simp [Around.under, Code.cUnits, Code.frames, Code.isFrame]
theorem cL.make {k : Nat} {A : Around} (r : cL (k + 1) A) (C : Addr) (us : List Value) (kw : List (Str × Value)) : cL k (A.under (.builtin "type.__call__" ⟨.ref C :: us, kw⟩)) :=
 ⟨r.hd, by have := r.dp; rw [PK]; omega, by have := r.un; rw [PL]; omega⟩
theorem cL.depth {k : Nat} {A : Around} (r : cL k A) : A.depth < recursionLimit := by have := r.dp; omega
def zR : TA := fun _ H Q => Q [] H
def PM (ta : TE) (tr : TA) : TA := fun U H Q => ta U H fun x H1 => tr U H1 fun xs H2 => Q (x :: xs) H2
section
variable {X : Cx} {e : Expr} {es : List Expr} {te : TE} {t : TA} {pos : Pos}
theorem kG : PA X [] zR := fun _ _ _ _ H Q I h => Calls.spliced_nil ⟨[], H, I, .nil, h⟩
theorem kH (ha : PE X e te) (hr : PA X es t) (hs : starEach (e :: es) X.env = (false, eval e X.env) :: starEach es X.env := by rfl) : PA X (e :: es) (PM te t) := by
 intro pos pins s U H Q I h
 rw [hs]
 show wpAny _ _ (spliced ((false, eval e X.env) :: backTo pos (starEach es X.env))) _ _ s
 refine Calls.spliced_cons (aP (ha pins s U H _ I h) fun u s1 ⟨x, H1, I1, r1, q1⟩ => ?_)
 exact aP (hr pos pins s1 U H1 _ I1 q1) fun us s2 ⟨xs, H2, I2, r2, q2⟩ => ⟨x :: xs, H2, I2, .cons r1 r2, q2⟩
def PN (t : TA) : TE := fun U H Q => t U H fun xs H1 => xs.length <= sizeLine /\ ∀ p, H1 p = none -> Q (.ref p) (aO H1 p (.tup xs))
def PP (t : TA) : TE := fun U H Q => t U H fun xs H1 => xs.length <= sizeLine /\ ∀ p, H1 p = none -> Q (.ref p) (aO H1 p (.lst xs))
theorem PQ {x1} (h : PA X es t) : PE X (.Tuple es x1 pos) (PN t) := by
 intro pins s U H Q I hq
 refine wpAny_Tuple_spliced (aP (h pos pins s U H _ I hq) fun us s1 ⟨xs, H1, I1, r, z, q⟩ => ⟨by rw [<- r.length]; exact z, ?_⟩)
 have hf : H1 s1.heap.objs.size = none := I1.hok.fresh (xak _)
 refine ⟨.ref s1.heap.objs.size, aO H1 s1.heap.objs.size (.tup xs), I1.laid (t' := s1.toks) (fun b u e => xad _ e) (xak _) ?_, rfl, q _ hf⟩
 exact ⟨z, us, r, ⟨_, xav _ rfl, rfl, ⟨_, rfl⟩, rfl⟩⟩
theorem uP (h : PA X es t) : PE X (.List es pos) (PP t) := by
 intro pins s U H Q I hq
 refine wpAny_List_spliced (aP (h pos pins s U H _ I hq) fun us s1 ⟨xs, H1, I1, r, z, q⟩ => ⟨by rw [<- r.length]; exact z, ?_⟩)
 have hf : H1 s1.heap.objs.size = none := I1.hok.fresh (xak _)
 refine ⟨.ref s1.heap.objs.size, aO H1 s1.heap.objs.size (.lst xs), I1.laid (t' := s1.toks) (fun b u e => xad _ e) (xak _) ?_, rfl, q _ hf⟩
 exact ⟨z, us, 0, r, xav _ rfl⟩
end
abbrev Sp := List V -> Hp -> VK -> XK -> Prop
abbrev fC := List Env -> Hp -> Shared -> XK -> Value -> Shared -> Prop
structure lJ (P : Program) (w : World) (K : xFg) (mg : Str -> Option Value) (base : Heap) (A : Around) (outer : List Env) (s : Shared) (H : Hp) : Prop where
 frames : A.frames = some outer
 mod : Mod K mg base
 bs : ∀ b o, base.get? b = some o -> s.heap.get? b = some o /\ H b = none
 bsz : base.objs.size <= s.heap.objs.size
 funs : s.heap.FunFrames base outer
 frf : ∀ b ∈ cK outer, H b = none
 hok : cP P w H s.heap
 bare : AllBare s.gens
def CE (outer : List Env) (P : Program) (w : World) (H : Hp) (s : Shared) (Q : VK) (u : Value) (s' : Shared) : Prop :=
 ∃ v H', s'.os = s.os /\ AllBare s'.gens /\ Un (cK outer) [] H H' s.heap s'.heap /\ cP P w H' s'.heap /\ aR v u /\ Q v H'
def CR (CX : fC) (outer : List Env) (P : Program) (w : World) (H : Hp) (s : Shared) (Q : VK) (E : XK) (r : Result) (s' : Shared) : Prop :=
 match r with
 | .ok (.ret u) => CE outer P w H s Q u s'
 | .ok _ => False
 | .error e => CX outer H s E e s'
structure cH (P : Program) (w : World) (K : xFg) (mg : Str -> Option Value) (base : Heap) (CX : fC) (k : Nat) (f : Addr) (fd : FuncData) (ps : List Str) (sp : Sp) : Prop where
 len : ∀ vs H Q E, sp vs H Q E -> vs.length = ps.length
 run : ∀ (A : Around) (outer : List Env) (s : Shared) (H : Hp) (args : Args) (us : List Value) (vs : List V) (Q : VK) (E : XK), cL k A -> lJ P w K mg base A outer s H -> BindsTo s fd args (ps.zip us) -> a6 vs us -> sp vs H Q E ->
  codeAny (model P w) A (.call (.ref f) args) (CR CX outer P w H s Q E) s
theorem cH.mono {P : Program} {w : World} {K : xFg} {mg : Str -> Option Value} {base : Heap} {CX : fC} {j k : Nat} {f : Addr} {fd : FuncData} {ps : List Str} {sp : Sp} (F : cH P w K mg base CX j f fd ps sp) (h : j <= k) :
  cH P w K mg base CX k f fd ps sp := ⟨F.len, fun A outer s H args us vs Q E hr => F.run A outer s H args us vs Q E (hr.mono h)⟩
theorem cH.imp {P : Program} {w : World} {K : xFg} {mg : Str -> Option Value} {base : Heap} {CX : fC} {k : Nat} {f : Addr} {fd : FuncData} {ps : List Str} {sp sp' : Sp} (F : cH P w K mg base CX k f fd ps sp)
  (h : ∀ vs H Q E, sp' vs H Q E -> sp vs H Q E) : cH P w K mg base CX k f fd ps sp' :=
 ⟨fun vs H Q E q => F.len vs H Q E (h _ _ _ _ q), fun A outer s H args us vs Q E hr he hb hv hs => F.run A outer s H args us vs Q E hr he hb hv (h _ _ _ _ hs)⟩
theorem lJ.make {P : Program} {w : World} {K : xFg} {mg : Str -> Option Value} {base : Heap} {A : Around} {outer : List Env} {s : Shared} {H : Hp} (e : lJ P w K mg base A outer s H) (C : Addr) (us : List Value) (kw : List (Str × Value)) :
  lJ P w K mg base (A.under (.builtin "type.__call__" ⟨.ref C :: us, kw⟩)) outer s H := ⟨by first | exact e.frames | (simpa [Around.under, Code.envs, Code.isFrame, pushEnvs] using e.frames), e.mod, e.bs, e.bsz, e.funs, e.frf, e.hok, e.bare⟩
section
variable {X : Cx} {pins : List (Addr × Obj)} {U : St} {H : Hp} {s s' : Shared}
theorem aH.env0 (I : aH X pins U H s) : lJ X.prog X.w X.K X.mg X.base X.A X.stack s H :=
 ⟨I.ok.frames, I.ok.mod, I.bs, xaj I.ok.bsz I.sz, I.stack, I.stkFree, I.hok, I.bare⟩
theorem aH.after {Q : VK} {u : Value} (I : aH X pins U H s) (h : CE X.stack X.prog X.w H s Q u s') : EP X pins U Q u s' := by
 obtain ⟨v, H', os, bare, un, hok, r, q⟩ := h
 obtain ⟨hh, g, d, t, os'⟩ := s'
 obtain rfl : os' = s.os := os
 exact ⟨v, H', I.call (h' := hh) (g' := g) (d' := d) (t' := t) (ch := []) un hok bare (fun b z => xaq z (by simp)), r, q⟩
end
def PR (sp : Sp) (dvs : List V) (E : XK) (t : TA) : TE := fun U H Q => t U H fun vs H1 => sp (vs ++ dvs) H1 Q E
def PU (C : Addr) (m : Str) (sp : Sp) (dvs : List V) (E : XK) (ta : TE) (t : TA) : TE := fun U H Q => ta U H fun x H1 => ∃ a dx fs, x = .ref a /\ H1 a = some (.ins C dx fs) /\ fs.lookup m = none /\
 t U H1 fun vs H2 => sp (x :: (vs ++ dvs)) H2 Q E
def PV (C : Addr) (sp : Sp) (dvs : List V) (E : XK) (t : TA) : TE := fun U H Q => t U H fun vs H1 => ∀ x dx, H1 x = none -> H1 dx = none -> dx ≠ x ->
 sp (.ref x :: (vs ++ dvs)) (aO (aO H1 dx (.own x)) x (.ins C dx [])) (fun v H2 => v = .non /\ Q (.ref x) H2) E
def eE (K : xFg) (fd : FuncData) (ps : List Str) (ds : List Value) : Prop :=
 ∀ (s : Shared) (us : List Value), K.In s.heap -> (us ++ ds).length = ps.length -> BindsTo s fd ⟨us, []⟩ (ps.zip (us ++ ds))
theorem eE.all {K : xFg} {fd : FuncData} {ps : List Str} (h : ∀ us : List Value, us.length = ps.length -> bindArgs fd ⟨us, []⟩ = pure (ps.zip us)) : eE K fd ps [] := fun s us _ hl => by
 rw [xbm] at hl ⊢
 exact .of_eq (h us hl)
def kI (CX : fC) (X : Cx) (E : XK) : Prop := ∀ (pins : List (Addr × Obj)) (U : St) (H : Hp) (s : Shared) (e : Value) (s' : Shared), aH X pins U H s -> CX X.stack H s E e s' -> X.xe e s'
section
variable {X : Cx} {CX : fC} {k : Nat} {f C : Addr} {fd : FuncData} {ps : List Str} {sp : Sp} {dvs : List V} {ds : List Value} {E : XK} {x m : Str} {p pos apos : Pos} {e o : Expr} {es : List Expr} {ta : TE} {t : TA}
theorem zS {pins : List (Addr × Obj)} {U : St} {H : Hp} {s : Shared} {Q : VK} {us : List Value} {vs : List V} (F : cH X.prog X.w X.K X.mg X.base CX k f fd ps sp) (hr : cL k X.A) (hb : eE X.K fd ps ds) (hd : a6 dvs ds) (hx : kI CX X E)
  (I : aH X pins U H s) (r : a6 vs us) (h : sp (vs ++ dvs) H Q E) : wpAny (model X.prog X.w) X.A (call (.ref f) us) (EP X pins U Q) X.xe s := by
 have r2 : a6 (vs ++ dvs) (us ++ ds) := r.append hd
 have hl : (us ++ ds).length = ps.length := by rw [<- r2.length]; exact F.len _ _ _ _ h
 refine wpAny_call (codeAny_mono (F.run X.A X.stack s H ⟨us, []⟩ (us ++ ds) (vs ++ dvs) Q E hr I.env0 (hb s us I.kIn hl) r2 h) fun r s' hq => ?_)
 cases r with
 | error e => exact hx pins U H s e s' I hq
 | ok fl =>
  cases fl with
  | ret u => exact I.after hq
  | next => exact False.elim hq
  | brk => exact False.elim hq
  | cont => exact False.elim hq
theorem zT (F : cH X.prog X.w X.K X.mg X.base CX k f fd ps sp) (hr : cL k X.A) (hg : Gl X x) (hm : X.mg x = some (.ref f)) (hk : PySem.W.keepIn X.K (.ref f) = true) (hb : eE X.K fd ps ds) (hd : a6 dvs ds) (hx : kI CX X E)
  (ha : PA X (e :: es) t) (hdb : (x == ("__debug__" : Str)) = false := by decide) (he : starEach (e :: es) X.env = (false, eval e X.env) :: starEach es X.env := by rfl) (hpl : (backTo pos (starEach es X.env)).any (·.1) = false := by rfl) :
  PE X (.Call (.Name x p) (e :: es) [] pos) (PR sp dvs E t) := by
 intro pins s U H Q I h
 refine wpAny_Call_Name_kw (qK I hg hm ?_ hdb)
 refine PySem.W.callWith_K (h₀ := X.base) I.ok.mod.kin hk (aP (ha pos pins s U H _ I h) fun us s1 ⟨vs, H1, I1, r, q⟩ => ⟨I1.kIn, ?_⟩) he hpl
 exact zS F hr hb hd hx I1 r q
theorem uQ {pl : Sem Bool} (he : PE X o ta) (c : hJ X.K C) (hm : kF X.K C m f) (F : cH X.prog X.w X.K X.mg X.base CX k f fd ps sp) (hr : cL k X.A) (hb : eE X.K fd ps ds) (hd : a6 dvs ds) (hx : kI CX X E)
  (ht : eval (.Call (.Attribute o m apos) [] [] pos) X.env = (do
   let ov <- eval o X.env
   standAt apos.atName
   let (f, first) <- holding [ov] (getMethod ov m pl)
   callWith pos f first (backTo pos (starEach [] X.env)) (backToKw pos (keywordEach [] X.env))) := by rfl) :
  PE X (.Call (.Attribute o m apos) [] [] pos) (PU C m sp dvs E ta zR) := by
 intro pins s U H Q I h
 refine PySem.W.methodCall_KW (pl := pl) (aP (he pins s U H _ I h) fun u s1 ⟨x, H1, I1, rx, a, dx, fs, ex, ea, l, q⟩ => ?_) ht
 subst ex
 obtain rfl : u = Value.ref a := rx
 refine zN I1 ea c hm l ?_
 exact PySem.W.callWith_K0 (first := [.ref a]) I1.kIn hm.kp (zS (us := [.ref a]) (vs := [.ref a]) F hr hb hd hx I1 (.cons rfl .nil) q)
structure Mk (K : xFg) (C f : Addr) : Prop where
 makes : PySem.W.makesIn K C = true
 init : PySem.W.findIn K (.ref C) "__init__" = some (some (.ref f))
 fn : PySem.W.isFn K (.ref f) = true
 kp : PySem.W.keepIn K (.ref C) = true
theorem PX {pins : List (Addr × Obj)} {U : St} {H : Hp} {s : Shared} {Q : VK} {us : List Value} {vs : List V} (M : Mk X.K C f) (F : cH X.prog X.w X.K X.mg X.base CX k f fd ps sp) (hr : cL (k + 1) X.A) (hb : eE X.K fd ps ds) (hd : a6 dvs ds)
  (hx : kI CX X E) (I : aH X pins U H s) (r : a6 vs us)
  (h : ∀ x dx, H x = none -> H dx = none -> dx ≠ x -> sp (.ref x :: (vs ++ dvs)) (aO (aO H dx (.own x)) x (.ins C dx [])) (fun v H2 => v = .non /\ Q (.ref x) H2) E) :
  wpAny (model X.prog X.w) X.A (call (.ref C) us) (EP X pins U Q) X.xe s := by
 have hq := h (s.heap.objs.size + 1) s.heap.objs.size (I.hok.fresh (Nat.le_succ _)) (I.hok.fresh (xak _)) (xa6 (xb5 _))
 have I2 := aH.made (C := C) I
 have r2 : a6 (V.ref (s.heap.objs.size + 1) :: (vs ++ dvs)) (Value.ref (s.heap.objs.size + 1) :: (us ++ ds)) := .cons rfl (r.append hd)
 have hl : (Value.ref (s.heap.objs.size + 1) :: us ++ ds).length = ps.length := by
  have e := r2.length
  rw [F.len _ _ _ _ hq] at e
  exact e.symm
 refine wpAny_call (O6 (f := f) I.kIn M.makes M.init (beq_iff_eq.mp M.fn) (codeAny_mono (F.run _ X.stack _ _ ⟨Value.ref (s.heap.objs.size + 1) :: us, []⟩ (Value.ref (s.heap.objs.size + 1) :: (us ++ ds)) _ _ E (hr.make C us [])
  (I2.env0.make C us []) (hb _ (Value.ref (s.heap.objs.size + 1) :: us) I2.kIn hl) r2 hq) fun r s' hq' => ?_))
 cases r with
 | error e => exact hx pins U _ _ e s' I2 hq'
 | ok fl =>
  cases fl with
  | ret u =>
   obtain ⟨v, H', I3, rv, ev, q3⟩ := I2.after hq'
   subst ev
   exact ⟨rv, ⟨V.ref (s.heap.objs.size + 1), H', I3, rfl, q3⟩⟩
  | next => exact False.elim hq'
  | brk => exact False.elim hq'
  | cont => exact False.elim hq'
theorem PY (M : Mk X.K C f) (F : cH X.prog X.w X.K X.mg X.base CX k f fd ps sp) (hr : cL (k + 1) X.A) (hg : Gl X x) (hm : X.mg x = some (.ref C)) (hb : eE X.K fd ps ds) (hd : a6 dvs ds) (hx : kI CX X E)
  (ha : PA X (e :: es) t) (hdb : (x == ("__debug__" : Str)) = false := by decide) (he : starEach (e :: es) X.env = (false, eval e X.env) :: starEach es X.env := by rfl) (hpl : (backTo pos (starEach es X.env)).any (·.1) = false := by rfl) :
  PE X (.Call (.Name x p) (e :: es) [] pos) (PV C sp dvs E t) := by
 intro pins s U H Q I h
 refine wpAny_Call_Name_kw (qK I hg hm ?_ hdb)
 refine PySem.W.callWith_K (h₀ := X.base) I.ok.mod.kin M.kp (aP (ha pos pins s U H _ I h) fun us s1 ⟨vs, H1, I1, r, q⟩ => ⟨I1.kIn, ?_⟩) he hpl
 exact PX M F hr hb hd hx I1 r q
end
structure fD (N P : List Str) (sc : Scope) : Prop where
 kind : sc.kind = .function
 co : sc.isCoroutine = false
 gen : sc.isGenerator = false
 nd : N.Nodup
 pre : N.take P.length = P
 par : ∀ x ∈ P, sc.names.lookup x = some .local \/ sc.names.lookup x = some .cell
 nofree : ∀ y ∈ sc.names, y.2 ≠ .free
theorem zU {kindOf : Str -> Option NameKind} {x : Str} : ∀ {binds : List (Str × Value)} {m : Str -> Option Value}, (∀ v, (x, v) ∉ binds) -> bindL kindOf binds m x = m x
 | [], _, _ => rfl
 | (n, v) :: r, m, h => by
  unfold bindL
  rw [zU fun w hw => h w (xah _ hw)]
  split
  ·have : x ≠ n := by rintro rfl; exact h v xax
   simp [this]
  ·rfl
theorem zV {kindOf : Str -> Option NameKind} {x : Str} : ∀ {binds : List (Str × Value)} {m : Str -> Option Value}, (∀ v, (x, v) ∉ binds) -> bindC kindOf binds m x = m x
 | [], _, _ => rfl
 | (n, v) :: r, m, h => by
  unfold bindC
  rw [zV fun w hw => h w (xah _ hw)]
  split
  ·rfl
  ·have : x ≠ n := by rintro rfl; exact h v xax
   simp [this]
theorem zW {kindOf : Str -> Option NameKind} {x : Str} {v : Value} : ∀ {P : List Str} {vs : List Value} {i : Nat} {m : Str -> Option Value}, P.Nodup -> P[i]? = some x -> vs[i]? = some v -> kindOf x = some .local ->
  bindL kindOf (P.zip vs) m x = some v
 | [], _, _, _, _, h, _, _ => by simp at h
 | _ :: _, [], _, _, _, _, h, _ => by simp at h
 | p :: P, w :: vs, 0, m, nd, h1, h2, hk => by
  simp at h1 h2; subst h1; subst h2
  show bindL kindOf ((p, w) :: P.zip vs) m p = _
  unfold bindL
  rw [zU fun v hv => (xct.mp nd).1 (List.of_mem_zip hv).1, xa4 hk]
  simp
 | p :: P, w :: vs, i + 1, m, nd, h1, h2, hk => by
  show bindL kindOf ((p, w) :: P.zip vs) m x = _
  unfold bindL
  exact zW (i := i) (xct.mp nd).2 (by simpa using h1) (by simpa using h2) hk
theorem zX {kindOf : Str -> Option NameKind} {x : Str} {v : Value} : ∀ {P : List Str} {vs : List Value} {i : Nat} {m : Str -> Option Value}, P.Nodup -> P[i]? = some x -> vs[i]? = some v -> kindOf x ≠ some .local ->
  bindC kindOf (P.zip vs) m x = some v
 | [], _, _, _, _, h, _, _ => by simp at h
 | _ :: _, [], _, _, _, _, h, _ => by simp at h
 | p :: P, w :: vs, 0, m, nd, h1, h2, hk => by
  simp at h1 h2; subst h1; subst h2
  show bindC kindOf ((p, w) :: P.zip vs) m p = _
  unfold bindC
  rw [zV fun v hv => (xct.mp nd).1 (List.of_mem_zip hv).1, xa1 hk]
  simp
 | p :: P, w :: vs, i + 1, m, nd, h1, h2, hk => by
  show bindC kindOf ((p, w) :: P.zip vs) m x = _
  unfold bindC
  exact zX (i := i) (xct.mp nd).2 (by simpa using h1) (by simpa using h2) hk
def start (N : List Str) (vs : List V) : St := vs.map some ++ List.replicate (N.length - vs.length) none
def cW (CX : fC) (P : Program) (w : World) (K : xFg) (mg : Str -> Option Value) (base : Heap) (N : List Str) (qual : Str) (scope : Scope) (f : Addr) (cd : Value) (A : Around) (outer : List Env) (s : Shared) (H : Hp) (E : XK) : Cx where
 prog := P
 w := w
 K := K
 mg := mg
 base := base
 A := A.deeper (envOfC qual scope s.heap.objs.size f cd)
 N := N
 s₀ := s
 H₀ := H
 env := envOfC qual scope s.heap.objs.size f cd
 outer := outer
 stack := envOfC qual scope s.heap.objs.size f cd :: outer
 ex := []
 calm := true
 fn := fun _ => true
 pn := []
 xe := fun e s' => wpAny (model P w) (A.deeper (envOfC qual scope s.heap.objs.size f cd)) (leaving (envOfC qual scope s.heap.objs.size f cd) e) (fun _ s'' => CX outer H s E e s'') (fun e' s'' => CX outer H s E e' s'') s'
theorem zY {sc : Scope} {n : Nat} {x : Str} (h : sc.names.lookup x = some .cell) : ∃ c, (cellsFrom n sc.names []).lookup x = some c := by
 have q := PySem.W.cellsFrom_some sc.names n [] (.inl h)
 exact xb6.mp q
theorem PZ {CX : fC} {P : Program} {w : World} {K : xFg} {mg : Str -> Option Value} {base : Heap} {N ps : List Str} {qual : Str} {scope : Scope} {f : Addr} {cd : Value} {A : Around} {outer : List Env} {s s1 : Shared} {H : Hp} {E : XK} {us : List Value} {vs : List V}
  (S : fD N ps scope) (hd : A.handled = none) (e0 : lJ P w K mg base A outer s H) (hl : vs.length = ps.length) (r : a6 vs us)
  (x : InCallC s s.heap.objs.size (bindL (envOfC qual scope s.heap.objs.size f cd).kindOf (ps.zip us) fun _ => none) (cellsFrom (s.heap.objs.size + 1) scope.names []) (bindC (envOfC qual scope s.heap.objs.size f cd).kindOf (ps.zip us) fun _ => none) s1) :
  aH (cW CX P w K mg base N qual scope f cd A outer s H E) [] (start N vs) H s1 := by
 have hpl : ps.length <= N.length := by have := congrArg List.length S.pre; rw [xa9] at this; omega
 obtain ⟨h1, tk, rfl, hk⟩ := x.done
 have noA : ∀ b : Addr, b ∉ (cW CX P w K mg base N qual scope f cd A outer s H E).ex := fun b z => xaq (show b ∈ ([] : List Addr) from z) (by simp)
 refine ⟨⟨e0.mod, S.kind, rfl, rfl, xak _, fun y z c h1 h2 => ?_, fun y hy => ?_, fun y c _ h => ?_, fun _ => hd, Around.frames_deeper e0.frames, .inr ⟨rfl, rfl⟩, fun b z => xaq z (noA b), e0.bs, e0.bsz, fun b _ _ => noA b, fun b z => xaq z (noA b), e0.funs, e0.frf⟩,
  rfl, e0.bare, Un.kept hk, ⟨_, x.toInCall.ns, fun i y v h1 h2 h3 => ?_⟩, fun y c h => ⟨_, x.cell y c h⟩, e0.hok.fresh (xak _), fun y c h => ?_, fun p hp => xaq (show p ∈ ([] : List (Addr × Obj)) from hp) (by simp), e0.hok.kept hk, ?_⟩
 ·exact name_of_addr x.apart (PySem.mem_of_lookup h1) (PySem.mem_of_lookup h2)
 ·have hy : scope.names.lookup y = some .cell \/ scope.names.lookup y = some .free := hy
  rcases hy with hy | hy
  ·exact zY hy
  ·exact xaq rfl (S.nofree _ (PySem.mem_of_lookup hy))
 ·exact xch (x.above y c (PySem.mem_of_lookup h))
 ·have hi : i < vs.length := by
   unfold start at h2
   by_cases hi : i < vs.length
   ·exact hi
   ·rw [xbe (by simpa using hi)] at h2
    rw [xb8] at h2
    split at h2 <;> cases h2
  have ha : vs[i]? = some v := by
   unfold start at h2
   rw [xbc (by simpa using hi), xba] at h2
   cases e : vs[i]? with
   | none => rw [e] at h2; cases h2
   | some a => rw [e] at h2; cases h2; rfl
  obtain ⟨u, hu, rv⟩ := r.get ha
  have hp : ps[i]? = some y := by
   rw [<- S.pre, List.getElem?_take_of_lt (by omega)]; exact h1
  have ndP : ps.Nodup := by rw [<- S.pre]; exact S.nd.sublist (List.take_sublist _ _)
  refine ⟨u, rv, ?_⟩
  rcases S.par y (xbo hp) with k | k
  ·exact .inl ⟨k, zW ndP hp hu k⟩
  ·obtain ⟨c, e⟩ := zY (n := s.heap.objs.size + 1) k
   refine .inr ⟨.inl k, c, e, ?_⟩
   have q := x.cell y c e
   rw [zX ndP hp hu (by show scope.names.lookup y ≠ _; rw [k]; decide)] at q
   exact q
 ·exact e0.hok.fresh (xch (x.above y c (PySem.mem_of_lookup h)))
 ·unfold start
  show _ = N.length
  rw [xaa, xae, xb0]
  omega
theorem P0 {CX : fC} {P : Program} {w : World} {K : xFg} {mg : Str -> Option Value} {base : Heap} {k : Nat} {f : Addr} {name qual : Str} {params : Arguments} {body : List Stmt} {scope : Scope} {dV kV doc pm cdv ct oc : Value} {an od : Option Addr}
  {osl : Array (Option Value)} {N ps : List Str} {sp : Sp} (lk : K.lookup f = some ⟨oc, od, .func (PySem.W.fnOf name qual params body scope dV kV doc pm an cdv ct), osl⟩) (hcd : PySem.W.codeIn K cdv qual = true) (S : fD N ps scope)
  (len : ∀ vs H Q E, sp vs H Q E -> vs.length = ps.length)
  (hbody : ∀ (A : Around) (outer : List Env) (s : Shared) (H : Hp) (vs : List V) (Q : VK) (E : XK), cL k (A.deeper (envOfC qual scope s.heap.objs.size f cdv)) -> sp vs H Q E ->
   ∃ t, cU (cW CX P w K mg base N qual scope f cdv A outer s H E) body t /\ t { nx := fun _ H' => Q .non H', rt := Q } (start N vs) H) :
  cH P w K mg base CX (k + 1) f (PySem.W.fnOf name qual params body scope dV kV doc pm an cdv ct) ps sp := by
 refine ⟨len, fun A outer s H args us vs Q E hr e0 hb r hsp => ?_⟩
 have hl := len _ _ _ _ hsp
 have KX : K.In s.heap := e0.mod.kin.keeps fun b o e => (e0.bs b o e).1
 have lim : s.heap.NoLimit := e0.mod.nolimit.keeps fun b o e => (e0.bs b o e).1
 have hkind : ∀ y ∈ ps.zip us, scope.names.lookup y.1 = some .local \/ (scope.names.lookup y.1 = some .cell /\ ((cellsFrom (s.heap.objs.size + 1) scope.names []).lookup y.1).isSome = true) := fun ⟨n, v⟩ hy => by
  rcases S.par n (List.of_mem_zip hy).1 with q | q
  ·exact .inl q
  ·exact .inr ⟨q, PySem.W.cellsFrom_some _ _ _ (.inl q)⟩
 refine codeAny_call_function hr.depth (KX _ _ lk) rfl S.co S.gen rfl (PySem.W.codeRec_of KX hcd) (hb _ _ _ _ ?_)
 refine wpAny_newFunctionEnv_cells S.kind hkind fun env he s1 x => ?_
 subst he
 refine ⟨lim.keeps x.toInCall.keep, codeAny_func ?_⟩
 obtain ⟨t, ht, hq⟩ := hbody A outer s H vs Q E (hr.deeper _) hsp
 have I : aH (cW CX P w K mg base N qual scope f cdv A outer s H E) [] (start N vs) H s1 := PZ S hr.hd e0 hl r x
 refine wpAny_mono (ht [] s1 (start N vs) H _ I hq) (fun fl s' hs => ?_) fun e s' hs => hs
 have fin : ∀ {U' : St} {H' : Hp} {v : V} {u : Value}, aH (cW CX P w K mg base N qual scope f cdv A outer s H E) [] U' H' s' -> aR v u -> Q v H' -> CE outer P w H s Q u s' :=
  fun {U' H' v u} J rv q => ⟨v, H', J.os, J.bare, J.base, J.hok, rv, q⟩
 cases fl with
 | ret u =>
  obtain ⟨v, U', H', J, rv, q⟩ := hs
  exact fin J rv q
 | next =>
  obtain ⟨U', H', J, q⟩ := hs
  exact fin (v := V.non) (u := Value.none) J rfl q
 | brk =>
  obtain ⟨_, _, _, q⟩ := hs
  exact False.elim q
 | cont =>
  obtain ⟨_, _, _, q⟩ := hs
  exact False.elim q
end L2
namespace L2
open PySem.Spec PyProof.Rows
section
variable {X : Cx} {x : Str} {p pos : Pos} {e : Expr} {es : List Expr} {t : TA} {id T : String} {r : List V -> Hp -> VK -> Prop}
def tCB (r : List V -> Hp -> VK -> Prop) (t : TA) : TE := fun U H Q => t U H fun vs H1 => r vs H1 Q
theorem uR (hc : c9 X (.builtin id) r) (hg : Gl X x) (hm : X.mg x = none) (hv : bootBuiltins x = some (.builtin id)) (ha : PA X (e :: es) t) (hn : x ≠ "__name__" := by decide) (hdb : (x == ("__debug__" : Str)) = false := by decide)
  (he : starEach (e :: es) X.env = (false, eval e X.env) :: starEach es X.env := by rfl) (hpl : (backTo pos (starEach es X.env)).any (·.1) = false := by rfl) : PE X (.Call (.Name x p) (e :: es) [] pos) (tCB r t) := by
 intro pins s U H Q I h
 refine wpAny_Call_Name_kw (oO I hg hm hv ?_ hn hdb)
 exact PyProof.Rows.callWith_builtin1 (aP (ha pos pins s U H _ I h) fun us s1 ⟨vs, H1, I1, r1, q1⟩ => hc pins s1 U H1 vs us Q I1 r1 q1) he hpl
theorem uS (hc : c9 X (.type T) r) (hg : Gl X x) (hm : X.mg x = none) (hv : bootBuiltins x = some (.type T)) (ha : PA X (e :: es) t) (hn : x ≠ "__name__" := by decide) (hdb : (x == ("__debug__" : Str)) = false := by decide)
  (he : starEach (e :: es) X.env = (false, eval e X.env) :: starEach es X.env := by rfl) (hpl : (backTo pos (starEach es X.env)).any (·.1) = false := by rfl) : PE X (.Call (.Name x p) (e :: es) [] pos) (tCB r t) := by
 intro pins s U H Q I h
 refine wpAny_Call_Name_kw (oO I hg hm hv ?_ hn hdb)
 exact PyProof.Rows.callWith_type1 (aP (ha pos pins s U H _ I h) fun us s1 ⟨vs, H1, I1, r1, q1⟩ => hc pins s1 U H1 vs us Q I1 r1 q1) he hpl
end
end L2
namespace HT
open PyProof.Rows
section
variable {prog : Program} {w : World} {A : Around} {E : Value -> Shared -> Prop} {s : Shared}
theorem cat_tup {t b : Addr} {vs ws : List Value} {Q : Value -> Shared -> Prop} (ht : IsTup s.heap t vs.toArray) (hb : IsTup s.heap b ws.toArray) (hv : vs ≠ [])
  (h1 : ws = [] -> Q (.ref t) s) (h2 : ws ≠ [] -> Q (.ref s.heap.objs.size) { s with heap := s.heap.push { cls := .type "tuple", data := .seq (vs ++ ws).toArray } })
  (hsz : vs.length + ws.length <= sizeLine) : wpAny (model prog w) A (binaryOp .Add (.ref t) (.ref b)) Q E s := by
 obtain ⟨⟨cls, dd, data, sl⟩, ho, hc, n, hd⟩ := id ht
 obtain ⟨⟨cls2, dd2, data2, sl2⟩, ho2, hc2, n2, hd2⟩ := id hb
 simp only at hc hd hc2 hd2
 subst hc hd hc2 hd2
 have e : vs.toArray ++ ws.toArray = (vs ++ ws).toArray := by simp
 by_cases hw : ws = []
 ·exact concat_meets ⟨_, ho, rfl⟩ ⟨_, ho2, rfl⟩ noFill_tuple_add seq_tuple_add PySem.F.slot_tuple_add PySem.F.entry_tuple_add (PySem.F.args_tuple_add_2 _ _)
   (tuple_addW1 t b vs.toArray ws.toArray n n2 dd dd2 sl sl2 (by simpa using hv) (by simp [hw])) ⟨ho, ho2, h1 hw⟩
 ·refine concat_meets ⟨_, ho, rfl⟩ ⟨_, ho2, rfl⟩ noFill_tuple_add seq_tuple_add PySem.F.slot_tuple_add PySem.F.entry_tuple_add (PySem.F.args_tuple_add_2 _ _)
   (tuple_addW2 t b vs.toArray ws.toArray n n2 dd dd2 sl sl2 (by simpa using hv) (by simpa using hw) (by rw [xal, xal]; exact hsz)) ⟨ho, ho2, ?_⟩
  rw [e]
  exact h2 hw
def sIx (n d : Nat) : Option Int -> Nat
 | none => d
 | some v => if v < 0 then (v + (n : Int)).toNat else min v.toNat n
theorem sIx_none (n d : Nat) : sIx n d none = d := rfl
theorem sIx_nat (n d k : Nat) : sIx n d (some (k : Int)) = min k n := by
 show (if (k : Int) < 0 then ((k : Int) + (n : Int)).toNat else min (k : Int).toNat n) = min k n
 rw [xa1 (by omega), xbl]
theorem sIx_le (n d : Nat) (hd : d <= n) (o : Option Int) : sIx n d o <= n := by
 cases o with
 | none => exact hd
 | some v =>
  show (if v < 0 then (v + (n : Int)).toNat else min v.toNat n) <= n
  by_cases hv : v < 0
  ·rw [xa4 hv]; omega
  ·rw [xa1 hv]; exact Nat.min_le_right _ _
theorem z0 (v : Int) (n d : Nat) : (if v < 0 then max (v + (n : Int)) 0 else min v (n : Int)) = ((sIx n d (some v) : Nat) : Int) := by
 show (if v < 0 then max (v + (n : Int)) 0 else min v (n : Int)) = (((if v < 0 then (v + (n : Int)).toNat else min v.toNat n) : Nat) : Int)
 by_cases hv : v < 0
 ·simp only [xa4 hv]; omega
 ·simp only [xa1 hv]; omega
theorem P1 (lo hi : Option Int) (n : Nat) : Builtin.Slice.sliceAdjust lo hi 1 (n : Int) = (((sIx n 0 lo : Nat) : Int), ((sIx n n hi : Nat) : Int)) := by
 have h1 : ¬ ((1 : Int) < 0) := by omega
 unfold Builtin.Slice.sliceAdjust
 simp only [h1, if_false]
 refine Prod.ext ?_ ?_
 ·cases lo with
  | none => rfl
  | some v => exact z0 v n 0
 ·cases hi with
  | none => rfl
  | some v => exact z0 v n n
theorem P2 (i j : Nat) : Builtin.Slice.slicePlaces (i : Int) (j : Int) 1 = j - i := by
 unfold Builtin.Slice.slicePlaces
 have h1 : (1 : Int) > 0 := by omega
 simp only [h1, if_true, Int.ediv_one]
 split <;> omega
theorem AA {v : Value} {o : Option Int} {Q : Option Int -> Shared -> Prop} (p : IsPart v o) (h : Q o s) : wpAny (model prog w) A (Builtin.Slice.slicePartIndex v) Q E s := by
 cases p with
 | none => exact slicePart_none h
 | int i t => exact slicePart_int h
theorem P3 {sl : Addr} {vl vu : Value} {lo hi : Option Int} {n : Nat} {Q : Int × Int × Nat -> Shared -> Prop} (hs : s.heap.IsSliceOf sl vl vu .none) (pl : IsPart vl lo) (pu : IsPart vu hi)
  (h : Q (((sIx n 0 lo : Nat) : Int), 1, sIx n n hi - sIx n 0 lo) s) : wpAny (model prog w) A (Builtin.Slice.sliceApplied (.ref sl) (pure (n : Int))) Q E s := by
 obtain ⟨os, hos, hcs, hds⟩ := id hs
 unfold Builtin.Slice.sliceApplied Builtin.Slice.sliceFields
 refine xab (xab (wpAny_field hos hds (x := vl) rfl (xab (wpAny_field hos hds (x := vu) rfl (xab (wpAny_field hos hds (x := .none) rfl (xap ?_)))))))
 refine xab (slicePart_none ?_)
 show wpAny _ _ (if ((1 : Int) == 0) = true then _ else _) _ _ s
 rw [xa1 (by decide)]
 refine xab (AA pl (xab (AA pu (xab (xap ?_)))))
 show wpAny _ _ (match Builtin.Slice.sliceAdjust lo hi 1 (n : Int) with | (lo, hi) => pure (lo, (1 : Int), Builtin.Slice.slicePlaces lo hi 1)) _ _ s
 rw [P1 lo hi n]
 show wpAny _ _ (pure (((sIx n 0 lo : Nat) : Int), (1 : Int), Builtin.Slice.slicePlaces ((sIx n 0 lo : Nat) : Int) ((sIx n n hi : Nat) : Int) 1)) _ _ s
 rw [P2]
 exact xap h
theorem P4 (xs : Array Value) (i k : Nat) : ((List.range k).filterMap fun (m : Nat) => xs[((i : Int) + (m : Int) * 1).toNat]?).toArray = ((xs.toList.drop i).take k).toArray := by
 have e : (fun (m : Nat) => xs[((i : Int) + (m : Int) * 1).toNat]?) = fun m => xs[i + m]? := by
  funext m
  have : ((i : Int) + (m : Int) * 1).toNat = i + m := by omega
  rw [this]
 rw [e]
 have := pick_run xs i k
 rw [List.filterMap_map] at this
 have e2 : ((fun x => xs[x]?) ∘ fun x => i + x) = fun m => xs[i + m]? := rfl
 rw [e2] at this
 rw [this]
theorem getItem_tuple_cut {t sl : Addr} {items : Array Value} {vl vu : Value} {lo hi : Option Int} {Q : Value -> Shared -> Prop} (ht : IsTup s.heap t items) (hs : s.heap.IsSliceOf sl vl vu .none) (pl : IsPart vl lo) (pu : IsPart vu hi)
  (hw : ¬ (sIx items.size 0 lo = 0 /\ sIx items.size items.size hi = items.size))
  (h : Q (.ref s.heap.objs.size) { s with heap := s.heap.push { cls := .type "tuple", data := .seq ((items.toList.drop (sIx items.size 0 lo)).take (sIx items.size items.size hi - sIx items.size 0 lo)).toArray } })
  (hsz : items.size <= sizeLine) : wpAny (model prog w) A (getItem (.ref t) (.ref sl)) Q E s := by
 have htake : sizeOk (.seq ((items.toList.drop (sIx items.size 0 lo)).take (sIx items.size items.size hi - sIx items.size 0 lo)).toArray) := by
  show ((items.toList.drop (sIx items.size 0 lo)).take (sIx items.size items.size hi - sIx items.size 0 lo)).toArray.size <= sizeLine
  rw [xal, xa9, xbu, xb7]
  omega
 have hj : sIx items.size items.size hi <= items.size := sIx_le _ _ (xak _) hi
 obtain ⟨os, hos, hcs, hds⟩ := id hs
 have hTs : s.TypeIs (.ref sl) "slice" := ⟨os, hos, hcs⟩
 unfold getItem
 try with_reducible refine wpAny_holding ?_
 first | refine xab (xap ?_) | skip
 refine xab (wpAny_sequenceKey ht.typeIs (by decide) ?_)
 refine xab (wpAny_callSpecial?_slot (name := Str.ofString "__getitem__") ht.typeIs PyProof.Rows.slot_tuple_getitem
  (wpAny_call_entry PyProof.Rows.slot_tuple_getitem ht.typeIs entry_tuple_getitem ?_ (args_tuple_getitem _ _)))
 show wpAny _ _ (Builtin.Tuple.tupleItemsOf (.ref t) >>= _) _ _ s
 refine xab (tupleItemsOf_ ht ?_)
 refine xab (wpAny_typeOf hTs ?_)
 rw [xa4 (by decide)]
 refine xab (P3 hs pl pu ?_)
 have hno : ¬ ((((sIx items.size 0 lo : Nat) : Int) == 0 && (1 : Int) == 1 && (sIx items.size items.size hi - sIx items.size 0 lo) == items.size) = true) := by
  intro q
  rw [xaw, xaw] at q
  have q1 : ((sIx items.size 0 lo : Nat) : Int) = 0 := eq_of_beq q.1.1
  have q2 : sIx items.size items.size hi - sIx items.size 0 lo = items.size := eq_of_beq q.2
  exact hw ⟨by omega, by omega⟩
 show wpAny _ _ (if (((sIx items.size 0 lo : Nat) : Int) == 0 && (1 : Int) == 1 && (sIx items.size items.size hi - sIx items.size 0 lo) == items.size) = true then _ else _) _ _ s
 rw [xa1 hno, P4]
 first
  | exact xab (m := Builtin.Tuple.tupleExact _) (wpAny_newObj_type (xap ⟨_, rfl, xap h⟩) htake)
  | exact xab (m := Builtin.Tuple.tupleExact _) (wpAny_newObj_type (xab (xap (xap ⟨_, rfl, xap h⟩))) htake)
  | exact xab (xab (m := Builtin.Tuple.tupleExact _) (wpAny_newObj_type (xap (xap ⟨_, rfl, xap h⟩)) htake))
  | exact xab (xab (m := Builtin.Tuple.tupleExact _) (wpAny_newObj_type (xap ⟨_, rfl, xap h⟩) htake))
end
end HT
namespace L2
open PySem.Spec PyProof.Rows
abbrev TO := St -> Hp -> (Option Int -> Hp -> Prop) -> Prop
def PO (X : Cx) (e : Option Expr) (t : TO) : Prop :=
 ∀ (pins : List (Addr × Obj)) (s : Shared) (U : St) (H : Hp) (Q : Option Int -> Hp -> Prop), aH X pins U H s -> t U H Q ->
  wpAny (model X.prog X.w) X.A (evalPart e X.env) (fun u s' => ∃ o H', aH X pins U H' s' /\ IsPart u o /\ Q o H') X.xe s
def P5 : TO := fun _ H Q => Q none H
def P6 (t : TE) : TO := fun U H Q => t U H fun x H1 => ∃ i, x = .int i /\ Q (some i) H1
section
variable {X : Cx} {e : Expr} {te : TE} {lo hi : Option Expr} {tl th : TO} {pos p2 : Pos}
theorem P7 : PO X none P5 := by
 intro pins s U H Q I h
 rw [evalPart_none]
 exact xap ⟨none, H, I, .none, h⟩
theorem P8 (h : PE X e te) : PO X (some e) (P6 te) := by
 intro pins s U H Q I hw
 rw [evalPart_some]
 refine aP (h pins s U H _ I hw) fun u s1 ⟨x, H1, I1, r1, q1⟩ => ?_
 obtain ⟨i, rfl, q⟩ := q1
 obtain ⟨t, rfl⟩ := r1
 exact ⟨some i, H1, I1, .int i t, q⟩
def kJ (X : Cx) (r : V -> Option Int -> Option Int -> Hp -> VK -> Prop) : Prop :=
 ∀ (pins : List (Addr × Obj)) (s : Shared) (U : St) (H : Hp) (x : V) (v vl vu : Value) (lo hi : Option Int) (sl : Addr) (Q : VK), aH X pins U H s -> aR x v -> s.heap.IsSliceOf sl vl vu .none -> IsPart vl lo -> IsPart vu hi -> r x lo hi H Q ->
  ∃ T id, typeLookup (.type T) "__getitem__" = pure (some (.builtin id)) /\ s.TypeIs v T /\ wpAny (model X.prog X.w) X.A (getItem v (.ref sl)) (EP X pins U Q) X.xe s
theorem kJ.or {r r' : V -> Option Int -> Option Int -> Hp -> VK -> Prop} (h : kJ X r) (h' : kJ X r') : kJ X (fun x lo hi H Q => r x lo hi H Q \/ r' x lo hi H Q) := by
 intro pins s U H x v vl vu lo hi sl Q I rx hs pl pu q
 rcases q with q | q
 ·exact h pins s U H x v vl vu lo hi sl Q I rx hs pl pu q
 ·exact h' pins s U H x v vl vu lo hi sl Q I rx hs pl pu q
def tSl (r : V -> Option Int -> Option Int -> Hp -> VK -> Prop) (te : TE) (tl th : TO) : TE := fun U H Q => te U H fun x H1 => tl U H1 fun l H2 => th U H2 fun u H3 => r x l u H3 Q
theorem uT {r : V -> Option Int -> Option Int -> Hp -> VK -> Prop} (hr : kJ X r) (he : PE X e te) (hl : PO X lo tl) (hu : PO X hi th) : PE X (.Subscript e (.Slice lo hi none p2) pos) (tSl r te tl th) := by
 intro pins s U H Q I h
 refine Subscript_ (aP (he pins s U H _ I h) fun v s1 ⟨x, H1, I1, r1, q1⟩ => ?_)
 refine wpAny_Slice (aP (hl pins s1 U H1 _ I1 q1) fun vl s2 ⟨l, H2, I2, pl, q2⟩ => aP (hu pins s2 U H2 _ I2 q2) fun vu s3 ⟨u, H3, I3, pu, q3⟩ => ?_)
 rw [evalPart_none]
 refine xap ?_
 have I4 : aH X pins U H3 { s3 with heap := s3.heap.push { cls := .type "slice", data := .fields #[vl, vu, .none] } } := I3.kept (t' := s3.toks) fun b ob q => xad _ q
 obtain ⟨T, id, hT, ht, hg⟩ := hr pins { s3 with heap := s3.heap.push { cls := .type "slice", data := .fields #[vl, vu, .none] } } U H3 x v vl vu l u s3.heap.objs.size Q I4 r1 (Heap.IsSliceOf.new ..) pl pu q3
 show wpAny (model X.prog X.w) X.A (subscriptTail e (.Slice lo hi none p2) v (.ref s3.heap.objs.size)) (EP X pins U Q) X.xe { s3 with heap := s3.heap.push { cls := .type "slice", data := .fields #[vl, vu, .none] } }
 exact tail_any (ops := [.ref s3.heap.objs.size, v]) ht hT hg (by with_unfolding_all rfl)
def hU (xs : List V) (lo hi : Option Int) : List V := (xs.drop (HT.sIx xs.length 0 lo)).take (HT.sIx xs.length xs.length hi - HT.sIx xs.length 0 lo)
theorem AB (xs : List V) (lo hi : Option Int) : (hU xs lo hi).length <= xs.length := by
 unfold hU
 rw [xa9, xbu]
 omega
def QA (K : xFg) : V -> Option Int -> Option Int -> Hp -> VK -> Prop := fun x lo hi H Q => ∃ a xs, x = .ref a /\ bJ K H a xs /\
 ¬ (HT.sIx xs.length 0 lo = 0 /\ HT.sIx xs.length xs.length hi = xs.length) /\ ∀ p, H p = none -> Q (.ref p) (aO H p (.tup (hU xs lo hi)))
theorem QB : kJ X (QA X.K) := by
 intro pins s U H x v vl vu lo hi sl Q I rx hs pl pu h
 obtain ⟨a, xs, rfl, hx, hw, q⟩ := h
 cases rx
 obtain ⟨its, r, ht, hz⟩ := I.tuple hx
 have hlen : its.toArray.size = xs.length := by rw [xal]; exact r.length.symm
 refine ⟨"tuple", _, PyProof.Rows.slot_tuple_getitem.lookup, ht.typeIs, ?_⟩
 refine HT.getItem_tuple_cut ht hs pl pu (by rw [hlen]; exact hw) ?_ (by rw [hlen]; exact hz)
 rw [hlen]
 refine ⟨.ref s.heap.objs.size, _, I.laid (t' := s.toks) (o := .tup (hU xs lo hi)) (fun b ob q => xad _ q) (xak _) ?_, rfl, q _ (I.hok.fresh (xak _))⟩
 exact ⟨xaj (AB xs lo hi) hz, _, (r.drop (HT.sIx xs.length 0 lo)).take (HT.sIx xs.length xs.length hi - HT.sIx xs.length 0 lo), jF.new _ _⟩
def AC (K : xFg) : R2 := fun x y H Q => ∃ a b xs ys, x = .ref a /\ y = .ref b /\ bJ K H a xs /\ bJ K H b ys /\ xs ≠ [] /\ xs.length + ys.length <= sizeLine /\
 (ys = [] -> Q (.ref a) H) /\ (ys ≠ [] -> ∀ p, H p = none -> Q (.ref p) (aO H p (.tup (xs ++ ys))))
theorem a6.nil_iff {xs : List V} {us : List Value} (r : a6 xs us) : us = [] ↔ xs = [] := by
 cases r with
 | nil => simp
 | cons _ _ => simp
theorem QC : bM X (binaryOp .Add) (AC X.K) := by
 intro pins s U H x y v u Q I rx ry h
 obtain ⟨a, b, xs, ys, rfl, rfl, ha, hb, hx, hz, q1, q2⟩ := h
 cases rx
 cases ry
 obtain ⟨its, r1, p1, _⟩ := I.tuple ha
 obtain ⟨its2, r2, p2, _⟩ := I.tuple hb
 refine HT.cat_tup p1 p2 (fun z => hx (r1.nil_iff.mp z)) (fun z => ⟨.ref a, H, I, rfl, q1 (r2.nil_iff.mp z)⟩) (fun z => ?_) (by rw [<- r1.length, <- r2.length]; exact hz)
 refine ⟨.ref s.heap.objs.size, _, I.laid (t' := s.toks) (o := .tup (xs ++ ys)) (fun b ob q => xad _ q) (xak _) ?_, rfl, q2 (fun w => z (r2.nil_iff.mpr w)) _ (I.hok.fresh (xak _))⟩
 exact ⟨by rw [xaa]; exact hz, _, r1.append r2, jF.new _ _⟩
end
end L2
namespace L2
open PySem.Spec PyProof.Rows
def iM (n : Nat) (i : Int) : Option Nat := if 0 <= i then (if i < n then some i.toNat else none) else if -(n : Int) <= i then some (i + n).toNat else none
def dJ {α : Type} (xs : List α) (i : Int) : Option α := (iM xs.length i).bind fun j => xs[j]?
theorem QD {n : Nat} {i : Int} {j : Nat} (h : iM n i = some j) : seqIndex? i n = some j /\ j < n /\ -(n : Int) <= i /\ i < n := by
 unfold iM at h
 by_cases h0 : 0 <= i
 ·rw [xa4 h0] at h
  by_cases h1 : i < n
  ·rw [xa4 h1] at h
   have e : i.toNat = j := xbk h
   exact ⟨by rw [seqIndex_of h0 h1, e], by omega, by omega, h1⟩
  ·rw [xa1 h1] at h; cases h
 ·rw [xa1 h0] at h
  by_cases h1 : -(n : Int) <= i
  ·rw [xa4 h1] at h
   have e : (i + n).toNat = j := xbk h
   exact ⟨by rw [seqIndex_neg (by omega) h1, e], by omega, h1, by omega⟩
  ·rw [xa1 h1] at h; cases h
theorem AD {α : Type} {xs : List α} {i : Int} {v : α} (h : dJ xs i = some v) : ∃ j, seqIndex? i xs.length = some j /\ xs[j]? = some v /\ j < xs.length /\ -(xs.length : Int) <= i /\ i < xs.length := by
 unfold dJ at h
 cases e : iM xs.length i with
 | none => rw [e] at h; cases h
 | some j =>
  rw [e] at h
  obtain ⟨h1, h2, h3, h4⟩ := QD e
  exact ⟨j, h1, h, h2, h3, h4⟩
theorem AE {α : Type} {xs : List α} {j : Nat} {v : α} (h : xs[j]? = some v) : dJ xs (j : Int) = some v := by
 have hj : j < xs.length := (xam.mp h).1
 have e : iM xs.length (j : Int) = some j := by
  unfold iM
  rw [xa4 (by omega), xa4 (by omega)]; simp
 unfold dJ; rw [e]; exact h
def AF (b : Expr) : Prop := ∀ o i, subscripted b false o i = operate [o, i] (getItem o i)
def lK (X : Cx) (r : R2) : Prop :=
 ∀ (value slice : Expr) (pins : List (Addr × Obj)) (s : Shared) (U : St) (H : Hp) (x y : V) (v u : Value) (Q : VK), aH X pins U H s -> aR x v -> aR y u -> r x y H Q ->
  subscripted slice false v u = operate [v, u] (getItem v u) -> wpAny (model X.prog X.w) X.A (subscriptTail value slice v u) (EP X pins U Q) X.xe s
def MtR (X : Cx) (id : String) (r : V -> List V -> Hp -> VK -> Prop) : Prop :=
 ∀ (pins : List (Addr × Obj)) (s : Shared) (U : St) (H : Hp) (x : V) (xs : List V) (v : Value) (us : List Value) (Q : VK), aH X pins U H s -> aR x v -> a6 xs us -> r x xs H Q ->
  wpAny (model X.prog X.w) X.A (call (.builtin id) (v :: us)) (EP X pins U Q) X.xe s
section
variable {X : Cx} {a b : Expr} {ta tb : TE} {pos : Pos}
theorem lK.or {r r' : R2} (h : lK X r) (h' : lK X r') : lK X (fun x y H Q => r x y H Q \/ r' x y H Q) := by
 intro value slice pins s U H x y v u Q I rx ry q hs
 rcases q with q | q
 ·exact h value slice pins s U H x y v u Q I rx ry q hs
 ·exact h' value slice pins s U H x y v u Q I rx ry q hs
theorem AG {r : R2} (hr : lK X r) (ha : PE X a ta) (hb : PE X b tb) (hs : AF b) : PE X (.Subscript a b pos) (mS r ta tb) := by
 intro pins s U H Q I h
 exact Subscript_ (qR ha hb I h fun v u s2 x y H2 I2 rx ry q => hr a b pins s2 U H2 x y v u Q I2 rx ry q (hs _ _))
def AH (K : xFg) : R2 := fun x y H Q => ∃ p xs i v, x = .ref p /\ y = .int i /\ bH K H p xs /\ dJ xs i = some v /\ Q v H
def AI (K : xFg) : R2 := fun x y H Q => ∃ p xs i v, x = .ref p /\ y = .int i /\ bJ K H p xs /\ dJ xs i = some v /\ Q v H
def rIxS : R2 := fun x y H Q => ∃ z i c, x = .str z /\ y = .int i /\ z.length <= sizeLine /\ dJ z.cps.toList i = some c /\ Q (.str ⟨#[c]⟩) H
theorem AJ : lK X (AH X.K) := by
 intro value slice pins s U H x y v u Q I rx ry h hs
 obtain ⟨p, xs, i, z, rfl, rfl, hq, he, q⟩ := h
 cases rx
 obtain ⟨t, rfl⟩ := ry
 obtain ⟨its, r, pl, hz⟩ := I.list hq
 obtain ⟨j, h1, h2, h3, h4, h5⟩ := AD he
 obtain ⟨w, ew, rw'⟩ := r.get h2
 have hl := r.length
 have hn := qT
 have fin : EP X pins U Q w s := ⟨z, H, I, rw', q⟩
 by_cases h0 : 0 <= i
 ·have hj : i.toNat = j := by
   rw [seqIndex_of h0 h5] at h1
   exact xbk h1
  exact item_listR pl.isList h0 (by omega) (by rw [hj]; simpa using ew) fin hs
 ·have hj : (i + (its.toArray.size : Int)).toNat = j := by
   rw [seqIndex_neg (by omega) h4] at h1
   rw [xal, <- hl]
   exact xbk h1
  exact subscriptTail_builtinR (x := w) pl.isList.typeIs slot_list_getitem.lookup
   (wpAny_getItem_list_neg (Q := fun r s' => r = w /\ EP X pins U Q r s') pl.isList (by omega) (by rw [xal] <;> omega) (by omega) (by rw [hj]; simpa using ew) ⟨rfl, fin⟩) hs
theorem QF : lK X (AI X.K) := by
 intro value slice pins s U H x y v u Q I rx ry h hs
 obtain ⟨p, xs, i, z, rfl, rfl, hq, he, q⟩ := h
 cases rx
 obtain ⟨t, rfl⟩ := ry
 obtain ⟨its, r, pl, hz⟩ := I.tuple hq
 obtain ⟨j, h1, h2, h3, h4, h5⟩ := AD he
 obtain ⟨w, ew, rw'⟩ := r.get h2
 have hl := r.length
 have hn := qT
 have fin : EP X pins U Q w s := ⟨z, H, I, rw', q⟩
 exact subscriptTail_builtinR (x := w) pl.typeIs slot_tuple_getitem.lookup
  (getItem_tuple (j := j) (Q := fun r s' => r = w /\ EP X pins U Q r s') pl (by omega) (by omega) (by rw [xal, <- hl]; exact h1) (by simpa using ew) ⟨rfl, fin⟩) hs
theorem QG (lo hi : Option Int) (n : Nat) : (sliceBounds lo hi none n).1 = ((HT.sIx n 0 lo : Nat) : Int) /\ (sliceBounds lo hi none n).2.1 = ((HT.sIx n n hi : Nat) : Int) /\ (sliceBounds lo hi none n).2.2 = 1 := by
 refine ⟨?_, ?_, rfl⟩
 ·cases lo with
  | none => simp [sliceBounds, HT.sIx]
  | some i =>
   simp only [sliceBounds, HT.sIx, Option.getD_none, show (1 : Int) > 0 by decide, if_true]
   by_cases h : i < 0
   ·simp only [h, if_true] <;> omega
   ·simp only [h, if_false] <;> omega
 ·cases hi with
  | none => simp [sliceBounds, HT.sIx]
  | some i =>
   simp only [sliceBounds, HT.sIx, Option.getD_none, show (1 : Int) > 0 by decide, if_true]
   by_cases h : i < 0
   ·simp only [h, if_true] <;> omega
   ·simp only [h, if_false] <;> omega
theorem QH (its : List Value) (lo hi : Option Int) : slicePick its.toArray lo hi none = ((its.drop (HT.sIx its.length 0 lo)).take (HT.sIx its.length its.length hi - HT.sIx its.length 0 lo)).toArray := by
 obtain ⟨h1, h2, h3⟩ := QG lo hi its.toArray.size
 unfold slicePick
 rw [h1, h2, h3]
 simp only [sliceRange_one, pick_run, xal] <;> rfl
def QI (K : xFg) : V -> Option Int -> Option Int -> Hp -> VK -> Prop := fun x lo hi H Q => ∃ a xs, x = .ref a /\ bH K H a xs /\ ∀ p, H p = none -> Q (.ref p) (aO H p (.lst (hU xs lo hi)))
theorem AK : kJ X (QI X.K) := by
 intro pins s U H x v vl vu lo hi sl Q I rx hs pl pu h
 obtain ⟨a, xs, rfl, hx, q⟩ := h
 cases rx
 obtain ⟨its, r, ht, hz⟩ := I.list hx
 have hlen := r.length
 refine ⟨"list", _, slot_list_getitem.lookup, ht.isList.typeIs, ?_⟩
 refine wpAny_getItem_list_slice ht.isList hs pl pu .none (by simp) ?_ (by rw [xal] <;> omega)
 rw [QH, <- hlen]
 refine ⟨.ref s.heap.objs.size, _, I.laid (t' := s.toks) (o := .lst (hU xs lo hi)) (fun b ob q => xad _ q) (xak _) ?_, rfl, q _ (I.hok.fresh (xak _))⟩
 exact ⟨xaj (AB xs lo hi) hz, _, 0, (r.drop (HT.sIx xs.length 0 lo)).take (HT.sIx xs.length xs.length hi - HT.sIx xs.length 0 lo), xav _ rfl⟩
def lL : V -> Bool
 | .non => true
 | .bl _ => true
 | .int _ => true
 | .str _ => true
 | _ => false
def oR : V -> V -> Bool
 | .non, .non => true
 | .bl a, .bl b => a == b
 | .bl a, .int b => (if a then 1 else 0) == b
 | .int a, .bl b => a == (if b then 1 else 0)
 | .int a, .int b => a == b
 | .str a, .str b => a == b
 | _, _ => false
theorem QJ {A : Around} {s : Shared} {y x : V} {u v : Value} (ry : aR y u) (rx : aR x v) (fy : lL y = true) (fx : lL x = true) : SeqAt.EqAt A s u v (oR y x) := by
 cases y with
 | non =>
  cases ry
  cases x with
  | non => cases rx; exact SeqAt.EqAt.same _
  | bl b => cases rx; exact SeqAt.EqAt.none_bool b
  | int b => obtain ⟨t, rfl⟩ := rx; exact SeqAt.EqAt.none_int b t
  | str b => obtain ⟨t, rfl⟩ := rx; exact SeqAt.EqAt.none_str b t
  | _ => exact xaq (show false = true from fx) xa2
 | bl a =>
  cases ry
  cases x with
  | non => cases rx; exact SeqAt.EqAt.bool_none a
  | bl b => cases rx; exact SeqAt.EqAt.bool_bool a b
  | int b => obtain ⟨t, rfl⟩ := rx; exact SeqAt.EqAt.bool_int a b t
  | str b => obtain ⟨t, rfl⟩ := rx; exact SeqAt.EqAt.bool_str a b t
  | _ => exact xaq (show false = true from fx) xa2
 | int a =>
  obtain ⟨t', rfl⟩ := ry
  cases x with
  | non => cases rx; exact SeqAt.EqAt.int_none a t'
  | bl b => cases rx; exact SeqAt.EqAt.int_bool a t' b
  | int b => obtain ⟨t, rfl⟩ := rx; exact SeqAt.EqAt.int_int a t' b t
  | str b => obtain ⟨t, rfl⟩ := rx; exact SeqAt.EqAt.int_str a t' b t
  | _ => exact xaq (show false = true from fx) xa2
 | str a =>
  obtain ⟨t', rfl⟩ := ry
  cases x with
  | non => cases rx; exact SeqAt.EqAt.str_none a t'
  | bl b => cases rx; exact SeqAt.EqAt.str_bool a t' b
  | int b => obtain ⟨t, rfl⟩ := rx; exact SeqAt.EqAt.str_int a t' b t
  | str b => obtain ⟨t, rfl⟩ := rx; exact SeqAt.EqAt.str_str a t' b t
  | _ => exact xaq (show false = true from fx) xa2
 | _ => exact xaq (show false = true from fy) xa2
theorem QK : bM X (compareOp .NotIn) (fun x y H Q => ∃ i j, x = .str i /\ y = .str j /\ Q (.bl (!(!(Builtin.Str.occurrences j i 0 j.length 1).isEmpty))) H) := by
 intro pins s U H x y v u Q I rx ry h
 obtain ⟨i, j, rfl, rfl, q⟩ := h
 obtain ⟨t, rfl⟩ := rx
 obtain ⟨t', rfl⟩ := ry
 exact notIn_str ⟨.bl _, H, I, rfl, q⟩
theorem AL : c9 X (.builtin "len") (fun xs H Q => ∃ p ys, xs = [.ref p] /\ (bH X.K H p ys \/ bJ X.K H p ys) /\ Q (.int ys.length) H) := by
 intro pins s U H xs us Q I r h
 obtain ⟨p, ys, rfl, hq, q⟩ := h
 obtain ⟨u, rfl, rx⟩ := g6 r
 cases rx
 have hn := qT
 rcases hq with hq | hq
 ·obtain ⟨its, r', pl, hz⟩ := I.list hq
  have hlen := r'.length
  exact Calls.call_len_list pl.isList (by simp only [xal] <;> omega) ⟨.int ys.length, H, I.tok _, ⟨s.toks + 1, by rw [xal, hlen]⟩, q⟩
 ·obtain ⟨its, r', pl, hz⟩ := I.tuple hq
  have hlen := r'.length
  exact len_tuple pl (by simp only [xal] <;> omega) ⟨.int ys.length, H, I.tok _, ⟨s.toks + 1, by rw [xal, hlen]⟩, q⟩
theorem QL : c9 X (.builtin "len") (fun xs H Q => ∃ z, xs = [.str z] /\ z.length <= sizeLine /\ Q (.int z.length) H) := by
 intro pins s U H xs us Q I r h
 obtain ⟨z, rfl, hz, q⟩ := h
 obtain ⟨u, rfl, t, rfl⟩ := g6 r
 have hn := qT
 exact len_str (by omega) ⟨.int z.length, H, I.tok _, ⟨_, rfl⟩, q⟩
theorem c9.or {f : Value} {r r' : List V -> Hp -> VK -> Prop} (h : c9 X f r) (h' : c9 X f r') : c9 X f (fun xs H Q => r xs H Q \/ r' xs H Q) := by
 intro pins s U H xs us Q I rs q
 rcases q with q | q
 ·exact h pins s U H xs us Q I rs q
 ·exact h' pins s U H xs us Q I rs q
theorem QM : c9 X (.type "list") (fun xs H Q => ∃ p ys, xs = [.ref p] /\ (bH X.K H p ys \/ bJ X.K H p ys) /\ ∀ l, H l = none -> Q (.ref l) (aO H l (.lst ys))) := by
 intro pins s U H xs us Q I r h
 obtain ⟨p, ys, rfl, hq, q⟩ := h
 obtain ⟨u, rfl, rx⟩ := g6 r
 cases rx
 have fin : ∀ (its : List Value), a6 ys its -> ys.length <= sizeLine -> ∀ (h' : Heap) (c' : Nat), (∀ b o', s.heap.get? b = some o' -> h'.get? b = some o') ->
   h'.get? s.heap.objs.size = some { cls := .type "list", dict := none, data := .seq its.toArray c', slots := #[] } -> EP X pins U Q (.ref s.heap.objs.size) { s with heap := h' } := fun its r' hz h' c' kp e =>
  ⟨.ref s.heap.objs.size, _, I.laid (t' := s.toks) kp (xak _) (show dI X.prog X.w _ h' _ (.lst ys) from ⟨hz, its, c', r', e⟩), rfl, q _ (I.hok.fresh (xak _))⟩
 rcases hq with hq | hq
 ·obtain ⟨its, r', pl, hz⟩ := I.list hq
  have hlen := r'.length
  obtain ⟨o, ho, hc, n, hd⟩ := pl.isList
  exact call_list_seq p (.inl rfl) ho hc hd (fun h' c' kp e => fin its r' hz h' c' kp e) (by simp only [xal] <;> omega)
 ·obtain ⟨its, r', pl, hz⟩ := I.tuple hq
  have hlen := r'.length
  obtain ⟨o, ho, hc, n, hd⟩ := pl
  exact call_list_seq p (.inr rfl) ho hc hd (fun h' c' kp e => fin its r' hz h' c' kp e) (by simp only [xal] <;> omega)
theorem QN : c9 X (.type "tuple") (fun xs H Q => ∃ p ys, xs = [.ref p] /\ ((bH X.K H p ys /\ ∀ l, H l = none -> Q (.ref l) (aO H l (.tup ys))) \/ (bJ X.K H p ys /\ Q (.ref p) H))) := by
 intro pins s U H xs us Q I r h
 obtain ⟨p, ys, rfl, h⟩ := h
 obtain ⟨u, rfl, rx⟩ := g6 r
 cases rx
 rcases h with ⟨hq, q⟩ | ⟨hq, q⟩
 ·obtain ⟨its, r', pl, hz⟩ := I.list hq
  have hlen := r'.length
  refine call_tuple_list pl.isList (fun h' kp => ?_) (by simp only [xal] <;> omega)
  have I1 : aH X pins U H { s with heap := h' } := I.kept (t' := s.toks) kp
  have I2 : aH X pins U (aO H h'.objs.size (.tup ys)) { s with heap := h'.push { cls := .type "tuple", data := .seq its.toArray } } :=
   I1.laid (t' := s.toks) (fun b o e => xad _ e) (xak _) (show dI X.prog X.w _ _ _ (.tup ys) from ⟨hz, its, r', jF.new _ _⟩)
  exact ⟨.ref h'.objs.size, _, I2, rfl, q _ (I1.hok.fresh (xak _))⟩
 ·obtain ⟨its, r', pl, hz⟩ := I.tuple hq
  exact call_tuple_same pl ⟨.ref p, H, I, rfl, q⟩
def tyV (K : xFg) (T : String) (x : V) (H : Hp) : Prop := match x with
 | .str _ => T = "str"
 | .int _ => T = "int"
 | .ref p => (T = "list" /\ ∃ xs, bH K H p xs) \/ (T = "tuple" /\ ∃ xs, bJ K H p xs) \/
   (T = "dict" /\ ((∃ kvs, H p = some (.dK kvs)) \/ ∃ kvs, H p = some (.dT kvs))) \/ (T = "set" /\ ∃ S n, H p = some (.set S n))
 | _ => False
theorem QO {pins : List (Addr × Obj)} {U : St} {H : Hp} {s : Shared} {T : String} {x : V} {v : Value} (I : aH X pins U H s) (r : aR x v) (ty : tyV X.K T x H) :
  s.TypeIs v T /\ ∀ a, v = .ref a -> ∃ ob, s.heap.get? a = some ob /\ ob.dict = none := by
 cases x with
 | str z =>
  obtain ⟨t, rfl⟩ := r
  cases (show T = "str" from ty)
  exact ⟨typeIs_str s z t, fun _ e => nomatch e⟩
 | int i =>
  obtain ⟨t, rfl⟩ := r
  cases (show T = "int" from ty)
  exact ⟨typeIs_int s i t, fun _ e => nomatch e⟩
 | ref p =>
  cases r
  rcases ty with ⟨rfl, xs, hq⟩ | ⟨rfl, xs, hq⟩ | ⟨rfl, hk⟩ | ⟨rfl, S, n, hk⟩
  ·obtain ⟨its, _, pl, _⟩ := I.list hq
   refine ⟨pl.isList.typeIs, fun a e => ?_⟩
   cases e
   obtain ⟨o, n, e, c, hd, _⟩ := pl
   exact ⟨o, e, hd⟩
  ·obtain ⟨its, _, ⟨o, e1, hc, _, hd⟩, _⟩ := I.tupN hq
   refine ⟨⟨o, e1, hc⟩, fun a e => ?_⟩
   cases e
   exact ⟨o, e1, hd⟩
  ·have z : ∃ o, s.heap.get? p = some o /\ o.ExactDict := by
    rcases hk with ⟨kvs, hk⟩ | ⟨kvs, hk⟩
    ·obtain ⟨_, _, _, _, o, _, _, e, ex, _⟩ := I.hok p _ hk
     exact ⟨o, e, ex⟩
    ·obtain ⟨_, _, _, _, o, _, _, e, ex, _⟩ := I.hok p _ hk
     exact ⟨o, e, ex⟩
   obtain ⟨o, e, ex⟩ := z
   refine ⟨⟨o, e, ex.1⟩, fun a e2 => ?_⟩
   cases e2
   exact ⟨o, e, ex.2.1⟩
  ·obtain ⟨o, _, _, _, e, ex, _⟩ := I.hok p _ hk
   refine ⟨⟨o, e, ex.1⟩, fun a e2 => ?_⟩
   cases e2
   exact ⟨o, e, ex.2.1⟩
 | _ => exact False.elim ty
def tBM (K : xFg) (T : String) (r : V -> List V -> Hp -> VK -> Prop) (to : TE) (t : TA) : TE := fun U H Q => to U H fun x H1 => tyV K T x H1 /\ t U H1 fun xs H2 => r x xs H2 Q
variable {o e : Expr} {es : List Expr} {to : TE} {t : TA} {name : Str} {apos cpos : Pos} {T id : String} {r : V -> List V -> Hp -> VK -> Prop}
theorem mU (pa : PlainAttrs T) (slot : Slot T name id) (hty : typeOf (.builtin id) = pure (.type "method_descriptor")) (hm : MtR X id r) (ho : PE X o to) (ha : PA X (e :: es) t)
  (hbase : attributeBase o name X.env (eval o X.env) = eval o X.env := by rfl)
  (hfew : ((backTo cpos (starEach (e :: es) X.env)).all (fun x => !x.1) && (backToKw cpos (keywordEach [] X.env)).all (fun x => x.1.isSome)
   && decide ((e :: es).length + ([] : List Keyword).length + (if ([] : List Keyword).isEmpty then 0 else 1) < 30)) = true := by rfl)
  (hline : (apos.endLine == cpos.line) = true := by rfl) (hs : starEach (e :: es) X.env = (false, eval e X.env) :: starEach es X.env := by rfl) (hplain : (backTo cpos (starEach es X.env)).any (·.1) = false := by rfl) :
  PE X (.Call (.Attribute o name apos) (e :: es) [] cpos) (tBM X.K T r to t) := by
 intro pins s U H Q I h
 refine wpAny_Call_method_late hbase hfew hline rfl (aP (ho pins s U H _ I h) fun v s1 ⟨x, H1, I1, r1, ty, q1⟩ => ?_)
 obtain ⟨h1, h2⟩ := QO I1 r1 ty
 refine ⟨T, id, pa, slot, hty, h1, h2, ?_⟩
 have hA := ha cpos pins s1 U H1 _ I1 q1
 rw [hs] at hA ⊢
 refine Calls.callWith_builtin (by show (false || (backTo cpos (starEach es X.env)).any (·.1)) = false; rw [hplain] <;> rfl) (Calls.evalArgs_plain ?_)
 exact aP hA fun us s2 ⟨vs, H2, I2, r2, q2⟩ => hm pins s2 U H2 x vs v us Q I2 r1 r2 q2
end
end L2
namespace L2
open PySem.Spec PyProof.Rows
def oS (X : Cx) (id : String) (r : V -> List V -> Hp -> VK -> Prop) : Prop :=
 ∀ (pins : List (Addr × Obj)) (s : Shared) (U : St) (H : Hp) (x : V) (xs : List V) (v : Value) (us : List Value) (Q : VK), aH X pins U H s -> aR x v -> a6 xs us -> r x xs H Q ->
  wpAny (model X.prog X.w) X.A (call (.builtin id) (v :: us)) (EP X pins U Q) X.xe s
theorem a6.one : ∀ {x : V} {us : List Value}, a6 [x] us -> ∃ u, us = [u] /\ aR x u
 | _, _, .cons r .nil => ⟨_, rfl, r⟩
section
variable {X : Cx} {pins : List (Addr × Obj)} {U : St} {H : Hp} {s : Shared} {l b : Addr} {xs ys zs : List V}
theorem aH.lset {its its' : List Value} {n : Nat} {f : Array Value -> Array Value} {t' : Nat} (I : aH X pins U H s) (hH : H l = some (.lst xs))
  (e : s.heap.get? l = some { cls := .type "list", data := .seq its.toArray n }) (hf : f its.toArray = its'.toArray) (hv : a6 ys its') (hz : ys.length <= sizeLine) :
  aH X pins U (aO H l (.lst ys)) { s with heap := s.heap.update l (Obj.mapSeq f), toks := t' } := by
 have q := PySem.IsL.update e f
 rw [hf] at q
 refine I.write (x := l) (e := l) (by rw [hH]; exact trivial) (.inl rfl) (fun b' u hb hu => (xbr s.heap (Obj.mapSeq f) (xbd hb)).trans hu) ⟨_, q⟩ ?_
 exact ⟨hz, its', _, hv, q⟩
theorem aH.lnew {its : List Value} {t' : Nat} (I : aH X pins U H s) (hv : a6 ys its) (hz : ys.length <= sizeLine) :
  aH X pins U (aO H s.heap.objs.size (.lst ys)) { s with heap := s.heap.push { cls := .type "list", data := .seq its.toArray }, toks := t' } :=
 I.laid (fun _ _ q => xad _ q) (xak _) ⟨hz, its, 0, hv, xav _ rfl⟩
theorem aH.fresh (I : aH X pins U H s) : H s.heap.objs.size = none := I.hok.fresh (xak _)
theorem aH.lstM (I : aH X pins U H s) (hH : H l = some (.lst xs)) : xs.length <= sizeLine /\ ∃ (its : List Value) (n : Nat), a6 xs its /\ xs.length = its.length /\ s.heap.get? l = some { cls := .type "list", data := .seq its.toArray n } := by
 obtain ⟨z, its, n, r, e⟩ := I.hok l _ hH
 exact ⟨z, its, n, r, r.length, e⟩
theorem QQ {n : Nat} (h : n <= sizeLine) : Builtin.List.listTooLong n = false := by
 unfold Builtin.List.listTooLong
 exact xau (by omega)
end
section
variable {X : Cx}
def QR : V -> List V -> Hp -> VK -> Prop := fun x vs H Q => ∃ l xs y, x = .ref l /\ vs = [y] /\ H l = some (.lst xs) /\ xs.length < sizeLine /\ Q .non (aO H l (.lst (xs ++ [y])))
theorem AN : oS X "list.append" QR := by
 intro pins s U H x vs v us Q I rx rv h
 obtain ⟨l, xs, y, rfl, rfl, hH, hz, q⟩ := h
 cases rx
 obtain ⟨u, rfl, ru⟩ := rv.one
 obtain ⟨z, its, n, r, hl, e⟩ := I.lstM hH
 refine call_meets F.slot_list_append ⟨_, e, rfl⟩ F.entry_list_append (F.args_list_append_2 _ _) (PySem.list_append l its.toArray n u (by rw [xal]; omega)) ⟨e, ?_⟩
 refine ⟨.non, _, I.lset (its' := its ++ [u]) hH e (by simp) (r.append (.cons ru .nil)) ?_, rfl, q⟩
 rw [xaa, List.length_singleton]
 omega
end
end L2
namespace Att
open PySem.W PySem.Calls PyProof.Rows
theorem QS {P : Params} {h : Heap} : ∀ (ns : List Int) (vs : List Value), WellAll P h vs (ns.map WData.int) -> IntsAre vs ns := by
 intro ns
 induction ns with
 | nil =>
  intro vs w
  rw [xcb] at w
  cases w
  exact .nil
 | cons n ns ih =>
  intro vs w
  rw [xbi] at w
  cases w with
  | cons a b =>
   cases a
   exact .cons _ _ (ih _ b)
theorem QT {l : OpenLaw} {n : Nat} (hn : l.most = some n) {P : Params} {h : Heap} {args : List WData} {vals : List Value}
  (hpre : l.row.toRowW.claim.pre args = true) (hwl : WellAll P h vals args) :
  ∃ a vs ns, vals = [Value.ref a] /\ args = [WData.list (ns.map WData.int)] /\ h.get? a = some { cls := .type "list", data := .seq vs.toArray } /\ IntsAre vs ns /\ ns.length <= n := by
 have hsh : WShape.hasAll [] args [.list .int] = true := (pre_splitW hpre).1
 have hc : l.pre.holds [] { args := args } = true := (pre_splitW hpre).2
 obtain ⟨d, r, rfl, h1, h2⟩ := hasAllW_cons hsh
 obtain rfl := hasAllW_nil h2
 obtain ⟨xs, rfl, h3⟩ := hasW_list h1
 obtain ⟨ns, rfl⟩ := items_int h3
 have hlen : ns.length <= n := by
  unfold OpenLaw.pre at hc
  have h4 : (WTm.not (.lt (.lit (.int (n : Int))) (.len (.arg 0)))).holds [] { args := [.list (ns.map .int)] } = true := by
   have h4 := (holds_andW hc).1
   rw [hn] at h4
   exact h4
  have h5 := condW_of h4 (w_not (w_lt w_lit (w_len_list (w_arg rfl))))
  rw [xae] at h5
  refine Nat.le_of_not_lt fun q => ?_
  have q' : (n : Int) < ((ns.length : Nat) : Int) := by omega
  first
   | (rw [xai q'] at h5; exact xaq h5 (by decide))
   | (simp at h5; omega)
 cases hwl with
 | cons w1 w2 =>
  cases w2
  cases w1 with
  | list ho hall => exact ⟨_, _, ns, rfl, rfl, ho, QS ns _ hall, hlen⟩
theorem QU (l : OpenLaw) (args : List WData) : l.row.toRowW.claim.post args (.bool true) args = true :=
 postW_of (r := l.row.toRowW) (X := (true == true))
  (show WShape.has [] (.bool true) .bool = true by first | rfl | decide | simp [WShape.has, WShape.arms, WShape.armsAll])
  (show (WTm.eq .res (.lit (.bool true))).value [] { args := args, res := some (.bool true), after := args } = some (.bool (true == true)) from w_eq_bool (w_res rfl) w_lit) rfl
theorem attach_call {l : OpenLaw} {n : Nat} {q : Program} {loose : List Str} {XP : (Str -> Option Value) -> Heap -> Prop} {YP : World -> Heap -> Prop} {d : DefRec}
  (hn : l.most = some n) (hdf : d.params.defaults = [])
  (call : ∀ (w : World) (s₀ s₁ : Shared) (mg mb : Str -> Option Value) (fa : Addr) (o : Obj) (pm cd doc : Value) (a : Addr) (vs : List Value) (ns : List Int),
   Ground q loose [] XP w s₀ mg mb s₁.heap -> YP w s₁.heap ->
   s₁.heap.get? fa = some o -> o.data = .func (docDef d.name d.params d.body d.scope pm cd doc) -> s₁.heap.CodeRec cd d.name -> mg d.name = some (.ref fa) ->
   s₁.heap.get? a = some { cls := .type "list", data := .seq vs.toArray } -> IntsAre vs ns -> ns.length <= n -> s₁.gens = #[] ->
   codeAny (model l.prog w) callerA (.call (.ref fa) ⟨[.ref a], []⟩) (fun r s' => r = .ok (.ret (.bool true)) /\ OldK s₁.heap s'.heap /\ s'.os = s₁.os /\ AllBare s'.gens) s₁) :
  WalkO q loose XP YP l.row.toRowW d [] (fun f vs => PySem.call f vs) := by
 intro w s₀ s₁ mg mb G Y fa o pm cd doc dV kV ho hd hcd hD hmg hg args vals as hpre hlay hrd hwl hlo
 obtain rfl : dV = .none := Dflts.none hD hdf
 obtain rfl : kV = .none := Dflts.noKw hD
 obtain ⟨a, vs, ns, rfl, rfl, hobj, hints, hlen⟩ := QT hn hpre hwl
 refine enter_call (codeAny_mono (call w s₀ s₁ mg mb fa o pm cd doc a vs ns G Y ho (fd_plain hd) hcd hmg hobj hints hlen hg) fun r s' hq => ?_)
 obtain ⟨rfl, h2, h3, h4⟩ := hq
 exact ⟨.inl ⟨.bool true, .bool true, [], rfl, fun _ => rfl, .bool true, QU l _, fun _ => ⟨List.Pairwise.nil, fun _ hm => (nomatch hm)⟩⟩, h2, h3, h4⟩
end Att
namespace L2
open PySem.Spec PyProof.Rows
theorem AO : ∀ {vs : List Value} {ns : List Int}, IntsAre vs ns -> a6 (ns.map V.int) vs
 | _, _, .nil => .nil
 | _, _, .cons n t h => .cons ⟨t, rfl⟩ (AO h)
def uU (H : Hp) : Prop := ∀ b, H b = none \/ ∃ o xs, H b = some (.frz o (.lst xs))
theorem QV {P : Program} {w : World} {K : xFg} {mg mb : Str -> Option Value} {CX : fC} {k : Nat} {fa a : Addr} {fd : FuncData} {x : Str} {sp : Sp} {s₁ : Shared} {vs : List Value} {ns : List Int}
  (KX : K.In s₁.heap) (hns : s₁.heap.Ns mainGlobals mg) (hb : s₁.heap.Ns builtinsNs mb) (hbb : ∀ x : Str, x ≠ "__name__" -> mb x = bootBuiltins x) (hlim : s₁.heap.NoLimit) (hg : s₁.gens = #[])
  (ha : s₁.heap.get? a = some { cls := .type "list", data := .seq vs.toArray }) (hi : IntsAre vs ns) (hl : ns.length <= sizeLine) (hr : cL k callerA)
  (F : ∀ base : Heap, K.In base -> base.Ns mainGlobals mg -> cH P w K mg base CX k fa fd [x] sp) (hbind : ∀ (s : Shared) (u : Value), BindsTo s fd ⟨[u], []⟩ [(x, u)])
  (hsp : ∀ H : Hp, uU H -> bH K H a (ns.map V.int) -> sp [.ref a] H (fun v _ => v = .bl true) fun _ _ _ => False)
  (hCX : ∀ H e s', CX [] H s₁ (fun _ _ _ => False) e s' -> False) :
  codeAny (model P w) callerA (.call (.ref fa) ⟨[.ref a], []⟩) (fun r s' => r = .ok (.ret (.bool true)) /\ OldK s₁.heap s'.heap /\ s'.os = s₁.os /\ AllBare s'.gens) s₁ := by
 have rv := AO hi
 have lenV := hi.length
 have core : ∀ H : Hp, uU H -> bH K H a (ns.map V.int) -> cP P w H s₁.heap -> (∀ b, H b ≠ none -> b = a) -> (H a ≠ none -> K.lookup a = none) ->
   codeAny (model P w) callerA (.call (.ref fa) ⟨[.ref a], []⟩) (fun r s' => r = .ok (.ret (.bool true)) /\ OldK s₁.heap s'.heap /\ s'.os = s₁.os /\ AllBare s'.gens) s₁ := by
  intro H hO hS hok hA hK
  have base_of : ∀ {b : Addr} {o : Obj}, s₁.heap.get? b = some o -> H b = none -> (jG s₁.heap H).get? b = some o := fun e n => MR e n
  have noA : ∀ {b : Addr} {o : Obj} {es : Array DictEntry} {ep : Nat}, s₁.heap.get? b = some o -> o.data = .dict es ep -> H b = none := fun {b o es ep} e d => by
   cases q : H b with
   | none => rfl
   | some u =>
    have e' : b = a := hA b (by rw [q]; simp)
    subst e'
    rw [ha] at e; cases e
    have d' : Data.seq vs.toArray _ = Data.dict es ep := d
    cases d'
  have nsK : ∀ {b : Addr} {m : Str -> Option Value}, s₁.heap.Ns b m -> (jG s₁.heap H).Ns b m := fun {b m} ⟨o, es, ep, e, d, r⟩ => ⟨o, es, ep, base_of e (noA e d), d, r⟩
  have hKb : K.In (jG s₁.heap H) := fun b o e => base_of (KX b o e) (by
   cases q : H b with
   | none => rfl
   | some u =>
    have e' : b = a := hA b (by rw [q]; simp)
    subst e'
    rw [hK (by rw [q]; simp)] at e; cases e)
  have hM : Mod K mg (jG s₁.heap H) := ⟨hKb, nsK hns, ⟨mb, nsK hb, hbb⟩, let ⟨mc, h1, h2⟩ := hlim; ⟨mc, nsK h1, h2⟩⟩
  have e0 : lJ P w K mg (jG s₁.heap H) callerA [] s₁ H := ⟨rfl, hM, fun b o e => MS e, Nat.le_of_eq (MQ _ _), trivial, fun b hb => xaq (show b ∈ ([] : List Addr) from hb) (by simp), hok, .of_eq hg⟩
  refine codeAny_mono ((F _ hKb (nsK hns)).run callerA [] s₁ H ⟨[.ref a], []⟩ [.ref a] [.ref a] _ _ hr e0 (hbind s₁ (.ref a)) (.cons rfl .nil) (hsp H hO hS)) fun r s' h => ?_
  cases r with
  | error e => exact (hCX H e s' h).elim
  | ok fl =>
   cases fl with
   | next => exact False.elim h
   | brk => exact False.elim h
   | cont => exact False.elim h
   | ret u =>
    obtain ⟨v, H', os, bare, un, hok', r', q⟩ := h
    have q' : v = .bl true := q
    subst q'
    obtain rfl : u = Value.bool true := r'
    refine ⟨rfl, OldK.of_keep fun b o e => ?_, os, bare⟩
    cases q : H b with
    | none => exact un.keep b o e q (by intro z; exact xaq (show b ∈ ([] : List Addr) from z) (by simp)) (by simp)
    | some u =>
     rcases hO b with z | ⟨ob, xs, z⟩
     ·rw [q] at z; cases z
     ·have z2 := un.frzs b ob _ z
      obtain ⟨e1, _⟩ := hok b _ z
      obtain ⟨e2, _⟩ := hok' b _ z2
      rw [e] at e1; cases e1
      exact e2
 cases hk : K.lookup a with
 | some o =>
  have e := KX a o hk
  rw [ha] at e
  cases e
  refine core (fun _ => none) (fun _ => .inl rfl) (.inr ⟨_, vs.toArray, _, hk, rfl, rfl, rfl, by rw [xal, lenV]; exact hl, by simpa using rv⟩) (fun b u z => by have z' : (none : Option HO) = some u := z; cases z') (fun b z => xaq rfl z) fun z => xaq rfl z
 | none =>
  refine core (fun b => if b = a then some (.frz { cls := .type "list", data := .seq vs.toArray } (.lst (ns.map V.int))) else none) (fun b => ?_) (.inl (.inr ⟨{ cls := .type "list", data := .seq vs.toArray }, xa4 rfl⟩)) (fun b u z => ?_) (fun b z => ?_) fun _ => hk
  ·by_cases hb : b = a
   ·exact .inr ⟨_, _, xa4 hb⟩
   ·exact .inl (xa1 hb)
  ·by_cases hb : b = a
   ·have z' := (xa4 hb).symm.trans z
    cases z'
    subst hb
    exact ⟨ha, by rw [xae]; exact hl, vs, _, rv, ha⟩
   ·have z' := (xa1 hb).symm.trans z
    cases z'
  ·by_cases hb : b = a
   ·exact hb
   ·exact xaq (xa1 hb) z
end L2
namespace L2
open PySem.Spec PyProof.Rows
theorem walk_of {l : PySem.W.OpenLaw} {n k : Nat} {q : Program} {loose : List Str} {XP : (Str -> Option Value) -> Heap -> Prop} {YP : World -> Heap -> Prop} {d : DefRec} {K : Params -> xFg} {CX : World -> fC} {sp : World -> Sp} {x : Str}
  (hn : l.most = some n) (hn2 : n <= sizeLine) (hdf : d.params.defaults = []) (hr : cL k callerA)
  (hY : ∀ (w : World) (h : Heap), YP w h -> (K w.params).In h)
  (F : ∀ (w : World) (mg : Str -> Option Value) (fa : Addr) (h : Heap), (K w.params).In h -> h.Ns mainGlobals mg -> mg d.name = some (.ref fa) ->
   ∃ fd : FuncData, (∀ (s : Shared) (u : Value), BindsTo s fd ⟨[u], []⟩ [(x, u)]) /\
    ∀ base : Heap, (K w.params).In base -> base.Ns mainGlobals mg -> cH l.prog w (K w.params) mg base (CX w) k fa fd [x] (sp w))
  (hsp : ∀ (w : World) (H : Hp) (a : Addr) (ns : List Int), ns.length <= n -> uU H -> bH (K w.params) H a (ns.map V.int) -> sp w [.ref a] H (fun v _ => v = .bl true) fun _ _ _ => False)
  (hCX : ∀ (w : World) (H : Hp) (s : Shared) (e : Value) (s' : Shared), CX w [] H s (fun _ _ _ => False) e s' -> False) :
  PySem.W.WalkO q loose XP YP l.row.toRowW d [] (fun f vs => PySem.call f vs) := by
 refine Att.attach_call hn hdf fun w s₀ s₁ mg mb fa o pm cd doc a vs ns G Y ho hd hcd hmg hobj hints hlen hg => ?_
 have KX := hY w _ Y
 obtain ⟨fd, hb, hF⟩ := F w mg fa _ KX G.T.g hmg
 exact QV KX G.T.g G.T.b G.T.builtins G.T.nolimit hg hobj hints (xaj hlen hn2) hr hF hb (fun H hO hS => hsp w H a ns hlen hO hS) fun H e s' => hCX w H s₁ e s'
end L2
namespace L2
open PySem.Spec PyProof.Rows
def jJ (s : Stmt) (j : Nat) : Stmt := match s with
 | .ClassDef _ _ _ body _ _ _ _ _ _ _ => body.getD j (.Pass ⟨0, 0, 0, 0⟩)
 | _ => .Pass ⟨0, 0, 0, 0⟩
def iN (s : Stmt) : Arguments := match s with
 | .FunctionDef _ a _ _ _ _ _ _ _ _ => a
 | _ => { posonlyargs := [], args := [], vararg := none, kwonlyargs := [], kw_defaults := [], kwarg := none, defaults := [] }
def eI (s : Stmt) : List Stmt := match s with
 | .FunctionDef _ _ b _ _ _ _ _ _ _ => b
 | _ => []
def bX (s : Stmt) : Scope := match s with
 | .FunctionDef _ _ _ _ _ _ sc _ _ _ => sc
 | _ => { kind := .function, names := [], isGenerator := false, isCoroutine := false }
abbrev E0 : XK := fun _ _ _ => False
structure eP (K : xFg) (x qual : Str) (st : Stmt) (f : Addr) (fd : FuncData) : Prop where
 ex : ∃ (oc : Value) (od : Option Addr) (kV doc pm : Value) (an : Option Addr) (cdv ct : Value) (osl : Array (Option Value)),
  fd = PySem.W.fnOf x qual (iN st) (eI st) (bX st) .none kV doc pm an cdv ct /\ K.lookup f = some ⟨oc, od, .func fd, osl⟩ /\ PySem.W.codeIn K cdv qual = true
 kp : PySem.W.keepIn K (.ref f) = true
section
variable {P : Program} {w : World} {K : xFg} {mg : Str -> Option Value} {base : Heap}
theorem eP.binds {x qual : Str} {st : Stmt} {f : Addr} {fd : FuncData} {ps : List Str} (F : eP K x qual st f fd)
  (h : ∀ (kV doc pm : Value) (an : Option Addr) (cdv ct : Value) (us : List Value), us.length = ps.length -> bindArgs (PySem.W.fnOf x qual (iN st) (eI st) (bX st) .none kV doc pm an cdv ct) ⟨us, []⟩ = pure (ps.zip us)) : eE K fd ps [] := by
 obtain ⟨oc, od, kV, doc, pm, an, cdv, ct, osl, rfl, lk, hcd⟩ := F.ex
 exact .all (h kV doc pm an cdv ct)
theorem uV {x qual : Str} {st : Stmt} {f : Addr} {oc : Value} {od an : Option Addr} {osl : Array (Option Value)} {kV doc pm cdv ct : Value} (l : K.lookup f = some ⟨oc, od, .func (PySem.W.fnOf x qual (iN st) (eI st) (bX st) .none kV doc pm an cdv ct), osl⟩)
  (c : PySem.W.codeIn K cdv qual = true) (k : PySem.W.keepIn K (.ref f) = true) : eP K x qual st f (PySem.W.fnOf x qual (iN st) (eI st) (bX st) .none kV doc pm an cdv ct) := ⟨⟨oc, od, kV, doc, pm, an, cdv, ct, osl, rfl, l, c⟩, k⟩
end
theorem QW {n : Nat} (h : n <= 1000) : n < sizeLine := xbz h (by decide)
section
variable {X : Cx}
theorem pv (i : Nat) {x : Str} {pos : Pos} (hN : X.N[i]? = some x := by rfl) (hv : gA X.env.scope x := by first | exact Or.inl rfl | exact Or.inr (Or.inl rfl) | exact Or.inr (Or.inr rfl)) (hd : (x == ("__debug__" : Str)) = false := by decide)
  (hcd : (x == ("__classdict__" : Str)) = false := by decide) : PE X (.Name x pos) (yY i) := MX hN hv hd hcd
end
theorem uW {A B : Prop} (h : B) : if false = true then A else B := by
 rw [xa1 xa2]
 exact h
theorem uX {A B : Prop} (h : A) : if true = true then A else B := by
 rw [xa4 rfl]
 exact h
def aK (H H' : Hp) : Prop := ∀ b o, H b = some o -> H' b = some o
theorem aK.refl (H : Hp) : aK H H := fun _ _ h => h
theorem aK.trans {H H1 H2 : Hp} (a : aK H H1) (b : aK H1 H2) : aK H H2 := fun c o h => b c o (a c o h)
theorem aK.free {H H' : Hp} (e : aK H H') {l : Addr} (h : H' l = Option.none) : H l = Option.none := by
 cases q : H l with
 | none => rfl
 | some o =>
  rw [e l o q] at h
  cases h
theorem aK.seq {K : xFg} {H H' : Hp} {a : Addr} {xs : List V} (e : aK H H') (h : bH K H a xs) : bH K H' a xs := by
 rcases h with (h | ⟨o, h⟩) | h
 ·exact .inl (.inl (e _ _ h))
 ·exact .inl (.inr ⟨o, e _ _ h⟩)
 ·exact .inr h
end L2
end
namespace L2
open PySem.Spec PyProof.Rows
theorem AQ {α β : Type} (g : β -> α -> β) : ∀ {l : List α} {f : α -> β -> Sem (ForInStep β)} (c : β), (∀ x ∈ l, ∀ c, f x c = pure (.yield (g c x))) -> forIn l c f = pure (l.foldl g c)
 | [], _, _, _ => rfl
 | x :: l, f, c, h => by
  rw [xb1, h x xax c, pure_bind]
  exact AQ g (g c x) fun y hy => h y (xah _ hy)
def hV (env : Env) (cs : List (Str × Addr)) (x : Str × NameKind) : List (Str × Addr) :=
 if (x.2 == NameKind.free) = true then (x.1, (env.cells.lookup x.1).getD 0) :: cs else cs
def mV (env : Env) (names : List (Str × NameKind)) : List (Str × Addr) := names.foldl (hV env) []
theorem AR {env : Env} {scope : Scope} (h : ∀ x ∈ scope.names, x.2 = .free -> ∃ c, env.cells.lookup x.1 = some c) : closureFor scope env = pure (mV env scope.names) := by
 simp only [closureFor]
 rw [AQ (hV env) [] (fun x hx c => by
  obtain ⟨n, k⟩ := x
  by_cases hk : k = .free
  ·obtain ⟨a, e⟩ := h (n, k) hx hk
   have e' : env.cells.lookup n = some a := e
   subst hk
   simp [hV, cellOf, e']
  ·have hb : (k == NameKind.free) = false := by simpa using hk
   simp [hV, hb])]
 rfl
theorem uY {env : Env} : ∀ (l : List (Str × NameKind)) (acc : List (Str × Addr)), (∀ x ∈ l, x.2 = .free -> ∃ c, env.cells.lookup x.1 = some c) -> (∀ y c, acc.lookup y = some c -> env.cells.lookup y = some c) ->
  ∀ y c, (l.foldl (hV env) acc).lookup y = some c -> env.cells.lookup y = some c
 | [], acc, _, ha, y, c, e => ha y c e
 | x :: l, acc, h, ha, y, c, e => by
  refine uY l (hV env acc x) (fun z hz => h z (xah _ hz)) (fun z d q => ?_) y c e
  unfold hV at q
  split at q
  ·rename_i hk
   obtain ⟨a, ea⟩ := h x xax (by simpa using hk)
   rw [xbx] at q
   cases hz : z == x.1 with
   | true =>
    rw [hz] at q
    rw [ea] at q
    have : z = x.1 := by simpa using hz
    rw [this, ea]; simpa using q
   | false => rw [hz] at q; exact ha z d q
  ·exact ha z d q
theorem uZ {env : Env} : ∀ (l : List (Str × NameKind)) (acc : List (Str × Addr)) (y : Str), ((∃ c, acc.lookup y = some c) \/ (y, NameKind.free) ∈ l) -> ∃ c, (l.foldl (hV env) acc).lookup y = some c
 | [], acc, y, h => by
  rcases h with h | h
  ·exact h
  ·exact xaq h (by simp)
 | x :: l, acc, y, h => by
  refine uZ l (hV env acc x) y ?_
  rcases h with ⟨c, h⟩ | h
  ·left
   unfold hV
   split
   ·rw [xbx]
    cases hz : y == x.1 with
    | true => exact ⟨_, rfl⟩
    | false => exact ⟨c, h⟩
   ·exact ⟨c, h⟩
  ·rcases xag.mp h with e | h
   ·left
    subst e
    unfold hV
    rw [xa4 (by rfl), xbx]
    simp
   ·exact .inr h
theorem lM {scope : Scope} {env : Env} : ∀ {names : List (Str × NameKind)} {x : Str} {k : NameKind},
  (names.map fun (n, k) => if (k == NameKind.free && env.scope.kind == .function && env.kindOf n == some .cell) then (n, NameKind.cell) else (n, k)).lookup x = some k ->
  names.lookup x = some k \/ (k = .cell /\ names.lookup x = some .free)
 | [], _, _, h => by simp at h
 | (n, k') :: r, x, k, h => by
  change List.lookup x ((if (k' == NameKind.free && env.scope.kind == .function && env.kindOf n == some .cell) = true then (n, NameKind.cell) else (n, k')) :: _) = some k at h
  by_cases hc : (k' == NameKind.free && env.scope.kind == .function && env.kindOf n == some .cell) = true
  ·rw [xa4 hc, xbx] at h
   rw [xbx]
   cases hx : x == n with
   | true =>
    rw [hx] at h
    have hk : k' = .free := by
     simp only [xaw, beq_iff_eq] at hc
     exact hc.1.1
    subst hk
    have h' : NameKind.cell = k := by simpa using h
    exact .inr ⟨h'.symm, rfl⟩
   | false => rw [hx] at h; exact lM (scope := scope) h
  ·rw [xa1 hc, xbx] at h
   rw [xbx]
   cases hx : x == n with
   | true => rw [hx] at h; exact .inl h
   | false => rw [hx] at h; exact lM (scope := scope) h
def u4 (k : Nat) (NY N : List Str) (sc : Scope) : Bool :=
 NY.length == k + N.length && ((NY.drop k).zip N).all fun p => (sc.names.lookup p.1).isNone || (p.1 == p.2 && sc.names.lookup p.1 != some .local)
structure LC (X : Cx) (k : Nat) (scope : Scope) (NY : List Str) : Prop where
 cells : ∀ y ∈ scope.names, y.2 ≠ .cell
 kind : scope.kind = .function
 names : ∀ y ∈ scope.names, y.2 = .local -> scope.names.lookup y.1 = some .local
 free : ∀ y ∈ scope.names, y.2 = .free -> X.env.kindOf y.1 = some .cell \/ X.env.kindOf y.1 = some .free
 ny : u4 k NY X.N scope = true
 nd : NY.Nodup
def AS (k : Nat) (N : List Str) (sc0 scope : Scope) (NY : List Str) : Bool :=
 (scope.names.all fun y => y.2 != .cell) && (scope.kind == .function) && (scope.names.all fun y => y.2 != .local || scope.names.lookup y.1 == some .local) &&
 (scope.names.all fun y => y.2 != .free || sc0.names.lookup y.1 == some .cell || sc0.names.lookup y.1 == some .free) && u4 k NY N scope && decide NY.Nodup
theorem LC.of {X : Cx} {k : Nat} {N NY : List Str} {sc0 scope : Scope} (hN : X.N = N) (hs : X.env.scope = sc0) (h : AS k N sc0 scope NY = true) : LC X k scope NY := by
 unfold AS at h
 simp only [xaw, xa8, xcu, bne_iff_ne, beq_iff_eq, ne_eq] at h
 obtain ⟨⟨⟨⟨⟨h1, h2⟩, h3⟩, h4⟩, h5⟩, h6⟩ := h
 refine ⟨h1, h2, fun y hy e => ?_, fun y hy e => ?_, by rw [hN]; exact h5, xat h6⟩
 ·rcases h3 y hy with z | z
  ·exact xaq e z
  ·exact z
 ·show X.env.scope.names.lookup y.1 = _ \/ X.env.scope.names.lookup y.1 = _
  rw [hs]
  rcases h4 y hy with (z | z) | z
  ·exact xaq e z
  ·exact .inl z
  ·exact .inr z
def b7 (X : Cx) (scope : Scope) (NY : List Str) (s₀ : Shared) (H₀ : Hp) (C : Addr) (ex : List Addr) : Cx :=
 { X with N := NY, s₀ := s₀, H₀ := H₀, env := compEnvC scope (mV X.env scope.names) C X.env, outer := X.stack, ex := ex, fn := fun _ => false, pn := [], xe := fun _ _ => False }
def jK (X : Cx) (cs : List Expr) (t : TT) : Prop :=
 ∀ (pins : List (Addr × Obj)) (s : Shared) (U : St) (H : Hp) (Q : Bool -> Hp -> Prop), aH X pins U H s -> t U H Q ->
  wpAny (model X.prog X.w) X.A (forIn cs true fun c r => if r = true then do let ok <- isTrue c X.env (eval c X.env); pure (ForInStep.yield ok) else pure (ForInStep.yield r)) (TP X pins U Q) X.xe s
def QX : TT := fun _ H Q => Q true H
theorem QY {X : Cx} : jK X [] QX := fun _ _ _ H _ I h => wpAny_tests_nil ⟨H, I, h⟩
def u6 (U σ2 : St) : Prop := σ2.length = U.length /\ ∀ (j : Nat) (v : V), U[j]? = some (some v) -> σ2[j]? = some (some v)
def qV (k : Nat) (wi : TI) (g : TG) (tc : TT) (te : TE) : TE := fun U H Q => wi U H fun J H1 => ∃ W : Nat -> Nat -> List V -> Hp -> Prop, (∃ m, W 0 m [] H1) /\ ∀ i m ys H, W i m ys H -> ys.length < sizeLine /\
 ((J.stop i H /\ ∀ D, H D = none -> Q (.ref D) (aO H D (.lst ys))) \/
  (J.go i H /\ ∃ N : List V -> Hp -> Prop, (∀ ys' H', N ys' H' -> ∃ m', m' < m /\ W (i + 1) m' ys' H') /\
    ∀ v H', J.yld i H v H' -> g v (List.replicate k none ++ U) H' fun σ2 H2 => u6 (List.replicate k none ++ U) σ2 /\
      tc σ2 H2 fun b H3 => if b = true then te σ2 H3 fun y H4 => N (ys ++ [y]) H4 else N ys H3))
theorem u7 {α : Type} {t : Sem α} {Q Q' : α -> Shared -> Prop} {M : Model} {A : Around} {E : Value -> Shared -> Prop} {s : Shared} (h : wpAny M A t Q (fun _ _ => False) s) (hQ : ∀ a s, Q a s -> Q' a s) : wpAny M A t Q' E s :=
 wpAny_mono h hQ fun _ _ z => False.elim z
section
variable {prog : Program} {w : World} {A : Around} {R : Result -> Shared -> Prop} {s : Shared}
theorem QZ {elt tg iter : Expr} {ifs : List Expr} {scope : Scope} {pos : Pos} {it acc : Value} {env : Env} (W : Nat -> Shared -> Prop)
  (turn : ∀ n s, W n s -> ∀ E', wpAny (model prog w) A (pyNext it) (fun r s1 => match r with
   | none => R (.ok .next) s1
   | some v => wpAny (model prog w) A (letOwnedTupleGo tg it v) (fun _ s2 => wpAny (model prog w) A (assign tg env v) (fun _ s3 =>
     wpAny (model prog w) A (forIn ifs true fun c r => if r = true then do let ok <- isTrue c env (eval c env); pure (ForInStep.yield ok) else pure (ForInStep.yield r)) (fun ok s4 =>
      if ok = true then wpAny (model prog w) A (eval elt env) (fun x s5 => wpAny (model prog w) A (call (.builtin "list.append") [acc, x]) (fun _ s6 => ∃ m, m < n /\ W m s6) E' s5) E' s4
      else ∃ m, m < n /\ W m s4) E' s3) E' s2) E' s1) E' s)
  (n : Nat) (h : W n s) : codeAny (model prog w) A (.compLoop (.ListComp elt [⟨tg, iter, ifs, 0⟩] scope pos) 0 it acc env) R s := by
 refine codeAny_loop rfl W (fun n s hW => ?_) n h
 show wpAny _ A ((compTurn (.ListComp elt [⟨tg, iter, ifs, 0⟩] scope pos) 0 it acc env).onRaise (fun x => do noteFrame x env; theTreesLotGoes x)) _ _ s
 refine wpAny_noted ?_
 rw [compTurn_list]
 refine xab (wpAny_standAt (xab (aP (turn n s hW _) fun r s1 h1 => ?_)))
 cases r with
 | none => exact xap h1
 | some v =>
  refine xab (aP h1 fun _ s2 h2 => xab (aP h2 fun _ s3 h3 => xab (aP h3 fun ok s4 h4 => ?_)))
  cases ok with
  | false => exact xap ⟨rfl, h4⟩
  | true => exact xab (xab (aP h4 fun x s5 h5 => xab (aP h5 fun _ s6 h6 => xap (xap ⟨rfl, h6⟩))))
end
section
variable {X : Cx} {pins : List (Addr × Obj)} {U : St} {H2 : Hp} {s2 : Shared} {scope : Scope} {NY : List Str} {k : Nat} {C D : Addr} {fp : List Addr}
theorem Q0 (I2 : aH X pins U H2 s2) (lc : LC X k scope NY) (hf : ∀ b ∈ fp, fQ X pins H2 b) (hfl : ∀ b ∈ fp, b < s2.heap.objs.size) (hC : s2.heap.objs.size <= C) : (b7 X scope NY s2 H2 C fp).Ok := by
 have hfree : ∀ x ∈ scope.names, x.2 = .free -> ∃ c, X.env.cells.lookup x.1 = some c := fun x hx e => I2.ok.has x.1 (lc.free x hx e)
 have sub : ∀ x c, (mV X.env scope.names).lookup x = some c -> X.env.cells.lookup x = some c := uY scope.names [] hfree (fun y c e => by simp at e)
 refine ⟨I2.ok.mod, ?_, I2.ok.glob, I2.ok.blt, hC, fun x y c e1 e2 => I2.ok.inj x y c (sub x c e1) (sub y c e2), fun x hx => ?_, fun x c z => xaq z (by show ¬ (false = true); decide), I2.ok.hd, I2.ok.frames, .inl rfl, fun b hb => ⟨xa6 (xar (hfl b hb) hC), fun x c e => (hf b hb).2.2.2.2.1 x c (sub x c e)⟩,
  I2.bs, xaj I2.ok.bsz I2.sz, fun b o e hb => ?_, fun b hb z => ?_, I2.stack, I2.stkFree⟩
 ·show (relabel scope X.env).kind = .function
  exact lc.kind
 ·have hx : (relabel scope X.env).names.lookup x = some .cell \/ (relabel scope X.env).names.lookup x = some .free := hx
  have key : scope.names.lookup x = some .free := by
   rcases hx with hx | hx
   ·rcases lM (scope := scope) hx with z | ⟨_, z⟩
    ·exact xaq rfl (lc.cells _ (PySem.mem_of_lookup z))
    ·exact z
   ·rcases lM (scope := scope) hx with z | ⟨_, z⟩
    ·exact z
    ·exact z
  exact uZ scope.names [] x (.inr (PySem.mem_of_lookup key))
 ·have q : b ∈ X.ex \/ X.s₀.heap.objs.size <= b := (hf b hb).2.2.2.1
  rcases q with q | q
  ·exact I2.ok.noex b o e q
  ·exact xaq (xar (xan e) (xaj I2.ok.bsz q)) (xbs _)
 ·rcases xag.mp (I2.stkSub b z) with e | e
  ·exact (hf b hb).2.1 e
  ·exact (hf b hb).2.2.1 e
theorem Q1 {h1 : Heap} {tk : Nat} {m : Str -> Option Value} {oD : Obj} (I2 : aH X pins U H2 s2) (lc : LC X k scope NY) (hf : ∀ b ∈ fp, fQ X pins H2 b) (hfl : ∀ b ∈ fp, b < s2.heap.objs.size) (hC : s2.heap.objs.size <= C) (hD : s2.heap.objs.size <= D) (hDC : D ≠ C)
  (old : ∀ b o, s2.heap.get? b = some o -> h1.get? b = some o) (hn : h1.Ns C m) (ho : h1.get? D = some oD) (hoD : ∀ v, oD.data ≠ .cell v) :
  aH (b7 X scope NY s2 H2 C fp) [(D, oD)] (List.replicate k none ++ U) H2 { s2 with heap := h1, toks := tk } := by
 have hfree : ∀ x ∈ scope.names, x.2 = .free -> ∃ c, X.env.cells.lookup x.1 = some c := fun x hx e => I2.ok.has x.1 (lc.free x hx e)
 have sub : ∀ x c, (mV X.env scope.names).lookup x = some c -> X.env.cells.lookup x = some c := uY scope.names [] hfree (fun y c e => by simp at e)
 have hny := lc.ny
 unfold u4 at hny
 simp only [xaw, beq_iff_eq, xa8, xcu, bne_iff_ne, ne_eq] at hny
 obtain ⟨hlen, hz⟩ := hny
 refine ⟨Q0 I2 lc hf hfl hC, rfl, I2.bare, Un.kept old, ⟨m, hn, fun i x v e1 e2 e3 => ?_⟩, fun x c e => ?_, I2.hok.fresh hC, fun x c e => I2.freeC x c (sub x c e), fun p hp => ?_, I2.hok.kept old, ?_⟩
 ·have e1 : NY[i]? = some x := e1
  have hik : k <= i := by
   refine Nat.le_of_not_lt fun z => ?_
   rw [xbc (by simpa using z), xb8, xa4 z] at e2
   cases e2
  rw [xbe (by simpa using hik), xb0] at e2
  have hi2 : i - k < X.N.length := by
   rw [<- I2.len]; exact (xam.mp e2).1
  obtain ⟨y, ey⟩ : ∃ y, X.N[i - k]? = some y := ⟨_, xas hi2⟩
  have em : (x, y) ∈ (NY.drop k).zip X.N := by
   refine xbo (i := i - k) ?_
   rw [List.getElem?_zip_eq_some]
   refine ⟨?_, ey⟩
   rw [List.getElem?_drop, show k + (i - k) = i by omega]; exact e1
  have e3 : gA (relabel scope X.env) x := e3
  have kf : scope.names.lookup x = some .free := by
   have kk : ∃ q, scope.names.lookup x = some q := by
    rcases e3 with z | z | z <;> rcases lM (scope := scope) z with z | ⟨_, z⟩ <;> exact ⟨_, z⟩
   have zz := hz (x, y) em
   have nl : scope.names.lookup x ≠ some .local := by
    rcases zz with zz | zz
    ·obtain ⟨q, hq⟩ := kk
     have zz : (scope.names.lookup x).isNone = true := zz
     rw [hq] at zz; cases zz
    ·exact zz.2
   rcases e3 with z | z | z <;> rcases lM (scope := scope) z with z | ⟨_, z⟩
   ·exact xaq z nl
   ·exact z
   ·exact xaq rfl (lc.cells _ (PySem.mem_of_lookup z))
   ·exact z
   ·exact z
   ·exact z
  have exy : x = y := by
   rcases hz (x, y) em with zz | zz
   ·have zz : (scope.names.lookup x).isNone = true := zz
    rw [kf] at zz; cases zz
   ·exact zz.1
  subst exy
  obtain ⟨mX, hnX, hlX⟩ := I2.loc
  have hk := lc.free (x, .free) (PySem.mem_of_lookup kf) rfl
  have hk : X.env.kindOf x = some .cell \/ X.env.kindOf x = some .free := hk
  obtain ⟨u, ru, lu⟩ := hlX (i - k) x v ey e2 (.inr hk)
  refine ⟨u, ru, ?_⟩
  rcases lu with ⟨z, _⟩ | ⟨_, c, hc, hcell⟩
  ·rcases hk with q | q <;> rw [q] at z <;> cases z
  ·obtain ⟨c', hc'⟩ := uZ (env := X.env) scope.names [] x (.inr (PySem.mem_of_lookup kf))
   have : c' = c := by
    have q := sub x c' hc'
    rw [hc] at q; exact (xbk q).symm
   subst this
   refine .inr ⟨?_, c', hc', hcell.keeps old⟩
   show (relabel scope X.env).names.lookup x = some .cell \/ (relabel scope X.env).names.lookup x = some .free
   rcases e3 with z | z
   ·rcases lM (scope := scope) z with z | ⟨z, _⟩
    ·rw [kf] at z; cases z
    ·cases z
   ·exact z
 ·obtain ⟨v, z⟩ := I2.cell x c (sub x c e)
  exact ⟨v, z.keeps old⟩
 ·have e : p = (D, oD) := by simpa [b7] using hp
  subst e
  refine ⟨ho, I2.hok.fresh hD, hDC, fun z => ?_, hoD⟩
  have z : D ∈ cK X.stack := z
  rcases xag.mp (I2.stkSub D z) with q | q
  ·exact xaq (xar I2.lt hD) (by rw [q]; exact xbs _)
  ·exact I2.nofs hD q
 ·show (List.replicate k none ++ U).length = NY.length
  rw [hlen, xaa, xb0, I2.len]
theorem Q2 {H4 : Hp} {s4 : Shared} {U' : St} {ys : List V} {us : List Value} (I2 : aH X pins U H2 s2) (hf : ∀ b ∈ fp, fQ X pins H2 b) (hC : s2.heap.objs.size <= C) (hD : s2.heap.objs.size <= D)
  (I4 : aH (b7 X scope NY s2 H2 C fp) [(D, LCg.lst us)] U' H4 s4) (rv : a6 ys us) (hz : ys.length <= sizeLine) : aH X pins U (aO H4 D (.lst ys)) s4 := by
 obtain ⟨pD, nD, neD, nfD, dD⟩ := I4.pin (D, LCg.lst us) (by simp)
 have u0 : Un (cK X.stack) fp H2 H4 s2.heap s4.heap := I4.base
 have neb : ∀ b o, s2.heap.get? b = some o -> b ≠ D := fun b o e => xa6 (xar (xan e) hD)
 have hok : cP X.prog X.w (aO H4 D (.lst ys)) s4.heap := fun b u e => by
  by_cases hb : b = D
  ·subst hb
   rw [bP] at e; cases e
   exact ⟨hz, us, us.length, rv, pD⟩
  ·rw [bC hb] at e
   exact (I4.hok b u e).stay (fun _ _ _ q => q) (fun c q => by rw [bC (cR q nD)]; exact q) fun c xs q => by rw [bC (cR q nD)]; exact q
 refine I2.call' (ch := fp) I4.os ⟨u0.keep, u0.slot, fun b o e n hx => ?_, u0.there, fun b xs q => ?_, fun b o u q => ?_, fun b ps q => ?_⟩ hok I4.bare fun b hb => ⟨(hf b hb).2.2.2.1, (hf b hb).2.1, (hf b hb).2.2.2.2.1, (hf b hb).2.2.2.2.2⟩
 ·rw [bC (neb b o e)]; exact u0.free b o e n hx
 ·have z := u0.tups b xs q
  rw [bC (cR z nD)]; exact z
 ·have z := u0.frzs b o u q
  rw [bC (cR z nD)]; exact z
 ·obtain ⟨more, z⟩ := u0.tbls b ps q
  exact ⟨more, by rw [bC (cR z nD)]; exact z⟩
end
theorem AT {X : Cx} {tg elt iter : Expr} {ifs : List Expr} {scope : Scope} {pos : Pos} {NY : List Str} {k : Nat} {g : TG} {tc : TT} {te : TE} (hc : X.calm = true) (lc : LC X k scope NY)
  (hb : ∀ (s₀ : Shared) (H₀ : Hp) (C : Addr) (ex : List Addr), NY.Nodup -> PG (b7 X scope NY s₀ H₀ C ex) tg g /\ jK (b7 X scope NY s₀ H₀ C ex) ifs tc /\ PE (b7 X scope NY s₀ H₀ C ex) elt te)
  {pins : List (Addr × Obj)} {U : St} {H2 : Hp} {s2 : Shared} {it : Addr} {fp : List Addr} {tn : Nat -> Heap -> Prop} {J : It} {RR : Value -> Addr -> Result -> Shared -> Prop} {E : Value -> Shared -> Prop} {Fin : List V -> Hp -> Prop}
  (I2 : aH X pins U H2 s2) (T : lH X.prog X.w X.K tg J fp it tn) (st2 : tn 0 s2.heap) (f2 : ∀ b ∈ fp, fQ X pins H2 b) {W : Nat -> Nat -> List V -> Hp -> Prop} {m0 : Nat} (w0 : W 0 m0 [] H2)
  (turn : ∀ i m ys H, W i m ys H -> ys.length < sizeLine /\ ((J.stop i H /\ Fin ys H) \/ (J.go i H /\ ∃ N : List V -> Hp -> Prop, (∀ ys' H', N ys' H' -> ∃ m', m' < m /\ W (i + 1) m' ys' H') /\
   ∀ v H', J.yld i H v H' -> g v (List.replicate k none ++ U) H' fun σ2 H2 => u6 (List.replicate k none ++ U) σ2 /\ tc σ2 H2 fun b H3 => if b = true then te σ2 H3 fun y H4 => N (ys ++ [y]) H4 else N ys H3)))
  (fin : ∀ (C D : Addr) (H4 : Hp) (s4 : Shared) (ys : List V) (m : Str -> Option Value), s2.heap.objs.size <= C -> H4 D = none -> H4 C = none -> D ≠ C -> s4.heap.Ns C m -> aH X pins U (aO H4 D (.lst ys)) s4 -> Fin ys H4 -> RR (.ref D) C (.ok .next) s4) :
  wpAny (model X.prog X.w) X.A (newList []) (fun acc s3 => wpAny (model X.prog X.w) X.A (newFunctionEnv scope X.env.globals (mV X.env scope.names) [] X.env.qual none .none (some X.env)) (fun cenv s4 =>
   codeAny (model X.prog X.w) X.A (.compStart (.ListComp elt [⟨tg, iter, ifs, 0⟩] scope pos) 0 (.ref it) acc { cenv with scope := relabel scope X.env }) (RR acc cenv.locals) s4) E s3) E s2 := by
 refine wpAny_newObj_type (wpAny_newFunctionEnv lc.cells (by intro y hy; simp at hy) (fun h1 hns1 hsb1 => ?_) lc.kind)
 dsimp only at hns1 hsb1 ⊢
 generalize hG : s2.heap.push { cls := .type "list", dict := none, data := .seq ([] : List Value).toArray } = G at hns1 hsb1 ⊢
 have hC : G.objs.size = s2.heap.objs.size + 1 := by rw [<- hG, xbq]
 have hCle : s2.heap.objs.size <= G.objs.size := by omega
 have hDC : s2.heap.objs.size ≠ G.objs.size := by omega
 have hfl : ∀ b ∈ fp, b < s2.heap.objs.size := fun b hb => by obtain ⟨o, e, _⟩ := T.obj 0 _ st2 b hb; exact xan e
 have old : ∀ b o, s2.heap.get? b = some o -> h1.get? b = some o := fun b o e => by
  have lt := xan e
  refine hsb1.extBut b o (xa6 (xar lt hCle)) (xad _ ?_)
  rw [<- hG]; exact xad _ e
 have hacc : h1.get? s2.heap.objs.size = some (LCg.lst []) := by
  refine hsb1.extBut _ _ hDC (xad _ ?_)
  rw [<- hG]; exact xav _ rfl
 have dl : ∀ (us : List Value) v, (LCg.lst us).data ≠ .cell v := fun us v z => by
  have z' : Data.seq us.toArray us.length = Data.cell v := z
  cases z'
 have I3 := Q1 (h1 := h1) (tk := s2.toks + ([] : List (Str × Value)).length) I2 lc f2 hfl hCle (xak _) hDC old hns1 hacc (dl [])
 have fpY : ∀ {us : List Value} {H' : Hp}, (∀ b ∈ fp, H' b = none) -> ∀ b ∈ fp, fQ (b7 X scope NY s2 H2 G.objs.size fp) [(s2.heap.objs.size, LCg.lst us)] H' b := fun {us H'} hn b hb => by
  have lt := hfl b hb
  have okY := I3.ok
  refine ⟨hn b hb, (okY.exf b hb).1, okY.exfs b hb, .inl hb, (okY.exf b hb).2, fun p hp => ?_⟩
  have e : p = (s2.heap.objs.size, LCg.lst us) := by simpa [b7] using hp
  subst e
  exact xca lt
 obtain ⟨hg, ht, he⟩ := hb s2 H2 G.objs.size fp lc.nd
 have loop : ∀ s3 : Shared, s3 = { s2 with heap := h1, toks := s2.toks + ([] : List (Str × Value)).length } ->
   codeAny (model X.prog X.w) X.A (.compLoop (.ListComp elt [⟨tg, iter, ifs, 0⟩] scope pos) 0 (.ref it) (.ref s2.heap.objs.size) (compEnvC scope (mV X.env scope.names) G.objs.size X.env)) (RR (.ref s2.heap.objs.size) G.objs.size) s3 := by
  rintro s3 rfl
  refine QZ (fun n s' => ∃ i H' ys us, aH (b7 X scope NY s2 H2 G.objs.size fp) [(s2.heap.objs.size, LCg.lst us)] (List.replicate k none ++ U) H' s' /\ a6 ys us /\ tn i s'.heap /\ (∀ b ∈ fp, H' b = none) /\ W i n ys H') ?_ m0
   ⟨0, H2, [], [], I3, .nil, T.keep _ _ _ st2 fun b _ o e => old b o e, fun b hb => (f2 b hb).1, w0⟩
  rintro n s3 ⟨i, H3, ys, us, I3, rv, st3, fr3, w3⟩ E'
  obtain ⟨hsz, hturn⟩ := turn i n ys H3 w3
  rcases hturn with ⟨stop, qn⟩ | ⟨go, N, hN, step⟩
  ·refine aP (T.done (b7 X scope NY s2 H2 G.objs.size fp) rfl rfl rfl hc i _ s3 _ H3 E' I3 (fpY fr3) st3 stop) fun r s4 ⟨hr, I4⟩ => ?_
   subst hr
   obtain ⟨m4, hn4, _⟩ := I4.loc
   exact fin _ _ H3 s4 ys m4 hCle (I4.pin (s2.heap.objs.size, LCg.lst us) (by simp)).2.1 I4.free hDC hn4 (Q2 I2 f2 hCle (xak _) I4 rv (xch hsz)) qn
  ·refine aP (T.item (b7 X scope NY s2 H2 G.objs.size fp) rfl rfl rfl hc i _ s3 _ H3 E' I3 (fpY fr3) st3 go) fun r s4 ⟨u, hr, h4⟩ => ?_
   subst hr
   refine aP h4 fun _ s5 ⟨x, H5, I5, r5, y5, st5, fr5⟩ => ?_
   have I5' := I5.pinned (fpY fr5) (T.obj _ _ st5)
   refine u7 (hg _ s5 _ H5 x u _ I5' r5 (step x H5 y5)) fun _ s6 ⟨σ6, H6, I6, sub6, q6⟩ => ?_
   have keep : ∀ {σ7 : St} {H7 : Hp} {s7 : Shared}, aH (b7 X scope NY s2 H2 G.objs.size fp) ([(s2.heap.objs.size, LCg.lst us)] ++ oP fp s5.heap) σ7 H7 s7 -> tn (i + 1) s7.heap /\ (∀ b ∈ fp, H7 b = none) := fun {σ7 H7 s7} I7 => by
    refine ⟨T.keep _ _ _ st5 fun b hb o e => (I7.pin (b, o) (xbg _ (xbg _ (qP hb e)))).1, fun b hb => ?_⟩
    obtain ⟨o, e, d⟩ := T.obj _ _ st5 b hb
    exact (I7.pin (b, o) (xbg _ (xbg _ (qP hb e)))).2.1
   refine u7 (ht _ s6 σ6 H6 _ I6 q6) fun ok s7 ⟨H7, I7, q7⟩ => ?_
   cases ok with
   | false =>
    rw [xa1 xa2] at q7 ⊢
    obtain ⟨m', hm, w7⟩ := hN _ _ q7
    obtain ⟨k1, k2⟩ := keep I7
    exact ⟨m', hm, i + 1, H7, ys, us, (I7.weak (by rw [I7.len, I5.len]) sub6.2).unpinned, rv, k1, k2, w7⟩
   | true =>
    rw [xa4 rfl] at q7 ⊢
    refine u7 (he _ s7 σ6 H7 _ I7 q7) fun y s8 ⟨v, H8, I8, r8, q8⟩ => ?_
    obtain ⟨m', hm, w8⟩ := hN _ _ q8
    obtain ⟨k1, k2⟩ := keep I8
    obtain ⟨pD, nD, neD, nfD, dD⟩ := I8.pin (s2.heap.objs.size, LCg.lst us) (by simp)
    have hul : us.toArray.size <= sizeLine := by rw [xal, <- rv.length]; exact xch hsz
    refine append_at pD (fun h9 sb9 hD9 => ?_) hul
    have I8' : aH (b7 X scope NY s2 H2 G.objs.size fp) [] (List.replicate k none ++ U) H8 s8 := (I8.weak (by rw [I8.len, I5.len]) sub6.2).pins_of fun p hp => xaq hp (by simp)
    have hDfp : s2.heap.objs.size ∉ fp := fun z => xbs _ (hfl _ z)
    have I9 : aH (b7 X scope NY s2 H2 G.objs.size fp) [] (List.replicate k none ++ U) H8 { s8 with heap := h9 } :=
     I8'.turned (t' := s8.toks) (it := s2.heap.objs.size) (fun b o hb e => (sb9.2 b hb).trans e) nD neD (.inr (xak _)) (fun x c e z => by
      obtain ⟨v', o', e1, e2⟩ := I8.cell x c e
      rw [z, pD] at e1
      have e1' : LCg.lst us = o' := xbk e1
      rw [<- e1'] at e2
      exact dl us v' e2) (fun p hp => xaq hp (by simp [b7]))
    refine ⟨m', hm, i + 1, H8, ys ++ [v], us ++ [y], I9.pins_of fun p hp => ?_, rv.append (.cons r8 .nil), T.keep _ _ _ k1 fun b hb o e => (sb9.2 b fun z => hDfp (z ▸ hb)).trans e, k2, w8⟩
    have e : p = (s2.heap.objs.size, LCg.lst (us ++ [y])) := by simpa using hp
    subst e
    exact ⟨hD9.trans (congrArg some (LCg.lst_snoc us y)), nD, neD, nfD, dl _⟩
 exact codeAny_compStart_list (loop _ rfl) (T.self _ 0 _ _ _ (T.keep _ _ _ st2 fun b _ o e => old b o e) (loop _ rfl))
section
variable {X : Cx} {tg elt iter : Expr} {ifs : List Expr} {scope : Scope} {pos : Pos} {NY : List Str} {k : Nat} {wi : TI} {g : TG} {tc : TT} {te : TE}
theorem Q3 (hc : X.calm = true) (lc : LC X k scope NY) (hi : PI X tg iter wi)
  (hb : ∀ (s₀ : Shared) (H₀ : Hp) (C : Addr) (ex : List Addr), NY.Nodup -> PG (b7 X scope NY s₀ H₀ C ex) tg g /\ jK (b7 X scope NY s₀ H₀ C ex) ifs tc /\ PE (b7 X scope NY s₀ H₀ C ex) elt te)
  (hs : ∀ x, foldedSetIterable iter X.env x = pure x := by intro _; rfl) : PE X (.ListComp elt [⟨tg, iter, ifs, 0⟩] scope pos) (qV k wi g tc te) := by
 intro pins s U H Q I h
 rw [eval_ListComp]
 refine wpAny_comprehension_free (use := none) rfl hs (AR fun x hx e => I.ok.has x.1 (lc.free x hx e)) lc.kind lc.names (aP (hi pins s U H _ I h) fun v s1 h1 => aP h1 fun itv s2 h2 => ?_)
 obtain ⟨it, fp, tn, J, H2, e, I2, T, st2, f2, W, ⟨m0, w0⟩, turn⟩ := h2
 subst e
 refine AT (RR := fun acc C => compPost (model X.prog X.w) X.A X.xe none (EP X pins U Q) acc C) hc lc hb I2 T st2 f2 w0 turn fun C D H4 s4 ys m hC nD nC hDC hn I4 q => ?_
 refine ⟨m, hn, fun h' sb => ?_⟩
 have hCn : aO H4 D (.lst ys) C = none := by rw [bC (xbd hDC)]; exact nC
 obtain ⟨f0, f1, f2', f3, f4, f5⟩ := I2.fpOk (H' := aO H4 D (.lst ys)) hC hCn
 exact ⟨.ref D, _, I4.turned (t' := s4.toks) (fun b o hb e => (sb.2 b hb).trans e) f0 f1 f3 f4 f5, rfl, q D nD⟩
theorem Q4 {i : Nat} {y : Str} {py spos : Pos} (hc : X.calm = true) (hN : X.N.Nodup) (hi' : X.N[i]? = some y) (hy : X.env.kindOf y = some .local) (lc : LC X k scope NY) (hi : PI X tg iter wi)
  (hb : ∀ (s₀ : Shared) (H₀ : Hp) (C : Addr) (ex : List Addr), NY.Nodup -> PG (b7 X scope NY s₀ H₀ C ex) tg g /\ jK (b7 X scope NY s₀ H₀ C ex) ifs tc /\ PE (b7 X scope NY s₀ H₀ C ex) elt te)
  (hsw : swapsWith (.ListComp elt [⟨tg, iter, ifs, 0⟩] scope pos) (some (.Name y py)) spos.line X.env = pure true := by rfl)
  (hs : ∀ x, foldedSetIterable iter X.env x = pure x := by intro _; rfl) : PS X (.Assign [.Name y py] (.ListComp elt [⟨tg, iter, ifs, 0⟩] scope pos) spos) (lG (qV k wi g tc te) (kC i)) := by
 intro pins s U H D0 I h
 rw [exec_Assign_Name_used _ _ _ _ hsw]
 refine xab (wpAny_standAt (xab ?_))
 show wpAny _ X.A (do let _ <- comprehension (.ListComp elt [⟨tg, iter, ifs, 0⟩] scope pos) scope X.env _ (newList []) false (eval iter X.env) (some (assign (.Name y py) X.env))) _ _ s
 refine xab (aP (wpAny_comprehension_free (use := some (assign (.Name y py) X.env)) (Q := fun _ s' => SP X pins D0 .next s') rfl hs (AR fun x hx e => I.ok.has x.1 (lc.free x hx e)) lc.kind lc.names
  (aP (hi pins s U H _ I h) fun v s1 h1 => aP h1 fun itv s2 h2 => ?_)) fun _ s' q => xap (xap q))
 obtain ⟨it, fp, tn, J, H2, e, I2, T, st2, f2, W, ⟨m0, w0⟩, turn⟩ := h2
 subst e
 refine AT (RR := fun acc C => compPost (model X.prog X.w) X.A X.xe (some (assign (.Name y py) X.env)) (fun _ s' => SP X pins D0 .next s') acc C) hc lc hb I2 T st2 f2 w0 turn fun C D H4 s4 ys m hC nD nC hDC hn I4 q => ?_
 have hCn : aO H4 D (.lst ys) C = none := by rw [bC (xbd hDC)]; exact nC
 obtain ⟨f0, f1, f2', f3, f4, f5⟩ := I2.fpOk (H' := aO H4 D (.lst ys)) hC hCn
 obtain ⟨oC, es, ep, eC, dC, rC⟩ := id hn
 have I5 : aH X (pins ++ [(C, oC)]) U (aO H4 D (.lst ys)) s4 := I4.pins_of fun p hp => by
  rcases xay.mp hp with z | z
  ·exact I4.pin p (xbg _ z)
  ·have e : p = (C, oC) := by simpa using z
   subst e
   exact ⟨eC, hCn, f1, f2', fun v z => by rw [show (C, oC).2.data = oC.data from rfl, dC] at z; cases z⟩
 show wpAny _ X.A (assign (.Name y py) X.env (.ref D)) _ _ _
 refine wpAny_assign_Name (uK (v := .ref D) I5 hN hi' (.inl hy) rfl (fun s5 I6 => ?_) (.inr hy))
 refine ⟨m, ⟨oC, es, ep, (I6.pin (C, oC) (by simp)).1, dC, rC⟩, fun h' sb => ?_⟩
 exact ⟨_, _, I6.unpinned.turned (t' := s5.toks) (fun b o hb e => (sb.2 b hb).trans e) f0 f1 f3 f4 f5, q D nD⟩
end
end L2
namespace L2
open PySem.Spec PyProof.Rows
def Sm (i : Int) : Prop := i.natAbs < 2 ^ 4000
theorem Q5 {n k : Nat} (hk : 0 < k) (h : n < 2 ^ k) : n.log2 < k := by
 rcases Nat.eq_zero_or_pos n with h0 | hp
 ·rw [h0]; simpa using hk
 ·exact (Nat.log2_lt (xca hp)).mpr h
section
variable {X : Cx}
theorem Q6 : bM X (compareOp .Is) (fun x y H Q => ∃ a b, x = .bl a /\ y = .bl b /\ Q (.bl (a == b)) H) := by
 intro pins s U H x y v u Q I rx ry h
 obtain ⟨a, b, rfl, rfl, q⟩ := h
 cases rx
 cases ry
 exact is_bool (oQ I q rfl)
theorem Q7 : bM X (compareOp .IsNot) (fun x y H Q => ∃ a b, x = .bl a /\ y = .bl b /\ Q (.bl (a != b)) H) := by
 intro pins s U H x y v u Q I rx ry h
 obtain ⟨a, b, rfl, rfl, q⟩ := h
 cases rx
 cases ry
 exact isnot_bool (oQ I q rfl)
def Q8 (K : xFg) (n : Nat) (t : iL) : TG := fun v U H Q => ∃ a xs, v = .ref a /\ bH K H a xs /\ xs.length = n /\ t xs U H Q
theorem Q9 {es : List Expr} {k : Nat} {t : iL} {n : Nat} {pos : Pos} (hc : X.calm = true) (h : mP X es t)
  (hn : (assignEach es X.env).length = n := by rfl) (hst : (assignEach es X.env).findIdx? (·.1) = none := by rfl) : PG X (.Tuple es k pos) (Q8 X.K n t) := by
 intro pins s U H v u Q I r hw
 obtain ⟨a, xs, e1, hq, hl, hw⟩ := hw
 subst e1
 cases r
 obtain ⟨its, rv, pl, hz⟩ := I.list hq
 have hsz : (assignEach es X.env).length = its.toArray.size := by simp [hn, <- hl, rv.length]
 rw [assign_Tuple]
 refine xab (wpAny_standAt ?_)
 unfold unpack
 rw [hsz, hst]
 refine xab (wpAny_holding (PySem.W.kun_itemsOf (I.ok.hd hc) pl.isList fun h' hx => ?_))
 have I1 : aH X pins U H { s with heap := h' } := I.kept (t' := s.toks) fun b o e => hx b o (xa6 (xan e)) e
 exact h pins _ U H xs _ Q I1 (by simpa using rv) hw
end
end L2
namespace L2
open PySem.Spec PyProof.Rows
theorem RA {H : Hp} {p : Addr} (h : H p = none) (o : HO) : aK H (aO H p o) := fun b u q => by rw [bC (cR q h)]; exact q
theorem aK.tup {K : xFg} {H H' : Hp} {a : Addr} {xs : List V} (e : aK H H') (h : bJ K H a xs) : bJ K H' a xs := by
 rcases h with (h | ⟨o, h⟩) | h
 ·exact .inl (.inl (e _ _ h))
 ·exact .inl (.inr ⟨o, e _ _ h⟩)
 ·exact .inr h
theorem RB {n : Nat} (h : n <= 1000) : n <= sizeLine := xch (QW h)
section
variable {K : xFg} {a : Addr} {xs : List V} {H : Hp}
theorem lgo (h : bH K H a xs) : (mQ K a).stop xs.length H /\ ∀ i, i < xs.length -> (mQ K a).go i H /\ ∀ v H', (mQ K a).yld i H v H' -> H' = H /\ xs[i]? = some v :=
 ⟨⟨xs, h, xak _⟩, fun i hi => ⟨⟨xs, xs[i], h, by simp [hi]⟩, fun v H' y => ⟨y.1, y.2 xs h⟩⟩⟩
theorem tgo (h : bJ K H a xs) : (mR K a).stop xs.length H /\ ∀ i, i < xs.length -> (mR K a).go i H /\ ∀ v H', (mR K a).yld i H v H' -> H' = H /\ xs[i]? = some v :=
 ⟨⟨xs, h, xak _⟩, fun i hi => ⟨⟨xs, xs[i], h, by simp [hi]⟩, fun v H' y => ⟨y.1, y.2 xs h⟩⟩⟩
end
end L2
namespace L2
open PySem.Spec PyProof.Rows
structure iO (B : Heap) (l : List Env) (x : Addr) (cls : Value) (dct : Option Addr) (fl : Value) (h : Heap) : Prop where
 stays : B.StaysIn h
 new : B.get? x = none
 frames : h.FunFrames B l
 obj : ∃ ox vs T oT ts, h.get? x = some ox /\ ox.cls = cls /\ ox.dict = dct /\ ox.data = .fields vs /\ vs[1]? = some (.ref T) /\ B.get? T = none /\ T ≠ x /\ h.get? T = some oT /\ oT.data = .fields ts /\ ts[3]? = some fl
theorem RC (o : Obj) (f : Array Value -> Array Value) : (o.mapFields f).dict = o.dict := by
 obtain ⟨c, d, dt, sl⟩ := o; cases dt <;> rfl
section
variable {M : Model} {A : Around} {E : Value -> Shared -> Prop} {s : Shared} {B : Heap} {env : Env} {outer : List Env} {L x : Addr} {Q : Unit -> Shared -> Prop}
theorem lN {h : Heap} {y : Addr} {oy : Obj} {ws : Array Value} (ey : h.get? y = some oy) (dy : oy.data = .fields ws) {b : Addr} {o : Obj} (eb : h.get? b = some o) (nf : ∀ us, o.data ≠ .fields us) : b ≠ y := fun z => by
 rw [z, ey] at eb
 have z' : oy = o := xbk eb
 rw [<- z'] at nf
 exact nf ws dy
theorem AW {ox : Obj} {vs : Array Value} {head : Value} {hadNext : Bool} (hfr : A.frames = some (env :: outer)) (hl : s.heap.FunFrames B (env :: outer)) (hf : env.frame = some L)
  (ex : s.heap.get? x = some ox) (hB : B.StaysIn s.heap) (nx : B.get? x = none) (dx : ox.data = .fields vs) (sz : 1 < vs.size)
  (k : ∀ h', iO B (env :: outer) x ox.cls ox.dict (rawInt L) h' -> s.heap.UpToSlots h' -> Q () { s with heap := h' }) :
  wpAny M A (do let a <- frameOf env; let pl <- entryPlaceOf L hadNext; let b <- EntryCells.newEntry head a .none (rawInt L) .none pl; setField (.ref x) 1 b) Q E s := by
 have nfr : x ∉ (env :: outer).filterMap (·.frame) := fun hm => by
  obtain ⟨_, o, ho, nf⟩ := hl.mem hm
  exact lN ex dx ho nf rfl
 refine xab (wpAny_frameOf_fun hfr hl hf fun g1 so => xab (wpAny_entryPlaceOf fun pl hpl => ?_))
 unfold EntryCells.newEntry newFields
 refine xab (wpAny_newObj_type ?_ (hpl.sizeOk5 _ _ _ _ _))
 have ex1 : g1.get? x = some ox := (so.2.1 x nfr).trans ex
 have B1 : B.StaysIn g1 := fun b o eb => (so.2.1 b fun hm => by rw [(hl.mem hm).1] at eb; cases eb).trans (hB b o eb)
 generalize eo : ({ cls := .type "traceback", dict := none, data := .fields ([head, .ref L, .none, rawInt L, .none] ++ (if pl.isEmpty then List.replicate 6 Value.none else pl)).toArray } : Obj) = ob
 have ex2 := xad (h := g1) ob ex1
 refine wpAny_setField ex2 dx sz (k _ ?_ ?_)
 ·have Tx : g1.objs.size ≠ x := xca (xan ex1)
  have d3 := Obj.data_mapFields dx (·.setIfInBounds 1 (Value.ref g1.objs.size))
  have e3 := xcs (Obj.mapFields (·.setIfInBounds 1 (Value.ref g1.objs.size))) ex2 (Obj.isFreed_of_fields d3)
  have freeOb : ob.isFreed = false := by rw [<- eo]; rfl
  have T3 := (xbr (g1.push ob) (Obj.mapFields (·.setIfInBounds 1 (Value.ref g1.objs.size))) (xbd Tx)).trans (xav g1 freeOb)
  refine ⟨fun b o eb => ?_, nx, hl.of_keeps fun b o eb nf => ?_, _, _, g1.objs.size, ob, _, e3, Obj.cls_mapFields _ _, RC _ _, d3, by simp [sz], B1.fresh, Tx, T3, by rw [<- eo], ?_⟩
  ·rw [xbr _ _ (fun z => by rw [<- z, nx] at eb; cases eb)]
   exact xad _ (B1 b o eb)
  ·obtain ⟨sl, q⟩ := so.2.2 b o eb
   refine ⟨{ o with slots := sl }, ?_, rfl⟩
   rw [xbr _ _ (xbd (lN ex dx eb nf))]
   exact xad _ q
  ·rcases hpl with rfl | ⟨_, _, _, _, _, _, _, rfl⟩ <;> simp
 ·intro b o eb nf
  obtain ⟨sl, q⟩ := so.2.2 b o eb
  refine ⟨sl, ?_⟩
  rw [xbr _ _ (xbd (lN ex dx eb nf))]
  exact xad _ q
theorem RD {ox : Obj} {vs : Array Value} (hfr : A.frames = some (env :: outer)) (hl : s.heap.FunFrames B (env :: outer)) (hf : env.frame = some L)
  (ex : s.heap.get? x = some ox) (hB : B.StaysIn s.heap) (nx : B.get? x = none) (dx : ox.data = .fields vs) (v1 : vs[1]? = some .none)
  (k : ∀ h', iO B (env :: outer) x ox.cls ox.dict (rawInt L) h' -> s.heap.UpToSlots h' -> Q () { s with heap := h' }) : wpAny M A (noteFrame (.ref x) env) Q E s := by
 unfold noteFrame
 simp only [hf]
 refine xab (wpAny_field ex dx v1 ?_)
 rw [xa1 (show ¬ ((Value.none != Value.none) = true) by decide)]
 exact AW hfr hl hf ex hB nx dx (xbt.mp v1).1 k
theorem RE {cls : Value} {dct : Option Addr} (hfr : A.frames = some (env :: outer)) (hf : env.frame = some L) (F : iO B (env :: outer) x cls dct .none s.heap)
  (k : ∀ h', iO B (env :: outer) x cls dct (rawInt L) h' -> s.heap.UpToSlots h' -> Q () { s with heap := h' }) : wpAny M A (noteFrame (.ref x) env) Q E s := by
 obtain ⟨ox, vs, T, oT, ts, ex, hc, hd, dx, v1, nT, Tx, eT, dT, t3⟩ := F.obj
 subst hc hd
 unfold noteFrame
 simp only [hf]
 refine xab (wpAny_field ex dx v1 ?_)
 rw [xa4 (show (Value.ref T != Value.none) = true by simp)]
 refine xab (wpAny_field eT dT t3 ?_)
 rw [xa1 (show ¬ ((Value.none == rawInt L) = true) by simp [rawInt])]
 refine xab (wpAny_setField eT dT (xbt.mp t3).1 ?_)
 have oth : ∀ b, b ≠ T -> (s.heap.update T (Obj.mapFields (·.setIfInBounds 3 Value.none))).get? b = s.heap.get? b := fun b hb => xbr _ _ (xbd hb)
 have up : s.heap.UpToSlots (s.heap.update T (Obj.mapFields (·.setIfInBounds 3 Value.none))) := fun b o eb nf => ⟨o.slots, (oth b (lN eT dT eb nf)).trans eb⟩
 refine AW hfr (F.frames.of_keeps fun b o eb nf => ⟨o, (oth b (lN eT dT eb nf)).trans eb, rfl⟩) hf ((oth x (xbd Tx)).trans ex) (fun b o eb => (oth b fun z => by rw [z, nT] at eb; cases eb).trans (F.stays b o eb)) F.new dx
  (xbt.mp v1).1 fun h' f u => k h' f (up.trans u)
theorem AX {l : List Env} {cls fl : Value} {dct : Option Addr} (F : iO B l x cls dct fl s.heap)
  (k : ∀ h', iO B l x cls dct .none h' -> s.heap.UpToSlots h' -> Q () { s with heap := h' }) : wpAny M A (setFlight (.ref x) none) Q E s := by
 obtain ⟨ox, vs, T, oT, ts, ex, hc, hd, dx, v1, nT, Tx, eT, dT, t3⟩ := F.obj
 have sz : 3 < ts.size := (xbt.mp t3).1
 unfold setFlight
 refine xab (wpAny_field ex dx v1 ?_)
 rw [xa4 (show (Value.ref T != Value.none) = true by simp)]
 have oth : ∀ b, b ≠ T -> (s.heap.update T (Obj.mapFields (·.setIfInBounds 3 ((none : Option Addr).elim Value.none fun f => rawInt f)))).get? b = s.heap.get? b := fun b hb => xbr _ _ (xbd hb)
 refine wpAny_setField eT dT sz (k _ ⟨fun b o eb => (oth b fun z => by rw [z, nT] at eb; cases eb).trans (F.stays b o eb), F.new, F.frames.of_keeps fun b o eb nf => ⟨o, (oth b (lN eT dT eb nf)).trans eb, rfl⟩,
  ox, vs, T, _, _, (oth x (xbd Tx)).trans ex, hc, hd, dx, v1, nT, Tx, xcs _ eT (Obj.isFreed_of_fields (Obj.data_mapFields dT _)), Obj.data_mapFields dT _, by simp [sz]⟩
  fun b o eb nf => ⟨o.slots, (oth b (lN eT dT eb nf)).trans eb⟩)
theorem iO.out {cls : Value} {dct : Option Addr} {fl : Value} {h : Heap} (F : iO B (env :: outer) x cls dct fl h) : iO B outer x cls dct fl h := ⟨F.stays, F.new, F.frames.2.2, F.obj⟩
end
end L2
namespace L2
open PySem.Spec PyProof.Rows
theorem dI.there {P : Program} {w : World} {H : Hp} {h : Heap} {a : Addr} {o : HO} (x : dI P w H h a o) : ∃ ob, h.get? a = some ob := by
 cases o with
 | lst xs => obtain ⟨_, _, _, _, e⟩ := x; exact ⟨_, e⟩
 | tup xs => obtain ⟨_, _, _, ob, e, _⟩ := x; exact ⟨ob, e⟩
 | dK kvs => obtain ⟨_, _, _, _, o, _, _, e, _⟩ := x; exact ⟨o, e⟩
 | dT kvs => obtain ⟨_, _, _, _, o, _, _, e, _⟩ := x; exact ⟨o, e⟩
 | set S n => obtain ⟨o, _, _, _, e, _⟩ := x; exact ⟨o, e⟩
 | ins C dx fs => obtain ⟨_, _, _, e, _⟩ := x; exact ⟨_, e⟩
 | own y => exact x
 | xd fs => obtain ⟨_, ⟨o, _, _, e, _⟩, _⟩ := x; exact ⟨o, e⟩
 | rng lo hi => obtain ⟨_, _, _, e⟩ := x; exact ⟨_, e⟩
 | frz ob u => obtain ⟨e, _⟩ := x; exact ⟨_, e⟩
 | tbl ps => exact ⟨_, (show h.get? a = some _ from x)⟩
 | met f y => exact ⟨_, (show h.get? a = some _ from x)⟩
 | ext φ => exact x.2.1
structure InB (B : Heap) (fs : List Addr) (h0 : Heap) (H' : Hp) (h' : Heap) : Prop where
 old : ∀ b o, h0.get? b = some o -> b ∉ fs -> ∀ o', h'.get? b = some o' -> B.get? b = some o'
 trk : ∀ b u, H' b = some u -> ∀ o', h'.get? b = some o' -> B.get? b = some o'
def bQ (P : Program) (w : World) : fC := fun outer H s E e s' => ∃ (x C : Addr) (dct : Option Addr) (H' : Hp) (B : Heap), e = .ref x /\ s'.os = s.os /\ AllBare s'.gens /\ Un (cK outer) [] H H' s.heap s'.heap /\ cP P w H' s'.heap /\
 iO B outer x (.ref C) dct .none s'.heap /\ InB B (cK outer) s.heap H' s'.heap /\ H' x = none /\ E (.ref C) dct H'
section
variable {X : Cx} {pins : List (Addr × Obj)} {U : St} {H H' : Hp} {s s' : Shared} {x C : Addr} {B : Heap} {E : XK} {dct : Option Addr} {M : Model} {EE : Value -> Shared -> Prop}
theorem AY {env : Env} {outer : List Env} {L : Addr} (hf : env.frame = some L) : cK (env :: outer) = L :: cK outer := by
 unfold cK; rw [xcf, hf]
theorem RH {h' : Heap} {args : List Value} {tk : Nat} (I : aH X pins U H s) (hst : X.stack = X.env :: X.outer) (hf : X.env.frame = some X.env.locals) (hex : X.ex = []) (m : Heap.MadeExcOf s.heap h' x (.ref C) args) (hE : E (.ref C) none H) :
  wpAny M X.A (leaving X.env (.ref x)) (fun _ s2 => bQ X.prog X.w X.outer X.H₀ X.s₀ E (.ref x) s2) EE { s with heap := h', toks := tk } := by
 have stk := I.stack
 have hfr : X.A.frames = some (X.env :: X.outer) := by rw [<- hst]; exact I.ok.frames
 rw [hst] at stk
 have fc : cK (X.env :: X.outer) = X.env.locals :: X.fs := AY hf
 have hin : ∀ env ∈ (X.env :: X.outer), ∀ b, env.frame = some b -> b ∈ cK (X.env :: X.outer) := fun env he b hb => List.mem_filterMap.mpr ⟨env, he, hb⟩
 generalize eB : PySem.W.hideAll s.heap (cK (X.env :: X.outer)) = B
 have inB : ∀ b o, s.heap.get? b = some o -> b ∉ cK (X.env :: X.outer) -> B.get? b = some o := fun b o e n => by rw [<- eB]; exact PySem.W.hideAll_get _ e n
 have ofB : ∀ b o, B.get? b = some o -> s.heap.get? b = some o := fun b o e => by rw [<- eB] at e; exact PySem.W.of_hideAll _ e
 have fl0 : s.heap.FunFrames B (X.env :: X.outer) := by rw [<- eB]; exact PySem.W.funFrames_hide stk hin
 have nx : B.get? x = none := by
  cases q : B.get? x with
  | none => rfl
  | some o => have := ofB x o q; rw [m.new] at this; cases this
 obtain ⟨t, et, _, _⟩ := m.there
 have tfree : ∀ b u, H b = some u -> b ∉ cK (X.env :: X.outer) := fun b u e hb => by
  have := I.stkFree b (by rw [hst]; exact hb)
  rw [e] at this; cases this
 have hHx : H x = none := by
  cases q : H x with
  | none => rfl
  | some u =>
   obtain ⟨ob, e⟩ := (I.hok x u q).there
   rw [m.new] at e; cases e
 unfold leaving
 refine xab (RD (s := { s with heap := h', toks := tk }) hfr (fl0.of_keeps fun b o e _ => ⟨o, m.keeps b o e, rfl⟩) hf et (fun b o e => m.keeps b o (ofB b o e)) nx rfl rfl fun h1 F1 u1 => AX F1 fun h2 F2 u2 => ?_)
 have up : s.heap.UpToSlots h2 := (Heap.UpToSlots.of_keeps m.keeps).trans (u1.trans u2)
 have keep2 : ∀ b o, s.heap.get? b = some o -> b ∉ cK (X.env :: X.outer) -> h2.get? b = some o := fun b o e n => F2.stays b o (inB b o e n)
 have below : ∀ b o, X.s₀.heap.get? b = some o -> b ∉ X.fs -> b ∉ cK (X.env :: X.outer) := fun b o e nb hb => by
  rw [fc] at hb
  rcases xag.mp hb with z | z
  ·exact xaq (xar (xan e) I.ok.above) (by rw [z]; exact xbs _)
  ·exact nb z
 have noex : ∀ b, b ∉ X.ex := fun b z => by rw [hex] at z; cases z
 have slot2 : ∀ b o, s.heap.get? b = some o -> b ∈ X.fs -> ∃ sl, h2.get? b = some { o with slots := sl } := fun b o e hb => by
  obtain ⟨_, o1, e1, nf⟩ := stk.mem (b := b) (by show b ∈ cK (X.env :: X.outer); rw [fc]; exact xah _ hb)
  rw [e] at e1; cases e1
  exact up b o e nf
 refine ⟨x, C, none, H, B, rfl, I.os, I.bare, ⟨fun b o e n hb _ => keep2 b o (I.base.keep b o e n hb (noex b)) (below b o e hb), fun b o e n hb _ => ?_, fun b o e n _ => I.base.free b o e n (noex b), fun b o e _ => ?_, I.base.tups, I.base.frzs, I.base.tbls⟩,
  fun b u e => (I.hok b u e).stay (fun c v hc q => keep2 c v q ?_) (fun _ q => q) fun _ _ q => q, F2.out, ⟨fun b o e nb o' e' => ?_, fun b u e o' e' => ?_⟩, hHx, hE⟩
 ·obtain ⟨sl, e1⟩ := I.base.slot b o e n hb (noex b)
  obtain ⟨sl2, e2⟩ := slot2 b _ e1 hb
  exact ⟨sl2, e2⟩
 ·obtain ⟨o1, e1⟩ := I.base.there b o e (noex b)
  by_cases hb : b ∈ X.fs
  ·obtain ⟨sl2, e2⟩ := slot2 b _ e1 hb
   exact ⟨_, e2⟩
  ·exact ⟨o1, keep2 b o1 e1 (below b o e hb)⟩
 ·rcases hc with z | z
  ·rw [z]; exact tfree b u e
  ·exact tfree c _ z
 ·obtain ⟨o1, e1⟩ := I.base.there b o e (noex b)
  have q := inB b o1 e1 (below b o e nb)
  rw [F2.stays b o1 q] at e'
  cases e'; exact q
 ·obtain ⟨o1, e1⟩ := (I.hok b u e).there
  have q := inB b o1 e1 (tfree b u e)
  rw [F2.stays b o1 q] at e'
  cases e'; exact q
theorem RI {e : Value} (I : aH X pins U H s) (hst : X.stack = X.env :: X.outer) (hf : X.env.frame = some X.env.locals) (hex : X.ex = []) (h : bQ X.prog X.w X.stack H s E e s') :
  wpAny M X.A (leaving X.env e) (fun _ s2 => bQ X.prog X.w X.outer X.H₀ X.s₀ E e s2) EE s' := by
 obtain ⟨x, C, dct, H', B, rfl, ho, hg, un, hok, F, ib, nx, hE⟩ := h
 have stk := I.stack
 have hfr : X.A.frames = some (X.env :: X.outer) := by rw [<- hst]; exact I.ok.frames
 rw [hst] at stk F ib un
 have fc : cK (X.env :: X.outer) = X.env.locals :: X.fs := AY hf
 unfold leaving
 refine xab (RE hfr hf F fun h1 F1 u1 => AX F1 fun h2 F2 u2 => ?_)
 have up : s'.heap.UpToSlots h2 := u1.trans u2
 have below : ∀ b o, X.s₀.heap.get? b = some o -> b ∉ X.fs -> b ∉ cK (X.env :: X.outer) := fun b o e nb hb => by
  rw [fc] at hb
  rcases xag.mp hb with z | z
  ·exact xaq (xar (xan e) I.ok.above) (by rw [z]; exact xbs _)
  ·exact nb z
 have inFs : ∀ b, b ∈ X.fs -> b ∈ cK (X.env :: X.outer) := fun b hb => by rw [fc]; exact xah _ hb
 have noex : ∀ b, b ∉ X.ex := fun b z => by rw [hex] at z; cases z
 have no0 : ∀ b : Addr, b ∉ ([] : List Addr) := fun b => by simp
 have slot2 : ∀ b o, s.heap.get? b = some o -> H b = none -> b ∈ X.fs -> ∃ sl, h2.get? b = some { o with slots := sl } := fun b o e n hb => by
  obtain ⟨_, o1, e1, nf⟩ := stk.mem (b := b) (inFs b hb)
  rw [e] at e1; cases e1
  obtain ⟨sl, e2⟩ := un.slot b o e n (inFs b hb) (no0 b)
  obtain ⟨sl2, e3⟩ := up b _ e2 nf
  exact ⟨sl2, e3⟩
 have free1 : ∀ b o, X.s₀.heap.get? b = some o -> X.H₀ b = none -> H b = none := fun b o e n => I.base.free b o e n (noex b)
 refine ⟨x, C, dct, H', B, rfl, ho.trans I.os, hg, ⟨fun b o e n hb _ => ?_, fun b o e n hb _ => ?_, fun b o e n _ => ?_, fun b o e _ => ?_, fun b xs q => un.tups b xs (I.base.tups b xs q), fun b o u q => un.frzs b o u (I.base.frzs b o u q), fun b ps q => ?_⟩,
  fun b u e => (hok b u e).stay (fun c v hc q => F2.stays c v ?_) (fun _ q => q) fun _ _ q => q, F2.out, ⟨fun b o e nb o' e' => ?_, fun b u e o' e' => ?_⟩, nx, hE⟩
 ·have e1 := I.base.keep b o e n hb (noex b)
  have e2 := un.keep b o e1 (free1 b o e n) (below b o e hb) (no0 b)
  exact F2.stays b o (ib.old b o e1 (below b o e hb) o e2)
 ·obtain ⟨sl, e1⟩ := I.base.slot b o e n hb (noex b)
  obtain ⟨sl2, e2⟩ := slot2 b _ e1 (free1 b o e n) hb
  exact ⟨sl2, e2⟩
 ·obtain ⟨o1, e1⟩ := I.base.there b o e (noex b)
  exact un.free b o1 e1 (free1 b o e n) (no0 b)
 ·obtain ⟨o1, e1⟩ := I.base.there b o e (noex b)
  obtain ⟨o2, e2⟩ := un.there b o1 e1 (no0 b)
  by_cases hb : b ∈ X.fs
  ·have n : H b = none := I.stkFree b (by rw [hst]; exact inFs b hb)
   obtain ⟨sl2, e3⟩ := slot2 b _ e1 n hb
   exact ⟨_, e3⟩
  ·exact ⟨o2, F2.stays b o2 (ib.old b o1 e1 (below b o e hb) o2 e2)⟩
 ·obtain ⟨m1, e1⟩ := I.base.tbls b ps q
  obtain ⟨m2, e2⟩ := un.tbls b _ e1
  exact ⟨m1 ++ m2, by rw [e2, Array.append_assoc]⟩
 ·rcases hc with z | z
  ·subst z; exact ib.trk c u e v q
  ·exact ib.trk c _ z v q
 ·obtain ⟨o1, e1⟩ := I.base.there b o e (noex b)
  obtain ⟨o2, e2⟩ := un.there b o1 e1 (no0 b)
  have q := ib.old b o1 e1 (below b o e nb) o2 e2
  rw [F2.stays b o2 q] at e'
  cases e'; exact q
 ·obtain ⟨o1, e1⟩ := (hok b u e).there
  have q := ib.trk b u e o1 e1
  rw [F2.stays b o1 q] at e'
  cases e'; exact q
def oU (x C : Addr) (dct : Option Addr) : HO := .ext fun h => ∃ o, h.get? x = some o /\ o.cls = .ref C /\ o.dict = dct /\ PySem.W.notCls o = true
end
end L2
namespace L2
open PySem.Spec PyProof.Rows PySem.W
section
variable {prog : Program} {w : World} {A : Around} {E : Value -> Shared -> Prop} {s : Shared} {K : Frag} {x D : Addr} {ox : Obj} {od : Option Obj} {name : Str} {tk : Tok}
theorem RJ {M : Model} {nameV : Value} {Q : Unit -> Shared -> Prop} (X : K.In s.heap) (I : InstAt s.heap x ox D od) (hb : mroIn K D (.type "BaseException") = some true) (hq : Q () s) :
  wpAny M A (checkBuiltinCall "BaseException.__getattribute__" ⟨[.ref x, nameV], []⟩) Q E s := by
 have hk : builtinKind "BaseException.__getattribute__" = some .slot := by decide +kernel
 have hsp : splitId "BaseException.__getattribute__" = some ("BaseException", "__getattribute__") := by decide +kernel
 have ha := F.args_bexc_ga (.ref x) nameV
 obtain ⟨hh, g, d, t, os⟩ := s
 have L0 : Looks M hh (isInstance (.ref x) (.type "BaseException")) true := (I.type (M := M)).andThen (looks_mroIn X hb)
 simp only [checkBuiltinCall, hk, hsp]
 refine xab (L0.at ?_)
 repeat (any_goals (first | assumption | wp_step))
theorem RK {R : Result -> Shared -> Prop} {g a : Value} (X : K.In s.heap) (I : InstAt s.heap x ox D od) (hb : mroIn K D (.type "BaseException") = some true) (hf : findObj K D od name = some (.bind g a))
  (h : wpAny (model prog w) A.in1 (call g [a, .ref x, .ref D]) (fun v s' => R (.ok (.ret v)) s') (fun e s' => R (.error e) s') s) :
  codeAny (model prog w) A (.call (.builtin "BaseException.__getattribute__") ⟨[.ref x, .str name tk], []⟩) R s := by
 refine codeAny_call_builtin F.attr_ValueError.ga.plain F.entry_bexc_ga (RJ X I hb ?_)
 obtain ⟨hh, gg, d, t, os⟩ := s
 have L0 := I.type (M := model prog w)
 have L1 := looks_find (M := model prog w) X I hf
 unfold Builtin.«object.__getattribute__»
 refine xab (wpAny_of_eq (a := (Value.ref x, [Value.str name tk])) rfl ?_)
 refine xab (wpAny_of_eq (a := name) rfl ?_)
 refine xab (L0.at (xab (L1.at ?_)))
 show wpAny _ _ (do ret (<- holding [a] (call g [a, Value.ref x, Value.ref D]))) _ _ _
 exact xab (wpAny_holding (wpAny_mono h (fun v s' q => xap q) fun e s' q => q))
theorem RL {a g : Value} (hc : (clsIn K D).isSome = true) (ha : findIn K (.ref D) name = some (some a)) (hg : specialIn K a "__get__" = some (some g)) (ht : takesIn K a = some true) : findObj K D od name = some (.bind g a) := by
 obtain ⟨cd, hc⟩ := xb6.mp hc
 unfold findObj
 rw [hc, Option.bind_some, ha, Option.bind_some]
 simp [hg, ht]
structure lO (K : Frag) (D : Addr) : Prop where
 cls : (clsIn K D).isSome = true
 ga : findIn K (.ref D) "__getattribute__" = some (some (.builtin "BaseException.__getattribute__"))
 gh : findIn K (.ref D) "__getattr__" = some none
 base : mroIn K D (.type "BaseException") = some true
 obj : mroIn K D (.type "object") = some true
 ca : findIn K (.ref D) "__class__" = some (some (.builtin "object.__class__"))
 cg : specialIn K (.builtin "object.__class__") "__get__" = some (some (.builtin "getset_descriptor.__get__"))
 ct : takesIn K (.builtin "object.__class__") = some true
theorem RN {Q : Option Value -> Shared -> Prop} (c : lO K D) (X : K.In s.heap) (I : InstAt s.heap x ox D od) (h : Q (some (.ref D)) { s with toks := s.toks + 1 }) :
  wpAny (model prog w) A (getAttr? (.ref x) "__class__") Q E s := by
 obtain ⟨hh, gg, d, t, os⟩ := s
 have L0 := I.type (M := model prog w)
 have L1 := looks_findIn (M := model prog w) X c.ga
 have L2 := looks_findIn (M := model prog w) X c.gh
 have hf : findObj K D od "__class__" = some (.bind (.builtin "getset_descriptor.__get__") (.builtin "object.__class__")) := RL c.cls c.ca c.cg c.ct
 have hx1 : (onTheHeap (Value.ref D) && Value.builtin "BaseException.__getattribute__" == Value.builtin "object.__getattribute__") = false := by
  rw [show (Value.builtin "BaseException.__getattribute__" == Value.builtin "object.__getattribute__") = false by decide +kernel]; rfl
 unfold getAttr? getAttrBy? getAttrBy
 refine xab (wpAny_mkText (xab (wpAny_attempt (wpAny_holding (xab (L0.at (xab (L1.at ?_))))))))
 dsimp only
 rw [hx1, xa1 xa2]
 unfold getAttrByItsOwn
 refine xab ?_
 show wpAny _ _ (typeLookup (.ref D) "__getattr__") _ _ _
 refine L2.at ?_
 refine xab (wpAny_attempt (wpAny_holding ?_))
 show wpAny _ _ (boundAndCalled (.builtin "BaseException.__getattribute__") (.ref x) (.str "__class__" t)) _ _ _
 unfold boundAndCalled
 refine xab (wpAny_of_eq (F.attr_ValueError.ga.bind (.ref x)) ?_)
 refine wpAny_call (RK X I c.base hf ?_)
 refine wpAny_call (class_get X I c.obj ?_)
 exact handed_on rfl (xap h)
theorem RO (c : lO K D) : KitX K (.ref x) (.ref D) (fun h => ∃ ox od, InstAt h x ox D od) where
 ty := fun _ _ _ ⟨_, _, I⟩ => I.type
 it := fun _ _ X _ => by
  obtain ⟨cdD, hcD⟩ := xb6.mp c.cls
  unfold clsIn at hcD
  split at hcD
  ·rename_i c' d' cd' sl' ho
   intro A' Q' E' s' k q
   unfold isType loadHead
   exact xab (wpAny_loadPart (k _ _ (X _ _ ho)) (xap q))
  ·cases hcD
 ne := fun h tp dd its n sl X htp => by
  obtain ⟨cdD, hcD⟩ := xb6.mp c.cls
  refine Bool.eq_false_iff.mpr fun q => ?_
  have e : D = tp := Value.ref.inj (beq_iff_eq.mp q)
  subst e
  unfold clsIn at hcD
  split at hcD
  ·rename_i c' d' cd' sl' ho
   have z := (X _ _ ho).symm.trans htp
   cases z
  ·cases hcD
 ca := fun X ⟨_, _, I⟩ k => RN c X I k
end
end L2
namespace L2
open PySem.Spec PyProof.Rows
section
variable {P : Program} {w : World} {K : xFg} {mg : Str -> Option Value} {base : Heap}
theorem eP.okX {CX : fC} {x qual : Str} {st : Stmt} {f : Addr} {fd : FuncData} {N ps : List Str} {k : Nat} {sp : Sp} (F : eP K x qual st f fd) (S : fD N ps (bX st)) (len : ∀ vs H Q E, sp vs H Q E -> vs.length = ps.length)
  (hbody : ∀ (cdv : Value) (A : Around) (outer : List Env) (s : Shared) (H : Hp) (vs : List V) (Q : VK) (E : XK), cL k (A.deeper (envOfC qual (bX st) s.heap.objs.size f cdv)) -> sp vs H Q E ->
   ∃ t, cU (cW CX P w K mg base N qual (bX st) f cdv A outer s H E) (eI st) t /\ t { nx := fun _ H' => Q .non H', rt := Q } (start N vs) H) : cH P w K mg base CX (k + 1) f fd ps sp := by
 obtain ⟨oc, od, kV, doc, pm, an, cdv, ct, osl, rfl, lk, hcd⟩ := F.ex
 exact P0 lk hcd S len fun A outer s H vs Q E hr hsp => hbody cdv A outer s H vs Q E hr hsp
theorem qW {N : List Str} {qual : Str} {scope : Scope} {f : Addr} {cdv : Value} {A : Around} {outer : List Env} {s : Shared} {H : Hp} {E : XK} : kI (bQ P w) (cW (bQ P w) P w K mg base N qual scope f cdv A outer s H E) E :=
 fun pins U H1 s1 e s' I h => RI (X := cW (bQ P w) P w K mg base N qual scope f cdv A outer s H E) I rfl rfl rfl h
theorem AZ {X : Cx} : kI (bQ P w) X E0 := fun _ _ _ _ _ _ _ h => by
 obtain ⟨_, _, _, _, _, _, _, _, _, _, _, _, _, z⟩ := h
 exact z.elim
end
theorem RP {K : xFg} {h : Heap} {C : Addr} {bmB : List Value} {newId : String} (X : K.In h) (q : PySem.W.excIn K C bmB newId = true) :
  ∃ bm N nm qn bs hdct sn sub ab col dd k0 k1 k2 k3 k5 mN, h.get? C = some (excClassObj nm qn C N bs bm hdct sn sub ab col dd k0 k1 k2 k3 k5 newId) /\ h.Ns N mN /\ mN "__init__" = none /\ OwnTail h bmB bm := by
 unfold PySem.W.excIn at q
 split at q
 ·rename_i dd cd sl lk
  split at q
  ·rename_i C' bm k0 k1 k2 k3 nn k5 hm hs
   simp only [xaw, beq_iff_eq, xck] at q
   obtain ⟨⟨⟨⟨⟨rfl, rfl⟩, hdel⟩, ht⟩, hok⟩, hni⟩ := q
   obtain ⟨nm, bs, mro, ns, qn, hd, sn, sub, ab, col, del⟩ := cd
   dsimp only at hm hdel hok hni
   subst hm hdel
   obtain rfl : sl = #[k0, k1, k2, k3, some (.builtin nn), k5] := by
    obtain ⟨l⟩ := sl
    simp only at hs
    rw [hs]
   exact ⟨bm, ns, nm, qn, bs, hd, sn, sub, ab, col, dd, k0, k1, k2, k3, k5, _, X _ _ lk, .of_isNs (PySem.W.isNs_of_in X hok), PySem.W.nsMap_none_of_in X hok hni, PySem.W.tail_of_in X ht⟩
  ·cases q
 ·cases q
def RQ (C : Addr) (ta : TA) (E : XK) : TS := fun _ U H => ta U H fun vs H1 => vs.length <= sizeLine /\ E (.ref C) none H1
section
variable {P : Program} {w : World} {K : xFg} {mg : Str -> Option Value} {base : Heap} {N : List Str} {qual : Str} {scope : Scope} {f : Addr} {cdv : Value} {A : Around} {outer : List Env} {s0 : Shared} {H0 : Hp} {E : XK}
theorem A0 {x : Str} {C : Addr} {e0 : Expr} {rest : List Expr} {np cpos pos : Pos} {ta : TA} (q : PySem.W.excIn K C [.type "ValueError", .type "Exception", .type "BaseException", .type "object"] "ValueError.__new__" = true)
  (hg : Gl (cW (bQ P w) P w K mg base N qual scope f cdv A outer s0 H0 E) x) (hm : mg x = some (.ref C)) (ha : PA (cW (bQ P w) P w K mg base N qual scope f cdv A outer s0 H0 E) (e0 :: rest) ta)
  (hdb : (x == ("__debug__" : Str)) = false := by decide)
  (he : starEach (e0 :: rest) (envOfC qual scope s0.heap.objs.size f cdv) = (false, eval e0 (envOfC qual scope s0.heap.objs.size f cdv)) :: starEach rest (envOfC qual scope s0.heap.objs.size f cdv) := by rfl)
  (hpl : (backTo cpos (starEach rest (envOfC qual scope s0.heap.objs.size f cdv))).any (·.1) = false := by rfl) :
  PS (cW (bQ P w) P w K mg base N qual scope f cdv A outer s0 H0 E) (.Raise (some (.Call (.Name x np) (e0 :: rest) [] cpos)) none pos) (RQ C ta E) := by
 intro pins s U H D I h
 obtain ⟨bm, Nn, nm, qn, bs, hdct, sn, sub, ab, col, dd, k0, k1, k2, k3, k5, mN, hC, hN, hni, T⟩ := RP I.mod.kin q
 refine wpAny_Raise_call_subT (C := C) (nm := nm) (q := qn) (N := Nn) (bs := bs) (bm := bm) (hdct := hdct) (sn := sn) (sub := sub) (ab := ab) (col := col) (dd := dd) (k0 := k0) (k1 := k1) (k2 := k2) (k3 := k3) (k5 := k5)
  PySem.F.excBase_ValueError (mN := mN) (T.hasType PySem.F.excBase_ValueError.hasBase) (I.ok.hd rfl) (by
   show (backTo cpos (starEach (e0 :: rest) (envOfC qual scope s0.heap.objs.size f cdv))).any (·.1) = false
   rw [he]; show (false || (backTo cpos (starEach rest (envOfC qual scope s0.heap.objs.size f cdv))).any (·.1)) = false; rw [hpl]; rfl) hni (qK I hg hm ⟨rfl, ?_⟩ hdb)
 have ha' := ha cpos pins s U H _ I h
 show wpAny _ _ (evalArgs (.ref C) true (backTo cpos (starEach (e0 :: rest) (envOfC qual scope s0.heap.objs.size f cdv))) []) _ _ _
 change wpAny _ _ (spliced (backTo cpos (starEach (e0 :: rest) (envOfC qual scope s0.heap.objs.size f cdv)))) _ _ _ at ha'
 rw [he] at ha' ⊢
 refine Calls.evalArgs_plain (aP ha' fun us s2 ⟨vs, H1, I1, r, hz, hE⟩ => ?_)
 have hl : us.length <= sizeLine := by rw [<- r.length]; exact hz
 exact ⟨rfl, hl, I1.bk _ _ hC, hN.keeps I1.bk, T.keeps I1.bk, fun h' e m => RH (tk := s2.toks) I1 rfl rfl rfl m hE⟩
end
end L2
namespace L2
open PySem.Spec PyProof.Rows
def XP (X : Cx) (CX : fC) (pins : List (Addr × Obj)) (U : St) (E : XK) (e : Value) (s' : Shared) : Prop := ∃ s1 H1, aH X pins U H1 s1 /\ CX X.stack H1 s1 E e s'
theorem RS {X : Cx} : c9 X (.builtin "isinstance") (fun xs H Q => ∃ (a C : Addr) (c : V) (cv : Value) (b : Bool), xs = [.ref a, c] /\ H a = some (oU a C none) /\ ((∃ D, c = .ref D /\ cv = .ref D) \/ ∃ T, c = .ty T /\ cv = .type T) /\ lO X.K C /\ PySem.W.kitOne X.K (.ref C) cv = some b /\ Q (.bl b) H) := by
 intro pins s U H xs us Q I r h
 obtain ⟨a, C, c, cv, b, rfl, ha, hc, ec, hk, q⟩ := h
 obtain ⟨u, w', rfl, ru, rw'⟩ := zJ r
 obtain rfl : u = Value.ref a := ru
 have e : w' = cv := by
  rcases hc with ⟨D, rfl, rfl⟩ | ⟨T, rfl, rfl⟩
  ·exact rw'
  ·exact rw'
 subst e
 obtain ⟨⟨o, e1, e2, e3, e4⟩, _, _⟩ := I.hok a _ ha
 have hI : PySem.W.InstAt s.heap a o C none := ⟨e1, e2, e4, by rw [e3]; trivial⟩
 exact PySem.W.kia_one (RO ec) I.kIn ⟨o, none, hI⟩ hk (fun z => nomatch z) fun tk => ⟨.bl b, H, I.tok tk, rfl, q⟩
end L2
namespace L2
open PySem.Spec PyProof.Rows
section
variable {X : Cx}
theorem RU (bs : List Bool) : (List.range bs.length).all (fun i => bs.getD i false) = bs.all id := by
 rw [xcg]
 simp only [xa8, xcx, id]
 constructor
 ·intro h b hb
  obtain ⟨i, hi, rfl⟩ := List.mem_iff_getElem.mp hb
  have q := h i hi
  simpa [List.getD, hi] using q
 ·intro h i hi
  have q := h _ (xby hi)
  simpa [List.getD, hi] using q
theorem RV {bs : List Bool} {its : List Value} (r : a6 (bs.map V.bl) its) {i : Nat} {v : Value} (h : its.toArray[i]? = some v) : v = .bool (bs.getD i false) := by
 have hl := r.length
 rw [xae] at hl
 have hi : i < bs.length := by
  rw [hl]
  have : its[i]? = some v := by simpa using h
  exact (xam.mp this).1
 obtain ⟨u, hu, ru⟩ := r.get (i := i) (x := .bl bs[i]) (by simp [hi])
 have e : its[i]? = some v := by simpa using h
 rw [hu] at e
 cases e
 rw [show v = .bool bs[i] from ru]
 simp [List.getD, hi]
theorem RX (hc : X.calm = true) : c9 X (.builtin "all") (fun xs H Q => ∃ (p : Addr) (bs : List Bool), xs = [.ref p] /\ bH X.K H p (bs.map V.bl) /\ Q (.bl (bs.all id)) H) := by
 intro pins s U H xs us Q I r h
 obtain ⟨p, bs, rfl, hq, q⟩ := h
 obtain ⟨u, rfl, e⟩ := g6 r
 cases e
 obtain ⟨its, rv, pl, hz⟩ := I.list hq
 have hl : its.toArray.size = bs.length := by rw [xal, <- rv.length, xae]
 have hlt : p < s.heap.objs.size := by obtain ⟨o, e, _⟩ := pl.isList; exact xan e
 refine call_all_walk (wpAny_pyIter_list pl.isList ⟨_, _, _, _, _, _, fun i => bs.getD i false, rfl, Walks.list (A := X.A.in1) (I.ok.hd hc) s.heap.objs.size p (xa6 hlt) its.toArray, ⟨⟨_, xav _ rfl, rfl, rfl⟩, pl.isList.push _⟩, fun i v s' Q' E' hv hQ => ?_, fun h' tk k => ?_⟩)
 ·rw [RV rv hv]; exact wpAny_truthy_bool hQ
 ·refine ⟨.bl (bs.all id), H, I.kept fun b o e => k b o (fun z => xa6 (xan e) (by simpa using z)) (xad _ e), ?_, q⟩
  rw [hl, RU]; rfl
end
end L2
namespace SetT
open PySem.SetTable
def iter (t : SetTable) : Nat -> Probe -> Probe
 | 0, p => p
 | k + 1, p => iter t k (t.advance p)
def start (mask i perturb : Nat) : Probe := { j := i, more := runEnd mask i - i, i, perturb, dummy := none }
end SetT
namespace TxtA
open PySem.StrLaws PySem.Builtin.Str
def flat (y : List Nat) : List (List Nat) -> List Nat
 | [] => []
 | [r] => r
 | r :: r' :: rs => r ++ y ++ flat y (r' :: rs)
def cY (w : Nat) : Nat -> List (List Nat) -> List Nat
 | _, [] => []
 | _, [_] => []
 | n, r :: r' :: rs => (n + r.length) :: cY w (n + r.length + w) (r' :: rs)
def hZ (l y : List Nat) (i : Nat) : Prop := (l.drop i).take y.length = y
theorem oV {l t : List Nat} {c i : Nat} (h : hZ l (c :: t) i) : l[i]? = some c := by
 unfold hZ at h
 have : ((l.drop i).take (c :: t).length)[0]? = some c := by rw [h]; rfl
 rw [List.getElem?_take, xa4 (by simp)] at this
 rw [List.getElem?_drop] at this
 simpa using this
theorem RY (x y : Str) (hy : y.cps.toList ≠ []) (i : Nat) : At x y x.length i ↔ hZ x.cps.toList y.cps.toList i := by
 have ly : y.length = y.cps.toList.length := by simp [Str.length]
 have lx : x.length = x.cps.toList.length := by simp [Str.length]
 unfold At hZ
 rw [subAt_eq, ly, lx]
 constructor
 ·rintro ⟨_, h⟩; exact eq_of_beq h
 ·intro h
  refine ⟨?_, by rw [h]; simp⟩
  have e := congrArg List.length h
  rw [xa9, xbu] at e
  have : y.cps.toList.length ≠ 0 := by simpa using hy
  omega
theorem qX (x y : Str) (lim : Nat) : ∀ (l : List Nat) (st : Array Nat × Nat), (∀ i ∈ l, ¬ (st.2 <= i /\ At x y x.length i)) -> (forIn l st (occBody x y x.length lim)).run = st
 | [], st, _ => rfl
 | a :: l, st, h => by
  rw [xb1]
  unfold occBody
  have c : ¬ (((st.fst.size < lim /\ st.snd <= a) /\ a + y.length <= x.length) /\ subAt x y a = true) := fun q => h a (xax ..) ⟨q.1.1.2, q.1.2, q.2⟩
  rw [xa1 c]
  exact qX x y lim l st fun i hi => h i (xah _ hi)
theorem RZ (x y : Str) (lim : Nat) {a : Nat} {l : List Nat} {st : Array Nat × Nat} (hs : st.1.size < lim) (hf : st.2 <= a) (h : At x y x.length a) :
  (forIn (a :: l) st (occBody x y x.length lim)).run = (forIn l (st.1.push a, a + y.length) (occBody x y x.length lim)).run := by
 rw [xb1]
 have c : ((st.fst.size < lim /\ st.snd <= a) /\ a + y.length <= x.length) /\ subAt x y a = true := ⟨⟨⟨hs, hf⟩, h.1⟩, h.2⟩
 show (occBody x y x.length lim a st >>= _).run = _
 unfold occBody
 rw [xa4 c]
 rfl
theorem A1 (x y : Str) (lim : Nat) (l l' : List Nat) (st : Array Nat × Nat) : (forIn (l ++ l') st (occBody x y x.length lim)).run = (forIn l' (forIn l st (occBody x y x.length lim)).run (occBody x y x.length lim)).run := by
 induction l generalizing st with
 | nil => rfl
 | cons a l ih =>
  rw [List.cons_append, xb1, xb1]
  unfold occBody
  split
  ·exact ih _
  ·exact ih _
theorem qY (w : Nat) : ∀ (rows : List (List Nat)) (n k : Nat), k ∈ cY w n rows -> n <= k
 | [], _, _, h => by simp [cY] at h
 | [_], _, _, h => by simp [cY] at h
 | r :: r' :: rs, n, k, h => by
  rw [cY, xag] at h
  rcases h with rfl | h
  ·omega
  ·have := qY w (r' :: rs) _ _ h; omega
theorem R0 {l : List Nat} {pre r post : List Nat} {i c : Nat} (hl : l = pre ++ (r ++ post)) (h1 : pre.length <= i) (h2 : i < pre.length + r.length) (h : l[i]? = some c) : c ∈ r := by
 rw [hl, xbe h1, xbc (by omega)] at h
 exact xbo h
def mW (c : Nat) (t r : List Nat) : Prop := ∀ i, i < r.length -> ∀ p, (p = [] \/ p.head? = some c) -> ¬ hZ (r ++ p) (c :: t) i
theorem R1 {c : Nat} {t r : List Nat} (h : c ∉ r) : mW c t r := fun i hi p _ q => by
 have := oV q
 rw [xbc hi] at this
 exact h (xbo this)
theorem A3 {pre l y : List Nat} {i : Nat} (h : pre.length <= i) : hZ (pre ++ l) y i ↔ hZ l y (i - pre.length) := by
 unfold hZ
 rw [List.drop_append, xcm h, xb2]
theorem A4 {c : Nat} {t : List Nat} (hc : c ∉ t) : ∀ (rows : List (List Nat)), (∀ r ∈ rows, mW c t r) -> ∀ (pre : List Nat) (i : Nat), pre.length <= i -> (hZ (pre ++ flat (c :: t) rows) (c :: t) i ↔ i ∈ cY (t.length + 1) pre.length rows)
 | [], _, pre, i, hi => by
  constructor
  ·intro h
   have := oV h
   rw [flat, xbm, xb3 hi] at this
   cases this
  ·intro h; simp [cY] at h
 | [r], hr, pre, i, hi => by
  constructor
  ·intro h
   rw [flat, A3 hi] at h
   by_cases hl : i - pre.length < r.length
   ·exact xaq (by rw [xbm]; exact h) (hr r (by simp) _ hl [] (.inl rfl))
   ·have := oV h
    rw [xb3 (by omega)] at this
    cases this
  ·intro h; simp [cY] at h
 | r :: r' :: rs, hr, pre, i, hi => by
  have e : pre ++ flat (c :: t) (r :: r' :: rs) = pre ++ (r ++ ((c :: t) ++ flat (c :: t) (r' :: rs))) := by rw [flat, xa3]
  have e2 : pre ++ flat (c :: t) (r :: r' :: rs) = (pre ++ r ++ (c :: t)) ++ flat (c :: t) (r' :: rs) := by rw [e]; simp [xa3]
  rw [cY, xag]
  by_cases h1 : i < pre.length + r.length
  ·constructor
   ·intro h
    rw [e, A3 hi] at h
    exact xaq h (hr r (by simp) _ (by omega) _ (.inr rfl))
   ·rintro (h | h)
    ·omega
    ·have := qY _ _ _ _ h; omega
  ·by_cases h2 : i = pre.length + r.length
   ·constructor
    ·intro _; exact .inl h2
    ·intro _
     unfold hZ
     rw [e, h2, <- xa3, List.drop_left' (by simp), List.take_left' rfl]
   ·by_cases h3 : i < pre.length + r.length + (t.length + 1)
    ·constructor
     ·intro h
      have e3 : pre ++ flat (c :: t) (r :: r' :: rs) = (pre ++ r ++ [c]) ++ (t ++ flat (c :: t) (r' :: rs)) := by rw [e]; simp [xa3]
      exact xaq (R0 e3 (by simp; omega) (by simp; omega) (oV h)) hc
     ·rintro (h | h)
      ·omega
      ·have := qY _ _ _ _ h; omega
    ·have ih := A4 hc (r' :: rs) (fun q hq => hr q (xah _ hq)) (pre ++ r ++ (c :: t)) i (by simp; omega)
     rw [e2, ih, show (pre ++ r ++ (c :: t)).length = pre.length + r.length + (t.length + 1) by simp; omega]
     constructor
     ·exact .inr
     ·rintro (h | h)
      ·omega
      ·exact h
theorem R3 {x y : Str} {c : Nat} {t : List Nat} (hy : y.cps.toList = c :: t) (hc : c ∉ t) (lim : Nat) : ∀ (rows : List (List Nat)), rows ≠ [] -> (∀ r ∈ rows, mW c t r) -> ∀ (pre : List Nat), x.cps.toList = pre ++ flat (c :: t) rows -> ∀ (st : Array Nat) (free : Nat), free <= pre.length -> st.size + rows.length <= lim ->
  (forIn (List.range' pre.length ((flat (c :: t) rows).length + 1)) (st, free) (occBody x y x.length lim)).run.1.toList = st.toList ++ cY (t.length + 1) pre.length rows := by
 have ly : y.length = t.length + 1 := by rw [show y.length = y.cps.toList.length by simp [Str.length], hy]; rfl
 have ati : ∀ {rows : List (List Nat)} {pre : List Nat} (hx : x.cps.toList = pre ++ flat (c :: t) rows) (hr : ∀ r ∈ rows, mW c t r) {i : Nat}, pre.length <= i -> (At x y x.length i ↔ i ∈ cY (t.length + 1) pre.length rows) := fun {rows pre} hx hr {i} hi => by
  rw [RY x y (by rw [hy]; simp), hx, hy]; exact A4 hc _ hr _ i hi
 intro rows
 induction rows with
 | nil => intro h; exact xaq rfl h
 | cons r rs ih =>
  intro _ hr pre hx st free hf hs
  cases rs with
  | nil =>
   rw [qX x y lim _ _ fun i hi q => ?_]
   ·simp [cY]
   ·have := (ati hx hr (by simp [List.mem_range'] at hi; omega)).mp q.2
    simp [cY] at this
  | cons r' rs =>
   have lf : (flat (c :: t) (r :: r' :: rs)).length + 1 = r.length + (1 + (t.length + ((flat (c :: t) (r' :: rs)).length + 1))) := by rw [flat]; simp; omega
   have sp : List.range' pre.length ((flat (c :: t) (r :: r' :: rs)).length + 1) = List.range' pre.length r.length ++ ((pre.length + r.length) :: (List.range' (pre.length + r.length + 1) t.length ++ List.range' (pre.length + r.length + (t.length + 1)) ((flat (c :: t) (r' :: rs)).length + 1))) := by
    rw [lf, <- List.range'_append_1, Nat.add_comm 1, List.range'_succ, <- List.range'_append_1, show pre.length + r.length + 1 + t.length = pre.length + r.length + (t.length + 1) by omega]
   have e2 : x.cps.toList = (pre ++ r ++ (c :: t)) ++ flat (c :: t) (r' :: rs) := by rw [hx, flat]; simp [xa3]
   have lp : (pre ++ r ++ (c :: t)).length = pre.length + r.length + (t.length + 1) := by simp; omega
   rw [sp, A1, qX x y lim (List.range' pre.length r.length) (st, free) fun i hi q => ?_]
   ·rw [RZ x y lim (by show st.size < lim; simp at hs; omega) (by show free <= _; omega) ((ati hx hr (by omega)).mpr (by rw [cY]; exact xax ..)), A1, qX x y lim (List.range' (pre.length + r.length + 1) t.length) _ fun i hi q => ?_]
    ·have := ih (by simp) (fun q hq => hr q (xah _ hq)) (pre ++ r ++ (c :: t)) e2 (st.push (pre.length + r.length)) (pre.length + r.length + y.length) (by rw [lp, ly]; omega) (by simp at hs ⊢; omega)
     rw [lp] at this
     rw [this, cY]
     simp
    ·have h1 := q.1
     simp [List.mem_range'] at hi
     have h2 : pre.length + r.length + y.length <= i := h1
     rw [ly] at h2
     omega
   ·simp [List.mem_range'] at hi
    have := (ati hx hr (by omega)).mp q.2
    rw [cY, xag] at this
    rcases this with h | h
    ·omega
    ·have := qY _ _ _ _ h; omega
def aF (l : List Nat) : Str := ⟨l.toArray⟩
theorem A5 {x : Str} {y : List Nat} : ∀ (rows : List (List Nat)), rows ≠ [] -> ∀ (pre : List Nat), x.cps.toList = pre ++ flat y rows -> partsFrom x y.length pre.length (cY y.length pre.length rows) = rows.map aF
 | [], h, _, _ => xaq rfl h
 | [r], _, pre, hx => by
  rw [cY, partsFrom, xbi, xcb]
  congr 1
  apply Str.ext'
  apply Array.toList_inj.mp
  rw [strSub_toList, hx, flat, List.drop_left]
  have lx : x.length = pre.length + r.length := by rw [show x.length = x.cps.toList.length by simp [Str.length], hx, flat]; simp
  rw [lx, show pre.length + r.length - pre.length = r.length by omega, List.take_length]
  rfl
 | r :: r' :: rs, _, pre, hx => by
  have e2 : x.cps.toList = (pre ++ r ++ y) ++ flat y (r' :: rs) := by rw [hx, flat]; simp [xa3]
  have ih := A5 (r' :: rs) (by simp) (pre ++ r ++ y) e2
  rw [show (pre ++ r ++ y).length = pre.length + r.length + y.length by simp; omega] at ih
  rw [cY, partsFrom, ih, show List.map aF (r :: r' :: rs) = aF r :: List.map aF (r' :: rs) from rfl]
  congr 1
  apply Str.ext'
  apply Array.toList_inj.mp
  rw [strSub_toList, hx, flat, List.drop_left, xa3, show pre.length + r.length - pre.length = r.length by omega, List.take_left' rfl]
  rfl
theorem A6 (c : Nat) (t : List Nat) : ∀ rows : List (List Nat), rows.length <= (flat (c :: t) rows).length + 1
 | [] => by simp
 | [r] => by simp
 | r :: r' :: rs => by
  have := A6 c t (r' :: rs)
  rw [flat]
  simp at this ⊢
  omega
theorem R4 {w n : Nat} : ∀ {rows : List (List Nat)}, rows ≠ [] -> cY w n rows = [] -> ∃ r, rows = [r]
 | [], h, _ => xaq rfl h
 | [r], _, _ => ⟨r, rfl⟩
 | r :: r' :: rs, _, h => by rw [cY] at h; cases h
theorem A7 {c : Nat} {t : List Nat} {rows : List (List Nat)} (hc : c ∉ t) (hk : ∀ k ∈ c :: t, k < 256) (hne : rows ≠ []) (hr : ∀ r ∈ rows, mW c t r) : Txt.split (aF (flat (c :: t) rows)) (aF (c :: t)) = rows.map aF := by
 have xl : (aF (flat (c :: t) rows)).cps.toList = [] ++ flat (c :: t) rows := by simp [aF]
 have yl : (aF (c :: t)).cps.toList = c :: t := by simp [aF]
 have lx : (aF (flat (c :: t) rows)).length = (flat (c :: t) rows).length := by simp [aF, Str.length]
 have ly : (aF (c :: t)).length = (c :: t).length := by simp [aF, Str.length]
 have occ : occurrences (aF (flat (c :: t) rows)) (aF (c :: t)) 0 (aF (flat (c :: t) rows)).length ((aF (flat (c :: t) rows)).length + 1) = cY (t.length + 1) 0 rows := by
  rw [occ_eq]
  have := R3 (x := aF (flat (c :: t) rows)) (y := aF (c :: t)) yl hc ((aF (flat (c :: t) rows)).length + 1) rows hne hr [] xl #[] 0 (xak _) (by rw [lx]; simpa using A6 c t rows)
  rw [show (aF (flat (c :: t) rows)).length + 1 - 0 = (flat (c :: t) rows).length + 1 by rw [lx]; omega]
  simpa using this
 have one : ∀ r, rows = [r] -> [aF (flat (c :: t) rows)] = rows.map aF := fun r e => by rw [e]; rfl
 have ky : PySem.Builtin.Str.strKind (aF (c :: t)) = 1 := by
  unfold PySem.Builtin.Str.strKind
  rw [xa4]
  simpa [aF] using hk
 have kx : 1 <= PySem.Builtin.Str.strKind (aF (flat (c :: t) rows)) := by
  unfold PySem.Builtin.Str.strKind
  split
  ·exact xak _
  ·split <;> decide
 unfold Txt.split
 split
 ·rename_i h
  simp only [xcu, decide_eq_true_eq] at h
  rcases h with h | h
  ·match rows, hne with
   | [r], _ => exact one r rfl
   | r :: r' :: rs, _ =>
    rw [lx, ly] at h
    rw [flat] at h
    simp at h
    omega
  ·omega
 ·split
  ·rename_i h
   rw [occ] at h
   obtain ⟨r, e⟩ := R4 hne (by simpa using h)
   exact one r e
  ·rw [occ, partsBetween_eq, ly]
   have := A5 (x := aF (flat (c :: t) rows)) (y := c :: t) rows hne [] xl
   simpa using this
theorem R5 {c : Nat} {t : List Nat} {rows : List (List Nat)} (hc : c ∉ t) (hk : ∀ k ∈ c :: t, k < 256) (hne : rows ≠ []) (hr : ∀ r ∈ rows, c ∉ r) : Txt.split (aF (flat (c :: t) rows)) (aF (c :: t)) = rows.map aF :=
 A7 hc hk hne fun r h => R1 (hr r h)
theorem u8 (y : List Nat) : ∀ rows : List (List Nat), Str.join (aF y) (rows.map aF) = aF (flat y rows)
 | [] => rfl
 | [r] => rfl
 | r :: r' :: rs => by
  have ih := u8 y (r' :: rs)
  show aF r ++ aF y ++ Str.join (aF y) ((r' :: rs).map aF) = _
  rw [ih, flat]
  apply Str.ext'
  simp [aF, Str.cps_append]
end TxtA
namespace TxtA
open PySem.StrLaws PySem.Builtin.Str PySem.NumText
def cZ (n : Nat) : List Nat := (Nat.toDigits 10 n).map Char.toNat
theorem ofS (n : Nat) : Str.ofString (toString ((n : Nat) : Int)) = aF (cZ n) := Str.ext' (Array.toList_inj.mp (by rw [PySem.W.KIN.signs_num]; simp [aF, cZ]))
theorem R7 (n : Nat) : digitsVal (cZ n) = n := PySem.W.KIN.val_back n
theorem R8 (n : Nat) : AllDigits (cZ n) := by
 intro c hc
 obtain ⟨ch, hch, e⟩ := xa7.mp hc
 have r := PyProof.Rows.digit_range (Nat.isDigit_of_mem_toDigits (by decide) (by decide) hch)
 rw [<- e]
 exact r
theorem R9 (n : Nat) : cZ n ≠ [] := fun e => by
 have h3 : Nat.toDigits 10 n = [] := List.map_eq_nil_iff.mp e
 exact xaq h3 Nat.toDigits_ne_nil
theorem u9 {n k : Nat} (h0 : 0 < k) (h : n < 10 ^ k) : (cZ n).length <= k := by
 unfold cZ
 rw [xae]
 exact (Nat.length_toDigits_le_iff (by decide) h0).mpr h
theorem SA {n : Nat} (h : n < 10 ^ 70) : intText? (aF (cZ n)) = some (n : Int) := by
 have l : (aF (cZ n)).length = (cZ n).length := by simp [aF, Str.length]
 have e : (aF (cZ n)).cps.toList = cZ n := by simp [aF]
 have := intText_digits (x := aF (cZ n)) (by rw [e]; exact R8 n) (by rw [e]; exact R9 n) (by rw [l]; exact xaj (u9 (by decide) h) (by decide))
 rw [e, R7] at this
 exact this
end TxtA
namespace DL
open L2
inductive D where
 | non | bl (b : Bool) | int (i : Int) | str (x : Str) | ty (n : String) | cls (c : Str)
 | tup (xs : List D) | lst (xs : List D) | dct (ks : List Key) (vs : List D) | exc (c : Str) (as : List D)
instance : Inhabited D := ⟨.non⟩
inductive R (α : Type) where
 | ok (a : α) | err (e : D) | bad
def R.bind {α β : Type} : R α -> (α -> R β) -> R β
 | .ok a, k => k a
 | .err e, _ => .err e
 | .bad, _ => .bad
theorem R.ok_bind {α β : Type} (a : α) (k : α -> R β) : (R.ok a).bind k = k a := rfl
def RW {α : Type} (r : R α) (Q : α -> Prop) (E : D -> Prop) : Prop := match r with
 | .ok a => Q a
 | .err e => E e
 | .bad => False
theorem RW.mono {α : Type} {r : R α} {Q Q' : α -> Prop} {E E' : D -> Prop} (h : RW r Q E) (hq : ∀ a, r = .ok a -> Q a -> Q' a) (he : ∀ e, E e -> E' e) : RW r Q' E' := by
 cases r with
 | ok a => exact hq a rfl h
 | err e => exact he e h
 | bad => exact h
theorem RW.of_bind {α β : Type} {r : R α} {k : α -> R β} {Q : β -> Prop} {E : D -> Prop} (h : RW (r.bind k) Q E) : RW r (fun a => RW (k a) Q E) E := by
 cases r with
 | ok a => exact h
 | err e => exact h
 | bad => exact h
def kK : List Str := ["ChalkError", "NoPlace", "Same", "NoFloor", "Endless", "NoDeed", "NoText", "NoName", "TooMany", "NoChange", "NoFrame", "NoValue", "Unlike", "NoRatio", "NoBow", "NoRow"]
def kL (c d : Str) : Option Bool := bif kK.contains c && kK.contains d then some (c == d || d == "ChalkError") else none
structure dX (K : xFg) (mg : Str -> Option Value) (c : Str) (C : Addr) : Prop where
 here : mg c = some (.ref C)
 exc : lO K C
 isi : ∀ d Dd b, kL c d = some b -> mg d = some (.ref Dd) -> PySem.W.kitOne K (.ref C) (.ref Dd) = some b
 val : PySem.W.kitOne K (.ref C) (.type "ValueError") = some true
 ctc : ∀ d Dd, kL c d = some true -> mg d = some (.ref Dd) -> PySem.W.exmOne K (.ref C) (.ref Dd) = some true
def oW (G : Hp) (dct : Option Addr) (vs : List V) : Prop := (dct = none /\ vs = []) \/ ∃ dx v, dct = some dx /\ vs = [v] /\ G dx = some (.xd [("at", v)])
mutual
def Rep (K : xFg) (mg : Str -> Option Value) (G : Hp) : D -> V -> Prop
 | .non, v => v = .non
 | .bl b, v => v = .bl b
 | .int i, v => v = .int i
 | .str x, v => v = .str x
 | .ty n, v => v = .ty n
 | .cls c, v => ∃ C, v = .ref C /\ mg c = some (.ref C)
 | .tup ds, v => ∃ a vs, v = .ref a /\ bJ K G a vs /\ Reps K mg G ds vs
 | .lst ds, v => ∃ a vs, v = .ref a /\ bH K G a vs /\ Reps K mg G ds vs
 | .dct ks ds, v => ∃ a vs, v = .ref a /\ Rd G a (.dK (ks.zip vs)) /\ ks.length = vs.length /\ Reps K mg G ds vs
 | .exc c as, v => ∃ x C dct vs, v = .ref x /\ G x = some (oU x C dct) /\ dX K mg c C /\ oW G dct vs /\ Reps K mg G as vs
def Reps (K : xFg) (mg : Str -> Option Value) (G : Hp) : List D -> List V -> Prop
 | [], vs => vs = []
 | d :: ds, vs => ∃ v r, vs = v :: r /\ Rep K mg G d v /\ Reps K mg G ds r
end
def SB (K : xFg) (mg : Str -> Option Value) (G : Hp) (e : D) (C : Addr) (dct : Option Addr) : Prop := ∃ c as vs, e = .exc c as /\ dX K mg c C /\ oW G dct vs /\ Reps K mg G as vs
section
variable {K : xFg} {mg : Str -> Option Value} {G G' H H' : Hp}
theorem aK.sqT {a : Addr} {xs : List V} (e : aK G G') (h : bJ K G a xs) : bJ K G' a xs := e.tup h
theorem aK.rd {a : Addr} {u : HO} (e : aK G G') (h : Rd G a u) : Rd G' a u := by
 rcases h with h | ⟨o, h⟩
 ·exact .inl (e _ _ h)
 ·exact .inr ⟨o, e _ _ h⟩
theorem oW.mono {dct : Option Addr} {vs : List V} (e : aK G G') (h : oW G dct vs) : oW G' dct vs := by
 rcases h with h | ⟨dx, v, h1, h2, h3⟩
 ·exact .inl h
 ·exact .inr ⟨dx, v, h1, h2, e _ _ h3⟩
mutual
theorem Rep.mono (e : aK G G') : ∀ {d : D} {v : V}, Rep K mg G d v -> Rep K mg G' d v
 | .non, _, h => h
 | .bl _, _, h => h
 | .int _, _, h => h
 | .str _, _, h => h
 | .ty _, _, h => h
 | .cls _, _, h => h
 | .tup _, _, ⟨a, vs, h1, h2, h3⟩ => ⟨a, vs, h1, aK.sqT e h2, Reps.mono e h3⟩
 | .lst _, _, ⟨a, vs, h1, h2, h3⟩ => ⟨a, vs, h1, e.seq h2, Reps.mono e h3⟩
 | .dct _ _, _, ⟨a, vs, h1, h2, h3, h4⟩ => ⟨a, vs, h1, aK.rd e h2, h3, Reps.mono e h4⟩
 | .exc _ _, _, ⟨x, C, dct, vs, h1, h2, h3, h4, h5⟩ => ⟨x, C, dct, vs, h1, e _ _ h2, h3, h4.mono e, Reps.mono e h5⟩
theorem Reps.mono (e : aK G G') : ∀ {ds : List D} {vs : List V}, Reps K mg G ds vs -> Reps K mg G' ds vs
 | [], _, h => h
 | _ :: _, _, ⟨v, r, h1, h2, h3⟩ => ⟨v, r, h1, Rep.mono e h2, Reps.mono e h3⟩
end
theorem Reps.length : ∀ {ds : List D} {vs : List V}, Reps K mg G ds vs -> ds.length = vs.length
 | [], _, h => by cases h; rfl
 | _ :: _, _, ⟨v, r, h1, _, h3⟩ => by cases h1; rw [xaf, xaf, Reps.length h3]
theorem Reps.nil : Reps K mg G [] [] := rfl
theorem Reps.cons {d : D} {v : V} {ds : List D} {vs : List V} (h : Rep K mg G d v) (t : Reps K mg G ds vs) : Reps K mg G (d :: ds) (v :: vs) := ⟨v, vs, rfl, h, t⟩
theorem Reps.append : ∀ {ds es : List D} {vs ws : List V}, Reps K mg G ds vs -> Reps K mg G es ws -> Reps K mg G (ds ++ es) (vs ++ ws)
 | [], _, _, _, h, t => by cases h; exact t
 | _ :: _, _, _, _, ⟨v, r, h1, h2, h3⟩, t => by cases h1; exact ⟨v, r ++ _, rfl, h2, h3.append t⟩
theorem Reps.get : ∀ {ds : List D} {vs : List V} {i : Nat} {d : D}, Reps K mg G ds vs -> ds[i]? = some d -> ∃ v, vs[i]? = some v /\ Rep K mg G d v
 | [], _, _, _, _, e => by simp at e
 | _ :: _, _, 0, _, ⟨v, r, h1, h2, _⟩, e => by simp at e; subst e; subst h1; exact ⟨v, rfl, h2⟩
 | _ :: ds, _, i + 1, d, ⟨v, r, h1, _, h3⟩, e => by
  subst h1
  obtain ⟨w, e1, e2⟩ := Reps.get (i := i) (d := d) h3 (by simpa using e)
  exact ⟨w, by simpa using e1, e2⟩
theorem Reps.drop : ∀ {ds : List D} {vs : List V} (n : Nat), Reps K mg G ds vs -> Reps K mg G (ds.drop n) (vs.drop n)
 | _, _, 0, h => h
 | [], _, _ + 1, h => by cases h; exact rfl
 | _ :: _, _, n + 1, ⟨_, _, h1, _, h3⟩ => by subst h1; exact h3.drop n
theorem Reps.take : ∀ {ds : List D} {vs : List V} (n : Nat), Reps K mg G ds vs -> Reps K mg G (ds.take n) (vs.take n)
 | _, _, 0, h => by simp only [List.take_zero]; exact rfl
 | [], _, _ + 1, h => by cases h; exact rfl
 | _ :: _, _, n + 1, ⟨v, _, h1, h2, h3⟩ => by subst h1; exact ⟨v, _, rfl, h2, h3.take n⟩
theorem Reps.ints (ns : List Int) : Reps K mg G (ns.map D.int) (ns.map V.int) := by
 induction ns with
 | nil => exact rfl
 | cons n r ih => exact ⟨_, _, rfl, rfl, ih⟩
theorem Reps.of_ints : ∀ {ns : List Int} {vs : List V}, Reps K mg G (ns.map D.int) vs -> vs = ns.map V.int
 | [], _, h => h
 | _ :: _, _, ⟨_, _, h1, h2, h3⟩ => by subst h1; cases h2; rw [Reps.of_ints h3]; rfl
theorem Reps.of_bools : ∀ {bs : List Bool} {vs : List V}, Reps K mg G (bs.map D.bl) vs -> vs = bs.map V.bl
 | [], _, h => h
 | _ :: _, _, ⟨_, _, h1, h2, h3⟩ => by subst h1; cases h2; rw [Reps.of_bools h3]; rfl
theorem Reps.at {ds : List D} {vs : List V} {i : Int} {d : D} (h : Reps K mg G ds vs) (e : dJ ds i = some d) : ∃ v, dJ vs i = some v /\ Rep K mg G d v := by
 unfold dJ at e ⊢
 rw [h.length] at e
 cases q : iM vs.length i with
 | none => rw [q] at e; cases e
 | some j => rw [q] at e; exact h.get e
structure Step (G H G' H' : Hp) : Prop where
 g : aK G G'
 h : aK H H'
 e : aK G' H'
 c : ∀ a o, H a = some o -> G a = none -> G' a = none
theorem Step.refl (e : aK G H) : Step G H G H := ⟨aK.refl _, aK.refl _, e, fun _ _ _ h => h⟩
theorem Step.trans {G1 H1 : Hp} (a : Step G H G1 H1) (b : Step G1 H1 G' H') : Step G H G' H' :=
 ⟨a.g.trans b.g, a.h.trans b.h, b.e, fun x o p q => b.c x o (a.h x o p) (a.c x o p q)⟩
theorem same_upd {p : Addr} {o : HO} (h : H p = none) : aK H (aO H p o) := RA h o
theorem Step.pub {p : Addr} {o : HO} (e : aK G H) (h : H p = none) : Step G H (aO G p o) (aO H p o) := by
 refine ⟨same_upd (e.free h), same_upd h, fun b u q => ?_, fun a u p1 q1 => ?_⟩
 ·by_cases hb : b = p
  ·subst hb; rw [bP] at q ⊢; exact q
  ·rw [bC hb] at q ⊢; exact e b u q
 ·have hb : a ≠ p := cR p1 h
  rw [bC hb]; exact q1
theorem Step.hid {p : Addr} {o : HO} (e : aK G H) (h : H p = none) : Step G H G (aO H p o) :=
 ⟨aK.refl _, same_upd h, e.trans (same_upd h), fun _ _ _ q => q⟩
theorem Step.heap (e : aK G H) (h : aK H H') : Step G H G H' := ⟨aK.refl _, h, e.trans h, fun _ _ _ q => q⟩
end
abbrev DSt := List (Option D)
structure bU (K : xFg) (mg : Str -> Option Value) (Ud : DSt) (U : St) (G H : Hp) : Prop where
 ext : aK G H
 len : Ud.length = U.length
 val : ∀ (i : Nat) (d : D), Ud[i]? = some (some d) -> ∃ v, U[i]? = some (some v) /\ Rep K mg G d v
section
variable {K : xFg} {mg : Str -> Option Value} {G G' H H' : Hp} {Ud : DSt} {U : St}
theorem bU.step (o : bU K mg Ud U G H) (s : Step G H G' H') : bU K mg Ud U G' H' :=
 ⟨s.e, o.len, fun i d q => let ⟨v, h1, h2⟩ := o.val i d q; ⟨v, h1, h2.mono s.g⟩⟩
theorem bU.set {i : Nat} {d : D} {v : V} (o : bU K mg Ud U G H) (h : Rep K mg G d v) : bU K mg (Ud.set i (some d)) (U.set i (some v)) G H := by
 refine ⟨o.ext, by simp [o.len], fun j e q => ?_⟩
 by_cases hj : j = i
 ·subst hj
  have hl : j < Ud.length := by have := (xam.mp q).1; simpa using this
  rw [xa0 hl] at q
  cases q
  exact ⟨v, by rw [xa0 (by rw [<- o.len]; exact hl)], h⟩
 ·rw [xao (xbd hj)] at q ⊢
  exact o.val j e q
theorem bU.cons {x : Option D} {y : Option V} (o : bU K mg Ud U G H) (h : ∀ d, x = some d -> ∃ v, y = some v /\ Rep K mg G d v) : bU K mg (x :: Ud) (y :: U) G H := by
 refine ⟨o.ext, by simp [o.len], fun j e q => ?_⟩
 cases j with
 | zero =>
  have q' : x = some e := by simpa using q
  obtain ⟨v, h1, h2⟩ := h e q'
  exact ⟨v, by simp [h1], h2⟩
 | succ j => exact o.val j e (by simpa using q)
theorem bU.nones (o : bU K mg Ud U G H) : ∀ k : Nat, bU K mg (List.replicate k none ++ Ud) (List.replicate k none ++ U) G H
 | 0 => o
 | k + 1 => (bU.nones o k).cons (x := none) (y := none) (fun d e => by cases e)
end
section
variable (K : xFg) (mg : Str -> Option Value) (E : XK)
def aN (Q : VK) (G H : Hp) (d : D) : Prop := ∀ v G' H', Step G H G' H' -> Rep K mg G' d v -> Q v H'
def jL (Q : Bool -> Hp -> Prop) (G H : Hp) (b : Bool) : Prop := ∀ G' H', Step G H G' H' -> Q b H'
def oX (Q : List V -> Hp -> Prop) (G H : Hp) (ds : List D) : Prop := ∀ vs G' H', Step G H G' H' -> Reps K mg G' ds vs -> Q vs H'
def fE (Q : VK) (G H : Hp) (ds : List D) : Prop := ∀ a vs G' H', Step G H G' H' -> H a = none -> H' a = some (.lst vs) -> G' a = none -> Reps K mg G' ds vs -> Q (.ref a) H'
def bG (G H : Hp) (e : D) : Prop := ∀ G' H' C dct, Step G H G' H' -> SB K mg G' e C dct -> E (.ref C) dct H'
def tE (f : DSt -> R D) : TE := fun U H Q => ∃ G Ud, bU K mg Ud U G H /\ RW (f Ud) (aN K mg Q G H) (bG K mg E G H)
def tT (f : DSt -> R Bool) : TT := fun U H Q => ∃ G Ud, bU K mg Ud U G H /\ RW (f Ud) (jL Q G H) (bG K mg E G H)
def tAr (f : DSt -> R (List D)) : TA := fun U H Q => ∃ G Ud, bU K mg Ud U G H /\ RW (f Ud) (oX K mg Q G H) (bG K mg E G H)
def oY (f : DSt -> R (List D)) : TE := fun U H Q => ∃ G Ud, bU K mg Ud U G H /\ RW (f Ud) (fE K mg Q G H) (bG K mg E G H)
end
def DE (X : Cx) (E : XK) (e : Expr) (f : DSt -> R D) : Prop := PE X e (tE X.K X.mg E f)
def DT (X : Cx) (E : XK) (e : Expr) (f : DSt -> R Bool) : Prop := PT X e (tT X.K X.mg E f)
def DW (X : Cx) (E : XK) (e : Expr) (f : DSt -> R Bool) : Prop := PW X e (tT X.K X.mg E f)
def DA (X : Cx) (E : XK) (es : List Expr) (f : DSt -> R (List D)) : Prop := PA X es (tAr X.K X.mg E f)
def DF (X : Cx) (E : XK) (e : Expr) (f : DSt -> R (List D)) : Prop := PE X e (oY X.K X.mg E f)
section
variable {X : Cx} {E : XK} {K : xFg} {mg : Str -> Option Value} {G G1 H H1 : Hp}
theorem PE.mono' {e : Expr} {t t' : TE} (h : PE X e t) (m : ∀ U H Q, t' U H Q -> t U H Q) : PE X e t' := fun pins s U H Q I q => h pins s U H Q I (m U H Q q)
theorem PT.mono' {e : Expr} {t t' : TT} (h : PT X e t) (m : ∀ U H Q, t' U H Q -> t U H Q) : PT X e t' := fun pins s U H Q I q => h pins s U H Q I (m U H Q q)
theorem PW.mono' {e : Expr} {t t' : TT} (h : PW X e t) (m : ∀ U H Q, t' U H Q -> t U H Q) : PW X e t' := fun wh pins s U H Q I q => h wh pins s U H Q I (m U H Q q)
theorem PA.mono' {es : List Expr} {t t' : TA} (h : PA X es t) (m : ∀ U H Q, t' U H Q -> t U H Q) : PA X es t' := fun pos pins s U H Q I q => h pos pins s U H Q I (m U H Q q)
theorem PS.mono' {st : Stmt} {t t' : TS} (h : PS X st t) (m : ∀ D U H, t' D U H -> t D U H) : PS X st t' := fun pins s U H D I q => h pins s U H D I (m D U H q)
theorem cU.mono' {st : List Stmt} {t t' : TS} (h : cU X st t) (m : ∀ D U H, t' D U H -> t D U H) : cU X st t' := fun pins s U H D I q => h pins s U H D I (m D U H q)
theorem aN.step {Q : VK} {d : D} (h : aN K mg Q G H d) (s : Step G H G1 H1) : aN K mg Q G1 H1 d := fun v G' H' s' r => h v G' H' (s.trans s') r
theorem bG.step {e : D} (h : bG K mg E G H e) (s : Step G H G1 H1) : bG K mg E G1 H1 e := fun G' H' C dct s' r => h G' H' C dct (s.trans s') r
theorem jL.step {Q : Bool -> Hp -> Prop} {b : Bool} (h : jL Q G H b) (s : Step G H G1 H1) : jL Q G1 H1 b := fun G' H' s' => h G' H' (s.trans s')
theorem fE.step {Q : VK} {ds : List D} (h : fE K mg Q G H ds) (s : Step G H G1 H1) : fE K mg Q G1 H1 ds := fun a vs G' H' s' n e g r => h a vs G' H' (s.trans s') (s.h.free n) e g r
theorem aN.now {Q : VK} {d : D} {v : V} (h : aN K mg Q G H d) (e : aK G H) (r : Rep K mg G d v) : Q v H := h v G H (.refl e) r
theorem DF.de {e : Expr} {f : DSt -> R (List D)} (h : DF X E e f) : DE X E e (fun U => (f U).bind fun ds => .ok (.lst ds)) := by
 refine PE.mono' h fun U H Q ⟨G, Ud, ok, q⟩ => ⟨G, Ud, ok, q.of_bind.mono (fun ds _ q => ?_) fun _ z => z⟩
 intro a vs G' H' s n e g r
 have q' : aN X.K X.mg Q G H (.lst ds) := q
 have sg : aK G' (aO G' a (.lst vs)) := same_upd g
 refine q' (.ref a) (aO G' a (.lst vs)) H' ⟨s.g.trans sg, s.h, fun b u p => ?_, fun b u p1 p2 => ?_⟩ ⟨a, vs, rfl, bH.of bP, r.mono sg⟩
 ·by_cases hb : b = a
  ·subst hb; rw [bP] at p; cases p; exact e
  ·rw [bC hb] at p; exact s.e b u p
 ·have hb : b ≠ a := cR p1 n
  rw [bC hb]; exact s.c b u p1 p2
def aA (i : Nat) : DSt -> R D := fun U => match U[i]? with
 | some (some d) => .ok d
 | _ => .bad
theorem SC (i : Nat) {x : Str} {pos : Pos} (hN : X.N[i]? = some x := by rfl) (hv : gA X.env.scope x := by first | exact Or.inl rfl | exact Or.inr (Or.inl rfl) | exact Or.inr (Or.inr rfl)) (hd : (x == ("__debug__" : Str)) = false := by decide)
  (hcd : (x == ("__classdict__" : Str)) = false := by decide) : DE X E (.Name x pos) (aA i) := by
 refine PE.mono' (pv i hN hv hd hcd) fun U H Q ⟨G, Ud, ok, q⟩ => ?_
 unfold aA at q
 split at q
 ·rename_i d e
  obtain ⟨v, h1, h2⟩ := ok.val i d e
  exact ⟨v, h1, aN.now q ok.ext h2⟩
 ·exact q.elim
def eC (d : D) : DSt -> R D := fun _ => .ok d
theorem jM {i j pos} : DE X E (.Constant (.int i) j pos) (eC (.int i)) := PE.mono' uL fun _ _ _ ⟨_, _, ok, q⟩ => aN.now q ok.ext rfl
theorem SD {b j pos} : DE X E (.Constant (.bool b) j pos) (eC (.bl b)) := PE.mono' MY fun _ _ _ ⟨_, _, ok, q⟩ => aN.now q ok.ext rfl
theorem qZ {x j pos} : DE X E (.Constant (.str x) j pos) (eC (.str x)) := PE.mono' MZ fun _ _ _ ⟨_, _, ok, q⟩ => aN.now q ok.ext rfl
theorem SE {x : Str} {d : D} {v : V} {u : Value} {pos : Pos} (hm : X.mg x = some u) (r : aR v u) (rp : ∀ G, Rep X.K X.mg G d v) (hg : Gl X x := by rfl) (hd : (x == ("__debug__" : Str)) = false := by decide) : DE X E (.Name x pos) (eC d) :=
 PE.mono' (M0 hg hm r hd) fun _ _ _ ⟨_, _, ok, q⟩ => aN.now q ok.ext (rp _)
theorem jN {x : Str} {n : String} {pos : Pos} (hm : X.mg x = none) (hv : bootBuiltins x = some (.type n) := by rfl) (hg : Gl X x := by rfl) (hn : x ≠ "__name__" := by decide) (hd : (x == ("__debug__" : Str)) = false := by decide) : DE X E (.Name x pos) (eC (.ty n)) :=
 PE.mono' (M1 hg hm hv (v := .ty n) rfl hn hd) fun _ _ _ ⟨_, _, ok, q⟩ => aN.now q ok.ext rfl
def eQ (K : xFg) (mg : Str -> Option Value) (r : R2) (g : D -> D -> R D) : Prop :=
 ∀ (G H : Hp) (a b : D) (x y : V) (Q : VK), aK G H -> Rep K mg G a x -> Rep K mg G b y -> RW (g a b) (aN K mg Q G H) (fun _ => False) -> r x y H Q
def aC (g : D -> D -> R D) (fa fb : DSt -> R D) : DSt -> R D := fun U => (fa U).bind fun x => (fb U).bind fun y => g x y
theorem eJ {f : DSt -> R D} {α : Type} {k : D -> R α} {U : St} {H : Hp} {Q : VK} {P : Hp -> Hp -> α -> Prop} {G : Hp} {Ud : DSt}
  (ok : bU K mg Ud U G H) (q : RW ((f Ud).bind k) (P G H) (bG K mg E G H))
  (h : ∀ d v G' H', Step G H G' H' -> bU K mg Ud U G' H' -> Rep K mg G' d v -> RW (k d) (P G H) (bG K mg E G' H') -> Q v H') : tE K mg E f U H Q :=
 ⟨G, Ud, ok, q.of_bind.mono (fun d _ q v G' H' s r => h d v G' H' s (ok.step s) r (q.mono (fun _ _ z => z) fun e z => z.step s)) fun _ z => z⟩
theorem vA {α : Type} {r : R α} {Q : α -> Prop} {E' : D -> Prop} (hr : ∀ e, r ≠ .err e) (h : RW r Q E') : RW r Q (fun _ => False) := by
 cases r with
 | ok a => exact h
 | err e => exact xaq rfl (hr e)
 | bad => exact h
def eR (g : D -> D -> R D) : Prop := ∀ a b e, g a b ≠ .err e
theorem oZ {r : R2} {g : D -> D -> R D} (hd : eQ X.K X.mg r g) (hn : eR g) {fa fb : DSt -> R D} {U : St} {H : Hp} {Q : VK} (h : tE X.K X.mg E (aC g fa fb) U H Q) : mS r (tE X.K X.mg E fa) (tE X.K X.mg E fb) U H Q := by
 obtain ⟨G, Ud, ok, q⟩ := h
 refine eJ (P := aN X.K X.mg Q) ok q fun a x G1 H1 s1 ok1 r1 q1 => ?_
 refine eJ (P := fun _ _ => aN X.K X.mg Q G H) ok1 q1 fun b y G2 H2 s2 ok2 r2 q2 => ?_
 exact hd G2 H2 a b x y Q ok2.ext (r1.mono s2.g) r2 (vA (hn a b) (q2.mono (fun _ _ z => z.step (s1.trans s2)) fun _ z => z))
variable {a b c : Expr} {fa fb fc : DSt -> R D} {pos : Pos}
theorem lP {op : Operator} {r : R2} {g : D -> D -> R D} (ho : bM X (binaryOp op) r) (hd : eQ X.K X.mg r g) (hn : eR g) (ha : DE X E a fa) (hb : DE X E b fb) : DE X E (.BinOp a op b pos) (aC g fa fb) :=
 PE.mono' (zF ho ha hb) fun _ _ _ h => oZ hd hn h
theorem SF {op : CmpOp} {r : R2} {g : D -> D -> R D} (ho : bM X (compareOp op) r) (hd : eQ X.K X.mg r g) (hn : eR g) (ha : DE X E a fa) (hb : DE X E b fb) (hm : behindInMarks op b = false := by first | exact cV _ (by decide) (by decide) | rfl) : DE X E (.Compare a [op] [b] pos) (aC g fa fb) :=
 PE.mono' (OU ho ha hb hm) fun _ _ _ h => oZ hd hn h
def eK : D -> R Bool
 | .bl b => .ok b
 | _ => .bad
def aM (f : DSt -> R D) : DSt -> R Bool := fun U => (f U).bind eK
theorem vB {t : TE} {f : DSt -> R D} (h : ∀ U H Q, tE X.K X.mg E f U H Q -> t U H Q) {U : St} {H : Hp} {Q : Bool -> Hp -> Prop} (q : tT X.K X.mg E (aM f) U H Q) : uM t U H Q := by
 obtain ⟨G, Ud, ok, q⟩ := q
 refine h U H _ ⟨G, Ud, ok, q.of_bind.mono (fun d _ q v G' H' s r => ?_) fun _ z => z⟩
 cases d with
 | bl k => cases r; exact ⟨k, rfl, (show jL Q G H k from q) G' H' s⟩
 | _ => exact (show False from q).elim
theorem SG {op : CmpOp} {r : R2} {g : D -> D -> R D} (ho : bM X (compareOp op) r) (hd : eQ X.K X.mg r g) (hn : eR g) (ha : DE X E a fa) (hb : DE X E b fb) (hm : behindInMarks op b = false := by first | exact cV _ (by decide) (by decide) | rfl) : DT X E (.Compare a [op] [b] pos) (aM (aC g fa fb)) :=
 PT.mono' (zG ho ha hb hm) fun _ _ _ q => vB (fun _ _ _ h => oZ hd hn h) q
def o0 (g g' : D -> D -> R D) (fa fb fc : DSt -> R D) : DSt -> R D := fun U => (fa U).bind fun x => (fb U).bind fun y => (g x y).bind fun z => (eK z).bind fun k => bif k then (fc U).bind fun w => g' y w else .ok (.bl false)
theorem SH {r r' : R2} {g g' : D -> D -> R D} (hd : eQ X.K X.mg r g) (hn : eR g) (hd' : eQ X.K X.mg r' g') (hn' : eR g') {U : St} {H : Hp} {Q : VK} (h : tE X.K X.mg E (o0 g g' fa fb fc) U H Q) :
  zH r r' (tE X.K X.mg E fa) (tE X.K X.mg E fb) (tE X.K X.mg E fc) U H Q := by
 obtain ⟨G, Ud, ok, q⟩ := h
 refine eJ (P := aN X.K X.mg Q) ok q fun a x G1 H1 s1 ok1 r1 q1 => ?_
 refine eJ (P := fun _ _ => aN X.K X.mg Q G H) ok1 q1 fun b y G2 H2 s2 ok2 r2 q2 => ?_
 refine hd G2 H2 a b x y _ ok2.ext (r1.mono s2.g) r2 ?_
 have s12 := s1.trans s2
 cases ez : g a b with
 | bad => rw [ez] at q2; exact q2.elim
 | err e => exact xaq ez (hn a b e)
 | ok z =>
  rw [ez] at q2
  intro v G3 H3 s3 r3
  cases z with
  | bl k =>
   cases r3
   have ok3 := ok2.step s3
   have s13 := s12.trans s3
   refine ⟨k, rfl, ?_⟩
   cases k with
   | false =>
    rw [xa1 xa2]
    have q3 : aN X.K X.mg Q G H (.bl false) := q2
    exact q3 _ G3 H3 s13 rfl
   | true =>
    rw [xa4 rfl]
    have q3 : RW ((fc Ud).bind fun w => g' b w) (aN X.K X.mg Q G H) (bG X.K X.mg E G2 H2) := q2
    refine eJ (k := fun w => g' b w) (P := fun _ _ => aN X.K X.mg Q G H) ok3 (q3.mono (fun _ _ z => z) fun _ z => z.step s3) fun c w G4 H4 s4 ok4 r4 q4 => ?_
    exact hd' G4 H4 b c y w Q ok4.ext (r2.mono (s3.g.trans s4.g)) r4 (vA (hn' b c) (q4.mono (fun _ _ z => z.step (s13.trans s4)) fun _ z => z))
  | _ => exact (show False from q2).elim
theorem SI {op op' : CmpOp} {r r' : R2} {g g' : D -> D -> R D} (ho : bM X (compareOp op) r) (hd : eQ X.K X.mg r g) (hn : eR g) (ho' : bM X (compareOp op') r') (hd' : eQ X.K X.mg r' g') (hn' : eR g') (ha : DE X E a fa) (hb : DE X E b fb) (hc : DE X E c fc)
  (hm : lastMarks [op, op'] [b, c] = false := by with_unfolding_all rfl) : DT X E (.Compare a [op, op'] [b, c] pos) (aM (o0 g g' fa fb fc)) :=
 PT.mono' (OV ho ho' ha hb hc hm) fun _ _ _ q => vB (fun _ _ _ h => SH hd hn hd' hn' h) q
theorem iP {e : Expr} {f : DSt -> R D} (h : DE X E e f) (he : ∀ whole, isTrue e X.env whole = (do let v <- whole; standAt e.pos; holding [v] (truthy v)) := by intro _; rfl) : DT X E e (aM f) :=
 PT.mono' (M7 h he) fun U H Q q => vB (t := tE X.K X.mg E f) (fun _ _ _ h => h) q
theorem DW.dt {e : Expr} {f : DSt -> R Bool} (h : DW X E e f) : DT X E e f := h _
variable {rest : List Expr} {ga gb : DSt -> R Bool}
def gD (fa fb : DSt -> R Bool) : DSt -> R Bool := fun U => (fa U).bind fun k => bif k then fb U else .ok false
def eS (fa fb : DSt -> R Bool) : DSt -> R Bool := fun U => (fa U).bind fun k => bif k then .ok true else fb U
def eF (fa : DSt -> R Bool) : DSt -> R Bool := fun U => (fa U).bind fun k => .ok (!k)
theorem vC {f : DSt -> R Bool} {α : Type} {k : Bool -> R α} {U : St} {H : Hp} {Q : Bool -> Hp -> Prop} {P : α -> Prop} {G : Hp} {Ud : DSt}
  (ok : bU K mg Ud U G H) (q : RW ((f Ud).bind k) P (bG K mg E G H))
  (h : ∀ b G' H', Step G H G' H' -> bU K mg Ud U G' H' -> RW (k b) P (bG K mg E G' H') -> Q b H') : tT K mg E f U H Q :=
 ⟨G, Ud, ok, q.of_bind.mono (fun d _ q G' H' s => h d G' H' s (ok.step s) (q.mono (fun _ _ z => z) fun e z => z.step s)) fun _ z => z⟩
theorem rH (ha : DT X E a ga) : DW X E (.BoolOp .And [a] pos) ga := NB ha
theorem rJ (ha : DT X E a ga) : DW X E (.BoolOp .Or [a] pos) ga := NC ha
theorem mY (ha : DT X E a ga) (hb : DW X E (.BoolOp .And (b :: rest) pos) gb) : DW X E (.BoolOp .And (a :: b :: rest) pos) (gD ga gb) := by
 refine PW.mono' (ND ha hb) fun U H Q ⟨G, Ud, ok, q⟩ => ?_
 refine vC ok q fun k G' H' s ok' q' => ?_
 cases k with
 | true => rw [xa4 rfl]; exact ⟨G', Ud, ok', q'.mono (fun _ _ z => z.step s) fun _ z => z⟩
 | false => rw [xa1 xa2]; exact (show jL Q G H false from q') G' H' s
theorem lQ (ha : DT X E a ga) (hb : DW X E (.BoolOp .Or (b :: rest) pos) gb) : DW X E (.BoolOp .Or (a :: b :: rest) pos) (eS ga gb) := by
 refine PW.mono' (NF ha hb) fun U H Q ⟨G, Ud, ok, q⟩ => ?_
 refine vC ok q fun k G' H' s ok' q' => ?_
 cases k with
 | true => rw [xa4 rfl]; exact (show jL Q G H true from q') G' H' s
 | false => rw [xa1 xa2]; exact ⟨G', Ud, ok', q'.mono (fun _ _ z => z.step s) fun _ z => z⟩
theorem jO (ha : DT X E a ga) : DT X E (.UnaryOp .Not a pos) (eF ga) := by
 refine PT.mono' (NG ha) fun U H Q ⟨G, Ud, ok, q⟩ => ?_
 exact vC ok q fun k G' H' s _ q' => (show jL Q G H (!k) from q') G' H' s
def mZ (fa fb : DSt -> R D) : DSt -> R D := fun U => (fa U).bind fun x => (eK x).bind fun k => bif k then fb U else .ok (.bl false)
def vOr (fa fb : DSt -> R D) : DSt -> R D := fun U => (fa U).bind fun x => (eK x).bind fun k => bif k then .ok (.bl true) else fb U
def vD (fa : DSt -> R D) : DSt -> R D := fun U => (fa U).bind fun x => (eK x).bind fun k => .ok (.bl !k)
theorem A9 {op} {f : DSt -> R D} (h : DE X E a f) : DE X E (.BoolOp op [a] pos) f := NJ h
theorem vE (ha : DE X E a fa) (hb : DE X E (.BoolOp .And (b :: rest) pos) fb) : DE X E (.BoolOp .And (a :: b :: rest) pos) (mZ fa fb) := by
 refine PE.mono' (NK ha hb) fun U H Q ⟨G, Ud, ok, q⟩ => ?_
 refine eJ (P := aN X.K X.mg Q) ok q fun d v G' H' s ok' r q' => ?_
 cases d with
 | bl k =>
  cases r
  refine ⟨k, rfl, ?_⟩
  cases k with
  | true => rw [xa4 rfl]; exact ⟨G', Ud, ok', q'.mono (fun _ _ z => z.step s) fun _ z => z⟩
  | false => rw [xa1 xa2]; exact (show aN X.K X.mg Q G H (.bl false) from q') _ G' H' s rfl
 | _ => exact (show False from q').elim
theorem SK (ha : DE X E a fa) : DE X E (.UnaryOp .Not a pos) (vD fa) := by
 refine PE.mono' (NL ha) fun U H Q ⟨G, Ud, ok, q⟩ => ?_
 refine eJ (P := aN X.K X.mg Q) ok q fun d v G' H' s ok' r q' => ?_
 cases d with
 | bl k => cases r; exact ⟨k, rfl, (show aN X.K X.mg Q G H (.bl !k) from q') _ G' H' s rfl⟩
 | _ => exact (show False from q').elim
def eIf (c : DSt -> R Bool) (fa fb : DSt -> R D) : DSt -> R D := fun U => (c U).bind fun k => bif k then fa U else fb U
def UnD (K : xFg) (mg : Str -> Option Value) (r : V -> Hp -> VK -> Prop) (g : D -> R D) : Prop :=
 ∀ (G H : Hp) (a : D) (x : V) (Q : VK), aK G H -> Rep K mg G a x -> RW (g a) (aN K mg Q G H) (fun _ => False) -> r x H Q
def iQ (g : D -> R D) (fa : DSt -> R D) : DSt -> R D := fun U => (fa U).bind g
theorem SN {op : UnaryOp} {r : V -> Hp -> VK -> Prop} {g : D -> R D} (ho : qQ X (unaryOp op) r) (hd : UnD X.K X.mg r g) (hn : ∀ a e, g a ≠ .err e) (ha : DE X E a fa) : DE X E (.UnaryOp op a pos) (iQ g fa) := by
 refine PE.mono' (OF ho ha) fun U H Q ⟨G, Ud, ok, q⟩ => ?_
 refine eJ (P := aN X.K X.mg Q) ok q fun d v G' H' s ok' r q' => ?_
 exact hd G' H' d v Q ok'.ext r (vA (hn d) (q'.mono (fun _ _ z => z.step s) fun _ z => z))
def aD : DSt -> R (List D) := fun _ => .ok []
def aB (fa : DSt -> R D) (fs : DSt -> R (List D)) : DSt -> R (List D) := fun U => (fa U).bind fun x => (fs U).bind fun xs => .ok (x :: xs)
variable {es : List Expr} {fs : DSt -> R (List D)}
theorem dA : DA X E [] aD := PA.mono' kG fun U H Q ⟨G, Ud, ok, q⟩ => (show oX X.K X.mg Q G H [] from q) [] G H (.refl ok.ext) Reps.nil
theorem cI (ha : DE X E a fa) (hr : DA X E es fs) (hs : starEach (a :: es) X.env = (false, eval a X.env) :: starEach es X.env := by rfl) : DA X E (a :: es) (aB fa fs) := by
 refine PA.mono' (kH ha hr hs) fun U H Q ⟨G, Ud, ok, q⟩ => ?_
 refine eJ (P := oX X.K X.mg Q) ok q fun d v G' H' s ok' r q' => ?_
 refine ⟨G', Ud, ok', q'.of_bind.mono (fun ds _ z vs G2 H2 s2 r2 => ?_) fun _ z => z⟩
 exact (show oX X.K X.mg Q G H (d :: ds) from z) _ G2 H2 (s.trans s2) (Reps.cons (r.mono s2.g) r2)
def iR (n : Nat) : Bool := decide (n <= 1000)
theorem vF {n : Nat} (h : iR n = true) : n <= sizeLine := RB (xat h)
def bL (fs : DSt -> R (List D)) : DSt -> R D := fun U => (fs U).bind fun ds => bif iR ds.length then .ok (.tup ds) else .bad
theorem BA {α : Type} {k : List D -> R α} {U : St} {H : Hp} {Q : List V -> Hp -> Prop} {P : α -> Prop} {G : Hp} {Ud : DSt}
  (ok : bU K mg Ud U G H) (q : RW ((fs Ud).bind k) P (bG K mg E G H))
  (h : ∀ ds vs G' H', Step G H G' H' -> bU K mg Ud U G' H' -> Reps K mg G' ds vs -> RW (k ds) P (bG K mg E G' H') -> Q vs H') : tAr K mg E fs U H Q :=
 ⟨G, Ud, ok, q.of_bind.mono (fun ds _ q vs G' H' s r => h ds vs G' H' s (ok.step s) r (q.mono (fun _ _ z => z) fun e z => z.step s)) fun _ z => z⟩
theorem SO {x1} (h : DA X E es fs) : DE X E (.Tuple es x1 pos) (bL fs) := by
 refine PE.mono' (PQ h) fun U H Q ⟨G, Ud, ok, q⟩ => ?_
 refine BA (P := aN X.K X.mg Q G H) ok q fun ds vs G' H' s ok' r q' => ?_
 cases hf : iR ds.length with
 | false => rw [hf] at q'; exact (show False from q').elim
 | true =>
  rw [hf] at q'
  have q2 : aN X.K X.mg Q G H (.tup ds) := q'
  refine ⟨by rw [<- r.length]; exact vF hf, fun p hp => ?_⟩
  have s2 : Step G' H' (aO G' p (.tup vs)) (aO H' p (.tup vs)) := .pub ok'.ext hp
  exact q2 _ _ _ (s.trans s2) ⟨p, vs, rfl, bJ.of bP, r.mono s2.g⟩
def bD (fs : DSt -> R (List D)) : DSt -> R (List D) := fun U => (fs U).bind fun ds => bif iR ds.length then .ok ds else .bad
theorem SQ (h : DA X E es fs) : DF X E (.List es pos) (bD fs) := by
 refine PE.mono' (uP h) fun U H Q ⟨G, Ud, ok, q⟩ => ?_
 refine BA (P := fE X.K X.mg Q G H) ok q fun ds vs G' H' s ok' r q' => ?_
 cases hf : iR ds.length with
 | false => rw [hf] at q'; exact (show False from q').elim
 | true =>
  rw [hf] at q'
  have q2 : fE X.K X.mg Q G H ds := q'
  refine ⟨by rw [<- r.length]; exact vF hf, fun p hp => ?_⟩
  exact q2 p vs G' _ (s.trans (.hid ok'.ext hp)) (s.h.free hp) bP (ok'.ext.free hp) r
def aE : D -> D -> R D
 | .tup xs, .int i => match dJ xs i with
  | some d => .ok d
  | none => .bad
 | .lst xs, .int i => match dJ xs i with
  | some d => .ok d
  | none => .bad
 | _, _ => .bad
theorem SR : eR aE := by
 intro a b e h
 cases a <;> cases b <;> simp only [aE] at h <;> first | exact xaq h (by simp) | (split at h <;> cases h)
theorem SS : eQ K mg (fun x y H Q => AH K x y H Q \/ AI K x y H Q) aE := by
 intro G H a b x y Q e ra rb q
 cases b with
 | int i =>
  cases rb
  cases a with
  | lst xs =>
   obtain ⟨p, vs, rfl, h1, h2⟩ := ra
   cases ed : dJ xs i with
   | none => simp only [aE, ed] at q; exact q.elim
   | some d =>
    simp only [aE, ed] at q
    obtain ⟨v, h3, h4⟩ := h2.at ed
    exact .inl ⟨p, vs, i, v, rfl, rfl, e.seq h1, h3, aN.now q e h4⟩
  | tup xs =>
   obtain ⟨p, vs, rfl, h1, h2⟩ := ra
   cases ed : dJ xs i with
   | none => simp only [aE, ed] at q; exact q.elim
   | some d =>
    simp only [aE, ed] at q
    obtain ⟨v, h3, h4⟩ := h2.at ed
    exact .inr ⟨p, vs, i, v, rfl, rfl, aK.sqT e h1, h3, aN.now q e h4⟩
  | _ => exact (show False from q).elim
 | _ => cases a <;> exact (show False from q).elim
theorem SU (ha : DE X E a fa) (hb : DE X E b fb) (hs : AF b := by intro _ _; rfl) : DE X E (.Subscript a b pos) (aC aE fa fb) :=
 PE.mono' (AG (AJ.or QF) ha hb hs) fun _ _ _ h => oZ SS SR h
end
def o6 (K : xFg) (mg : Str -> Option Value) (m : List D -> R D) : Sp := fun vs H Q E => ∃ G ds, aK G H /\ Reps K mg G ds vs /\ RW (m ds) (aN K mg Q G H) (bG K mg E G H)
structure aS (P : Program) (w : World) (K : xFg) (mg : Str -> Option Value) (base : Heap) (k : Nat) (x : Str) (m : List D -> R D) : Prop where
 ex : ∃ (f : Addr) (fd : FuncData) (ps : List Str), cH P w K mg base (bQ P w) k f fd ps (o6 K mg m) /\ mg x = some (.ref f) /\ PySem.W.keepIn K (.ref f) = true /\ eE K fd ps []
theorem aS.mono {P : Program} {w : World} {K : xFg} {mg : Str -> Option Value} {base : Heap} {j k : Nat} {x : Str} {m : List D -> R D} (F : aS P w K mg base j x m) (h : j <= k) : aS P w K mg base k x m := by
 obtain ⟨f, fd, ps, h1, h2⟩ := F.ex
 exact ⟨f, fd, ps, h1.mono h, h2⟩
structure XC (X : Cx) (E : XK) (k : Nat) : Prop where
 calm : X.calm = true
 room : cL k X.A
 pass : kI (bQ X.prog X.w) X E
def aU (m : List D -> R D) (fs : DSt -> R (List D)) : DSt -> R D := fun U => (fs U).bind m
def iA (K : xFg) (mg : Str -> Option Value) (r : List V -> Hp -> VK -> Prop) (g : List D -> R D) : Prop :=
 ∀ (G H : Hp) (ds : List D) (vs : List V) (Q : VK), aK G H -> Reps K mg G ds vs -> RW (g ds) (aN K mg Q G H) (fun _ => False) -> r vs H Q
def R.noerr {α : Type} : R α -> R α
 | .ok a => .ok a
 | _ => .bad
def aL (g : List D -> R D) (fs : DSt -> R (List D)) : DSt -> R D := fun U => (fs U).bind fun ds => (g ds).noerr
theorem m5 {α : Type} {r : R α} {Q : α -> Prop} {E' : D -> Prop} (h : RW r.noerr Q E') : ∃ a, r = .ok a /\ Q a := by
 cases r with
 | ok a => exact ⟨a, rfl, h⟩
 | err e => exact (show False from h).elim
 | bad => exact (show False from h).elim
section
variable {X : Cx} {E : XK} {k : Nat} {x : Str} {m : List D -> R D} {p pos : Pos} {e : Expr} {es : List Expr} {fs : DSt -> R (List D)}
theorem BB (C : XC X E k) (F : aS X.prog X.w X.K X.mg X.base k x m) (ha : DA X E (e :: es) fs) (hg : Gl X x := by rfl) (hdb : (x == ("__debug__" : Str)) = false := by decide)
  (he : starEach (e :: es) X.env = (false, eval e X.env) :: starEach es X.env := by rfl) (hpl : (backTo pos (starEach es X.env)).any (·.1) = false := by rfl) : DE X E (.Call (.Name x p) (e :: es) [] pos) (aU m fs) := by
 obtain ⟨f, fd, ps, h1, h2, h3, h4⟩ := F.ex
 refine PE.mono' (zT h1 C.room hg h2 h3 h4 .nil C.pass ha hdb he hpl) fun U H Q ⟨G, Ud, ok, q⟩ => ?_
 refine ⟨G, Ud, ok, q.of_bind.mono (fun ds hds z vs G' H' s r => ?_) fun _ z => z⟩
 show o6 X.K X.mg m (vs ++ []) H' Q E
 rw [xbm]
 exact ⟨G', ds, s.e, r, z.mono (fun _ _ z => z.step s) fun _ z => z.step s⟩
theorem vG {id : String} {r : List V -> Hp -> VK -> Prop} {g : List D -> R D} (hc : c9 X (.builtin id) r) (hd : iA X.K X.mg r g) (hm : X.mg x = none) (hv : bootBuiltins x = some (.builtin id)) (ha : DA X E (e :: es) fs) (hg : Gl X x := by rfl) (hn : x ≠ "__name__" := by decide) (hdb : (x == ("__debug__" : Str)) = false := by decide)
  (he : starEach (e :: es) X.env = (false, eval e X.env) :: starEach es X.env := by rfl) (hpl : (backTo pos (starEach es X.env)).any (·.1) = false := by rfl) : DE X E (.Call (.Name x p) (e :: es) [] pos) (aL g fs) := by
 refine PE.mono' (uR hc hg hm hv ha hn hdb he hpl) fun U H Q ⟨G, Ud, ok, q⟩ => ?_
 refine ⟨G, Ud, ok, q.of_bind.mono (fun ds _ z vs G' H' s r => ?_) fun _ z => z⟩
 obtain ⟨d, e1, z⟩ := m5 z
 exact hd G' H' ds vs Q s.e r (by rw [e1]; exact z.step s)
theorem rK {T : String} {r : List V -> Hp -> VK -> Prop} {g : List D -> R D} (hc : c9 X (.type T) r) (hd : iA X.K X.mg r g) (hm : X.mg x = none) (ha : DA X E (e :: es) fs) (hv : bootBuiltins x = some (.type T) := by rfl) (hg : Gl X x := by rfl) (hn : x ≠ "__name__" := by decide) (hdb : (x == ("__debug__" : Str)) = false := by decide)
  (he : starEach (e :: es) X.env = (false, eval e X.env) :: starEach es X.env := by rfl) (hpl : (backTo pos (starEach es X.env)).any (·.1) = false := by rfl) : DE X E (.Call (.Name x p) (e :: es) [] pos) (aL g fs) := by
 refine PE.mono' (uS hc hg hm hv ha hn hdb he hpl) fun U H Q ⟨G, Ud, ok, q⟩ => ?_
 refine ⟨G, Ud, ok, q.of_bind.mono (fun ds _ z vs G' H' s r => ?_) fun _ z => z⟩
 obtain ⟨d, e1, z⟩ := m5 z
 exact hd G' H' ds vs Q s.e r (by rw [e1]; exact z.step s)
end
def setAll {α : Type} : List (Option α) -> List Nat -> List α -> List (Option α)
 | U, k :: ks, v :: vs => setAll (U.set k (some v)) ks vs
 | U, _, _ => U
theorem BC {α : Type} : ∀ (ks : List Nat) (U : List (Option α)) (vs : List α), (setAll U ks vs).length = U.length
 | [], _, _ => by unfold setAll; rfl
 | _ :: _, _, [] => by unfold setAll; rfl
 | _ :: ks, U, _ :: vs => by unfold setAll; rw [BC ks]; simp
theorem BD {α : Type} {j : Nat} : ∀ (ks : List Nat) (U : List (Option α)) (vs : List α), j ∉ ks -> (setAll U ks vs)[j]? = U[j]?
 | [], _, _, _ => by unfold setAll; rfl
 | _ :: _, _, [], _ => by unfold setAll; rfl
 | k :: ks, U, _ :: vs, h => by
  unfold setAll
  rw [BD ks _ vs fun z => h (xah _ z), xao (fun z => h (by rw [<- z]; exact xax))]
def tG (K : xFg) (mg : Str -> Option Value) (ks : List Nat) (gp : D -> R (List D)) : TG := fun v U H Q => ∃ G d, aK G H /\ Rep K mg G d v /\ RW (gp d) (fun us => ∀ ws, Reps K mg G us ws -> Q (setAll U ks ws) H) (fun _ => False)
def DG (X : Cx) (tg : Expr) (ks : List Nat) (gp : D -> R (List D)) : Prop := PG X tg (tG X.K X.mg ks gp)
def bV : D -> R (List D) := fun d => .ok [d]
def b8 (n : Nat) : D -> R (List D)
 | .tup ds => bif ds.length == n then .ok ds else .bad
 | .lst ds => bif ds.length == n then .ok ds else .bad
 | _ => .bad
section
variable {X : Cx} {pos : Pos}
theorem PG.mono' {tg : Expr} {t t' : TG} (h : PG X tg t) (m : ∀ v U H Q, t' v U H Q -> t v U H Q) : PG X tg t' := fun pins s U H v u Q I r q => h pins s U H v u Q I r (m v U H Q q)
theorem PG.or {tg : Expr} {t t' : TG} (h : PG X tg t) (h' : PG X tg t') : PG X tg (fun v U H Q => t v U H Q \/ t' v U H Q) := fun pins s U H v u Q I r q => by
 rcases q with q | q
 ·exact h pins s U H v u Q I r q
 ·exact h' pins s U H v u Q I r q
theorem SV (i : Nat) {x : Str} (hN : X.N.Nodup) (hi : X.N[i]? = some x := by rfl) (hx : gC X.env.scope x := by first | exact Or.inl rfl | exact Or.inr rfl) (hf : X.fn x = true \/ X.env.scope.names.lookup x = some .local := by first | exact .inl rfl | exact .inr rfl | assumption) : DG X (.Name x pos) [i] bV :=
 PG.mono' (y6 hN hi hx hf) fun v U H Q ⟨G, d, e, r, q⟩ => by
  have q' := (show ∀ ws, Reps X.K X.mg G [d] ws -> Q (setAll U [i] ws) H from q) [v] (Reps.cons r Reps.nil)
  exact q'
def vH : List Nat -> iL
 | [] => zA
 | i :: r => zB (kC i) (vH r)
theorem vI : ∀ (ks : List Nat) (vs : List V) (U : St) (H : Hp) (Q : St -> Hp -> Prop), vs.length = ks.length -> Q (setAll U ks vs) H -> vH ks vs U H Q
 | [], [], _, _, _, _, q => ⟨rfl, q⟩
 | i :: r, v :: vs, U, H, Q, hl, q => ⟨v, vs, rfl, vI r vs _ H Q (by simpa using hl) q⟩
theorem SW {es : List Expr} {k : Nat} (ks : List Nat) (n : Nat) (hc : X.calm = true) (h : mP X es (vH ks)) (hk : ks.length = n := by rfl)
  (hn : (assignEach es X.env).length = n := by rfl) (hst : (assignEach es X.env).findIdx? (·.1) = none := by rfl) : DG X (.Tuple es k pos) ks (b8 n) := by
 refine PG.mono' (PG.or (NZ hc h hn hst) (Q9 hc h hn hst)) fun v U H Q ⟨G, d, e, r, q⟩ => ?_
 cases d with
 | tup ds =>
  obtain ⟨a, vs, rfl, h1, h2⟩ := r
  by_cases hd : ds.length = n
  ·have q' : ∀ ws, Reps X.K X.mg G ds ws -> Q (setAll U ks ws) H := by
    simp only [b8, hd, beq_self_eq_true, cond_true] at q; exact q
   exact .inl ⟨a, vs, rfl, aK.sqT e h1, by rw [<- h2.length]; exact hd, vI ks vs U H Q (by rw [<- h2.length, hd, hk]) (q' vs h2)⟩
  ·have : (ds.length == n) = false := by simpa using hd
   simp only [b8, this, cond_false] at q; exact q.elim
 | lst ds =>
  obtain ⟨a, vs, rfl, h1, h2⟩ := r
  by_cases hd : ds.length = n
  ·have q' : ∀ ws, Reps X.K X.mg G ds ws -> Q (setAll U ks ws) H := by
    simp only [b8, hd, beq_self_eq_true, cond_true] at q; exact q
   exact .inr ⟨a, vs, rfl, e.seq h1, by rw [<- h2.length]; exact hd, vI ks vs U H Q (by rw [<- h2.length, hd, hk]) (q' vs h2)⟩
  ·have : (ds.length == n) = false := by simpa using hd
   simp only [b8, this, cond_false] at q; exact q.elim
 | _ => exact (show False from q).elim
end
theorem bU.setAll {K : xFg} {mg : Str -> Option Value} {G H : Hp} : ∀ {ks : List Nat} {us : List D} {ws : List V} {Ud : DSt} {U : St}, bU K mg Ud U G H -> Reps K mg G us ws -> bU K mg (setAll Ud ks us) (setAll U ks ws) G H
 | [], _, _, _, _, o, _ => by unfold DL.setAll; exact o
 | _ :: _, [], _, _, _, o, h => by cases h; unfold DL.setAll; exact o
 | k :: ks, _ :: _, _, _, _, o, ⟨v, r, h1, h2, h3⟩ => by subst h1; unfold DL.setAll; exact bU.setAll (o.set h2) h3
structure eU (K : xFg) (mg : Str -> Option Value) (J : It) (G : Hp) (ds : List D) : Prop where
 stop : ∀ H, aK G H -> J.stop ds.length H
 turn : ∀ (H : Hp) (i : Nat) (d : D), aK G H -> ds[i]? = some d -> J.go i H /\ ∀ x H', J.yld i H x H' -> ∀ G1, aK G G1 -> aK G1 H -> ∃ G2, Step G1 H G2 H' /\ Rep K mg G2 d x
def tI (K : xFg) (mg : Str -> Option Value) (E : XK) (f : DSt -> R (List D)) : TI := fun U H R => ∃ G Ud, bU K mg Ud U G H /\ RW (f Ud) (fun ds => ∀ J G' H', Step G H G' H' -> eU K mg J G' ds -> R J H') (bG K mg E G H)
def DI (X : Cx) (E : XK) (tg iter : Expr) (f : DSt -> R (List D)) : Prop := PI X tg iter (tI X.K X.mg E f)
section
variable {X : Cx} {E : XK} {tg : Expr}
theorem PI.mono' {iter : Expr} {t t' : TI} (h : PI X tg iter t) (m : ∀ U H R, t' U H R -> t U H R) : PI X tg iter t' := fun pins s U H R I q => h pins s U H R I (m U H R q)
theorem eU.list {K : xFg} {mg : Str -> Option Value} {G : Hp} {a : Addr} {vs : List V} {ds : List D} (h : bH K G a vs) (r : Reps K mg G ds vs) : eU K mg (mQ K a) G ds := by
 refine ⟨fun H e => by rw [r.length]; exact (lgo (e.seq h)).1, fun H i d e hd => ?_⟩
 have hi : i < vs.length := by rw [<- r.length]; exact (xam.mp hd).1
 obtain ⟨g1, g2⟩ := (lgo (e.seq h)).2 i hi
 refine ⟨g1, fun x H' y G1 e1 e2 => ?_⟩
 obtain ⟨rfl, hx⟩ := g2 x H' y
 obtain ⟨v, h1, h2⟩ := r.get hd
 rw [hx] at h1; cases h1
 exact ⟨G1, .refl e2, h2.mono e1⟩
theorem eU.tup {K : xFg} {mg : Str -> Option Value} {G : Hp} {a : Addr} {vs : List V} {ds : List D} (h : bJ K G a vs) (r : Reps K mg G ds vs) : eU K mg (mR K a) G ds := by
 refine ⟨fun H e => by rw [r.length]; exact (tgo (aK.sqT e h)).1, fun H i d e hd => ?_⟩
 have hi : i < vs.length := by rw [<- r.length]; exact (xam.mp hd).1
 obtain ⟨g1, g2⟩ := (tgo (aK.sqT e h)).2 i hi
 refine ⟨g1, fun x H' y G1 e1 e2 => ?_⟩
 obtain ⟨rfl, hx⟩ := g2 x H' y
 obtain ⟨v, h1, h2⟩ := r.get hd
 rw [hx] at h1; cases h1
 exact ⟨G1, .refl e2, h2.mono e1⟩
def cC (lo : Int) (n : Nat) : List D := (List.range n).map fun (i : Nat) => D.int (lo + (i : Int))
theorem eU.rng {K : xFg} {mg : Str -> Option Value} {G : Hp} (lo : Int) (n : Nat) : eU K mg (qO lo n) G (cC lo n) := by
 have hl : (cC lo n).length = n := by simp [cC]
 refine ⟨fun H e => by rw [hl]; exact xak _, fun H i d e hd => ?_⟩
 have hi : i < n := by have := (xam.mp hd).1; omega
 refine ⟨hi, fun x H' y G1 e1 e2 => ?_⟩
 obtain ⟨rfl, rfl⟩ := y
 have : d = .int (lo + (i : Int)) := by simp [cC, hi] at hd; exact hd.symm
 subst this
 exact ⟨G1, .refl e2, rfl⟩
def BE : D -> R (List D)
 | .tup ds => .ok ds
 | .lst ds => .ok ds
 | _ => .bad
def c5 (f : DSt -> R D) : DSt -> R (List D) := fun U => (f U).bind BE
theorem SX {l : Expr} {f : DSt -> R D} (hl : DE X E l f) : DI X E tg l (c5 f) := by
 have hL : PI X tg l (zD X.K (tE X.K X.mg E f)) := N6 hl
 have hT : PI X tg l (zE X.K (tE X.K X.mg E f)) := N7 hl
 intro pins s U H R I ⟨G, Ud, ok, q⟩
 cases hf : f Ud with
 | bad => unfold c5 at q; rw [hf] at q; exact (show False from q).elim
 | err e =>
  unfold c5 at q; rw [hf] at q
  refine hL pins s U H R I ⟨G, Ud, ok, ?_⟩
  rw [hf]; exact q
 | ok d =>
  unfold c5 at q; rw [hf] at q
  cases d with
  | lst ds =>
   have q' : ∀ J G' H', Step G H G' H' -> eU X.K X.mg J G' ds -> R J H' := q
   refine hL pins s U H R I ⟨G, Ud, ok, ?_⟩
   rw [hf]
   rintro v G' H' st ⟨a, vs, rfl, h1, h2⟩
   exact ⟨a, rfl, ⟨vs, st.e.seq h1⟩, q' _ G' H' st (.list h1 h2)⟩
  | tup ds =>
   have q' : ∀ J G' H', Step G H G' H' -> eU X.K X.mg J G' ds -> R J H' := q
   refine hT pins s U H R I ⟨G, Ud, ok, ?_⟩
   rw [hf]
   rintro v G' H' st ⟨a, vs, rfl, h1, h2⟩
   exact ⟨a, rfl, ⟨vs, aK.sqT st.e h1⟩, q' _ G' H' st (.tup h1 h2)⟩
  | _ => exact (show False from q).elim
def fF (i : Int) : Bool := Nat.blt i.natAbs 1073741824
theorem SY {i : Int} (h : fF i = true) : -(2 ^ 30) <= i /\ i < 2 ^ 30 := by
 unfold fF at h
 rw [Nat.blt_eq] at h
 omega
def eG : List D -> R (List D)
 | [.int j] => bif fF j then .ok (cC 0 j.toNat) else .bad
 | _ => .bad
def SZ : List D -> R (List D)
 | [.int i, .int j] => bif fF i && fF j then .ok (cC i (j - i).toNat) else .bad
 | _ => .bad
def fG (g : List D -> R (List D)) (fs : DSt -> R (List D)) : DSt -> R (List D) := fun U => (fs U).bind g
variable {fs : DSt -> R (List D)} {a b c : Expr} {p pos : Pos}
theorem S0 (hm : X.mg "range" = none) (ha : DA X E [a] fs) (hg : Gl X "range" := by rfl) (hs : starEach [a] X.env = [(false, eval a X.env)] := by rfl) : DI X E tg (.Call (.Name "range" p) [a] [] pos) (fG eG fs) := by
 refine PI.mono' (OA hg hm ha hs) fun U H R ⟨G, Ud, ok, q⟩ => ?_
 refine ⟨G, Ud, ok, q.of_bind.mono (fun ds _ z vs G' H' s r => ?_) fun _ z => z⟩
 match ds, z, r with
 | [.int j], z, r =>
  obtain rfl := Reps.of_ints (ns := [j]) r
  cases hj : fF j with
  | false => simp only [eG, hj, cond_false] at z; exact z.elim
  | true =>
   simp only [eG, hj, cond_true] at z
   have := SY hj
   exact ⟨j, rfl, by omega, by omega, z _ G' H' s (.rng 0 _)⟩
end
def fR (ks : List Nat) (gp : D -> R (List D)) (c : DSt -> R Bool) (e : DSt -> R D) (U : DSt) : List D -> R (List D)
 | [] => .ok []
 | d :: ds => (gp d).bind fun us => (c (setAll U ks us)).bind fun k => bif k then (e (setAll U ks us)).bind fun y => (fR ks gp c e U ds).bind fun ys => .ok (y :: ys) else fR ks gp c e U ds
def most (n : Nat) : Bool := decide (n < sizeLine)
def dY (k : Nat) (ks : List Nat) (fi : DSt -> R (List D)) (gp : D -> R (List D)) (c : DSt -> R Bool) (e : DSt -> R D) : DSt -> R (List D) := fun U => (fi U).bind fun ds => bif most ds.length then (fR ks gp c e (List.replicate k none ++ U) ds).noerr else .bad
def dB : DSt -> R Bool := fun _ => .ok true
def rL (X : Cx) (E : XK) (cs : List Expr) (f : DSt -> R Bool) : Prop := jK X cs (tT X.K X.mg E f)
theorem jK.mono' {X : Cx} {cs : List Expr} {t t' : TT} (h : jK X cs t) (m : ∀ U H Q, t' U H Q -> t U H Q) : jK X cs t' := fun pins s U H Q I q => h pins s U H Q I (m U H Q q)
theorem m6 {X : Cx} {E : XK} : rL X E [] dB := jK.mono' QY fun U H Q ⟨G, Ud, ok, q⟩ => (show jL Q G H true from q) G H (.refl ok.ext)
theorem RW.ok_of {α : Type} {r : R α} {a : α} {Q : α -> Prop} {E : D -> Prop} (e : r = .ok a) (h : Q a) : RW r Q E := by rw [e]; exact h
theorem rM {α β : Type} {r : R α} {k : α -> R β} {b : β} (h : r.bind k = .ok b) : ∃ a, r = .ok a /\ k a = .ok b := by
 cases r with
 | ok a => exact ⟨a, rfl, h⟩
 | err e => cases h
 | bad => cases h
section
variable {X : Cx} {E : XK} {tg elt iter : Expr} {ifs : List Expr} {scope : Scope} {pos : Pos} {NY : List Str} {k : Nat} {ks : List Nat} {fi : DSt -> R (List D)} {gp : D -> R (List D)} {fc : DSt -> R Bool} {fe : DSt -> R D}
theorem S4 {k : Nat} {ks : List Nat} {U : St} (h : ks.all (fun i => decide (i < k)) = true) (ws : List V) : u6 (List.replicate k none ++ U) (setAll (List.replicate k none ++ U) ks ws) := by
 refine ⟨BC _ _ _, fun j v e => ?_⟩
 rw [BD _ _ _ fun hj => ?_]
 ·exact e
 ·have hk : j < k := xat (xa8.mp h j hj)
  rw [xbc (by simpa using hk), xb8, xa4 hk] at e
  cases e
theorem BF {te : TE} {tc : TT} (hk : ks.all (fun i => decide (i < k)) = true) {U : St} {H : Hp} {Q : VK}
  (h : oY X.K X.mg E (dY k ks fi gp fc fe) U H Q) : qV k (tI X.K X.mg E fi) (tG X.K X.mg ks gp) (tT X.K X.mg E0 fc) (tE X.K X.mg E0 fe) U H Q := by
 obtain ⟨G, Ud, ok, q⟩ := h
 refine ⟨G, Ud, ok, q.of_bind.mono (fun ds _ z J G1 H1 s1 it => ?_) fun _ z => z⟩
 cases hm : most ds.length with
 | false => rw [hm] at z; exact (show False from z).elim
 | true =>
  rw [hm] at z
  obtain ⟨tot, ht, z⟩ := m5 (show RW (fR ks gp fc fe (List.replicate k none ++ Ud) ds).noerr _ _ from z)
  have hlt : ds.length < sizeLine := xat hm
  have ok1 := ok.step s1
  refine ⟨fun i m ys H' => m = ds.length - i /\ i <= ds.length /\ ∃ G' yd rest, Step G1 H1 G' H' /\ Reps X.K X.mg G' yd ys /\ yd.length <= i /\ fR ks gp fc fe (List.replicate k none ++ Ud) (ds.drop i) = .ok rest /\ tot = yd ++ rest,
   ⟨ds.length, by simp, xbv _, G1, [], tot, .refl ok1.ext, Reps.nil, xbv _, ht, rfl⟩, ?_⟩
  rintro i m ys H' ⟨rfl, hi, G', yd, rest, s, r, hyl, hr, rfl⟩
  refine ⟨by rw [<- r.length]; omega, ?_⟩
  by_cases hlt2 : i < ds.length
  ·right
   obtain ⟨d, hd⟩ : ∃ d, ds[i]? = some d := ⟨ds[i], by simp [hlt2]⟩
   obtain ⟨g1, g2⟩ := it.turn H' i d (s.g.trans s.e) hd
   have hdrop : ds.drop i = d :: ds.drop (i + 1) := by
    rw [List.drop_eq_getElem_cons hlt2]
    congr 1
    exact xbk ((xas hlt2).symm.trans hd)
   rw [hdrop] at hr
   refine ⟨g1, fun ys' H'' => ∃ G' yd rest, Step G1 H1 G' H'' /\ Reps X.K X.mg G' yd ys' /\ yd.length <= i + 1 /\ fR ks gp fc fe (List.replicate k none ++ Ud) (ds.drop (i + 1)) = .ok rest /\ _ = yd ++ rest, fun ys' H'' h => ⟨ds.length - (i + 1), by omega, rfl, hlt2, h⟩, fun v H'' hy => ?_⟩
   obtain ⟨G2, s2, rv⟩ := g2 v H'' hy G' s.g s.e
   unfold fR at hr
   obtain ⟨us, e1, hr⟩ := rM hr
   obtain ⟨kk, e2, hr⟩ := rM hr
   have s12 := s.trans s2
   have okN : bU X.K X.mg (List.replicate k none ++ Ud) (List.replicate k none ++ U) G2 H'' := (ok1.step s12).nones k
   refine ⟨G2, d, s2.e, rv, RW.ok_of e1 fun ws rws => ⟨S4 hk ws, ?_⟩⟩
   have okS := okN.setAll (ks := ks) rws
   refine ⟨G2, _, okS, RW.ok_of e2 fun G3 H3 s3 => ?_⟩
   cases kk with
   | false =>
    rw [xa1 xa2]
    exact ⟨G3, yd, rest, s12.trans s3, r.mono (s2.g.trans s3.g), by omega, hr, rfl⟩
   | true =>
    rw [xa4 rfl]
    obtain ⟨y, e3, hr⟩ := rM (show (fe (setAll (List.replicate k none ++ Ud) ks us)).bind _ = _ from hr)
    obtain ⟨ys2, e4, hr⟩ := rM hr
    cases hr
    refine ⟨G3, _, okS.step s3, RW.ok_of e3 fun w G4 H4 s4 r4 => ?_⟩
    exact ⟨G4, yd ++ [y], ys2, (s12.trans s3).trans s4, (r.mono ((s2.g.trans s3.g).trans s4.g)).append (Reps.cons r4 Reps.nil), by simp; omega, e4, by simp⟩
  ·left
   have hi2 : i = ds.length := by omega
   subst hi2
   refine ⟨it.stop H' (s.g.trans s.e), fun Dd hD => ?_⟩
   rw [List.drop_length] at hr
   have hre : rest = [] := by unfold fR at hr; cases hr; rfl
   subst hre
   rw [xbm] at z
   have st := (s1.trans s)
   exact z Dd ys G' _ (st.trans (.hid st.e hD)) (st.h.free hD) bP (st.e.free hD) r
theorem o7 (C : X.calm = true) (lc : LC X k scope NY) (hk : ks.all (fun i => decide (i < k)) = true) (hi : DI X E tg iter fi)
  (hb : ∀ (s₀ : Shared) (H₀ : Hp) (C : Addr) (ex : List Addr), NY.Nodup -> DG (b7 X scope NY s₀ H₀ C ex) tg ks gp /\ rL (b7 X scope NY s₀ H₀ C ex) E0 ifs fc /\ DE (b7 X scope NY s₀ H₀ C ex) E0 elt fe)
  (hs : ∀ x, foldedSetIterable iter X.env x = pure x := by intro _; rfl) : DF X E (.ListComp elt [⟨tg, iter, ifs, 0⟩] scope pos) (dY k ks fi gp fc fe) :=
 PE.mono' (Q3 (g := tG X.K X.mg ks gp) (tc := tT X.K X.mg E0 fc) (te := tE X.K X.mg E0 fe) C lc hi (fun s0 H0 Ca ex nd => hb s0 H0 Ca ex nd) hs) fun _ _ _ h => BF (te := tE X.K X.mg E0 fe) (tc := tT X.K X.mg E0 fc) hk h
end
end DL
namespace DL
open L2
mutual
def imm : D -> Bool
 | .lst _ => false
 | .dct _ _ => false
 | .tup ds => imms ds
 | .exc _ as => imms as
 | .non => true
 | .bl _ => true
 | .int _ => true
 | .str _ => true
 | .ty _ => true
 | .cls _ => true
def imms : List D -> Bool
 | [] => true
 | d :: ds => imm d && imms ds
end
def o8 (G G' : Hp) : Prop := ∀ a o, G a = some o -> (∀ xs, o ≠ .lst xs) -> G' a = some o
section
variable {K : xFg} {mg : Str -> Option Value} {G G' H H' H0 : Hp}
theorem o8.sqT {a : Addr} {xs : List V} (e : o8 G G') (h : bJ K G a xs) : bJ K G' a xs := by
 rcases h with (h | ⟨o, h⟩) | h
 ·exact .inl (.inl (e _ _ h fun xs z => by cases z))
 ·exact .inl (.inr ⟨o, e _ _ h fun xs z => by cases z⟩)
 ·exact .inr h
mutual
theorem Rep.imm (e : o8 G G') : ∀ {d : D} {v : V}, imm d = true -> Rep K mg G d v -> Rep K mg G' d v
 | .non, _, _, h => h
 | .bl _, _, _, h => h
 | .int _, _, _, h => h
 | .str _, _, _, h => h
 | .ty _, _, _, h => h
 | .cls _, _, _, h => h
 | .tup _, _, i, ⟨a, vs, h1, h2, h3⟩ => ⟨a, vs, h1, e.sqT h2, Reps.imm e (by unfold DL.imm at i; exact i) h3⟩
 | .lst _, _, i, _ => by unfold DL.imm at i; cases i
 | .dct _ _, _, i, _ => by unfold DL.imm at i; cases i
 | .exc _ _, _, i, ⟨x, C, dct, vs, h1, h2, h3, h4, h5⟩ => ⟨x, C, dct, vs, h1, e _ _ h2 fun xs z => (by unfold oU at z; cases z), h3, by
   rcases h4 with h | ⟨dx, v, q1, q2, q3⟩
   ·exact .inl h
   ·exact .inr ⟨dx, v, q1, q2, e _ _ q3 fun xs z => by cases z⟩, Reps.imm e (by unfold DL.imm at i; exact i) h5⟩
theorem Reps.imm (e : o8 G G') : ∀ {ds : List D} {vs : List V}, imms ds = true -> Reps K mg G ds vs -> Reps K mg G' ds vs
 | [], _, _, h => h
 | _ :: _, _, i, ⟨v, r, h1, h2, h3⟩ => by
  unfold imms at i
  rw [xaw] at i
  exact ⟨v, r, h1, Rep.imm e i.1 h2, Reps.imm e i.2 h3⟩
end
end
structure Ok (K : xFg) (mg : Str -> Option Value) (H0 : Hp) (own : List Nat) (Ud : DSt) (U : St) (G H : Hp) : Prop where
 ext : aK G H
 len : Ud.length = U.length
 val : ∀ (i : Nat) (d : D), i ∉ own -> Ud[i]? = some (some d) -> ∃ v, U[i]? = some (some v) /\ Rep K mg G d v
 mine : ∀ (i : Nat) (d : D), i ∈ own -> Ud[i]? = some (some d) -> ∃ a ds vs, U[i]? = some (some (.ref a)) /\ d = .lst ds /\ H a = some (.lst vs) /\ G a = none /\ H0 a = none /\ Reps K mg G ds vs
 dj : ∀ (i j : Nat) (a : Addr) (d d' : D), i ∈ own -> j ∈ own -> Ud[i]? = some (some d) -> Ud[j]? = some (some d') -> U[i]? = some (some (.ref a)) -> U[j]? = some (some (.ref a)) -> i = j
def gE (own : List Nat) : Nat -> DSt -> DSt
 | _, [] => []
 | i, d :: ds => (bif own.contains i then none else d) :: gE own (i + 1) ds
def mask (own : List Nat) (U : DSt) : DSt := gE own 0 U
theorem BG {own : List Nat} : ∀ (U : DSt) (k i : Nat) (d : D), (gE own k U)[i]? = some (some d) -> k + i ∉ own /\ U[i]? = some (some d)
 | [], _, _, _, h => by unfold gE at h; simp at h
 | x :: U, k, 0, d, h => by
  unfold gE at h
  simp only [List.getElem?_cons_zero, Option.some.injEq] at h
  cases hc : own.contains k with
  | true => rw [hc] at h; cases h
  | false =>
   rw [hc] at h
   have h' : x = some d := h
   subst h'
   exact ⟨by simpa using hc, rfl⟩
 | x :: U, k, i + 1, d, h => by
  unfold gE at h
  have := BG U (k + 1) i d (by simpa using h)
  rw [show k + (i + 1) = k + 1 + i by omega]
  exact ⟨this.1, by simpa using this.2⟩
theorem BH {own : List Nat} : ∀ (U : DSt) (k : Nat), (gE own k U).length = U.length
 | [], _ => rfl
 | _ :: U, k => by unfold gE; simp [BH U]
def rN (own : List Nat) (Ud : DSt) (U : St) (b : Addr) : Prop := ∃ i d, i ∈ own /\ Ud[i]? = some (some d) /\ U[i]? = some (some (.ref b))
open Classical in
noncomputable def gF (own : List Nat) (Ud : DSt) (U : St) (G H : Hp) : Hp := fun b => if rN own Ud U b then H b else G b
open Classical in
noncomputable def kM (own : List Nat) (Ud : DSt) (U : St) (G : Hp) : Hp := fun b => if rN own Ud U b then none else G b
section
variable {K : xFg} {mg : Str -> Option Value} {G G' G0 H H' H0 : Hp} {own : List Nat} {Ud : DSt} {U : St}
theorem Ok.masked (o : Ok K mg H0 own Ud U G H) : bU K mg (mask own Ud) U G H :=
 ⟨o.ext, by unfold mask; rw [BH]; exact o.len, fun i d h => by
  have := BG Ud 0 i d h
  rw [xci] at this
  exact o.val i d this.1 this.2⟩
theorem Ok.zero (o : bU K mg Ud U G H) : Ok K mg H0 [] Ud U G H :=
 ⟨o.ext, o.len, fun i d _ h => o.val i d h, fun i d h => xaq h (by simp), fun i j a d d' h => xaq h (by simp)⟩
theorem Ok.step (o : Ok K mg H0 own Ud U G H) (s : Step G H G' H') : Ok K mg H0 own Ud U G' H' :=
 ⟨s.e, o.len, fun i d hi h => let ⟨v, h1, h2⟩ := o.val i d hi h; ⟨v, h1, h2.mono s.g⟩, fun i d hi h => by
  obtain ⟨a, ds, vs, h1, h2, h3, h4, h5, h6⟩ := o.mine i d hi h
  exact ⟨a, ds, vs, h1, h2, s.h _ _ h3, s.c _ _ h3 h4, h5, h6.mono s.g⟩, o.dj⟩
theorem Ok.notOwn (o : Ok K mg H0 own Ud U G H) {b : Addr} {u : HO} (h : G b = some u) : ¬ rN own Ud U b := by
 rintro ⟨i, d, h1, h2, h3⟩
 obtain ⟨a, ds, vs, q1, q2, q3, q4, _⟩ := o.mine i d h1 h2
 rw [q1] at h3
 cases h3
 rw [q4] at h; cases h
theorem Ok.ownLst (o : Ok K mg H0 own Ud U G H) {b : Addr} (h : rN own Ud U b) : (∃ vs, H b = some (.lst vs)) /\ G b = none /\ H0 b = none := by
 obtain ⟨i, d, h1, h2, h3⟩ := h
 obtain ⟨a, ds, vs, q1, q2, q3, q4, q5, _⟩ := o.mine i d h1 h2
 rw [q1] at h3
 cases h3
 exact ⟨⟨vs, q3⟩, q4, q5⟩
theorem Ok.pub (o : Ok K mg H0 own Ud U G H) : bU K mg Ud U (gF own Ud U G H) H /\ aK G (gF own Ud U G H) := by
 have sg : aK G (gF own Ud U G H) := fun b u h => by unfold gF; rw [xa1 (o.notOwn h)]; exact h
 refine ⟨⟨fun b u h => ?_, o.len, fun i d h => ?_⟩, sg⟩
 ·unfold gF at h
  split at h
  ·exact h
  ·exact o.ext b u h
 ·by_cases hi : i ∈ own
  ·obtain ⟨a, ds, vs, q1, rfl, q3, q4, q5, q6⟩ := o.mine i d hi h
   refine ⟨_, q1, a, vs, rfl, bH.of ?_, q6.mono sg⟩
   unfold gF
   rw [xa4 ⟨i, _, hi, h, q1⟩]; exact q3
  ·obtain ⟨v, h1, h2⟩ := o.val i d hi h
   exact ⟨v, h1, h2.mono sg⟩
theorem Ok.pubStep (o : Ok K mg H0 own Ud U G H) (s0 : Step G0 H0 G H) : Step G0 H0 (gF own Ud U G H) H := by
 refine ⟨s0.g.trans o.pub.2, s0.h, o.pub.1.ext, fun b u h1 h2 => ?_⟩
 unfold gF
 rw [xa1 fun z => by rw [(o.ownLst z).2.2] at h1; cases h1]
 exact s0.c b u h1 h2
theorem Ok.drop (o : Ok K mg H0 own Ud U G H) (s : aK H H') : Ok K mg H0 own Ud U G H' :=
 o.step (.heap o.ext s)
theorem Ok.hide (o : Ok K mg H0 own Ud U G H) (s : Step (gF own Ud U G H) H G' H') : Step G H (kM own Ud U G') H' /\ o8 G' (kM own Ud U G') := by
 refine ⟨⟨fun b u h => ?_, s.h, fun b u h => ?_, fun b u h1 h2 => ?_⟩, fun b u h1 h2 => ?_⟩
 ·unfold kM
  rw [xa1 (o.notOwn h)]
  exact s.g b u (o.pub.2 b u h)
 ·unfold kM at h
  split at h
  ·cases h
  ·exact s.e b u h
 ·unfold kM
  split
  ·rfl
  ·rename_i n
   refine s.c b u h1 ?_
   unfold gF
   rw [xa1 n]; exact h2
 ·unfold kM
  rw [xa1 fun z => ?_]
  ·exact h1
  ·obtain ⟨⟨vs, q⟩, _⟩ := o.ownLst z
   have : gF own Ud U G H b = some (.lst vs) := by unfold gF; rw [xa4 z]; exact q
   have := s.g b _ this
   rw [h1] at this; cases this
   exact h2 vs rfl
theorem o9 {α : Type} {l : List (Option α)} {i : Nat} {x d : α} (h : (l.set i (some x))[i]? = some (some d)) : d = x /\ i < l.length := by
 have hl : i < l.length := by have := (xam.mp h).1; simpa using this
 rw [xa0 hl] at h
 cases h
 exact ⟨rfl, hl⟩
theorem Ok.set {i : Nat} {d : D} {v : V} (o : Ok K mg H0 own Ud U G H) (hi : i ∉ own) (h : Rep K mg G d v) : Ok K mg H0 own (Ud.set i (some d)) (U.set i (some v)) G H := by
 have ne : ∀ {j : Nat}, j ∈ own -> j ≠ i := fun hj z => hi (z ▸ hj)
 refine ⟨o.ext, by simp [o.len], fun j e hj q => ?_, fun j e hj q => ?_, fun j k a d1 d2 h1 h2 h3 h4 h5 h6 => ?_⟩
 ·by_cases hji : j = i
  ·subst hji
   obtain ⟨rfl, hl⟩ := o9 q
   exact ⟨v, by rw [xa0 (by rw [<- o.len]; exact hl)], h⟩
  ·rw [xao (xbd hji)] at q ⊢
   exact o.val j e hj q
 ·rw [xao (xbd (ne hj))] at q ⊢
  exact o.mine j e hj q
 ·rw [xao (xbd (ne h1))] at h3 h5
  rw [xao (xbd (ne h2))] at h4 h6
  exact o.dj j k a d1 d2 h1 h2 h3 h4 h5 h6
theorem Ok.setAll : ∀ {ks : List Nat} {us : List D} {ws : List V} {Ud : DSt} {U : St}, Ok K mg H0 own Ud U G H -> (∀ k ∈ ks, k ∉ own) -> Reps K mg G us ws -> Ok K mg H0 own (DL.setAll Ud ks us) (DL.setAll U ks ws) G H
 | [], _, _, _, _, o, _, _ => by unfold DL.setAll; exact o
 | _ :: _, [], _, _, _, o, _, h => by cases h; unfold DL.setAll; exact o
 | k :: ks, _ :: _, _, _, _, o, hk, ⟨v, r, h1, h2, h3⟩ => by
  subst h1; unfold DL.setAll
  exact Ok.setAll (o.set (hk k xax) h2) (fun j hj => hk j (xah _ hj)) h3
theorem Ok.new {i : Nat} {ds : List D} {vs : List V} {a : Addr} {own' : List Nat} (o : Ok K mg H0 own Ud U G H) (s : Step G H G' H') (n : H a = none) (e : H' a = some (.lst vs)) (g : G' a = none) (n0 : H0 a = none) (r : Reps K mg G' ds vs)
  (hown : ∀ j, j ∈ own' ↔ j = i \/ j ∈ own) : Ok K mg H0 own' (Ud.set i (some (.lst ds))) (U.set i (some (.ref a))) G' H' := by
 have o' := o.step s
 have away : ∀ {j : Nat} {d : D}, j ∈ own -> j ≠ i -> Ud[j]? = some (some d) -> U[j]? = some (some (.ref a)) -> False := fun {j d} hj _ hd hs => by
  obtain ⟨b, _, _, q1, _, q3, _⟩ := o.mine j d hj hd
  rw [q1] at hs; cases hs
  rw [n] at q3; cases q3
 refine ⟨o'.ext, by simp [o.len], fun j d hj q => ?_, fun j d hj q => ?_, fun j k b d1 d2 h1 h2 h3 h4 h5 h6 => ?_⟩
 ·have hji : j ≠ i := fun z => hj ((hown j).mpr (.inl z))
  rw [xao (xbd hji)] at q ⊢
  exact o'.val j d (fun z => hj ((hown j).mpr (.inr z))) q
 ·by_cases hji : j = i
  ·subst hji
   obtain ⟨rfl, hl⟩ := o9 q
   exact ⟨a, ds, vs, by rw [xa0 (by rw [<- o.len]; exact hl)], rfl, e, g, n0, r⟩
  ·rw [xao (xbd hji)] at q ⊢
   exact o'.mine j d (((hown j).mp hj).resolve_left hji) q
 ·by_cases hji : j = i
  ·by_cases hki : k = i
   ·rw [hji, hki]
   ·subst hji
    obtain ⟨rfl, hl⟩ := o9 h3
    rw [xa0 (by rw [<- o.len]; exact hl)] at h5
    cases h5
    rw [xao (xbd hki)] at h4 h6
    exact (away (((hown k).mp h2).resolve_left hki) hki h4 h6).elim
  ·by_cases hki : k = i
   ·subst hki
    obtain ⟨rfl, hl⟩ := o9 h4
    rw [xa0 (by rw [<- o.len]; exact hl)] at h6
    cases h6
    rw [xao (xbd hji)] at h3 h5
    exact (away (((hown j).mp h1).resolve_left hji) hji h3 h5).elim
   ·rw [xao (xbd hji)] at h3 h5
    rw [xao (xbd hki)] at h4 h6
    exact o.dj j k b d1 d2 (((hown j).mp h1).resolve_left hji) (((hown k).mp h2).resolve_left hki) h3 h4 h5 h6
theorem Ok.write {i : Nat} {d : D} {ds : List D} {vs : List V} {a : Addr} (o : Ok K mg H0 own Ud U G H) (hi : i ∈ own) (hd : Ud[i]? = some (some d)) (ha : U[i]? = some (some (.ref a))) (r : Reps K mg G ds vs) :
  Ok K mg H0 own (Ud.set i (some (.lst ds))) U G (aO H a (.lst vs)) := by
 obtain ⟨b, ds0, vs0, q1, q2, q3, q4, q5, q6⟩ := o.mine i d hi hd
 rw [ha] at q1; cases q1
 have hl : i < Ud.length := (xam.mp hd).1
 refine ⟨fun b u h => ?_, by simp [o.len], fun j e hj q => ?_, fun j e hj q => ?_, fun j k b d1 d2 h1 h2 h3 h4 h5 h6 => ?_⟩
 ·rw [bC (cR h q4)]; exact o.ext b u h
 ·have hji : j ≠ i := fun z => hj (z ▸ hi)
  rw [xao (xbd hji)] at q
  exact o.val j e hj q
 ·by_cases hji : j = i
  ·subst hji
   obtain ⟨rfl, _⟩ := o9 q
   exact ⟨a, ds, vs, ha, rfl, bP, q4, q5, r⟩
  ·rw [xao (xbd hji)] at q
   obtain ⟨c, es, ws, p1, p2, p3, p4⟩ := o.mine j e hj q
   have hc : c ≠ a := fun z => by subst z; exact hji (o.dj j i c e d hj hi q hd p1 ha)
   exact ⟨c, es, ws, p1, p2, by rw [bC hc]; exact p3, p4⟩
 ·have back : ∀ {j : Nat} {e : D}, (Ud.set i (some (.lst ds)))[j]? = some (some e) -> ∃ e', Ud[j]? = some (some e') := fun {j e} q => by
   by_cases hji : j = i
   ·exact ⟨d, hji ▸ hd⟩
   ·rw [xao (xbd hji)] at q; exact ⟨e, q⟩
  obtain ⟨e1, h3⟩ := back h3
  obtain ⟨e2, h4⟩ := back h4
  exact o.dj j k b e1 e2 h1 h2 h3 h4 h5 h6
theorem Step.write {a : Addr} {o u : HO} (s0 : Step G0 H0 G H) (n : H0 a = none) (g : G a = none) : Step G0 H0 G (aO H a u) :=
 ⟨s0.g, fun b v h => by rw [bC (cR h n)]; exact s0.h b v h, fun b v h => by rw [bC (cR h g)]; exact s0.e b v h, s0.c⟩
theorem Ok.release {i : Nat} {own' : List Nat} (o : Ok K mg H0 own Ud U G H) (s0 : Step G0 H0 G H) (hi : i ∈ own) (hown : ∀ j, j ∈ own' ↔ j ≠ i /\ j ∈ own) : ∃ G', Ok K mg H0 own' Ud U G' H /\ Step G0 H0 G' H /\ aK G G' := by
 by_cases hb : ∃ d, Ud[i]? = some (some d)
 ·obtain ⟨d, hd⟩ := hb
  obtain ⟨a, ds, vs, q1, rfl, q3, q4, q5, q6⟩ := o.mine i d hi hd
  have sg : aK G (aO G a (.lst vs)) := same_upd q4
  have eh : aK (aO G a (.lst vs)) H := fun b u h => by
   by_cases hb : b = a
   ·subst hb; rw [bP] at h; cases h; exact q3
   ·rw [bC hb] at h; exact o.ext b u h
  refine ⟨aO G a (.lst vs), ⟨eh, o.len, fun j e hj q => ?_, fun j e hj q => ?_, fun j k b d1 d2 h1 h2 h3 h4 h5 h6 => ?_⟩, ⟨s0.g.trans sg, s0.h, eh, fun b u h1 h2 => ?_⟩, sg⟩
  ·by_cases hji : j = i
   ·subst hji
    rw [hd] at q; cases q
    exact ⟨_, q1, a, vs, rfl, bH.of bP, q6.mono sg⟩
   ·obtain ⟨v, h1, h2⟩ := o.val j e (fun z => hj ((hown j).mpr ⟨hji, z⟩)) q
    exact ⟨v, h1, h2.mono sg⟩
  ·obtain ⟨hji, hj'⟩ := (hown j).mp hj
   obtain ⟨c, es, ws, p1, p2, p3, p4, p5, p6⟩ := o.mine j e hj' q
   have hc : c ≠ a := fun z => by subst z; exact hji (o.dj j i c e _ hj' hi q hd p1 q1)
   exact ⟨c, es, ws, p1, p2, p3, by rw [bC hc]; exact p4, p5, p6.mono sg⟩
  ·exact o.dj j k b d1 d2 ((hown j).mp h1).2 ((hown k).mp h2).2 h3 h4 h5 h6
  ·rw [bC (cR h1 q5)]; exact s0.c b u h1 h2
 ·refine ⟨G, ⟨o.ext, o.len, fun j e hj q => ?_, fun j e hj q => o.mine j e ((hown j).mp hj).2 q, fun j k b d1 d2 h1 h2 => o.dj j k b d1 d2 ((hown j).mp h1).2 ((hown k).mp h2).2⟩, s0, aK.refl _⟩
  have hji : j ≠ i := fun z => hb ⟨e, z ▸ q⟩
  exact o.val j e (fun z => hj ((hown j).mpr ⟨hji, z⟩)) q
end
inductive aG where
 | nx (U : DSt) | rt (d : D) | bk (U : DSt) | ct (U : DSt) | rf (ds : List D)
section
variable (K : xFg) (mg : Str -> Option Value) (E : XK)
def dE (G0 H0 : Hp) (own' ol : List Nat) (Dn : iK) (G : Hp) : aG -> Prop
 | .nx Ud' => ∀ U' G' H', Ok K mg H0 own' Ud' U' G' H' -> Step G0 H0 G' H' -> aK G G' -> Dn.nx U' H'
 | .bk Ud' => ∀ U' G' H', Ok K mg H0 ol Ud' U' G' H' -> Step G0 H0 G' H' -> aK G G' -> Dn.bk U' H'
 | .ct Ud' => ∀ U' G' H', Ok K mg H0 ol Ud' U' G' H' -> Step G0 H0 G' H' -> aK G G' -> Dn.ct U' H'
 | .rt d => ∀ v G' H', Step G0 H0 G' H' -> Rep K mg G' d v -> Dn.rt v H'
 | .rf ds => ∀ a vs G' H', Step G0 H0 G' H' -> H0 a = none -> H' a = some (.lst vs) -> G' a = none -> Reps K mg G' ds vs -> Dn.rt (.ref a) H'
def tS (G0 H0 : Hp) (own own' ol : List Nat) (f : DSt -> R aG) : TS := fun Dn U H => ∃ G Ud, Ok K mg H0 own Ud U G H /\ Step G0 H0 G H /\ RW (f Ud) (dE K mg G0 H0 own' ol Dn G) (bG K mg E G0 H0)
end
theorem dE.shift {K : xFg} {mg : Str -> Option Value} {G0 H0 G G' : Hp} {own' ol : List Nat} {Dn : iK} (s : aK G G') {o : aG} (h : dE K mg G0 H0 own' ol Dn G o) : dE K mg G0 H0 own' ol Dn G' o := by
 cases o with
 | nx _ => exact fun a b c d e f => h a b c d e (s.trans f)
 | bk _ => exact fun a b c d e f => h a b c d e (s.trans f)
 | ct _ => exact fun a b c d e f => h a b c d e (s.trans f)
 | rt _ => exact h
 | rf _ => exact h
def DS (X : Cx) (E : XK) (own own' ol : List Nat) (st : Stmt) (f : DSt -> R aG) : Prop := ∀ G0, PS X st (tS X.K X.mg E G0 X.H₀ own own' ol f)
def fH (X : Cx) (E : XK) (own own' ol : List Nat) (st : List Stmt) (f : DSt -> R aG) : Prop := ∀ G0, cU X st (tS X.K X.mg E G0 X.H₀ own own' ol f)
def aV (f g : DSt -> R aG) : DSt -> R aG := fun U => (f U).bind fun o => match o with
 | .nx U' => g U'
 | o => .ok o
def eV : DSt -> R aG := fun U => .ok (.nx U)
section
variable {X : Cx} {E : XK} {own own1 own2 own' ol : List Nat} {st : Stmt} {rest : List Stmt} {f g : DSt -> R aG} {pos : Pos}
theorem gG : fH X E own own ol [] eV := fun G0 => cU.mono' y0 fun Dn U H ⟨G, Ud, ok, s0, q⟩ => (show dE X.K X.mg G0 X.H₀ own ol Dn G (.nx Ud) from q) U G H ok s0 (aK.refl _)
theorem aX (h1 : DS X E own own1 ol st f) (h2 : fH X E own1 own2 ol rest g) : fH X E own own2 ol (st :: rest) (aV f g) := fun G0 => cU.mono' (kB (h1 G0) (h2 G0)) fun Dn U H ⟨G, Ud, ok, s0, q⟩ => by
 refine ⟨G, Ud, ok, s0, q.of_bind.mono (fun o _ z => ?_) fun _ z => z⟩
 cases o with
 | nx σ1 =>
  intro U' G' H' ok' s' e'
  exact ⟨G', σ1, ok', s', (show RW (g σ1) _ _ from z).mono (fun o _ z => z.shift e') fun _ z => z⟩
 | rt d => exact z
 | rf d => exact z
 | bk d => exact z
 | ct d => exact z
theorem cA (h1 : DS X E own own1 ol st f) : fH X E own own1 ol [st] f := fun G0 => mO (h1 G0)
theorem jP (i : Nat) (hi : own.contains i = true) (ho : own' = own.filter fun j => j != i) (h : fH X E own' own2 ol rest g) : fH X E own own2 ol rest g := fun G0 => cU.mono' (h G0) fun Dn U H ⟨G, Ud, ok, s0, q⟩ => by
 obtain ⟨G', ok', s', e'⟩ := ok.release (i := i) (own' := own') s0 (by simpa using hi) fun j => by subst ho; simp [and_comm]
 exact ⟨G', Ud, ok', s', q.mono (fun o _ z => z.shift e') fun _ z => z⟩
def cD (fe : DSt -> R D) : DSt -> R aG := fun U => (fe U).bind fun d => .ok (.rt d)
theorem pA {e : Expr} {fe : DSt -> R D} (h : DE X E e fe) : DS X E own own' ol (.Return (some e) pos) (cD fe) := fun G0 => PS.mono' (qM h) fun Dn U H ⟨G, Ud, ok, s0, q⟩ => by
 have s1 := ok.pubStep s0
 exact ⟨_, Ud, ok.pub.1, q.of_bind.mono (fun d _ z v G' H' s r => (show dE X.K X.mg G0 X.H₀ own' ol Dn G (.rt d) from z) v G' H' (s1.trans s) r) fun _ z => z.step s1⟩
def dF (c : DSt -> R Bool) (f g : DSt -> R aG) : DSt -> R aG := fun U => (c U).bind fun k => bif k then f U else g U
theorem dZ {c : Expr} {a b : List Stmt} {fc : DSt -> R Bool} (hc : DT X E c fc) (ha : fH X E own own' ol a f) (hb : fH X E own own' ol b g) : DS X E own own' ol (.If c a b pos) (dF fc f g) := fun G0 =>
 PS.mono' (y1 hc (ha G0) (hb G0)) fun Dn U H ⟨G, Ud, ok, s0, q⟩ => by
 have s1 := ok.pubStep s0
 refine ⟨_, Ud, ok.pub.1, q.of_bind.mono (fun k _ z G' H' s => ?_) fun _ z => z.step s1⟩
 have ok' := ok.drop s.h
 have s' : Step G0 X.H₀ G H' := s0.trans (.heap ok.ext s.h)
 cases k with
 | true => exact uX ⟨G, Ud, ok', s', z⟩
 | false => exact uW ⟨G, Ud, ok', s', z⟩
def S5 (fe : DSt -> R D) : DSt -> R aG := fun U => (fe U).bind fun _ => .ok (.nx U)
def cM (own : List Nat) (i : Nat) (fe : DSt -> R D) : DSt -> R aG := fun U => (fe (mask own U)).bind fun d => .ok (.nx (U.set i (some d)))
def bZ (i : Nat) (fe : DSt -> R D) : DSt -> R aG := fun U => (fe U).bind fun d => .ok (.nx (U.set i (some d)))
def S6 (i : Nat) (fe : DSt -> R D) : DSt -> R aG := fun U => (fe U).bind fun d => bif imm d then .ok (.nx (U.set i (some d))) else .bad
theorem S7 {own : List Nat} {i : Nat} (h : own.contains i = false) : i ∉ own := by simpa using h
theorem vJ (U : DSt) : mask [] U = U := by
 have : ∀ (U : DSt) (k : Nat), gE [] k U = U := fun U => by
  induction U with
  | nil => intro k; rfl
  | cons d ds ih => intro k; unfold gE; rw [ih]; rfl
 exact this U 0
theorem vK {te : TE} {fe : DSt -> R D} {i : Nat} {G0 : Hp} (h : ∀ U H Q, tE X.K X.mg E fe U H Q -> te U H Q) (ho : own.contains i = false) {Dn : iK} {U : St} {H : Hp} (q : tS X.K X.mg E G0 X.H₀ own own ol (cM own i fe) Dn U H) : lG te (kC i) Dn U H := by
 obtain ⟨G, Ud, ok, s0, q⟩ := q
 refine h U H _ ⟨G, mask own Ud, ok.masked, q.of_bind.mono (fun d _ z v G' H' s r => ?_) fun _ z => z.step s0⟩
 exact (show dE X.K X.mg G0 X.H₀ own ol Dn G (.nx (Ud.set i (some d))) from z) _ G' H' ((ok.step s).set (S7 ho) r) (s0.trans s) s.g
def fS (own : List Nat) (i : Nat) (fe : DSt -> R (List D)) : DSt -> R aG := fun U => (fe (mask own U)).bind fun ds => .ok (.nx (U.set i (some (.lst ds))))
def rO (i : Nat) (fe : DSt -> R (List D)) : DSt -> R aG := fun U => (fe U).bind fun ds => bif imms ds then .ok (.nx (U.set i (some (.lst ds)))) else .bad
def kN (own : List Nat) (i : Nat) : List Nat := if own.contains i then own else i :: own
theorem BI {own : List Nat} {i j : Nat} : j ∈ kN own i ↔ j = i \/ j ∈ own := by
 unfold kN
 split
 ·rename_i h
  have hi : i ∈ own := by simpa using h
  exact ⟨.inr, fun h => h.elim (fun e => e ▸ hi) id⟩
 ·simp
theorem S8 {te : TE} {fe : DSt -> R (List D)} {i : Nat} {G0 : Hp} (h : ∀ U H Q, oY X.K X.mg E fe U H Q -> te U H Q) {Dn : iK} {U : St} {H : Hp} (q : tS X.K X.mg E G0 X.H₀ own (kN own i) ol (fS own i fe) Dn U H) : lG te (kC i) Dn U H := by
 obtain ⟨G, Ud, ok, s0, q⟩ := q
 refine h U H _ ⟨G, mask own Ud, ok.masked, q.of_bind.mono (fun ds _ z a vs G' H' s n e g r => ?_) fun _ z => z.step s0⟩
 exact (show dE X.K X.mg G0 X.H₀ (kN own i) ol Dn G (.nx (Ud.set i (some (.lst ds)))) from z) _ G' H' (ok.new s n e g (s0.h.free n) r fun j => BI) (s0.trans s) s.g
theorem S9 {te : TE} {fe : DSt -> R (List D)} {i : Nat} {G0 : Hp} (h : ∀ U H Q, oY X.K X.mg E fe U H Q -> te U H Q) {Dn : iK} {U : St} {H : Hp} (q : tS X.K X.mg E G0 X.H₀ own (kN own i) ol (rO i fe) Dn U H) : lG te (kC i) Dn U H := by
 obtain ⟨G, Ud, ok, s0, q⟩ := q
 have s1 := ok.pubStep s0
 refine h U H _ ⟨_, Ud, ok.pub.1, q.of_bind.mono (fun ds _ z a vs G' H' s n e g r => ?_) fun _ z => z.step s1⟩
 cases hd : imms ds with
 | false => rw [hd] at z; exact (show False from z).elim
 | true =>
  rw [hd] at z
  obtain ⟨st, sT⟩ := ok.hide s
  have g' : kM own Ud U G' a = none := by unfold kM; split <;> first | rfl | exact g
  exact (show dE X.K X.mg G0 X.H₀ (kN own i) ol Dn G (.nx (Ud.set i (some (.lst ds)))) from z) _ _ H' (ok.new st n e g' (s0.h.free n) (r.imm sT hd) fun j => BI) (s0.trans st) st.g
variable {i : Nat} {x : Str} {e : Expr} {pos' : Pos} {fe : DSt -> R D} {fl : DSt -> R (List D)}
theorem TB (i : Nat) (hN : X.N.Nodup) (he : DE X E e fe) (ho : own.contains i = false := by rfl) (hi : X.N[i]? = some x := by rfl) (hx : gC X.env.scope x := by first | exact Or.inl rfl | exact Or.inr rfl) (hs : swapsWith e (some (.Name x pos')) pos.line X.env = pure false := by rfl)
  (hf : X.fn x = true \/ X.env.scope.names.lookup x = some .local := by first | exact .inl rfl | exact .inr rfl | assumption) : DS X E own own ol (.Assign [.Name x pos'] e pos) (cM own i fe) := fun G0 =>
 PS.mono' (kE hN hi hx he hs hf) fun Dn U H q => vK (fun _ _ _ z => z) ho q
theorem TC (i : Nat) (hN : X.N.Nodup) (he : DE X E e fe) (hi : X.N[i]? = some x := by rfl) (hx : gC X.env.scope x := by first | exact Or.inl rfl | exact Or.inr rfl) (hs : swapsWith e (some (.Name x pos')) pos.line X.env = pure false := by rfl)
  (hf : X.fn x = true \/ X.env.scope.names.lookup x = some .local := by first | exact .inl rfl | exact .inr rfl | assumption) : DS X E [] [] ol (.Assign [.Name x pos'] e pos) (bZ i fe) := fun G0 => by
 have : bZ i fe = cM [] i fe := by funext U; unfold bZ cM; rw [vJ]
 rw [this]
 exact PS.mono' (kE hN hi hx he hs hf) fun Dn U H q => vK (fun _ _ _ z => z) rfl q
theorem TD (i : Nat) (hN : X.N.Nodup) (he : DF X E e fl) (hw : own' = kN own i := by rfl) (hi : X.N[i]? = some x := by rfl) (hx : gC X.env.scope x := by first | exact Or.inl rfl | exact Or.inr rfl) (hs : swapsWith e (some (.Name x pos')) pos.line X.env = pure false := by rfl)
  (hf : X.fn x = true \/ X.env.scope.names.lookup x = some .local := by first | exact .inl rfl | exact .inr rfl | assumption) : DS X E own own' ol (.Assign [.Name x pos'] e pos) (fS own i fl) := fun G0 => by
 subst hw; exact PS.mono' (kE hN hi hx he hs hf) fun Dn U H q => S8 (fun _ _ _ z => z) q
theorem TH (i : Nat) (hN : X.N.Nodup) (he : DF X E e fl) (hw : own' = kN own i := by rfl) (hi : X.N[i]? = some x := by rfl) (hx : gC X.env.scope x := by first | exact Or.inl rfl | exact Or.inr rfl) (hs : swapsWith e (some (.Name x pos')) pos.line X.env = pure false := by rfl)
  (hf : X.fn x = true \/ X.env.scope.names.lookup x = some .local := by first | exact .inl rfl | exact .inr rfl | assumption) : DS X E own own' ol (.Assign [.Name x pos'] e pos) (rO i fl) := fun G0 => by
 subst hw; exact PS.mono' (kE hN hi hx he hs hf) fun Dn U H q => S9 (fun _ _ _ z => z) q
theorem TJ {te : TE} (h : ∀ U H Q, oY X.K X.mg E fl U H Q -> te U H Q) : ∀ U H Q, tE X.K X.mg E (fun U => (fl U).bind fun ds => .ok (.lst ds)) U H Q -> te U H Q := fun U H Q ⟨G, Ud, ok, q⟩ => by
 refine h U H Q ⟨G, Ud, ok, q.of_bind.mono (fun ds _ q => ?_) fun _ z => z⟩
 intro a vs G' H' s n e g r
 have q' : aN X.K X.mg Q G H (.lst ds) := q
 have sg : aK G' (aO G' a (.lst vs)) := same_upd g
 refine q' (.ref a) (aO G' a (.lst vs)) H' ⟨s.g.trans sg, s.h, fun b u p => ?_, fun b u p1 p2 => ?_⟩ ⟨a, vs, rfl, bH.of bP, r.mono sg⟩
 ·by_cases hb : b = a
  ·subst hb; rw [bP] at p; cases p; exact e
  ·rw [bC hb] at p; exact s.e b u p
 ·have hb : b ≠ a := cR p1 n
  rw [bC hb]; exact s.c b u p1 p2
def aY (fl : DSt -> R (List D)) : DSt -> R D := fun U => (fl U).bind fun ds => .ok (.lst ds)
theorem DF.val (h : DF X E e fl) : DE X E e (aY fl) := h.de
variable {tg elt iter : Expr} {ifs : List Expr} {scope : Scope} {NY : List Str} {k : Nat} {ks : List Nat} {fi : DSt -> R (List D)} {gp : D -> R (List D)} {fc : DSt -> R Bool} {lpos : Pos}
theorem TK (i : Nat) (C : X.calm = true) (hN : X.N.Nodup) (hi' : X.N[i]? = some x) (hy : X.env.kindOf x = some .local) (lc : LC X k scope NY) (hi : DI X E tg iter fi)
  (hb : ∀ (s₀ : Shared) (H₀ : Hp) (C : Addr) (ex : List Addr), NY.Nodup -> DG (b7 X scope NY s₀ H₀ C ex) tg ks gp /\ rL (b7 X scope NY s₀ H₀ C ex) E0 ifs fc /\ DE (b7 X scope NY s₀ H₀ C ex) E0 elt fe)
  (hsw : swapsWith (.ListComp elt [⟨tg, iter, ifs, 0⟩] scope lpos) (some (.Name x pos')) pos.line X.env = pure true)
  (hs : ∀ x, foldedSetIterable iter X.env x = pure x) : PS X (.Assign [.Name x pos'] (.ListComp elt [⟨tg, iter, ifs, 0⟩] scope lpos) pos) (lG (qV k (tI X.K X.mg E fi) (tG X.K X.mg ks gp) (tT X.K X.mg E0 fc) (tE X.K X.mg E0 fe)) (kC i)) :=
 Q4 (g := tG X.K X.mg ks gp) (tc := tT X.K X.mg E0 fc) (te := tE X.K X.mg E0 fe) C hN hi' hy lc hi (fun s0 H0 Ca ex nd => hb s0 H0 Ca ex nd) hsw hs
theorem TL (i : Nat) (C : X.calm = true) (hN : X.N.Nodup) (lc : LC X k scope NY) (hk : ks.all (fun i => decide (i < k)) = true) (hi : DI X E tg iter fi)
  (hb : ∀ (s₀ : Shared) (H₀ : Hp) (C : Addr) (ex : List Addr), NY.Nodup -> DG (b7 X scope NY s₀ H₀ C ex) tg ks gp /\ rL (b7 X scope NY s₀ H₀ C ex) E0 ifs fc /\ DE (b7 X scope NY s₀ H₀ C ex) E0 elt fe)
  (ho : own.contains i = false := by rfl) (hi' : X.N[i]? = some x := by rfl) (hy : X.env.kindOf x = some .local := by rfl)
  (hsw : swapsWith (.ListComp elt [⟨tg, iter, ifs, 0⟩] scope lpos) (some (.Name x pos')) pos.line X.env = pure true := by rfl)
  (hs : ∀ x, foldedSetIterable iter X.env x = pure x := by intro _; rfl) : DS X E own own ol (.Assign [.Name x pos'] (.ListComp elt [⟨tg, iter, ifs, 0⟩] scope lpos) pos) (cM own i (aY (dY k ks fi gp fc fe))) := fun G0 =>
 PS.mono' (TK i C hN hi' hy lc hi hb hsw hs) fun Dn U H q => vK (TJ fun _ _ _ h => BF (te := tE X.K X.mg E0 fe) (tc := tT X.K X.mg E0 fc) hk h) ho q
def fI (own : List Nat) (ks : List Nat) (gp : D -> R (List D)) (fe : DSt -> R D) : DSt -> R aG := fun U => (fe (mask own U)).bind fun d => (gp d).noerr.bind fun us => .ok (.nx (setAll U ks us))
theorem TM (he : DE X E e fe) (hg : DG X tg ks gp) (ho : ks.all (fun i => !own.contains i) = true := by rfl) (hs : swapsWithSole [tg] e pos.line X.env = pure false := by rfl) (hw : swappedStores [tg] e X.env = pure none := by rfl)
  (h1 : (assignEach [tg] X.env).map (·.2) = [assign tg X.env] := by rfl) : DS X E own own ol (.Assign [tg] e pos) (fI own ks gp fe) := fun G0 => PS.mono' (N0 he hg hs hw h1) fun Dn U H ⟨G, Ud, ok, s0, q⟩ => by
 refine ⟨G, mask own Ud, ok.masked, q.of_bind.mono (fun d _ z v G' H' s r => ?_) fun _ z => z.step s0⟩
 obtain ⟨us, e1, z⟩ := m5 z.of_bind
 refine ⟨G', d, s.e, r, RW.ok_of e1 fun ws rw' => ?_⟩
 refine (show dE X.K X.mg G0 X.H₀ own ol Dn G (.nx (setAll Ud ks us)) from z) _ G' H' ((ok.step s).setAll (fun k hk => ?_) rw') (s0.trans s) s.g
 simpa using xa8.mp ho k hk
def TN (own : List Nat) (i j : Nat) (fs : DSt -> R (List D)) : DSt -> R aG := fun U => (fs (mask own U)).bind fun ds => match ds with
 | [a, b] => .ok (.nx ((U.set i (some a)).set j (some b)))
 | _ => .bad
def dS (U : DSt) (i : Nat) : R (List D) := match U[i]? with
 | some (some (.lst ds)) => .ok ds
 | _ => .bad
def dU (own : List Nat) (i : Nat) (fe : DSt -> R D) : DSt -> R aG := fun U => (dS U i).bind fun ds => (fe (mask own U)).bind fun d => bif most ds.length then .ok (.nx (U.set i (some (.lst (ds ++ [d]))))) else .bad
def TQ (i : Nat) (fe : DSt -> R D) : DSt -> R aG := fun U => (dS U i).bind fun ds => (fe U).bind fun d => bif most ds.length && imm d then .ok (.nx (U.set i (some (.lst (ds ++ [d]))))) else .bad
theorem BJ {U : DSt} {i : Nat} {ds : List D} (h : dS U i = .ok ds) : U[i]? = some (some (.lst ds)) := by
 unfold dS at h
 split at h
 ·cases h; assumption
 ·cases h
theorem BK {U : DSt} {i : Nat} {e : D} : dS U i ≠ .err e := by
 unfold dS
 split <;> simp
theorem TR (i : Nat) {apos cpos : Pos} {np : Pos} (he : DE X E e fe) (ho : own.contains i = true := by rfl) (hN : X.N[i]? = some x := by rfl) (hv : gA X.env.scope x := by first | exact Or.inl rfl | exact Or.inr (Or.inl rfl) | exact Or.inr (Or.inr rfl)) (hd : (x == ("__debug__" : Str)) = false := by decide)
  (hcd : (x == ("__classdict__" : Str)) = false := by decide)
  (hbase : attributeBase (.Name x np) "append" X.env (eval (.Name x np) X.env) = eval (.Name x np) X.env := by rfl)
  (hfew : ((backTo cpos (starEach [e] X.env)).all (fun x => !x.1) && (backToKw cpos (keywordEach [] X.env)).all (fun x => x.1.isSome) && decide ([e].length + ([] : List Keyword).length + (if ([] : List Keyword).isEmpty then 0 else 1) < 30)) = true := by rfl)
  (hline : (apos.endLine == cpos.line) = true := by rfl) (hs : starEach [e] X.env = (false, eval e X.env) :: starEach [] X.env := by rfl) (hplain : (backTo cpos (starEach [] X.env)).any (·.1) = false := by rfl)
  (hsw : swapsWith (.Call (.Attribute (.Name x np) "append" apos) [e] [] cpos) none pos.line X.env = pure false := by rfl) :
  DS X E own own ol (.Expr (.Call (.Attribute (.Name x np) "append" apos) [e] [] cpos) pos) (dU own i fe) := fun G0 =>
 PS.mono' (qL (mU PySem.F.plainAttrs_list PySem.F.slot_list_append PySem.F.type_list_append AN (pv i hN hv hd hcd) (cI he dA hs) hbase hfew hline hs hplain) hsw) fun Dn U H ⟨G, Ud, ok, s0, q⟩ => by
 have q1 := q.of_bind
 cases hL : dS Ud i with
 | bad => rw [hL] at q1; exact q1.elim
 | err e => exact xaq hL BK
 | ok ds =>
  rw [hL] at q1
  have q2 : RW ((fe (mask own Ud)).bind fun d => bif most ds.length then R.ok (.nx (Ud.set i (some (.lst (ds ++ [d]))))) else .bad) (dE X.K X.mg G0 X.H₀ own ol Dn G) (bG X.K X.mg E G0 X.H₀) := q1
  have hd := BJ hL
  have hi : i ∈ own := by simpa using ho
  obtain ⟨a, ds', vs, p1, p2, p3, p4, p5, p6⟩ := ok.mine i _ hi hd
  cases p2
  refine ⟨_, p1, .inl ⟨rfl, _, bH.of p3⟩, ?_⟩
  refine ⟨G, mask own Ud, ok.masked, (show RW ((aB fe aD) (mask own Ud)) _ _ from ?_)⟩
  unfold aB
  have q3 := q2.of_bind
  cases hf : fe (mask own Ud) with
  | bad => rw [hf] at q3; exact q3.elim
  | err e => rw [hf] at q3; exact (show bG X.K X.mg E G0 X.H₀ e from q3).step s0
  | ok d =>
   rw [hf] at q3
   rintro ws G' H' s ⟨v, _, e1, r1, r2⟩
   subst e1
   cases r2
   cases hm : most ds.length with
   | false => rw [hm] at q3; exact (show False from q3).elim
   | true =>
    rw [hm] at q3
    have hlt : ds.length < sizeLine := xat hm
    have ok' := ok.step s
    refine ⟨a, vs, v, rfl, rfl, s.h _ _ p3, by rw [<- p6.length]; exact hlt, ?_⟩
    exact (show dE X.K X.mg G0 X.H₀ own ol Dn G (.nx (Ud.set i (some (.lst (ds ++ [d]))))) from q3) U G' _ (ok'.write hi hd p1 ((p6.mono s.g).append (Reps.cons r1 Reps.nil))) ((s0.trans s).write (o := .lst vs) p5 (s.c _ _ p3 p4)) s.g
end
def cQ (ks : List Nat) (gp : D -> R (List D)) (fb : DSt -> R aG) : List D -> DSt -> R aG
 | [], U => .ok (.nx U)
 | d :: ds, U => (gp d).noerr.bind fun us => (fb (setAll U ks us)).bind fun o => match o with
  | .nx U' => cQ ks gp fb ds U'
  | .ct U' => cQ ks gp fb ds U'
  | .bk U' => .ok (.nx U')
  | .rt d => .ok (.rt d)
  | .rf d => .ok (.rf d)
def gH (own ks : List Nat) (gp : D -> R (List D)) (fi : DSt -> R (List D)) (fb : DSt -> R aG) : DSt -> R aG := fun U => (fi (mask own U)).bind fun ds => cQ ks gp fb ds U
structure XL (X : Cx) : Prop where
 own : PassesOwn (model X.prog X.w) X.A X.env X.xe
section
variable {X : Cx} {E : XK} {own ol ks : List Nat} {tg iter : Expr} {body : List Stmt} {gp : D -> R (List D)} {fi : DSt -> R (List D)} {fb : DSt -> R aG} {pos : Pos}
theorem iS (L : XL X) (hc : X.calm = true) (hi : DI X E tg iter fi) (hg : DG X tg ks gp) (hb : fH X E own own own body fb) (ho : ks.all (fun i => !own.contains i) = true := by rfl) (hs : ∀ x, foldedSetIterable iter X.env x = pure x := by intro _; rfl) :
  DS X E own own ol (.For tg iter body [] pos) (gH own ks gp fi fb) := fun G0 => PS.mono' (OD L.own hc hi hg (hb G0) hs) fun Dn U H ⟨G, Ud, ok, s0, q⟩ => by
 refine ⟨G, mask own Ud, ok.masked, q.of_bind.mono (fun ds _ z J G1 H1 s1 it => ?_) fun _ z => z.step s0⟩
 have hko : ∀ k ∈ ks, k ∉ own := fun k hk => by simpa using xa8.mp ho k hk
 refine ⟨fun i m U' H' => m = ds.length - i /\ i <= ds.length /\ ∃ G' Ud', Ok X.K X.mg X.H₀ own Ud' U' G' H' /\ aK G1 G' /\ Step G0 X.H₀ G' H' /\ RW (cQ ks gp fb (ds.drop i) Ud') (dE X.K X.mg G0 X.H₀ own ol Dn G1) (bG X.K X.mg E G0 X.H₀),
  ⟨ds.length, by simp, xbv _, G1, Ud, ok.step s1, aK.refl _, s0.trans s1, z.mono (fun _ _ z => z.shift s1.g) fun _ z => z⟩, ?_⟩
 rintro i m U' H' ⟨rfl, hi, G', Ud', ok', e', s', w⟩
 by_cases hlt : i < ds.length
 ·right
  obtain ⟨d, hd⟩ : ∃ d, ds[i]? = some d := ⟨ds[i], by simp [hlt]⟩
  obtain ⟨g1, g2⟩ := it.turn H' i d (e'.trans ok'.ext) hd
  have hdrop : ds.drop i = d :: ds.drop (i + 1) := by
   rw [List.drop_eq_getElem_cons hlt]
   congr 1
   exact xbk ((xas hlt).symm.trans hd)
  rw [hdrop] at w
  refine ⟨g1, fun σ2 H2 => i + 1 <= ds.length /\ ∃ G' Ud', Ok X.K X.mg X.H₀ own Ud' σ2 G' H2 /\ aK G1 G' /\ Step G0 X.H₀ G' H2 /\ RW (cQ ks gp fb (ds.drop (i + 1)) Ud') (dE X.K X.mg G0 X.H₀ own ol Dn G1) (bG X.K X.mg E G0 X.H₀),
   fun σ2 H2 ⟨h1, h2⟩ => ⟨ds.length - (i + 1), by omega, rfl, h1, h2⟩, fun x H2 hy => ?_⟩
  obtain ⟨G2, s2, r2⟩ := g2 x H2 hy G' e' ok'.ext
  unfold cQ at w
  obtain ⟨us, e1, w⟩ := m5 w.of_bind
  refine ⟨G2, d, s2.e, r2, RW.ok_of e1 fun ws rws => ?_⟩
  have ok2 := (ok'.step s2).setAll hko rws
  refine ⟨G2, _, ok2, s'.trans s2, w.of_bind.mono (fun o _ z => ?_) fun _ z => z⟩
  cases o with
  | nx σ3 => exact fun σ4 G4 H4 ok4 s4 e4 => ⟨hlt, G4, σ3, ok4, (e'.trans s2.g).trans e4, s4, z⟩
  | ct σ3 => exact fun σ4 G4 H4 ok4 s4 e4 => ⟨hlt, G4, σ3, ok4, (e'.trans s2.g).trans e4, s4, z⟩
  | bk σ3 => exact fun σ4 G4 H4 ok4 s4 e4 => (show dE X.K X.mg G0 X.H₀ own ol Dn G1 (.nx σ3) from z) σ4 G4 H4 ok4 s4 ((e'.trans s2.g).trans e4)
  | rt d => exact z
  | rf d => exact z
 ·left
  have hi2 : i = ds.length := by omega
  subst hi2
  rw [List.drop_length] at w
  refine ⟨it.stop H' (e'.trans ok'.ext), ?_⟩
  unfold cQ at w
  exact (show dE X.K X.mg G0 X.H₀ own ol Dn G1 (.nx Ud') from w) U' G' H' ok' s' e'
end
def eA (n : Nat) (ds : List D) : DSt := ds.map some ++ List.replicate (n - ds.length) none
def fin : R aG -> R D
 | .ok (.rt d) => .ok d
 | .ok (.rf ds) => .ok (.lst ds)
 | .ok (.nx _) => .ok .non
 | .ok _ => .bad
 | .err e => .err e
 | .bad => .bad
def bN (n nN : Nat) (body : DSt -> R aG) : List D -> R D := fun ds => bif ds.length == n then fin (body (eA nN ds)) else .bad
theorem Reps.startOk {K : xFg} {mg : Str -> Option Value} {G H : Hp} (e : aK G H) : ∀ {ds : List D} {vs : List V} (k : Nat), Reps K mg G ds vs -> bU K mg (ds.map some ++ List.replicate k none) (vs.map some ++ List.replicate k none) G H
 | [], _, k, h => by
  cases h
  have := bU.nones (K := K) (mg := mg) (G := G) (H := H) (Ud := []) (U := []) ⟨e, rfl, fun i d q => by simp at q⟩ k
  simpa using this
 | d :: ds, _, k, ⟨v, r, h1, h2, h3⟩ => by
  subst h1
  exact (Reps.startOk e k h3).cons (x := some d) (y := some v) fun d' q => by cases q; exact ⟨v, rfl, h2⟩
section
variable {P : Program} {w : World} {K : xFg} {mg : Str -> Option Value} {base : Heap}
theorem aS.mk' {x qual : Str} {st : Stmt} {f : Addr} {fd : FuncData} {N ps : List Str} {k n nN : Nat} {own' : List Nat} {body : DSt -> R aG} (F : eP K x qual st f fd) (S : fD N ps (bX st)) (hm : mg x = some (.ref f)) (b : eE K fd ps [])
  (hn : ps.length = n) (hN : N.length = nN)
  (hb : ∀ (X : Cx) (E : XK), (∃ cdv A outer s H, X = cW (bQ P w) P w K mg base N qual (bX st) f cdv A outer s H E) -> XC X E k -> XL X -> fH X E [] own' [] (eI st) body) : aS P w K mg base (k + 1) x (bN n nN body) := by
 refine ⟨f, fd, ps, F.okX S (fun vs H Q E h => ?_) (fun cdv A outer s H vs Q E hr hsp => ?_), hm, F.kp, b⟩
 ·obtain ⟨G, ds, e, r, q⟩ := h
  by_cases hd : ds.length = n
  ·rw [<- r.length, hd, hn]
  ·have : (ds.length == n) = false := by simpa using hd
   unfold bN at q
   rw [this] at q
   exact (show False from q).elim
 ·obtain ⟨G, ds, e, r, q⟩ := hsp
  have hd : ds.length = n := by
   by_cases hd : ds.length = n
   ·exact hd
   ·have : (ds.length == n) = false := by simpa using hd
    unfold bN at q
    rw [this] at q
    exact (show False from q).elim
  unfold bN at q
  rw [show (ds.length == n) = true by simpa using hd] at q
  have q' : RW (fin (body (eA nN ds))) (aN K mg Q G H) (bG K mg E G H) := q
  refine ⟨_, hb _ E ⟨cdv, A, outer, s, H, rfl⟩ ⟨rfl, hr, qW⟩ ⟨PassesOwn.leaving⟩ G, G, eA nN ds, ?_, .refl e, ?_⟩
  ·have := Reps.startOk e (N.length - vs.length) r
   unfold L2.start eA
   rw [<- hN, r.length]
   exact .zero this
  ·cases hbd : body (eA nN ds) with
   | bad => rw [hbd] at q'; exact q'
   | err e => rw [hbd] at q'; exact q'
   | ok o =>
    rw [hbd] at q'
    cases o with
    | rt d => exact fun v G' H' s r => (show aN K mg Q G H d from q') v G' H' s r
    | rf es =>
     intro a vs G' H' s n e g r
     have q2 : aN K mg Q G H (.lst es) := q'
     have sg : aK G' (aO G' a (.lst vs)) := same_upd g
     refine q2 (.ref a) (aO G' a (.lst vs)) H' ⟨s.g.trans sg, s.h, fun b u p => ?_, fun b u p1 p2 => ?_⟩ ⟨a, vs, rfl, bH.of bP, r.mono sg⟩
     ·by_cases hb : b = a
      ·subst hb; rw [bP] at p; cases p; exact e
      ·rw [bC hb] at p; exact s.e b u p
     ·have hb : b ≠ a := cR p1 n
      rw [bC hb]; exact s.c b u p1 p2
    | nx U => exact fun U' G' H' ok s _ => (show aN K mg Q G H .non from q') .non G' H' s rfl
    | bk U => exact (show False from q').elim
    | ct U => exact (show False from q').elim
end
theorem XC.lc {X : Cx} {E : XK} {k : Nat} (C : XC X E k) (scope : Scope) (NY : List Str) (s0 : Shared) (H0 : Hp) (Ca : Addr) (ex : List Addr) : XC (b7 X scope NY s0 H0 Ca ex) E0 k := ⟨C.calm, C.room, AZ⟩
end DL
namespace DL
open L2
mutual
def a7 : D -> D -> Bool
 | .non, .non => true
 | .bl a, .bl b => a == b
 | .int a, .int b => a == b
 | .str a, .str b => a == b
 | .bl a, .int b => (if a then (1 : Int) else 0) == b
 | .int a, .bl b => a == (if b then (1 : Int) else 0)
 | .tup xs, .tup ys => eqDs xs ys
 | .lst xs, .lst ys => eqDs xs ys
 | _, _ => false
def eqDs : List D -> List D -> Bool
 | [], [] => true
 | x :: xs, y :: ys => a7 x y && eqDs xs ys
 | _, _ => false
end
def aT : Nat -> D -> Bool
 | _, .non => true
 | _, .bl _ => true
 | _, .int _ => true
 | _, .str _ => true
 | n + 1, .tup xs => xs.all (aT n)
 | n + 1, .lst xs => xs.all (aT n)
 | _, _ => false
theorem rP : ∀ (xs ys : List D), ((List.range (min xs.length ys.length)).all (fun j => a7 (xs.getD j .non) (ys.getD j .non)) && xs.length == ys.length) = eqDs xs ys
 | [], [] => by unfold eqDs; rfl
 | [], _ :: _ => by unfold eqDs; simp
 | _ :: _, [] => by unfold eqDs; simp
 | x :: xs, y :: ys => by
  unfold eqDs
  rw [<- rP xs ys]
  simp only [xaf, Nat.succ_min_succ, List.range_succ_eq_map, List.all_cons, List.getD_cons_zero, List.all_map, Bool.and_assoc]
  congr 2
  rw [xcg]; simp
theorem vL : ∀ (n : Nat) (d : D), aT n d = true -> a7 d d = true := by
 intro n
 induction n with
 | zero => intro d h; cases d <;> first | (simp [aT] at h; done) | (unfold a7; simp; done)
 | succ n ih =>
  have hl : ∀ xs : List D, xs.all (aT n) = true -> eqDs xs xs = true := fun xs => by
   induction xs with
   | nil => intro _; unfold eqDs; rfl
   | cons x xs ihx =>
    intro h
    rw [List.all_cons, xaw] at h
    unfold eqDs
    rw [ih x h.1, ihx h.2]; rfl
  intro d h
  cases d with
  | tup xs => unfold a7; exact hl xs (by unfold aT at h; exact h)
  | lst xs => unfold a7; exact hl xs (by unfold aT at h; exact h)
  | _ => first | (simp [aT] at h; done) | (unfold a7; simp; done)
def dL : D -> Option V
 | .non => some .non
 | .bl b => some (.bl b)
 | .int i => some (.int i)
 | .str x => some (.str x)
 | _ => none
theorem fJ {K : xFg} {mg : Str -> Option Value} {G : Hp} {d : D} {v x : V} (h : dL d = some v) (r : Rep K mg G d x) : x = v /\ lL v = true := by
 cases d <;> first | (simp [dL] at h; done) | (simp only [dL, Option.some.injEq] at h; subst h; simp only [Rep] at r; exact ⟨r, rfl⟩)
theorem TU {d d' : D} {v v' : V} (h : dL d = some v) (h' : dL d' = some v') : a7 d d' = oR v v' := by
 cases d <;> first | (simp [dL] at h; done) | (simp only [dL, Option.some.injEq] at h; subst h; cases d' <;> first | (simp [dL] at h'; done) | (simp only [dL, Option.some.injEq] at h'; subst h'; unfold a7 oR; first | rfl | simp))
theorem BL {d d' : D} {v : V} (h : dL d = some v) (h' : dL d' = some v) : d = d' := by
 cases d <;> first | (simp [dL] at h; done) | (simp only [dL, Option.some.injEq] at h; subst h; cases d' <;> first | (simp [dL] at h'; done) | (simp only [dL, Option.some.injEq] at h'; cases h'; rfl))
theorem gJ {n : Nat} {d : D} (h : aT n d = true) : (∃ v, dL d = some v) \/ (∃ m xs, n = m + 1 /\ d = .tup xs /\ xs.all (aT m) = true) \/ (∃ m xs, n = m + 1 /\ d = .lst xs /\ xs.all (aT m) = true) := by
 cases d with
 | tup xs => cases n with
  | zero => simp [aT] at h
  | succ m => exact .inr (.inl ⟨m, xs, rfl, rfl, by unfold aT at h; exact h⟩)
 | lst xs => cases n with
  | zero => simp [aT] at h
  | succ m => exact .inr (.inr ⟨m, xs, rfl, rfl, by unfold aT at h; exact h⟩)
 | non => exact .inl ⟨_, rfl⟩
 | bl b => exact .inl ⟨_, rfl⟩
 | int i => exact .inl ⟨_, rfl⟩
 | str x => exact .inl ⟨_, rfl⟩
 | _ => simp [aT] at h
section
variable {X : Cx} {pins : List (Addr × Obj)} {U : St} {G H : Hp} {s : Shared}
theorem BM (I : aH X pins U H s) {a : Addr} {xs ys : List V} (h1 : bJ X.K H a xs) (h2 : bH X.K H a ys) : False := by
 obtain ⟨_, _, ⟨o, e, c, _⟩, _⟩ := I.tuple h1
 obtain ⟨_, _, ⟨o', _, e', c', _⟩, _⟩ := I.list h2
 rw [e] at e'; cases e'
 rw [c] at c'
 exact xaq c' (by simp)
theorem rQ {v : V} {a : Addr} (h : lL v = true) : v ≠ .ref a := by rintro rfl; cases h
theorem vM (I : aH X pins U H s) (e : aK G H) : ∀ (n : Nat) {d d' : D} {v : V}, aT n d = true -> aT n d' = true -> Rep X.K X.mg G d v -> Rep X.K X.mg G d' v -> d = d' := by
 intro n
 induction n with
 | zero =>
  intro d d' v h h' r r'
  rcases gJ h with ⟨w, hw⟩ | ⟨_, _, z, _⟩ | ⟨_, _, z, _⟩ <;> try omega
  rcases gJ h' with ⟨w', hw'⟩ | ⟨_, _, z, _⟩ | ⟨_, _, z, _⟩ <;> try omega
  have e1 := (fJ hw r).1
  have e2 := (fJ hw' r').1
  rw [<- e1] at hw; rw [<- e2] at hw'
  exact BL hw hw'
 | succ n ih =>
  have hl : ∀ (xs ys : List D) (vs : List V), xs.all (aT n) = true -> ys.all (aT n) = true -> Reps X.K X.mg G xs vs -> Reps X.K X.mg G ys vs -> xs = ys := by
   intro xs
   induction xs with
   | nil =>
    intro ys vs _ _ r r'
    cases r
    cases ys with
    | nil => rfl
    | cons y ys => obtain ⟨_, _, z, _⟩ := r'; cases z
   | cons x xs ihx =>
    intro ys vs h h' r r'
    obtain ⟨v, t, rfl, r1, r2⟩ := r
    cases ys with
    | nil => cases r'
    | cons y ys =>
     obtain ⟨v', t', z, r1', r2'⟩ := r'
     cases z
     rw [List.all_cons, xaw] at h h'
     rw [ih h.1 h'.1 r1 r1', ihx ys _ h.2 h'.2 r2 r2']
  intro d d' v h h' r r'
  rcases gJ h with ⟨w, hw⟩ | ⟨m, xs, hm, rfl, hx⟩ | ⟨m, xs, hm, rfl, hx⟩
  ·rcases gJ h' with ⟨w', hw'⟩ | ⟨m', ys, hm', rfl, hy⟩ | ⟨m', ys, hm', rfl, hy⟩
   ·have e1 := (fJ hw r).1
    have e2 := (fJ hw' r').1
    rw [<- e1] at hw; rw [<- e2] at hw'
    exact BL hw hw'
   ·obtain ⟨e1, e2⟩ := fJ hw r
    obtain ⟨a, vs, z, _⟩ := r'
    exact xaq (e1.symm.trans z) (rQ e2)
   ·obtain ⟨e1, e2⟩ := fJ hw r
    obtain ⟨a, vs, z, _⟩ := r'
    exact xaq (e1.symm.trans z) (rQ e2)
  ·obtain rfl : n = m := by omega
   obtain ⟨a, vs, rfl, q1, q2⟩ := r
   rcases gJ h' with ⟨w', hw'⟩ | ⟨m', ys, hm', rfl, hy⟩ | ⟨m', ys, hm', rfl, hy⟩
   ·obtain ⟨e1, e2⟩ := fJ hw' r'
    exact xaq e1.symm (rQ e2)
   ·obtain rfl : n = m' := by omega
    obtain ⟨a', vs', z, q1', q2'⟩ := r'
    cases z
    have := I.tuple_inj (aK.sqT e q1) (aK.sqT e q1')
    subst this
    rw [hl xs ys _ hx hy q2 q2']
   ·obtain ⟨a', vs', z, q1', q2'⟩ := r'
    cases z
    exact (BM I (aK.sqT e q1) (e.seq q1')).elim
  ·obtain rfl : n = m := by omega
   obtain ⟨a, vs, rfl, q1, q2⟩ := r
   rcases gJ h' with ⟨w', hw'⟩ | ⟨m', ys, hm', rfl, hy⟩ | ⟨m', ys, hm', rfl, hy⟩
   ·obtain ⟨e1, e2⟩ := fJ hw' r'
    exact xaq e1.symm (rQ e2)
   ·obtain ⟨a', vs', z, q1', q2'⟩ := r'
    cases z
    exact (BM I (aK.sqT e q1') (e.seq q1)).elim
   ·obtain rfl : n = m' := by omega
    obtain ⟨a', vs', z, q1', q2'⟩ := r'
    cases z
    have := I.list_inj (e.seq q1) (e.seq q1')
    subst this
    rw [hl xs ys _ hx hy q2 q2']
theorem BN {α : Type} {us : List α} {j : Nat} (h : j < us.toArray.size) : us.toArray[j] = us[j]'(by simpa using h) := by simp
theorem BO {α : Type} {xs : List α} {d : α} {j : Nat} (h : j < xs.length) : xs.getD j d = xs[j] := by simp [List.getD, h]
open SeqAt in
theorem rR {A : Around} {n : Nat} (ih : ∀ {d d' : D} {x x' : V} {u u' : Value}, aT n d = true -> aT n d' = true -> Rep X.K X.mg G d x -> aR x u -> Rep X.K X.mg G d' x' -> aR x' u' -> EqAt A s u u' (a7 d d'))
  {xs ys : List D} {vs ws : List V} {us us' : List Value} (h : xs.all (aT n) = true) (h' : ys.all (aT n) = true) (r : Reps X.K X.mg G xs vs) (q : a6 vs us) (r' : Reps X.K X.mg G ys ws) (q' : a6 ws us') :
  ∀ j (h1 : j < us.toArray.size) (h2 : j < us'.toArray.size), EqAt A s us.toArray[j] us'.toArray[j] (a7 (xs.getD j .non) (ys.getD j .non)) := by
 intro j h1 h2
 have l1 : j < vs.length := by rw [q.length]; simpa using h1
 have l2 : j < ws.length := by rw [q'.length]; simpa using h2
 have l3 : j < xs.length := by rw [r.length]; exact l1
 have l4 : j < ys.length := by rw [r'.length]; exact l2
 obtain ⟨v, e1, e2⟩ := r.get (i := j) (d := xs[j]) (by simp [l3])
 obtain ⟨w, e3, e4⟩ := r'.get (i := j) (d := ys[j]) (by simp [l4])
 obtain ⟨u, e5, e6⟩ := q.get e1
 obtain ⟨u', e7, e8⟩ := q'.get e3
 have z1 : us.toArray[j] = u := by rw [BN h1]; exact (xam.mp e5).2
 have z2 : us'.toArray[j] = u' := by rw [BN h2]; exact (xam.mp e7).2
 rw [z1, z2, BO l3, BO l4]
 exact ih (xa8.mp h _ (xby l3)) (xa8.mp h' _ (xby l4)) e2 e6 e4 e8
theorem BP (A : Around) : A.in1.units = A.units + 1 := rfl
open SeqAt in
theorem TV {A : Around} {x x' : V} {u u' : Value} (q : aR x u) (q' : aR x' u') (f : lL x = true) (f' : lL x' = true) : RcAt A s u u' (oR x x') /\ RcNeAt A s u u' (!oR x x') := by
 cases x with
 | non =>
  cases (show u = Value.none from q)
  cases x' with
  | non => cases (show u' = Value.none from q'); exact ⟨RcAt.none_none, RcNeAt.none_none⟩
  | bl b => cases (show u' = Value.bool b from q'); exact ⟨RcAt.none_bool b, RcNeAt.none_bool b⟩
  | int b => obtain ⟨tb, rfl⟩ := (show ∃ t, u' = Value.int b t from q'); exact ⟨RcAt.none_int b tb, RcNeAt.none_int b tb⟩
  | str b => obtain ⟨tb, rfl⟩ := (show ∃ t, u' = Value.str b t from q'); exact ⟨RcAt.none_str b tb, RcNeAt.none_str b tb⟩
  | _ => cases f'
 | bl a =>
  cases (show u = Value.bool a from q)
  cases x' with
  | non => cases (show u' = Value.none from q'); exact ⟨RcAt.bool_none a, RcNeAt.bool_none a⟩
  | bl b => cases (show u' = Value.bool b from q'); exact ⟨RcAt.bool_bool a b, RcNeAt.bool_bool a b⟩
  | int b => obtain ⟨tb, rfl⟩ := (show ∃ t, u' = Value.int b t from q'); exact ⟨RcAt.bool_int a b tb, RcNeAt.bool_int a b tb⟩
  | str b => obtain ⟨tb, rfl⟩ := (show ∃ t, u' = Value.str b t from q'); exact ⟨RcAt.bool_str a b tb, RcNeAt.bool_str a b tb⟩
  | _ => cases f'
 | int a =>
  obtain ⟨ta, rfl⟩ := (show ∃ t, u = Value.int a t from q)
  cases x' with
  | non => cases (show u' = Value.none from q'); exact ⟨RcAt.int_none a ta, RcNeAt.int_none a ta⟩
  | bl b => cases (show u' = Value.bool b from q'); exact ⟨RcAt.int_bool a ta b, RcNeAt.int_bool a ta b⟩
  | int b => obtain ⟨tb, rfl⟩ := (show ∃ t, u' = Value.int b t from q'); exact ⟨RcAt.int_int a ta b tb, RcNeAt.int_int a ta b tb⟩
  | str b => obtain ⟨tb, rfl⟩ := (show ∃ t, u' = Value.str b t from q'); exact ⟨RcAt.int_str a ta b tb, RcNeAt.int_str a ta b tb⟩
  | _ => cases f'
 | str a =>
  obtain ⟨ta, rfl⟩ := (show ∃ t, u = Value.str a t from q)
  cases x' with
  | non => cases (show u' = Value.none from q'); exact ⟨RcAt.str_none a ta, RcNeAt.str_none a ta⟩
  | bl b => cases (show u' = Value.bool b from q'); exact ⟨RcAt.str_bool a ta b, RcNeAt.str_bool a ta b⟩
  | int b => obtain ⟨tb, rfl⟩ := (show ∃ t, u' = Value.int b t from q'); exact ⟨RcAt.str_int a ta b tb, RcNeAt.str_int a ta b tb⟩
  | str b => obtain ⟨tb, rfl⟩ := (show ∃ t, u' = Value.str b t from q'); exact ⟨RcAt.str_str a ta b tb, RcNeAt.str_str a ta b tb⟩
  | _ => cases f'
 | _ => cases f
open SeqAt in
theorem rS {A : Around} {x : V} {u : Value} {b : Addr} {items : Array Value} (fx : lL x = true) (q : aR x u) (hA : A.units < cLine) (h : s.heap.IsTuple b items \/ s.heap.IsList b items) : EqAt A s u (.ref b) false /\ EqAt A s (.ref b) u false /\ RcAt A s u (.ref b) false /\ RcAt A s (.ref b) u false /\ RcNeAt A s u (.ref b) true /\ RcNeAt A s (.ref b) u true := by
 cases x with
 | non =>
  obtain rfl : u = Value.none := q
  rcases h with h | h
  ·exact ⟨EqAt.none_tuple h hA, EqAt.tuple_none h hA, RcAt.none_tuple h hA, RcAt.tuple_none h hA, RcNeAt.none_tuple h hA, RcNeAt.tuple_none h hA⟩
  ·exact ⟨EqAt.none_list h hA, EqAt.list_none h hA, RcAt.none_list h hA, RcAt.list_none h hA, RcNeAt.none_list h hA, RcNeAt.list_none h hA⟩
 | bl a =>
  obtain rfl : u = Value.bool a := q
  rcases h with h | h
  ·exact ⟨EqAt.bool_tuple _ h hA, EqAt.tuple_bool _ h hA, RcAt.bool_tuple _ h hA, RcAt.tuple_bool _ h hA, RcNeAt.bool_tuple _ h hA, RcNeAt.tuple_bool _ h hA⟩
  ·exact ⟨EqAt.bool_list _ h hA, EqAt.list_bool _ h hA, RcAt.bool_list _ h hA, RcAt.list_bool _ h hA, RcNeAt.bool_list _ h hA, RcNeAt.list_bool _ h hA⟩
 | int a =>
  obtain ⟨t, rfl⟩ : ∃ t, u = Value.int a t := q
  rcases h with h | h
  ·exact ⟨EqAt.int_tuple _ _ h hA, EqAt.tuple_int _ _ h hA, RcAt.int_tuple _ _ h hA, RcAt.tuple_int _ _ h hA, RcNeAt.int_tuple _ _ h hA, RcNeAt.tuple_int _ _ h hA⟩
  ·exact ⟨EqAt.int_list _ _ h hA, EqAt.list_int _ _ h hA, RcAt.int_list _ _ h hA, RcAt.list_int _ _ h hA, RcNeAt.int_list _ _ h hA, RcNeAt.list_int _ _ h hA⟩
 | str a =>
  obtain ⟨t, rfl⟩ : ∃ t, u = Value.str a t := q
  rcases h with h | h
  ·exact ⟨EqAt.str_tuple _ _ h hA, EqAt.tuple_str _ _ h hA, RcAt.str_tuple _ _ h hA, RcAt.tuple_str _ _ h hA, RcNeAt.str_tuple _ _ h hA, RcNeAt.tuple_str _ _ h hA⟩
  ·exact ⟨EqAt.str_list _ _ h hA, EqAt.list_str _ _ h hA, RcAt.str_list _ _ h hA, RcAt.list_str _ _ h hA, RcNeAt.str_list _ _ h hA, RcNeAt.list_str _ _ h hA⟩
 | _ => cases fx
theorem pB {xs ys : List D} : a7 (.tup xs) (.tup ys) = eqDs xs ys /\ a7 (.lst xs) (.lst ys) = eqDs xs ys /\ a7 (.tup xs) (.lst ys) = false /\ a7 (.lst xs) (.tup ys) = false := by
 refine ⟨?_, ?_, ?_, ?_⟩ <;> (unfold a7; rfl)
theorem rV {d : D} {v : V} {ys : List D} (h : dL d = some v) : a7 d (.tup ys) = false /\ a7 d (.lst ys) = false /\ a7 (.tup ys) d = false /\ a7 (.lst ys) d = false := by
 cases d <;> first | (simp [dL] at h; done) | (refine ⟨?_, ?_, ?_, ?_⟩ <;> (unfold a7; rfl))
set_option maxHeartbeats 4000000 in
open SeqAt in
theorem rW (I : aH X pins U H s) (e : aK G H) : ∀ (n : Nat) {A : Around} {d d' : D} {x x' : V} {u u' : Value}, A.units + n < cLine -> aT n d = true -> aT n d' = true -> Rep X.K X.mg G d x -> aR x u -> Rep X.K X.mg G d' x' -> aR x' u' ->
  EqAt A s u u' (a7 d d') /\ RcAt A s u u' (a7 d d') /\ RcNeAt A s u u' (!a7 d d') := by
 have ff : ∀ {A : Around} {d d' : D} {v v' x x' : V} {u u' : Value}, dL d = some v -> dL d' = some v' -> Rep X.K X.mg G d x -> aR x u -> Rep X.K X.mg G d' x' -> aR x' u' -> EqAt A s u u' (a7 d d') /\ RcAt A s u u' (a7 d d') /\ RcNeAt A s u u' (!a7 d d') := by
  intro A d d' v v' x x' u u' hv hv' r q r' q'
  obtain ⟨rfl, f1⟩ := fJ hv r
  obtain ⟨rfl, f2⟩ := fJ hv' r'
  rw [TU hv hv']
  exact ⟨QJ q q' f1 f2, TV q q' f1 f2⟩
 have seq : ∀ {d : D} {m : Nat} {xs : List D} {x : V} {u : Value}, d = .tup xs \/ d = .lst xs -> Rep X.K X.mg G d x -> aR x u -> ∃ b items, u = .ref b /\ (s.heap.IsTuple b items \/ s.heap.IsList b items) := by
  intro d m xs x u hd r q
  rcases hd with rfl | rfl
  ·obtain ⟨a, vs, rfl, q1, q2⟩ := r
   obtain ⟨us, v1, t1, _⟩ := I.tuple (aK.sqT e q1)
   exact ⟨a, _, q, .inl t1⟩
  ·obtain ⟨a, vs, rfl, q1, q2⟩ := r
   obtain ⟨us, v1, t1, _⟩ := I.list (e.seq q1)
   exact ⟨a, _, q, .inr t1.isList⟩
 intro n
 induction n with
 | zero =>
  intro A d d' x x' u u' hu h h' r q r' q'
  rcases gJ h with ⟨w, hw⟩ | ⟨_, _, z, _⟩ | ⟨_, _, z, _⟩ <;> try omega
  rcases gJ h' with ⟨w', hw'⟩ | ⟨_, _, z, _⟩ | ⟨_, _, z, _⟩ <;> try omega
  exact ff hw hw' r q r' q'
 | succ n ih =>
  intro A d d' x x' u u' hu h h' r q r' q'
  have hA : A.units < cLine := by omega
  have ih' : ∀ {d d' : D} {x x' : V} {u u' : Value}, aT n d = true -> aT n d' = true -> Rep X.K X.mg G d x -> aR x u -> Rep X.K X.mg G d' x' -> aR x' u' -> EqAt A.in1 s u u' (a7 d d') :=
   fun a b c d e f => (ih (A := A.in1) (by rw [BP]; omega) a b c d e f).1
  rcases gJ h with ⟨w, hw⟩ | ⟨m, xs, hm, rfl, hx⟩ | ⟨m, xs, hm, rfl, hx⟩
  ·rcases gJ h' with ⟨w', hw'⟩ | ⟨m', ys, hm', rfl, hy⟩ | ⟨m', ys, hm', rfl, hy⟩
   ·exact ff hw hw' r q r' q'
   ·obtain ⟨rfl, f1⟩ := fJ hw r
    obtain ⟨b, items, rfl, hb⟩ := seq (m := m') (.inl rfl) r' q'
    obtain ⟨z1, _, z3, _, z5, _⟩ := rS f1 q hA hb
    rw [(rV hw).1]; exact ⟨z1, z3, z5⟩
   ·obtain ⟨rfl, f1⟩ := fJ hw r
    obtain ⟨b, items, rfl, hb⟩ := seq (m := m') (.inr rfl) r' q'
    obtain ⟨z1, _, z3, _, z5, _⟩ := rS f1 q hA hb
    rw [(rV hw).2.1]; exact ⟨z1, z3, z5⟩
  ·obtain rfl : n = m := by omega
   rcases gJ h' with ⟨w', hw'⟩ | ⟨m', ys, hm', rfl, hy⟩ | ⟨m', ys, hm', rfl, hy⟩
   ·obtain ⟨rfl, f1⟩ := fJ hw' r'
    obtain ⟨b, items, rfl, hb⟩ := seq (m := n) (.inl rfl) r q
    obtain ⟨_, z2, _, z4, _, z6⟩ := rS f1 q' hA hb
    rw [(rV hw').2.2.1]; exact ⟨z2, z4, z6⟩
   ·obtain rfl : n = m' := by omega
    have hr := r; have hr' := r'
    obtain ⟨a, vs, rfl, q1, q2⟩ := r
    obtain rfl : u = Value.ref a := q
    obtain ⟨us, v1, t1, _⟩ := I.tuple (aK.sqT e q1)
    obtain ⟨b, ws, rfl, q1', q2'⟩ := r'
    obtain rfl : u' = Value.ref b := q'
    obtain ⟨us', v1', t1', _⟩ := I.tuple (aK.sqT e q1')
    have t1 : s.heap.IsTuple a us.toArray := t1
    have t1' : s.heap.IsTuple b us'.toArray := t1'
    have z := RcAt.tuples t1 t1' hA (rR ih' hx hy q2 v1 q2' v1')
    have zn := RcNeAt.tuples t1 t1' hA (rR ih' hx hy q2 v1 q2' v1')
    have hz : ((List.range (min us.toArray.size us'.toArray.size)).all (fun j => a7 (xs.getD j .non) (ys.getD j .non)) && us.toArray.size == us'.toArray.size) = a7 (.tup xs) (.tup ys) := by
     rw [pB.1, <- rP]
     simp only [xal, <- v1.length, <- v1'.length, <- q2.length, <- q2'.length]
    rw [hz] at z zn
    refine ⟨?_, z, zn⟩
    by_cases hab : a = b
    ·subst hab
     have ed := vM I e (n + 1) h h' hr hr'
     rw [ed, vL _ _ h']; exact EqAt.same _
    ·exact EqAt.of_refs hab z
   ·obtain ⟨a, vs, rfl, q1, q2⟩ := r
    obtain rfl : u = Value.ref a := q
    obtain ⟨us, v1, t1, _⟩ := I.tuple (aK.sqT e q1)
    obtain ⟨b, ws, rfl, q1', q2'⟩ := r'
    obtain rfl : u' = Value.ref b := q'
    obtain ⟨us', v1', t1', _⟩ := I.list (e.seq q1')
    have t1 : s.heap.IsTuple a us.toArray := t1
    rw [pB.2.2.1]
    exact ⟨EqAt.tuple_list t1 t1'.isList hA, RcAt.tuple_list t1 t1'.isList hA, RcNeAt.tuple_list t1 t1'.isList hA⟩
  ·obtain rfl : n = m := by omega
   rcases gJ h' with ⟨w', hw'⟩ | ⟨m', ys, hm', rfl, hy⟩ | ⟨m', ys, hm', rfl, hy⟩
   ·obtain ⟨rfl, f1⟩ := fJ hw' r'
    obtain ⟨b, items, rfl, hb⟩ := seq (m := n) (.inr rfl) r q
    obtain ⟨_, z2, _, z4, _, z6⟩ := rS f1 q' hA hb
    rw [(rV hw').2.2.2]; exact ⟨z2, z4, z6⟩
   ·obtain ⟨a, vs, rfl, q1, q2⟩ := r
    obtain rfl : u = Value.ref a := q
    obtain ⟨us, v1, t1, _⟩ := I.list (e.seq q1)
    obtain ⟨b, ws, rfl, q1', q2'⟩ := r'
    obtain rfl : u' = Value.ref b := q'
    obtain ⟨us', v1', t1', _⟩ := I.tuple (aK.sqT e q1')
    have t1' : s.heap.IsTuple b us'.toArray := t1'
    rw [pB.2.2.2]
    exact ⟨EqAt.list_tuple t1.isList t1' hA, RcAt.list_tuple t1.isList t1' hA, RcNeAt.list_tuple t1.isList t1' hA⟩
   ·obtain rfl : n = m' := by omega
    have hr := r; have hr' := r'
    obtain ⟨a, vs, rfl, q1, q2⟩ := r
    obtain rfl : u = Value.ref a := q
    obtain ⟨us, v1, t1, _⟩ := I.list (e.seq q1)
    obtain ⟨b, ws, rfl, q1', q2'⟩ := r'
    obtain rfl : u' = Value.ref b := q'
    obtain ⟨us', v1', t1', _⟩ := I.list (e.seq q1')
    have both : RcAt A s (.ref a) (.ref b) (a7 (.lst xs) (.lst ys)) /\ RcNeAt A s (.ref a) (.ref b) (!a7 (.lst xs) (.lst ys)) := by
     by_cases hl : us.toArray.size = us'.toArray.size
     ·have z := RcAt.lists t1.isList t1'.isList hl hA (rR ih' hx hy q2 v1 q2' v1')
      have zn := RcNeAt.lists t1.isList t1'.isList hl hA (rR ih' hx hy q2 v1 q2' v1')
      have hz : (List.range us.toArray.size).all (fun j => a7 (xs.getD j .non) (ys.getD j .non)) = a7 (.lst xs) (.lst ys) := by
       have hl' : xs.length = ys.length := by rw [q2.length, q2'.length, v1.length, v1'.length]; simpa using hl
       rw [pB.2.1, <- rP, hl', Nat.min_self, xal, <- v1.length, <- q2.length, hl']
       simp
      rw [hz] at z zn
      exact ⟨z, zn⟩
     ·have z := RcAt.lists_lengths t1.isList t1'.isList (by simpa using hl) hA
      have zn := RcNeAt.lists_lengths t1.isList t1'.isList (by simpa using hl) hA
      have hz : a7 (.lst xs) (.lst ys) = false := by
       have hl' : ¬ xs.length = ys.length := by rw [q2.length, q2'.length, v1.length, v1'.length]; simpa using hl
       rw [pB.2.1, <- rP]
       simp [hl']
      rw [hz]
      exact ⟨z, zn⟩
    refine ⟨?_, both⟩
    by_cases hab : a = b
    ·subst hab
     have ed := vM I e (n + 1) h h' hr hr'
     rw [ed, vL _ _ h']; exact EqAt.same _
    ·exact EqAt.of_refs hab both.1
end
end DL
namespace DL
open L2 PyProof.Rows
def B (n : Nat) (i : Int) : Prop := i.natAbs < 2 ^ n
theorem B.of {n : Nat} {i : Int} {k : Nat} (h : i.natAbs <= k) (hk : k < 2 ^ n := by decide +kernel) : B n i := xbz h hk
theorem B.log {n : Nat} {i : Int} (h : B n i) (hn : 0 < n) : i.natAbs.log2 < n := Q5 hn h
def gK (i : Int) : Bool := decide (i.natAbs.log2 < 60000000)
theorem TW {n : Nat} {i : Int} (h : B n i) (hn : n <= 60000000 := by decide) : gK i = true := by
 refine xai ?_
 cases n with
 | zero =>
  have : i.natAbs = 0 := by unfold B at h; omega
  rw [this]; decide
 | succ k => exact xar (h.log (Nat.succ_pos _)) hn
theorem TX {i j : Int} (a : gK i = true) (b : gK j = true) : IntMulOk i j := by
 have h1 : i.natAbs.log2 < 60000000 := xat a
 have h2 : j.natAbs.log2 < 60000000 := xat b
 have bits : ∀ k : Int, k.natAbs.log2 < 60000000 -> Builtin.Int.intBits k <= 60000000 := fun k h => by
  unfold Builtin.Int.intBits
  split
  ·exact xbv _
  ·omega
 have b1 := bits i h1
 have b2 := bits j h2
 unfold IntMulOk
 intro z
 simp only [xaw, decide_eq_true_eq, Builtin.Int.intTooBig] at z
 have e := z.2
 have l : (bitsLine : Int) = 134217728 := by decide
 rw [l] at e
 omega
def m7 (i : Int) : Bool := decide (i ≠ 0 /\ i.natAbs.log2 < 9000)
theorem TY {n : Nat} {i : Int} (h : B n i) (h0 : i ≠ 0) (hn : n <= 9000 := by decide) : m7 i = true := by
 refine xai ⟨h0, ?_⟩
 cases n with
 | zero =>
  have : i.natAbs = 0 := by unfold B at h; omega
  omega
 | succ k => exact xar (h.log (Nat.succ_pos _)) hn
def vN (i j : Int) : Bool := decide (0 <= j /\ j <= 1000000 /\ i.natAbs < 2 ^ 64)
section
variable {X : Cx} {K : xFg} {mg : Str -> Option Value}
def gI (C : Int -> Int -> Bool) (h : Int -> Int -> Int) : D -> D -> R D
 | .int i, .int j => bif C i j then .ok (.int (h i j)) else .bad
 | _, _ => .bad
def gB (h : Int -> Int -> Bool) : D -> D -> R D
 | .int i, .int j => .ok (.bl (h i j))
 | _, _ => .bad
theorem pC {C : Int -> Int -> Bool} {h : Int -> Int -> Int} : eR (gI C h) := by
 intro a b e
 cases a <;> cases b <;> simp only [gI] <;> first | (intro z; cases z) | (intro z; revert z; cases C _ _ <;> simp [cond])
theorem rX {h : Int -> Int -> Bool} : eR (gB h) := by
 intro a b e
 cases a <;> cases b <;> simp only [gB] <;> (intro z; cases z)
theorem pE {C : Int -> Int -> Bool} {C' : Int -> Int -> Prop} {h : Int -> Int -> Int} (hc : ∀ i j, C i j = true -> C' i j) : eQ K mg (rI C' fun i j => .int (h i j)) (gI C h) := by
 intro G H a b x y Q e ra rb q
 cases a with
 | int i => cases b with
  | int j =>
   cases ra; cases rb
   cases hC : C i j with
   | false => simp only [gI, hC, cond_false] at q; exact q.elim
   | true =>
    simp only [gI, hC, cond_true] at q
    exact ⟨i, j, rfl, rfl, hc i j hC, aN.now q e rfl⟩
  | _ => exact (show False from q).elim
 | _ => exact (show False from q).elim
theorem rY {h : Int -> Int -> Bool} : eQ K mg (jH fun i j => .bl (h i j)) (gB h) := by
 intro G H a b x y Q e ra rb q
 cases a with
 | int i => cases b with
  | int j => cases ra; cases rb; exact ⟨i, j, rfl, rfl, aN.now q e rfl⟩
  | _ => exact (show False from q).elim
 | _ => exact (show False from q).elim
theorem TZ : bM X (binaryOp .Mult) (rI (fun i j => gK i = true /\ gK j = true) fun i j => .int (i * j)) := mT fun _ _ _ _ _ _ _ hc q => mul_int q (TX hc.1 hc.2)
theorem T0 : bM X (binaryOp .FloorDiv) (rI (fun _ j => m7 j = true) fun i j => .int (i.fdiv j)) := mT fun i j _ _ _ _ _ hc q => by
 have h := xat (p := j ≠ 0 /\ j.natAbs.log2 < 9000) hc
 exact floordiv_int h.1 q (.inl (PyProof.noPylong_of_log2 h.2))
def BQ (K : xFg) : R2 := fun x y H Q => ∃ l b xs zs, x = .ref l /\ y = .ref b /\ bH K H l xs /\ bH K H b zs /\ xs.length + zs.length <= sizeLine /\ ∀ p, H p = none -> Q (.ref p) (aO H p (.lst (xs ++ zs)))
theorem BR : bM X (binaryOp .Add) (BQ X.K) := by
 intro pins s U H x y v u Q I rx ry h
 obtain ⟨l, b, xs, zs, rfl, rfl, hH, hB, hz, q⟩ := h
 cases rx
 cases ry
 obtain ⟨its, r, pl, _⟩ := I.list hH
 obtain ⟨its2, r2, pl2, _⟩ := I.list hB
 obtain ⟨⟨cls, dd, data, sl⟩, ho, hc, n, hd⟩ := id pl.isList
 obtain ⟨⟨cls2, dd2, data2, sl2⟩, ho2, hc2, n2, hd2⟩ := id pl2.isList
 simp only at hc hd hc2 hd2
 subst hc hd hc2 hd2
 refine concat_meets ⟨_, ho, rfl⟩ ⟨_, ho2, rfl⟩ noFill_list_add seq_list_add PySem.F.slot_list_add PySem.F.entry_list_add (PySem.F.args_list_add_2 _ _) (list_addW l b its.toArray its2.toArray n n2 dd dd2 sl sl2 (by rw [xal, xal, <- r.length, <- r2.length]; exact hz)) ⟨ho, ho2, ?_⟩
 have ea : its.toArray ++ its2.toArray = (its ++ its2).toArray := by simp
 rw [ea]
 exact ⟨.ref _, _, I.lnew (t' := s.toks) (r.append r2) (by rw [xaa]; exact hz), rfl, q _ I.fresh⟩
def aW (n : Nat) : Bool := decide (n <= sizeLine)
def aI : D -> D -> R D
 | .int i, .int j => .ok (.int (i + j))
 | .str x, .str y => bif aW (x.length + y.length) then .ok (.str (x ++ y)) else .bad
 | .lst xs, .lst ys => bif aW (xs.length + ys.length) then .ok (.lst (xs ++ ys)) else .bad
 | .tup xs, .tup ys => bif aW (xs.length + ys.length) && !xs.isEmpty then .ok (.tup (xs ++ ys)) else .bad
 | _, _ => .bad
theorem T1 : eR aI := by
 intro a b e
 cases a <;> cases b <;> simp only [aI] <;> first | (intro z; cases z; done) | (generalize aW _ = k; cases k <;> simp [cond] <;> (try (generalize List.isEmpty _ = k2; cases k2 <;> simp)))
abbrev T2 (K : xFg) : R2 := fun x y H Q => jH (fun i j => .int (i + j)) x y H Q \/ ((∃ i j, x = .str i /\ y = .str j /\ i.length + j.length <= sizeLine /\ Q (.str (i ++ j)) H) \/ (BQ K x y H Q \/ AC K x y H Q))
theorem T4 : eQ K mg (T2 K) aI := by
 intro G H a b x y Q e ra rb q
 cases a with
 | int i => cases b with
  | int j => cases ra; cases rb; exact .inl ⟨i, j, rfl, rfl, aN.now q e rfl⟩
  | _ => exact (show False from q).elim
 | str i => cases b with
  | str j =>
   cases ra; cases rb
   cases hC : aW (i.length + j.length) with
   | false => simp only [aI, hC, cond_false] at q; exact q.elim
   | true =>
    simp only [aI, hC, cond_true] at q
    exact .inr (.inl ⟨i, j, rfl, rfl, xat hC, aN.now q e rfl⟩)
  | _ => exact (show False from q).elim
 | lst xs => cases b with
  | lst ys =>
   obtain ⟨p, vs, rfl, h1, h2⟩ := ra
   obtain ⟨p', ws, rfl, h1', h2'⟩ := rb
   cases hC : aW (xs.length + ys.length) with
   | false => simp only [aI, hC, cond_false] at q; exact q.elim
   | true =>
    simp only [aI, hC, cond_true] at q
    refine .inr (.inr (.inl ⟨p, p', vs, ws, rfl, rfl, e.seq h1, e.seq h1', by rw [<- h2.length, <- h2'.length]; exact xat hC, fun l hl => ?_⟩))
    have s := Step.pub (o := .lst (vs ++ ws)) e hl
    exact (show aN K mg Q G H (.lst (xs ++ ys)) from q) _ _ _ s ⟨l, _, rfl, bH.of bP, (h2.append h2').mono s.g⟩
  | _ => exact (show False from q).elim
 | tup xs => cases b with
  | tup ys =>
   obtain ⟨p, vs, rfl, h1, h2⟩ := ra
   obtain ⟨p', ws, rfl, h1', h2'⟩ := rb
   cases hC : (aW (xs.length + ys.length) && !xs.isEmpty) with
   | false => simp only [aI, hC, cond_false] at q; exact q.elim
   | true =>
    simp only [aI, hC, cond_true] at q
    rw [xaw] at hC
    have q' : aN K mg Q G H (.tup (xs ++ ys)) := q
    refine .inr (.inr (.inr ⟨p, p', vs, ws, rfl, rfl, aK.sqT e h1, aK.sqT e h1', fun z => ?_, by rw [<- h2.length, <- h2'.length]; exact xat hC.1, fun z => ?_, fun z l hl => ?_⟩))
    ·subst z
     have := h2.length
     have hx : xs = [] := xcj.mp this
     subst hx; simp at hC
    ·subst z
     have := h2'.length
     have hy : ys = [] := xcj.mp this
     subst hy
     rw [xbm] at q'
     exact q'.now e ⟨p, vs, rfl, h1, h2⟩
    ·have s := Step.pub (o := .tup (vs ++ ws)) e hl
     exact q' _ _ _ s ⟨l, _, rfl, bJ.of bP, (h2.append h2').mono s.g⟩
  | _ => exact (show False from q).elim
 | _ => exact (show False from q).elim
abbrev gSub : D -> D -> R D := gI (fun _ _ => true) fun i j => i - j
abbrev iT : D -> D -> R D := gI (fun i j => gK i && gK j) fun i j => i * j
abbrev eX : D -> D -> R D := gI (fun _ j => m7 j) fun i j => i.fdiv j
abbrev aQ : D -> D -> R D := gI (fun _ j => decide (j ≠ 0)) fun i j => i.fmod j
abbrev pF : D -> D -> R D := gI vN fun i j => i ^ j.toNat
abbrev T5 : D -> D -> R D := gI (fun _ j => decide (0 <= j)) fun i j => i / 2 ^ j.toNat
variable {E : XK} {a b c : Expr} {fa fb fc : DSt -> R D} {pos : Pos}
theorem T6 (ha : DE X E a fa) (hb : DE X E b fb) : DE X E (.BinOp a .Add b pos) (aC aI fa fb) := lP (OI.or (OW.or (BR.or QC))) T4 T1 ha hb
theorem T7 (ha : DE X E a fa) (hb : DE X E b fb) : DE X E (.BinOp a .Sub b pos) (aC gSub fa fb) :=
 lP (r := rI (fun _ _ => True) fun i j => .int (i - j)) (mT fun _ _ _ _ _ _ _ _ q => sub_int q) (pE fun _ _ _ => trivial) pC ha hb
theorem T8 (ha : DE X E a fa) (hb : DE X E b fb) : DE X E (.BinOp a .Mult b pos) (aC iT fa fb) := lP TZ (pE fun i j h => by simpa using h) pC ha hb
theorem T9 (ha : DE X E a fa) (hb : DE X E b fb) : DE X E (.BinOp a .FloorDiv b pos) (aC eX fa fb) := lP T0 (pE fun i j h => h) pC ha hb
theorem UA (ha : DE X E a fa) (hb : DE X E b fb) : DE X E (.BinOp a .Mod b pos) (aC aQ fa fb) := lP OJ (pE fun i j h => xat h) pC ha hb
theorem UB (ha : DE X E a fa) (hb : DE X E b fb) : DE X E (.BinOp a .Pow b pos) (aC pF fa fb) := lP OK (pE fun i j h => xat (p := 0 <= j /\ j <= 1000000 /\ i.natAbs < 2 ^ 64) h) pC ha hb
def iU : D -> R D
 | .int i => .ok (.int (-i))
 | _ => .bad
theorem UC (ha : DE X E a fa) : DE X E (.UnaryOp .USub a pos) (iQ iU fa) := by
 refine SN OM (fun G H d x Q e r q => ?_) (fun d e => ?_) ha
 ·cases d with
  | int i => cases r; exact ⟨i, rfl, aN.now q e rfl⟩
  | _ => exact (show False from q).elim
 ·cases d <;> simp [iU]
structure eL (X : Cx) (op : CmpOp) (g : D -> D -> R D) : Prop where
 ex : ∃ r, bM X (compareOp op) r /\ eQ X.K X.mg r g /\ eR g
abbrev gL : D -> D -> R D := gB fun i j => decide (i < j)
abbrev rZ : D -> D -> R D := gB fun i j => decide (i <= j)
abbrev eM : D -> D -> R D := gB fun i j => decide (j < i)
abbrev gGe : D -> D -> R D := gB fun i j => decide (j <= i)
theorem pG : eL X .Lt gL := ⟨_, ON, rY, rX⟩
theorem vO : eL X .LtE rZ := ⟨_, OO, rY, rX⟩
theorem nA : eL X .Gt eM := ⟨_, OP, rY, rX⟩
theorem UD : eL X .GtE gGe := ⟨_, OQ, rY, rX⟩
def gM (a b : D) : Bool := aT 9 a && aT 9 b
def a8 (a b : D) : R D := bif gM a b then .ok (.bl (a7 a b)) else .bad
def cE (a b : D) : R D := bif gM a b then .ok (.bl (!a7 a b)) else .bad
def BT (K : xFg) (mg : Str -> Option Value) (neg : Bool) : R2 := fun x y H Q => ∃ G d d', aK G H /\ Rep K mg G d x /\ Rep K mg G d' y /\ gM d d' = true /\ Q (.bl (bif neg then !a7 d d' else a7 d d')) H
theorem UE {k : Nat} (r : cL k X.A) : bM X (compareOp .Eq) (BT X.K X.mg false) := by
 intro pins s U H x y v u Q I rx ry h
 obtain ⟨G, d, d', e, r1, r2, c, q⟩ := h
 unfold gM at c
 rw [xaw] at c
 have hu : X.A.units + 9 < cLine := by have := r.un; omega
 exact (rW I e 9 hu c.1 c.2 r1 rx r2 ry).2.1 _ _ _ _ ⟨.bl _, H, I, rfl, q⟩
theorem UF {k : Nat} (r : cL k X.A) : bM X (compareOp .NotEq) (BT X.K X.mg true) := by
 intro pins s U H x y v u Q I rx ry h
 obtain ⟨G, d, d', e, r1, r2, c, q⟩ := h
 unfold gM at c
 rw [xaw] at c
 have hu : X.A.units + 9 < cLine := by have := r.un; omega
 exact (rW I e 9 hu c.1 c.2 r1 rx r2 ry).2.2 _ _ _ _ ⟨.bl _, H, I, rfl, q⟩
theorem BU {k : Nat} (C : XC X E k) : eL X .Eq a8 := ⟨_, UE C.room, fun G H a b x y Q e ra rb q => by
 unfold a8 at q
 cases hc : gM a b with
 | false => rw [hc] at q; exact q.elim
 | true => rw [hc] at q; exact ⟨G, a, b, e, ra, rb, hc, aN.now q e rfl⟩, fun a b e => by unfold a8; cases gM a b <;> simp [cond]⟩
theorem vP {k : Nat} (C : XC X E k) : eL X .NotEq cE := ⟨_, UF C.room, fun G H a b x y Q e ra rb q => by
 unfold cE at q
 cases hc : gM a b with
 | false => rw [hc] at q; exact q.elim
 | true => rw [hc] at q; exact ⟨G, a, b, e, ra, rb, hc, aN.now q e rfl⟩, fun a b e => by unfold cE; cases gM a b <;> simp [cond]⟩
def lR : D -> Bool
 | .non => true
 | _ => false
def sB : D -> D -> R D
 | d, .non => .ok (.bl (lR d))
 | .bl a, .bl b => .ok (.bl (a == b))
 | _, _ => .bad
def sC : D -> D -> R D
 | d, .non => .ok (.bl (!lR d))
 | .bl a, .bl b => .ok (.bl (a != b))
 | _, _ => .bad
theorem BV {G : Hp} {d : D} {x : V} (r : Rep K mg G d x) : decide (x = .non) = lR d := by
 have nr : ∀ a : Addr, decide (V.ref a = V.non) = false := fun a => by simp
 cases d with
 | non => cases r; rfl
 | bl b => cases r; rfl
 | int i => cases r; rfl
 | str y => cases r; rfl
 | ty n => cases r; rfl
 | cls c => obtain ⟨C, rfl, _⟩ := r; exact nr _
 | tup xs => obtain ⟨a, vs, rfl, _⟩ := r; exact nr _
 | lst xs => obtain ⟨a, vs, rfl, _⟩ := r; exact nr _
 | dct ks xs => obtain ⟨a, vs, rfl, _⟩ := r; exact nr _
 | exc c as => obtain ⟨a, C, dct, vs, rfl, _⟩ := r; exact nr _
theorem UG : eL X .Is sB := ⟨_, OS.or Q6, fun G H a b x y Q e ra rb q => by
 cases b with
 | non => cases rb; exact .inl ⟨rfl, by rw [BV ra]; cases a <;> exact aN.now q e rfl⟩
 | bl k => cases a with
  | bl k' => cases ra; cases rb; exact .inr ⟨k', k, rfl, rfl, aN.now q e rfl⟩
  | _ => exact (show False from q).elim
 | _ => cases a <;> exact (show False from q).elim, fun a b e => by cases a <;> cases b <;> simp [sB]⟩
theorem UH : eL X .IsNot sC := ⟨_, OT.or Q7, fun G H a b x y Q e ra rb q => by
 cases b with
 | non => cases rb; exact .inl ⟨rfl, by rw [BV ra]; cases a <;> exact aN.now q e rfl⟩
 | bl k => cases a with
  | bl k' => cases ra; cases rb; exact .inr ⟨k', k, rfl, rfl, aN.now q e rfl⟩
  | _ => exact (show False from q).elim
 | _ => cases a <;> exact (show False from q).elim, fun a b e => by cases a <;> cases b <;> simp [sC]⟩
theorem UI {op : CmpOp} {g : D -> D -> R D} (cf : eL X op g) (ha : DE X E a fa) (hb : DE X E b fb) (hm : behindInMarks op b = false := by first | exact cV _ (by decide) (by decide) | rfl) : DE X E (.Compare a [op] [b] pos) (aC g fa fb) := by
 obtain ⟨r, h1, h2, h3⟩ := cf.ex
 exact SF h1 h2 h3 ha hb hm
theorem gN {op : CmpOp} {g : D -> D -> R D} (cf : eL X op g) (ha : DE X E a fa) (hb : DE X E b fb) (hm : behindInMarks op b = false := by first | exact cV _ (by decide) (by decide) | rfl) : DT X E (.Compare a [op] [b] pos) (aM (aC g fa fb)) := by
 obtain ⟨r, h1, h2, h3⟩ := cf.ex
 exact SG h1 h2 h3 ha hb hm
theorem UJ {op op' : CmpOp} {g g' : D -> D -> R D} (cf : eL X op g) (cf' : eL X op' g') (ha : DE X E a fa) (hb : DE X E b fb) (hc : DE X E c fc) (hm : lastMarks [op, op'] [b, c] = false := by with_unfolding_all rfl) : DT X E (.Compare a [op, op'] [b, c] pos) (aM (o0 g g' fa fb fc)) := by
 obtain ⟨r, h1, h2, h3⟩ := cf.ex
 obtain ⟨r', h1', h2', h3'⟩ := cf'.ex
 exact SI h1 h2 h3 h1' h2' h3' ha hb hc hm
end
end DL
namespace DL
open L2 PyProof.Rows
section
variable {X : Cx} {E : XK} {K : xFg} {mg : Str -> Option Value} {G H : Hp}
theorem UK : bootBuiltins "all" = some (.builtin "all") := by rfl
theorem UL : bootBuiltins "isinstance" = some (.builtin "isinstance") := by rfl
theorem vQ : bootBuiltins "int" = some (.type "int") := by rfl
theorem UM : bootBuiltins "bool" = some (.type "bool") := by rfl
theorem nB : bootBuiltins "str" = some (.type "str") := by rfl
theorem vR : bootBuiltins "tuple" = some (.type "tuple") := by rfl
theorem UN : bootBuiltins "list" = some (.type "list") := by rfl
theorem Reps.one {d : D} {vs : List V} (h : Reps K mg G [d] vs) : ∃ v, vs = [v] /\ Rep K mg G d v := by
 obtain ⟨v, r, rfl, h2, h3⟩ := h
 cases h3
 exact ⟨v, rfl, h2⟩
theorem Reps.two {d d' : D} {vs : List V} (h : Reps K mg G [d, d'] vs) : ∃ v w, vs = [v, w] /\ Rep K mg G d v /\ Rep K mg G d' w := by
 obtain ⟨v, r, rfl, h2, h3⟩ := h
 obtain ⟨w, rfl, h4⟩ := h3.one
 exact ⟨v, w, rfl, h2, h4⟩
def g1 {α : Type} (g : D -> R α) : List D -> R α
 | [d] => g d
 | _ => .bad
def g2 {α : Type} (g : D -> D -> R α) : List D -> R α
 | [d, e] => g d e
 | _ => .bad
theorem nE {r : List V -> Hp -> VK -> Prop} {g : D -> R D} (h : ∀ (G H : Hp) (d : D) (v : V) (Q : VK), aK G H -> Rep K mg G d v -> RW (g d) (aN K mg Q G H) (fun _ => False) -> r [v] H Q) : iA K mg r (g1 g) := by
 intro G H ds vs Q e rp q
 match ds, rp, q with
 | [], rp, q => exact (show False from q).elim
 | [d], rp, q => obtain ⟨v, rfl, h1⟩ := rp.one; exact h G H d v Q e h1 q
 | _ :: _ :: _, rp, q => exact (show False from q).elim
theorem cd2 {r : List V -> Hp -> VK -> Prop} {g : D -> D -> R D} (h : ∀ (G H : Hp) (d d' : D) (v v' : V) (Q : VK), aK G H -> Rep K mg G d v -> Rep K mg G d' v' -> RW (g d d') (aN K mg Q G H) (fun _ => False) -> r [v, v'] H Q) : iA K mg r (g2 g) := by
 intro G H ds vs Q e rp q
 match ds, rp, q with
 | [], rp, q => exact (show False from q).elim
 | [d], rp, q => exact (show False from q).elim
 | [d, d'], rp, q => obtain ⟨v, w, rfl, h1, h2⟩ := rp.two; exact h G H d d' v w Q e h1 h2 q
 | _ :: _ :: _ :: _, rp, q => exact (show False from q).elim
variable {x : Str} {p pos : Pos} {e : Expr} {es : List Expr} {fs : DSt -> R (List D)}
def vS : D -> R D
 | .lst xs => .ok (.int xs.length)
 | .tup xs => .ok (.int xs.length)
 | .str y => bif aW y.length then .ok (.int y.length) else .bad
 | _ => .bad
abbrev bB := g1 vS
theorem UP : iA K mg (fun xs H Q => (∃ p ys, xs = [.ref p] /\ (bH K H p ys \/ bJ K H p ys) /\ Q (.int ys.length) H) \/ (∃ z, xs = [.str z] /\ z.length <= sizeLine /\ Q (.int z.length) H)) bB := nE fun G H d v Q e r q => by
 cases d with
 | lst xs =>
  obtain ⟨a, vs, rfl, h1, h2⟩ := r
  exact .inl ⟨a, vs, rfl, .inl (e.seq h1), by rw [<- h2.length]; exact aN.now q e rfl⟩
 | tup xs =>
  obtain ⟨a, vs, rfl, h1, h2⟩ := r
  exact .inl ⟨a, vs, rfl, .inr (aK.sqT e h1), by rw [<- h2.length]; exact aN.now q e rfl⟩
 | str y =>
  cases r
  cases hC : aW y.length with
  | false => simp only [vS, hC, cond_false] at q; exact q.elim
  | true => simp only [vS, hC, cond_true] at q; exact .inr ⟨y, rfl, xat hC, aN.now q e rfl⟩
 | _ => exact (show False from q).elim
theorem UQ (hm : X.mg "len" = none) (ha : DA X E (e :: es) fs) (hg : Gl X "len" := by rfl) (he : starEach (e :: es) X.env = (false, eval e X.env) :: starEach es X.env := by rfl) (hpl : (backTo pos (starEach es X.env)).any (·.1) = false := by rfl) : DE X E (.Call (.Name "len" p) (e :: es) [] pos) (aL bB fs) :=
 vG (AL.or QL) UP hm PySem.boot_len ha hg (by decide) (by decide) he hpl
def UR : D -> R D
 | .int i => .ok (.int (i.natAbs : Int))
 | _ => .bad
abbrev US := g1 UR
def UT : D -> D -> R D
 | .int i, .int j => .ok (.int (min i j))
 | _, _ => .bad
def UU : D -> D -> R D
 | .int i, .int j => .ok (.int (max i j))
 | _, _ => .bad
abbrev UV := g2 UT
abbrev UW := g2 UU
def BW : List D -> Option (List Int)
 | [] => some []
 | .int i :: r => (BW r).map (i :: ·)
 | _ => none
def kO : List D -> Option (List Bool)
 | [] => some []
 | .bl b :: r => (kO r).map (b :: ·)
 | _ => none
theorem BX : ∀ {ds : List D} {bs : List Bool}, kO ds = some bs -> ds = bs.map D.bl
 | [], ns, h => by simp only [kO, Option.some.injEq] at h; subst h; rfl
 | .bl i :: r, ns, h => by
  simp only [kO, xcn] at h
  obtain ⟨ms, h1, rfl⟩ := h
  rw [BX h1]; rfl
theorem BY : ∀ bs : List Bool, kO (bs.map D.bl) = some bs
 | [] => rfl
 | n :: r => by rw [xbi]; unfold kO; rw [BY r]; rfl
def sum1 : D -> R D
 | .lst xs => match BW xs with
  | some ns => .ok (.int ns.sum)
  | none => .bad
 | _ => .bad
def pH : D -> R D
 | .lst xs => match kO xs with
  | some bs => .ok (.bl (bs.all id))
  | none => .bad
 | _ => .bad
abbrev kP := g1 pH
theorem UX : iA K mg (fun xs H Q => ∃ (p : Addr) (bs : List Bool), xs = [.ref p] /\ bH K H p (bs.map V.bl) /\ Q (.bl (bs.all id)) H) kP := nE fun G H d v Q e r q => by
 cases d with
 | lst xs =>
  obtain ⟨a, vs, rfl, h1, h2⟩ := r
  cases hn : kO xs with
  | none => simp only [pH, hn] at q; exact q.elim
  | some ns =>
   simp only [pH, hn] at q
   rw [BX hn] at h2
   rw [Reps.of_bools h2] at h1
   exact ⟨a, ns, rfl, e.seq h1, aN.now q e rfl⟩
 | _ => exact (show False from q).elim
theorem BZ (hc : X.calm = true) (hm : X.mg "all" = none) (ha : DA X E (e :: es) fs) (hg : Gl X "all" := by rfl) (he : starEach (e :: es) X.env = (false, eval e X.env) :: starEach es X.env := by rfl) (hpl : (backTo pos (starEach es X.env)).any (·.1) = false := by rfl) : DE X E (.Call (.Name "all" p) (e :: es) [] pos) (aL kP fs) :=
 vG (RX hc) UX hm UK ha hg (by decide) (by decide) he hpl
def UY : D -> R D
 | .int i => .ok (.int i)
 | .bl b => .ok (.int (if b then 1 else 0))
 | _ => .bad
abbrev fK := g1 UY
theorem UZ : iA K mg (fun xs H Q => (∃ i, xs = [.int i] /\ Q (.int i) H) \/ ∃ k, xs = [.bl k] /\ Q (.int (if k then 1 else 0)) H) fK := nE fun G H d v Q e r q => by
 cases d with
 | int i => cases r; exact .inl ⟨i, rfl, aN.now q e rfl⟩
 | bl b => cases r; exact .inr ⟨b, rfl, aN.now q e rfl⟩
 | _ => exact (show False from q).elim
theorem U0 (hm : X.mg "int" = none) (ha : DA X E (e :: es) fs) (hg : Gl X "int" := by rfl) (he : starEach (e :: es) X.env = (false, eval e X.env) :: starEach es X.env := by rfl) (hpl : (backTo pos (starEach es X.env)).any (·.1) = false := by rfl) : DE X E (.Call (.Name "int" p) (e :: es) [] pos) (aL fK fs) :=
 rK OY UZ hm ha vQ hg (by decide) (by decide) he hpl
def U1 : D -> R D
 | .lst xs => .ok (.tup xs)
 | .tup xs => .ok (.tup xs)
 | _ => .bad
abbrev eY := g1 U1
theorem U2 : iA K mg (fun xs H Q => ∃ p ys, xs = [.ref p] /\ ((bH K H p ys /\ ∀ l, H l = none -> Q (.ref l) (aO H l (.tup ys))) \/ (bJ K H p ys /\ Q (.ref p) H))) eY := nE fun G H d v Q e r q => by
 cases d with
 | lst xs =>
  obtain ⟨a, vs, rfl, h1, h2⟩ := r
  refine ⟨a, vs, rfl, .inl ⟨e.seq h1, fun l hl => ?_⟩⟩
  have s := Step.pub (o := .tup vs) e hl
  exact (show aN K mg Q G H (.tup xs) from q) _ _ _ s ⟨l, vs, rfl, bJ.of bP, h2.mono s.g⟩
 | tup xs =>
  obtain ⟨a, vs, rfl, h1, h2⟩ := r
  exact ⟨a, vs, rfl, .inr ⟨aK.sqT e h1, (show aN K mg Q G H (.tup xs) from q).now e ⟨a, vs, rfl, h1, h2⟩⟩⟩
 | _ => exact (show False from q).elim
theorem U3 (hm : X.mg "tuple" = none) (ha : DA X E (e :: es) fs) (hg : Gl X "tuple" := by rfl) (he : starEach (e :: es) X.env = (false, eval e X.env) :: starEach es X.env := by rfl) (hpl : (backTo pos (starEach es X.env)).any (·.1) = false := by rfl) : DE X E (.Call (.Name "tuple" p) (e :: es) [] pos) (aL eY fs) :=
 rK QN U2 hm ha vR hg (by decide) (by decide) he hpl
def jQ (g : List D -> R (List D)) (fs : DSt -> R (List D)) : DSt -> R (List D) := fun U => (fs U).bind fun ds => (g ds).noerr
def B0 (K : xFg) (mg : Str -> Option Value) (r : List V -> Hp -> VK -> Prop) (g : List D -> R (List D)) : Prop :=
 ∀ (G H : Hp) (ds : List D) (vs : List V) (Q : VK), aK G H -> Reps K mg G ds vs -> RW (g ds) (fE K mg Q G H) (fun _ => False) -> r vs H Q
theorem U4 {T : String} {r : List V -> Hp -> VK -> Prop} {g : List D -> R (List D)} (hc : c9 X (.type T) r) (hd : B0 X.K X.mg r g) (hm : X.mg x = none) (ha : DA X E (e :: es) fs) (hv : bootBuiltins x = some (.type T) := by rfl) (hg : Gl X x := by rfl) (hn : x ≠ "__name__" := by decide) (hdb : (x == ("__debug__" : Str)) = false := by decide)
  (he : starEach (e :: es) X.env = (false, eval e X.env) :: starEach es X.env := by rfl) (hpl : (backTo pos (starEach es X.env)).any (·.1) = false := by rfl) : DF X E (.Call (.Name x p) (e :: es) [] pos) (jQ g fs) := by
 refine PE.mono' (uS hc hg hm hv ha hn hdb he hpl) fun U H Q ⟨G, Ud, ok, q⟩ => ?_
 refine ⟨G, Ud, ok, q.of_bind.mono (fun ds _ z vs G' H' s r => ?_) fun _ z => z⟩
 obtain ⟨d, e1, z⟩ := m5 z
 exact hd G' H' ds vs Q s.e r (by rw [e1]; exact z.step s)
def U5 : D -> R (List D)
 | .lst xs => .ok xs
 | .tup xs => .ok xs
 | _ => .bad
abbrev kQ := g1 U5
theorem U6 : B0 K mg (fun xs H Q => ∃ p ys, xs = [.ref p] /\ (bH K H p ys \/ bJ K H p ys) /\ ∀ l, H l = none -> Q (.ref l) (aO H l (.lst ys))) kQ := by
 intro G H ds vs Q e rp q
 have go : ∀ xs vs, Reps K mg G xs vs -> fE K mg Q G H xs -> ∀ l, H l = none -> Q (.ref l) (aO H l (.lst vs)) := fun xs vs h z l hl => z l vs G _ (.hid e hl) hl bP (e.free hl) h
 match ds, rp, q with
 | [], rp, q => exact (show False from q).elim
 | [d], rp, q =>
  obtain ⟨v, rfl, r⟩ := rp.one
  cases d with
  | lst xs => obtain ⟨a, vs, rfl, h1, h2⟩ := r; exact ⟨a, vs, rfl, .inl (e.seq h1), go xs vs h2 q⟩
  | tup xs => obtain ⟨a, vs, rfl, h1, h2⟩ := r; exact ⟨a, vs, rfl, .inr (aK.sqT e h1), go xs vs h2 q⟩
  | _ => exact (show False from q).elim
 | _ :: _ :: _, rp, q => exact (show False from q).elim
theorem U7 (hm : X.mg "list" = none) (ha : DA X E (e :: es) fs) (hg : Gl X "list" := by rfl) (he : starEach (e :: es) X.env = (false, eval e X.env) :: starEach es X.env := by rfl) (hpl : (backTo pos (starEach es X.env)).any (·.1) = false := by rfl) : DF X E (.Call (.Name "list" p) (e :: es) [] pos) (jQ kQ fs) :=
 U4 QM U6 hm ha UN hg (by decide) (by decide) he hpl
def vT : D -> Option String
 | .non => some "NoneType"
 | .bl _ => some "bool"
 | .int _ => some "int"
 | .str _ => some "str"
 | .tup _ => some "tuple"
 | .lst _ => some "list"
 | .dct _ _ => some "dict"
 | _ => none
def pI (T : String) : Bool := ["int", "bool", "str", "tuple", "list", "dict"].contains T
def sD (t T : String) : Bool := t == T || (t == "bool" && T == "int")
theorem lT (t T : String) (ht : ["NoneType", "bool", "int", "str", "tuple", "list", "dict"].contains t = true) (hT : pI T = true) : PySem.W.kitOne K (.type t) (.type T) = some (sD t T) := by
 simp only [List.contains_eq_mem, xag, xa5, or_false, decide_eq_true_eq] at ht
 simp only [pI, List.contains_eq_mem, xag, xa5, or_false, decide_eq_true_eq] at hT
 rcases ht with rfl | rfl | rfl | rfl | rfl | rfl | rfl <;> rcases hT with rfl | rfl | rfl | rfl | rfl | rfl <;> rfl
end
end DL
namespace DL
open L2 PyProof.Rows
section
variable {X : Cx} {E : XK} {K : xFg} {mg : Str -> Option Value} {G H : Hp}
variable {x : Str} {p pos : Pos} {e : Expr} {es : List Expr} {fs : DSt -> R (List D)}
def B2 (K : xFg) (mg : Str -> Option Value) : List V -> Hp -> VK -> Prop := fun xs H Q => ∃ G d T v b, xs = [v, .ty T] /\ aK G H /\ Rep K mg G d v /\ (∃ t, vT d = some t /\ pI T = true /\ b = sD t T) /\ Q (.bl b) H
theorem U8 : c9 X (.builtin "isinstance") (B2 X.K X.mg) := by
 intro pins s U H xs us Q I r h
 obtain ⟨G, d, T, v, b, rfl, e, rp, ⟨t, ht, hT, rfl⟩, q⟩ := h
 obtain ⟨u, w', rfl, ru, rw'⟩ := zJ r
 cases (show w' = Value.type T from rw')
 have fin : ∀ tk, EP X pins U Q (.bool (sD t T)) { s with toks := tk } := fun tk => ⟨.bl _, H, I.tok tk, rfl, q⟩
 cases d with
 | non => cases ht; cases rp; cases (show u = Value.none from ru); exact PySem.W.kia_one PySem.W.kitx_none I.kIn True.intro (lT _ _ rfl hT) (fun z => nomatch z) fin
 | bl y => cases ht; cases rp; cases (show u = Value.bool y from ru); exact PySem.W.kia_one PySem.W.kitx_bool I.kIn True.intro (lT _ _ rfl hT) (fun z => nomatch z) fin
 | int i => cases ht; cases rp; obtain ⟨tk, rfl⟩ := (show ∃ tk, u = Value.int i tk from ru); exact PySem.W.kia_one PySem.W.kitx_int I.kIn True.intro (lT _ _ rfl hT) (fun z => nomatch z) fin
 | str y => cases ht; cases rp; obtain ⟨tk, rfl⟩ := (show ∃ tk, u = Value.str y tk from ru); exact PySem.W.kia_one PySem.W.kitx_str I.kIn True.intro (lT _ _ rfl hT) (fun z => nomatch z) fin
 | tup ds =>
  cases ht
  obtain ⟨a, vs, rfl, h1, h2⟩ := rp
  cases (show u = Value.ref a from ru)
  obtain ⟨_, _, ⟨o, h3, h4, _⟩, _⟩ := I.tuple (aK.sqT e h1)
  exact PySem.W.kia_one PySem.W.kitx_tuple I.kIn ⟨o, h3, h4⟩ (lT _ _ rfl hT) (fun z => nomatch z) fin
 | lst ds =>
  cases ht
  obtain ⟨a, vs, rfl, h1, h2⟩ := rp
  cases (show u = Value.ref a from ru)
  obtain ⟨_, _, ⟨o, n, h3, h4, _⟩, _⟩ := I.list (e.seq h1)
  exact PySem.W.kia_one PySem.W.kitx_list I.kIn ⟨o, h3, h4⟩ (lT _ _ rfl hT) (fun z => nomatch z) fin
 | dct ks ds =>
  cases ht
  obtain ⟨a, vs, rfl, h1, _⟩ := rp
  cases (show u = Value.ref a from ru)
  obtain ⟨_, _, _, _, p⟩ := (show dI X.prog X.w H s.heap a (.dK (ks.zip vs)) from (aK.rd e h1).ok I.hok)
  obtain ⟨o, es, ep, h3, h4, _⟩ := p
  exact PySem.W.kia_one PySem.W.kitx_dict I.kIn ⟨o, h3, h4.1⟩ (lT _ _ rfl hT) (fun z => nomatch z) fin
 | _ => cases ht
abbrev U9 (K : xFg) : List V -> Hp -> VK -> Prop := fun xs H Q => ∃ (a C : Addr) (c : V) (cv : Value) (b : Bool), xs = [.ref a, c] /\ H a = some (oU a C none) /\ ((∃ D, c = .ref D /\ cv = .ref D) \/ ∃ T, c = .ty T /\ cv = .type T) /\ lO K C /\ PySem.W.kitOne K (.ref C) cv = some b /\ Q (.bl b) H
def bW : D -> D -> R D
 | d, .ty T => match vT d with
  | some t => bif pI T then .ok (.bl (sD t T)) else .bad
  | none => match d with
   | .exc _ [] => bif T == "ValueError" then .ok (.bl true) else .bad
   | _ => .bad
 | .exc c [], .cls d => match kL c d with
  | some b => .ok (.bl b)
  | none => .bad
 | _, _ => .bad
theorem VA : iA K mg (fun xs H Q => B2 K mg xs H Q \/ U9 K xs H Q) (g2 bW) := cd2 fun G H d d' v v' Q e r r' q => by
 have exc : ∀ {c as}, d = .exc c as -> as = [] -> ∃ a C, v = .ref a /\ H a = some (oU a C none) /\ dX K mg c C := fun {c as} hd ha => by
  subst hd; subst ha
  obtain ⟨a, C, dct, vs, rfl, h2, h3, h4, h5⟩ := r
  cases h5
  rcases h4 with ⟨rfl, _⟩ | ⟨dx, w, _, z, _⟩
  ·exact ⟨a, C, rfl, e _ _ h2, h3⟩
  ·cases z
 cases d' with
 | ty T =>
  cases r'
  cases ht : vT d with
  | some t =>
   cases hT : pI T with
   | false => simp only [bW, ht, hT, cond_false] at q; exact q.elim
   | true => simp only [bW, ht, hT, cond_true] at q; exact .inl ⟨G, d, T, v, _, rfl, e, r, ⟨t, ht, hT, rfl⟩, aN.now q e rfl⟩
  | none =>
   cases d with
   | exc c as =>
    cases as with
    | nil =>
     cases hT : T == "ValueError" with
     | false => simp only [bW, ht, hT, cond_false] at q; exact q.elim
     | true =>
      simp only [bW, ht, hT, cond_true] at q
      obtain ⟨a, C, rfl, h1, h2⟩ := exc rfl rfl
      have := eq_of_beq hT
      subst this
      exact .inr ⟨a, C, _, _, true, rfl, h1, .inr ⟨_, rfl, rfl⟩, h2.exc, h2.val, aN.now q e rfl⟩
    | cons b bs => simp only [bW, ht] at q; exact q.elim
   | _ => simp only [bW, ht] at q; exact q.elim
 | cls c' =>
  cases d with
  | exc c as =>
   cases as with
   | nil =>
    obtain ⟨Dd, rfl, hD⟩ := r'
    cases hs : kL c c' with
    | none => simp only [bW, hs] at q; exact q.elim
    | some b =>
     simp only [bW, hs] at q
     obtain ⟨a, C, rfl, h1, h2⟩ := exc rfl rfl
     exact .inr ⟨a, C, _, _, b, rfl, h1, .inl ⟨Dd, rfl, rfl⟩, h2.exc, h2.isi c' Dd b hs hD, aN.now q e rfl⟩
   | cons b bs => exact (show False from q).elim
  | _ => exact (show False from q).elim
 | _ => cases d <;> first | exact (show False from q).elim | (rename_i as; cases as <;> exact (show False from q).elim)
theorem jR (hm : X.mg "isinstance" = none) (ha : DA X E (e :: es) fs) (hg : Gl X "isinstance" := by rfl) (he : starEach (e :: es) X.env = (false, eval e X.env) :: starEach es X.env := by rfl) (hpl : (backTo pos (starEach es X.env)).any (·.1) = false := by rfl) : DE X E (.Call (.Name "isinstance" p) (e :: es) [] pos) (aL (g2 bW) fs) :=
 vG (U8.or RS) VA hm UL ha hg (by decide) (by decide) he hpl
def tO (K : xFg) (mg : Str -> Option Value) (E : XK) (f : DSt -> R (Option Int)) : TO := fun U H Q => ∃ G Ud, bU K mg Ud U G H /\ RW (f Ud) (fun o => ∀ G' H', Step G H G' H' -> Q o H') (bG K mg E G H)
def DO (X : Cx) (E : XK) (e : Option Expr) (f : DSt -> R (Option Int)) : Prop := PO X e (tO X.K X.mg E f)
def bR : DSt -> R (Option Int) := fun _ => .ok none
def asI : D -> R (Option Int)
 | .int i => .ok (some i)
 | _ => .bad
def bF (f : DSt -> R D) : DSt -> R (Option Int) := fun U => (f U).bind asI
theorem PO.mono' {e : Option Expr} {t t' : TO} (h : PO X e t) (m : ∀ U H Q, t' U H Q -> t U H Q) : PO X e t' := fun pins s U H Q I q => h pins s U H Q I (m U H Q q)
theorem B3 : DO X E none bR := PO.mono' P7 fun U H Q ⟨G, Ud, ok, q⟩ => (show ∀ G' H', Step G H G' H' -> Q none H' from q) G H (.refl ok.ext)
theorem VC {f : DSt -> R D} (h : DE X E e f) : DO X E (some e) (bF f) := PO.mono' (P8 h) fun U H Q ⟨G, Ud, ok, q⟩ => ⟨G, Ud, ok, q.of_bind.mono (fun d _ z v G' H' s r => by
 cases d with
 | int i => cases r; exact ⟨i, rfl, (show ∀ G' H', Step G H G' H' -> Q (some i) H' from z) G' H' s⟩
 | _ => exact (show False from z).elim) fun _ z => z⟩
def cJ {α : Type} (xs : List α) (lo hi : Option Int) : List α := (xs.drop (HT.sIx xs.length 0 lo)).take (HT.sIx xs.length xs.length hi - HT.sIx xs.length 0 lo)
def B4 {α : Type} (xs : List α) (lo hi : Option Int) : Bool := decide (HT.sIx xs.length 0 lo = 0 /\ HT.sIx xs.length xs.length hi = xs.length)
def vU : D -> Option Int -> Option Int -> R D
 | .lst xs, lo, hi => .ok (.lst (cJ xs lo hi))
 | .tup xs, lo, hi => bif B4 xs lo hi then .bad else .ok (.tup (cJ xs lo hi))
 | _, _, _ => .bad
def bY (fe : DSt -> R D) (fl fh : DSt -> R (Option Int)) : DSt -> R D := fun U => (fe U).bind fun d => (fl U).bind fun lo => (fh U).bind fun hi => vU d lo hi
theorem Reps.cut {ds : List D} {vs : List V} (h : Reps K mg G ds vs) (lo hi : Option Int) : Reps K mg G (cJ ds lo hi) (hU vs lo hi) := by
 unfold cJ hU
 rw [h.length]
 exact (h.drop _).take _
theorem VD {fe : DSt -> R D} {lo hi : Option Expr} {fl fh : DSt -> R (Option Int)} {p2 : Pos} (he : DE X E e fe) (hl : DO X E lo fl) (hh : DO X E hi fh) : DE X E (.Subscript e (.Slice lo hi none p2) pos) (bY fe fl fh) := by
 refine PE.mono' (uT (AK.or QB) he hl hh) fun U H Q ⟨G, Ud, ok, q⟩ => ?_
 refine eJ (P := aN X.K X.mg Q) ok q fun d v G1 H1 s1 ok1 r1 q1 => ?_
 refine ⟨G1, Ud, ok1, q1.of_bind.mono (fun l _ q2 G2 H2 s2 => ?_) fun _ z => z⟩
 refine ⟨G2, Ud, ok1.step s2, q2.of_bind.mono (fun u _ q3 G3 H3 s3 => ?_) fun _ z => z.step s2⟩
 have s := (s1.trans s2).trans s3
 have r3 := r1.mono (s2.g.trans s3.g)
 cases d with
 | lst xs =>
  obtain ⟨a, vs, rfl, h1, h2⟩ := r3
  refine .inl ⟨a, vs, rfl, s3.e.seq h1, fun pp hp => ?_⟩
  have sp := Step.pub (o := .lst (hU vs l u)) s3.e hp
  exact (show aN X.K X.mg Q G H (.lst (cJ xs l u)) from q3) _ _ _ (s.trans sp) ⟨pp, _, rfl, bH.of bP, (h2.cut l u).mono sp.g⟩
 | tup xs =>
  obtain ⟨a, vs, rfl, h1, h2⟩ := r3
  cases hw : B4 xs l u with
  | true => simp only [vU, hw, cond_true] at q3; exact q3.elim
  | false =>
   simp only [vU, hw, cond_false] at q3
   refine .inr ⟨a, vs, rfl, aK.sqT s3.e h1, by rw [<- h2.length]; exact of_decide_eq_false hw, fun pp hp => ?_⟩
   have sp := Step.pub (o := .tup (hU vs l u)) s3.e hp
   exact (show aN X.K X.mg Q G H (.tup (cJ xs l u)) from q3) _ _ _ (s.trans sp) ⟨pp, _, rfl, bJ.of bP, (h2.cut l u).mono sp.g⟩
 | _ => exact (show False from q3).elim
end
def B5 (c : Str) (fs : DSt -> R (List D)) : DSt -> R aG := fun U => (fs U).bind fun ds => bif iR ds.length then .err (.exc c []) else .bad
section
variable {P : Program} {w : World} {K : xFg} {mg : Str -> Option Value} {base : Heap} {N : List Str} {qual : Str} {scope : Scope} {f : Addr} {cdv : Value} {A : Around} {outer : List Env} {s0 : Shared} {H0 : Hp} {E : XK} {own own' ol : List Nat}
theorem VE {x : Str} {C : Addr} {e0 : Expr} {rest : List Expr} {np cpos pos : Pos} {fs : DSt -> R (List D)} (q : PySem.W.excIn K C [.type "ValueError", .type "Exception", .type "BaseException", .type "object"] "ValueError.__new__" = true) (hx : dX K mg x C)
  (ha : DA (cW (bQ P w) P w K mg base N qual scope f cdv A outer s0 H0 E) E (e0 :: rest) fs) (hg : Gl (cW (bQ P w) P w K mg base N qual scope f cdv A outer s0 H0 E) x := by rfl)
  (hdb : (x == ("__debug__" : Str)) = false := by decide)
  (he : starEach (e0 :: rest) (envOfC qual scope s0.heap.objs.size f cdv) = (false, eval e0 (envOfC qual scope s0.heap.objs.size f cdv)) :: starEach rest (envOfC qual scope s0.heap.objs.size f cdv) := by rfl)
  (hpl : (backTo cpos (starEach rest (envOfC qual scope s0.heap.objs.size f cdv))).any (·.1) = false := by rfl) :
  DS (cW (bQ P w) P w K mg base N qual scope f cdv A outer s0 H0 E) E own own' ol (.Raise (some (.Call (.Name x np) (e0 :: rest) [] cpos)) none pos) (B5 x fs) := fun G0 =>
 PS.mono' (A0 q hg hx.here ha hdb he hpl) fun Dn U H ⟨G, Ud, ok, s1, z⟩ => by
 have sp := ok.pubStep s1
 refine ⟨_, Ud, ok.pub.1, z.of_bind.mono (fun ds _ z vs G' H' s r => ?_) fun _ z => z.step sp⟩
 cases hf : iR ds.length with
 | false => rw [hf] at z; exact (show False from z).elim
 | true =>
  rw [hf] at z
  refine ⟨by rw [<- r.length]; exact vF hf, ?_⟩
  exact (show bG K mg E G0 H0 (.exc x []) from z) G' H' C none (sp.trans s) ⟨x, [], [], rfl, hx, .inl ⟨rfl, rfl⟩, Reps.nil⟩
end
def sE (c : Str) : DSt -> R aG := fun _ => .err (.exc c [])
theorem B6 {P : Program} {w : World} {K : xFg} {mg : Str -> Option Value} {base : Heap} {N : List Str} {qual : Str} {scope : Scope} {f : Addr} {cdv : Value} {A : Around} {outer : List Env} {s0 : Shared} {H0 : Hp} {E : XK} {own own' ol : List Nat} {x t : Str} {C : Addr} {np cpos pos tp : Pos} {j} (q : PySem.W.excIn K C [.type "ValueError", .type "Exception", .type "BaseException", .type "object"] "ValueError.__new__" = true) (hx : dX K mg x C)
  (hg : Gl (cW (bQ P w) P w K mg base N qual scope f cdv A outer s0 H0 E) x := by rfl) (hdb : (x == ("__debug__" : Str)) = false := by decide) :
  DS (cW (bQ P w) P w K mg base N qual scope f cdv A outer s0 H0 E) E own own' ol (.Raise (some (.Call (.Name x np) [.Constant (.str t) j tp] [] cpos)) none pos) (sE x) :=
 VE (fs := aB (eC (.str t)) aD) q hx (cI qZ dA) hg hdb
section
variable {X : Cx} {ol : List Nat} {k : Nat} {x y : Str} {m : List D -> R D} {p pos cpos npos : Pos} {e : Expr} {es : List Expr} {fs : DSt -> R (List D)} {f g : DSt -> R aG}
def VF (m : List D -> R D) (fs : DSt -> R (List D)) : DSt -> R D := fun U => (fs U).noerr.bind m
def VG (i : Nat) (c : Str) (body hnd : DSt -> R aG) : DSt -> R aG := fun U => match body U with
 | .ok o => .ok o
 | .err (.exc cc as) => bif kL cc c == some true then (hnd (U.set i (some (.exc cc as)))).noerr.bind fun o => match o with
   | .nx U' => .ok (.nx (U'.set i none))
   | _ => .bad
  else .bad
 | _ => .bad
end
end DL
namespace DL
open L2 PyProof.Rows
theorem c6 {n nN : Nat} {b : DSt -> R aG} {ds : List D} {U : DSt} (hl : ds.length = n) (hs : eA nN ds = U) : bN n nN b ds = fin (b U) := by
 subst hl; subst hs; unfold bN; rw [beq_self_eq_true]; rfl
theorem VH {X : Cx} {E : XK} {x : Str} {d : D} {pos : Pos} (h : ∃ u v, X.mg x = some u /\ aR v u /\ ∀ G, Rep X.K X.mg G d v) (hg : Gl X x := by rfl) (hd : (x == ("__debug__" : Str)) = false := by decide) : DE X E (.Name x pos) (eC d) := by
 obtain ⟨u, v, h1, h2, h3⟩ := h
 exact SE h1 h2 h3 hg hd
section
variable {K : xFg} {mg : Str -> Option Value}
def lU (c d : Str) : Bool := c == d || d == "ChalkError"
def kR (K : xFg) (mg : Str -> Option Value) (C : Addr) (d : Str) (b : Bool) : Prop :=
 (∀ D, mg d = some (.ref D) -> PySem.W.kitOne K (.ref C) (.ref D) = some b) /\ (b = true -> ∀ D, mg d = some (.ref D) -> PySem.W.exmOne K (.ref C) (.ref D) = some true)
theorem dX.mk' {c : Str} {C : Addr} (here : mg c = some (.ref C)) (exc : lO K C) (val : PySem.W.kitOne K (.ref C) (.type "ValueError") = some true) (rows : ∀ d ∈ kK, kR K mg C d (lU c d)) : dX K mg c C := by
 have sub : ∀ d b, kL c d = some b -> d ∈ kK /\ b = lU c d := fun d b h => by
  unfold kL at h
  cases hc : (kK.contains c && kK.contains d) with
  | false => rw [hc] at h; cases h
  | true =>
   rw [hc] at h
   have h' : some (c == d || d == "ChalkError") = some b := h
   rw [xaw] at hc
   exact ⟨by simpa using hc.2, by cases h'; rfl⟩
 refine ⟨here, exc, fun d Dd b h hd => ?_, val, fun d Dd h hd => ?_⟩
 ·obtain ⟨h1, rfl⟩ := sub d b h
  exact (rows d h1).1 Dd hd
 ·obtain ⟨h1, h2⟩ := sub d true h
  exact (rows d h1).2 h2.symm Dd hd
theorem kR.of {C D0 : Addr} {d : Str} {b : Bool} (h : mg d = some (.ref D0)) (t : PySem.W.kitOne K (.ref C) (.ref D0) = some b) (u : b = true -> PySem.W.exmOne K (.ref C) (.ref D0) = some true) : kR K mg C d b :=
 ⟨fun D hD => by rw [h] at hD; cases hD; exact t, fun hb D hD => by rw [h] at hD; cases hD; exact u hb⟩
theorem kR.no {C : Addr} {d : Str} {b : Bool} (h : mg d = none) : kR K mg C d b := ⟨fun D hD => (by rw [h] at hD; cases hD), fun _ D hD => (by rw [h] at hD; cases hD)⟩
end
section
variable {P : Program} {w : World} {K : xFg} {mg : Str -> Option Value} {base : Heap}
theorem VI {x qual : Str} {st : Stmt} {f : Addr} {fd : FuncData} {N ps : List Str} {k n nN : Nat} {own' : List Nat} {body : DSt -> R aG} (F : eP K x qual st f fd) (S : fD N ps (bX st))
  (hn : ps.length = n) (hN : N.length = nN)
  (hb : ∀ (X : Cx) (E : XK), (∃ cdv A outer s H, X = cW (bQ P w) P w K mg base N qual (bX st) f cdv A outer s H E) -> XC X E k -> XL X -> fH X E [] own' [] (eI st) body) : cH P w K mg base (bQ P w) (k + 1) f fd ps (o6 K mg (bN n nN body)) := by
 refine F.okX S (fun vs H Q E h => ?_) (fun cdv A outer s H vs Q E hr hsp => ?_)
 ·obtain ⟨G, ds, e, r, q⟩ := h
  by_cases hd : ds.length = n
  ·rw [<- r.length, hd, hn]
  ·have : (ds.length == n) = false := by simpa using hd
   unfold bN at q
   rw [this] at q
   exact (show False from q).elim
 ·obtain ⟨G, ds, e, r, q⟩ := hsp
  have hd : ds.length = n := by
   by_cases hd : ds.length = n
   ·exact hd
   ·have : (ds.length == n) = false := by simpa using hd
    unfold bN at q
    rw [this] at q
    exact (show False from q).elim
  unfold bN at q
  rw [show (ds.length == n) = true by simpa using hd] at q
  have q' : RW (fin (body (eA nN ds))) (aN K mg Q G H) (bG K mg E G H) := q
  refine ⟨_, hb _ E ⟨cdv, A, outer, s, H, rfl⟩ ⟨rfl, hr, qW⟩ ⟨PassesOwn.leaving⟩ G, G, eA nN ds, ?_, .refl e, ?_⟩
  ·have := Reps.startOk e (N.length - vs.length) r
   unfold L2.start eA
   rw [<- hN, r.length]
   exact .zero this
  ·cases hbd : body (eA nN ds) with
   | bad => rw [hbd] at q'; exact q'
   | err e => rw [hbd] at q'; exact q'
   | ok o =>
    rw [hbd] at q'
    cases o with
    | rt d => exact fun v G' H' s r => (show aN K mg Q G H d from q') v G' H' s r
    | rf es =>
     intro a vs G' H' s n e g r
     have q2 : aN K mg Q G H (.lst es) := q'
     have sg : aK G' (aO G' a (.lst vs)) := same_upd g
     refine q2 (.ref a) (aO G' a (.lst vs)) H' ⟨s.g.trans sg, s.h, fun b u p => ?_, fun b u p1 p2 => ?_⟩ ⟨a, vs, rfl, bH.of bP, r.mono sg⟩
     ·by_cases hb : b = a
      ·subst hb; rw [bP] at p; cases p; exact e
      ·rw [bC hb] at p; exact s.e b u p
     ·have hb : b ≠ a := cR p1 n
      rw [bC hb]; exact s.c b u p1 p2
    | nx U => exact fun U' G' H' ok s _ => (show aN K mg Q G H .non from q') .non G' H' s rfl
    | bk U => exact (show False from q').elim
    | ct U => exact (show False from q').elim
def sF (K : xFg) : Sp := fun vs H Q _ => ∃ (a : Addr) (ns : List Int), vs = [.ref a] /\ bH K H a (ns.map V.int) /\ ns.length <= 63 /\ ∀ H', Q (.bl true) H'
theorem VJ {k : Nat} {f : Addr} {fd : FuncData} {m : List D -> R D} (F : cH P w K mg base (bQ P w) k f fd ["_law_script"] (o6 K mg m)) (hm : ∀ ns : List Int, ns.length <= 63 -> m [.lst (ns.map .int)] = .ok (.bl true)) :
  cH P w K mg base (bQ P w) k f fd ["_law_script"] (sF K) := F.imp fun vs H Q E h => by
 obtain ⟨a, ns, rfl, hS, hl, q⟩ := h
 refine ⟨H, [.lst (ns.map .int)], aK.refl _, Reps.cons ⟨a, _, rfl, hS, Reps.ints ns⟩ Reps.nil, RW.ok_of (hm ns hl) fun v G' H' s r => ?_⟩
 cases r; exact q H'
end
theorem walkD {l : PySem.W.OpenLaw} {q : Program} {loose : List Str} {XP : (Str -> Option Value) -> Heap -> Prop} {YP : World -> Heap -> Prop} {d : DefRec} {K : Params -> xFg} (k : Nat) (hr : cL k callerA) (hn : l.most = some 63) (hdf : d.params.defaults = [])
  (hY : ∀ (w : World) (h : Heap), YP w h -> (K w.params).In h)
  (F : ∀ (w : World) (mg : Str -> Option Value) (fa : Addr) (h : Heap), (K w.params).In h -> h.Ns mainGlobals mg -> mg d.name = some (.ref fa) ->
   ∃ fd : FuncData, (∀ (s : Shared) (u : Value), BindsTo s fd ⟨[u], []⟩ [("_law_script", u)]) /\ ∀ base : Heap, (K w.params).In base -> base.Ns mainGlobals mg -> cH l.prog w (K w.params) mg base (bQ l.prog w) k fa fd ["_law_script"] (sF (K w.params))) :
  PySem.W.WalkO q loose XP YP l.row.toRowW d [] (fun f vs => PySem.call f vs) :=
 L2.walk_of (n := 63) (k := k) (x := "_law_script") (CX := fun w => bQ l.prog w) (sp := fun w => sF (K w.params)) hn (by decide) hdf hr hY F (fun _ _ a ns hl _ hS => ⟨a, ns, rfl, hS, hl, fun _ => rfl⟩) fun w H s e s' z => by
  obtain ⟨_, _, _, _, _, _, _, _, _, _, _, _, _, z⟩ := z
  exact z.elim
end DL
namespace DL
open L2
def iB (r : R aG) (g : DSt -> R aG) : R aG := r.bind fun o => match o with
 | .nx U' => g U'
 | o => .ok o
theorem bS (f g : DSt -> R aG) (U : DSt) : aV f g U = iB (f U) g := rfl
theorem bO (U : DSt) (g : DSt -> R aG) : iB (.ok (.nx U)) g = g U := rfl
theorem B7 (d : D) (g : DSt -> R aG) : iB (.ok (.rt d)) g = .ok (.rt d) := rfl
theorem B8 (U : DSt) (g : DSt -> R aG) : iB (.ok (.bk U)) g = .ok (.bk U) := rfl
theorem B9 (U : DSt) (g : DSt -> R aG) : iB (.ok (.ct U)) g = .ok (.ct U) := rfl
theorem CA (e : D) (g : DSt -> R aG) : iB (.err e) g = .err e := rfl
theorem lV (U : DSt) : eV U = .ok (.nx U) := rfl
theorem CB (d : D) (U : DSt) : aA 0 (some d :: U) = .ok d := rfl
theorem CC (n : Nat) (x : Option D) (U : DSt) : aA (n + 1) (x :: U) = aA n U := rfl
theorem CD (d : D) (U : DSt) : eC d U = .ok d := rfl
def bI (g : D -> D -> R D) (a b : R D) : R D := a.bind fun x => b.bind fun y => g x y
theorem cS (g : D -> D -> R D) (fa fb : DSt -> R D) (U : DSt) : aC g fa fb U = bI g (fa U) (fb U) := rfl
theorem cF (g : D -> D -> R D) (x y : D) : bI g (.ok x) (.ok y) = g x y := rfl
def unK (g : D -> R D) (a : R D) : R D := a.bind g
theorem CG (g : D -> R D) (fa : DSt -> R D) (U : DSt) : iQ g fa U = unK g (fa U) := rfl
theorem CH (g : D -> R D) (x : D) : unK g (.ok x) = g x := rfl
def iV (m : List D -> R D) (a : R (List D)) : R D := a.bind m
theorem nF (m : List D -> R D) (fs : DSt -> R (List D)) (U : DSt) : aU m fs U = iV m (fs U) := rfl
theorem CI (m : List D -> R D) (ds : List D) : iV m (.ok ds) = m ds := rfl
theorem CJ (m : List D -> R D) (e : D) : iV m (.err e) = .err e := rfl
def CK (m : List D -> R D) (a : R (List D)) : R D := a.noerr.bind m
theorem CL (m : List D -> R D) (fs : DSt -> R (List D)) (U : DSt) : VF m fs U = CK m (fs U) := rfl
theorem CM (m : List D -> R D) (ds : List D) : CK m (.ok ds) = m ds := rfl
def nG (g : List D -> R D) (a : R (List D)) : R D := a.bind fun ds => (g ds).noerr
theorem lW (g : List D -> R D) (fs : DSt -> R (List D)) (U : DSt) : aL g fs U = nG g (fs U) := rfl
theorem CN (g : List D -> R D) (ds : List D) : nG g (.ok ds) = (g ds).noerr := rfl
def CO (g : List D -> R (List D)) (a : R (List D)) : R (List D) := a.bind fun ds => (g ds).noerr
theorem CP (g : List D -> R (List D)) (fs : DSt -> R (List D)) (U : DSt) : jQ g fs U = CO g (fs U) := rfl
theorem CQ (g : List D -> R (List D)) (ds : List D) : CO g (.ok ds) = (g ds).noerr := rfl
theorem CS {α : Type} (a : α) : (R.ok a).noerr = .ok a := rfl
theorem CT (U : DSt) : aD U = .ok [] := rfl
def bK (a : R D) (b : R (List D)) : R (List D) := a.bind fun x => b.bind fun xs => .ok (x :: xs)
theorem bT (fa : DSt -> R D) (fs : DSt -> R (List D)) (U : DSt) : aB fa fs U = bK (fa U) (fs U) := rfl
theorem vV (x : D) (xs : List D) : bK (.ok x) (.ok xs) = .ok (x :: xs) := rfl
theorem CU (e : D) (b : R (List D)) : bK (.err e) b = .err e := rfl
def dM (a : R (List D)) : R D := a.bind fun ds => bif iR ds.length then .ok (.tup ds) else .bad
theorem kS (fs : DSt -> R (List D)) (U : DSt) : bL fs U = dM (fs U) := rfl
theorem CV : dM (.ok []) = .ok (.tup []) := rfl
theorem CW (a : D) : dM (.ok [a]) = .ok (.tup [a]) := rfl
theorem CY (a b : D) : dM (.ok [a, b]) = .ok (.tup [a, b]) := rfl
theorem CZ (a b c : D) : dM (.ok [a, b, c]) = .ok (.tup [a, b, c]) := rfl
theorem C0 (a b c d : D) : dM (.ok [a, b, c, d]) = .ok (.tup [a, b, c, d]) := rfl
theorem C1 (a b c d e : D) : dM (.ok [a, b, c, d, e]) = .ok (.tup [a, b, c, d, e]) := rfl
theorem C2 (a b c d e f : D) : dM (.ok [a, b, c, d, e, f]) = .ok (.tup [a, b, c, d, e, f]) := rfl
theorem C3 (a b c d e f g h i : D) : dM (.ok [a, b, c, d, e, f, g, h, i]) = .ok (.tup [a, b, c, d, e, f, g, h, i]) := rfl
def gO (a : R (List D)) : R (List D) := a.bind fun ds => bif iR ds.length then .ok ds else .bad
theorem nH (fs : DSt -> R (List D)) (U : DSt) : bD fs U = gO (fs U) := rfl
theorem C4 : gO (.ok []) = .ok [] := rfl
theorem C5 (a : D) : gO (.ok [a]) = .ok [a] := rfl
theorem C6 (a b : D) : gO (.ok [a, b]) = .ok [a, b] := rfl
theorem C7 (a b c : D) : gO (.ok [a, b, c]) = .ok [a, b, c] := rfl
theorem C8 (a b c d : D) : gO (.ok [a, b, c, d]) = .ok [a, b, c, d] := rfl
theorem C9 (a b c d e : D) : gO (.ok [a, b, c, d, e]) = .ok [a, b, c, d, e] := rfl
theorem DB (a b c d e f : D) : gO (.ok [a, b, c, d, e, f]) = .ok [a, b, c, d, e, f] := rfl
def pJ (a : R (List D)) : R D := a.bind fun ds => .ok (.lst ds)
theorem iW (fl : DSt -> R (List D)) (U : DSt) : aY fl U = pJ (fl U) := rfl
theorem DC (ds : List D) : pJ (.ok ds) = .ok (.lst ds) := rfl
def eD (a : R D) : R Bool := a.bind eK
theorem iX (f : DSt -> R D) (U : DSt) : aM f U = eD (f U) := rfl
theorem DD (b : Bool) : eD (.ok (.bl b)) = .ok b := rfl
def sH (a : R Bool) (fb : DSt -> R Bool) (U : DSt) : R Bool := a.bind fun k => bif k then fb U else .ok false
theorem nI (fa fb : DSt -> R Bool) (U : DSt) : gD fa fb U = sH (fa U) fb U := rfl
theorem sI (fb : DSt -> R Bool) (U : DSt) : sH (.ok true) fb U = fb U := rfl
theorem DH (fb : DSt -> R Bool) (U : DSt) : sH (.ok false) fb U = .ok false := rfl
def vW (a : R Bool) (fb : DSt -> R Bool) (U : DSt) : R Bool := a.bind fun k => bif k then .ok true else fb U
theorem nJ (fa fb : DSt -> R Bool) (U : DSt) : eS fa fb U = vW (fa U) fb U := rfl
theorem DJ (fb : DSt -> R Bool) (U : DSt) : vW (.ok true) fb U = .ok true := rfl
theorem nK (fb : DSt -> R Bool) (U : DSt) : vW (.ok false) fb U = fb U := rfl
def lX (a : R Bool) : R Bool := a.bind fun k => .ok (!k)
theorem sJ (fa : DSt -> R Bool) (U : DSt) : eF fa U = lX (fa U) := rfl
theorem DK (b : Bool) : lX (.ok b) = .ok (!b) := rfl
def vX (a : R D) (fb : DSt -> R D) (U : DSt) : R D := a.bind fun x => (eK x).bind fun k => bif k then fb U else .ok (.bl false)
theorem DM (fa fb : DSt -> R D) (U : DSt) : mZ fa fb U = vX (fa U) fb U := rfl
theorem DN (fb : DSt -> R D) (U : DSt) : vX (.ok (.bl true)) fb U = fb U := rfl
theorem DP (fb : DSt -> R D) (U : DSt) : vX (.ok (.bl false)) fb U = .ok (.bl false) := rfl
def vY (a : R D) (fb : DSt -> R D) (U : DSt) : R D := a.bind fun x => (eK x).bind fun k => bif k then .ok (.bl true) else fb U
theorem DQ (fa fb : DSt -> R D) (U : DSt) : vOr fa fb U = vY (fa U) fb U := rfl
theorem DU (fb : DSt -> R D) (U : DSt) : vY (.ok (.bl true)) fb U = .ok (.bl true) := rfl
theorem DV (fb : DSt -> R D) (U : DSt) : vY (.ok (.bl false)) fb U = fb U := rfl
def DX (a : R D) : R D := a.bind fun x => (eK x).bind fun k => .ok (.bl !k)
theorem DY (fa : DSt -> R D) (U : DSt) : vD fa U = DX (fa U) := rfl
theorem DZ (b : Bool) : DX (.ok (.bl b)) = .ok (.bl !b) := rfl
def vZ (c : R Bool) (fa fb : DSt -> R D) (U : DSt) : R D := c.bind fun k => bif k then fa U else fb U
theorem D1 (c : DSt -> R Bool) (fa fb : DSt -> R D) (U : DSt) : eIf c fa fb U = vZ (c U) fa fb U := rfl
theorem D2 (fa fb : DSt -> R D) (U : DSt) : vZ (.ok true) fa fb U = fa U := rfl
theorem D3 (fa fb : DSt -> R D) (U : DSt) : vZ (.ok false) fa fb U = fb U := rfl
def wA (c : R Bool) (f g : DSt -> R aG) (U : DSt) : R aG := c.bind fun k => bif k then f U else g U
theorem dN (c : DSt -> R Bool) (f g : DSt -> R aG) (U : DSt) : dF c f g U = wA (c U) f g U := rfl
theorem iY (f g : DSt -> R aG) (U : DSt) : wA (.ok true) f g U = f U := rfl
theorem fL (f g : DSt -> R aG) (U : DSt) : wA (.ok false) f g U = g U := rfl
def D4 (g g' : D -> D -> R D) (a b c : R D) : R D := a.bind fun x => b.bind fun y => (g x y).bind fun z => (eK z).bind fun k => bif k then c.bind fun w => g' y w else .ok (.bl false)
theorem D5 (g g' : D -> D -> R D) (fa fb fc : DSt -> R D) (U : DSt) : o0 g g' fa fb fc U = D4 g g' (fa U) (fb U) (fc U) := rfl
theorem D6 (p q : Int -> Int -> Bool) (i j k : Int) : D4 (gB p) (gB q) (.ok (.int i)) (.ok (.int j)) (.ok (.int k)) = .ok (.bl (p i j && q j k)) := by
 show (bif p i j then R.ok (D.bl (q j k)) else R.ok (D.bl false)) = _
 cases p i j <;> rfl
def D7 (i : Nat) (l : R (List D)) (a : R D) (U : DSt) : R aG := l.bind fun ds => a.bind fun d => bif most ds.length then .ok (.nx (U.set i (some (.lst (ds ++ [d]))))) else .bad
theorem lY (own : List Nat) (i : Nat) (fe : DSt -> R D) (U : DSt) : dU own i fe U = D7 i (dS U i) (fe (mask own U)) U := rfl
theorem D8 {n : Nat} (h : n <= 1000000) : most n = true := xai (xbz h (by decide))
theorem lZ (i : Nat) (ds : List D) (d : D) (U : DSt) (h : ds.length <= 1000000) : D7 i (.ok ds) (.ok d) U = .ok (.nx (U.set i (some (.lst (ds ++ [d]))))) := by
 show (bif most ds.length then _ else _) = _
 rw [D8 h]; rfl
def D9 (i : Nat) (l : R (List D)) (a : R D) (U : DSt) : R aG := l.bind fun ds => a.bind fun d => bif most ds.length && imm d then .ok (.nx (U.set i (some (.lst (ds ++ [d]))))) else .bad
theorem EA (i : Nat) (fe : DSt -> R D) (U : DSt) : TQ i fe U = D9 i (dS U i) (fe U) U := rfl
theorem VL (i : Nat) (ds : List D) (d : D) (U : DSt) (h : ds.length <= 1000000) (h' : imm d = true) : D9 i (.ok ds) (.ok d) U = .ok (.nx (U.set i (some (.lst (ds ++ [d]))))) := by
 show (bif most ds.length && imm d then _ else _) = _
 rw [D8 h, h']; rfl
theorem EB (ds : List D) (U : DSt) : dS (some (.lst ds) :: U) 0 = .ok ds := rfl
theorem EC (x : Option D) (U : DSt) (n : Nat) : dS (x :: U) (n + 1) = dS U n := rfl
theorem fT {i : Int} (h1 : -(10 ^ 100) <= i) (h2 : i <= 10 ^ 100) : gK i = true := TW (n := 400) (B.of (k := 10 ^ 100) (by omega))
theorem ED {i : Int} (h1 : -(10 ^ 100) <= i) (h2 : i <= 10 ^ 100) (h : i ≠ 0) : m7 i = true := TY (n := 400) (B.of (k := 10 ^ 100) (by omega)) h
def iC (a : R D) : R aG := a.bind fun d => .ok (.rt d)
theorem nL (fe : DSt -> R D) (U : DSt) : cD fe U = iC (fe U) := rfl
theorem EG (d : D) : iC (.ok d) = .ok (.rt d) := rfl
theorem EH (e : D) : iC (.err e) = .err e := rfl
def wB (a : R D) (U : DSt) : R aG := a.bind fun _ => .ok (.nx U)
theorem EI (fe : DSt -> R D) (U : DSt) : S5 fe U = wB (fe U) U := rfl
theorem EJ (d : D) (U : DSt) : wB (.ok d) U = .ok (.nx U) := rfl
theorem EK (e : D) (U : DSt) : wB (.err e) U = .err e := rfl
def sK (i : Nat) (a : R D) (U : DSt) : R aG := a.bind fun d => .ok (.nx (U.set i (some d)))
theorem EL (i : Nat) (fe : DSt -> R D) (U : DSt) : bZ i fe U = sK i (fe U) U := rfl
theorem EM (own : List Nat) (i : Nat) (fe : DSt -> R D) (U : DSt) : cM own i fe U = sK i (fe (mask own U)) U := rfl
theorem EN (i : Nat) (d : D) (U : DSt) : sK i (.ok d) U = .ok (.nx (U.set i (some d))) := rfl
theorem EO (i : Nat) (e : D) (U : DSt) : sK i (.err e) U = .err e := rfl
def EQ (i : Nat) (a : R D) (U : DSt) : R aG := a.bind fun d => bif imm d then .ok (.nx (U.set i (some d))) else .bad
theorem VM (i : Nat) (fe : DSt -> R D) (U : DSt) : S6 i fe U = EQ i (fe U) U := rfl
theorem VN (i : Nat) (d : D) (U : DSt) (h : imm d = true) : EQ i (.ok d) U = .ok (.nx (U.set i (some d))) := by
 show (bif imm d then _ else _) = _
 rw [h]; rfl
def wC (i : Nat) (a : R (List D)) (U : DSt) : R aG := a.bind fun ds => .ok (.nx (U.set i (some (.lst ds))))
theorem wE (own : List Nat) (i : Nat) (fe : DSt -> R (List D)) (U : DSt) : fS own i fe U = wC i (fe (mask own U)) U := rfl
theorem wF (i : Nat) (ds : List D) (U : DSt) : wC i (.ok ds) U = .ok (.nx (U.set i (some (.lst ds)))) := rfl
def pK (ks : List Nat) (gp : D -> R (List D)) (a : R D) (U : DSt) : R aG := a.bind fun d => (gp d).noerr.bind fun us => .ok (.nx (setAll U ks us))
theorem kT (own ks : List Nat) (gp : D -> R (List D)) (fe : DSt -> R D) (U : DSt) : fI own ks gp fe U = pK ks gp (fe (mask own U)) U := rfl
theorem ES (i j : Nat) (a b : D) (U : DSt) : pK [i, j] (b8 2) (.ok (.tup [a, b])) U = .ok (.nx ((U.set i (some a)).set j (some b))) := rfl
theorem ET (i j : Nat) (a b : D) (U : DSt) : pK [i, j] (b8 2) (.ok (.lst [a, b])) U = .ok (.nx ((U.set i (some a)).set j (some b))) := rfl
theorem EU (i j k : Nat) (a b c : D) (U : DSt) : pK [i, j, k] (b8 3) (.ok (.tup [a, b, c])) U = .ok (.nx (((U.set i (some a)).set j (some b)).set k (some c))) := rfl
theorem EV (i j k : Nat) (a b c : D) (U : DSt) : pK [i, j, k] (b8 3) (.ok (.lst [a, b, c])) U = .ok (.nx (((U.set i (some a)).set j (some b)).set k (some c))) := rfl
def EW (i j : Nat) (a : R (List D)) (U : DSt) : R aG := a.bind fun ds => match ds with
 | [a, b] => .ok (.nx ((U.set i (some a)).set j (some b)))
 | _ => .bad
theorem EY (own : List Nat) (i j : Nat) (fs : DSt -> R (List D)) (U : DSt) : TN own i j fs U = EW i j (fs (mask own U)) U := rfl
theorem EZ (i j : Nat) (a b : D) (U : DSt) : EW i j (.ok [a, b]) U = .ok (.nx ((U.set i (some a)).set j (some b))) := rfl
def E1 (c : Str) (a : R (List D)) : R aG := a.bind fun ds => bif iR ds.length then .err (.exc c []) else .bad
theorem E2 (c : Str) (fs : DSt -> R (List D)) (U : DSt) : B5 c fs U = E1 c (fs U) := rfl
theorem E3 (c : Str) (a : D) : E1 c (.ok [a]) = .err (.exc c []) := rfl
theorem E4 (c : Str) (U : DSt) : sE c U = .err (.exc c []) := rfl
def E5 (i : Nat) (c : Str) (r : R aG) (hnd : DSt -> R aG) (U : DSt) : R aG := match r with
 | .ok o => .ok o
 | .err (.exc cc as) => bif kL cc c == some true then (hnd (U.set i (some (.exc cc as)))).noerr.bind fun o => match o with
   | .nx U' => .ok (.nx (U'.set i none))
   | _ => .bad
  else .bad
 | _ => .bad
theorem E6 (i : Nat) (c : Str) (body hnd : DSt -> R aG) (U : DSt) : VG i c body hnd U = E5 i c (body U) hnd U := rfl
theorem E7 (i : Nat) (c : Str) (o : aG) (hnd : DSt -> R aG) (U : DSt) : E5 i c (.ok o) hnd U = .ok o := rfl
def VO (i : Nat) (r : R aG) : R aG := r.noerr.bind fun o => match o with
 | .nx U' => .ok (.nx (U'.set i none))
 | _ => .bad
theorem E8 (i : Nat) (U : DSt) : VO i (.ok (.nx U)) = .ok (.nx (U.set i none)) := rfl
theorem E9 (d : D) : fin (.ok (.rt d)) = .ok d := rfl
theorem FB (U : DSt) : fin (.ok (.nx U)) = .ok .non := rfl
theorem FC (e : D) : fin (.err e) = .err e := rfl
theorem pL (i j : Int) : aI (.int i) (.int j) = .ok (.int (i + j)) := rfl
theorem FE (i j : Int) : gSub (.int i) (.int j) = .ok (.int (i - j)) := rfl
theorem jS (i j : Int) (hi : gK i = true) (hj : gK j = true) : iT (.int i) (.int j) = .ok (.int (i * j)) := by
 show (bif gK i && gK j then _ else _) = _
 rw [hi, hj]; rfl
theorem pM (i j : Int) (h : m7 j = true) (h0 : 0 < j) : eX (.int i) (.int j) = .ok (.int (i / j)) := by
 show (bif m7 j then R.ok (D.int (i.fdiv j)) else .bad) = _
 rw [h, Int.fdiv_eq_ediv_of_nonneg _ (Int.le_of_lt h0)]; rfl
theorem dO (i j : Int) (h0 : 0 < j) : aQ (.int i) (.int j) = .ok (.int (i % j)) := by
 have : decide (j ≠ 0) = true := xai (by omega)
 show (bif decide (j ≠ 0) then R.ok (D.int (i.fmod j)) else .bad) = _
 rw [this, Int.fmod_eq_emod_of_nonneg _ (Int.le_of_lt h0)]; rfl
theorem VP (i j : Int) (h : vN i j = true) : pF (.int i) (.int j) = .ok (.int (i ^ j.toNat)) := by
 show (bif vN i j then _ else _) = _
 rw [h]; rfl
theorem VQ (i j : Int) (h : 0 <= j) : T5 (.int i) (.int j) = .ok (.int (i / 2 ^ j.toNat)) := by
 show (bif decide (0 <= j) then _ else _) = _
 rw [xai h]; rfl
theorem FF (i : Int) : iU (.int i) = .ok (.int (-i)) := rfl
theorem FG (i j : Int) : gL (.int i) (.int j) = .ok (.bl (decide (i < j))) := rfl
theorem FH (i j : Int) : rZ (.int i) (.int j) = .ok (.bl (decide (i <= j))) := rfl
theorem FI (i j : Int) : eM (.int i) (.int j) = .ok (.bl (decide (j < i))) := rfl
theorem FJ (i j : Int) : gGe (.int i) (.int j) = .ok (.bl (decide (j <= i))) := rfl
theorem pN {a b : D} (h : gM a b = true) : a8 a b = .ok (.bl (a7 a b)) := by unfold a8; rw [h]; rfl
theorem sL {a b : D} (h : gM a b = true) : cE a b = .ok (.bl (!a7 a b)) := by unfold cE; rw [h]; rfl
theorem wG (i j : Int) : a7 (.int i) (.int j) = decide (i = j) := by unfold a7; rfl
theorem FK (i j : Int) : a8 (.int i) (.int j) = .ok (.bl (decide (i = j))) := by rw [pN rfl, wG]
theorem FL (i j : Int) : cE (.int i) (.int j) = .ok (.bl (!decide (i = j))) := by rw [sL rfl, wG]
theorem FM (i j : Bool) : a8 (.bl i) (.bl j) = .ok (.bl (i == j)) := by rw [pN rfl]; unfold a7; rfl
theorem FN (i j : Bool) : cE (.bl i) (.bl j) = .ok (.bl (!(i == j))) := by rw [sL rfl]; unfold a7; rfl
abbrev t3 (x y z : Int) : D := .tup [.int x, .int y, .int z]
abbrev l3 (x y z : Int) : D := .lst [.int x, .int y, .int z]
theorem FO : ∀ (ns ms : List Int), eqDs (ns.map D.int) (ms.map D.int) = decide (ns = ms)
 | [], [] => by unfold eqDs; rfl
 | [], _ :: _ => by unfold eqDs; rfl
 | _ :: _, [] => by unfold eqDs; rfl
 | n :: ns, m :: ms => by
  show eqDs (D.int n :: ns.map D.int) (D.int m :: ms.map D.int) = _
  unfold eqDs
  rw [FO ns ms, wG, xcg]
  simp
theorem wH (a b c x y z : Int) : a7 (t3 a b c) (t3 x y z) = decide (a = x /\ b = y /\ c = z) := by
 have := FO [a, b, c] [x, y, z]
 unfold a7
 rw [show ([D.int a, .int b, .int c] : List D) = [a, b, c].map D.int from rfl, show ([D.int x, .int y, .int z] : List D) = [x, y, z].map D.int from rfl, this, xcg]
 simp
theorem VR (a b c x y z : Int) : a7 (l3 a b c) (l3 x y z) = decide (a = x /\ b = y /\ c = z) := by
 have := wH a b c x y z
 unfold a7 at this ⊢
 exact this
theorem FP (a b c x y z : Int) : a8 (t3 a b c) (t3 x y z) = .ok (.bl (decide (a = x /\ b = y /\ c = z))) := by rw [pN rfl, wH]
theorem FQ (a b c x y z : Int) : cE (t3 a b c) (t3 x y z) = .ok (.bl (!decide (a = x /\ b = y /\ c = z))) := by rw [sL rfl, wH]
theorem FR (a b c x y z : Int) : a8 (l3 a b c) (l3 x y z) = .ok (.bl (decide (a = x /\ b = y /\ c = z))) := by rw [pN rfl, VR]
theorem FS (a b : Bool) : sB (.bl a) (.bl b) = .ok (.bl (a == b)) := rfl
theorem FT (a b : Bool) : sC (.bl a) (.bl b) = .ok (.bl (a != b)) := rfl
theorem FU (d : D) : sB d .non = .ok (.bl (lR d)) := by cases d <;> rfl
theorem FV (d : D) : sC d .non = .ok (.bl (!lR d)) := by cases d <;> rfl
theorem FW (a b c : D) : aE (.tup [a, b, c]) (.int 0) = .ok a := rfl
theorem FX (a b c : D) : aE (.tup [a, b, c]) (.int 1) = .ok b := rfl
theorem FY (a b c : D) : aE (.tup [a, b, c]) (.int 2) = .ok c := rfl
theorem FZ (a b c : D) : aE (.lst [a, b, c]) (.int 0) = .ok a := rfl
theorem GA (a b c : D) : aE (.lst [a, b, c]) (.int 1) = .ok b := rfl
theorem GB (a b c : D) : aE (.lst [a, b, c]) (.int 2) = .ok c := rfl
theorem l0 {xs : List D} {j : Nat} {d : D} (h : xs[j]? = some d) : aE (.lst xs) (.int (j : Int)) = .ok d := by
 show (match dJ xs (j : Int) with | some d => R.ok d | none => .bad) = _
 rw [AE h]
theorem VS {xs : List D} {j : Nat} {d : D} (h : xs[j]? = some d) : aE (.tup xs) (.int (j : Int)) = .ok d := by
 show (match dJ xs (j : Int) with | some d => R.ok d | none => .bad) = _
 rw [AE h]
theorem GC (xs : List D) : bB [.lst xs] = .ok (.int xs.length) := rfl
theorem GD : bB [.tup []] = .ok (.int 0) := rfl
theorem GF (a : D) : bB [.tup [a]] = .ok (.int 1) := rfl
theorem GG (a b : D) : bB [.tup [a, b]] = .ok (.int 2) := rfl
theorem GH (a b c : D) : bB [.tup [a, b, c]] = .ok (.int 3) := rfl
theorem GI (a b c d : D) : bB [.tup [a, b, c, d]] = .ok (.int 4) := rfl
theorem GJ (i : Int) : US [.int i] = .ok (.int (i.natAbs : Int)) := rfl
theorem GK (i j : Int) : UV [.int i, .int j] = .ok (.int (min i j)) := rfl
theorem GL (i j : Int) : UW [.int i, .int j] = .ok (.int (max i j)) := rfl
theorem GM (b : Bool) : fK [.bl b] = .ok (.int (if b then 1 else 0)) := rfl
theorem GN (i : Int) : g2 bW [.int i, .ty "int"] = .ok (.bl true) := rfl
theorem GO (i : Int) : g2 bW [.int i, .ty "bool"] = .ok (.bl false) := rfl
theorem GP (i : Bool) : g2 bW [.bl i, .ty "bool"] = .ok (.bl true) := rfl
theorem GQ (i : Bool) : g2 bW [.bl i, .ty "int"] = .ok (.bl true) := rfl
theorem GS (xs : List D) : g2 bW [.tup xs, .ty "tuple"] = .ok (.bl true) := rfl
theorem GU (xs : List D) : g2 bW [.lst xs, .ty "list"] = .ok (.bl true) := rfl
theorem GV (xs : List D) : g2 bW [.lst xs, .ty "tuple"] = .ok (.bl false) := rfl
theorem GW (xs : List D) : g2 bW [.tup xs, .ty "list"] = .ok (.bl false) := rfl
theorem GX (c : Str) : g2 bW [.exc c [], .ty "ValueError"] = .ok (.bl true) := rfl
theorem wI (j : Int) (h : fF j = true) : eG [.int j] = .ok (cC 0 j.toNat) := by
 show (bif fF j then _ else _) = _
 rw [h]; rfl
theorem VT (i j : Int) (h : fF i = true) (h' : fF j = true) : SZ [.int i, .int j] = .ok (cC i (j - i).toNat) := by
 show (bif fF i && fF j then _ else _) = _
 rw [h, h']; rfl
theorem wJ {i : Int} (h : -1000000000 <= i) (h' : i <= 1000000000) : fF i = true := by
 unfold fF
 rw [Nat.blt_eq]
 omega
def wK (g : List D -> R (List D)) (a : R (List D)) : R (List D) := a.bind g
theorem wL (g : List D -> R (List D)) (fs : DSt -> R (List D)) (U : DSt) : fG g fs U = wK g (fs U) := (rfl)
theorem GY (g : List D -> R (List D)) (ds : List D) : wK g (.ok ds) = g ds := (rfl)
def wM (a : R D) : R (List D) := a.bind BE
theorem GZ (f : DSt -> R D) (U : DSt) : c5 f U = wM (f U) := rfl
theorem HA (xs : List D) : wM (.ok (.tup xs)) = .ok xs := rfl
theorem HB (xs : List D) : wM (.ok (.lst xs)) = .ok xs := rfl
def wN (ks : List Nat) (gp : D -> R (List D)) (fb : DSt -> R aG) (a : R (List D)) (U : DSt) : R aG := a.bind fun ds => cQ ks gp fb ds U
theorem wO (own ks : List Nat) (gp : D -> R (List D)) (fi : DSt -> R (List D)) (fb : DSt -> R aG) (U : DSt) : gH own ks gp fi fb U = wN ks gp fb (fi (mask own U)) U := rfl
theorem sM (ks : List Nat) (gp : D -> R (List D)) (fb : DSt -> R aG) (ds : List D) (U : DSt) : wN ks gp fb (.ok ds) U = cQ ks gp fb ds U := rfl
def gP (r : R aG) (k : DSt -> R aG) : R aG := r.bind fun o => match o with
 | .nx U' => k U'
 | .ct U' => k U'
 | .bk U' => .ok (.nx U')
 | .rt d => .ok (.rt d)
 | .rf d => .ok (.rf d)
theorem nM (U : DSt) (k : DSt -> R aG) : gP (.ok (.nx U)) k = k U := rfl
theorem HC (U : DSt) (k : DSt -> R aG) : gP (.ok (.ct U)) k = k U := rfl
theorem HD (U : DSt) (k : DSt -> R aG) : gP (.ok (.bk U)) k = .ok (.nx U) := rfl
theorem HE (d : D) (k : DSt -> R aG) : gP (.ok (.rt d)) k = .ok (.rt d) := rfl
theorem HF (d : D) (k : DSt -> R aG) : gP (.err d) k = .err d := rfl
theorem sN (ks : List Nat) (gp : D -> R (List D)) (fb : DSt -> R aG) (U : DSt) : cQ ks gp fb [] U = .ok (.nx U) := rfl
theorem pO (i : Nat) (fb : DSt -> R aG) (d : D) (ds : List D) (U : DSt) : cQ [i] bV fb (d :: ds) U = gP (fb (U.set i (some d))) (cQ [i] bV fb ds) := by
 show (fb (U.set i (some d))).bind _ = _
 unfold gP
 cases fb (U.set i (some d)) with
 | ok o => cases o <;> rfl
 | err e => rfl
 | bad => rfl
theorem pP {i : Nat} {fb : DSt -> R aG} (I : Nat -> DSt -> Prop) (ds : List D) (hs : ∀ (k : Nat) (d : D) (U : DSt), ds[k]? = some d -> I k U -> ∃ U', (fb (U.set i (some d)) = .ok (.nx U') \/ fb (U.set i (some d)) = .ok (.ct U')) /\ I (k + 1) U') (U : DSt) (h : I 0 U) : ∃ U', cQ [i] bV fb ds U = .ok (.nx U') /\ I ds.length U' := by
 have go : ∀ (ds : List D) (n : Nat), (∀ (k : Nat) (d : D) (U : DSt), ds[k]? = some d -> I (n + k) U -> ∃ U', (fb (U.set i (some d)) = .ok (.nx U') \/ fb (U.set i (some d)) = .ok (.ct U')) /\ I (n + k + 1) U') -> ∀ U, I n U -> ∃ U', cQ [i] bV fb ds U = .ok (.nx U') /\ I (n + ds.length) U' := by
  intro ds
  induction ds with
  | nil => intro n _ U h; exact ⟨U, rfl, h⟩
  | cons d ds ih =>
   intro n hs U h
   obtain ⟨σ1, h1, h2⟩ := hs 0 d U rfl h
   obtain ⟨σ2, h3, h4⟩ := ih (n + 1) (fun k d' U hd hI => by
    have := hs (k + 1) d' U (by simpa using hd) (by rw [show n + (k + 1) = n + 1 + k by omega]; exact hI)
    rw [show n + (k + 1) + 1 = n + 1 + k + 1 by omega] at this
    exact this) σ1 h2
   refine ⟨σ2, ?_, by rw [xaf, show n + (ds.length + 1) = n + 1 + ds.length by omega]; exact h4⟩
   rw [pO]
   rcases h1 with h1 | h1 <;> rw [h1]
   ·exact h3
   ·exact h3
 obtain ⟨U', h1, h2⟩ := go ds 0 (fun k d U hd hI => by
  rw [xci] at hI ⊢
  exact hs k d U hd hI) U h
 exact ⟨U', h1, by rw [xci] at h2; exact h2⟩
def wP (k : Nat) (ks : List Nat) (a : R (List D)) (gp : D -> R (List D)) (c : DSt -> R Bool) (e : DSt -> R D) (U : DSt) : R (List D) := a.bind fun ds => bif most ds.length then (fR ks gp c e (List.replicate k none ++ U) ds).noerr else .bad
theorem nO (k : Nat) (ks : List Nat) (fi : DSt -> R (List D)) (gp : D -> R (List D)) (c : DSt -> R Bool) (e : DSt -> R D) (U : DSt) : dY k ks fi gp c e U = wP k ks (fi U) gp c e U := rfl
theorem sO {n : Nat} (h : n <= 1000000) : most n = true := xai (xbz h (by decide))
theorem pQ {ds : List D} {e : DSt -> R D} {U : DSt} {g : D -> D} (hl : ds.length <= 1000000) (h : ∀ d ∈ ds, e (some d :: U) = .ok (g d)) : wP 1 [0] (.ok ds) bV dB e U = .ok (ds.map g) := by
 have go : ∀ ds : List D, (∀ d ∈ ds, e (some d :: U) = .ok (g d)) -> fR [0] bV dB e (List.replicate 1 none ++ U) ds = .ok (ds.map g) := by
  intro ds
  induction ds with
  | nil => intro _; rfl
  | cons d ds ih =>
   intro h
   show (e (some d :: U)).bind (fun y => (fR [0] bV dB e (List.replicate 1 none ++ U) ds).bind fun ys => .ok (y :: ys)) = _
   rw [h d xax, ih fun d' hd => h d' (xah _ hd)]; rfl
 show (bif most ds.length then _ else _) = _
 rw [sO hl, go ds h]; rfl
end DL
namespace DL
open L2 PyProof.Rows
section
variable {X : Cx} {E : XK} {e : Expr} {te : TE} {pos : Pos}
def putK (i : Nat) (l : R (List D)) (a k : R D) (U : DSt) : R aG := l.bind fun ds => a.bind fun d => k.bind fun kd => match kd with
 | .int n => match iM ds.length n with
  | some j => .ok (.nx (U.set i (some (.lst (ds.set j d)))))
  | none => .bad
 | _ => .bad
variable {own ol : List Nat} {x : Str} {k : Expr} {fk fe : DSt -> R D} {np tpos : Pos}
end
def tR (K : xFg) (mg : Str -> Option Value) (E : XK) (f : DSt -> R (List D)) : TI := fun U H R => ∃ G Ud, bU K mg Ud U G H /\ RW (f Ud) (fun ds => ∀ J G' H', Step G H G' H' -> (∀ G2, eU K mg J G2 ds) -> R J H') (bG K mg E G H)
def DR (X : Cx) (E : XK) (tg iter : Expr) (f : DSt -> R (List D)) : Prop := PI X tg iter (tR X.K X.mg E f)
section
variable {X : Cx} {E : XK} {K : xFg} {mg : Str -> Option Value} {p pos : Pos} {e : Expr} {es : List Expr} {fs : DSt -> R (List D)}
def sP : D -> R D
 | .int i => bif decide (i.natAbs.log2 < 1920) then .ok (.str (toString i)) else .bad
 | _ => .bad
abbrev eZ := g1 sP
theorem VU : iA K mg (fun xs H Q => ∃ i, xs = [.int i] /\ i.natAbs.log2 < 1920 /\ Q (.str (toString i)) H) eZ := nE fun G H d v Q e r q => by
 cases d with
 | int i =>
  cases r
  cases hC : decide (i.natAbs.log2 < 1920) with
  | false => simp only [sP, hC, cond_false] at q; exact q.elim
  | true => simp only [sP, hC, cond_true] at q; exact ⟨i, rfl, xat hC, aN.now q e rfl⟩
 | _ => exact (show False from q).elim
theorem VV (hm : X.mg "str" = none) (ha : DA X E (e :: es) fs) (hg : Gl X "str" := by rfl) (he : starEach (e :: es) X.env = (false, eval e X.env) :: starEach es X.env := by rfl) (hpl : (backTo pos (starEach es X.env)).any (·.1) = false := by rfl) : DE X E (.Call (.Name "str" p) (e :: es) [] pos) (aL eZ fs) :=
 rK OZ VU hm ha nB hg (by decide) (by decide) he hpl
end
end DL
namespace DL
open L2 PyProof.Rows
theorem VW (l : Addr) (items : Array Value) (n : Nat) (b : Addr) (items2 : Array Value) (n2 : Nat) (dd : Option Addr) (sl : Array (Option Value)) (hc0 : ¬(!items.isEmpty && Builtin.List.listTooLong (items.size + items2.size)) = true) (hc1 : items.size <= sizeLine) (hs2 : items.size + items2.size <= sizeLine + 1) :
  Meets (Builtin.«list.extend» ⟨[.ref l, .ref b], []⟩) (fun _ R s => s.heap.get? l = some { cls := .type "list", dict := none, data := .seq items n, slots := #[] } /\ s.heap.get? b = some { cls := .type "list", dict := dd, data := .seq items2 n2, slots := sl } /\ R (.ok (.ret Value.none)) { s with heap := s.heap.update l (Obj.mapSeq fun x => x ++ items2), toks := s.toks }) :=
 .of_wp fun _ _ _ _ s q => by
  obtain ⟨hp, gg, dr, tk, os⟩ := s
  obtain ⟨e1, e2, q⟩ := q
  have i1 := AutoSeq1.idx_int
  have i2 := AutoSeq1.sub_tuple_tuple
  have i3 := AutoSeq1.sub_list_list
  have i4 := AutoSeq1.sub_tuple_list
  have i5 := AutoSeq1.sub_list_tuple
  have room : (items ++ items2).size <= sizeLine + 1 := by
   rw [Array.size_append]
   exact hs2
  wp_walk using (wpAny_updateSeq e1 rfl (hz := hc1) (_hz' := room)), wpAny_loadPart' e1, wpAny_loadPart' e2
  exact ⟨_, rfl, q⟩
section
variable {X : Cx}
def VX (K : xFg) : V -> List V -> Hp -> VK -> Prop := fun x vs H Q => ∃ l b xs zs, x = .ref l /\ vs = [.ref b] /\ H l = some (.lst xs) /\ bH K H b zs /\ xs.length + zs.length <= sizeLine /\ Q .non (aO H l (.lst (xs ++ zs)))
theorem VY : oS X "list.extend" (VX X.K) := by
 intro pins s U H x vs v us Q I rx rv h
 obtain ⟨l, b, xs, zs, rfl, rfl, hH, hB, hz, q⟩ := h
 cases rx
 obtain ⟨u, rfl, ru⟩ := rv.one
 cases ru
 obtain ⟨z, its, n, r, hl, e⟩ := I.lstM hH
 obtain ⟨its2, r2, pl2, z2⟩ := I.list hB
 have hl2 := r2.length
 obtain ⟨⟨cls2, dd2, data2, sl2⟩, ho2, hc2, n2, hd2⟩ := id pl2.isList
 simp only at hc2 hd2
 subst hc2 hd2
 have hsz : its.toArray.size + its2.toArray.size <= sizeLine := by rw [xal, xal]; omega
 have hlong : ¬ (!its.toArray.isEmpty && Builtin.List.listTooLong (its.toArray.size + its2.toArray.size)) = true := by
  rw [QQ hsz, Bool.and_false]
  exact xa2
 refine call_meets F.slot_list_extend ⟨_, e, rfl⟩ F.entry_list_extend (F.args_list_extend_2 _ _)
  (VW l its.toArray n b its2.toArray n2 dd2 sl2 hlong (by rw [xal]; omega) (by omega)) ⟨e, ho2, ?_⟩
 refine ⟨.non, _, I.lset (its' := its ++ its2) hH e (by simp) (r.append r2) ?_, rfl, q⟩
 rw [xaa]
 omega
end
def l5 (ds : List D) (i : Nat) (U : DSt) : D -> R aG
 | .lst es => bif aW (ds.length + es.length) then .ok (.nx (U.set i (some (.lst (ds ++ es))))) else .bad
 | _ => .bad
def pR (own : List Nat) (i : Nat) (fe : DSt -> R D) : DSt -> R aG := fun U => (dS U i).bind fun ds => (fe (mask own U)).bind fun d => l5 ds i U d
section
variable {X : Cx} {E : XK} {own ol : List Nat} {e : Expr} {fe : DSt -> R D} {x : Str} {pos : Pos}
theorem VZ (i : Nat) {apos cpos : Pos} {np : Pos} (he : DE X E e fe) (ho : own.contains i = true := by rfl) (hN : X.N[i]? = some x := by rfl) (hv : gA X.env.scope x := by first | exact Or.inl rfl | exact Or.inr (Or.inl rfl) | exact Or.inr (Or.inr rfl)) (hd : (x == ("__debug__" : Str)) = false := by decide)
  (hcd : (x == ("__classdict__" : Str)) = false := by decide)
  (hbase : attributeBase (.Name x np) "extend" X.env (eval (.Name x np) X.env) = eval (.Name x np) X.env := by rfl)
  (hfew : ((backTo cpos (starEach [e] X.env)).all (fun x => !x.1) && (backToKw cpos (keywordEach [] X.env)).all (fun x => x.1.isSome) && decide ([e].length + ([] : List Keyword).length + (if ([] : List Keyword).isEmpty then 0 else 1) < 30)) = true := by rfl)
  (hline : (apos.endLine == cpos.line) = true := by rfl) (hs : starEach [e] X.env = (false, eval e X.env) :: starEach [] X.env := by rfl) (hplain : (backTo cpos (starEach [] X.env)).any (·.1) = false := by rfl)
  (hsw : swapsWith (.Call (.Attribute (.Name x np) "extend" apos) [e] [] cpos) none pos.line X.env = pure false := by rfl) :
  DS X E own own ol (.Expr (.Call (.Attribute (.Name x np) "extend" apos) [e] [] cpos) pos) (pR own i fe) := fun G0 =>
 PS.mono' (qL (mU PySem.F.plainAttrs_list PySem.F.slot_list_extend PySem.F.type_list_extend VY (pv i hN hv hd hcd) (cI he dA hs) hbase hfew hline hs hplain) hsw) fun Dn U H ⟨G, Ud, ok, s0, q⟩ => by
 have q1 := q.of_bind
 cases hL : dS Ud i with
 | bad => rw [hL] at q1; exact q1.elim
 | err e => exact xaq hL BK
 | ok ds =>
  rw [hL] at q1
  have q2 : RW ((fe (mask own Ud)).bind fun d => l5 ds i Ud d) (dE X.K X.mg G0 X.H₀ own ol Dn G) (bG X.K X.mg E G0 X.H₀) := q1
  have hd := BJ hL
  have hi : i ∈ own := by simpa using ho
  obtain ⟨a, ds', vs, p1, p2, p3, p4, p5, p6⟩ := ok.mine i _ hi hd
  cases p2
  refine ⟨_, p1, .inl ⟨rfl, _, bH.of p3⟩, ?_⟩
  refine ⟨G, mask own Ud, ok.masked, (show RW ((aB fe aD) (mask own Ud)) _ _ from ?_)⟩
  unfold aB
  have q3 := q2.of_bind
  cases hf : fe (mask own Ud) with
  | bad => rw [hf] at q3; exact q3.elim
  | err e => rw [hf] at q3; exact (show bG X.K X.mg E G0 X.H₀ e from q3).step s0
  | ok d =>
   rw [hf] at q3
   have q3 : RW (l5 ds i Ud d) (dE X.K X.mg G0 X.H₀ own ol Dn G) (bG X.K X.mg E G0 X.H₀) := q3
   rintro ws G' H' s ⟨v, _, e1, r1, r2⟩
   subst e1
   cases r2
   cases d with
   | lst es =>
    obtain ⟨b, ys, rfl, hb, hy⟩ := r1
    cases hm : aW (ds.length + es.length) with
    | false => simp only [l5, hm, cond_false] at q3; exact (show False from q3).elim
    | true =>
     simp only [l5, hm, cond_true] at q3
     have hle : ds.length + es.length <= sizeLine := xat hm
     have ok' := ok.step s
     refine ⟨a, b, vs, ys, rfl, rfl, s.h _ _ p3, s.e.seq hb, by rw [<- p6.length, <- hy.length]; exact hle, ?_⟩
     exact (show dE X.K X.mg G0 X.H₀ own ol Dn G (.nx (Ud.set i (some (.lst (ds ++ es))))) from q3) U G' _ (ok'.write hi hd p1 ((p6.mono s.g).append hy)) ((s0.trans s).write (o := .lst vs) p5 (s.c _ _ p3 p4)) s.g
   | _ => exact (show False from q3).elim
end
end DL
namespace DL
open L2 PyProof.Rows
def fM (d : D) (xs : List D) : Bool := xs.any fun y => a7 y d
def dP (d : D) (xs : List D) : Bool := aT 9 d && xs.all (aT 9)
def iD : D -> D -> R D
 | d, .lst xs => bif dP d xs then .ok (.bl (fM d xs)) else .bad
 | d, .tup xs => bif dP d xs then .ok (.bl (fM d xs)) else .bad
 | .str i, .str j => .ok (.bl (!(Builtin.Str.occurrences j i 0 j.length 1).isEmpty))
 | _, _ => .bad
def cT : D -> D -> R D
 | d, .lst xs => bif dP d xs then .ok (.bl (!fM d xs)) else .bad
 | d, .tup xs => bif dP d xs then .ok (.bl (!fM d xs)) else .bad
 | .str i, .str j => .ok (.bl (!(!(Builtin.Str.occurrences j i 0 j.length 1).isEmpty)))
 | _, _ => .bad
section
variable {X : Cx} {E : XK}
theorem HG {K : xFg} {mg : Str -> Option Value} {G : Hp} {d : D} (f : Value -> Bool) : ∀ {ds : List D} {vs : List V} {its : List Value}, (∀ d' v' u, d' ∈ ds -> Rep K mg G d' v' -> aR v' u -> f u = a7 d' d) -> Reps K mg G ds vs -> a6 vs its -> its.any f = ds.any fun y => a7 y d
 | [], _, _, _, r, t => by cases r; cases t; rfl
 | d' :: ds, _, _, h, ⟨v, vs, e, r1, r2⟩, t => by
  subst e
  cases t with
  | cons q t =>
   rw [xce, xce, h d' _ _ xax r1 q, HG f (fun d'' v'' u hd => h d'' v'' u (xah _ hd)) r2 t]
theorem HH {K : xFg} {mg : Str -> Option Value} {G : Hp} : ∀ {ds : List D} {vs : List V} {its : List Value}, Reps K mg G ds vs -> a6 vs its -> ∀ u ∈ its, ∃ d' v', d' ∈ ds /\ Rep K mg G d' v' /\ aR v' u
 | [], _, _, r, t, u, hu => by cases r; cases t; cases hu
 | d' :: ds, _, _, ⟨v, vs, e, r1, r2⟩, t, u, hu => by
  subst e
  cases t with
  | cons q t =>
   rcases xag.mp hu with rfl | hu
   ·exact ⟨d', v, xax, r1, q⟩
   ·obtain ⟨d'', v'', h1, h2, h3⟩ := HH r2 t u hu
    exact ⟨d'', v'', xah _ h1, h2, h3⟩
def HI (K : xFg) (mg : Str -> Option Value) (neg : Bool) : R2 := fun x y H Q => ∃ G d ds p vs, aK G H /\ Rep K mg G d x /\ y = .ref p /\ (bH K G p vs \/ bJ K G p vs) /\ Reps K mg G ds vs /\ dP d ds = true /\ Q (.bl (bif neg then !fM d ds else fM d ds)) H
open Classical in
theorem sQ {pins : List (Addr × Obj)} {U : L2.St} {G H : Hp} {s : Shared} (I : aH X pins U H s) {k : Nat} (r : cL k X.A) (e : aK G H) {d : D} {x : V} {v : Value} {ds : List D} {vs : List V} {its : List Value} (rx : Rep X.K X.mg G d x) (qx : aR x v) (rs : Reps X.K X.mg G ds vs) (t : a6 vs its) (h : dP d ds = true) :
  ∃ f : Value -> Bool, (∀ u ∈ its, SeqAt.EqAt X.A.in1 s u v (f u)) /\ its.any f = fM d ds := by
 unfold dP at h
 rw [xaw, xa8] at h
 obtain ⟨h1, h2⟩ := h
 have key : ∀ d' v' u, d' ∈ ds -> Rep X.K X.mg G d' v' -> aR v' u -> decide (∃ d'' v'', d'' ∈ ds /\ Rep X.K X.mg G d'' v'' /\ aR v'' u /\ a7 d'' d = true) = a7 d' d := by
  intro d' v' u hd r1 q1
  by_cases hq : a7 d' d = true
  ·rw [hq]; exact xai ⟨d', v', hd, r1, q1, hq⟩
  ·rw [Bool.not_eq_true] at hq
   rw [hq]
   refine xau ?_
   rintro ⟨d'', v'', hd', r2, q2, hq'⟩
   have ev := q1.inj q2
   subst ev
   have := vM I e 9 (h2 _ hd) (h2 _ hd') r1 r2
   subst this
   rw [hq] at hq'; cases hq'
 refine ⟨fun u => decide (∃ d'' v'', d'' ∈ ds /\ Rep X.K X.mg G d'' v'' /\ aR v'' u /\ a7 d'' d = true), fun u hu => ?_, HG _ key rs t⟩
 obtain ⟨d', v', hd, r1, q1⟩ := HH rs t u hu
 show SeqAt.EqAt X.A.in1 s u v (decide _)
 rw [key d' v' u hd r1 q1]
 exact (rW I e 9 (by rw [BP]; have := r.un; omega) (h2 _ hd) h1 r1 q1 rx qx).1
theorem V0 {k : Nat} (r : cL k X.A) : bM X (compareOp .In) (HI X.K X.mg false) := by
 intro pins s U H x y v u Q I rx ry h
 obtain ⟨G, d, ds, p, vs, e, r1, rfl, hq, rs, c, q⟩ := h
 cases ry
 rcases hq with hq | hq
 ·obtain ⟨its, t, pl, hz⟩ := I.list (e.seq hq)
  obtain ⟨f, h1, h2⟩ := sQ I r e r1 rx rs t c
  refine SeqAt.in_listAt f pl.isList (fun w hw => h1 w (by simpa using hw)) ⟨.bl _, H, I, rfl, ?_⟩
  rw [show its.toArray.any f = its.any f by simp, h2]; exact q
 ·obtain ⟨its, t, pl, hz⟩ := I.tuple (aK.sqT e hq)
  obtain ⟨f, h1, h2⟩ := sQ I r e r1 rx rs t c
  refine SeqAt.in_tupleAt f pl (fun w hw => h1 w (by simpa using hw)) ⟨.bl _, H, I, rfl, ?_⟩
  rw [show its.toArray.any f = its.any f by simp, h2]; exact q
theorem V1 {k : Nat} (r : cL k X.A) : bM X (compareOp .NotIn) (HI X.K X.mg true) := by
 intro pins s U H x y v u Q I rx ry h
 obtain ⟨G, d, ds, p, vs, e, r1, rfl, hq, rs, c, q⟩ := h
 cases ry
 rcases hq with hq | hq
 ·obtain ⟨its, t, pl, hz⟩ := I.list (e.seq hq)
  obtain ⟨f, h1, h2⟩ := sQ I r e r1 rx rs t c
  refine SeqAt.notIn_listAt f pl.isList (fun w hw => h1 w (by simpa using hw)) ⟨.bl _, H, I, rfl, ?_⟩
  rw [show its.toArray.any f = its.any f by simp, h2]; exact q
 ·obtain ⟨its, t, pl, hz⟩ := I.tuple (aK.sqT e hq)
  obtain ⟨f, h1, h2⟩ := sQ I r e r1 rx rs t c
  refine SeqAt.notIn_tupleAt f pl (fun w hw => h1 w (by simpa using hw)) ⟨.bl _, H, I, rfl, ?_⟩
  rw [show its.toArray.any f = its.any f by simp, h2]; exact q
abbrev HJ (neg : Bool) : R2 := fun x y H Q => ∃ i j, x = .str i /\ y = .str j /\ Q (.bl (bif neg then !(!(Builtin.Str.occurrences j i 0 j.length 1).isEmpty) else !(Builtin.Str.occurrences j i 0 j.length 1).isEmpty)) H
theorem V2 {k : Nat} (C : XC X E k) : eL X .In iD := ⟨_, (V0 C.room).or (OR : bM X _ (HJ false)), fun G H a b x y Q e ra rb q => by
 cases b with
 | lst xs =>
  obtain ⟨p, vs, rfl, h1, h2⟩ := rb
  cases hc : dP a xs with
  | false => simp only [iD, hc, cond_false] at q; exact q.elim
  | true => simp only [iD, hc, cond_true] at q; exact .inl ⟨G, a, xs, p, vs, e, ra, rfl, .inl h1, h2, hc, aN.now q e rfl⟩
 | tup xs =>
  obtain ⟨p, vs, rfl, h1, h2⟩ := rb
  cases hc : dP a xs with
  | false => simp only [iD, hc, cond_false] at q; exact q.elim
  | true => simp only [iD, hc, cond_true] at q; exact .inl ⟨G, a, xs, p, vs, e, ra, rfl, .inr h1, h2, hc, aN.now q e rfl⟩
 | str j => cases a with
  | str i => cases ra; cases rb; exact .inr ⟨i, j, rfl, rfl, aN.now q e rfl⟩
  | _ => exact (show False from q).elim
 | _ => cases a <;> exact (show False from q).elim, fun a b e => by
  cases b with
  | lst xs => simp only [iD]; cases dP a xs <;> simp [cond]
  | tup xs => simp only [iD]; cases dP a xs <;> simp [cond]
  | _ => cases a <;> simp [iD]⟩
theorem wQ {k : Nat} (C : XC X E k) : eL X .NotIn cT := ⟨_, (V1 C.room).or (QK : bM X _ (HJ true)), fun G H a b x y Q e ra rb q => by
 cases b with
 | lst xs =>
  obtain ⟨p, vs, rfl, h1, h2⟩ := rb
  cases hc : dP a xs with
  | false => simp only [cT, hc, cond_false] at q; exact q.elim
  | true => simp only [cT, hc, cond_true] at q; exact .inl ⟨G, a, xs, p, vs, e, ra, rfl, .inl h1, h2, hc, aN.now q e rfl⟩
 | tup xs =>
  obtain ⟨p, vs, rfl, h1, h2⟩ := rb
  cases hc : dP a xs with
  | false => simp only [cT, hc, cond_false] at q; exact q.elim
  | true => simp only [cT, hc, cond_true] at q; exact .inl ⟨G, a, xs, p, vs, e, ra, rfl, .inr h1, h2, hc, aN.now q e rfl⟩
 | str j => cases a with
  | str i => cases ra; cases rb; exact .inr ⟨i, j, rfl, rfl, aN.now q e rfl⟩
  | _ => exact (show False from q).elim
 | _ => cases a <;> exact (show False from q).elim, fun a b e => by
  cases b with
  | lst xs => simp only [cT]; cases dP a xs <;> simp [cond]
  | tup xs => simp only [cT]; cases dP a xs <;> simp [cond]
  | _ => cases a <;> simp [cT]⟩
end
theorem V3 {d : D} {xs : List D} (h : dP d xs = true) : cT d (.lst xs) = .ok (.bl (!fM d xs)) := by
 cases d <;> (simp only [cT]; rw [h]; rfl)
def pS : D -> D -> R (List D)
 | .lst xs, .lst ys => bif aW (xs.length + ys.length) then .ok (xs ++ ys) else .bad
 | _, _ => .bad
def nP (fa fb : DSt -> R D) : DSt -> R (List D) := fun U => (fa U).bind fun x => (fb U).bind fun y => pS x y
theorem V4 {X : Cx} {E : XK} {a b : Expr} {fa fb : DSt -> R D} {pos : Pos} (ha : DE X E a fa) (hb : DE X E b fb) : DF X E (.BinOp a .Add b pos) (nP fa fb) := by
 refine PE.mono' (zF BR ha hb) fun U H Q ⟨G, Ud, ok, q⟩ => ?_
 refine eJ (P := fE X.K X.mg Q) ok q fun a x G1 H1 s1 ok1 r1 q1 => ?_
 refine eJ (P := fun _ _ => fE X.K X.mg Q G H) ok1 q1 fun b y G2 H2 s2 ok2 r2 q2 => ?_
 cases a with
 | lst xs => cases b with
  | lst ys =>
   obtain ⟨p, vs, rfl, h1, h2⟩ := r1
   obtain ⟨p', ws, rfl, h1', h2'⟩ := r2
   have h1 := s2.g.seq h1
   have h2 := h2.mono s2.g
   cases hC : aW (xs.length + ys.length) with
   | false => simp only [pS, hC, cond_false] at q2; exact q2.elim
   | true =>
    simp only [pS, hC, cond_true] at q2
    have q3 : fE X.K X.mg Q G H (xs ++ ys) := q2
    refine ⟨p, p', vs, ws, rfl, rfl, ok2.ext.seq h1, ok2.ext.seq h1', by rw [<- h2.length, <- h2'.length]; exact xat hC, fun l hl => ?_⟩
    exact q3 l _ G2 _ ((s1.trans s2).trans (.hid ok2.ext hl)) ((s1.trans s2).h.free hl) bP (ok2.ext.free hl) (h2.append h2')
  | _ => exact (show False from q2).elim
 | _ => cases b <;> exact (show False from q2).elim
def wR (a b : R D) : R (List D) := a.bind fun x => b.bind fun y => pS x y
theorem V5 (fa fb : DSt -> R D) (U : DSt) : nP fa fb U = wR (fa U) (fb U) := rfl
theorem V6 (xs ys : List D) (h : xs.length + ys.length <= 1000000) : wR (.ok (.lst xs)) (.ok (.lst ys)) = .ok (xs ++ ys) := by
 show (bif aW (xs.length + ys.length) then _ else _) = _
 rw [show aW (xs.length + ys.length) = true from xai (xaj h (by decide))]; rfl
end DL
namespace DL
open L2 PyProof.Rows
def fU (c : Nat) : Str := ⟨#[c]⟩
def sR (z : Str) : It := ⟨fun i _ => i < z.cps.size, fun i H x H' => H' = H /\ ∃ c, z.cps[i]? = some c /\ x = .str (fU c), fun i _ => z.cps.size <= i⟩
theorem HK {P : Program} {w : World} {K : xFg} {tg : Expr} (z : Str) (it : Addr) (nm : String) (t : Tok) (hnm : nm = "str_ascii_iterator" \/ nm = "str_iterator") : lH P w K tg (sR z) [it] it (fun i h => h.IsStrIter it nm z t i) where
 mem := by simp
 obj := fun i h st b hb => by
  have e : b = it := by simpa using hb
  subst e
  obtain ⟨o, e, c, d⟩ := st
  exact ⟨o, e, fun v z => by rw [d] at z; cases z⟩
 keep := fun i h h' st k => by
  obtain ⟨o, e, r⟩ := st
  exact ⟨o, k it (by simp) o e, r⟩
 item := by
  intro X hP hw hK hc i pins s U H E I hf st hg
  subst hP hw hK
  obtain ⟨f0, f1, f2, f3, f4, f5⟩ := hf it (by simp)
  have go : ∀ (W : Walks X.prog X.w X.A it [it] [it] z.cps.size (SignAt z) (fun i h => h.IsStrIter it nm z t i)), wpAny (model X.prog X.w) X.A (pyNext (.ref it)) (fun r s1 => ∃ u, r = some u /\ wpAny (model X.prog X.w) X.A (letOwnedTupleGo tg (.ref it) u) (fun _ s2 => ∃ x H', aH X pins U H' s2 /\ aR x u /\ (sR z).yld i H x H' /\ s2.heap.IsStrIter it nm z t (i + 1) /\ ∀ b ∈ [it], H' b = none) E s1) E s := by
   intro W
   refine W.item i s _ _ hg st fun v h' tk hv st' kk => ?_
   obtain ⟨c, u, hc', rfl⟩ := hv
   have I1 : aH X pins U H { s with heap := h', toks := tk } := I.turned (fun b o hb e => kk b o (by simpa using hb) e) f0 f1 f3 f4 f5
   obtain ⟨o, e, cl, d⟩ := id st'
   exact ⟨_, rfl, qN (s := { s with heap := h', toks := tk }) e cl d (by rcases hnm with rfl | rfl <;> decide) ⟨.str (fU c), H, I1, ⟨u, rfl⟩, ⟨rfl, c, hc', rfl⟩, st', fun b hb => (hf b hb).1⟩⟩
  rcases hnm with rfl | rfl
  ·exact go (Walks.strAscii (I.ok.hd hc) it z t)
  ·exact go (Walks.strWide (I.ok.hd hc) it z t)
 done := by
  intro X hP hw hK hc i pins s U H E I hf st hg
  subst hP hw hK
  obtain ⟨f0, f1, f2, f3, f4, f5⟩ := hf it (by simp)
  rcases hnm with rfl | rfl
  ·exact wpAny_pyNext_ascii_end (I.ok.hd hc) st (by have : z.cps.size <= i := hg; simp; omega) fun h' eb => ⟨rfl, I.turned (t' := s.toks) (fun b o hb e => eb b o hb e) f0 f1 f3 f4 f5⟩
  ·exact wpAny_pyNext_wide_end (I.ok.hd hc) st (by have : z.cps.size <= i := hg; simp; omega) fun h' eb => ⟨rfl, I.turned (t' := s.toks) (fun b o hb e => eb b o hb e) f0 f1 f3 f4 f5⟩
 self := fun A i s Q E st h => by
  rcases hnm with rfl | rfl
  ·exact wpAny_pyIter_striter_ascii st h
  ·exact wpAny_pyIter_striter_wide st h
section
variable {X : Cx} {E : XK} {tg : Expr}
def HL (tl : TE) : TI := fun U H R => tl U H fun x H1 => ∃ z, x = .str z /\ R (sR z) H1
theorem V7 {l : Expr} {tl : TE} (hl : PE X l tl) : PI X tg l (HL tl) := by
 intro pins s U H R I h
 refine aP (hl pins s U H _ I h) fun v s1 ⟨x, H1, I1, r1, q1⟩ => ?_
 obtain ⟨z, e, q⟩ := q1
 subst e
 obtain ⟨t, rfl⟩ := r1
 have fpo : ∀ b ∈ [s1.heap.objs.size], fQ X pins H1 b := fun b hb => by
  have e : b = s1.heap.objs.size := by simpa using hb
  subst e
  exact I1.fpOk (xak _) (I1.hok.fresh (xak _))
 cases ha : z.cps.all (· < 128)
 ·exact wpAny_pyIter_wide ha ⟨s1.heap.objs.size, [s1.heap.objs.size], _, _, H1, rfl, I1.kept (t' := s1.toks) fun b o e => xad _ e, HK z _ "str_iterator" t (.inr rfl), ⟨_, xav _ rfl, rfl, rfl⟩, fpo, q⟩
 ·exact wpAny_pyIter_ascii ha ⟨s1.heap.objs.size, [s1.heap.objs.size], _, _, H1, rfl, I1.kept (t' := s1.toks) fun b o e => xad _ e, HK z _ "str_ascii_iterator" t (.inl rfl), ⟨_, xav _ rfl, rfl, rfl⟩, fpo, q⟩
def gQ (z : Str) : List D := z.cps.toList.map fun c => .str (fU c)
def wS : D -> R (List D)
 | .str z => .ok (gQ z)
 | _ => .bad
def wT (f : DSt -> R D) : DSt -> R (List D) := fun U => (f U).bind wS
theorem eU.text {K : xFg} {mg : Str -> Option Value} {G : Hp} (z : Str) : eU K mg (sR z) G (gQ z) := by
 have hl : (gQ z).length = z.cps.size := by simp [gQ]
 refine ⟨fun H e => by rw [hl]; exact xak _, fun H i d e hd => ?_⟩
 have hi : i < z.cps.size := by have := (xam.mp hd).1; omega
 refine ⟨hi, fun x H' y G1 e1 e2 => ?_⟩
 obtain ⟨rfl, c, hc, rfl⟩ := y
 have : d = .str (fU c) := by
  unfold gQ at hd
  rw [xba, Array.getElem?_toList, hc] at hd
  simpa using hd.symm
 subst this
 exact ⟨G1, .refl e2, rfl⟩
theorem V8 {l : Expr} {f : DSt -> R D} (hl : DE X E l f) : DI X E tg l (wT f) := by
 have hT : PI X tg l (HL (tE X.K X.mg E f)) := V7 hl
 intro pins s U H R I ⟨G, Ud, ok, q⟩
 refine hT pins s U H R I ⟨G, Ud, ok, ?_⟩
 refine q.of_bind.mono (fun d _ z => ?_) fun _ z => z
 rintro v G' H' st r
 cases d with
 | str y =>
  cases r
  exact ⟨y, rfl, (show ∀ J G' H', Step G H G' H' -> eU X.K X.mg J G' (gQ y) -> R J H' from z) _ G' H' st (.text y)⟩
 | _ => exact (show False from z).elim
variable {a b : Expr} {fa fb : DSt -> R D} {pos : Pos}
def iZ : D -> D -> R D
 | .str z, .int i => bif decide (0 <= i) && Nat.blt i.natAbs 1073741824 then (match z.cps[i.toNat]? with
  | some c => .ok (.str (fU c))
  | none => .bad) else .bad
 | _, _ => .bad
abbrev rIxS : R2 := fun x y H Q => ∃ z i c, x = .str z /\ y = .int i /\ 0 <= i /\ i < 2 ^ 63 /\ i < z.length /\ z.cps[i.toNat]? = some c /\ Q (.str ⟨#[c]⟩) H
theorem V9 : eR iZ := by
 intro a b e h
 cases a with
 | str z => cases b with
  | int i =>
   cases hC : (decide (0 <= i) && Nat.blt i.natAbs 1073741824) with
   | false => simp only [iZ, hC, cond_false] at h; cases h
   | true =>
    simp only [iZ, hC, cond_true] at h
    split at h <;> cases h
  | _ => cases h
 | _ => cases b <;> cases h
theorem WA {K : xFg} {mg : Str -> Option Value} : eQ K mg rIxS iZ := by
 intro G H a b x y Q e ra rb q
 cases a with
 | str z => cases b with
  | int i =>
   cases ra; cases rb
   cases hC : (decide (0 <= i) && Nat.blt i.natAbs 1073741824) with
   | false => simp only [iZ, hC, cond_false] at q; exact q.elim
   | true =>
    simp only [iZ, hC, cond_true] at q
    rw [xaw, decide_eq_true_eq, Nat.blt_eq] at hC
    cases hc : z.cps[i.toNat]? with
    | none => rw [hc] at q; exact q.elim
    | some c =>
     rw [hc] at q
     have hlt : i.toNat < z.cps.size := (xbt.mp hc).1
     have hlt' : i < (z.length : Int) := by
      show i < (z.cps.size : Int)
      omega
     exact ⟨z, i, c, rfl, rfl, hC.1, by omega, hlt', hc, aN.now q e rfl⟩
  | _ => exact (show False from q).elim
 | _ => cases b <;> exact (show False from q).elim
theorem WB (ha : DE X E a fa) (hb : DE X E b fb) (hs : zI b := by intro _ _; rfl) : DE X E (.Subscript a b pos) (aC iZ fa fb) :=
 PE.mono' (OX ha hb hs) fun _ _ _ h => oZ WA V9 h
def gR : Option Int -> Option (Int × Tok) := fun o => o.map fun i => (i, 0)
def i6 (z : Str) (lo hi : Option Int) : Str := if (slicePicked z (gR lo) (gR hi) none).length == z.length then z else ⟨((slicePicked z (gR lo) (gR hi) none).filterMap (z.cps[·]?)).toArray⟩
def WC : V -> Option Int -> Option Int -> Hp -> VK -> Prop := fun x lo hi H Q => ∃ z, x = .str z /\ (i6 z lo hi).length <= sizeLine /\ Q (.str (i6 z lo hi)) H
theorem HM {v : Value} {o : Option Int} (h : IsPart v o) : ∃ l : Option (Int × Tok), v = partValue l /\ l.map (·.1) = o := by
 cases h with
 | none => exact ⟨none, rfl, rfl⟩
 | int i t => exact ⟨some (i, t), rfl, rfl⟩
theorem WD : kJ X WC := by
 intro pins s U H x v vl vu lo hi sl Q I rx hs pl pu h
 obtain ⟨z, rfl, hz, q⟩ := h
 obtain ⟨t, rfl⟩ := rx
 obtain ⟨l, rfl, hl⟩ := HM pl
 obtain ⟨u, rfl, hu⟩ := HM pu
 refine ⟨"str", _, PySem.F.slot_str_getitem.lookup, typeIs_str s z t, ?_⟩
 refine wpAny_getItem_str_slice (l := l) (u := u) (st := none) hs rfl ?_
 have e : slicePicked z l u none = slicePicked z (gR lo) (gR hi) none := by
  unfold slicePicked gR
  rw [hl, hu]
  cases lo <;> cases hi <;> rfl
 unfold sliceMade
 rw [e]
 unfold i6 at hz q
 by_cases hp : ((slicePicked z (gR lo) (gR hi) none).length == z.length) = true
 ·rw [xa4 hp] at hz q
  rw [xa4 (by rw [hp]; rfl)]
  exact ⟨.str z, H, I, ⟨t, rfl⟩, q⟩
 ·rw [xa1 hp] at hz q
  rw [xa1 (by rw [Bool.not_eq_true] at hp; rw [hp]; simp)]
  exact ⟨hz, .str _, H, I.tok _, ⟨_, rfl⟩, q⟩
def sS : D -> Option Int -> Option Int -> R D
 | .str z, lo, hi => bif aW (i6 z lo hi).length then .ok (.str (i6 z lo hi)) else .bad
 | _, _, _ => .bad
def fV (fe : DSt -> R D) (fl fh : DSt -> R (Option Int)) : DSt -> R D := fun U => (fe U).bind fun d => (fl U).bind fun lo => (fh U).bind fun hi => sS d lo hi
theorem WE {e : Expr} {fe : DSt -> R D} {lo hi : Option Expr} {fl fh : DSt -> R (Option Int)} {p2 : Pos} (he : DE X E e fe) (hl : DO X E lo fl) (hh : DO X E hi fh) : DE X E (.Subscript e (.Slice lo hi none p2) pos) (fV fe fl fh) := by
 refine PE.mono' (uT WD he hl hh) fun U H Q ⟨G, Ud, ok, q⟩ => ?_
 refine eJ (P := aN X.K X.mg Q) ok q fun d v G1 H1 s1 ok1 r1 q1 => ?_
 refine ⟨G1, Ud, ok1, q1.of_bind.mono (fun l _ z G2 H2 s2 => ?_) fun _ z => z⟩
 refine ⟨G2, Ud, ok1.step s2, z.of_bind.mono (fun u _ z G3 H3 s3 => ?_) fun _ z => z.step s2⟩
 cases d with
 | str y =>
  cases r1
  cases hC : aW (i6 y l u).length with
  | false => simp only [sS, hC, cond_false] at z; exact z.elim
  | true =>
   simp only [sS, hC, cond_true] at z
   exact ⟨y, rfl, xat hC, aN.now ((show aN X.K X.mg Q G H (.str (i6 y l u)) from z).step ((s1.trans s2).trans s3)) s3.e rfl⟩
 | _ => exact (show False from z).elim
def eN (sep : Str) : List Str -> Str
 | [y] => y
 | ys => Builtin.Str.glued sep ys
def dQ : List D -> Option (List Str)
 | [] => some []
 | .str y :: ds => (dQ ds).map (y :: ·)
 | _ => none
theorem Reps.strs {K : xFg} {mg : Str -> Option Value} {G : Hp} : ∀ {ds : List D} {ys : List Str} {vs : List V}, dQ ds = some ys -> Reps K mg G ds vs -> vs = ys.map V.str
 | [], _, _, h, r => by cases h; cases r; rfl
 | .str y :: ds, _, _, h, ⟨v, t, e1, r1, r2⟩ => by
  subst e1
  cases hd : dQ ds with
  | none => simp [dQ, hd] at h
  | some ys' =>
   simp [dQ, hd] at h
   subst h
   rw [Reps.strs hd r2]
   have : v = V.str y := r1
   rw [this]; rfl
 | .non :: _, _, _, h, _ => by simp [dQ] at h
 | .bl _ :: _, _, _, h, _ => by simp [dQ] at h
 | .int _ :: _, _, _, h, _ => by simp [dQ] at h
 | .ty _ :: _, _, _, h, _ => by simp [dQ] at h
 | .cls _ :: _, _, _, h, _ => by simp [dQ] at h
 | .tup _ :: _, _, _, h, _ => by simp [dQ] at h
 | .lst _ :: _, _, _, h, _ => by simp [dQ] at h
 | .dct _ _ :: _, _, _, h, _ => by simp [dQ] at h
 | .exc _ _ :: _, _, _, h, _ => by simp [dQ] at h
theorem wU : ∀ {ys : List Str} {us : List Value}, a6 (ys.map V.str) us -> ∃ l : List (Str × Tok), us = strValues l /\ l.map (·.1) = ys
 | [], _, h => by cases h; exact ⟨[], rfl, rfl⟩
 | y :: ys, _, h => by
  cases h with
  | cons q t =>
   obtain ⟨l, rfl, hl⟩ := wU t
   obtain ⟨tk, rfl⟩ := q
   exact ⟨(y, tk) :: l, rfl, by rw [xbi, hl]⟩
def jT (sep : Str) (ys : List Str) : Nat := ys.toArray.foldl (· + ·.length + sep.length) 0
def WF (K : xFg) : V -> List V -> Hp -> VK -> Prop := fun x vs H Q => ∃ sep b ys, x = .str sep /\ vs = [.ref b] /\ bH K H b (ys.map V.str) /\ jT sep ys <= sizeLine /\ (eN sep ys).length <= sizeLine /\ Q (.str (eN sep ys)) H
theorem WG : oS X "str.join" (WF X.K) := by
 intro pins s U H x vs v us Q I rx rv h
 obtain ⟨sep, b, ys, rfl, rfl, hB, hz, hz2, q⟩ := h
 obtain ⟨t, rfl⟩ := rx
 obtain ⟨u, rfl, ru⟩ := rv.one
 cases ru
 obtain ⟨its, r, pl, _⟩ := I.list hB
 obtain ⟨l, rfl, hl⟩ := wU r
 subst hl
 refine call_meets F.slot_str_join (typeIs_str s sep t) F.entry_str_join (F.args_str_join_2 _ _) (meets_str_join_list sep t b l (xau (by show ¬ sizeLine < _; exact Nat.not_lt.mpr hz))) ⟨pl.isList, ?_⟩
 match l, hz2, q with
 | [], hz2, q => exact ⟨hz2, .str _, H, I.tok _, ⟨_, rfl⟩, q⟩
 | [p], hz2, q => exact ⟨.str _, H, I, ⟨_, rfl⟩, q⟩
 | _ :: _ :: _, hz2, q => exact ⟨hz2, .str _, H, I.tok _, ⟨_, rfl⟩, q⟩
def c7 (sep : D) (d : D) : R D := match sep, d with
 | .str z, .lst ds => match dQ ds with
  | some ys => bif aW (jT z ys) && aW (eN z ys).length then .ok (.str (eN z ys)) else .bad
  | none => .bad
 | _, _ => .bad
def WH (fe : DSt -> R D) (U : DSt) : D -> R D
 | .str z => (fe U).bind fun d => c7 (.str z) d
 | _ => .bad
def fW (fo fe : DSt -> R D) : DSt -> R D := fun U => (fo U).bind fun z => WH fe U z
theorem WI {o e : Expr} {fo fe : DSt -> R D} {apos cpos : Pos} (ho : DE X E o fo) (he : DE X E e fe)
  (hbase : attributeBase o "join" X.env (eval o X.env) = eval o X.env := by rfl)
  (hfew : ((backTo cpos (starEach [e] X.env)).all (fun x => !x.1) && (backToKw cpos (keywordEach [] X.env)).all (fun x => x.1.isSome) && decide ([e].length + ([] : List Keyword).length + (if ([] : List Keyword).isEmpty then 0 else 1) < 30)) = true := by rfl)
  (hline : (apos.endLine == cpos.line) = true := by rfl) (hs : starEach [e] X.env = (false, eval e X.env) :: starEach [] X.env := by rfl) (hplain : (backTo cpos (starEach [] X.env)).any (·.1) = false := by rfl) :
  DE X E (.Call (.Attribute o "join" apos) [e] [] cpos) (fW fo fe) := by
 refine PE.mono' (mU PySem.F.plainAttrs_str PySem.F.slot_str_join PySem.F.type_str_join WG ho (cI he dA hs) hbase hfew hline hs hplain) fun U H Q ⟨G, Ud, ok, q⟩ => ?_
 refine eJ (P := aN X.K X.mg Q) ok q fun z x G1 H1 s1 ok1 r1 q1 => ?_
 cases z with
 | str y =>
  cases r1
  refine ⟨rfl, G1, Ud, ok1, (show RW ((aB fe aD) Ud) _ _ from ?_)⟩
  unfold aB
  have q2 := (show RW ((fe Ud).bind fun d => c7 (.str y) d) _ _ from q1).of_bind
  cases hf : fe Ud with
  | bad => rw [hf] at q2; exact q2.elim
  | err e => rw [hf] at q2; exact (show bG X.K X.mg E G1 H1 e from q2)
  | ok d =>
   rw [hf] at q2
   have q3 : RW (c7 (.str y) d) (aN X.K X.mg Q G H) (bG X.K X.mg E G1 H1) := q2
   rintro ws G2 H2 s2 ⟨v, _, e1, r3, r4⟩
   subst e1
   cases r4
   cases d with
   | lst ds =>
    obtain ⟨b, vs, rfl, hb, hv⟩ := r3
    cases hs' : dQ ds with
    | none => simp only [c7, hs'] at q3; exact q3.elim
    | some ys =>
     have ev := Reps.strs hs' hv
     subst ev
     cases hC : (aW (jT y ys) && aW (eN y ys).length) with
     | false => simp only [c7, hs', hC, cond_false] at q3; exact q3.elim
     | true =>
      simp only [c7, hs', hC, cond_true] at q3
      rw [xaw] at hC
      exact ⟨y, b, ys, rfl, rfl, s2.e.seq hb, xat hC.1, xat hC.2, aN.now ((show aN X.K X.mg Q G H (.str (eN y ys)) from q3).step (s1.trans s2)) s2.e rfl⟩
   | _ => exact (show False from q3).elim
 | _ => exact (show False from q1).elim
theorem wV : ∀ l : List (Str × Tok), a6 (l.map fun p => V.str p.1) (strValues l)
 | [] => .nil
 | p :: l => .cons ⟨p.2, rfl⟩ (wV l)
theorem HN {K : xFg} {mg : Str -> Option Value} {G : Hp} : ∀ l : List (Str × Tok), Reps K mg G (l.map fun p => D.str p.1) (l.map fun p => V.str p.1)
 | [] => Reps.nil
 | p :: l => Reps.cons rfl (HN l)
theorem WJ {K : xFg} {mg : Str -> Option Value} {G : Hp} {a : Addr} {its : Array Value} {n : Nat} {sl : Array (Option Value)} {l : List (Str × Tok)} (lk : K.lookup a = some ⟨.type "tuple", none, .seq its n, sl⟩) (h : its.toList = strValues l) (hz : l.length <= 100) : Rep K mg G (.tup (l.map fun p => D.str p.1)) (.ref a) := by
 refine ⟨a, _, rfl, .inr ⟨_, its, n, lk, rfl, rfl, ?_, by rw [h]; exact wV l, rfl⟩, HN l⟩
 rw [<- xb7, h]
 unfold strValues
 rw [xae]
 exact xaj hz (by decide)
end
end DL
namespace DL
open L2 PyProof.Rows
section
variable {prog : Program} {w : World} {A : Around} {E : Value -> Shared -> Prop} {s : Shared}
theorem items_int {ks : List Int} {vs : List Value} (h : ItemsAre (intKind prog w) ks vs) : ∀ v ∈ vs, ∃ i t, v = .int i t := by
 induction h with
 | nil => intro v hv; cases hv
 | cons q _ ih =>
  intro v hv
  rcases xag.mp hv with rfl | hv
  ·cases v with
   | int i t => exact ⟨i, t, rfl⟩
   | _ => cases q
  ·exact ih v hv
structure TSet (prog : Program) (w : World) (h : Heap) (a : Addr) (o : Obj) (es : Array (Int × Value)) (ep : Nat) (t : SetTable) (kss : List (List Int)) : Prop where
 get : h.get? a = some o
 ex : o.ExactSet
 dat : o.data = .set es ep t
 dm : t.dummies = #[]
 pl : t.place.size = es.size
 msk : (t.mask = 7 /\ es.size <= 4) \/ (t.mask = 31 /\ es.size <= 18)
 n : es.size = kss.length
 el : ∀ e ∈ es.toList, ∃ c ls, e.2 = .ref c /\ IsTupleKey (intKind prog w) h ls c /\ ls ∈ kss
variable {h : Heap} {a : Addr} {o : Obj} {es : Array (Int × Value)} {ep : Nat} {t : SetTable} {kss : List (List Int)}
end
end DL
namespace DL
open L2 PyProof.Rows
section
variable {prog : Program} {w : World} {A : Around} {h h' : Heap} {it l z : Addr} {items : Array Value}
abbrev kU (led : Bool) : Obj := { cls := .type "set", dict := none, data := .set #[] 0 (.fresh 0 0 led) }
end
end DL
namespace DL
open L2 PyProof.Rows
section
variable {X : Cx} {E : XK}
def pT (a : Addr) (n : Nat) : Heap -> Prop := fun h => ∃ o es ep t, h.get? a = some o /\ o.ExactSet /\ o.data = .set es ep t /\ SetTable.fits t es.size = true /\ es.size = n
def WK : List V -> Hp -> VK -> Prop := fun xs H Q => ∃ (a : Addr) (n : Nat), xs = [.ref a] /\ H a = some (.ext (pT a n)) /\ n <= 1000 /\ Q (.int n) H
theorem WL : c9 X (.builtin "len") WK := by
 intro pins s U H xs us Q I rs h
 obtain ⟨a, n, rfl, hq, hn, q⟩ := h
 obtain ⟨u, rfl, rx⟩ := g6 rs
 cases rx
 obtain ⟨⟨o, es, ep, t, g1, g2, g3, g4, g5⟩, _⟩ := (show dI X.prog X.w H s.heap a (.ext (pT a n)) from I.hok a _ hq)
 exact call_len_set g1 g2 g3 g4 (by omega) ⟨.int n, H, I.tok _, ⟨s.toks + 1, by rw [g5]⟩, q⟩
end
end DL
namespace L2
open PyProof.Rows
section
variable {prog : Program} {w : World} {A : Around} {E : Value -> Shared -> Prop} {s : Shared}
theorem HP {it t : Addr} {k : Nat} {its : Array Value} {x : Value} {Q : Value -> Shared -> Prop} (st : s.heap.IsTupleIter it t k) (ht : s.heap.IsTuple t its) (hx : its[k]? = some x)
  (q : ∀ g, g.IsTupleIter it t (k + 1) -> Heap.SameBut it s.heap g -> Q x { s with heap := g }) : wpAny (model prog w) A (Builtin.SmallTypes.nextOf (.ref it)) Q E s := by
 obtain ⟨o, eo, co, d⟩ := id st
 obtain ⟨l, el, _, n, dl⟩ := ht
 unfold Builtin.SmallTypes.nextOf
 apply xab
 refine wpAny_callSpecial?_slot (name := "__next__") st.typeIs F.slot_tuple_iterator_next ?_
 refine wpAny_call_entry F.slot_tuple_iterator_next st.typeIs F.entry_tuple_iterator_next ?_ (F.args_tuple_iterator_next_1 _)
 show wpAny _ _ (field (.ref it) 0 >>= _) _ _ s
 apply xab
 refine wpAny_field eo d (x := .ref t) rfl ?_
 show wpAny _ _ (if (Value.ref t == .none) = true then _ else _) _ _ s
 have nn : ¬ (Value.ref t == .none) = true := xa2
 rw [xa1 nn]
 show wpAny _ _ (field (.ref it) 1 >>= _) _ _ s
 apply xab
 refine wpAny_field eo d (x := .int k 0) rfl ?_
 show wpAny _ _ (seqItems? (.ref t) >>= _) _ _ s
 apply xab
 refine wpAny_seqItems el dl ?_
 simp only [hx, xbl]
 apply xab
 refine wpAny_setField eo d (by simp) (xap ⟨x, rfl, xap (q _ ⟨_, xcs _ eo (Obj.isFreed_of_fields (Obj.data_mapFields d _)), (Obj.cls_mapFields ..).trans co, ?_⟩ (.update ..))⟩)
 rw [Obj.data_mapFields d]; simp [rawInt]
theorem WM {it t : Addr} {k : Nat} {its : Array Value} {Q : Value -> Shared -> Prop} (hh : A.handled = none) (st : s.heap.IsTupleIter it t k) (ht : s.heap.IsTuple t its) (hx : its[k]? = none)
  (q : ∀ g e, Heap.ExtBut it s.heap g -> (∃ o, g.get? e = some o /\ o.cls = .type "StopIteration") -> E (.ref e) { s with heap := g }) : wpAny (model prog w) A (Builtin.SmallTypes.nextOf (.ref it)) Q E s := by
 obtain ⟨o, eo, co, d⟩ := id st
 obtain ⟨l, el, _, n, dl⟩ := ht
 unfold Builtin.SmallTypes.nextOf
 apply xab
 refine wpAny_callSpecial?_slot (name := "__next__") st.typeIs F.slot_tuple_iterator_next ?_
 refine wpAny_call_entry F.slot_tuple_iterator_next st.typeIs F.entry_tuple_iterator_next ?_ (F.args_tuple_iterator_next_1 _)
 show wpAny _ _ (field (.ref it) 0 >>= _) _ _ s
 apply xab
 refine wpAny_field eo d (x := .ref t) rfl ?_
 show wpAny _ _ (if (Value.ref t == .none) = true then _ else _) _ _ s
 have nn : ¬ (Value.ref t == .none) = true := xa2
 rw [xa1 nn]
 show wpAny _ _ (field (.ref it) 1 >>= _) _ _ s
 apply xab
 refine wpAny_field eo d (x := .int k 0) rfl ?_
 show wpAny _ _ (seqItems? (.ref t) >>= _) _ _ s
 apply xab
 refine wpAny_seqItems el dl ?_
 simp only [hx, xbl]
 apply xab; apply wpAny_rule; apply xab
 refine wpAny_setField eo d (by simp) ?_
 show wpAny _ _ (newExc (.type "StopIteration") [] >>= _) _ _ _
 apply xab
 simp only [newExc, newTuple]
 apply xab
 refine wpAny_newObj_type ?_ (by size_fits)
 apply xab (m := firstArgMember _ _)
 refine wpAny_of_eq (a := Value.none) (by first | rfl | (simp only [firstArgMember]; rfl)) ?_
 refine wpAny_newObj_type ?_ (by size_fits)
 simp only [raiseNew]
 apply xab
 refine wpAny_handled ?_
 first | rw [show A.in1.handled = none from hh] | rw [hh]
 exact xab (xap (wpAny_throw (q _ _ (((Heap.SameBut.update ..).extBut.push _).push _) ⟨_, xav _ rfl, rfl⟩)))
structure iE (h : Heap) (z TI TO i1 i2 t1 t2 : Addr) (k : Nat) (xs ys : Array Value) (f : Value) : Prop where
 z : IsZip h z TI TO f
 ti : IsPair h TI (.ref i1) (.ref i2)
 to : ∃ a b, IsPair h TO a b
 i1 : h.IsTupleIter i1 t1 k
 i2 : h.IsTupleIter i2 t2 k
 t1 : h.IsTuple t1 xs
 t2 : h.IsTuple t2 ys
theorem iE.next {z TI TO i1 i2 t1 t2 : Addr} {k : Nat} {xs ys : Array Value} {x y : Value} {Q : Value -> Shared -> Prop} (D : ZipApart z TI TO i1 i2 t1 t2) (Z : iE s.heap z TI TO i1 i2 t1 t2 k xs ys .none) (hx : xs[k]? = some x) (hy : ys[k]? = some y)
  (q : ∀ g, iE g z TI TO i1 i2 t1 t2 (k + 1) xs ys (rawInt s.heap.objs.size) -> IsPair g s.heap.objs.size x y -> g.objs.size = s.heap.objs.size + 1 -> (∀ c o, c ≠ z -> c ≠ TO -> c ≠ i1 -> c ≠ i2 -> s.heap.get? c = some o -> g.get? c = some o) -> Q (.ref s.heap.objs.size) { s with heap := g }) :
  wpAny (model prog w) A (Builtin.«zip.__next__» ⟨[.ref z], []⟩) (fun fin s' => ∃ v, fin = .done (.ret v) /\ Q v s') E s := by
 obtain ⟨a, b, hTO⟩ := Z.to
 show wpAny _ _ (field (.ref z) 2 >>= _) _ _ _
 apply xab
 refine wpAny_field Z.z rfl (x := .bool false) rfl ?_
 show wpAny _ _ (field (.ref z) 3 >>= _) _ _ _
 apply xab
 refine wpAny_field Z.z rfl (x := .ref TI) rfl ?_
 apply xab
 refine wpAny_seqItems Z.ti rfl ?_
 show wpAny _ _ (Builtin.SmallTypes.ownedTupleIsFree (.ref z) >>= _) _ _ _
 apply xab
 unfold Builtin.SmallTypes.ownedTupleIsFree
 apply xab
 refine wpAny_field Z.z rfl (x := .none) rfl (xap ?_)
 simp only [if_true]
 apply xab; apply wpAny_rule; apply xab
 refine wpAny_field Z.z rfl (x := .ref TO) rfl ?_
 apply xab
 refine wpAny_setField_rec Z.z (by simp) fun g1 z1 s1 => ?_
 have z1 : IsZip g1 z TI TO .ellipsis := z1
 apply xab
 simp only [List.zipIdx_cons, List.zipIdx_nil, xb1, List.forIn_nil]
 apply xab; apply xab; apply wpAny_onRaise
 show wpAny _ _ (Builtin.SmallTypes.nextOf (.ref i1) >>= _) _ _ _
 apply xab
 refine HP (Z.i1.extBut s1.extBut D.i1z) (Z.t1.extBut s1.extBut D.l1z) hx fun g2 j2 s2 => xap ?_
 have o2 : IsPair g2 TO a b := s2.extBut _ _ D.TOi1 (s1.extBut _ _ D.TOz hTO)
 apply xab
 refine wpAny_seqItems o2 rfl ?_
 apply xab
 refine wpAny_updateSeq_pair o2 fun g3 o3 s3 => ?_
 have o3 : IsPair g3 TO x b := o3
 apply xab
 refine wpAny_letGo (xap ?_)
 apply xab; apply xab; apply wpAny_onRaise
 show wpAny _ _ (Builtin.SmallTypes.nextOf (.ref i2) >>= _) _ _ _
 apply xab
 have u3 : ∀ c o, c ≠ z -> c ≠ TO -> c ≠ i1 -> s.heap.get? c = some o -> g3.get? c = some o := fun c o n1 n2 n3 e => s3.extBut _ _ n2 (s2.extBut _ _ n3 (s1.extBut _ _ n1 e))
 refine HP (Z.i2.at fun o e => u3 _ o D.i2z D.TOi2.symm D.i12.symm e) (Z.t2.at fun o e => u3 _ o D.l2z D.l2TO D.l2i1 e) hy fun g4 j4 s4 => xap ?_
 have o4 : IsPair g4 TO x b := s4.extBut _ _ D.TOi2 o3
 apply xab
 refine wpAny_seqItems o4 rfl ?_
 apply xab
 refine wpAny_updateSeq_pair o4 fun g5 o5 s5 => ?_
 have o5 : IsPair g5 TO x y := o5
 apply xab
 refine wpAny_letGo (xap (xap ?_))
 apply xab
 refine wpAny_seqItems o5 rfl ?_
 apply xab
 refine wpAny_newTuple ?_
 have sz : g5.objs.size = s.heap.objs.size := s5.1.trans (s4.1.trans (s3.1.trans (s2.1.trans s1.1)))
 have z5 : IsZip g5 z TI TO .ellipsis := s5.extBut _ _ D.TOz.symm (s4.extBut _ _ D.i2z.symm (s3.extBut _ _ D.TOz.symm (s2.extBut _ _ D.i1z.symm z1)))
 have u5 : ∀ c o, c ≠ z -> c ≠ TO -> c ≠ i1 -> c ≠ i2 -> s.heap.get? c = some o -> g5.get? c = some o := fun c o n1 n2 n3 n4 e => s5.extBut _ _ n2 (s4.extBut _ _ n4 (u3 c o n1 n2 n3 e))
 have a5 : g5.IsTupleIter i1 t1 (k + 1) := j2.at fun o e => s5.extBut _ _ D.TOi1.symm (s4.extBut _ _ D.i12 (s3.extBut _ _ D.TOi1.symm e))
 have b5 : g5.IsTupleIter i2 t2 (k + 1) := j4.at fun o e => s5.extBut _ _ D.TOi2.symm e
 have lz : z < g5.objs.size := xan z5
 show wpAny _ _ (Builtin.SmallTypes.ownedTupleHandOut (.ref z) (.ref g5.objs.size) >>= _) _ _ _
 apply xab
 unfold Builtin.SmallTypes.ownedTupleHandOut
 have z6 : IsZip (g5.push { cls := .type "tuple", data := .seq #[x, y] }) z TI TO .ellipsis := xad _ z5
 apply xab
 refine wpAny_setField_rec z6 (by simp) fun g7 z7 s7 => ?_
 have z7 : IsZip g7 z TI TO (rawInt g5.objs.size) := z7
 refine wpAny_setField_rec z7 (by simp) fun g8 z8 s8 => ?_
 have z8 : IsZip g8 z TI TO (rawInt g5.objs.size) := z8
 have up : ∀ c o, c ≠ z -> g5.get? c = some o -> g8.get? c = some o := fun c o n e => s8.extBut _ _ n (s7.extBut _ _ n (xad _ e))
 have p8 : IsPair g8 g5.objs.size x y := s8.extBut _ _ (xca lz) (s7.extBut _ _ (xca lz) (xav _ rfl))
 have w8 : g8.objs.size = g5.objs.size + 1 := s8.1.trans (s7.1.trans (xbq ..))
 rw [sz] at z8 p8 w8
 refine xap ⟨_, rfl, ?_⟩
 show Q (.ref g5.objs.size) _
 rw [sz]
 have nT : ∀ c o, s.heap.get? c = some o -> c ≠ z -> c ≠ TO -> c ≠ i1 -> c ≠ i2 -> g8.get? c = some o := fun c o e n1 n2 n3 n4 => up c o n1 (u5 c o n1 n2 n3 n4 e)
 exact q g8 ⟨z8, nT _ _ Z.ti D.TIz D.TITO D.TIi1 D.TIi2, ⟨_, _, up _ _ D.TOz o5⟩, a5.at fun o e => up _ o D.i1z e, b5.at fun o e => up _ o D.i2z e, Z.t1.at fun o e => nT _ o e D.l1z D.l1TO D.l1i1 D.l1i2, Z.t2.at fun o e => nT _ o e D.l2z D.l2TO D.l2i1 D.l2i2⟩ p8 w8 fun c o n1 n2 n3 n4 e => nT c o e n1 n2 n3 n4
theorem iE.last {z TI TO i1 i2 t1 t2 : Addr} {k : Nat} {xs ys : Array Value} {Q : Fin -> Shared -> Prop} (hh : A.handled = none) (D : ZipApart z TI TO i1 i2 t1 t2) (Z : iE s.heap z TI TO i1 i2 t1 t2 k xs ys .none) (hx : xs[k]? = none)
  (q : ∀ g e, (∀ c o, c ≠ z -> c ≠ TO -> c ≠ i1 -> c ≠ i2 -> s.heap.get? c = some o -> g.get? c = some o) -> (∃ o, g.get? e = some o /\ o.cls = .type "StopIteration") -> E (.ref e) { s with heap := g }) :
  wpAny (model prog w) A (Builtin.«zip.__next__» ⟨[.ref z], []⟩) Q E s := by
 show wpAny _ _ (field (.ref z) 2 >>= _) _ _ _
 apply xab
 refine wpAny_field Z.z rfl (x := .bool false) rfl ?_
 show wpAny _ _ (field (.ref z) 3 >>= _) _ _ _
 apply xab
 refine wpAny_field Z.z rfl (x := .ref TI) rfl ?_
 apply xab
 refine wpAny_seqItems Z.ti rfl ?_
 show wpAny _ _ (Builtin.SmallTypes.ownedTupleIsFree (.ref z) >>= _) _ _ _
 apply xab
 unfold Builtin.SmallTypes.ownedTupleIsFree
 apply xab
 refine wpAny_field Z.z rfl (x := .none) rfl (xap ?_)
 simp only [if_true]
 apply xab; apply wpAny_rule; apply xab
 refine wpAny_field Z.z rfl (x := .ref TO) rfl ?_
 apply xab
 refine wpAny_setField_rec Z.z (by simp) fun g1 z1 s1 => ?_
 have z1 : IsZip g1 z TI TO .ellipsis := z1
 apply xab
 simp only [List.zipIdx_cons, List.zipIdx_nil, xb1, List.forIn_nil]
 apply xab; apply xab; apply wpAny_onRaise
 show wpAny _ _ (Builtin.SmallTypes.nextOf (.ref i1) >>= _) _ _ _
 apply xab
 refine WM hh (Z.i1.extBut s1.extBut D.i1z) (Z.t1.extBut s1.extBut D.l1z) hx fun g2 e s2 he => ?_
 obtain ⟨o, eo, co⟩ := he
 have z2 : IsZip g2 z TI TO .ellipsis := s2 _ _ D.i1z.symm z1
 have ez : e ≠ z := fun w => by subst w; rw [z2] at eo; cases eo; simp at co
 refine wpAny_setField_rec z2 (by simp) fun g3 _ s3 => ?_
 exact q g3 e (fun c o n1 _ n3 _ w => s3.extBut _ _ n1 (s2 _ _ n3 (s1.extBut _ _ n1 w))) ⟨o, s3.extBut _ _ ez eo, co⟩
theorem WN {z TI TO i1 i2 t1 t2 : Addr} {k : Nat} {xs ys : Array Value} {x y : Value} {Q : Option Value -> Shared -> Prop} (D : ZipApart z TI TO i1 i2 t1 t2) (Z : iE s.heap z TI TO i1 i2 t1 t2 k xs ys .none) (hx : xs[k]? = some x) (hy : ys[k]? = some y)
  (q : ∀ g, iE g z TI TO i1 i2 t1 t2 (k + 1) xs ys (rawInt s.heap.objs.size) -> IsPair g s.heap.objs.size x y -> g.objs.size = s.heap.objs.size + 1 -> (∀ c o, c ≠ z -> c ≠ TO -> c ≠ i1 -> c ≠ i2 -> s.heap.get? c = some o -> g.get? c = some o) -> Q (some (.ref s.heap.objs.size)) { s with heap := g }) :
  wpAny (model prog w) A (pyNext (.ref z)) Q E s := by
 have T : s.TypeIs (.ref z) "zip" := ⟨_, Z.z, rfl⟩
 unfold pyNext
 apply xab; apply wpAny_attempt
 refine wpAny_callSpecial?_slot (name := "__next__") T F.slot_zip_next ?_
 refine wpAny_call_entry F.slot_zip_next T F.entry_zip_next ?_ (F.args_zip_next_1 _)
 exact Z.next D hx hy fun g a1 a2 a3 a4 => xap (q g a1 a2 a3 a4)
theorem WO {z TI TO i1 i2 t1 t2 : Addr} {k : Nat} {xs ys : Array Value} {Q : Option Value -> Shared -> Prop} (hh : A.handled = none) (D : ZipApart z TI TO i1 i2 t1 t2) (Z : iE s.heap z TI TO i1 i2 t1 t2 k xs ys .none) (hx : xs[k]? = none)
  (q : ∀ g, (∀ c o, c ≠ z -> c ≠ TO -> c ≠ i1 -> c ≠ i2 -> s.heap.get? c = some o -> g.get? c = some o) -> Q none { s with heap := g }) : wpAny (model prog w) A (pyNext (.ref z)) Q E s := by
 have T : s.TypeIs (.ref z) "zip" := ⟨_, Z.z, rfl⟩
 unfold pyNext
 apply xab; apply wpAny_attempt
 refine wpAny_callSpecial?_slot (name := "__next__") T F.slot_zip_next ?_
 refine wpAny_call_entry F.slot_zip_next T F.entry_zip_next ?_ (F.args_zip_next_1 _)
 refine Z.last hh D hx fun g e hk he => ?_
 obtain ⟨o, ho, hc⟩ := he
 apply xab
 exact wpAny_isInstance (T := "StopIteration") (b := true) ⟨o, ho, hc⟩ isSubtype_stop (xap (q _ hk))
def c8 (t : Addr) : Obj := { cls := .type "tuple_iterator", data := .fields #[.ref t, .int 0 0] }
def gT (a b : Value) : Obj := { cls := .type "tuple", data := .seq #[a, b] }
def zp0 (TI TO : Addr) : Obj := { cls := .type "zip", data := .fields #[.none, .bool false, .bool false, .ref TI, .ref TO] }
def kW (h : Heap) (t1 t2 : Addr) : Heap :=
 ((((h.push (c8 t1)).push (c8 t2)).push (gT (.ref h.objs.size) (.ref (h.push (c8 t1)).objs.size))).push (gT .none .none)).push (zp0 ((h.push (c8 t1)).push (c8 t2)).objs.size (((h.push (c8 t1)).push (c8 t2)).push (gT (.ref h.objs.size) (.ref (h.push (c8 t1)).objs.size))).objs.size)
theorem WP (t1 t2 : Addr) (xs ys : Array Value) : Meets (Builtin.«zip.__new__» ⟨[.type "zip", .ref t1, .ref t2], []⟩) (fun _ R s => s.heap.IsTuple t1 xs /\ s.heap.IsTuple t2 ys /\
  R (.ok (.ret (.ref ((((s.heap.push (c8 t1)).push (c8 t2)).push (gT (.ref s.heap.objs.size) (.ref (s.heap.push (c8 t1)).objs.size))).push (gT .none .none)).objs.size))) { s with heap := kW s.heap t1 t2 }) :=
 .of_wp fun prog w A R s h => by
  obtain ⟨hp, g, d, tk, os⟩ := s; obtain ⟨h1, h2, h⟩ := h
  have sub := sub_zip
  have L1 : Heap.IsTuple (Shared.heap ⟨hp, g, d, tk, os⟩) t1 xs := h1
  have L2 : Heap.IsTuple (Shared.heap ⟨hp.push { cls := .type "tuple_iterator", data := .fields #[.ref t1, .int 0 0] }, g, d, tk, os⟩) t2 ys := h2.at fun o e => xad _ e
  wp_walk using wpAny_pyIter_tuple L1, wpAny_pyIter_tuple L2
  exact ⟨_, rfl, h⟩
theorem WQ {t1 t2 : Addr} {xs ys : Array Value} {Q : Value -> Shared -> Prop} (h1 : s.heap.IsTuple t1 xs) (h2 : s.heap.IsTuple t2 ys)
  (q : ∀ g, iE g (s.heap.objs.size + 4) (s.heap.objs.size + 2) (s.heap.objs.size + 3) s.heap.objs.size (s.heap.objs.size + 1) t1 t2 0 xs ys .none -> (∀ c o, s.heap.get? c = some o -> g.get? c = some o) -> Q (.ref (s.heap.objs.size + 4)) { s with heap := g }) :
  wpAny (model prog w) A (call (.type "zip") [.ref t1, .ref t2]) Q E s := by
 refine callType_new F.called_zip (by decide) (F.typeCall_zip_2 _ _) (F.newCall_zip_2 _ _) (fun obj => F.args_object_init_3 obj _ _) F.entry_zip_new (WP t1 t2 xs ys) ⟨h1, h2, ?_⟩
 have a1 : (s.heap.push (c8 t1)).objs.size = s.heap.objs.size + 1 := xbq ..
 have a2 : ((s.heap.push (c8 t1)).push (c8 t2)).objs.size = s.heap.objs.size + 2 := by rw [xbq, a1]
 have a3 : (((s.heap.push (c8 t1)).push (c8 t2)).push (gT (.ref s.heap.objs.size) (.ref (s.heap.push (c8 t1)).objs.size))).objs.size = s.heap.objs.size + 3 := by rw [xbq, a2]
 have a4 : ((((s.heap.push (c8 t1)).push (c8 t2)).push (gT (.ref s.heap.objs.size) (.ref (s.heap.push (c8 t1)).objs.size))).push (gT .none .none)).objs.size = s.heap.objs.size + 4 := by rw [xbq, a3]
 have k : ∀ c o, s.heap.get? c = some o -> (kW s.heap t1 t2).get? c = some o := fun c o e => xad _ (xad _ (xad _ (xad _ (xad _ e))))
 have b5 : (kW s.heap t1 t2).get? (s.heap.objs.size + 4) = some (zp0 (s.heap.objs.size + 2) (s.heap.objs.size + 3)) := by
  unfold kW; rw [a2, a3]; exact xcl a4.symm rfl
 have b4 : (kW s.heap t1 t2).get? (s.heap.objs.size + 3) = some (gT .none .none) := xad _ (xcl a3.symm rfl)
 have b3 : (kW s.heap t1 t2).get? (s.heap.objs.size + 2) = some (gT (.ref s.heap.objs.size) (.ref (s.heap.objs.size + 1))) := xad _ (xad _ (by rw [a1]; exact xcl a2.symm rfl))
 have b2 : (kW s.heap t1 t2).get? (s.heap.objs.size + 1) = some (c8 t2) := xad _ (xad _ (xad _ (xcl a1.symm rfl)))
 have b1 : (kW s.heap t1 t2).get? s.heap.objs.size = some (c8 t1) := xad _ (xad _ (xad _ (xad _ (xav _ rfl))))
 show _ /\ _
 rw [a4]
 exact ⟨⟨_, b5, rfl⟩, q _ ⟨b5, b3, ⟨_, _, b4⟩, ⟨_, b1, rfl, rfl⟩, ⟨_, b2, rfl, rfl⟩, h1.at fun o e => k _ o e, h2.at fun o e => k _ o e⟩ k⟩
end
section
variable {X : Cx} {pins : List (Addr × Obj)} {U : St} {H : Hp} {s : Shared} {h' : Heap}
theorem aH.turnedL {t' : Nat} {ch : List Addr} (I : aH X pins U H s) (k : ∀ b o, b ∉ ch -> s.heap.get? b = some o -> h'.get? b = some o) (f : ∀ b ∈ ch, fQ X pins H b) : aH X pins U H { s with heap := h', toks := t' } := by
 have nit : ∀ b u, H b = some u -> b ∉ ch := fun b u e z => by rw [(f b z).1] at e; cases e
 refine I.step (g' := s.gens) (d' := s.drawn) (ch := ch) (fun b hb => ?_) (fun b o _ _ hc e _ => k b o hc e) (fun b o _ _ hc e _ => ⟨o.slots, k b o hc e⟩) (fun _ _ _ _ n => n) (fun b o hc e => ⟨o, k b o hc e⟩) (fun _ _ e => e) (fun _ _ _ e => e) (fun b ps e => ⟨#[], by rw [e]; simp⟩) (fun m hm => ?_) (fun b u e => ?_) I.bare
 ·obtain ⟨_, f1, _, f3, f4, f5⟩ := f b hb
  exact ⟨f3, f1, f4, f5⟩
 ·obtain ⟨o, es, ep, ho, r⟩ := hm
  exact ⟨o, es, ep, k _ o (fun z => (f _ z).2.1 rfl) ho, r⟩
 ·refine (I.hok b u e).stay (fun c v hc q => k c v ?_ q) (fun _ q => q) fun _ _ q => q
  rcases hc with z | z
  ·rw [z]; exact nit b u e
  ·exact nit c _ z
end
def wW (K : xFg) (a b : Addr) : It :=
 ⟨fun i H => ∃ xs ys x y, bJ K H a xs /\ bJ K H b ys /\ xs[i]? = some x /\ ys[i]? = some y,
  fun i H v H' => ∃ T x y, v = .ref T /\ H T = none /\ H' = aO H T (.tup [x, y]) /\ (∀ xs, bJ K H a xs -> xs[i]? = some x) /\ ∀ ys, bJ K H b ys -> ys[i]? = some y,
  fun i H => ∃ xs ys, bJ K H a xs /\ bJ K H b ys /\ xs.length <= i⟩
structure ZT (z TI TO i1 i2 a b : Addr) (k : Nat) (h : Heap) : Prop where
 z : IsZip h z TI TO .none
 ti : IsPair h TI (.ref i1) (.ref i2)
 to : ∃ u v, IsPair h TO u v
 i1 : h.IsTupleIter i1 a k
 i2 : h.IsTupleIter i2 b k
theorem WR {P : Program} {w : World} {K : xFg} {es : List Expr} {ct : Nat} {ps : Pos} {z TI TO i1 i2 a b : Addr} (D : ZipApart z TI TO i1 i2 a b) : lH P w K (.Tuple es ct ps) (wW K a b) [z, TI, TO, i1, i2] z (ZT z TI TO i1 i2 a b) where
 mem := by simp
 obj := fun i h st c hc => by
  simp only [xag, xa5, or_false] at hc
  rcases hc with rfl | rfl | rfl | rfl | rfl
  ·exact ⟨_, st.z, fun v q => by cases q⟩
  ·exact ⟨_, st.ti, fun v q => by cases q⟩
  ·obtain ⟨u, v, e⟩ := st.to
   exact ⟨_, e, fun v q => by cases q⟩
  ·obtain ⟨o, e, c, d⟩ := st.i1
   exact ⟨o, e, fun v q => by rw [d] at q; cases q⟩
  ·obtain ⟨o, e, c, d⟩ := st.i2
   exact ⟨o, e, fun v q => by rw [d] at q; cases q⟩
 keep := fun i h h' st k => by
  obtain ⟨u, v, e⟩ := st.to
  exact ⟨k _ (by simp) _ st.z, k _ (by simp) _ st.ti, ⟨u, v, k _ (by simp) _ e⟩, st.i1.at fun o e => k _ (by simp) o e, st.i2.at fun o e => k _ (by simp) o e⟩
 item := by
  intro X hP hw hK hc i pins s U H E I hf st hg
  subst hP hw hK
  obtain ⟨xs, ys, x, y, h1, h2, hx, hy⟩ := hg
  obtain ⟨its, rv, p, _⟩ := I.tuple h1
  obtain ⟨jts, rw', p', _⟩ := I.tuple h2
  obtain ⟨u, hu, ru⟩ := rv.get hx
  obtain ⟨v, hv, rr⟩ := rw'.get hy
  have Z : iE s.heap z TI TO i1 i2 a b i its.toArray jts.toArray .none := ⟨st.z, st.ti, st.to, st.i1, st.i2, p, p'⟩
  refine WN D Z (x := u) (y := v) (by simpa using hu) (by simpa using hv) fun g Zg pg sg kg => ⟨_, rfl, ?_⟩
  refine wpAny_letOwnedTupleGo_zip Zg.z fun g' zg sb => ?_
  have lz : z < s.heap.objs.size := xan st.z
  have I1 : aH X pins U (aO H s.heap.objs.size (.tup [x, y])) { s with heap := s.heap.push (gT u v), toks := s.toks } :=
   I.laid (fun _ _ q => xad _ q) (xak _) ⟨by show 2 <= sizeLine; decide, [u, v], .cons ru (.cons rr .nil), ⟨_, xav _ rfl, rfl, ⟨0, rfl⟩, rfl⟩⟩
  have fr : ∀ c ∈ [z, TI, TO, i1, i2], c ≠ s.heap.objs.size := fun c hc e => by
   simp only [xag, xa5, or_false] at hc
   obtain ⟨u, v, eTO⟩ := st.to
   obtain ⟨o1, q1, _⟩ := st.i1
   obtain ⟨o2, q2, _⟩ := st.i2
   rcases hc with rfl | rfl | rfl | rfl | rfl
   ·exact xa6 lz e
   ·exact xa6 (xan st.ti) e
   ·exact xa6 (xan eTO) e
   ·exact xa6 (xan q1) e
   ·exact xa6 (xan q2) e
  have I2 : aH X pins U (aO H s.heap.objs.size (.tup [x, y])) { s with heap := g', toks := s.toks } := by
   refine aH.turnedL (s := { s with heap := s.heap.push (gT u v), toks := s.toks }) (h' := g') (t' := s.toks) (ch := [z, TI, TO, i1, i2]) I1 (fun c o hc e => ?_) fun c hc => ?_
   ·have cz : c ≠ z := fun q => hc (by simp [q])
    rcases Heap.get?_push_cases e with ⟨rfl, rfl⟩ | e
    ·exact sb.extBut _ _ cz pg
    ·exact sb.extBut _ _ cz (kg c o cz (fun q => hc (by simp [q])) (fun q => hc (by simp [q])) (fun q => hc (by simp [q])) e)
   ·exact ⟨by rw [bC (fr c hc)]; exact (hf c hc).1, (hf c hc).2⟩
  obtain ⟨u', v', eTO⟩ := Zg.to
  refine ⟨.ref s.heap.objs.size, _, I2, rfl, ⟨_, x, y, rfl, I.fresh, rfl, fun zs hz => by rw [I.tuple_inj hz h1]; exact hx, fun zs hz => by rw [I.tuple_inj hz h2]; exact hy⟩, ⟨zg, sb.extBut _ _ D.TIz Zg.ti, ⟨u', v', sb.extBut _ _ D.TOz eTO⟩, Zg.i1.at fun o e => sb.extBut _ _ D.i1z e, Zg.i2.at fun o e => sb.extBut _ _ D.i2z e⟩, fun c hc => by rw [bC (fr c hc)]; exact (hf c hc).1⟩
 done := by
  intro X hP hw hK hc i pins s U H E I hf st hg
  subst hP hw hK
  obtain ⟨xs, ys, h1, h2, hx⟩ := hg
  obtain ⟨its, rv, p, _⟩ := I.tuple h1
  obtain ⟨jts, rw', p', _⟩ := I.tuple h2
  have Z : iE s.heap z TI TO i1 i2 a b i its.toArray jts.toArray .none := ⟨st.z, st.ti, st.to, st.i1, st.i2, p, p'⟩
  have hl := rv.length
  refine WO (I.ok.hd hc) D Z (by simp; omega) fun g kg => ⟨rfl, I.turnedL (t' := s.toks) (ch := [z, TI, TO, i1, i2]) (fun c o hc e => ?_) hf⟩
  exact kg c o (fun q => hc (by simp [q])) (fun q => hc (by simp [q])) (fun q => hc (by simp [q])) (fun q => hc (by simp [q])) e
 self := fun _ _ _ _ _ st h => wpAny_pyIter_zip st.z h
end L2
namespace DL
open L2 PyProof.Rows
section
variable {X : Cx} {E : XK}
def WS (K : xFg) (ta : TA) : TI := fun U H R => ta U H fun vs H1 => ∃ a b, vs = [.ref a, .ref b] /\ (∃ xs, bJ K H1 a xs) /\ (∃ ys, bJ K H1 b ys) /\ R (wW K a b) H1
theorem WT {a b : Expr} {ta : TA} {p pos ps : Pos} {es : List Expr} {ct : Nat} (hg : Gl X "zip") (hm : X.mg "zip" = none) (ha : PA X [a, b] ta) (hs : starEach [a, b] X.env = [(false, eval a X.env), (false, eval b X.env)] := by rfl) (hs2 : starEach [b] X.env = [(false, eval b X.env)] := by rfl) :
  PI X (.Tuple es ct ps) (.Call (.Name "zip" p) [a, b] [] pos) (WS X.K ta) := by
 intro pins s U H R I h
 refine Call_ (oO I hg hm boot_zip (PyProof.Rows.callWith_type1 (aP (ha pos pins s U H _ I h) fun us s1 ⟨vs, H1, I1, r1, q1⟩ => ?_) (by rw [hs, hs2]) (by rw [hs2]; rfl)))
 obtain ⟨a, b, e, ⟨xs, hx⟩, ⟨ys, hy⟩, q⟩ := q1
 subst e
 cases r1 with
 | cons r rr =>
  cases rr with
  | cons r' rr =>
   cases rr
   cases r
   cases r'
   obtain ⟨its, _, p1, _⟩ := I1.tuple hx
   obtain ⟨jts, _, p2, _⟩ := I1.tuple hy
   have l1 : a < s1.heap.objs.size := by obtain ⟨o, e, _⟩ := p1; exact xan e
   have l2 : b < s1.heap.objs.size := by obtain ⟨o, e, _⟩ := p2; exact xan e
   refine WQ p1 p2 fun g Z kg => ?_
   refine wpAny_pyIter_zip Z.z ?_
   refine ⟨_, [s1.heap.objs.size + 4, s1.heap.objs.size + 2, s1.heap.objs.size + 3, s1.heap.objs.size, s1.heap.objs.size + 1], _, _, H1, rfl, I1.kept (t' := s1.toks) kg, WR (zipApart_new l1 l2), ⟨Z.z, Z.ti, Z.to, Z.i1, Z.i2⟩, fun c hc => ?_, q⟩
   have hc : s1.heap.objs.size <= c := by
    simp only [xag, xa5, or_false] at hc
    rcases hc with rfl | rfl | rfl | rfl | rfl
    ·exact xcr _ _
    ·exact xcr _ _
    ·exact xcr _ _
    ·exact xak _
    ·exact xcr _ _
   exact I1.fpOk hc (I1.hok.fresh hc)
def jU (xs ys : List D) : List D := List.zipWith (fun x y => .tup [x, y]) xs ys
def pU : List D -> R (List D)
 | [.tup xs, .tup ys] => bif xs.length == ys.length then .ok (jU xs ys) else .bad
 | _ => .bad
theorem eU.zip {K : xFg} {mg : Str -> Option Value} {G : Hp} {a b : Addr} {vs us : List V} {xs ys : List D} (h : bJ K G a vs) (h' : bJ K G b us) (r : Reps K mg G xs vs) (r' : Reps K mg G ys us) (hl : xs.length = ys.length) : eU K mg (wW K a b) G (jU xs ys) := by
 have ln : (jU xs ys).length = vs.length := by unfold jU; rw [List.length_zipWith, <- hl, Nat.min_self, r.length]
 refine ⟨fun H e => ⟨vs, us, aK.sqT e h, aK.sqT e h', by rw [ln]; exact xak _⟩, fun H i d e hd => ?_⟩
 obtain ⟨x, y, hx, hy, rfl⟩ : ∃ x y, xs[i]? = some x /\ ys[i]? = some y /\ d = .tup [x, y] := by
  unfold jU at hd
  rw [List.getElem?_zipWith] at hd
  cases ex : xs[i]? with
  | none => rw [ex] at hd; cases hd
  | some x =>
   cases ey : ys[i]? with
   | none => rw [ex, ey] at hd; cases hd
   | some y => rw [ex, ey] at hd; exact ⟨x, y, rfl, rfl, (xbk hd).symm⟩
 obtain ⟨v, hv, rv⟩ := r.get hx
 obtain ⟨u, hu, ru⟩ := r'.get hy
 refine ⟨⟨vs, us, v, u, aK.sqT e h, aK.sqT e h', hv, hu⟩, ?_⟩
 rintro _ H' ⟨T, v', u', rfl, hn, rfl, q1, q2⟩ G1 e1 e2
 have z1 := q1 _ (aK.sqT e h)
 have z2 := q2 _ (aK.sqT e h')
 rw [hv] at z1; cases z1
 rw [hu] at z2; cases z2
 have st := Step.pub (o := .tup [v, u]) e2 hn
 exact ⟨aO G1 T (.tup [v, u]), st, T, [v, u], rfl, bJ.of bP, .cons (rv.mono (e1.trans st.g)) (.cons (ru.mono (e1.trans st.g)) rfl)⟩
theorem WU {a b : Expr} {fs : DSt -> R (List D)} {p pos ps : Pos} {es : List Expr} {ct : Nat} (hm : X.mg "zip" = none) (ha : DA X E [a, b] fs) (hg : Gl X "zip" := by rfl) (hs : starEach [a, b] X.env = [(false, eval a X.env), (false, eval b X.env)] := by rfl) (hs2 : starEach [b] X.env = [(false, eval b X.env)] := by rfl) :
  DI X E (.Tuple es ct ps) (.Call (.Name "zip" p) [a, b] [] pos) (fG pU fs) := by
 refine PI.mono' (WT hg hm ha hs hs2) fun U H R ⟨G, Ud, ok, q⟩ => ?_
 refine ⟨G, Ud, ok, q.of_bind.mono (fun ds _ z vs G' H' s r => ?_) fun _ z => z⟩
 match ds, z, r with
 | [.tup xs, .tup ys], z, r =>
  obtain ⟨v, r1, rfl, ⟨a, as, rfl, h1, k1⟩, r2⟩ := r
  obtain ⟨v', r3, rfl, ⟨b, bs, rfl, h2, k2⟩, r4⟩ := r2
  cases r4
  cases hl : (xs.length == ys.length) with
  | false => simp only [pU, hl, cond_false] at z; exact z.elim
  | true =>
   simp only [pU, hl, cond_true] at z
   exact ⟨a, b, rfl, ⟨as, aK.sqT s.e h1⟩, ⟨bs, aK.sqT s.e h2⟩, z _ G' H' s (.zip h1 h2 k1 k2 (by simpa using hl))⟩
end
end DL
namespace DL
open L2 PyProof.Rows
section
variable {P : Program} {w : World} {K : xFg} {mg : Str -> Option Value} {base : Heap} {x : Str} {st : Stmt} {f : Addr} {fd : FuncData} {N ps : List Str} {k n nN : Nat} {own' : List Nat} {body : DSt -> R aG}
structure FD (K : xFg) (x : Str) (st : Stmt) : Prop where
 ex : ∃ f fd, PySem.W.nsIn K mainGlobals x = some (some (.ref f)) /\ eP K x x st f fd
theorem FD.mk' {oc : Value} {od an : Option Addr} {osl : Array (Option Value)} {kV doc pm cdv ct : Value} (a : PySem.W.nsIn K mainGlobals x = some (some (.ref f))) (l : K.lookup f = some ⟨oc, od, .func (PySem.W.fnOf x x (iN st) (eI st) (bX st) .none kV doc pm an cdv ct), osl⟩)
  (c : PySem.W.codeIn K cdv x = true) (k : PySem.W.keepIn K (.ref f) = true) : FD K x st := ⟨f, _, a, uV l c k⟩
structure FA (K : xFg) (mg : Str -> Option Value) (x : Str) (st : Stmt) (ps : List Str) (f : Addr) (fd : FuncData) : Prop where
 F : eP K x x st f fd
 m : mg x = some (.ref f)
 b : eE K fd ps []
theorem FD.go {h : Heap} (d : FD K x st) (X : K.In h) (G : h.Ns mainGlobals mg) (ps : List Str)
  (b : ∀ (kV doc pm : Value) (an : Option Addr) (cdv ct : Value) (us : List Value), us.length = ps.length -> bindArgs (PySem.W.fnOf x x (iN st) (eI st) (bX st) .none kV doc pm an cdv ct) ⟨us, []⟩ = pure (ps.zip us)) : ∃ f fd, FA K mg x st ps f fd := by
 obtain ⟨f, fd, a, F⟩ := d.ex
 exact ⟨f, fd, F, xbn X G a, F.binds b⟩
abbrev XX (P : Program) (w : World) (K : xFg) (mg : Str -> Option Value) (base : Heap) (x : Str) (st : Stmt) (f : Addr) (N : List Str) (k : Nat) (D : Cx -> XK -> Prop) : Prop :=
 ∀ cdv A outer s H E, XC (cW (bQ P w) P w K mg base N x (bX st) f cdv A outer s H E) E k -> XL (cW (bQ P w) P w K mg base N x (bX st) f cdv A outer s H E) -> N.Nodup -> D (cW (bQ P w) P w K mg base N x (bX st) f cdv A outer s H E) E
theorem FA.ok (F : FA K mg x st ps f fd) (S : fD N ps (bX st)) (hn : ps.length = n) (hN : N.length = nN)
  (hb : XX P w K mg base x st f N k fun X E => fH X E [] own' [] (eI st) body) : aS P w K mg base (k + 1) x (bN n nN body) :=
 aS.mk' F.F S F.m F.b hn hN fun X E hX C L => by
  obtain ⟨cdv, A, outer, s, H, rfl⟩ := hX
  exact hb cdv A outer s H E C L S.nd
end
end DL
namespace DL
open L2 PyProof.Rows
section
variable {X : Cx} {E : XK} {K : xFg} {mg : Str -> Option Value} {p pos : Pos} {e : Expr} {es : List Expr} {fs : DSt -> R (List D)}
def WV : V -> List V -> Hp -> VK -> Prop := fun x vs H Q => ∃ a b, x = .str a /\ vs = [.str b] /\ (b.length == 0) = false /\ a.length + 2 <= sizeLine /\ ∀ p, H p = none -> Q (.ref p) (aO H p (.lst ((Txt.split a b).map V.str)))
theorem WW (x y : Str) : (Txt.split x y).length <= x.length + 2 := by
 unfold Txt.split
 split
 ·exact Nat.succ_le_of_lt (by simp)
 ·split
  ·exact Nat.succ_le_of_lt (by simp)
  ·have e1 := StrLaws.occ_length_le x y 0 x.length (x.length + 1)
   rw [length_partsBetween]; omega
theorem WX : oS X "str.split" WV := by
 intro pins s U H x vs v us Q I rx rv h
 obtain ⟨a, b, rfl, rfl, hy, hz, q⟩ := h
 obtain ⟨t, rfl⟩ := rx
 obtain ⟨u, rfl, ru⟩ := rv.one
 obtain ⟨tb, rfl⟩ := ru
 have fin : ∀ (l : List (Str × Tok)) (tk : Nat), l.map (·.1) = Txt.split a b -> EP X pins U Q (.ref s.heap.objs.size) { s with heap := s.heap.push { cls := .type "list", data := .seq (strValues l).toArray }, toks := tk } := fun l tk e => by
  have hf : H s.heap.objs.size = none := I.hok.fresh (xak _)
  refine ⟨.ref s.heap.objs.size, aO H s.heap.objs.size (.lst ((Txt.split a b).map V.str)), I.laid (t' := tk) (fun b u e => xad _ e) (xak _) ?_, rfl, q _ hf⟩
  refine ⟨by rw [xae]; exact xaj (WW a b) hz, strValues l, 0, by rw [<- e, xbp]; exact wV l, xav _ rfl⟩
 have hn : (Builtin.Str.partsBetween a (Builtin.Str.occurrences a b 0 a.length (a.length + 1)) b.length).length <= sizeLine := by
  have e1 := StrLaws.occ_length_le a b 0 a.length (a.length + 1)
  rw [length_partsBetween]; omega
 cases h1 : (decide (a.length < b.length) || decide (Builtin.Str.strKind a < Builtin.Str.strKind b))
 ·cases hf : (Builtin.Str.occurrences a b 0 a.length (a.length + 1)).isEmpty
  ·refine call_meets F.slot_str_split (typeIs_str _ _ _) F.entry_str_split (F.args_str_split_2 _ _) (meets_str_split_sep a b t tb h1 hy hf (by omega) hn) ?_
   show wants _ _ _ { s with toks := _, heap := s.heap.push { cls := .type "list", data := .seq (strsFrom s.toks (Builtin.Str.partsBetween a (Builtin.Str.occurrences a b 0 a.length (a.length + 1)) b.length)).toArray } }
   rw [strsFrom_eq]
   exact fin (numbered s.toks _) _ ((numbered_texts _ _).trans ((xa1 (ne_true_of_eq_false h1)).trans (xa1 (ne_true_of_eq_false hf))).symm)
  ·exact call_meets F.slot_str_split (typeIs_str _ _ _) F.entry_str_split (F.args_str_split_2 _ _) (meets_str_split_not_found a b t tb h1 hy hf) (fin [(a, t)] s.toks ((xa1 (ne_true_of_eq_false h1)).trans (xa4 hf)).symm)
 ·exact call_meets F.slot_str_split (typeIs_str _ _ _) F.entry_str_split (F.args_str_split_2 _ _) (meets_str_split_cannot_occur a b t tb h1) (fin [(a, t)] s.toks (xa4 h1).symm)
def gU : D -> D -> R (List D)
 | .str x, .str y => bif (!(y.length == 0)) && aW (x.length + 2) then .ok ((Txt.split x y).map D.str) else .bad
 | _, _ => .bad
def WY (fe : DSt -> R D) (U : DSt) : D -> R (List D)
 | .str z => (fe U).bind fun d => gU (.str z) d
 | _ => .bad
def sU (fo fe : DSt -> R D) : DSt -> R (List D) := fun U => (fo U).bind fun z => WY fe U z
theorem HR {G : Hp} : ∀ ys : List Str, Reps K mg G (ys.map D.str) (ys.map V.str)
 | [] => Reps.nil
 | _ :: ys => Reps.cons rfl (HR ys)
theorem WZ {o e : Expr} {fo fe : DSt -> R D} {apos cpos : Pos} (ho : DE X E o fo) (he : DE X E e fe)
  (hbase : attributeBase o "split" X.env (eval o X.env) = eval o X.env := by rfl)
  (hfew : ((backTo cpos (starEach [e] X.env)).all (fun x => !x.1) && (backToKw cpos (keywordEach [] X.env)).all (fun x => x.1.isSome) && decide ([e].length + ([] : List Keyword).length + (if ([] : List Keyword).isEmpty then 0 else 1) < 30)) = true := by rfl)
  (hline : (apos.endLine == cpos.line) = true := by rfl) (hs : starEach [e] X.env = (false, eval e X.env) :: starEach [] X.env := by rfl) (hplain : (backTo cpos (starEach [] X.env)).any (·.1) = false := by rfl) :
  DF X E (.Call (.Attribute o "split" apos) [e] [] cpos) (sU fo fe) := by
 refine PE.mono' (mU PySem.F.plainAttrs_str PySem.F.slot_str_split PySem.F.type_str_split WX ho (cI he dA hs) hbase hfew hline hs hplain) fun U H Q ⟨G, Ud, ok, q⟩ => ?_
 refine eJ (P := fE X.K X.mg Q) ok q fun z x G1 H1 s1 ok1 r1 q1 => ?_
 cases z with
 | str y =>
  cases r1
  refine ⟨rfl, G1, Ud, ok1, (show RW ((aB fe aD) Ud) _ _ from ?_)⟩
  unfold aB
  have q2 := (show RW ((fe Ud).bind fun d => gU (.str y) d) _ _ from q1).of_bind
  cases hf : fe Ud with
  | bad => rw [hf] at q2; exact q2.elim
  | err e => rw [hf] at q2; exact (show bG X.K X.mg E G1 H1 e from q2)
  | ok d =>
   rw [hf] at q2
   have q3 : RW (gU (.str y) d) (fE X.K X.mg Q G H) (bG X.K X.mg E G1 H1) := q2
   rintro ws G2 H2 s2 ⟨v, _, e1, r3, r4⟩
   subst e1
   cases r4
   cases d with
   | str z =>
    cases r3
    cases hC : ((!(z.length == 0)) && aW (y.length + 2)) with
    | false => simp only [gU, hC, cond_false] at q3; exact q3.elim
    | true =>
     simp only [gU, hC, cond_true] at q3
     rw [xaw, xck] at hC
     refine ⟨y, z, rfl, rfl, hC.1, xat hC.2, fun p hp => ?_⟩
     have st := s1.trans s2
     have sp := Step.hid (o := .lst ((Txt.split y z).map V.str)) s2.e hp
     exact (show fE X.K X.mg Q G H ((Txt.split y z).map D.str) from q3) p _ G2 _ (st.trans sp) (st.h.free hp) bP (s2.e.free hp) (HR _)
   | _ => exact (show False from q3).elim
 | _ => exact (show False from q1).elim
theorem W0 : c9 X (.type "int") (fun xs H Q => ∃ x n, xs = [.str x] /\ x.length <= 640 /\ PySem.intText? x = some n /\ Q (.int n) H) := by
 intro pins s U H xs us Q I r h
 obtain ⟨x, n, rfl, hl, hn, q⟩ := h
 obtain ⟨u, rfl, t, rfl⟩ := g6 r
 exact call_int_1 (PySem.W.KIN.gives_text hl hn).meets ⟨typeIs_int _ _ _, .int n, H, I.tok _, ⟨_, rfl⟩, q⟩
def nQ : D -> R D
 | .str x => match PySem.intText? x with
  | some n => bif decide (x.length <= 640) then .ok (.int n) else .bad
  | none => .bad
 | _ => .bad
abbrev pV := g1 nQ
theorem W1 : iA K mg (fun xs H Q => ∃ x n, xs = [.str x] /\ x.length <= 640 /\ PySem.intText? x = some n /\ Q (.int n) H) pV := nE fun G H d v Q e r q => by
 cases d with
 | str x =>
  cases r
  cases hT : PySem.intText? x with
  | none => simp only [nQ, hT] at q; exact q.elim
  | some n =>
   cases hC : decide (x.length <= 640) with
   | false => simp only [nQ, hT, hC, cond_false] at q; exact q.elim
   | true => simp only [nQ, hT, hC, cond_true] at q; exact ⟨x, n, rfl, xat hC, hT, aN.now q e rfl⟩
 | _ => exact (show False from q).elim
theorem W2 (hm : X.mg "int" = none) (ha : DA X E (e :: es) fs) (hg : Gl X "int" := by rfl) (he : starEach (e :: es) X.env = (false, eval e X.env) :: starEach es X.env := by rfl) (hpl : (backTo pos (starEach es X.env)).any (·.1) = false := by rfl) : DE X E (.Call (.Name "int" p) (e :: es) [] pos) (aL pV fs) :=
 rK W0 W1 hm ha vQ hg (by decide) (by decide) he hpl
end
end DL
namespace DL
open PySem.W PyProof.Rows
section
variable {n : Nat} {lt : Nat -> Nat -> Bool}
abbrev sg (p : Array Nat) (i : Nat) : Nat := p.getD i 0
def Dn (lt : Nat -> Nat -> Bool) (p : Array Nat) (m : Nat) : Prop := ∀ i j, i < j -> j < m -> lt (sg p j) (sg p i) = true
end
end DL
namespace DL
open L2 PyProof.Rows
section
variable {K : xFg} {mg : Str -> Option Value} {c d : Str} {C D0 : Addr}
def NR (K : xFg) (C : Addr) (c d : Str) : Prop := PySem.W.nsIn K mainGlobals d = some none \/ ∃ D0, PySem.W.nsIn K mainGlobals d = some (some (.ref D0)) /\ PySem.W.kitOne K (.ref C) (.ref D0) = some (lU c d) /\ (lU c d = true -> PySem.W.exmOne K (.ref C) (.ref D0) = some true)
theorem NR.no (a : PySem.W.nsIn K mainGlobals d = some none) : NR K C c d := .inl a
theorem NR.ff (h : lU c d = false) (a : PySem.W.nsIn K mainGlobals d = some (some (.ref D0))) (t : PySem.W.kitOne K (.ref C) (.ref D0) = some false) : NR K C c d := .inr ⟨D0, a, by rw [h]; exact t, fun z => by rw [h] at z; cases z⟩
theorem NR.tt (h : lU c d = true) (a : PySem.W.nsIn K mainGlobals d = some (some (.ref D0))) (t : PySem.W.kitOne K (.ref C) (.ref D0) = some true) (u : PySem.W.exmOne K (.ref C) (.ref D0) = some true) : NR K C c d := .inr ⟨D0, a, by rw [h]; exact t, fun _ => u⟩
theorem NR.row {h : Heap} (r : NR K C c d) (X : K.In h) (G : h.Ns mainGlobals mg) : kR K mg C d (lU c d) := by
 rcases r with a | ⟨D0, a, t, u⟩
 ·exact kR.no (xbj X G a)
 ·exact kR.of (xbn X G a) t u
structure XD (K : xFg) (c : Str) : Prop where
 ex : ∃ C, PySem.W.nsIn K mainGlobals c = some (some (.ref C)) /\ PySem.W.excIn K C [.type "ValueError", .type "Exception", .type "BaseException", .type "object"] "ValueError.__new__" = true /\ lO K C /\ PySem.W.kitOne K (.ref C) (.type "ValueError") = some true /\ ∀ d ∈ kK, NR K C c d
theorem XD.mk' (e : PySem.W.nsIn K mainGlobals c = some (some (.ref C))) (y : PySem.W.excIn K C [.type "ValueError", .type "Exception", .type "BaseException", .type "object"] "ValueError.__new__" = true)
  (ga : PySem.W.findIn K (.ref C) "__getattribute__" = some (some (.builtin "BaseException.__getattribute__"))) (gh : PySem.W.findIn K (.ref C) "__getattr__" = some none) (bs : PySem.W.mroIn K C (.type "BaseException") = some true) (ob : PySem.W.mroIn K C (.type "object") = some true) (ca : PySem.W.findIn K (.ref C) "__class__" = some (some (.builtin "object.__class__")))
  (cg : PySem.W.specialIn K (.builtin "object.__class__") "__get__" = some (some (.builtin "getset_descriptor.__get__"))) (ct : PySem.W.takesIn K (.builtin "object.__class__") = some true) (vv : PySem.W.kitOne K (.ref C) (.type "ValueError") = some true)
  (r0 : NR K C c "ChalkError") (r1 : NR K C c "NoPlace") (r2 : NR K C c "Same") (r3 : NR K C c "NoFloor") (r4 : NR K C c "Endless") (r5 : NR K C c "NoDeed") (r6 : NR K C c "NoText") (r7 : NR K C c "NoName") (r8 : NR K C c "TooMany") (r9 : NR K C c "NoChange") (r10 : NR K C c "NoFrame") (r11 : NR K C c "NoValue") (r12 : NR K C c "Unlike") (r13 : NR K C c "NoRatio") (r14 : NR K C c "NoBow") (r15 : NR K C c "NoRow") : XD K c := by
 refine ⟨C, e, y, ⟨by (obtain ⟨_, hc, _⟩ := PySem.W.kw_along ga; rw [hc]; rfl), ga, gh, bs, ob, ca, cg, ct⟩, vv, fun d hd => ?_⟩
 simp only [kK, xag, xa5, or_false] at hd
 rcases hd with rfl | rfl | rfl | rfl | rfl | rfl | rfl | rfl | rfl | rfl | rfl | rfl | rfl | rfl | rfl | rfl <;> assumption
theorem XD.go {h : Heap} (x : XD K c) (X : K.In h) (G : h.Ns mainGlobals mg) : ∃ C, mg c = some (.ref C) /\ PySem.W.excIn K C [.type "ValueError", .type "Exception", .type "BaseException", .type "object"] "ValueError.__new__" = true /\ dX K mg c C := by
 obtain ⟨C, e, y, ec, vv, r⟩ := x.ex
 exact ⟨C, xbn X G e, y, dX.mk' (xbn X G e) ec vv fun d hd => (r d hd).row X G⟩
end
end DL
namespace DL
open PySem
theorem us0 {P : List Value -> Prop} (h : P []) : ∀ us : List Value, us.length = 0 -> P us := fun us hl => by
 cases us with
 | nil => exact h
 | cons => cases hl
theorem sV {P : List Value -> Prop} (h : ∀ a, P [a]) : ∀ us : List Value, us.length = 1 -> P us := fun us hl => by
 cases us with
 | nil => cases hl
 | cons a us => exact us0 (P := fun l => P (a :: l)) (h a) us (Nat.succ.inj hl)
theorem wX {P : List Value -> Prop} (h : ∀ a b, P [a, b]) : ∀ us : List Value, us.length = 2 -> P us := fun us hl => by
 cases us with
 | nil => cases hl
 | cons a us => exact sV (P := fun l => P (a :: l)) (h a) us (Nat.succ.inj hl)
theorem us3 {P : List Value -> Prop} (h : ∀ a b c, P [a, b, c]) : ∀ us : List Value, us.length = 3 -> P us := fun us hl => by
 cases us with
 | nil => cases hl
 | cons a us => exact wX (P := fun l => P (a :: l)) (h a) us (Nat.succ.inj hl)
theorem us4 {P : List Value -> Prop} (h : ∀ a b c d, P [a, b, c, d]) : ∀ us : List Value, us.length = 4 -> P us := fun us hl => by
 cases us with
 | nil => cases hl
 | cons a us => exact us3 (P := fun l => P (a :: l)) (h a) us (Nat.succ.inj hl)
theorem us5 {P : List Value -> Prop} (h : ∀ a b c d e, P [a, b, c, d, e]) : ∀ us : List Value, us.length = 5 -> P us := fun us hl => by
 cases us with
 | nil => cases hl
 | cons a us => exact us4 (P := fun l => P (a :: l)) (h a) us (Nat.succ.inj hl)
end DL
namespace DL
open L2 PyProof.Rows
variable {P : Program} {w : World} {K : xFg} {mg : Str -> Option Value} {base : Heap} {x : Str} {st : Stmt} {ps N : List Str} {f : Addr} {fd : FuncData} {k n nN : Nat} {own' : List Nat}
def HW : List D -> R D := fun _ => .bad
def i7 (g : (List D -> R D) -> List D -> R D) : Nat -> List D -> R D
 | 0 => HW
 | n + 1 => g (i7 g n)
theorem FA.bad (F : FA K mg x st ps f fd) (S : fD N ps (bX st)) : aS P w K mg base (k + 1) x HW := by
 refine ⟨f, fd, ps, F.F.okX S (fun vs H Q E h => ?_) (fun cdv A outer s H vs Q E hr hsp => ?_), F.m, F.F.kp, F.b⟩
 ·obtain ⟨G, ds, e, r, q⟩ := h
  exact (show False from q).elim
 ·obtain ⟨G, ds, e, r, q⟩ := hsp
  exact (show False from q).elim
theorem FA.deep (F : FA K mg x st ps f fd) (S : fD N ps (bX st)) (hn : ps.length = n) (hN : N.length = nN) {body : (List D -> R D) -> DSt -> R aG}
  (hb : ∀ (j : Nat) (m : List D -> R D), aS P w K mg base (k + 1 + j) x m -> XX P w K mg base x st f N (k + 1 + j) fun X E => fH X E [] own' [] (eI st) (body m)) :
  ∀ j, aS P w K mg base (k + 1 + j) x (i7 (fun m => bN n nN (body m)) j)
 | 0 => FA.bad F S
 | j + 1 => F.ok S hn hN (hb j _ (FA.deep F S hn hN hb j))
end DL
namespace L2
open PySem.Spec PyProof.Rows
section
variable {κ : Type} [DecidableEq κ]
def putK (kvs : List (κ × V)) (k : κ) (v : V) : List (κ × V) :=
 if (kvs.any fun kv => decide (kv.1 = k)) = true then kvs.map (fun kv => if kv.1 = k then (kv.1, v) else kv) else kvs ++ [(k, v)]
end
end L2
section
set_option maxHeartbeats 2000000
namespace DL
open L2 PyProof.Rows
theorem W4 {n k : Nat} {ds : List D} {d : D} (h : (eA n ds)[k]? = some (some d)) : ds[k]? = some d := by
 unfold eA at h
 by_cases hk : k < ds.length
 ·rw [xbc (by simpa using hk), xba] at h
  obtain ⟨x, h1, h2⟩ := xcn.mp h
  cases h2; exact h1
 ·rw [xbe (by simpa using hk), xb8] at h
  split at h <;> cases h
theorem HX {α : Type} {n k : Nat} {ds : List α} {d : α} (h : ds[k]? = some d) : (ds.map some ++ List.replicate n none)[k]? = some (some d) := by
 have hk := (xam.mp h).1
 rw [xbc (by simpa using hk), xba, h]; rfl
end DL
end
namespace DL
open L2 PyProof.Rows
section
variable {prog : Program} {w : World} {A : Around} {h h' : Heap} {it l z : Addr} {items : Array Value}
def e9 (xs : List Str) : Nat -> Nat
 | 0 => 0
 | i + 1 => if (xs.take i).contains (xs.getD i "") then e9 xs i else e9 xs i + 1
theorem wY (xs : List Str) : ∀ i, e9 xs i <= i
 | 0 => xak _
 | i + 1 => by have := wY xs i; unfold e9; split <;> omega
def HY (items : Array Value) (xs : List Str) : Prop := items.size = xs.length /\ ∀ j, j < items.size -> ∃ t, items[j]? = some (.str (xs.getD j "") t)
def kX (prog : Program) (w : World) (h : Heap) (z : Addr) (xs : List Str) (i : Nat) : Prop := h.SetOf (strKind prog w) z (fun k => (xs.take i).contains k) (e9 xs i)
theorem W5 {R : Result -> Shared -> Prop} (hh : A.handled = none) (hl : l ≠ it) (hz1 : z ≠ it) (hz2 : z ≠ l) (xs : List Str) (hx : HY items xs) (hn : items.size <= 1000) :
  ∀ (k i : Nat) (s : Shared), items.size - i = k -> i <= items.size -> (s.heap.IsListIter it l i /\ s.heap.IsList l items) -> kX prog w s.heap z xs i ->
   (∀ h2 tk, (∀ b u, b ≠ z -> b ≠ it -> s.heap.get? b = some u -> h2.get? b = some u) -> kX prog w h2 z xs items.size -> R (.ok (.ret .none)) { s with heap := h2, toks := tk }) ->
   codeAny (model prog w) A (.builtin "set.update.loop" ⟨[.ref z, .ref it], []⟩) R s := by
 have W := Walks.list (prog := prog) (w := w) (A := A.in1) (by rw [Around.in1_handled]; exact hh) it l hl items
 have mv : ∀ {h h' : Heap} {i : Nat}, (∀ b u, b ∉ [it] -> h.get? b = some u -> h'.get? b = some u) -> kX prog w h z xs i -> kX prog w h' z xs i := fun kp ⟨o, es, ep, t, g, r⟩ => ⟨o, es, ep, t, kp z o (by simpa using hz1) g, r⟩
 intro k
 induction k with
 | zero =>
  intro i s hk hi st S fin
  obtain rfl : i = items.size := by omega
  refine codeAny_builtin PyProof.Rows.F.entry_set_update_loop ?_
  rw [Around.under_plainId PyProof.Rows.F.plain_set_update_loop _]
  show wpAny _ A.in1 (pyNext (.ref it) >>= _) _ _ _
  refine xab (W.done s _ _ st fun h2 tk kp => ?_)
  show wpAny _ A.in1 (ret Value.none) _ _ _
  exact xap (fin h2 tk (fun b u _ b2 e => kp b u (by simpa using b2) e) (mv kp S))
 | succ k ih =>
  intro i s hk hi st S fin
  have hlt : i < items.size := by omega
  refine codeAny_builtin PyProof.Rows.F.entry_set_update_loop ?_
  rw [Around.under_plainId PyProof.Rows.F.plain_set_update_loop _]
  show wpAny _ A.in1 (pyNext (.ref it) >>= _) _ _ _
  refine xab (W.item i s _ _ hlt st fun v h1 tk hv st1 kp => ?_)
  obtain ⟨t, e1⟩ := hx.2 i hlt
  rw [hv] at e1
  cases e1
  have S1 := mv kp S
  show wpAny _ A.in1 (holding [Value.str (xs.getD i "") t] (setAdd z (.str (xs.getD i "") t)) >>= _) _ _ _
  unfold setAdd
  have his : (strKind prog w).is (xs.getD i "") (.str (xs.getD i "") t) = true := by
   show Value.isStr (.str (xs.getD i "") t) (xs.getD i "") = true
   simp [Value.isStr]
  refine xab (wpAny_holding (wpAny_holding (xab ((strKind prog w).pyHash his ?_))))
  refine wpAny_setAddHashed_of (s := { s with heap := h1, toks := tk + 1 }) his rfl S1 (by have := wY xs i; show _ < 4096; omega) fun h2 sb S2 => ?_
  have gz : z ∉ [it, l] := by
   rw [xag, xbb]
   rintro (q | q)
   ·exact hz1 q
   ·exact hz2 q
  refine xap ⟨plainId_quiet PyProof.Rows.F.plain_set_update_loop _, ih (i + 1) _ (by omega) hlt ?_ ?_ fun h3 tk3 kp3 S3 => ?_⟩
  ·exact W.frame _ h1 h2 st1 fun b hb u e => (sb.2 b fun q => gz (q ▸ hb)).trans e
  ·have hix : i < xs.length := by rw [<- hx.1]; exact hlt
   have e1 : (fun k' => (xs.take i).contains k' || decide (k' = xs.getD i "")) = fun k => (xs.take (i + 1)).contains k := by
    funext k'
    rw [List.take_succ, xas hix, List.contains_append, xbf, xas hix]
    simp [List.contains_cons, beq_iff_eq, Bool.beq_eq_decide_eq]
   have e2 : e9 xs (i + 1) = if (xs.take i).contains (xs.getD i "") = true then e9 xs i else e9 xs i + 1 := rfl
   unfold kX
   rw [<- e1, e2]
   exact S2
  ·exact fin h3 tk3 (fun b u b1 b2 e => kp3 b u b1 b2 ((sb.2 b b1).trans (kp b u (by simpa using b2) e))) S3
theorem W6 {led : Bool} {xs : List Str} (g : h.get? z = some (kU led)) : kX prog w h z xs 0 := by
 refine ⟨_, #[], 0, .fresh 0 0 led, g, ⟨rfl, rfl, rfl⟩, rfl, ?_, ?_, ?_, ?_, rfl⟩
 ·exact fun e he => by cases he
 ·intro k; simp
 ·decide
 ·rfl
set_option maxHeartbeats 3200000 in
theorem W7 {E : Value -> Shared -> Prop} {s : Shared} {Q : Value -> Shared -> Prop} (hh : A.handled = none) (hl : s.heap.IsList l items) (xs : List Str) (hx : HY items xs) (hn : items.size <= 1000)
  (q : ∀ h2 tk, kX prog w h2 s.heap.objs.size xs items.size -> (∀ b u, s.heap.get? b = some u -> h2.get? b = some u) -> Q (.ref s.heap.objs.size) { s with heap := h2, toks := tk }) : wpAny (model prog w) A (call (.type "set") [.ref l]) Q E s := by
 obtain ⟨mr1, mr2, mr3⟩ := PySem.F.called_set.mro
 have ma := PySem.F.called_set.made
 have su := PySem.F.called_set.sub
 have no := PySem.F.called_set.notType
 have cc := PySem.F.called_set.canCreate
 have ct := PySem.F.typeCall_set_1 (.ref l)
 refine wpAny_call (codeAny_of_tree ?_)
 show wpAny _ _ (callAny (.type "set") _) _ _ _
 refine xap ⟨Code.quiet_builtin _ (by decide +kernel), codeAny_builtin F.entry_type_call ?_⟩
 rw [Around.under_plain (weight_type_call_type "set" [.ref l] []) rfl]
 repeat (any_goals (first | assumption | wp_step))
 refine codeAny_mono (code_set_new_1 (.ref l) (E := E) (Q₁ := fun ob s1 => ∃ led : Bool, ob = .ref s.heap.objs.size /\ s1 = { s with heap := s.heap.push (kU led) }) fun led => ⟨led, rfl, rfl⟩) fun r s1 hr => ?_
 cases r with
 | error e => exact hr
 | ok fl =>
  cases fl with
  | ret ob =>
   obtain ⟨led, rfl, rfl⟩ := hr
   have gS : (s.heap.push (kU led)).get? s.heap.objs.size = some (kU led) := xav _ rfl
   have tS : Shared.TypeIs { s with heap := s.heap.push (kU led) } (.ref s.heap.objs.size) "set" := ⟨_, gS, rfl⟩
   have il := PySem.F.called_set.init.lookup
   have ib := PySem.F.called_set.init.bind (.ref s.heap.objs.size)
   repeat (any_goals (first | assumption | wp_step))
   refine codeAny_mono (codeAny_call_builtin (R := wants (fun r s2 => r = .none /\ ∃ h2 tk, s2 = { s with heap := h2, toks := tk } /\ kX prog w h2 s.heap.objs.size xs items.size /\ (∀ b u, s.heap.get? b = some u -> h2.get? b = some u)) E) PySem.F.called_set.init.plain PySem.F.entry_set_init (check_set_init_1 tS ?_)) fun r2 s2 hr2 => ?_
   ·obtain ⟨⟨c1, c2, c3, c4⟩, gl, cl, nl, dl⟩ := hl
    simp only at cl dl
    subst cl dl
    have gl1 : (s.heap.push (kU led)).get? l = some { cls := .type "list", dict := c2, data := .seq items nl, slots := c4 } := xad _ gl
    have ls := PySem.F.sub_list_set
    have lf := PySem.F.sub_list_frozenset
    have nd : (Value.type "list" == Value.type "dict") = false := by decide
    have il1 : (s.heap.push (kU led)).IsList l items := ⟨_, gl1, rfl, nl, rfl⟩
    unfold Builtin.«set.__init__» noKeywords Builtin.Frozenset.updateFrom
    generalize hPI : pyIter = PI
    wp_walk
    subst hPI
    refine wpAny_pyIter_list il1 ?_
    refine xab (wpAny_runValue ?_)
    have lS : l < s.heap.objs.size := xan gl
    refine W5 (A := A.in1.in1) (it := (s.heap.push (kU led)).objs.size) (l := l) (z := s.heap.objs.size) (items := items) hh ?_ ?_ ?_ xs hx hn items.size 0 _ (by omega) (xbv _) ⟨⟨_, xav _ rfl, rfl, rfl⟩, il1.push _⟩ (W6 (led := led) (xad _ gS)) ?_
    ·rw [xbq]; exact xa6 (Nat.lt_succ_of_lt lS)
    ·rw [xbq]; exact xa6 (xb5 _)
    ·exact xca lS
    ·intro h2 tk kp S2
     show wpAny _ _ _ _ _ _
     refine xap ?_
     show wpAny _ _ (ret Value.none) _ _ _
     refine xap ⟨rfl, h2, tk, rfl, S2, fun b u e => ?_⟩
     have lb := xan e
     refine kp b u (xa6 lb) ?_ (xad _ (xad _ e))
     rw [xbq]; exact xa6 (Nat.lt_succ_of_lt lb)
   ·cases r2 with
    | error e => exact hr2
    | ok fl2 =>
     cases fl2 with
     | ret r =>
      obtain ⟨rfl, h2, tk, rfl, S2, k2⟩ := hr2
      repeat (any_goals (first | assumption | wp_step))
      exact q _ _ S2 k2
     | _ => exact hr2.elim
  | _ => exact hr.elim
end
def l6 : List D -> Option (List Str)
 | [] => some []
 | .str x :: ds => (l6 ds).map (x :: ·)
 | _ => none
theorem HZ : ∀ {ds : List D} {xs : List Str}, l6 ds = some xs -> ds = xs.map .str
 | [], _, h => by cases h; rfl
 | .str x :: ds, _, h => by
  obtain ⟨ys, h1, rfl⟩ := xcn.mp (show (l6 ds).map (x :: ·) = some _ from h)
  rw [HZ h1]; rfl
 | .non :: _, _, h => by cases h
 | .bl _ :: _, _, h => by cases h
 | .int _ :: _, _, h => by cases h
 | .tup _ :: _, _, h => by cases h
 | .ty _ :: _, _, h => by cases h
 | .cls _ :: _, _, h => by cases h
 | .lst _ :: _, _, h => by cases h
 | .dct _ _ :: _, _, h => by cases h
 | .exc _ _ :: _, _, h => by cases h
def nS : D -> R D
 | .lst ds => match l6 ds with
  | some xs => bif Nat.ble xs.length 1000 then .ok (.int (e9 xs xs.length)) else .bad
  | none => .bad
 | _ => .bad
def wZ (f : DSt -> R D) : DSt -> R D := fun U => (f U).bind nS
section
variable {X : Cx} {E : XK}
theorem H9 : ∀ {xs : List Str} {us : List Value}, a6 (xs.map V.str) us -> us.length = xs.length /\ ∀ j, j < us.length -> ∃ t, us[j]? = some (.str (xs.getD j "") t)
 | [], us, h => by cases h; exact ⟨rfl, fun j hj => by cases hj⟩
 | x :: xs, us, h => by
  cases h with
  | cons r rs =>
   obtain ⟨h1, h2⟩ := H9 rs
   obtain ⟨t, rfl⟩ := (show ∃ t, _ = Value.str x t from r)
   refine ⟨by rw [xaf, xaf, h1], fun j hj => ?_⟩
   cases j with
   | zero => exact ⟨t, rfl⟩
   | succ j => exact h2 j (by simpa using hj)
def W8 (K : xFg) : List V -> Hp -> VK -> Prop := fun vs H Q => ∃ (p : Addr) (xs : List Str), vs = [.ref p] /\ bH K H p (xs.map V.str) /\ xs.length <= 1000 /\ ∀ a, H a = none -> Q (.ref a) (aO H a (.ext (pT a (e9 xs xs.length))))
theorem W9 (hc : X.calm = true) : c9 X (.type "set") (W8 X.K) := by
 intro pins s U H xs us Q I rs h
 obtain ⟨p, xs, rfl, hq, hn, q⟩ := h
 obtain ⟨u, rfl, rx⟩ := g6 rs
 cases rx
 obtain ⟨its, rv, pl, hz⟩ := I.list hq
 obtain ⟨h1, h2⟩ := H9 rv
 refine W7 (I.ok.hd hc) pl.isList xs ⟨by rw [xal, h1], fun j hj => ?_⟩ (by rw [xal, h1]; exact hn) fun g tk S2 kp => ?_
 ·rw [xal] at hj
  obtain ⟨t, e⟩ := h2 j hj
  exact ⟨t, by rw [List.getElem?_toArray]; exact e⟩
 ·obtain ⟨o, es, ep, t, k1, k2, k3, _, _, _, k4, k5⟩ := S2
  rw [show its.toArray.size = xs.length by rw [xal, h1]] at k5
  refine ⟨.ref s.heap.objs.size, _, I.laid (t' := tk) (h' := g) kp (xak _) (show dI X.prog X.w _ g _ (.ext (pT s.heap.objs.size (e9 xs xs.length))) from ⟨⟨o, es, ep, t, k1, k2, k3, k4, k5⟩, ⟨o, k1⟩, ?_⟩), rfl, q _ (I.hok.fresh (xak _))⟩
  rintro h1 h3 ⟨o, es, ep, t, g, r1⟩ kk
  exact ⟨o, es, ep, t, kk o g, r1⟩
theorem IA {K : xFg} {mg : Str -> Option Value} {G : Hp} : ∀ {xs : List Str} {vs : List V}, Reps K mg G (xs.map .str) vs -> vs = xs.map V.str
 | [], _, h => h
 | x :: xs, _, ⟨v, t, e, e1, e2⟩ => by
  rw [e, show v = .str x from e1, IA e2]; rfl
theorem XA {k : Nat} (C : XC X E k) (hm1 : X.mg "len" = none) (hm2 : X.mg "set" = none) {e : Expr} {fe : DSt -> R D} {p1 p2 pos pos2 : Pos} (hfe : DE X E e fe) (hg1 : Gl X "len" := by rfl) (hg2 : Gl X "set" := by rfl)
  (he1 : starEach [.Call (.Name "set" p2) [e] [] pos2] X.env = (false, eval (.Call (.Name "set" p2) [e] [] pos2) X.env) :: starEach [] X.env := by rfl) (hpl1 : (backTo pos (starEach [] X.env)).any (·.1) = false := by rfl)
  (he2 : starEach [e] X.env = (false, eval e X.env) :: starEach [] X.env := by rfl) (hpl2 : (backTo pos2 (starEach [] X.env)).any (·.1) = false := by rfl) :
  DE X E (.Call (.Name "len" p1) [.Call (.Name "set" p2) [e] [] pos2] [] pos) (wZ fe) := by
 refine PE.mono' (uR WL hg1 hm1 PySem.boot_len (kH (uS (W9 C.calm) hg2 hm2 (by rfl) (cI hfe dA he2) (by decide) (by decide) he2 hpl2) kG he1) (by decide) (by decide) he1 hpl1) fun U H Q ⟨G, Ud, ok, q⟩ => ?_
 refine ⟨G, Ud, ok, (show RW ((aB fe aD) Ud) _ _ from ?_)⟩
 unfold aB
 have q2 := q.of_bind
 cases hf : fe Ud with
 | bad => rw [hf] at q2; exact q2.elim
 | err x => rw [hf] at q2; exact (show bG X.K X.mg E G H x from q2)
 | ok d =>
  rw [hf] at q2
  have q3 : RW (nS d) (aN X.K X.mg Q G H) (bG X.K X.mg E G H) := q2
  rintro ws G2 H2 s2 ⟨v, _, e1, r3, r4⟩
  subst e1
  cases r4
  cases d with
  | lst ds =>
   obtain ⟨b, vs, rfl, hb, hv⟩ := r3
   cases hs : l6 ds with
   | none => simp only [nS, hs] at q3; exact (show False from q3).elim
   | some xs =>
    simp only [nS, hs] at q3
    cases hm : Nat.ble xs.length 1000 with
    | false => rw [hm] at q3; exact (show False from q3).elim
    | true =>
     rw [hm] at q3
     have q3 : aN X.K X.mg Q G H (.int (e9 xs xs.length)) := q3
     have hle : xs.length <= 1000 := by simpa using hm
     obtain rfl := HZ hs
     have hvs := IA hv
     subst hvs
     refine ⟨b, xs, rfl, s2.e.seq hb, hle, fun a ha => ?_⟩
     have hc := wY xs xs.length
     have sp := Step.hid (o := .ext (pT a (e9 xs xs.length))) s2.e ha
     exact ⟨a, _, rfl, bP, by omega, q3 _ _ _ (s2.trans sp) rfl⟩
  | _ => exact (show False from q3).elim
end
end DL
namespace DL
open L2 PyProof.Rows
section
variable {X : Cx} {E : XK}
def XB (K : xFg) : V -> List V -> Hp -> VK -> Prop := fun x vs H Q => ∃ sep b ys, x = .str sep /\ vs = [.ref b] /\ bJ K H b (ys.map V.str) /\ jT sep ys <= sizeLine /\ (eN sep ys).length <= sizeLine /\ Q (.str (eN sep ys)) H
theorem XE : oS X "str.join" (XB X.K) := by
 intro pins s U H x vs v us Q I rx rv h
 obtain ⟨sep, b, ys, rfl, rfl, hB, hz, hz2, q⟩ := h
 obtain ⟨t, rfl⟩ := rx
 obtain ⟨u, rfl, ru⟩ := rv.one
 cases ru
 obtain ⟨its, r, ⟨ob, g1, g2, n, g3⟩, _⟩ := I.tuple hB
 obtain ⟨l, rfl, hl⟩ := wU r
 subst hl
 refine call_meets F.slot_str_join (typeIs_str s sep t) F.entry_str_join (F.args_str_join_2 _ _) (meets_str_join_tuple sep t b l (xau (by show ¬ sizeLine < _; exact Nat.not_lt.mpr hz))) ⟨⟨ob, n, g1, g2, g3⟩, ?_⟩
 match l, hz2, q with
 | [], hz2, q => exact ⟨hz2, .str _, H, I.tok _, ⟨_, rfl⟩, q⟩
 | [p], hz2, q => exact ⟨.str _, H, I, ⟨_, rfl⟩, q⟩
 | _ :: _ :: _, hz2, q => exact ⟨hz2, .str _, H, I.tok _, ⟨_, rfl⟩, q⟩
def jV (sep : D) (d : D) : R D := match sep, d with
 | .str z, .tup ds => match dQ ds with
  | some ys => bif aW (jT z ys) && aW (eN z ys).length then .ok (.str (eN z ys)) else .bad
  | none => .bad
 | _, _ => .bad
def XF (fe : DSt -> R D) (U : DSt) : D -> R D
 | .str z => (fe U).bind fun d => jV (.str z) d
 | _ => .bad
def w5 (fo fe : DSt -> R D) : DSt -> R D := fun U => (fo U).bind fun z => XF fe U z
theorem XG {o e : Expr} {fo fe : DSt -> R D} {apos cpos : Pos} (ho : DE X E o fo) (he : DE X E e fe)
  (hbase : attributeBase o "join" X.env (eval o X.env) = eval o X.env := by rfl)
  (hfew : ((backTo cpos (starEach [e] X.env)).all (fun x => !x.1) && (backToKw cpos (keywordEach [] X.env)).all (fun x => x.1.isSome) && decide ([e].length + ([] : List Keyword).length + (if ([] : List Keyword).isEmpty then 0 else 1) < 30)) = true := by rfl)
  (hline : (apos.endLine == cpos.line) = true := by rfl) (hs : starEach [e] X.env = (false, eval e X.env) :: starEach [] X.env := by rfl) (hplain : (backTo cpos (starEach [] X.env)).any (·.1) = false := by rfl) :
  DE X E (.Call (.Attribute o "join" apos) [e] [] cpos) (w5 fo fe) := by
 refine PE.mono' (mU PySem.F.plainAttrs_str PySem.F.slot_str_join PySem.F.type_str_join XE ho (cI he dA hs) hbase hfew hline hs hplain) fun U H Q ⟨G, Ud, ok, q⟩ => ?_
 refine eJ (P := aN X.K X.mg Q) ok q fun z x G1 H1 s1 ok1 r1 q1 => ?_
 cases z with
 | str y =>
  cases r1
  refine ⟨rfl, G1, Ud, ok1, (show RW ((aB fe aD) Ud) _ _ from ?_)⟩
  unfold aB
  have q2 := (show RW ((fe Ud).bind fun d => jV (.str y) d) _ _ from q1).of_bind
  cases hf : fe Ud with
  | bad => rw [hf] at q2; exact q2.elim
  | err e => rw [hf] at q2; exact (show bG X.K X.mg E G1 H1 e from q2)
  | ok d =>
   rw [hf] at q2
   have q3 : RW (jV (.str y) d) (aN X.K X.mg Q G H) (bG X.K X.mg E G1 H1) := q2
   rintro ws G2 H2 s2 ⟨v, _, e1, r3, r4⟩
   subst e1
   cases r4
   cases d with
   | tup ds =>
    obtain ⟨b, vs, rfl, hb, hv⟩ := r3
    cases hs' : dQ ds with
    | none => simp only [jV, hs'] at q3; exact q3.elim
    | some ys =>
     have ev := Reps.strs hs' hv
     subst ev
     cases hC : (aW (jT y ys) && aW (eN y ys).length) with
     | false => simp only [jV, hs', hC, cond_false] at q3; exact q3.elim
     | true =>
      simp only [jV, hs', hC, cond_true] at q3
      rw [xaw] at hC
      exact ⟨y, b, ys, rfl, rfl, aK.sqT s2.e hb, xat hC.1, xat hC.2, aN.now ((show aN X.K X.mg Q G H (.str (eN y ys)) from q3).step (s1.trans s2)) s2.e rfl⟩
   | _ => exact (show False from q3).elim
 | _ => exact (show False from q1).elim
end
end DL
namespace DL
open L2
def IB : R2 := fun x y H Q => ∃ z k, x = .str z /\ y = .int k /\ ((k = 0 /\ Q (.str Str.empty) H) \/ (k = 1 /\ Q (.str z) H))
theorem op_mulB {X : Cx} : bM X (binaryOp .Mult) IB := by
 intro pins s U H x y v u Q I rx ry h
 obtain ⟨z, k, rfl, rfl, h⟩ := h
 obtain ⟨t, rfl⟩ := rx
 obtain ⟨t', rfl⟩ := ry
 rcases h with ⟨rfl, q⟩ | ⟨rfl, q⟩
 ·refine P.mul_str (by decide) (fun a => xaq (by decide) a) (fun a => xaq (by decide) a) ?_
  rw [xa4 (by decide)]
  exact ⟨by decide, .str Str.empty, H, I.tok _, ⟨_, rfl⟩, q⟩
 ·refine P.mul_str (by decide) (fun _ a => by cases a) (fun _ a => by cases a) ?_
  rw [xa1 (by decide), xa4 (show ((1 : Int) == 1 || z.length == 0) = true from rfl)]
  exact ⟨.str z, H, I, ⟨_, rfl⟩, q⟩
def jW : D -> D -> R D
 | .str z, .int k => bif decide (k = 0) then .ok (.str Str.empty) else bif decide (k = 1) then .ok (.str z) else .bad
 | _, _ => .bad
theorem XH : eR jW := by
 intro a b e
 cases a <;> cases b <;> simp only [jW] <;> first | (intro z; cases z; done) | (intro z; revert z; rename_i z k; cases (decide (k = 0)) <;> cases (decide (k = 1)) <;> simp [cond])
theorem XI {K : xFg} {mg : Str -> Option Value} : eQ K mg IB jW := by
 intro G H a b x y Q e ra rb q
 cases a with
 | str z => cases b with
  | int k =>
   cases ra; cases rb
   refine ⟨z, k, rfl, rfl, ?_⟩
   by_cases h0 : k = 0
   ·simp only [jW, xai h0, cond_true] at q
    exact .inl ⟨h0, aN.now q e rfl⟩
   ·by_cases h1 : k = 1
    ·simp only [jW, xau h0, xai h1, cond_false, cond_true] at q
     exact .inr ⟨h1, aN.now q e rfl⟩
    ·simp only [jW, xau h0, xau h1, cond_false] at q
     exact q.elim
  | _ => exact (show False from q).elim
 | _ => exact (show False from q).elim
section
variable {X : Cx} {E : XK} {a b : Expr} {fa fb : DSt -> R D} {pos : Pos}
theorem XJ (ha : DE X E a fa) (hb : DE X E b fb) : DE X E (.BinOp a .Mult b pos) (aC jW fa fb) := lP op_mulB XI XH ha hb
end
def kY (a b : D) : R D := bif aT 20 a && aT 20 b then .ok (.bl (!a7 a b)) else .bad
section
variable {X : Cx} {E : XK}
def XM (K : xFg) (mg : Str -> Option Value) : R2 := fun x y H Q => ∃ G d d', aK G H /\ Rep K mg G d x /\ Rep K mg G d' y /\ (aT 20 d && aT 20 d') = true /\ Q (.bl (!a7 d d')) H
theorem XN {k : Nat} (r : cL k X.A) : bM X (compareOp .NotEq) (XM X.K X.mg) := by
 intro pins s U H x y v u Q I rx ry h
 obtain ⟨G, d, d', e, r1, r2, c, q⟩ := h
 rw [xaw] at c
 have hu : X.A.units + 20 < cLine := by have := r.un; omega
 exact (rW I e 20 hu c.1 c.2 r1 rx r2 ry).2.2 _ _ _ _ ⟨.bl _, H, I, rfl, q⟩
theorem XO {k : Nat} (C : XC X E k) : eL X .NotEq kY := ⟨_, XN C.room, fun G H a b x y Q e ra rb q => by
 unfold kY at q
 cases hc : (aT 20 a && aT 20 b) with
 | false => rw [hc] at q; exact q.elim
 | true => rw [hc] at q; exact ⟨G, a, b, e, ra, rb, hc, aN.now q e rfl⟩, fun a b e => by unfold kY; cases (aT 20 a && aT 20 b) <;> simp [cond]⟩
end
end DL
namespace Rdr
open PySem
def top (i : Nat) : Stmt := PySem.Challenge.pw_chalkline_k32_drawings_written.main.body.getD i (.Pass ⟨0, 0, 0, 0⟩)
abbrev rCls : Stmt := top 13
end Rdr
namespace Rdr
open L2 PyProof.Rows
def flds (vr : V) (n : Int) : List (Str × V) := [("rows", vr), ("done", .int n)]
theorem IC (vr : V) (n : Int) : (flds vr n).lookup ("rows" : Str) = some vr := by rfl
theorem w6 (vr : V) (n : Int) : (flds vr n).lookup ("done" : Str) = some (.int n) := by rfl
theorem XQ (vr : V) (n : Int) : (flds vr n).lookup ("take" : Str) = none := by rfl
theorem ID (vr : V) (n : Int) : (flds vr n).lookup ("ahead" : Str) = none := by rfl
variable {P : Program} {w : World} {K : xFg} {mg : Str -> Option Value} {base : Heap}
inductive fA (K : xFg) (mg : Str -> Option Value) (C : Addr) (G H : Hp) (p : Addr) (rows : List DL.D) (n : Int) : Prop
 | mk (dx : Addr) (vr : V) (hp : H p = some (.ins C dx (flds vr n))) (hr : DL.Rep K mg G (.lst rows) vr) (gp : G p = none)
def fN (p : Addr) (H : Hp) : Hp := fun c => if c = p then none else H c
theorem IE {p : Addr} {H : Hp} : fN p H p = none := by unfold fN; rw [xa4 rfl]
theorem nU {p b : Addr} {H : Hp} (h : b ≠ p) : fN p H b = H b := by unfold fN; rw [xa1 h]
theorem nV {p b : Addr} {H : Hp} {o : HO} (h : fN p H b = some o) : b ≠ p /\ H b = some o := by
 unfold fN at h
 split at h
 ·cases h
 ·rename_i z; exact ⟨z, h⟩
abbrev iF (G H G' H' : Hp) (p : Addr) : Prop := DL.Step G (fN p H) G' H'
structure Txt (K : xFg) (mg : Str -> Option Value) (C : Addr) : Prop where
 cl : hJ K C
 nR : jI K C "rows"
 nD : jI K C "done"
abbrev IF : Stmt := jJ rCls 0
abbrev IG : Stmt := jJ rCls 1
abbrev IH : Stmt := jJ rCls 2
def dR (rows : List DL.D) (n : Int) : DL.D := rows.getD n.toNat (.lst [])
theorem fA.step {C p : Addr} {G H G' H' : Hp} {rows : List DL.D} {n : Int} (S : fA K mg C G H p rows n) (s : DL.Step G H G' H') : fA K mg C G' H' p rows n := by
 obtain ⟨dx, vr, h1, h2, h3⟩ := S
 exact ⟨dx, vr, s.h _ _ h1, h2.mono s.g, s.c _ _ h1 h3⟩
def w9 (K : xFg) (mg : Str -> Option Value) (C : Addr) : Sp := fun vs H Q _ => ∃ (G : Hp) (p : Addr) (rows : List DL.D) (n : Int), vs = [.ref p] /\ aK G H /\ fA K mg C G H p rows n /\ 0 <= n /\
 ∀ v G' H', DL.Step G H G' H' -> DL.Rep K mg G' (dR rows n) v -> Q v H'
theorem XR : fD ["self"] ["self"] (bX IG) := ⟨rfl, rfl, rfl, by decide +kernel, rfl, by decide +kernel, by decide +kernel⟩
theorem XS {f C : Addr} {fd : FuncData} {k : Nat} (F : eP K "ahead" "Reader.ahead" IG f fd) (T : Txt K mg C) (hm : mg "len" = none) : cH P w K mg base (bQ P w) (k + 1) f fd ["self"] (w9 K mg C) := by
 refine F.okX XR (fun vs H Q E h => ?_) (fun cdv A outer s H vs Q E hr h => ?_)
 ·obtain ⟨G, p, rows, n, rfl, _⟩ := h
  rfl
 ·obtain ⟨G, p, rows, n, rfl, e, S, n0, q⟩ := h
  refine ⟨_, mO (qM (NN (M6 (M5 (qU (pv 0) rfl) (uR AL rfl hm rfl (kH (qU (pv 0) rfl) kG)))) (AG AJ (qU (pv 0) rfl) (qU (pv 0) rfl) (fun _ _ => rfl)) (uP kG))), ?_⟩
  obtain ⟨dx, vr, h1, h2, h3⟩ := S
  obtain ⟨a, vs, rfl, hs, r⟩ := h2
  refine ⟨_, rfl, p, C, dx, _, _, rfl, h1, T.cl, T.nD, w6 _ _, _, rfl, p, C, dx, _, _, rfl, h1, T.cl, T.nR, IC _ _, a, vs, rfl, .inl (e.seq hs), n, _, rfl, rfl, _, rfl, ?_⟩
  have hl := r.length
  show (if decide (n < (vs.length : Int)) = true then _ else _)
  by_cases hn : n < (vs.length : Int)
  ·rw [xa4 (xai hn)]
   obtain ⟨j, rfl⟩ : ∃ j : Nat, n = (j : Int) := ⟨n.toNat, by omega⟩
   have hj : j < rows.length := by omega
   obtain ⟨v, hv, rv⟩ := r.get (xas hj)
   refine ⟨_, rfl, p, C, dx, _, _, rfl, h1, T.cl, T.nR, IC _ _, _, rfl, p, C, dx, _, _, rfl, h1, T.cl, T.nD, w6 _ _, a, vs, (j : Int), v, rfl, rfl, e.seq hs, ?_, ?_⟩
   ·unfold dJ iM
    rw [xa4 (by omega), xa4 (by omega), xbl]; exact hv
   ·refine q v G H (DL.Step.refl e) ?_
    unfold dR
    rw [xbl, xbf, xas hj]; exact rv
  ·rw [xa1 (by rw [xau hn]; exact xa2)]
   refine ⟨xbv _, fun l hl' => ?_⟩
   have sp := DL.Step.pub (o := .lst []) e hl'
   refine q _ _ _ sp ?_
   unfold dR
   rw [xbf, xb3 (by omega)]
   exact ⟨l, [], rfl, bH.of bP, DL.Reps.nil⟩
def II (K : xFg) (mg : Str -> Option Value) (C : Addr) : Sp := fun vs H Q _ => ∃ (G : Hp) (p : Addr) (rows : List DL.D) (n : Int), vs = [.ref p] /\ aK G H /\ fA K mg C G H p rows n /\ 0 <= n /\
 ∀ v G' H', iF G H G' H' p -> fA K mg C G' H' p rows (n + 1) -> DL.Rep K mg G' (dR rows n) v -> Q v H'
theorem IJ : fD ["self", "words"] ["self"] (bX IH) := ⟨rfl, rfl, rfl, by decide +kernel, rfl, by decide +kernel, by decide +kernel⟩
theorem XT {f g C : Addr} {fd gd : FuncData} {k : Nat} (F : eP K "take" "Reader.take" IH f fd) (T : Txt K mg C) (M : kF K C "ahead" g) (B : eE K gd ["self"] []) (O : cH P w K mg base (bQ P w) k g gd ["self"] (w9 K mg C)) : cH P w K mg base (bQ P w) (k + 1) f fd ["self"] (II K mg C) := by
 refine F.okX IJ (fun vs H Q E h => ?_) (fun cdv A outer s H vs Q E hr h => ?_)
 ·obtain ⟨G, p, rows, n, rfl, _⟩ := h
  rfl
 ·obtain ⟨G, p, rows, n, rfl, e, S, n0, q⟩ := h
  refine ⟨_, kB (kE (i := 1) IJ.nd rfl (Or.inl rfl) (uQ (pv 0) T.cl M O hr B .nil qW) rfl)
   (kB (PF (pv 0) uL PJ) (mO (qM (pv 1)))), ?_⟩
  obtain ⟨dx, vr, h1, h2, h3⟩ := id S
  refine ⟨_, rfl, p, dx, _, rfl, h1, ID _ _, G, p, rows, n, rfl, e, S, n0, fun v G1 H1 s1 r1 => ?_⟩
  obtain ⟨dx', vr', k1, k2, k3⟩ := S.step s1
  refine ⟨_, rfl, p, C, dx', _, _, rfl, k1, T.cl, T.nD, w6 _ _, n, 1, rfl, rfl, dx', _, k1, (by show 2 < 1000; decide), ?_⟩
  refine ⟨v, rfl, ?_⟩
  have sG : aK G1 (aO H1 p (.ins C dx' (dW "done" (.int (n + 1)) (flds vr' n)))) := fun b u h => by
   have : b ≠ p := fun z => by rw [z, k3] at h; cases h
   rw [bC this]; exact s1.e b u h
  exact q v G1 _ ⟨s1.g, fun b o h => by rw [bC (nV h).1]; exact s1.h b o (nV h).2, sG, fun a o h => s1.c a o (nV h).2⟩ ⟨dx', vr', bP, k2, k3⟩ r1
def IK (K : xFg) (mg : Str -> Option Value) (C : Addr) : Sp := fun vs H Q _ => ∃ (G : Hp) (p dx : Addr) (rows : List DL.D) (vr : V), vs = [.ref p, vr] /\ aK G H /\ H p = some (.ins C dx []) /\ G p = none /\ DL.Rep K mg G (.lst rows) vr /\
 ∀ H', aK G H' -> (∀ b o, H b = some o -> b ≠ p -> H' b = some o) -> fA K mg C G H' p rows 0 -> Q .non H'
theorem XU : fD ["self", "rows"] ["self", "rows"] (bX IF) := ⟨rfl, rfl, rfl, by decide +kernel, rfl, by decide +kernel, by decide +kernel⟩
theorem XV {f C : Addr} {fd : FuncData} {k : Nat} (F : eP K "__init__" "Reader.__init__" IF f fd) (T : Txt K mg C) : cH P w K mg base (bQ P w) (k + 1) f fd ["self", "rows"] (IK K mg C) := by
 refine F.okX XU (fun vs H Q E h => ?_) (fun cdv A outer s H vs Q E hr h => ?_)
 ·obtain ⟨G, p, dx, rows, vr, rfl, _⟩ := h
  rfl
 ·obtain ⟨G, p, dx, rows, vr, rfl, e, h1, gp, hr', q⟩ := h
  refine ⟨_, kB (zQ (pv 0) (pv 1) rfl) (mO (zQ (pv 0) uL rfl)), ?_⟩
  refine ⟨_, rfl, _, rfl, p, C, dx, _, rfl, h1, T.cl, T.nR, (by show 0 < 1000; decide), ?_⟩
  refine ⟨_, rfl, p, C, dx, _, rfl, bP, T.cl, T.nD, (by show 1 < 1000; decide), ?_⟩
  refine q _ (fun b u h => ?_) (fun b o h hb => by rw [bC hb, bC hb]; exact h) ⟨dx, vr, bP, hr', gp⟩
  have : b ≠ p := fun z => by rw [z, gp] at h; cases h
  rw [bC this, bC this]; exact e b u h
end Rdr
section
set_option maxHeartbeats 1000000
namespace Rdr
open L2 PyProof.Rows DL
section
variable {K : xFg} {mg : Str -> Option Value} {C p : Addr} {r : Nat} {rows : List D} {n n' : Int} {Ud : DSt} {U : L2.St} {G H G' H' G0 H0 : Hp} {E : XK}
structure eH (K : xFg) (mg : Str -> Option Value) (C : Addr) (r : Nat) (p : Addr) (Ud : DSt) (rows : List D) (n : Int) (U : L2.St) (G H : Hp) : Prop where
 ok : bU K mg Ud U G H
 un : Ud[r]? = some none
 hr : U[r]? = some (some (.ref p))
 at_ : fA K mg C G H p rows n
 n0 : 0 <= n
theorem eH.step (o : eH K mg C r p Ud rows n U G H) (s : Step G H G' H') : eH K mg C r p Ud rows n U G' H' := ⟨o.ok.step s, o.un, o.hr, o.at_.step s, o.n0⟩
theorem eH.on (o : eH K mg C r p Ud rows n U G H) (s : iF G H G' H' p) (a : fA K mg C G' H' p rows n') (h : 0 <= n') : eH K mg C r p Ud rows n' U G' H' :=
 ⟨⟨s.e, o.ok.len, fun i d q => let ⟨v, h1, h2⟩ := o.ok.val i d q; ⟨v, h1, h2.mono s.g⟩⟩, o.un, o.hr, a, h⟩
theorem eH.set {j : Nat} {d : D} {v : V} (o : eH K mg C r p Ud rows n U G H) (hj : j ≠ r) (q : Rep K mg G d v) : eH K mg C r p (Ud.set j (some d)) rows n (U.set j (some v)) G H :=
 ⟨o.ok.set q, by rw [xao hj]; exact o.un, by rw [xao hj]; exact o.hr, o.at_, o.n0⟩
theorem gV (s : Step G H G' H') : iF G H G' H' p := ⟨s.g, fun b o h => s.h b o (nV h).2, s.e, fun a o h => s.c a o (nV h).2⟩
theorem jX (s0 : Step G0 H0 G H) (hp : H0 p = none) (s : iF G H G' H' p) : Step G0 H0 G' H' := by
 have ne : ∀ b o, H0 b = some o -> b ≠ p := fun b o h z => by rw [z, hp] at h; cases h
 exact ⟨s0.g.trans s.g, fun b o h => s.h b o (by rw [nU (ne b o h)]; exact s0.h b o h), s.e, fun a o h q => s.c a o (by rw [nU (ne a o h)]; exact s0.h a o h) (s0.c a o h q)⟩
theorem kZ {G1 H1 : Hp} (s : iF G H G1 H1 p) (t : iF G1 H1 G' H' p) : iF G H G' H' p := jX s IE t
theorem xA {e : D} (z : bG K mg E G (fN p H) e) : bG K mg E G H e := fun G' H' C' dct s q => z G' H' C' dct (gV s) q
theorem nW {e : D} (z : bG K mg E G0 H0 e) (s0 : Step G0 H0 G H) (hp : H0 p = none) : bG K mg E G (fN p H) e := fun G' H' C' dct s q => z G' H' C' dct (jX s0 hp s) q
end
abbrev EF := List D -> DSt -> Int -> R (D × Int)
abbrev TF := List D -> DSt -> Int -> R (Bool × Int)
section
variable (K : xFg) (mg : Str -> Option Value) (E : XK) (C : Addr) (r : Nat)
def nX (rows : List D) (p : Addr) (G H : Hp) (Q : VK) (x : D × Int) : Prop := ∀ v G' H', iF G H G' H' p -> fA K mg C G' H' p rows x.2 -> 0 <= x.2 -> Rep K mg G' x.1 v -> Q v H'
def tER (f : EF) : TE := fun U H Q => ∃ G Ud rows n p, eH K mg C r p Ud rows n U G H /\ RW (f rows Ud n) (nX K mg C rows p G H Q) (bG K mg E G (fN p H))
def tRT (f : TF) : TT := fun U H Q => ∃ G Ud rows n p, eH K mg C r p Ud rows n U G H /\ RW (f rows Ud n) (fun x => ∀ G' H', iF G H G' H' p -> fA K mg C G' H' p rows x.2 -> 0 <= x.2 -> Q x.1 H') (bG K mg E G (fN p H))
end
def ER (X : Cx) (E : XK) (C : Addr) (r : Nat) (e : Expr) (f : EF) : Prop := PE X e (tER X.K X.mg E C r f)
def RT (X : Cx) (E : XK) (C : Addr) (r : Nat) (e : Expr) (f : TF) : Prop := PT X e (tRT X.K X.mg E C r f)
def rPure (fe : DSt -> R D) : EF := fun _ τ n => (fe τ).bind fun d => .ok (d, n)
def rTake : EF := fun rows _ n => .ok (dR rows n, n + 1)
def rAhead : EF := fun rows _ n => .ok (dR rows n, n)
def rTst (ft : DSt -> R Bool) : TF := fun _ τ n => (ft τ).bind fun b => .ok (b, n)
def rCmp (g : D -> D -> R D) (f : EF) (fb : DSt -> R D) : TF := fun rows τ n => (f rows τ n).bind fun x => (fb τ).bind fun d => (g x.1 d).bind fun z => (eK z).bind fun b => .ok (b, x.2)
structure RdF (P : Program) (w : World) (K : xFg) (mg : Str -> Option Value) (base : Heap) (k : Nat) (C : Addr) : Prop where
 T : Txt K mg C
 ah : ∃ f fd, cH P w K mg base (bQ P w) k f fd ["self"] (w9 K mg C) /\ kF K C "ahead" f /\ eE K fd ["self"] []
 tk : ∃ f fd, cH P w K mg base (bQ P w) k f fd ["self"] (II K mg C) /\ kF K C "take" f /\ eE K fd ["self"] []
section
variable {X : Cx} {E : XK} {C : Addr} {r k : Nat} {e a b c : Expr} {fe fb : DSt -> R D} {ft : DSt -> R Bool} {f : EF} {pos np apos : Pos} {x : Str}
theorem er_de (he : DE X E e fe) : ER X E C r e (rPure fe) := PE.mono' he fun U H Q ⟨G, Ud, rows, n, p, o, q⟩ =>
 ⟨G, Ud, o.ok, q.of_bind.mono (fun d _ z v G' H' s q => (show nX X.K X.mg C rows p G H Q (d, n) from z) v G' H' (gV s) (o.at_.step s) o.n0 q) fun _ z => xA z⟩
theorem rt_dt (hc : DT X E c ft) : RT X E C r c (rTst ft) := PT.mono' hc fun U H Q ⟨G, Ud, rows, n, p, o, q⟩ =>
 ⟨G, Ud, o.ok, q.of_bind.mono (fun b _ z G' H' s => (show ∀ G' H', iF G H G' H' p -> fA X.K X.mg C G' H' p rows n -> 0 <= n -> Q b H' from z) G' H' (gV s) (o.at_.step s) o.n0) fun _ z => xA z⟩
theorem er_take (XC : DL.XC X E k) (F : RdF X.prog X.w X.K X.mg X.base k C) {pl : Sem Bool} (h1 : X.N[r]? = some x := by rfl) (hv : gA X.env.scope x := by first | exact Or.inl rfl | exact Or.inr (Or.inl rfl) | exact Or.inr (Or.inr rfl)) (hd : (x == ("__debug__" : Str)) = false := by decide) (hcd : (x == ("__classdict__" : Str)) = false := by decide)
  (ht : eval (.Call (.Attribute (.Name x np) "take" apos) [] [] pos) X.env = (do
   let ov <- eval (.Name x np) X.env
   standAt apos.atName
   let (f, first) <- holding [ov] (getMethod ov "take" pl)
   callWith pos f first (backTo pos (starEach [] X.env)) (backToKw pos (keywordEach [] X.env))) := by rfl) :
  ER X E C r (.Call (.Attribute (.Name x np) "take" apos) [] [] pos) rTake := by
 obtain ⟨f, fd, O, M, B⟩ := F.tk
 refine PE.mono' (uQ (pv r h1 hv hd hcd) F.T.cl M O XC.room B .nil XC.pass ht) fun U H Q ⟨G, Ud, rows, n, p, o, q⟩ => ?_
 obtain ⟨dx, vr, k1, k2, k3⟩ := id o.at_
 exact ⟨_, o.hr, p, dx, _, rfl, k1, XQ _ _, G, p, rows, n, rfl, o.ok.ext, o.at_, o.n0, fun v G' H' s a q' => q v G' H' s a (by have := o.n0; show 0 <= n + 1; omega) q'⟩
theorem er_ahead (XC : DL.XC X E k) (F : RdF X.prog X.w X.K X.mg X.base k C) {pl : Sem Bool} (h1 : X.N[r]? = some x := by rfl) (hv : gA X.env.scope x := by first | exact Or.inl rfl | exact Or.inr (Or.inl rfl) | exact Or.inr (Or.inr rfl)) (hd : (x == ("__debug__" : Str)) = false := by decide) (hcd : (x == ("__classdict__" : Str)) = false := by decide)
  (ht : eval (.Call (.Attribute (.Name x np) "ahead" apos) [] [] pos) X.env = (do
   let ov <- eval (.Name x np) X.env
   standAt apos.atName
   let (f, first) <- holding [ov] (getMethod ov "ahead" pl)
   callWith pos f first (backTo pos (starEach [] X.env)) (backToKw pos (keywordEach [] X.env))) := by rfl) :
  ER X E C r (.Call (.Attribute (.Name x np) "ahead" apos) [] [] pos) rAhead := by
 obtain ⟨f, fd, O, M, B⟩ := F.ah
 refine PE.mono' (uQ (pv r h1 hv hd hcd) F.T.cl M O XC.room B .nil XC.pass ht) fun U H Q ⟨G, Ud, rows, n, p, o, q⟩ => ?_
 obtain ⟨dx, vr, k1, k2, k3⟩ := id o.at_
 exact ⟨_, o.hr, p, dx, _, rfl, k1, ID _ _, G, p, rows, n, rfl, o.ok.ext, o.at_, o.n0, fun v G' H' s q' => q v G' H' (gV s) (o.at_.step s) o.n0 q'⟩
theorem rt_cmp {op : CmpOp} {g : D -> D -> R D} (cf : eL X op g) (ha : ER X E C r a f) (hb : DE X E b fb) (hm : behindInMarks op b = false := by first | exact cV _ (by decide) (by decide) | rfl) : RT X E C r (.Compare a [op] [b] pos) (rCmp g f fb) := by
 obtain ⟨rr, h1, h2, h3⟩ := cf.ex
 refine PT.mono' (zG h1 ha hb hm) fun U H Q ⟨G, Ud, rows, n, p, o, q⟩ => ?_
 refine ⟨G, Ud, rows, n, p, o, q.of_bind.mono (fun x _ z v G1 H1 s1 a1 n1 r1 => ?_) fun _ z => z⟩
 have o1 := o.on s1 a1 n1
 refine ⟨G1, Ud, o1.ok, (show RW ((fb Ud).bind _) _ _ from z).of_bind.mono (fun d _ z v2 G2 H2 s2 r2 => ?_) fun e z G' H' C' dct s q => z G' H' C' dct (kZ s1 (gV s)) q⟩
 have a2 := a1.step s2
 have s12 := kZ s1 (gV (p := p) s2)
 refine h2 G2 H2 x.1 d v v2 _ s2.e (r1.mono s2.g) r2 ?_
 cases ez : g x.1 d with
 | bad => rw [ez] at z; exact (show False from z).elim
 | err e => exact xaq ez (h3 _ _ e)
 | ok y =>
  rw [ez] at z
  have z : RW ((eK y).bind fun b => R.ok (b, x.2)) _ _ := z
  intro w G3 H3 s3 r3
  cases y with
  | bl b =>
   cases r3
   exact ⟨b, rfl, (show ∀ G' H', iF G H G' H' p -> fA X.K X.mg C G' H' p rows x.2 -> 0 <= x.2 -> Q b H' from z) G3 H3 (kZ s12 (gV s3)) (a2.step s3) n1⟩
  | _ => exact (show False from z).elim
structure fX (K : xFg) (mg : Str -> Option Value) (G : Hp) (i : Nat) (p : Addr) (ds : List D) (us : List V) : Prop where
 len : ds.length = us.length
 vi : us[i]? = some (.ref p)
 oth : ∀ (l : Nat) (d : D), l ≠ i -> ds[l]? = some d -> ∃ v, us[l]? = some v /\ Rep K mg G d v
def tAR (K : xFg) (mg : Str -> Option Value) (E : XK) (C : Addr) (r i : Nat) (fs : DSt -> R (List D)) : TA := fun U H Q => ∃ G Ud rows n p, eH K mg C r p Ud rows n U G H /\ RW (fs Ud) (fun ds => ∀ us G' H', Step G H G' H' -> fX K mg G' i p ds us -> Q us H') (bG K mg E G H)
def pW (X : Cx) (E : XK) (C : Addr) (r i : Nat) (es : List Expr) (fs : DSt -> R (List D)) : Prop := PA X es (tAR X.K X.mg E C r i fs)
end
section
variable {K : xFg} {mg : Str -> Option Value} {G : Hp} {p : Addr} {i : Nat} {ds : List D} {us : List V}
theorem fX.here (q : Reps K mg G ds us) : fX K mg G 0 p (.non :: ds) (.ref p :: us) := by
 refine ⟨by rw [xaf, xaf, q.length], rfl, fun l d hl h => ?_⟩
 cases l with
 | zero => exact xaq rfl hl
 | succ l => exact q.get h
theorem fX.cons {d : D} {v : V} (q : Rep K mg G d v) (a : fX K mg G i p ds us) : fX K mg G (i + 1) p (d :: ds) (v :: us) := by
 refine ⟨by rw [xaf, xaf, a.len], a.vi, fun l d' hl h => ?_⟩
 cases l with
 | zero => cases h; exact ⟨v, rfl, q⟩
 | succ l => exact a.oth l d' (fun z => hl (by rw [z])) h
end
def spR (K : xFg) (mg : Str -> Option Value) (C : Addr) (i : Nat) (m : List D -> Int -> List D -> R (D × Int)) : Sp := fun vs H Q E => ∃ G ds p rows n, aK G H /\ fX K mg G i p ds vs /\ fA K mg C G H p rows n /\ 0 <= n /\ RW (m rows n ds) (nX K mg C rows p G H Q) (bG K mg E G (fN p H))
structure FnAtR (P : Program) (w : World) (K : xFg) (mg : Str -> Option Value) (base : Heap) (k : Nat) (x : Str) (C : Addr) (i : Nat) (m : List D -> Int -> List D -> R (D × Int)) : Prop where
 ex : ∃ (f : Addr) (fd : FuncData) (ps : List Str), cH P w K mg base (bQ P w) k f fd ps (spR K mg C i m) /\ mg x = some (.ref f) /\ PySem.W.keepIn K (.ref f) = true /\ eE K fd ps []
theorem FnAtR.mono {P : Program} {w : World} {K : xFg} {mg : Str -> Option Value} {base : Heap} {l k : Nat} {x : Str} {C : Addr} {i : Nat} {m : List D -> Int -> List D -> R (D × Int)} (F : FnAtR P w K mg base l x C i m) (h : l <= k) : FnAtR P w K mg base k x C i m := by
 obtain ⟨f, fd, ps, h1, h2⟩ := F.ex
 exact ⟨f, fd, ps, h1.mono h, h2⟩
def aHere (fs : DSt -> R (List D)) : DSt -> R (List D) := fun τ => (fs τ).bind fun ds => .ok (.non :: ds)
def aOnly : DSt -> R (List D) := fun _ => .ok [.non]
def aMore (fe : DSt -> R D) (fs : DSt -> R (List D)) : DSt -> R (List D) := fun τ => (fe τ).bind fun d => (fs τ).bind fun ds => .ok (d :: ds)
def rCall (m : List D -> Int -> List D -> R (D × Int)) (fs : DSt -> R (List D)) : EF := fun rows τ n => (fs τ).bind fun ds => m rows n ds
section
variable {X : Cx} {E : XK} {C : Addr} {r i k : Nat} {e : Expr} {es : List Expr} {fe : DSt -> R D} {fs : DSt -> R (List D)} {pos np : Pos} {x fn : Str} {m : List D -> Int -> List D -> R (D × Int)}
theorem dar_here (ha : DA X E es fs) (h1 : X.N[r]? = some x := by rfl) (hv : gA X.env.scope x := by first | exact Or.inl rfl | exact Or.inr (Or.inl rfl) | exact Or.inr (Or.inr rfl)) (hd : (x == ("__debug__" : Str)) = false := by decide) (hcd : (x == ("__classdict__" : Str)) = false := by decide)
  (hs : starEach (.Name x np :: es) X.env = (false, eval (.Name x np) X.env) :: starEach es X.env := by rfl) : pW X E C r 0 (.Name x np :: es) (aHere fs) :=
 PA.mono' (kH (pv r h1 hv hd hcd) ha hs) fun U H Q ⟨G, Ud, rows, n, p, o, q⟩ => by
 refine ⟨_, o.hr, G, Ud, o.ok, q.of_bind.mono (fun ds _ z us G' H' s q' => ?_) fun _ z => z⟩
 exact (show ∀ us G' H', Step G H G' H' -> fX X.K X.mg G' 0 p (.non :: ds) us -> Q us H' from z) _ G' H' s (fX.here q')
theorem dar_nil (h1 : X.N[r]? = some x := by rfl) (hv : gA X.env.scope x := by first | exact Or.inl rfl | exact Or.inr (Or.inl rfl) | exact Or.inr (Or.inr rfl)) (hd : (x == ("__debug__" : Str)) = false := by decide) (hcd : (x == ("__classdict__" : Str)) = false := by decide)
  (hs : starEach [.Name x np] X.env = (false, eval (.Name x np) X.env) :: starEach [] X.env := by rfl) : pW X E C r 0 [.Name x np] aOnly :=
 PA.mono' (kH (pv r h1 hv hd hcd) kG hs) fun U H Q ⟨G, Ud, rows, n, p, o, q⟩ =>
 ⟨_, o.hr, (show ∀ us G' H', Step G H G' H' -> fX X.K X.mg G' 0 p [.non] us -> Q us H' from q) _ G H (Step.refl o.ok.ext) (fX.here Reps.nil)⟩
theorem dar_cons (he : DE X E e fe) (ha : pW X E C r i es fs) (hs : starEach (e :: es) X.env = (false, eval e X.env) :: starEach es X.env := by rfl) : pW X E C r (i + 1) (e :: es) (aMore fe fs) :=
 PA.mono' (kH he ha hs) fun U H Q ⟨G, Ud, rows, n, p, o, q⟩ => by
 refine ⟨G, Ud, o.ok, q.of_bind.mono (fun d _ z v G1 H1 s1 r1 => ?_) fun _ z => z⟩
 refine ⟨G1, Ud, rows, n, p, o.step s1, (show RW ((fs Ud).bind _) _ _ from z).of_bind.mono (fun ds _ z us G2 H2 s2 a => ?_) fun _ z => z.step s1⟩
 exact (show ∀ us G' H', Step G H G' H' -> fX X.K X.mg G' (i + 1) p (d :: ds) us -> Q us H' from z) _ G2 H2 (s1.trans s2) (fX.cons (r1.mono s2.g) a)
theorem er_call (XC : DL.XC X E k) (F : FnAtR X.prog X.w X.K X.mg X.base k fn C i m) (ha : pW X E C r i (e :: es) fs) (hg : Gl X fn := by rfl) (hdb : (fn == ("__debug__" : Str)) = false := by decide) (he : starEach (e :: es) X.env = (false, eval e X.env) :: starEach es X.env := by rfl) (hpl : (backTo pos (starEach es X.env)).any (·.1) = false := by rfl) :
  ER X E C r (.Call (.Name fn np) (e :: es) [] pos) (rCall m fs) := by
 obtain ⟨f, fd, ps, h1, h2, h3, h4⟩ := F.ex
 refine PE.mono' (zT h1 XC.room hg h2 h3 h4 .nil XC.pass ha hdb he hpl) fun U H Q ⟨G, Ud, rows, n, p, o, q⟩ => ?_
 refine ⟨G, Ud, rows, n, p, o, q.of_bind.mono (fun ds _ z us G1 H1 s1 a => ?_) fun _ z => xA z⟩
 refine ⟨G1, ds, p, rows, n, s1.e, by rw [xbm]; exact a, o.at_.step s1, o.n0, (show RW (m rows n ds) _ _ from z).mono (fun x _ z v G' H' s2 a2 n2 q2 => ?_) fun e z G' H' C' dct s q => z G' H' C' dct (kZ (gV s1) s) q⟩
 exact z v G' H' (kZ (gV s1) s2) a2 n2 q2
end
end Rdr
end
section
set_option maxHeartbeats 1000000
namespace Rdr
open L2 PyProof.Rows DL
inductive sW
 | nx (τ : DSt) (n : Int)
 | rt (d : D) (n : Int)
abbrev RF := List D -> DSt -> Int -> R sW
section
variable (K : xFg) (mg : Str -> Option Value) (E : XK) (C : Addr) (r : Nat) (p : Addr) (G0 H0 : Hp)
def k6 (rows : List D) (Dn : iK) : sW -> Prop
 | .nx τ n => ∀ U' G' H', eH K mg C r p τ rows n U' G' H' -> Step G0 H0 G' H' -> Dn.nx U' H'
 | .rt d n => ∀ v G' H', Step G0 H0 G' H' -> fA K mg C G' H' p rows n -> 0 <= n -> Rep K mg G' d v -> Dn.rt v H'
def xB (f : RF) : TS := fun Dn U H => ∃ G Ud rows n, eH K mg C r p Ud rows n U G H /\ Step G0 H0 G H /\ RW (f rows Ud n) (k6 K mg C r p G0 H0 rows Dn) (bG K mg E G0 H0)
end
def DR (X : Cx) (E : XK) (C : Addr) (r : Nat) (st : Stmt) (f : RF) : Prop := ∀ G0 H0 p, H0 p = none -> PS X st (xB X.K X.mg E C r p G0 H0 f)
def i8 (X : Cx) (E : XK) (C : Addr) (r : Nat) (st : List Stmt) (f : RF) : Prop := ∀ G0 H0 p, H0 p = none -> cU X st (xB X.K X.mg E C r p G0 H0 f)
def rNext : RF := fun _ τ n => .ok (.nx τ n)
def rSeq (f g : RF) : RF := fun rows τ n => (f rows τ n).bind fun o => match o with
 | .nx τ' n' => g rows τ' n'
 | .rt d n' => .ok (.rt d n')
def rSet (j : Nat) (f : EF) : RF := fun rows τ n => (f rows τ n).bind fun x => .ok (.nx (τ.set j (some x.1)) x.2)
def rExpr (f : EF) : RF := fun rows τ n => (f rows τ n).bind fun x => .ok (.nx τ x.2)
def rRet (f : EF) : RF := fun rows τ n => (f rows τ n).bind fun x => .ok (.rt x.1 x.2)
def rIf (t : TF) (f g : RF) : RF := fun rows τ n => (t rows τ n).bind fun b => bif b.1 then f rows τ b.2 else g rows τ b.2
def rRaise1 (x : Str) : RF := fun _ _ _ => .err (.exc x [])
section
variable {X : Cx} {E : XK} {C : Addr} {r k : Nat} {st : Stmt} {rest : List Stmt} {f g : RF} {ef : EF} {tf : TF} {e c : Expr} {pos pos' : Pos} {y : Str}
theorem drs_nil : i8 X E C r [] rNext := fun G0 H0 p hp => cU.mono' y0 fun Dn U H ⟨G, Ud, rows, n, o, s0, q⟩ => (show k6 X.K X.mg C r p G0 H0 rows Dn (.nx Ud n) from q) U G H o s0
theorem drs_one (h : DR X E C r st f) : i8 X E C r [st] f := fun G0 H0 p hp => mO (h G0 H0 p hp)
theorem drs_cons (h1 : DR X E C r st f) (h2 : i8 X E C r rest g) : i8 X E C r (st :: rest) (rSeq f g) := fun G0 H0 p hp => cU.mono' (kB (h1 G0 H0 p hp) (h2 G0 H0 p hp)) fun Dn U H ⟨G, Ud, rows, n, o, s0, q⟩ => by
 refine ⟨G, Ud, rows, n, o, s0, q.of_bind.mono (fun x _ z => ?_) fun _ z => z⟩
 cases x with
 | nx τ n' => exact fun U' G' H' o' s' => ⟨G', τ, rows, n', o', s', z⟩
 | rt d n' => exact z
theorem dr_set (j : Nat) (hN : X.N.Nodup) (he : ER X E C r e ef) (hj : (!(j == r)) = true := by rfl) (hi : X.N[j]? = some y := by rfl) (hx : gC X.env.scope y := by first | exact Or.inl rfl | exact Or.inr rfl) (hs : swapsWith e (some (.Name y pos')) pos.line X.env = pure false := by rfl)
  (hf : X.fn y = true \/ X.env.scope.names.lookup y = some .local := by first | exact .inl rfl | exact .inr rfl | assumption) : DR X E C r (.Assign [.Name y pos'] e pos) (rSet j ef) := fun G0 H0 p hp =>
 PS.mono' (kE hN hi hx he hs hf) fun Dn U H ⟨G, Ud, rows, n, o, s0, q⟩ => by
 simp only [xck, beq_eq_false_iff_ne] at hj
 refine ⟨G, Ud, rows, n, p, o, q.of_bind.mono (fun x _ z v G' H' s a n' q' => ?_) fun _ z => nW z s0 hp⟩
 exact (show k6 X.K X.mg C r p G0 H0 rows Dn (.nx (Ud.set j (some x.1)) x.2) from z) _ G' H' ((o.on s a n').set hj q') (jX s0 hp s)
theorem dr_expr (he : ER X E C r e ef) (hs : swapsWith e none pos.line X.env = pure false := by rfl) : DR X E C r (.Expr e pos) (rExpr ef) := fun G0 H0 p hp =>
 PS.mono' (qL he hs) fun Dn U H ⟨G, Ud, rows, n, o, s0, q⟩ => by
 refine ⟨G, Ud, rows, n, p, o, q.of_bind.mono (fun x _ z v G' H' s a n' q' => ?_) fun _ z => nW z s0 hp⟩
 exact (show k6 X.K X.mg C r p G0 H0 rows Dn (.nx Ud x.2) from z) _ G' H' (o.on s a n') (jX s0 hp s)
theorem dr_ret (he : ER X E C r e ef) : DR X E C r (.Return (some e) pos) (rRet ef) := fun G0 H0 p hp =>
 PS.mono' (qM he) fun Dn U H ⟨G, Ud, rows, n, o, s0, q⟩ => by
 refine ⟨G, Ud, rows, n, p, o, q.of_bind.mono (fun x _ z v G' H' s a n' q' => ?_) fun _ z => nW z s0 hp⟩
 exact (show k6 X.K X.mg C r p G0 H0 rows Dn (.rt x.1 x.2) from z) v G' H' (jX s0 hp s) a n' q'
theorem dr_if {a b : List Stmt} (hc : RT X E C r c tf) (ha : i8 X E C r a f) (hb : i8 X E C r b g) : DR X E C r (.If c a b pos) (rIf tf f g) := fun G0 H0 p hp =>
 PS.mono' (y1 hc (ha G0 H0 p hp) (hb G0 H0 p hp)) fun Dn U H ⟨G, Ud, rows, n, o, s0, q⟩ => by
 refine ⟨G, Ud, rows, n, p, o, q.of_bind.mono (fun x _ z G' H' s a n' => ?_) fun _ z => nW z s0 hp⟩
 obtain ⟨k, n1⟩ := x
 cases k with
 | true => exact uX ⟨G', Ud, rows, n1, o.on s a n', jX s0 hp s, (show RW (f rows Ud n1) _ _ from z)⟩
 | false => exact uW ⟨G', Ud, rows, n1, o.on s a n', jX s0 hp s, (show RW (g rows Ud n1) _ _ from z)⟩
end
section
variable {P : Program} {w : World} {K : xFg} {mg : Str -> Option Value} {base : Heap} {N : List Str} {qual : Str} {scope : Scope} {f : Addr} {cdv : Value} {A : Around} {outer : List Env} {s0 : Shared} {H1 : Hp} {E : XK} {CR : Addr} {r : Nat}
theorem dr_raise1 {x t : Str} {C : Addr} {np cpos pos tp : Pos} {j} (q : PySem.W.excIn K C [.type "ValueError", .type "Exception", .type "BaseException", .type "object"] "ValueError.__new__" = true) (hx : dX K mg x C)
  (hg : Gl (cW (bQ P w) P w K mg base N qual scope f cdv A outer s0 H1 E) x := by rfl) (hdb : (x == ("__debug__" : Str)) = false := by decide) :
  DR (cW (bQ P w) P w K mg base N qual scope f cdv A outer s0 H1 E) E CR r (.Raise (some (.Call (.Name x np) [.Constant (.str t) j tp] [] cpos)) none pos) (rRaise1 x) := fun G0 H0 p hp =>
 PS.mono' (A0 q hg hx.here (cI (qZ (x := t)) (dA (E := E))) hdb) fun Dn U H ⟨G, Ud, rows, n, o, s1, z⟩ => by
 refine ⟨G, Ud, o.ok, ?_⟩
 show oX K mg _ _ _ [.str t]
 intro vs G' H' s r
 refine ⟨by rw [<- r.length]; show 1 <= sizeLine; decide, ?_⟩
 exact (show bG K mg E G0 H0 (.exc x []) from z) G' H' C none (s1.trans s) ⟨x, [], [], rfl, hx, .inl ⟨rfl, rfl⟩, Reps.nil⟩
end
def fB : sW -> R (D × Int)
 | .rt d n => .ok (d, n)
 | .nx _ n => .ok (.non, n)
def fnR (n nN i : Nat) (body : RF) : List D -> Int -> List D -> R (D × Int) := fun rows k ds => bif ds.length == n then (body rows ((eA nN ds).set i none) k).bind fB else .bad
section
variable {P : Program} {w : World} {K : xFg} {mg : Str -> Option Value} {base : Heap} {x : Str} {st : Stmt} {ps : List Str} {f : Addr} {fd : FuncData} {N : List Str} {n nN k i : Nat} {C : Addr} {body : RF}
theorem FA.okR (F : FA K mg x st ps f fd) (S : fD N ps (bX st)) (hn : ps.length = n) (hN : N.length = nN) (hb : XX P w K mg base x st f N k fun X E => i8 X E C i (eI st) body) : FnAtR P w K mg base (k + 1) x C i (fnR n nN i body) := by
 refine ⟨f, fd, ps, F.F.okX S (fun vs H Q E h => ?_) (fun cdv A outer s H vs Q E hr hsp => ?_), F.m, F.F.kp, F.b⟩
 ·obtain ⟨G, ds, p, rows, m, e, a, S, m0, q⟩ := h
  by_cases hd : ds.length = n
  ·rw [<- a.len, hd, hn]
  ·have : (ds.length == n) = false := by simpa using hd
   unfold fnR at q
   rw [this] at q
   exact (show False from q).elim
 ·obtain ⟨G, ds, p, rows, m, e, a, S', m0, q⟩ := hsp
  have hd : ds.length = n := by
   by_cases hd : ds.length = n
   ·exact hd
   ·have : (ds.length == n) = false := by simpa using hd
    unfold fnR at q
    rw [this] at q
    exact (show False from q).elim
  unfold fnR at q
  rw [show (ds.length == n) = true by simpa using hd] at q
  have q : RW ((body rows ((eA nN ds).set i none) m).bind fB) _ _ := q
  have vi : (L2.start N vs)[i]? = some (some (.ref p)) := HX a.vi
  have len : (eA nN ds).length = (L2.start N vs).length := by
   unfold L2.start eA
   rw [xaa, xaa, xae, xae, xb0, xb0, hN, a.len]
  have li : i < (eA nN ds).length := by rw [len]; exact (xam.mp vi).1
  have st0 : Step G (fN p H) G H := ⟨aK.refl _, fun b o h => (nV h).2, e, fun _ _ _ h => h⟩
  refine ⟨_, hb cdv A outer s H E ⟨rfl, hr, qW⟩ ⟨PassesOwn.leaving⟩ S.nd G (fN p H) p IE, G, (eA nN ds).set i none, rows, m, ⟨⟨e, by rw [xb4]; exact len, fun l d h => ?_⟩, xa0 li, vi, S', m0⟩, st0, q.of_bind.mono (fun o _ z => ?_) fun _ z => z⟩
  ·by_cases hl : l = i
   ·subst hl
    rw [xa0 li] at h; cases h
   ·rw [xao (xbd hl)] at h
    obtain ⟨v, h1, h2⟩ := a.oth l d hl (W4 h)
    exact ⟨v, HX h1, h2⟩
  ·cases o with
   | rt d n' => exact fun v G' H' s a n0 q' => (show nX K mg C rows p G H Q (d, n') from z) v G' H' s a n0 q'
   | nx τ n' => exact fun U' G' H' o' s => (show nX K mg C rows p G H Q (.non, n') from z) .non G' H' s o'.at_ o'.n0 rfl
end
end Rdr
end
section
set_option maxHeartbeats 1000000
namespace Rdr
open L2 PyProof.Rows DL
def cN (t : TF) (f : EF) (rows : List D) (τ : DSt) : Nat -> Int -> List D -> R (List D × Int)
 | 0, _, _ => .bad
 | k + 1, n, xs => (t rows τ n).bind fun b => bif b.1 then (f rows τ b.2).bind fun x => bif most xs.length then cN t f rows τ k x.2 (xs ++ [x.1]) else .bad else .ok (xs, b.2)
theorem xC {t : TF} {f : EF} {rows : List D} {τ : DSt} : ∀ (k : Nat) (n : Int) (xs : List D) (r : R (List D × Int)), cN t f rows τ k n xs = r -> r ≠ .bad -> ∀ l, cN t f rows τ (k + l) n xs = r
 | 0, n, xs, r, h, hr, l => xaq h.symm hr
 | k + 1, n, xs, r, h, hr, l => by
  rw [show k + 1 + l = (k + l) + 1 by omega]
  unfold cN at h ⊢
  cases ht : t rows τ n with
  | bad => rw [ht] at h; exact xaq h.symm hr
  | err e => rw [ht] at h; exact h
  | ok b =>
   rw [ht] at h
   obtain ⟨b, n1⟩ := b
   cases b with
   | false => exact h
   | true =>
    have h : ((f rows τ n1).bind fun x => bif most xs.length then cN t f rows τ k x.2 (xs ++ [x.1]) else .bad) = r := h
    show ((f rows τ n1).bind fun x => bif most xs.length then cN t f rows τ (k + l) x.2 (xs ++ [x.1]) else .bad) = r
    cases hf : f rows τ n1 with
    | bad => rw [hf] at h; exact xaq h.symm hr
    | err e => rw [hf] at h; exact h
    | ok x =>
     rw [hf] at h
     have h : (bif most xs.length then cN t f rows τ k x.2 (xs ++ [x.1]) else .bad) = r := h
     show (bif most xs.length then cN t f rows τ (k + l) x.2 (xs ++ [x.1]) else .bad) = r
     cases hm : most xs.length with
     | false => rw [hm] at h; exact xaq h.symm hr
     | true => rw [hm] at h; exact xC k _ _ r h hr l
open Classical in
noncomputable def l7 (t : TF) (f : EF) (rows : List D) (τ : DSt) (n : Int) : R (List D × Int) := if h : ∃ k, cN t f rows τ k n [] ≠ .bad then cN t f rows τ (Classical.choose h) n [] else .bad
theorem xD {t : TF} {f : EF} {rows : List D} {τ : DSt} {n : Int} {k : Nat} {r : R (List D × Int)} (h : cN t f rows τ k n [] = r) (hr : r ≠ .bad) : l7 t f rows τ n = r := by
 have hx : ∃ k, cN t f rows τ k n [] ≠ .bad := ⟨k, by rw [h]; exact hr⟩
 unfold l7
 rw [dif_pos hx]
 have h1 := Classical.choose_spec hx
 have a := xC k n [] r h hr (Classical.choose hx)
 have b := xC (Classical.choose hx) n [] _ rfl h1 k
 rw [Nat.add_comm] at b
 rw [<- b, <- a]
noncomputable def rCol (j : Nat) (t : TF) (f : EF) (g : RF) : RF := fun rows τ n => bif Nat.blt j τ.length then (l7 t f rows (τ.set j none) n).bind fun x => g rows (τ.set j (some (.lst x.1))) x.2 else .bad
inductive Pl (K : xFg) (mg : Str -> Option Value) (G H : Hp) (U : L2.St) (j : Nat) (a : Addr) (xs : List D) : Prop
 | mk (vs : List V) (h1 : U[j]? = some (some (.ref a))) (h2 : H a = some (.lst vs)) (h3 : Reps K mg G xs vs) (h4 : G a = none)
theorem X1 {G0 H0 G H : Hp} {a : Addr} {o : HO} (s0 : Step G0 H0 G H) (ha0 : H0 a = none) (h : H a = some o) (g : G a = none) : Step G0 H0 (aO G a o) H := by
 refine ⟨s0.g.trans (DL.same_upd g), s0.h, fun b u hb => ?_, fun b u hb q => ?_⟩
 ·by_cases z : b = a
  ·rw [z, bP] at hb; cases hb; rw [z]; exact h
  ·rw [bC z] at hb; exact s0.e b u hb
 ·have : b ≠ a := fun z => by rw [z, ha0] at hb; cases hb
  rw [bC this]; exact s0.c b u hb q
section
variable {X : Cx} {E : XK} {C : Addr} {r k : Nat} {rest : List Stmt} {g : RF} {ef : EF} {tf : TF} {e c : Expr} {pos pos' pos1 pos2 lpos np apos cpos : Pos} {y : Str}
theorem drs_col (j : Nat) (Lo : XL X) (hN : X.N.Nodup) (hc : RT X E C r c tf) (he : ER X E C r e ef) (hr : i8 X E C r rest g) (hj : (!(j == r)) = true := by rfl) (hi : X.N[j]? = some y := by rfl) (hx : gC X.env.scope y := by first | exact Or.inl rfl | exact Or.inr rfl)
  (hv : gA X.env.scope y := by first | exact Or.inl rfl | exact Or.inr (Or.inl rfl) | exact Or.inr (Or.inr rfl)) (hd : (y == ("__debug__" : Str)) = false := by decide) (hcd : (y == ("__classdict__" : Str)) = false := by decide)
  (hs0 : swapsWith (.List [] lpos) (some (.Name y pos')) pos1.line X.env = pure false := by rfl) (hf : X.fn y = true \/ X.env.scope.names.lookup y = some .local := by first | exact .inl rfl | exact .inr rfl | assumption)
  (hbase : attributeBase (.Name y np) "append" X.env (eval (.Name y np) X.env) = eval (.Name y np) X.env := by rfl)
  (hfew : ((backTo cpos (starEach [e] X.env)).all (fun x => !x.1) && (backToKw cpos (keywordEach [] X.env)).all (fun x => x.1.isSome) && decide ([e].length + ([] : List Keyword).length + (if ([] : List Keyword).isEmpty then 0 else 1) < 30)) = true := by rfl)
  (hline : (apos.endLine == cpos.line) = true := by rfl) (hs : starEach [e] X.env = (false, eval e X.env) :: starEach [] X.env := by rfl) (hplain : (backTo cpos (starEach [] X.env)).any (·.1) = false := by rfl)
  (hsw : swapsWith (.Call (.Attribute (.Name y np) "append" apos) [e] [] cpos) none pos2.line X.env = pure false := by rfl) :
  i8 X E C r (.Assign [.Name y pos'] (.List [] lpos) pos1 :: .While c [.Expr (.Call (.Attribute (.Name y np) "append" apos) [e] [] cpos) pos2] [] pos :: rest) (rCol j tf ef g) := fun G0 H0 p hp => by
 simp only [xck, beq_eq_false_iff_ne] at hj
 refine cU.mono' (kB (kE hN hi hx (uP kG) hs0 hf) (kB (N2 Lo.own hc (mO (qL (mU PySem.F.plainAttrs_list PySem.F.slot_list_append PySem.F.type_list_append AN (pv j hi hv hd hcd) (kH he kG hs) hbase hfew hline hs hplain) hsw))) (hr G0 H0 p hp))) fun Dn U H ⟨G, Ud, rows, n, o, s0, q⟩ => ?_
 have lj : j < Ud.length := by
  cases hb : Nat.blt j Ud.length with
  | false => unfold rCol at q; rw [hb] at q; exact (show False from q).elim
  | true => simpa using hb
 have q : RW ((l7 tf ef rows (Ud.set j none) n).bind fun x => g rows (Ud.set j (some (.lst x.1))) x.2) (k6 X.K X.mg C r p G0 H0 rows Dn) (bG X.K X.mg E G0 H0) := by
  unfold rCol at q
  rw [show Nat.blt j Ud.length = true by simpa using lj] at q
  exact q
 have q := q.of_bind
 have hk : ∃ k, cN tf ef rows (Ud.set j none) k n [] ≠ .bad := by
  by_cases hx : ∃ k, cN tf ef rows (Ud.set j none) k n [] ≠ .bad
  ·exact hx
  ·unfold l7 at q; rw [dif_neg hx] at q; exact (show False from q).elim
 obtain ⟨kk, hk⟩ := hk
 rw [xD rfl hk] at q
 refine ⟨xbv _, fun a ha => ?_⟩
 have lj' : j < U.length := by rw [<- o.ok.len]; exact lj
 have sh := Step.hid (o := .lst []) o.ok.ext ha
 have ha0 : H0 a = none := s0.h.free ha
 obtain ⟨dx, vr, k1, _, _⟩ := id o.at_
 have nap : a ≠ p := (cR k1 ha).symm
 have o1 : eH X.K X.mg C r p (Ud.set j none) rows n (U.set j (some (.ref a))) G (aO H a (.lst [])) := by
  refine ⟨⟨sh.e, by rw [xb4, xb4]; exact o.ok.len, fun i d h => ?_⟩, by rw [xao hj]; exact o.un, by rw [xao hj]; exact o.hr, o.at_.step sh, o.n0⟩
  by_cases z : i = j
  ·subst z; rw [xa0 lj] at h; cases h
  ·rw [xao (xbd z)] at h ⊢; exact o.ok.val i d h
 refine ⟨fun m U' H' => ∃ G' n' xs, eH X.K X.mg C r p (Ud.set j none) rows n' U' G' H' /\ Step G0 H0 G' H' /\ Pl X.K X.mg G' H' U' j a xs /\ RW (cN tf ef rows (Ud.set j none) m n' xs) (fun x => RW (g rows (Ud.set j (some (.lst x.1))) x.2) (k6 X.K X.mg C r p G0 H0 rows Dn) (bG X.K X.mg E G0 H0)) (bG X.K X.mg E G0 H0),
  ⟨kk, G, n, [], o1, s0.trans sh, ⟨[], by rw [xa0 lj'], bP, Reps.nil, o.ok.ext.free ha⟩, q⟩, ?_⟩
 rintro m σ1 H1 ⟨G1, n1, xs, o1, s1, ⟨vs, p1, p2, p3, p4⟩, w⟩
 cases m with
 | zero => exact (show False from w).elim
 | succ m =>
  unfold cN at w
  refine ⟨G1, Ud.set j none, rows, n1, p, o1, w.of_bind.mono (fun b _ z G2 H2 s2 a2 n2 => ?_) fun _ z => nW z s1 hp⟩
  obtain ⟨b, m2⟩ := b
  have h2a : H2 a = some (.lst vs) := s2.h a _ (by rw [nU nap]; exact p2)
  have g2a : G2 a = none := s2.c a _ (by rw [nU nap]; exact p2) p4
  have o2 := o1.on s2 a2 n2
  have t2 := jX s1 hp s2
  cases b with
  | false =>
   refine uW ?_
   have t3 := X1 t2 ha0 h2a g2a
   have sg : aK G2 (aO G2 a (.lst vs)) := DL.same_upd g2a
   refine ⟨aO G2 a (.lst vs), Ud.set j (some (.lst xs)), rows, m2, ⟨⟨t3.e, by rw [xb4, <- o2.ok.len, xb4], fun i d h => ?_⟩, by rw [xao hj]; exact o.un, o2.hr, ?_, n2⟩, t3, z⟩
   ·by_cases zz : i = j
    ·subst zz
     rw [xa0 lj] at h; cases h
     exact ⟨_, p1, a, vs, rfl, bH.of bP, p3.mono (s2.g.trans sg)⟩
    ·rw [xao (xbd zz)] at h
     obtain ⟨v, h1, h2⟩ := o2.ok.val i d (by rw [xao (xbd zz)]; exact h)
     exact ⟨v, h1, h2.mono sg⟩
   ·obtain ⟨dx, vr, k1, k2, k3⟩ := a2
    exact ⟨dx, vr, k1, k2.mono sg, by rw [bC nap.symm]; exact k3⟩
  | true =>
   refine uX ⟨fun U' H' => ∃ G' n' xs, eH X.K X.mg C r p (Ud.set j none) rows n' U' G' H' /\ Step G0 H0 G' H' /\ Pl X.K X.mg G' H' U' j a xs /\ RW (cN tf ef rows (Ud.set j none) m n' xs) (fun x => RW (g rows (Ud.set j (some (.lst x.1))) x.2) (k6 X.K X.mg C r p G0 H0 rows Dn) (bG X.K X.mg E G0 H0)) (bG X.K X.mg E G0 H0), fun σ2 H2 h => ⟨m, xb5 _, h⟩, ?_⟩
   have z : RW ((ef rows (Ud.set j none) m2).bind fun x => bif most xs.length then cN tf ef rows (Ud.set j none) m x.2 (xs ++ [x.1]) else .bad) _ _ := z
   refine ⟨_, p1, .inl ⟨rfl, _, bH.of h2a⟩, G2, Ud.set j none, rows, m2, p, o2, z.of_bind.mono (fun x _ z v G3 H3 s3 a3 n3 r3 => ?_) fun _ z => nW z t2 hp⟩
   have h3a : H3 a = some (.lst vs) := s3.h a _ (by rw [nU nap]; exact h2a)
   have g3a : G3 a = none := s3.c a _ (by rw [nU nap]; exact h2a) g2a
   cases hm : most xs.length with
   | false => rw [hm] at z; exact (show False from z).elim
   | true =>
    rw [hm] at z
    have t3 := jX t2 hp s3
    have lt : vs.length < sizeLine := by rw [<- p3.length]; exact xat hm
    have sw : Step G0 H0 G3 (aO H3 a (.lst (vs ++ [v]))) := t3.write (o := .lst vs) ha0 g3a
    refine ⟨a, vs, v, rfl, rfl, h3a, lt, G3, x.2, xs ++ [x.1], ⟨⟨sw.e, o2.ok.len, fun i d h => ?_⟩, o2.un, o2.hr, ?_, n3⟩, sw, ⟨vs ++ [v], p1, bP, (p3.mono (s2.g.trans s3.g)).append (Reps.cons r3 Reps.nil), g3a⟩, z⟩
    ·obtain ⟨u, h1, h2⟩ := o2.ok.val i d h
     exact ⟨u, h1, h2.mono s3.g⟩
    ·obtain ⟨dx, vr, k1, k2, k3⟩ := a3
     exact ⟨dx, vr, by rw [bC nap.symm]; exact k1, k2, k3⟩
end
end Rdr
end
section
set_option maxHeartbeats 1000000
namespace Rdr
open L2 PyProof.Rows DL
structure RdG (P : Program) (w : World) (K : xFg) (mg : Str -> Option Value) (base : Heap) (k : Nat) (C : Addr) : Prop where
 F : RdF P w K mg base k C
 ex : ∃ j fi fdi, k = j + 1 /\ Mk K C fi /\ mg "Reader" = some (.ref C) /\ cH P w K mg base (bQ P w) j fi fdi ["self", "rows"] (IK K mg C) /\ eE K fdi ["self", "rows"] []
def xE : sW -> R aG
 | .rt d _ => .ok (.rt d)
 | .nx _ _ => .bad
def xF (r : Nat) (g : RF) (U : DSt) : D -> R aG
 | .lst rows => (g rows (U.set r none) 0).bind xE
 | _ => .bad
def sReader (r : Nat) (fe : DSt -> R D) (g : RF) : DSt -> R aG := fun U => bif Nat.blt r U.length then (fe U).bind (xF r g U) else .bad
section
variable {X : Cx} {E : XK} {C : Addr} {k : Nat} {e : Expr} {fe : DSt -> R D} {g : RF} {rest : List Stmt} {own' ol : List Nat} {x : Str} {np np' pos cpos : Pos}
theorem dss_reader (r : Nat) (hN : X.N.Nodup) (XC : DL.XC X E k) (S : RdG X.prog X.w X.K X.mg X.base k C) (he : DE X E e fe) (hr : i8 X E C r rest g) (h1 : X.N[r]? = some x := by rfl) (l1 : gC X.env.scope x := by first | exact Or.inl rfl | exact Or.inr rfl)
  (f1 : X.fn x = true \/ X.env.scope.names.lookup x = some .local := by first | exact .inl rfl | exact .inr rfl | assumption) (g1 : Gl X "Reader" := by rfl)
  (e1 : starEach [e] X.env = (false, eval e X.env) :: starEach [] X.env := by rfl) (e2 : (backTo cpos (starEach [] X.env)).any (·.1) = false := by rfl)
  (e3 : swapsWith (.Call (.Name "Reader" np) [e] [] cpos) (some (.Name x np')) pos.line X.env = pure false := by rfl) :
  fH X E [] own' ol (.Assign [.Name x np'] (.Call (.Name "Reader" np) [e] [] cpos) pos :: rest) (sReader r fe g) := fun G0 => by
 obtain ⟨j, fi, fdi, rfl, M, hS, Fi, bi⟩ := S.ex
 have hrest : cU X rest (fun Dn U H => ∃ p, X.H₀ p = none /\ xB X.K X.mg E C r p G0 X.H₀ g Dn U H) := fun pins s U H Dn I ⟨p, hp, q⟩ => hr G0 X.H₀ p hp pins s U H Dn I q
 refine cU.mono' (kB (kE (i := r) hN h1 l1 (PY M Fi XC.room g1 hS bi .nil XC.pass (kH he kG e1) (by decide) e1 e2) e3 f1) hrest) fun Dn U H ⟨G, Ud, ok, s0, q⟩ => ?_
 have q : RW ((fe Ud).bind (xF r g Ud)) (dE X.K X.mg G0 X.H₀ own' ol Dn G) (bG X.K X.mg E G0 X.H₀) /\ r < Ud.length := by
  unfold sReader at q
  cases hb : Nat.blt r Ud.length with
  | false => rw [hb] at q; exact (show False from q).elim
  | true => rw [hb] at q; exact ⟨q, by simpa using hb⟩
 obtain ⟨q, lr⟩ := q
 have ok0 : bU X.K X.mg Ud U G H := ⟨ok.ext, ok.len, fun i d h => ok.val i d (by simp) h⟩
 have lr' : r < U.length := by rw [<- ok.len]; exact lr
 refine ⟨G, Ud, ok0, q.of_bind.mono (fun d hd z v G1 H1 s1 r1 => ?_) fun _ z => z.step s0⟩
 clear hd
 unfold xF at z
 split at z
 ·rename_i rows
  intro p dx np ndx nex
  have gp : G1 p = none := s1.e.free np
  have gdx : G1 dx = none := s1.e.free ndx
  have sG : aK G1 (aO (aO H1 dx (.own p)) p (.ins C dx [])) := fun b u h => by
   rw [bC (cR h gp), bC (cR h gdx)]; exact s1.e b u h
  refine ⟨G1, p, dx, rows, v, rfl, sG, bP, gp, r1, fun H2 s2 k2 A2 => ⟨rfl, p, ?_, ?_⟩⟩
  ·exact s0.h.free (s1.h.free np)
  have up2 : ∀ b o, X.H₀ b = some o -> H2 b = some o := fun b o h => by
   have hb1 : H1 b = some o := s1.h _ _ (s0.h _ _ h)
   have n1 : b ≠ p := cR hb1 np
   have n2 : b ≠ dx := cR hb1 ndx
   exact k2 b o (by rw [bC n1, bC n2]; exact hb1) n1
  have st0 : Step G0 X.H₀ G1 H2 := ⟨s0.g.trans s1.g, up2, s2, fun b o h h' => s1.c b o (s0.h b o h) (s0.c b o h h')⟩
  refine ⟨G1, Ud.set r none, rows, 0, ⟨⟨s2, by rw [xb4, xb4]; exact ok.len, fun i d h => ?_⟩, xa0 lr, xa0 lr', A2, Int.le_refl 0⟩, st0, z.of_bind.mono (fun o _ z => ?_) fun _ z => z⟩
  ·by_cases hz : i = r
   ·subst hz; rw [xa0 lr] at h; cases h
   ·rw [xao (xbd hz)] at h ⊢
    obtain ⟨u, h1, h2⟩ := ok0.val i d h
    exact ⟨u, h1, h2.mono s1.g⟩
  ·cases o with
   | rt d n => exact fun v G' H' s a n0 q' => (show dE X.K X.mg G0 X.H₀ own' ol Dn G (.rt d) from z) v G' H' s q'
   | nx τ n => exact (show False from z).elim
 ·exact (show False from z).elim
end
end Rdr
end
section
set_option maxHeartbeats 1000000
namespace Rdr
open L2 PyProof.Rows DL
section
variable {P : Program} {w : World} {K : xFg} {mg : Str -> Option Value} {base : Heap} {C : Addr}
theorem RdF.mono {l k : Nat} (F : RdF P w K mg base l C) (h : l <= k) : RdF P w K mg base k C := by
 obtain ⟨T, ⟨f, fd, O, r⟩, f', fd', O', r'⟩ := F
 exact ⟨T, ⟨f, fd, O.mono h, r⟩, f', fd', O'.mono h, r'⟩
theorem RdG.mono {l k : Nat} (F : RdG P w K mg base l C) (h : l <= k) : RdG P w K mg base k C := by
 obtain ⟨G, j, fi, fdi, e, M, m, O, b⟩ := F
 exact ⟨G.mono h, k - 1, fi, fdi, by omega, M, m, O.mono (by omega), b⟩
structure MD (K : xFg) (C : Addr) (x q : Str) (st : Stmt) : Prop where
 ex : ∃ f fd, eP K x q st f fd /\ kF K C x f
theorem MD.mk' {x q : Str} {st : Stmt} {f : Addr} {oc : Value} {od an : Option Addr} {osl : Array (Option Value)} {kV doc pm cdv ct : Value} (a : PySem.W.findIn K (.ref C) x = some (some (.ref f))) (i : PySem.W.isFn K (.ref f) = true) (l : K.lookup f = some ⟨oc, od, .func (PySem.W.fnOf x q (iN st) (eI st) (bX st) .none kV doc pm an cdv ct), osl⟩)
  (c : PySem.W.codeIn K cdv q = true) (k : PySem.W.keepIn K (.ref f) = true) : MD K C x q st := ⟨f, _, uV l c k, a, i, k⟩
theorem MD.go {x q : Str} {st : Stmt} (d : MD K C x q st) (ps : List Str)
  (b : ∀ (kV doc pm : Value) (an : Option Addr) (cdv ct : Value) (us : List Value), us.length = ps.length -> bindArgs (PySem.W.fnOf x q (iN st) (eI st) (bX st) .none kV doc pm an cdv ct) ⟨us, []⟩ = pure (ps.zip us)) : ∃ f fd, eP K x q st f fd /\ kF K C x f /\ eE K fd ps [] := by
 obtain ⟨f, fd, F, m⟩ := d.ex
 exact ⟨f, fd, F, m, F.binds b⟩
theorem rdg (mC : mg "Reader" = some (.ref C)) (T : Txt K mg C) (mk : PySem.W.makesIn K C = true) (kc : PySem.W.keepIn K (.ref C) = true) (d0 : MD K C "__init__" "Reader.__init__" (jJ rCls 0)) (d1 : MD K C "ahead" "Reader.ahead" (jJ rCls 1)) (d2 : MD K C "take" "Reader.take" (jJ rCls 2)) (nl : mg "len" = none) : RdG P w K mg base 2 C := by
 obtain ⟨f0, v0, F0, m0, b0⟩ := d0.go ["self", "rows"] fun _ _ _ _ _ _ => wX (fun _ _ => rfl)
 obtain ⟨f1, v1, F1, m1, b1⟩ := d1.go ["self"] fun _ _ _ _ _ _ => sV (fun _ => rfl)
 obtain ⟨f2, v2, F2, m2, b2⟩ := d2.go ["self"] fun _ _ _ _ _ _ => sV (fun _ => rfl)
 have O1 := XS (P := P) (w := w) (base := base) (k := 0) F1 T nl
 have O2 := XT (P := P) (w := w) (base := base) (k := 1) F2 T m1 b1 O1
 exact ⟨⟨T, ⟨f1, v1, O1.mono (by omega), m1, b1⟩, f2, v2, O2, m2, b2⟩, 1, f0, v0, rfl, ⟨mk, m0.at_, m0.fn, kc⟩, mC, XV (k := 0) F0 T, b0⟩
end
def rSl (f : EF) (fl fh : DSt -> R (Option Int)) : EF := fun rows τ n => (f rows τ n).bind fun x => (fl τ).bind fun lo => (fh τ).bind fun hi => match x.1 with
 | .lst xs => .ok (.lst (cJ xs lo hi), x.2)
 | _ => .bad
section
variable {X : Cx} {E : XK} {C : Addr} {r : Nat} {e : Expr} {f : EF} {lo hi : Option Expr} {fl fh : DSt -> R (Option Int)} {pos p2 : Pos}
theorem er_sl (he : ER X E C r e f) (hl : DO X E lo fl) (hh : DO X E hi fh) : ER X E C r (.Subscript e (.Slice lo hi none p2) pos) (rSl f fl fh) :=
 PE.mono' (uT AK he hl hh) fun U H Q ⟨G, Ud, rows, n, p, o, q⟩ => by
 refine ⟨G, Ud, rows, n, p, o, q.of_bind.mono (fun x _ z v G1 H1 s1 a1 n1 r1 => ?_) fun _ z => z⟩
 have o1 := o.on s1 a1 n1
 refine ⟨G1, Ud, o1.ok, (show RW ((fl Ud).bind _) _ _ from z).of_bind.mono (fun l _ z G2 H2 s2 => ?_) fun e z G' H' C' dct s q => z G' H' C' dct (kZ s1 (gV s)) q⟩
 refine ⟨G2, Ud, o1.ok.step s2, (show RW ((fh Ud).bind _) _ _ from z).of_bind.mono (fun u _ z G3 H3 s3 => ?_) fun e z G' H' C' dct s q => z G' H' C' dct (kZ s1 (gV (s2.trans s))) q⟩
 obtain ⟨d, m⟩ := x
 cases d with
 | lst xs =>
  obtain ⟨a, vs, rfl, h1, h2⟩ := r1.mono (s2.g.trans s3.g)
  refine ⟨a, vs, rfl, s3.e.seq h1, fun pp hp => ?_⟩
  have sp := Step.pub (o := .lst (hU vs l u)) s3.e hp
  exact (show nX X.K X.mg C rows p G H Q (.lst (cJ xs l u), m) from z) _ _ _ (kZ s1 (gV ((s2.trans s3).trans sp))) (a1.step ((s2.trans s3).trans sp)) n1 ⟨pp, _, rfl, bH.of bP, (h2.cut l u).mono sp.g⟩
 | _ => exact (show False from z).elim
end
abbrev RM := List D -> Int -> List D -> R (D × Int)
def recR (f : RM -> RM) : Nat -> RM
 | 0 => fun _ _ _ => .bad
 | j + 1 => f (recR f j)
section
variable {P : Program} {w : World} {K : xFg} {mg : Str -> Option Value} {base : Heap} {x y z : Str} {st : Stmt} {ps : List Str} {f : Addr} {fd : FuncData} {N : List Str} {k i i1 i2 : Nat} {C : Addr}
theorem FA.badR (F : FA K mg x st ps f fd) (S : fD N ps (bX st)) : FnAtR P w K mg base (k + 1) x C i (fun _ _ _ => .bad) :=
 ⟨f, fd, ps, F.F.okX S (fun vs H Q E ⟨_, _, _, _, _, _, _, _, _, q⟩ => (show False from q).elim) (fun cdv A outer s H vs Q E hr ⟨_, _, _, _, _, _, _, _, _, q⟩ => (show False from q).elim), F.m, F.F.kp, F.b⟩
theorem rec3 {fx fy fz : RM -> RM} (h0 : FnAtR P w K mg base k x C i (fun _ _ _ => .bad)) (hx : ∀ l m, k <= l -> FnAtR P w K mg base l y C i1 m -> FnAtR P w K mg base (l + 1) x C i (fx m)) (hy : ∀ l m, k <= l -> FnAtR P w K mg base l z C i2 m -> FnAtR P w K mg base (l + 1) y C i1 (fy m)) (hz : ∀ l m, k <= l -> FnAtR P w K mg base l x C i m -> FnAtR P w K mg base (l + 1) z C i2 (fz m)) :
  ∀ j, FnAtR P w K mg base (k + 3 * j) x C i (recR (fun m => fx (fy (fz m))) j)
 | 0 => h0
 | j + 1 => hx (k + 3 * j + 2) _ (by omega) (hy (k + 3 * j + 1) _ (by omega) (hz (k + 3 * j) _ (by omega) (rec3 h0 hx hy hz j)))
end
end Rdr
end
namespace Mir
open L2 DL
noncomputable def IL : DSt -> R aG := (cD (aY (dY 1 [0] (c5 (aY (sU (aA 0) (eC (.str "; "))))) bV dB (aY (sU (aA 0) (eC (.str " ")))))))
noncomputable def sX : DSt -> R aG := (aV (dF (eF (aM (aL (g2 bW) (aB (aA 0) (aB (eC (.ty "str")) aD))))) (sE "NoText") eV) IL)
noncomputable def jY : List D -> R D := bN 1 1 sX
theorem X2 (a0 : D) : jY [a0] = fin (sX [some a0]) := c6 (b := sX) rfl rfl
def sY : D := .int 8
def xG : D := .str "abcdefghijklmnopqrstuvwxyz"
noncomputable def IM : DSt -> R aG := (cD (aL kP (aB (aY (dY 1 [0] (wT (aA 0)) bV dB (aC iD (aA 0) (eC xG)))) aD)))
noncomputable def sZ : DSt -> R aG := (aV (dF (eS (eF (aM (aL (g2 bW) (aB (aA 0) (aB (eC (.ty "str")) aD))))) (eF (aM (o0 rZ rZ (eC (.int 1)) (aL bB (aB (aA 0) aD)) (eC sY))))) (cD (eC (.bl false))) eV) IM)
noncomputable def nY : List D -> R D := bN 1 1 sZ
theorem X3 (a0 : D) : nY [a0] = fin (sZ [some a0]) := c6 (b := sZ) rfl rfl
def s9 : D := .tup [.str "x", .str "rule", .str "times", .str "end"]
noncomputable def tD : DSt -> R aG := (cD (mZ (aU nY (aB (aA 0) aD)) (aC cT (aA 0) (eC s9))))
noncomputable def k7 : List D -> R D := bN 1 1 tD
theorem X4 (a0 : D) : k7 [a0] = fin (tD [some a0]) := c6 (b := tD) rfl rfl
noncomputable def tF : DSt -> R aG := (dF (eF (aM (aL kP (aB (aY (dY 1 [0] (c5 (aA 0)) bV dB (aU k7 (aB (aA 0) aD)))) aD)))) (sE "NoText") eV)
noncomputable def iG : List D -> R D := bN 1 1 tF
theorem X5 (a0 : D) : iG [a0] = fin (tF [some a0]) := c6 (b := tF) rfl rfl
noncomputable def X6 : Rdr.RF := (Rdr.rRaise1 "NoText")
noncomputable def xH : Rdr.RF := (Rdr.rIf (Rdr.rCmp cE Rdr.rTake (aY (bD (aB (eC (.str "end")) aD)))) X6 Rdr.rNext)
noncomputable def jZ : Rdr.RM := Rdr.fnR 1 1 0 xH
def tH : D := .int 4
def nZ : D := .int 60
noncomputable def X7 (m : Rdr.RM) : Rdr.RF := (Rdr.rRaise1 "NoText")
noncomputable def X8 (m : Rdr.RM) : Rdr.RF := (Rdr.rRaise1 "NoText")
noncomputable def IN (m : Rdr.RM) : Rdr.RF := (Rdr.rRet (Rdr.rPure (bL (aB (eC (.str "times")) (aB (aL pV (aB (aC aE (aA 0) (eC (.int 1))) aD)) (aB (aA 3) aD))))))
noncomputable def xI (m : Rdr.RM) : Rdr.RF := (Rdr.rSeq (Rdr.rExpr (Rdr.rCall jZ Rdr.aOnly)) (IN m))
noncomputable def IP (m : Rdr.RM) : Rdr.RF := (Rdr.rSeq (Rdr.rSet 3 (Rdr.rCall m (Rdr.aHere (aB (aC aI (aA 2) (eC (.int 1))) aD)))) (xI m))
noncomputable def IQ (m : Rdr.RM) : Rdr.RF := (Rdr.rSeq (Rdr.rIf (Rdr.rTst (eS (aM (aC cE (aL bB (aB (aA 0) aD)) (eC (.int 2)))) (aM (aC cT (aC aE (aA 0) (eC (.int 1))) (aY (dY 1 [0] (fG eG (aB (aC aI (eC nZ) (eC (.int 1))) aD)) bV dB (aL eZ (aB (aA 0) aD)))))))) (X8 m) Rdr.rNext) (IP m))
noncomputable def xJ (m : Rdr.RM) : Rdr.RF := (Rdr.rSeq (Rdr.rIf (Rdr.rTst (aM (aC a8 (aA 2) (eC tH)))) (X7 m) Rdr.rNext) (IQ m))
noncomputable def l9 (m : Rdr.RM) : Rdr.RM := Rdr.fnR 3 4 1 (xJ m)
noncomputable def IR (m : Rdr.RM) : Rdr.RF := (Rdr.rRet (Rdr.rCall m (Rdr.aMore (aA 2) (Rdr.aHere (aB (aA 1) aD)))))
noncomputable def X9 (m : Rdr.RM) : Rdr.RF := (Rdr.rRaise1 "NoText")
noncomputable def YA (m : Rdr.RM) : Rdr.RF := (Rdr.rRet (Rdr.rPure (aC aI (bL (aB (eC (.str "cross")) aD)) (aA 3))))
noncomputable def IS (m : Rdr.RM) : Rdr.RF := (Rdr.rSeq (Rdr.rExpr (Rdr.rPure (aU iG (aB (aA 3) aD)))) (YA m))
noncomputable def IT (m : Rdr.RM) : Rdr.RF := (Rdr.rSeq (Rdr.rSet 3 (Rdr.rPure (bL (aB (aC aE (aA 2) (eC (.int 0))) (aB (aC aE (aA 2) (eC (.int 2))) (aB (aC aE (aA 2) (eC (.int 3))) (aB (aC aE (aA 2) (eC (.int 5))) (aB (aC aE (aA 2) (eC (.int 6))) aD)))))))) (IS m))
noncomputable def IU (m : Rdr.RM) : Rdr.RF := (Rdr.rRet (Rdr.rPure (bL (aB (eC (.str "rule")) (aB (aC aE (aA 2) (eC (.int 0))) (aB (aC aE (aA 2) (eC (.int 2))) (aB (aL eY (aB (bY (aA 2) (bF (eC (.int 3))) bR) aD)) aD)))))))
noncomputable def IV (m : Rdr.RM) : Rdr.RF := (Rdr.rSeq (Rdr.rExpr (Rdr.rPure (aU iG (aB (aC aI (aY (bD (aB (aC aE (aA 2) (eC (.int 0))) aD))) (bY (aA 2) (bF (eC (.int 2))) bR)) aD)))) (IU m))
noncomputable def xK (m : Rdr.RM) : Rdr.RF := (Rdr.rSeq (Rdr.rIf (Rdr.rTst (gD (aM (aC a8 (aL bB (aB (aA 2) aD)) (eC (.int 7)))) (aM (aC a8 (aC aE (aA 2) (eC (.int 4))) (eC (.str "x")))))) (IT m) Rdr.rNext) (IV m))
noncomputable def xL (m : Rdr.RM) : Rdr.RF := (Rdr.rSeq (Rdr.rIf (Rdr.rTst (eS (aM (aC gL (aL bB (aB (aA 2) aD)) (eC (.int 4)))) (aM (aC cE (aC aE (aA 2) (eC (.int 1))) (eC (.str "=")))))) (X9 m) Rdr.rNext) (xK m))
noncomputable def mB (m : Rdr.RM) : Rdr.RF := (Rdr.rSeq (Rdr.rIf (Rdr.rTst (aM (aC a8 (aC aE (aA 2) (eC (.int 0))) (eC (.str "times"))))) (IR m) Rdr.rNext) (xL m))
noncomputable def j0 (m : Rdr.RM) : Rdr.RF := (Rdr.rSeq (Rdr.rSet 2 Rdr.rTake) (mB m))
noncomputable def j1 (m : Rdr.RM) : Rdr.RM := Rdr.fnR 2 4 0 (j0 m)
noncomputable def YB (m : Rdr.RM) : Rdr.RF := (Rdr.rRaise1 "NoText")
noncomputable def YC (m : Rdr.RM) : Rdr.RF := (Rdr.rRet (Rdr.rPure (aL eY (aB (aA 2) aD))))
noncomputable def xM (m : Rdr.RM) : Rdr.RF := (Rdr.rSeq (Rdr.rIf (Rdr.rTst (aM (aC a8 (aL bB (aB (aA 2) aD)) (eC (.int 0))))) (YB m) Rdr.rNext) (YC m))
noncomputable def xN (m : Rdr.RM) : Rdr.RF := (Rdr.rCol 2 (Rdr.rCmp cT Rdr.rAhead (bL (aB (aY (bD aD)) (aB (aY (bD (aB (eC (.str "end")) aD))) aD)))) (Rdr.rCall m (Rdr.aHere (aB (aA 1) aD))) (xM m))
noncomputable def tJ (m : Rdr.RM) : Rdr.RM := Rdr.fnR 2 3 0 (xN m)
noncomputable def mD : Nat -> Rdr.RM := Rdr.recR fun m => tJ (j1 (l9 m))
noncomputable def mE : Rdr.RM := mD 8
noncomputable def tK : DSt -> R aG := (cD (aC a8 (wZ (aA 0)) (aL bB (aB (aA 0) aD))))
noncomputable def gW : List D -> R D := bN 1 1 tK
theorem YD (a0 : D) : gW [a0] = fin (tK [some a0]) := c6 (b := tK) rfl rfl
def pX : D := .int 8
noncomputable def YE : Rdr.RF := (Rdr.rRaise1 "NoText")
noncomputable def YF : Rdr.RF := (Rdr.rRaise1 "NoText")
noncomputable def IW : Rdr.RF := (Rdr.rRet (Rdr.rPure (bL (aB (aC aE (aA 1) (eC (.int 1))) (aB (aL eY (aB (aA 2) aD)) (aB (aC aE (aA 1) (iQ iU (eC (.int 1)))) (aB (aA 3) aD)))))))
noncomputable def xO : Rdr.RF := (Rdr.rSeq (Rdr.rExpr (Rdr.rCall jZ Rdr.aOnly)) IW)
noncomputable def IX : Rdr.RF := (Rdr.rSeq (Rdr.rSet 3 (Rdr.rCall mE (Rdr.aHere (aB (eC (.int 0)) aD)))) xO)
noncomputable def IY : Rdr.RF := (Rdr.rSeq (Rdr.rIf (Rdr.rTst (eS (aM (aC eM (aL bB (aB (aA 2) aD)) (eC pX))) (eF (aM (aU gW (aB (aA 2) aD)))))) YF Rdr.rNext) IX)
noncomputable def IZ : Rdr.RF := (Rdr.rSeq (Rdr.rExpr (Rdr.rPure (aU iG (aB (aC aI (aY (bD (aB (aC aE (aA 1) (eC (.int 1))) (aB (aC aE (aA 1) (iQ iU (eC (.int 1)))) aD)))) (aA 2)) aD)))) IY)
noncomputable def xP : Rdr.RF := (Rdr.rSeq (Rdr.rIf (Rdr.rTst (eS (aM (aC gL (aL bB (aB (aA 1) aD)) (eC (.int 5)))) (aM (aC cE (aC aE (aA 1) (iQ iU (eC (.int 2)))) (eC (.str ">")))))) YE Rdr.rNext) IZ)
noncomputable def xQ : Rdr.RF := (Rdr.rSeq (Rdr.rSet 2 (Rdr.rPure (bY (aA 1) (bF (eC (.int 2))) (bF (iQ iU (eC (.int 2))))))) xP)
noncomputable def xR : Rdr.RF := (Rdr.rSeq (Rdr.rSet 1 Rdr.rTake) xQ)
noncomputable def i9 : Rdr.RM := Rdr.fnR 1 4 0 xR
def tL : D := .int 20
noncomputable def YG : Rdr.RF := (Rdr.rRaise1 "NoText")
noncomputable def YH : Rdr.RF := (Rdr.rRaise1 "NoText")
noncomputable def YI : Rdr.RF := (Rdr.rRaise1 "NoText")
noncomputable def YJ : Rdr.RF := (Rdr.rRet (Rdr.rPure (bL (aB (aL eY (aB (aA 2) aD)) (aB (aA 3) aD)))))
noncomputable def xS : Rdr.RF := (Rdr.rSeq (Rdr.rIf (Rdr.rCmp cE Rdr.rAhead (aY (bD aD))) YI Rdr.rNext) YJ)
noncomputable def I0 : Rdr.RF := (Rdr.rSeq (Rdr.rSet 3 (Rdr.rCall mE (Rdr.aHere (aB (eC (.int 0)) aD)))) xS)
noncomputable def JA : Rdr.RF := (Rdr.rSeq (Rdr.rIf (Rdr.rTst (eF (aM (aU gW (aB (aY (dY 1 [0] (c5 (aA 2)) bV dB (aC aE (aA 0) (eC (.int 0))))) aD))))) YH Rdr.rNext) I0)
noncomputable def xT : Rdr.RF := (Rdr.rSeq (Rdr.rIf (Rdr.rTst (aM (aC eM (aL bB (aB (aA 2) aD)) (eC tL)))) YG Rdr.rNext) JA)
noncomputable def xU : Rdr.RF := (Rdr.rCol 2 (Rdr.rCmp a8 (Rdr.rSl Rdr.rAhead bR (bF (eC (.int 1)))) (aY (bD (aB (eC (.str "rule")) aD)))) (Rdr.rCall i9 Rdr.aOnly) xT)
noncomputable def tM : DSt -> R aG := (Rdr.sReader 1 (aU jY (aB (aA 0) aD)) xU)
noncomputable def iH : List D -> R D := bN 1 4 tM
theorem YK (a0 : D) : iH [a0] = fin (tM [some a0, none, none, none]) := c6 (b := tM) rfl rfl
noncomputable def JB (m : List D -> R D) : DSt -> R aG := (dU [1] 1 (eC (.str "end")))
noncomputable def JC (m : List D -> R D) : DSt -> R aG := (aV (pR [1] 1 (aU m (aB (aC aE (aA 2) (eC (.int 2))) aD))) (JB m))
noncomputable def JD (m : List D -> R D) : DSt -> R aG := (aV (dU [1] 1 (aC aI (eC (.str "times ")) (aL eZ (aB (aC aE (aA 2) (eC (.int 1))) aD)))) (JC m))
noncomputable def k8 (m : List D -> R D) : DSt -> R aG := (dF (aM (aC a8 (aC aE (aA 2) (eC (.int 0))) (eC (.str "times")))) (JD m) (dF (aM (aC a8 (aC aE (aA 2) (eC (.int 0))) (eC (.str "cross")))) (dU [1] 1 (fW (eC (.str " ")) (aY (bD (aB (aC aE (aA 2) (eC (.int 1))) (aB (eC (.str "=")) (aB (aC aE (aA 2) (eC (.int 2))) (aB (aC aE (aA 2) (eC (.int 3))) (aB (eC (.str "x")) (aB (aC aE (aA 2) (eC (.int 4))) (aB (aC aE (aA 2) (eC (.int 5))) aD))))))))))) (dU [1] 1 (fW (eC (.str " ")) (aC aI (aY (bD (aB (aC aE (aA 2) (eC (.int 1))) (aB (eC (.str "=")) (aB (aC aE (aA 2) (eC (.int 2))) aD))))) (aY (jQ kQ (aB (aC aE (aA 2) (eC (.int 3))) aD))))))))
noncomputable def JE (m : List D -> R D) : DSt -> R aG := (cD (aA 1))
noncomputable def JF (m : List D -> R D) : DSt -> R aG := (aV (gH [1] [2] bV (c5 (aA 0)) (k8 m)) (JE m))
noncomputable def n5 (m : List D -> R D) : DSt -> R aG := (aV (fS [] 1 (bD aD)) (JF m))
noncomputable def k9 : Nat -> List D -> R D := i7 fun m => bN 1 3 (n5 m)
noncomputable def jA : List D -> R D := k9 64
theorem YL (n : Nat) (a0 : D) : k9 (n + 1) [a0] = fin (n5 (k9 n) [some a0, none, none]) := show bN 1 3 (n5 (k9 n)) [a0] = _ from c6 (b := n5 (k9 n)) rfl rfl
noncomputable def JG : DSt -> R aG := (dU [1] 1 (eC (.str "end")))
noncomputable def JH : DSt -> R aG := (aV (pR [1] 1 (aU jA (aB (aA 5) aD))) JG)
noncomputable def mF : DSt -> R aG := (aV (dU [1] 1 (fW (eC (.str " ")) (aC aI (aC aI (aY (bD (aB (eC (.str "rule")) (aB (aA 2) aD)))) (aY (jQ kQ (aB (aA 3) aD)))) (aY (bD (aB (eC (.str ">")) (aB (aA 4) aD))))))) JH)
noncomputable def xV : DSt -> R aG := (cD (fW (eC (.str "; ")) (aC aI (aA 1) (aU jA (aB (aC aE (aA 0) (eC (.int 1))) aD)))))
noncomputable def JI : DSt -> R aG := (aV (gH [1] [2, 3, 4, 5] (b8 4) (c5 (aC aE (aA 0) (eC (.int 0)))) mF) xV)
noncomputable def tN : DSt -> R aG := (aV (fS [] 1 (bD aD)) JI)
noncomputable def jB : List D -> R D := bN 1 6 tN
theorem YM (a0 : D) : jB [a0] = fin (tN [some a0, none, none, none, none, none]) := c6 (b := tN) rfl rfl
noncomputable def JJ : DSt -> R aG := (cD (eC (.int 0)))
noncomputable def tP : DSt -> R aG := (aV (dF (aM (aC gL (aA 1) (aL bB (aB (aA 0) aD)))) (cD (aC aE (aA 0) (aA 1))) eV) JJ)
noncomputable def fY : List D -> R D := bN 2 2 tP
theorem YN (a0 : D) (a1 : D) : fY [a0, a1] = fin (tP [some a0, some a1]) := c6 (b := tP) rfl rfl
noncomputable def tQ : DSt -> R aG := (cD (mZ (aL (g2 bW) (aB (aA 0) (aB (eC (.ty "int")) aD))) (vD (aL (g2 bW) (aB (aA 0) (aB (eC (.ty "bool")) aD))))))
noncomputable def n6 : List D -> R D := bN 1 1 tQ
theorem YO (a0 : D) : n6 [a0] = fin (tQ [some a0]) := c6 (b := tQ) rfl rfl
noncomputable def JK : DSt -> R aG := (cD (aC aQ (aC iT (aA 2) (aA 2)) (eC (.int 2305843009213693951))))
noncomputable def JL : DSt -> R aG := (aV (bZ 2 (aC aQ (aC aI (aC aI (aC iT (aA 2) (aA 2)) (aC iT (aC iT (eC (.int 69621)) (aA 1)) (aA 1))) (aA 1)) (eC (.int 2305843009213693951)))) JK)
noncomputable def JM : DSt -> R aG := (aV (bZ 2 (aC aQ (aA 2) (eC (.int 2305843009213693951)))) JL)
noncomputable def tU : DSt -> R aG := (aV (bZ 2 (aC aI (aC aI (aC iT (aC aI (aC aQ (aA 0) (eC (.int 1000000007))) (eC (.int 1))) (eC (.int 6364136223846793005))) (aC iT (aC iT (eC (.int 7919)) (aA 1)) (aA 1))) (aC iT (eC (.int 31)) (aA 1)))) JM)
noncomputable def n8 : List D -> R D := bN 2 3 tU
theorem YQ (a0 : D) (a1 : D) : n8 [a0, a1] = fin (tU [some a0, some a1, none]) := c6 (b := tU) rfl rfl
noncomputable def JN : DSt -> R aG := (cM [2] 3 (aC eX (aA 3) (aC pF (eC (.int 10)) (eC (.int 6)))))
noncomputable def JO : DSt -> R aG := (aV (dU [2] 2 (aC aQ (aA 3) (aC pF (eC (.int 10)) (eC (.int 6))))) JN)
noncomputable def pY : DSt -> R aG := (dF (gD (aM (aC a8 (aC aQ (aA 0) (eC (.int 2))) (eC (.int 0)))) (aM (aC eM (aA 3) (eC (.int 0))))) JO (dU [2] 2 (aC aQ (aU n8 (aB (aA 0) (aB (aA 4) aD))) (aC pF (eC (.int 10)) (eC (.int 6))))))
noncomputable def JP : DSt -> R aG := (cD (aA 2))
noncomputable def JQ : DSt -> R aG := (aV (gH [2] [4] bV (fG eG (aB (aA 1) aD)) pY) JP)
noncomputable def JR : DSt -> R aG := (aV (cM [2] 3 (aC eX (aA 0) (eC (.int 2)))) JQ)
noncomputable def tV : DSt -> R aG := (aV (fS [] 2 (bD aD)) JR)
noncomputable def cO : List D -> R D := bN 2 5 tV
theorem YR (a0 : D) (a1 : D) : cO [a0, a1] = fin (tV [some a0, some a1, none, none, none]) := c6 (b := tV) rfl rfl
noncomputable def pZ : DSt -> R aG := (bZ 4 (aC aI (aA 4) (aC iZ (aA 2) (aC aQ (aC eX (aC aE (aA 3) (eC (.int 11))) (aC aE (aY (bD (aB (eC (.int 1)) (aB (eC (.int 26)) (aB (eC (.int 676)) (aB (eC (.int 17576)) (aB (eC (.int 5)) (aB (eC (.int 9)) (aB (eC (.int 77)) aD))))))))) (aA 5))) (eC (.int 26))))))
noncomputable def JS : DSt -> R aG := (dU [6] 6 (aC aI (aA 8) (aC jW (eC (.str "a")) (aL fK (aB (aC iD (aA 8) (aY (bD (aB (eC (.str "x")) (aB (eC (.str "rule")) (aB (eC (.str "times")) (aB (eC (.str "end")) aD))))))) aD)))))
noncomputable def p0 : DSt -> R aG := (aV (cM [6] 8 (aC aI (aC iZ (aA 2) (aC aQ (aC aI (aC aE (aA 3) (eC (.int 9))) (aA 7)) (eC (.int 26)))) (aA 4))) JS)
noncomputable def JT : DSt -> R aG := (cD (aA 6))
noncomputable def JU : DSt -> R aG := (aV (gH [6] [7] bV (fG eG (aB (aA 1) aD)) p0) JT)
noncomputable def JV : DSt -> R aG := (aV (fS [] 6 (bD aD)) JU)
noncomputable def JW : DSt -> R aG := (aV (gH [] [5] bV (fG eG (aB (aC aQ (aC aE (aA 3) (eC (.int 10))) (eC (.int 8))) aD)) pZ) JV)
noncomputable def JX : DSt -> R aG := (aV (bZ 4 (eC (.str ""))) JW)
noncomputable def JY : DSt -> R aG := (aV (bZ 3 (aU cO (aB (aA 0) (aB (eC (.int 12)) aD)))) JX)
noncomputable def tW : DSt -> R aG := (aV (bZ 2 (eC (.str "abcdefghijklmnopqrstuvwxyz"))) JY)
noncomputable def p7 : List D -> R D := bN 2 9 tW
theorem YS (a0 : D) (a1 : D) : p7 [a0, a1] = fin (tW [some a0, some a1, none, none, none, none, none, none, none]) := c6 (b := tW) rfl rfl
noncomputable def JZ : DSt -> R aG := (cD (bL (aB (eC (.str "rule")) (aB (aA 3) (aB (aA 5) (aB (aL eY (aB (bY (aA 4) bR (bF (aA 6))) aD)) aD))))))
noncomputable def J0 : DSt -> R aG := (aV (fI [] [5, 6] (b8 2) (aC aE (aA 2) (aC aQ (aC aE (aA 0) (eC (.int 2))) (aL bB (aB (aA 2) aD))))) JZ)
noncomputable def J1 : DSt -> R aG := (cD (bL (aB (eC (.str "cross")) (aB (aA 3) (aB (aC aE (aA 4) (eC (.int 0))) (aB (aC aE (aA 4) (eC (.int 1))) (aB (aC aE (aA 4) (eC (.int 2))) (aB (aC aE (aA 4) (eC (.int 3))) aD))))))))
noncomputable def J2 : DSt -> R aG := (aV (dF (gD (aM (aC eM (aC aQ (aC aE (aA 0) (eC (.int 0))) (eC (.int 8))) (eC (.int 4)))) (aM (aC cE (aA 2) (aY (bD aD))))) J0 eV) J1)
noncomputable def J3 : DSt -> R aG := (aV (cM [] 4 (aY (dY 1 [0] (c5 (bY (aA 0) (bF (eC (.int 3))) (bF (eC (.int 11))))) bV dB (aC aE (aA 2) (aC aQ (aA 0) (aL bB (aB (aA 2) aD))))))) J2)
noncomputable def tX : DSt -> R aG := (aV (bZ 3 (aC aE (aA 1) (aC aQ (aC aE (aA 0) (eC (.int 1))) (aL bB (aB (aA 1) aD))))) J3)
noncomputable def mG : List D -> R D := bN 3 7 tX
theorem YT (a0 : D) (a1 : D) (a2 : D) : mG [a0, a1, a2] = fin (tX [some a0, some a1, some a2, none, none, none, none]) := c6 (b := tX) rfl rfl
noncomputable def J4 (m : List D -> R D) : DSt -> R aG := (dU [5] 5 (bL (aB (eC (.str "times")) (aB (aC aE (aY (bD (aB (aC aQ (aC aE (aA 7) (eC (.int 2))) (eC (.int 4))) (aB (aC aQ (aC aE (aA 7) (eC (.int 2))) (eC (.int 61))) aD)))) (aL fK (aB (aC a8 (aC aQ (aC aE (aA 7) (eC (.int 1))) (eC (.int 16))) (eC (.int 1))) aD))) (aB (aA 8) aD)))))
noncomputable def J5 (m : List D -> R D) : DSt -> R aG := (aV (fI [5] [8, 1] (b8 2) (aU m (aB (aA 0) (aB (aA 1) (aB (aA 2) (aB (aA 3) (aB (aC gSub (aA 4) (eC (.int 1))) aD))))))) (J4 m))
noncomputable def J6 (m : List D -> R D) : DSt -> R aG := (dF (gD (aM (aC a8 (aC aQ (aC aE (aA 7) (eC (.int 0))) (eC (.int 8))) (eC (.int 0)))) (gD (aM (aC eM (aA 4) (eC (.int 0)))) (aM (aC gL (aA 1) (eC (.int 40)))))) (J5 m) (dU [5] 5 (aU mG (aB (aA 7) (aB (aA 2) (aB (aA 3) aD))))))
noncomputable def J7 (m : List D -> R D) : DSt -> R aG := (aV (cM [5] 7 (aU cO (aB (aC aE (aA 0) (aC aQ (aA 1) (aL bB (aB (aA 0) aD)))) (aB (eC (.int 12)) aD)))) (J6 m))
noncomputable def n9 (m : List D -> R D) : DSt -> R aG := (aV (cM [5] 1 (aC aI (aA 1) (eC (.int 1)))) (J7 m))
noncomputable def J8 (m : List D -> R D) : DSt -> R aG := (cD (bL (aB (aL eY (aB (aA 5) aD)) (aB (aA 1) aD))))
noncomputable def J9 (m : List D -> R D) : DSt -> R aG := (aV (gH [5] [6] bV (fG eG (aB (aC aI (eC (.int 1)) (aC aQ (aC aE (aU cO (aB (aC aE (aA 0) (aC aQ (aA 1) (aL bB (aB (aA 0) aD)))) (aB (eC (.int 12)) aD))) (eC (.int 11))) (eC (.int 3)))) aD)) (n9 m)) (J8 m))
noncomputable def oA (m : List D -> R D) : DSt -> R aG := (aV (fS [] 5 (bD aD)) (J9 m))
noncomputable def jC : Nat -> List D -> R D := i7 fun m => bN 5 9 (oA m)
noncomputable def lA : List D -> R D := jC 64
theorem YU (n : Nat) (a0 : D) (a1 : D) (a2 : D) (a3 : D) (a4 : D) : jC (n + 1) [a0, a1, a2, a3, a4] = fin (oA (jC n) [some a0, some a1, some a2, some a3, some a4, none, none, none, none]) := show bN 5 9 (oA (jC n)) [a0, a1, a2, a3, a4] = _ from c6 (b := oA (jC n)) rfl rfl
noncomputable def KA : DSt -> R aG := (cM [3] 4 (aC aI (aA 4) (aY (bD (aB (bL (aB (aC aI (fV (aC aE (aA 2) (aA 6)) bR (bF (eC (.int 7)))) (eC (.str "r"))) (aB (aL bB (aB (aA 8) aD)) aD))) aD)))))
noncomputable def KB : DSt -> R aG := (aV (dU [3] 3 (bL (aB (aC aI (fV (aC aE (aA 2) (aA 6)) bR (bF (eC (.int 7)))) (eC (.str "r"))) (aB (aL eY (aB (aA 8) aD)) (aB (aC aE (aA 10) (aC aQ (aC aE (aA 7) (eC (.int 2))) (aL bB (aB (aA 10) aD)))) (aB (aA 11) aD)))))) KA)
noncomputable def KC : DSt -> R aG := (aV (fI [3] [11, 5] (b8 2) (aU lA (aB (aA 0) (aB (aC aI (aA 5) (eC (.int 3))) (aB (aA 10) (aB (aA 4) (aB (eC (.int 4)) aD))))))) KB)
noncomputable def KD : DSt -> R aG := (aV (cM [3] 10 (aC aE (aY (bD (aB (aA 8) (aB (aA 2) aD)))) (aL fK (aB (aC a8 (aC aQ (aC aE (aA 7) (eC (.int 3))) (eC (.int 4))) (eC (.int 1))) aD)))) KC)
noncomputable def KF : DSt -> R aG := (aV (cM [3] 8 (aC aI (bY (aA 8) (bF (aA 9)) bR) (bY (aA 8) bR (bF (aA 9))))) KD)
noncomputable def KG : DSt -> R aG := (aV (cM [3] 9 (aC aQ (aC aE (aA 7) (eC (.int 1))) (aL bB (aB (aA 8) aD)))) KF)
noncomputable def KH : DSt -> R aG := (aV (cM [3] 8 (bY (aA 2) bR (bF (aC aI (eC (.int 1)) (aC aQ (aC aE (aA 7) (eC (.int 0))) (eC (.int 8))))))) KG)
noncomputable def mH : DSt -> R aG := (aV (cM [3] 7 (aU cO (aB (aC aE (aA 0) (aC aQ (aC aI (aA 5) (aA 6)) (aL bB (aB (aA 0) aD)))) (aB (eC (.int 12)) aD)))) KH)
noncomputable def KI : DSt -> R aG := (cD (bL (aB (aA 3) (aB (aA 4) (aB (aA 5) aD)))))
noncomputable def KJ : DSt -> R aG := (aV (gH [3] [6] bV (fG eG (aB (aA 1) aD)) mH) KI)
noncomputable def KK : DSt -> R aG := (aV (cM [3] 5 (eC (.int 0))) KJ)
noncomputable def KL : DSt -> R aG := (aV (cM [3] 4 (aY (bD aD))) KK)
noncomputable def tY : DSt -> R aG := (aV (fS [] 3 (bD aD)) KL)
noncomputable def p9 : List D -> R D := bN 3 12 tY
theorem YV (a0 : D) (a1 : D) (a2 : D) : p9 [a0, a1, a2] = fin (tY [some a0, some a1, some a2, none, none, none, none, none, none, none, none, none]) := c6 (b := tY) rfl rfl
noncomputable def YW : DSt -> R aG := (cD (bL (aB (aA 2) (aB (bL (aB (aL eY (aB (aA 4) aD)) (aB (aA 7) aD))) aD))))
noncomputable def KM : DSt -> R aG := (aV (fI [] [7, 6] (b8 2) (aU lA (aB (aA 3) (aB (aC aI (aA 6) (eC (.int 2))) (aB (aA 2) (aB (aA 5) (aB (eC (.int 4)) aD))))))) YW)
noncomputable def KN : DSt -> R aG := (aV (fI [] [4, 5, 6] (b8 3) (aU p9 (aB (aA 3) (aB (aC aQ (aC aE (aA 1) (eC (.int 0))) (eC (.int 4))) (aB (aA 2) aD))))) KM)
noncomputable def KO : DSt -> R aG := (aV (bZ 3 (aC aI (bY (aA 0) (bF (eC (.int 1))) (bF (eC (.int 40)))) (aY (bD (aB (eC (.int 0)) (aB (eC (.int 1)) aD)))))) KN)
noncomputable def KP : DSt -> R aG := (aV (bZ 2 (aU p7 (aB (aU fY (aB (aA 0) (aB (eC (.int 0)) aD))) (aB (eC (.int 9)) aD)))) KO)
noncomputable def tZ : DSt -> R aG := (aV (bZ 1 (aU cO (aB (aU fY (aB (aA 0) (aB (eC (.int 0)) aD))) (aB (eC (.int 12)) aD)))) KP)
noncomputable def mI : List D -> R D := bN 1 8 tZ
theorem YX (a0 : D) : mI [a0] = fin (tZ [some a0, none, none, none, none, none, none, none]) := c6 (b := tZ) rfl rfl
noncomputable def lB (m : List D -> R D) : DSt -> R aG := (dF (aM (aC a8 (aC aE (aA 2) (eC (.int 0))) (eC (.str "times")))) (rO 1 (nP (aC aI (aC aI (aA 1) (aY (bD (aB (aC aI (eC (.str "times ")) (aL eZ (aB (aC aE (aA 2) (eC (.int 1))) aD))) aD)))) (aU m (aB (aC aE (aA 2) (eC (.int 2))) aD))) (aY (bD (aB (eC (.str "end")) aD))))) (dF (aM (aC a8 (aC aE (aA 2) (eC (.int 0))) (eC (.str "cross")))) (dU [1] 1 (fW (eC (.str " ")) (aY (bD (aB (aC aE (aA 2) (eC (.int 1))) (aB (eC (.str "=")) (aB (aC aE (aA 2) (eC (.int 2))) (aB (aC aE (aA 2) (eC (.int 3))) (aB (eC (.str "x")) (aB (aC aE (aA 2) (eC (.int 4))) (aB (aC aE (aA 2) (eC (.int 5))) aD))))))))))) (dU [1] 1 (fW (eC (.str " ")) (aC aI (aY (bD (aB (aC aE (aA 2) (eC (.int 1))) (aB (eC (.str "=")) (aB (aC aE (aA 2) (eC (.int 2))) aD))))) (aY (jQ kQ (aB (aC aE (aA 2) (eC (.int 3))) aD))))))))
noncomputable def KQ (m : List D -> R D) : DSt -> R aG := (cD (aA 1))
noncomputable def KR (m : List D -> R D) : DSt -> R aG := (aV (gH [1] [2] bV (c5 (aA 0)) (lB m)) (KQ m))
noncomputable def oB (m : List D -> R D) : DSt -> R aG := (aV (fS [] 1 (bD aD)) (KR m))
noncomputable def lC : Nat -> List D -> R D := i7 fun m => bN 1 3 (oB m)
noncomputable def j3 : List D -> R D := lC 64
theorem YY (n : Nat) (a0 : D) : lC (n + 1) [a0] = fin (oB (lC n) [some a0, none, none]) := show bN 1 3 (oB (lC n)) [a0] = _ from c6 (b := oB (lC n)) rfl rfl
noncomputable def KS : DSt -> R aG := (fS [] 1 (nP (aC aI (aA 1) (aU j3 (aB (aA 5) aD))) (aY (bD (aB (eC (.str "end")) aD)))))
noncomputable def mJ : DSt -> R aG := (aV (dU [1] 1 (aC aI (aC aI (aC aI (aC aI (aC aI (eC (.str "rule ")) (aA 2)) (eC (.str " "))) (w5 (eC (.str " ")) (aA 3))) (eC (.str " > "))) (aA 4))) KS)
noncomputable def xW : DSt -> R aG := (cD (fW (eC (.str "; ")) (aC aI (aA 1) (aU j3 (aB (aC aE (aA 0) (eC (.int 1))) aD)))))
noncomputable def KT : DSt -> R aG := (aV (gH [1] [2, 3, 4, 5] (b8 4) (c5 (aC aE (aA 0) (eC (.int 0)))) mJ) xW)
noncomputable def t0 : DSt -> R aG := (aV (fS [] 1 (bD aD)) KT)
noncomputable def lD : List D -> R D := bN 1 6 t0
theorem YZ (a0 : D) : lD [a0] = fin (t0 [some a0, none, none, none, none, none]) := c6 (b := t0) rfl rfl
noncomputable def qA (m : List D -> R D) : DSt -> R aG := (dF (eF (aM (aU m (aB (aA 2) (aB (aA 3) aD))))) (cD (eC (.bl false))) eV)
noncomputable def KU (m : List D -> R D) : DSt -> R aG := (cD (eC (.bl true)))
noncomputable def KW (m : List D -> R D) : DSt -> R aG := (aV (gH [] [2, 3] (b8 2) (fG pU (aB (aA 0) (aB (aA 1) aD))) (qA m)) (KU m))
noncomputable def KY (m : List D -> R D) : DSt -> R aG := (aV (dF (eS (eF (aM (aL (g2 bW) (aB (aA 0) (aB (eC (.ty "tuple")) aD))))) (aM (aC cE (aL bB (aB (aA 0) aD)) (aL bB (aB (aA 1) aD))))) (cD (eC (.bl false))) eV) (KW m))
noncomputable def KZ (m : List D -> R D) : DSt -> R aG := (cD (mZ (aU n6 (aB (aA 0) aD)) (aC a8 (aA 0) (aA 1))))
noncomputable def xX (m : List D -> R D) : DSt -> R aG := (aV (dF (aM (aL (g2 bW) (aB (aA 1) (aB (eC (.ty "str")) aD)))) (cD (mZ (aL (g2 bW) (aB (aA 0) (aB (eC (.ty "str")) aD))) (aC a8 (aA 0) (aA 1)))) eV) (KZ m))
noncomputable def lE (m : List D -> R D) : DSt -> R aG := (aV (dF (aM (aL (g2 bW) (aB (aA 1) (aB (eC (.ty "tuple")) aD)))) (KY m) eV) (xX m))
noncomputable def eO : Nat -> List D -> R D := i7 fun m => bN 2 4 (lE m)
noncomputable def gX : List D -> R D := eO 64
theorem xY (n : Nat) (a0 : D) (a1 : D) : eO (n + 1) [a0, a1] = fin (lE (eO n) [some a0, some a1, none, none]) := show bN 2 4 (lE (eO n)) [a0, a1] = _ from c6 (b := lE (eO n)) rfl rfl
noncomputable def K0 : DSt -> R aG := (bZ 4 (aC aI (bL (aB (bL (aB (aA 5) (aB (aA 6) (aB (aA 7) (aB (aC aI (aA 8) (bL (aB (aA 3) aD))) aD))))) aD)) (bY (aA 4) (bF (eC (.int 1))) bR)))
noncomputable def K1 : DSt -> R aG := (aV (fI [] [5, 6, 7, 8] (b8 4) (aC aE (aA 4) (eC (.int 0)))) K0)
noncomputable def xZ : DSt -> R aG := (cD (bL (aB (aA 4) (aB (aC aI (bL (aB (bL (aB (eC (.str "times")) (aB (aC aQ (aC eX (aA 2) (eC (.int 27))) (eC (.int 3))) (aB (bL (aB (aA 3) aD)) aD)))) (aB (aA 3) aD))) (aC aE (aA 1) (eC (.int 1)))) aD))))
noncomputable def x4 : DSt -> R aG := (aV (dF (aM (aC kY (aA 4) (bL aD))) K1 eV) xZ)
noncomputable def x5 : DSt -> R aG := (aV (bZ 4 (aC aE (aA 1) (eC (.int 0)))) x4)
noncomputable def qB : DSt -> R aG := (aV (bZ 3 (bL (aB (eC (.str "rule")) (aB (aC aE (aA 0) (eC (.int 0))) (aB (aC aE (aY (bD (aB (eC (.str "nonesuch")) (aB (aC aE (aA 0) (eC (.int 1))) (aB (aC aI (fV (aC aE (aA 0) (eC (.int 2))) bR (bF (eC (.int 7)))) (eC (.str "r"))) aD))))) (aC aQ (aA 2) (eC (.int 3)))) (aB (aL eY (aB (bY (aA 0) bR (bF (aC aI (eC (.int 1)) (aC aQ (aC eX (aA 2) (eC (.int 3))) (eC (.int 9)))))) aD)) aD)))))) x5)
noncomputable def j5 : List D -> R D := bN 3 9 qB
theorem K2 (a0 : D) (a1 : D) (a2 : D) : j5 [a0, a1, a2] = fin (qB [some a0, some a1, some a2, none, none, none, none, none, none]) := c6 (b := qB) rfl rfl
noncomputable def K3 : DSt -> R aG := (cD (aU gX (aB (aU iH (aB (aU jB (aB (aA 6) aD)) aD)) (aB (aA 6) aD))))
noncomputable def K4 : DSt -> R aG := (aV (bZ 6 (bL (aB (bL aD) (aB (aC aE (aA 2) (eC (.int 1))) aD)))) K3)
noncomputable def K5 : DSt -> R aG := (aV (dF (eF (aM (aU gX (aB (aU iH (aB (aA 4) aD)) (aB (aA 2) aD))))) (cD (eC (.bl false))) eV) K4)
noncomputable def K6 : DSt -> R aG := (aV (dF (eS (eF (aM (aL (g2 bW) (aB (aA 5) (aB (eC (.ty "str")) aD))))) (aM (aC cE (aA 5) (aA 4)))) (cD (eC (.bl false))) eV) K5)
noncomputable def K7 : DSt -> R aG := (aV (bZ 5 (aU jB (aB (aA 2) aD))) K6)
noncomputable def x6 : DSt -> R aG := (aV (bZ 4 (aU lD (aB (aA 2) aD))) K7)
noncomputable def K8 : DSt -> R aG := (aV (dF (aM (aC a8 (aC aQ (aA 3) (eC (.int 2))) (eC (.int 0)))) (bZ 2 (aU j5 (aB (aA 1) (aB (aA 2) (aB (aC eX (aA 3) (eC (.int 2))) aD))))) eV) x6)
noncomputable def K9 : DSt -> R aG := (aV (bZ 3 (aC aE (aU cO (aB (aU fY (aB (aA 0) (aB (eC (.int 0)) aD))) (aB (eC (.int 12)) aD))) (eC (.int 4)))) K8)
noncomputable def t4 : DSt -> R aG := (aV (fI [] [1, 2] (b8 2) (aU mI (aB (aA 0) aD))) K9)
noncomputable def t5 : List D -> R D := bN 1 7 t4
theorem Y0 (a0 : D) : t5 [a0] = fin (t4 [some a0, none, none, none, none, none, none]) := c6 (b := t4) rfl rfl
end Mir
section
open L2 DL Mir
local macro_rules | `(tactic| kd_p) => `(tactic| simp only [bS, bO, B7, B8, B9, CA, lV, CB, CC, CD, cS, cF, CG, CH, nF, CI, CJ, CL, CM, lW, CN, CP, CQ, CS, CT, bT, vV, CU, kS, CV, CW, CY, CZ, C0, C1, C2, C3, nH, C4, C5, C6, C7, C8, C9, DB, iW, DC, iX, DD, nI, sI, DH, nJ, DJ, nK, sJ, DK, DM, DN, DP, DQ, DU, DV, DY, DZ, D1, D2, D3, dN, iY, fL, D5, D6, lY, EA, EB, EC, nL, EG, EH, EI, EJ, EK, EL, EM, EN, EO, wE, wF, kT, ES, ET, EU, EV, EY, EZ, E2, E3, E4, E6, E7, E8, E9, FB, FC, pL, FE, FF, FG, FH, FI, FJ, FK, FL, FM, FN, FP, FQ, FR, FS, FT, FU, FV, lR, FW, FX, FY, FZ, GA, GB, GC, GD, GF, GG, GH, GI, eq_self, decide_true, decide_false, Int.reduceEq, Int.reduceLT, Int.reduceLE, Int.reduceNeg, Int.reduceToNat, GJ, GK, GL, GM, GN, GO, GP, GQ, GS, GU, GV, GW, GX, wL, GY, GZ, HA, HB, wO, sM, pO, sN, nM, HC, HD, HE, HF, nO, vJ, mask, gE, List.contains_cons, List.contains_nil, Bool.or_false, Bool.false_or, Bool.true_or, Bool.or_true, Nat.reduceBEq, Nat.reduceAdd, xci, cond_true, cond_false, List.set_cons_zero, List.set_cons_succ, Bool.not_true, Bool.not_false, Bool.not_not, xco, Bool.false_and, xcp, Bool.and_false])
local macro_rules | `(tactic| walk_at "side") => `(tactic| first | assumption | decide | omega | (refine fT ?_ ?_ <;> omega) | (refine ED ?_ ?_ ?_ <;> omega) | (refine wJ ?_ ?_ <;> omega) | (simp only [xaf, xbh, xaa, xae]; omega))
local macro_rules | `(tactic| walk_at "evd") => `(tactic| simp (disch := walk_at "side") only [bS, bO, B7, B8, B9, CA, lV, CB, CC, CD, cS, cF, CG, CH, nF, CI, CJ, CL, CM, lW, CN, CP, CQ, CS, CT, bT, vV, CU, kS, CV, CW, CY, CZ, C0, C1, C2, C3, nH, C4, C5, C6, C7, C8, C9, DB, iW, DC, iX, DD, nI, sI, DH, nJ, DJ, nK, sJ, DK, DM, DN, DP, DQ, DU, DV, DY, DZ, D1, D2, D3, dN, iY, fL, D5, D6, lY, EA, EB, EC, nL, EG, EH, EI, EJ, EK, EL, EM, EN, EO, wE, wF, kT, ES, ET, EU, EV, EY, EZ, E2, E3, E4, E6, E7, E8, E9, FB, FC, pL, FE, FF, FG, FH, FI, FJ, FK, FL, FM, FN, FP, FQ, FR, FS, FT, FU, FV, lR, FW, FX, FY, FZ, GA, GB, GC, GD, GF, GG, GH, GI, eq_self, decide_true, decide_false, Int.reduceEq, Int.reduceLT, Int.reduceLE, Int.reduceNeg, Int.reduceToNat, GJ, GK, GL, GM, GN, GO, GP, GQ, GS, GU, GV, GW, GX, wL, GY, GZ, HA, HB, wO, sM, pO, sN, nM, HC, HD, HE, HF, nO, vJ, mask, gE, List.contains_cons, List.contains_nil, Bool.or_false, Bool.false_or, Bool.true_or, Bool.or_true, Nat.reduceBEq, Nat.reduceAdd, xci, cond_true, cond_false, List.set_cons_zero, List.set_cons_succ, Bool.not_true, Bool.not_false, Bool.not_not, xco, Bool.false_and, xcp, Bool.and_false, jS, pM, dO, VP, VQ, wI, VT, lZ, VL, VN, VM])
open L2 DL Mir
namespace LmA
theorem cX {i j : Int} (h : 0 < j) : 0 <= i % j /\ i % j < j := ⟨Int.emod_nonneg _ (by omega), Int.emod_lt_of_pos _ h⟩
theorem Y1 (c k : Int) (h0 : 0 <= k) (h1 : k <= 1000) : ∃ r, n8 [.int c, .int k] = .ok (.int r) /\ 0 <= r /\ r < 2305843009213693951 := by
 rw [YQ]; unfold tU JM JL JK; kd_p
 have m1 := cX (i := c) (j := 1000000007) (by decide)
 rw [dO _ _ (by decide)]; kd_p
 rw [jS _ _ (fT (by omega) (by omega)) (by decide +kernel), jS _ k (by decide +kernel) (fT (by omega) (by omega))]; kd_p
 rw [jS _ k (fT (by omega) (by omega)) (fT (by omega) (by omega)), jS _ k (by decide +kernel) (fT (by omega) (by omega))]; kd_p
 rw [dO _ _ (by decide)]; kd_p
 generalize ((c % 1000000007 + 1) * 6364136223846793005 + 7919 * k * k + 31 * k) = v
 have m2 := cX (i := v) (j := 2305843009213693951) (by decide)
 generalize v % 2305843009213693951 = u at m2 ⊢
 rw [jS u u (fT (by omega) (by omega)) (fT (by omega) (by omega)), jS _ k (by decide +kernel) (fT (by omega) (by omega))]; kd_p
 rw [jS _ k (fT (by omega) (by omega)) (fT (by omega) (by omega))]; kd_p
 rw [dO _ _ (by decide)]; kd_p
 generalize (u * u + 69621 * k * k + k) = t
 have m3 := cX (i := t) (j := 2305843009213693951) (by decide)
 generalize t % 2305843009213693951 = q at m3 ⊢
 rw [jS q q (fT (by omega) (by omega)) (fT (by omega) (by omega))]; kd_p
 rw [dO _ _ (by decide)]; kd_p
 exact ⟨_, rfl, cX (by decide)⟩
end LmA
open L2 DL Mir
namespace Lk31
open LmA
theorem Y2 (f : DSt -> R D) (U : DSt) : wT f U = (f U).bind wS := rfl
def j6 (i j : Str) : Bool := !(Builtin.Str.occurrences j i 0 j.length 1).isEmpty
def kept (z : Str) : Bool := fM (.str z) [.str "x", .str "rule", .str "times", .str "end"]
theorem Y3 (z : Str) : iD (.str z) (.lst [.str "x", .str "rule", .str "times", .str "end"]) = .ok (.bl (kept z)) := rfl
theorem Y4 (z : Str) : cT (.str z) (.tup [.str "x", .str "rule", .str "times", .str "end"]) = .ok (.bl (!kept z)) := rfl
def oE (z : Str) : Bool := decide (1 <= (z.length : Int)) && decide ((z.length : Int) <= 8) && (z.cps.toList.all fun c => j6 (fU c) "abcdefghijklmnopqrstuvwxyz") && !kept z
theorem Y5 {z : Str} (h : z.length <= 1000) : bB [.str z] = .ok (.int z.length) := by
 show (bif aW z.length then _ else _) = _
 rw [show aW z.length = true from xai (xaj h (by decide))]; rfl
theorem LA (bs : List Bool) : kP [.lst (bs.map D.bl)] = .ok (.bl (bs.all id)) := by
 show pH (.lst (bs.map D.bl)) = _
 simp only [pH, BY]
theorem Y6 (z : Str) : (gQ z).length = z.length := by
 unfold gQ
 rw [xae, xb7]; rfl
def qC (z : Str) : Bool := decide (1 <= (z.length : Int)) && decide ((z.length : Int) <= 8) && (z.cps.toList.all fun c => j6 (fU c) "abcdefghijklmnopqrstuvwxyz")
theorem Y7 {z : Str} (h : z.length <= 1000) : nY [.str z] = .ok (.bl (qC z)) := by
 rw [X3]; unfold sZ; kd_p
 rw [show g2 bW [.str z, .ty "str"] = .ok (.bl true) from rfl]; kd_p
 rw [Y5 h]; kd_p
 rw [show sY = .int 8 from rfl]; kd_p
 cases hc : (decide (1 <= (z.length : Int)) && decide ((z.length : Int) <= 8)) with
 | false =>
  kd_p
  unfold qC; rw [hc]; rfl
 | true =>
  kd_p
  unfold IM; kd_p
  rw [Y2]; kd_p
  rw [show (R.ok (D.str z)).bind wS = .ok (gQ z) from rfl, pQ (g := fun d => match d with | .str y => .bl (j6 y "abcdefghijklmnopqrstuvwxyz") | d => d) (by rw [Y6]; omega) (fun d hd => ?_)]
  ·kd_p
   rw [show (gQ z).map (fun d => match d with | .str y => D.bl (j6 y "abcdefghijklmnopqrstuvwxyz") | d => d) = (z.cps.toList.map fun c => j6 (fU c) "abcdefghijklmnopqrstuvwxyz").map D.bl from by unfold gQ; rw [xbp, xbp]; rfl, LA, List.all_map]; kd_p
   unfold qC; rw [hc, xco]
   rfl
  ·unfold gQ at hd
   obtain ⟨c, _, rfl⟩ := xa7.mp hd
   kd_p
   rfl
theorem Y8 {z : Str} (h : z.length <= 1000) : k7 [.str z] = .ok (.bl (oE z)) := by
 rw [X4]; unfold tD; kd_p
 rw [Y7 h]
 unfold oE
 rw [show (decide (1 <= (z.length : Int)) && decide ((z.length : Int) <= 8) && (z.cps.toList.all fun c => j6 (fU c) "abcdefghijklmnopqrstuvwxyz")) = qC z from rfl]
 cases qC z with
 | false => kd_p
 | true =>
  kd_p
  rw [show s9 = .tup [.str "x", .str "rule", .str "times", .str "end"] from rfl, Y4]; kd_p
end Lk31
open L2 DL Mir
open L2 DL Mir
open L2 DL Mir
namespace Lk42
open LmA
theorem eSl_to (fe f : DSt -> R D) (U : DSt) (ds : List D) (n : Nat) (h1 : fe U = .ok (.lst ds)) (h2 : f U = .ok (.int (n : Int))) : bY fe bR (bF f) U = .ok (.lst (ds.take n)) := by
 unfold bY bR bF
 rw [h1, h2]
 show R.ok (D.lst (cJ ds none (some (n : Int)))) = _
 unfold cJ
 rw [HT.sIx_none, HT.sIx_nat, List.drop_zero, Nat.sub_zero, <- List.take_eq_take_min]
end Lk42
open L2 DL Mir
namespace LmB
open LmA
theorem lc_mapP {α : Type} {xs : List α} {f : α -> D} {e : DSt -> R D} {U : DSt} {g : α -> D} (hl : xs.length <= 1000000) (h : ∀ a ∈ xs, e (some (f a) :: U) = .ok (g a)) : wP 1 [0] (.ok (xs.map f)) bV dB e U = .ok (xs.map g) := by
 have go : ∀ xs : List α, (∀ a ∈ xs, e (some (f a) :: U) = .ok (g a)) -> fR [0] bV dB e (List.replicate 1 none ++ U) (xs.map f) = .ok (xs.map g) := by
  intro xs
  induction xs with
  | nil => intro _; rfl
  | cons d ds ih =>
   intro h
   show (e (some (f d) :: U)).bind (fun y => (fR [0] bV dB e (List.replicate 1 none ++ U) (ds.map f)).bind fun ys => .ok (y :: ys)) = _
   rw [h d xax, ih fun d' hd => h d' (xah _ hd)]; rfl
 show (bif most (xs.map f).length then _ else _) = _
 rw [sO (by rw [xae]; exact hl), go xs h]; rfl
end LmB
open L2 DL Mir
open L2 DL Mir
open L2 DL Mir
open L2 DL Mir
open L2 DL Mir
open L2 DL Mir
open L2 DL Mir
open L2 DL Mir
open L2 DL Mir
namespace LmL
open LmA LmB
theorem eSl_to (fe f : DSt -> R D) (U : DSt) (ds : List D) (n : Nat) (h1 : fe U = .ok (.lst ds)) (h2 : f U = .ok (.int (n : Int))) : bY fe bR (bF f) U = .ok (.lst (ds.take n)) := Lk42.eSl_to fe f U ds n h1 h2
theorem eSl_from (fe f : DSt -> R D) (U : DSt) (ds : List D) (n : Nat) (h1 : fe U = .ok (.lst ds)) (h2 : f U = .ok (.int (n : Int))) : bY fe (bF f) bR U = .ok (.lst (ds.drop n)) := by
 unfold bY bR bF
 rw [h1, h2]
 show R.ok (D.lst (cJ ds (some (n : Int)) none)) = _
 unfold cJ
 rw [HT.sIx_none, HT.sIx_nat]
 congr 2
 by_cases h : n <= ds.length
 ·rw [Nat.min_eq_left h, List.take_of_length_le (by rw [xbu]; omega)]
 ·rw [Nat.min_eq_right (by omega), xcm (by omega), xcm (by omega)]; simp
end LmL
open L2 DL Mir
namespace LmC
open LmA LmB
def cell (ns : List Int) (k : Nat) : Int := ns.getD k 0
theorem t6 (ns : List Int) (k : Nat) : fY [.lst (ns.map .int), .int (k : Int)] = .ok (.int (cell ns k)) := by
 rw [YN]; unfold tP JJ; kd_p
 rw [xae]
 by_cases h : k < ns.length
 ·rw [xai (by omega)]; kd_p
  rw [l0 (d := .int ns[k]) (by simp [h])]; kd_p
  simp [cell, h]
 ·rw [xau (by omega)]; kd_p
  simp [cell, h]
end LmC
open L2 DL Mir
open L2 DL Mir
open L2 DL Mir
namespace LmW
open LmA LmB LmC
structure Dd where
 w : Bool
 a : Nat
 b : Nat
end LmW
open L2 DL Mir
namespace LmX
open LmA LmB LmC LmW
theorem eSl_mid (fe f g : DSt -> R D) (U : DSt) (ds : List D) (a b : Nat) (h1 : fe U = .ok (.lst ds)) (h2 : f U = .ok (.int (a : Int))) (h3 : g U = .ok (.int (b : Int))) : bY fe (bF f) (bF g) U = .ok (.lst ((ds.drop (min a ds.length)).take (min b ds.length - min a ds.length))) := by
 unfold bY bF
 rw [h1, h2, h3]
 show R.ok (D.lst (cJ ds (some (a : Int)) (some (b : Int)))) = _
 unfold cJ
 rw [HT.sIx_nat, HT.sIx_nat]
end LmX
open L2 DL Mir
open L2 DL Mir
namespace LmY
open LmA LmB LmW LmX TxtA
theorem x8 {n : Nat} (h : n < 10 ^ 70) : eZ [.int (n : Int)] = .ok (.str (aF (cZ n))) := by
 show sP (.int (n : Int)) = _
 have hl : ((n : Int)).natAbs.log2 < 1920 := by
  rw [Int.natAbs_natCast]
  have : n.log2 <= n := Nat.log2_le_self n
  by_cases h0 : n = 0
  ·rw [h0]; decide
  ·exact (Nat.log2_lt h0).mpr (xar h (by decide))
 show (bif decide (((n : Int)).natAbs.log2 < 1920) then R.ok (D.str (toString ((n : Nat) : Int))) else .bad) = _
 rw [xai hl, cond_true]
 show R.ok (D.str (Str.ofString (toString ((n : Nat) : Int)))) = _
 rw [ofS]
theorem LB : ∀ ys : List Str, dQ (ys.map D.str) = some ys
 | [] => rfl
 | y :: ys => by
  show (dQ (ys.map D.str)).map (y :: ·) = _
  rw [LB ys]; rfl
theorem LD (z : Str) (ys : List Str) : eN z ys = Str.join z ys := by
 unfold eN
 split
 ·rfl
 ·exact StrLaws.glued_eq_join z ys
theorem Y9 (z : Str) (ys : List Str) : jT z ys = (ys.map (·.length)).sum + ys.length * z.length := StrLaws.joinTotal z ys
theorem join_ok {y : List Nat} {rows : List (List Nat)} {B : Nat} (hB : ∀ r ∈ rows, r.length <= B) (h : rows.length * B + rows.length * y.length <= 10000000) : c7 (.str (aF y)) (.lst ((rows.map aF).map D.str)) = .ok (.str (aF (TxtA.flat y rows))) := by
 have lo : ∀ l : List Nat, (aF l).length = l.length := fun l => by simp [aF, Str.length]
 have h1 : jT (aF y) (rows.map aF) <= 10000000 := by
  rw [Y9, lo, xae]
  have := StrLaws.sumLen_le (B := B) (rows.map aF) (fun s hs => by obtain ⟨r, hr, rfl⟩ := xa7.mp hs; rw [lo]; exact hB r hr)
  rw [xae] at this
  omega
 have h2 : (eN (aF y) (rows.map aF)).length <= 10000000 := by
  rw [LD, u8, lo]
  have fl : ∀ rows : List (List Nat), (∀ r ∈ rows, r.length <= B) -> (TxtA.flat y rows).length <= rows.length * B + rows.length * y.length := by
   intro rows
   induction rows with
   | nil => intro _; simp [TxtA.flat]
   | cons r rs ih =>
    intro hr
    cases rs with
    | nil => have := hr r (by simp); simp [TxtA.flat]; omega
    | cons r' rs =>
     have a1 := hr r (by simp)
     have a2 := ih fun q hq => hr q (xah _ hq)
     rw [TxtA.flat]
     simp only [xaa, xaf] at a2 ⊢
     rw [Nat.add_mul (rs.length + 1) 1 B, Nat.add_mul (rs.length + 1) 1 y.length]
     omega
  exact xaj (fl rows hB) h
 unfold c7
 simp only [LB]
 rw [show (aW (jT (aF y) (rows.map aF)) && aW (eN (aF y) (rows.map aF)).length) = true from by
  rw [xaw]; exact ⟨xai (xaj h1 (by decide)), xai (xaj h2 (by decide))⟩, cond_true, LD, u8]
theorem x9 (y : List Nat) {B : Nat} : ∀ rows : List (List Nat), (∀ r ∈ rows, r.length <= B) -> (TxtA.flat y rows).length <= rows.length * B + rows.length * y.length
 | [], _ => by simp [TxtA.flat]
 | [r], h => by have := h r (by simp); simp [TxtA.flat]; omega
 | r :: r' :: rs, h => by
  have a1 := h r (by simp)
  have a2 := x9 y (r' :: rs) fun q hq => h q (xah _ hq)
  rw [TxtA.flat]
  simp only [xaa, xaf] at a2 ⊢
  rw [Nat.add_mul (rs.length + 1) 1 B, Nat.add_mul (rs.length + 1) 1 y.length]
  omega
theorem LF {y : List Nat} {c : Nat} : ∀ {rows : List (List Nat)}, c ∈ TxtA.flat y rows -> c ∈ y \/ ∃ r ∈ rows, c ∈ r
 | [], h => by simp [TxtA.flat] at h
 | [r], h => .inr ⟨r, by simp, by simpa [TxtA.flat] using h⟩
 | r :: r' :: rs, h => by
  rw [TxtA.flat] at h
  simp only [xay] at h
  rcases h with (h | h) | h
  ·exact .inr ⟨r, by simp, h⟩
  ·exact .inl h
  ·rcases LF h with h | ⟨q, hq, hc⟩
   ·exact .inl h
   ·exact .inr ⟨q, xah _ hq, hc⟩
theorem ZA {c : Nat} {t : List Nat} {rows : List (List Nat)} (hc : c ∉ t) (hk : ∀ k ∈ c :: t, k < 256) (hne : rows ≠ []) (hr : ∀ r ∈ rows, c ∉ r) (hl : (TxtA.flat (c :: t) rows).length <= 10000000) : gU (.str (aF (TxtA.flat (c :: t) rows))) (.str (aF (c :: t))) = .ok ((rows.map aF).map D.str) := by
 have lo : ∀ l : List Nat, (aF l).length = l.length := fun l => by simp [aF, Str.length]
 unfold gU
 show (bif (!((aF (c :: t)).length == 0)) && aW ((aF (TxtA.flat (c :: t) rows)).length + 2) then R.ok ((Txt.split _ _).map D.str) else .bad) = _
 rw [R5 hc hk hne hr, lo, lo]
 rw [show (!((c :: t).length == 0) && aW ((TxtA.flat (c :: t) rows).length + 2)) = true from by
  rw [xaw]; exact ⟨by simp, xai (by show _ <= 16777216; omega)⟩, cond_true]
end LmY
open L2 DL Mir
namespace LmWa
open LmA LmY TxtA
theorem t7 (c : Int) (N : Nat) (hN : N <= 1000) : ∃ ns : List Int, cO [.int c, .int (N : Int)] = .ok (.lst (ns.map .int)) /\ ns.length = N /\ ∀ n ∈ ns, 0 <= n /\ n < 1000000 := by
 rw [YR]; unfold tV; kd_p
 unfold JR; walk_at "evd"
 unfold JQ; walk_at "evd"
 rw [xbl]
 have turn : ∀ (j : Nat) (d : D) (U : DSt), (cC 0 N)[j]? = some d -> (∃ (ns : List Int) (v : Int) (a : Option D), U = [some (.int c), some (.int (N : Int)), some (.lst (ns.map .int)), some (.int v), a] /\ ns.length = j /\ ∀ n ∈ ns, 0 <= n /\ n < 1000000) -> ∃ U', (pY (U.set 4 (some d)) = .ok (.nx U') \/ pY (U.set 4 (some d)) = .ok (.ct U')) /\ ∃ (ns : List Int) (v : Int) (a : Option D), U' = [some (.int c), some (.int (N : Int)), some (.lst (ns.map .int)), some (.int v), a] /\ ns.length = j + 1 /\ ∀ n ∈ ns, 0 <= n /\ n < 1000000 := by
  rintro j d U hd ⟨ns, v, a, rfl, hl, hb⟩
  have hj : j < N := by
   have := (xam.mp hd).1
   simpa [cC] using this
  obtain rfl : d = .int (j : Int) := by
   unfold cC at hd
   rw [xba, xbw hj] at hd
   simpa using hd.symm
  have put : ∀ x : Int, 0 <= x -> x < 1000000 -> (ns ++ [x]).length = j + 1 /\ ∀ n ∈ ns ++ [x], 0 <= n /\ n < 1000000 := fun x h0 h1 => by
   refine ⟨by simp [hl], fun n hn => ?_⟩
   rcases xay.mp hn with hn | hn
   ·exact hb n hn
   ·rw [xbb.mp hn]; exact ⟨h0, h1⟩
  unfold pY; walk_at "evd"
  obtain ⟨k, hk⟩ : ∃ k, sH (.ok (decide (c % 2 = 0))) (aM (aC eM (aA 3) (eC (.int 0)))) [some (.int c), some (.int (N : Int)), some (.lst (ns.map .int)), some (.int v), some (.int (j : Int))] = .ok k := by
   cases decide (c % 2 = 0)
   ·exact ⟨_, rfl⟩
   ·kd_p; exact ⟨_, rfl⟩
  rw [hk]
  cases k with
  | true =>
   kd_p
   unfold JO; walk_at "evd"
   have e := cX (i := v) (j := 10 ^ 6) (by decide)
   unfold JN; walk_at "evd"
   obtain ⟨p1, p2⟩ := put (v % 10 ^ 6) (by omega) (by omega)
   exact ⟨_, .inl rfl, ns ++ [v % 10 ^ 6], v / 10 ^ 6, some (.int (j : Int)), by rw [xaz]; rfl, p1, p2⟩
  | false =>
   kd_p
   obtain ⟨r, er, r0, r1⟩ := Y1 c (j : Int) (by omega) (by omega)
   rw [er]; walk_at "evd"
   have e := cX (i := r) (j := 10 ^ 6) (by decide)
   obtain ⟨p1, p2⟩ := put (r % 10 ^ 6) (by omega) (by omega)
   exact ⟨_, .inl rfl, ns ++ [r % 10 ^ 6], v, some (.int (j : Int)), by rw [xaz]; rfl, p1, p2⟩
 obtain ⟨U', e, ns, v, a, rfl, hl, hb⟩ := pP (i := 4) (fb := pY) _ _ turn [some (.int c), some (.int (N : Int)), some (.lst []), some (.int (c / 2)), none] ⟨[], c / 2, none, rfl, rfl, by simp⟩
 rw [e]; kd_p
 unfold JP; kd_p
 exact ⟨ns, rfl, by rw [hl]; simp [cC], hb⟩
end LmWa
open L2 DL Mir
open L2 DL Mir
open L2 DL Mir
namespace LmDa
open LmA LmY Lk31 Rdr TxtA
mutual
inductive Rw
 | cross (n a b c d : Str)
 | rule (n f : Str) (as : List Str)
 | times (k : Nat) (rs : Rws)
inductive Rws
 | nil
 | cons (r : Rw) (rs : Rws)
end
mutual
def Rw.d : Rw -> D
 | .cross n a b c d => .tup [.str "cross", .str n, .str a, .str b, .str c, .str d]
 | .rule n f as => .tup [.str "rule", .str n, .str f, .tup (as.map .str)]
 | .times k rs => .tup [.str "times", .int (k : Int), .tup (Rws.ds rs)]
def Rws.ds : Rws -> List D
 | .nil => []
 | .cons r rs => Rw.d r :: Rws.ds rs
end
def bE (k : Nat) : Str := aF (cZ k)
mutual
def Rw.wd : Rw -> List (List Str)
 | .cross n a b c d => [[n, "=", a, b, "x", c, d]]
 | .rule n f as => [[n, "=", f] ++ as]
 | .times k rs => ["times", bE k] :: (Rws.wds rs ++ [(["end"] : List Str)])
def Rws.wds : Rws -> List (List Str)
 | .nil => []
 | .cons r rs => Rw.wd r ++ Rws.wds rs
end
abbrev wD (ws : List Str) : D := .lst (ws.map .str)
def Nm (x : Str) : Prop := oE x = true /\ x.length <= 1000
theorem names_ok {d : D} {xs : List Str} (hd : d = .lst (xs.map .str) \/ d = .tup (xs.map .str)) (hl : xs.length <= 1000) (h : ∀ x ∈ xs, Nm x) : iG [d] = .ok .non := by
 rw [X5]; unfold tF
 have e1 : dY 1 [0] (c5 (aA 0)) bV dB (aU k7 (aB (aA 0) aD)) [some d] = .ok (xs.map fun _ => D.bl true) := by
  rw [nO, show c5 (aA 0) [some d] = .ok (xs.map .str) from by rcases hd with rfl | rfl <;> rfl]
  rw [pQ (g := fun _ => D.bl true) (by rw [xae]; omega) (fun d hd => ?_), xbp]
  ·rfl
  ·obtain ⟨x, hx, rfl⟩ := xa7.mp hd
   show k7 [.str x] = _
   rw [Y8 (h x hx).2, (h x hx).1]
 have e2 : kP [.lst (xs.map fun _ => D.bl true)] = .ok (.bl true) := by
  rw [show (xs.map fun _ => D.bl true) = (xs.map fun _ => true).map D.bl from by rw [xbp]; rfl, LA]
  congr 2
  rw [xa8]
  intro b hb
  obtain ⟨_, _, rfl⟩ := xa7.mp hb
  rfl
 have e3 : eF (aM (aL kP (aB (aY (dY 1 [0] (c5 (aA 0)) bV dB (aU k7 (aB (aA 0) aD)))) aD))) [some d] = .ok false := by
  rw [sJ, iX, lW, bT, iW, e1]
  show lX (eD (kP [.lst (xs.map fun _ => D.bl true)]).noerr) = _
  rw [e2]; rfl
 rw [dN, e3]; rfl
theorem qD {x y : Str} (h : Nm x) (hy : oE y = false) : x ≠ y := fun e => by
 have z := h.1
 rw [e, hy] at z
 cases z
theorem j7 {rows : List D} {pre rest : List D} {w : D} (h : rows = pre ++ w :: rest) : dR rows (pre.length : Int) = w := by
 unfold dR
 rw [h, xbl, xbf, xbe (xak _), Nat.sub_self]; rfl
section
variable {t : TF} {f g : RF} {ef : EF} {rows : List D} {τ : DSt} {n n' : Int} {d : D} {j : Nat} {ft : DSt -> R Bool} {fe : DSt -> R D} {b : Bool}
theorem fZ (ht : t rows τ n = .ok (false, n')) : rSeq (rIf t f rNext) g rows τ n = g rows τ n' := by unfold rSeq rIf; rw [ht]; rfl
theorem LG (ht : t rows τ n = .ok (true, n')) {x : D} {k : Int} (hf : f rows τ n' = .ok (.rt x k)) : rSeq (rIf t f rNext) g rows τ n = .ok (.rt x k) := by
 unfold rSeq rIf; rw [ht]
 show ((f rows τ n').bind _) = _
 rw [hf]; rfl
theorem j8 (hf : ef rows τ n = .ok (d, n')) : rSeq (rSet j ef) g rows τ n = g rows (τ.set j (some d)) n' := by unfold rSeq rSet; rw [hf]; rfl
theorem qE (hf : ef rows τ n = .ok (d, n')) : rSeq (rExpr ef) g rows τ n = g rows τ n' := by unfold rSeq rExpr; rw [hf]; rfl
theorem fO (ht : ft τ = .ok b) : rTst ft rows τ n = .ok (b, n) := by unfold rTst; rw [ht]; rfl
theorem lF (he : fe τ = .ok d) : rPure fe rows τ n = .ok (d, n) := by unfold rPure; rw [he]; rfl
end
theorem yA (x y : Str) : a8 (.str x) (.str y) = .ok (.bl (decide (x = y))) := by
 show R.ok (D.bl (a7 (.str x) (.str y))) = _
 unfold a7; rfl
theorem neS (x y : Str) : cE (.str x) (.str y) = .ok (.bl (!decide (x = y))) := by
 show R.ok (D.bl (!a7 (.str x) (.str y))) = _
 unfold a7; rfl
theorem LH (m : RM) {rows pre rest : List D} {n a b c d : Str} (h : rows = pre ++ wD [n, "=", a, b, "x", c, d] :: rest) (hn : Nm n) (ha : Nm a) (hb : Nm b) (hc : Nm c) (hd : Nm d) (wi : Int) :
  j1 m rows (pre.length : Int) [.non, .int wi] = .ok ((Rw.cross n a b c d).d, (pre.length : Int) + 1) := by
 show (j0 m rows [none, some (.int wi), none, none] (pre.length : Int)).bind fB = _
 have nt : n ≠ "times" := qD hn (by decide +kernel)
 have e0 : j0 m rows [none, some (.int wi), none, none] (pre.length : Int) = mB m rows [none, some (.int wi), some (wD [n, "=", a, b, "x", c, d]), none] ((pre.length : Int) + 1) := by
  unfold j0
  rw [j8 (d := wD [n, "=", a, b, "x", c, d]) (n' := (pre.length : Int) + 1) (by unfold rTake; rw [j7 h])]; rfl
 have t1 : aM (aC a8 (aC aE (aA 2) (eC (.int 0))) (eC (.str "times"))) [none, some (.int wi), some (wD [n, "=", a, b, "x", c, d]), none] = .ok false := by
  show eD (a8 (.str n) (.str "times")) = _
  rw [yA, xau nt]; rfl
 have t2 : eS (aM (aC gL (aL bB (aB (aA 2) aD)) (eC (.int 4)))) (aM (aC cE (aC aE (aA 2) (eC (.int 1))) (eC (.str "=")))) [none, some (.int wi), some (wD [n, "=", a, b, "x", c, d]), none] = .ok false := by rfl
 have t3 : gD (aM (aC a8 (aL bB (aB (aA 2) aD)) (eC (.int 7)))) (aM (aC a8 (aC aE (aA 2) (eC (.int 4))) (eC (.str "x")))) [none, some (.int wi), some (wD [n, "=", a, b, "x", c, d]), none] = .ok true := by rfl
 have l1 : iG [.tup [.str n, .str a, .str b, .str c, .str d]] = .ok .non := names_ok (xs := [n, a, b, c, d]) (.inr rfl) (by show 5 <= 1000; decide) (fun x hx => by
  simp only [xag, xa5, or_false] at hx
  rcases hx with rfl | rfl | rfl | rfl | rfl <;> assumption)
 rw [e0]
 unfold mB
 rw [fZ (fO t1)]
 unfold xL
 rw [fZ (fO t2)]
 unfold xK
 rw [LG (fO t3) (x := (Rw.cross n a b c d).d) (k := (pre.length : Int) + 1) ?_]
 ·rfl
 ·unfold IT
  rw [j8 (d := .tup [.str n, .str a, .str b, .str c, .str d]) (n' := (pre.length : Int) + 1) (lF (by rfl))]
  unfold IS
  rw [qE (d := .non) (n' := (pre.length : Int) + 1) (lF (by exact l1))]
  unfold Rw.d
  rfl
theorem LI (m : RM) {rows pre rest : List D} {n f a : Str} {as : List Str} (h : rows = pre ++ wD (n :: "=" :: f :: a :: as) :: rest) (hn : Nm n) (hf : Nm f) (ha : ∀ x ∈ a :: as, Nm x) (hl : as.length <= 900) (wi : Int) :
  j1 m rows (pre.length : Int) [.non, .int wi] = .ok ((Rw.rule n f (a :: as)).d, (pre.length : Int) + 1) := by
 show (j0 m rows [none, some (.int wi), none, none] (pre.length : Int)).bind fB = _
 have nt : n ≠ "times" := qD hn (by decide +kernel)
 have e0 : j0 m rows [none, some (.int wi), none, none] (pre.length : Int) = mB m rows [none, some (.int wi), some (wD (n :: "=" :: f :: a :: as)), none] ((pre.length : Int) + 1) := by
  unfold j0
  rw [j8 (d := wD (n :: "=" :: f :: a :: as)) (n' := (pre.length : Int) + 1) (by unfold rTake; rw [j7 h])]; rfl
 have ix : ∀ (k : Nat) (d : D), ((n :: "=" :: f :: a :: as).map D.str)[k]? = some d -> aC aE (aA 2) (eC (.int (k : Int))) [none, some (.int wi), some (wD (n :: "=" :: f :: a :: as)), none] = .ok d := fun k d hd => l0 hd
 have i0 : aC aE (aA 2) (eC (.int 0)) [none, some (.int wi), some (wD (n :: "=" :: f :: a :: as)), none] = .ok (.str n) := ix 0 _ rfl
 have i1 : aC aE (aA 2) (eC (.int 1)) [none, some (.int wi), some (wD (n :: "=" :: f :: a :: as)), none] = .ok (.str "=") := ix 1 _ rfl
 have i2 : aC aE (aA 2) (eC (.int 2)) [none, some (.int wi), some (wD (n :: "=" :: f :: a :: as)), none] = .ok (.str f) := ix 2 _ rfl
 have t1 : aM (aC a8 (aC aE (aA 2) (eC (.int 0))) (eC (.str "times"))) [none, some (.int wi), some (wD (n :: "=" :: f :: a :: as)), none] = .ok false := by
  rw [iX, cS, i0]
  show eD (a8 (.str n) (.str "times")) = _
  rw [yA, xau nt]; rfl
 have hlen : aL bB (aB (aA 2) aD) [none, some (.int wi), some (wD (n :: "=" :: f :: a :: as)), none] = .ok (.int ((as.length + 4 : Nat) : Int)) := by
  show R.ok (D.int (((n :: "=" :: f :: a :: as).map D.str).length : Int)) = _
  rw [xae]; rfl
 have t2 : eS (aM (aC gL (aL bB (aB (aA 2) aD)) (eC (.int 4)))) (aM (aC cE (aC aE (aA 2) (eC (.int 1))) (eC (.str "=")))) [none, some (.int wi), some (wD (n :: "=" :: f :: a :: as)), none] = .ok false := by
  have e : aM (aC gL (aL bB (aB (aA 2) aD)) (eC (.int 4))) [none, some (.int wi), some (wD (n :: "=" :: f :: a :: as)), none] = .ok false := by
   rw [iX, cS, hlen]
   show R.ok (decide (((as.length + 4 : Nat) : Int) < 4)) = _
   rw [xau (by omega)]
  rw [nJ, e, nK, iX, cS, i1]; rfl
 have t3 : gD (aM (aC a8 (aL bB (aB (aA 2) aD)) (eC (.int 7)))) (aM (aC a8 (aC aE (aA 2) (eC (.int 4))) (eC (.str "x")))) [none, some (.int wi), some (wD (n :: "=" :: f :: a :: as)), none] = .ok false := by
  have e : aM (aC a8 (aL bB (aB (aA 2) aD)) (eC (.int 7))) [none, some (.int wi), some (wD (n :: "=" :: f :: a :: as)), none] = .ok (decide (((as.length + 4 : Nat) : Int) = 7)) := by
   rw [iX, cS, hlen]; rfl
  rw [nI, e]
  by_cases h7 : ((as.length + 4 : Nat) : Int) = 7
  ·rw [xai h7, sI]
   obtain ⟨b, hb⟩ : ∃ b, as[0]? = some b := ⟨as[0]'(by omega), xas (by omega)⟩
   have i4 : aC aE (aA 2) (eC (.int 4)) [none, some (.int wi), some (wD (n :: "=" :: f :: a :: as)), none] = .ok (.str b) := ix 4 _ (by
    show ((as.map D.str)[0]?) = _
    rw [xba, hb]; rfl)
   rw [iX, cS, i4]
   show eD (a8 (.str b) (.str "x")) = _
   rw [yA, xau (qD (ha b (xah _ (xbo hb))) (by decide +kernel))]; rfl
  ·rw [xau h7]; rfl
 have sl : ∀ (k : Nat), bY (aA 2) (bF (eC (.int (k : Int)))) bR [none, some (.int wi), some (wD (n :: "=" :: f :: a :: as)), none] = .ok (.lst (((n :: "=" :: f :: a :: as).map D.str).drop k)) := fun k => LmL.eSl_from _ _ _ _ k rfl rfl
 have hadd : aI (.lst [.str n]) (.lst ((f :: a :: as).map D.str)) = .ok (.lst ((n :: f :: a :: as).map D.str)) := by
  show (bif aW (1 + ((f :: a :: as).map D.str).length) then R.ok (D.lst (.str n :: (f :: a :: as).map D.str)) else .bad) = _
  rw [show aW (1 + ((f :: a :: as).map D.str).length) = true from xai (by rw [xae, xaf, xaf]; exact xaj (show _ <= 1000 by omega) (by decide))]; rfl
 have l1 : iG [.lst ((n :: f :: a :: as).map .str)] = .ok .non := names_ok (.inl rfl) (by rw [xaf, xaf, xaf]; omega) (fun x hx => by
  rcases xag.mp hx with rfl | hx
  ·exact hn
  ·rcases xag.mp hx with rfl | hx
   ·exact hf
   ·exact ha x hx)
 rw [e0]
 unfold mB
 rw [fZ (fO t1)]
 unfold xL
 rw [fZ (fO t2)]
 unfold xK
 rw [fZ (fO t3)]
 unfold IV
 rw [qE (d := .non) (n' := (pre.length : Int) + 1) (lF ?_)]
 ·unfold IU
  have e5 : bL (aB (eC (.str "rule")) (aB (aC aE (aA 2) (eC (.int 0))) (aB (aC aE (aA 2) (eC (.int 2))) (aB (aL eY (aB (bY (aA 2) (bF (eC (.int 3))) bR) aD)) aD)))) [none, some (.int wi), some (wD (n :: "=" :: f :: a :: as)), none] = .ok (Rw.rule n f (a :: as)).d := by
   have e6 : aL eY (aB (bY (aA 2) (bF (eC (.int 3))) bR) aD) [none, some (.int wi), some (wD (n :: "=" :: f :: a :: as)), none] = .ok (.tup ((a :: as).map .str)) := by
    rw [lW, bT, show bY (aA 2) (bF (eC (.int 3))) bR [none, some (.int wi), some (wD (n :: "=" :: f :: a :: as)), none] = _ from sl 3]; rfl
   unfold Rw.d
   rw [kS, bT, bT, bT, bT, i0, i2, e6]; rfl
  show (rRet (rPure _) rows [none, some (.int wi), some (wD (n :: "=" :: f :: a :: as)), none] _).bind fB = _
  unfold rRet
  rw [lF e5]; rfl
 ·rw [nF, bT, cS, show bY (aA 2) (bF (eC (.int 2))) bR [none, some (.int wi), some (wD (n :: "=" :: f :: a :: as)), none] = _ from sl 2, show aY (bD (aB (aC aE (aA 2) (eC (.int 0))) aD)) [none, some (.int wi), some (wD (n :: "=" :: f :: a :: as)), none] = .ok (.lst [.str n]) from by rw [iW, nH, bT, i0]; rfl, cF, show ((n :: "=" :: f :: a :: as).map D.str).drop 2 = (f :: a :: as).map D.str from rfl, hadd]
  exact l1
end LmDa
open L2 DL Mir
namespace LmDb
open LmA LmY Lk31 Rdr TxtA LmDa
abbrev oF : D := .tup [.lst [], .lst [.str "end"]]
theorem ZC (ws : List Str) : aT 9 (wD ws) = true := by
 rw [show aT 9 (wD ws) = (ws.map D.str).all (aT 8) from by unfold aT; rfl, xa8]
 intro d hd
 obtain ⟨x, _, rfl⟩ := xa7.mp hd
 rfl
theorem yB (ws : List Str) : cT (wD ws) oF = .ok (.bl (!fM (wD ws) [.lst [], .lst [.str "end"]])) := by
 show (bif dP (wD ws) [.lst [], .lst [.str "end"]] then R.ok (D.bl (!fM (wD ws) [.lst [], .lst [.str "end"]])) else .bad) = _
 rw [show dP (wD ws) [.lst [], .lst [.str "end"]] = true from by unfold dP; rw [ZC]; rfl]; rfl
theorem ZD (x y : Str) (zs : List Str) : cT (wD (x :: y :: zs)) oF = .ok (.bl true) := by
 rw [yB]
 congr 2
 unfold fM
 simp [a7, eqDs]
theorem ZE : cT (wD []) oF = .ok (.bl false) := by rw [yB]; rfl
theorem ZF : cT (wD ["end"]) oF = .ok (.bl false) := by rw [yB]; rfl
abbrev oG : TF := rCmp cT rAhead (bL (aB (aY (bD aD)) (aB (aY (bD (aB (eC (.str "end")) aD))) aD)))
theorem yC {rows : List D} {τ : DSt} {n : Int} {ws : List Str} {b : Bool} (h : dR rows n = wD ws) (hb : cT (wD ws) oF = .ok (.bl b)) : oG rows τ n = .ok (b, n) := by
 show ((cT (dR rows n) oF).bind fun z => (eK z).bind fun b => R.ok (b, n)) = _
 rw [h, hb]; rfl
def t8 (rest : List D) : Prop := rest = [] \/ ∃ r, rest = wD ["end"] :: r
theorem ZG {rows pre rest : List D} {τ : DSt} (h : rows = pre ++ rest) (hs : t8 rest) : oG rows τ (pre.length : Int) = .ok (false, (pre.length : Int)) := by
 rcases hs with rfl | ⟨r, rfl⟩
 ·refine yC (ws := []) ?_ ZE
  unfold dR
  rw [h, xbl, xbm, xbf, xb3 (xak _)]; rfl
 ·exact yC (j7 h) ZF
def Rws.All (P : Rw -> Prop) : Rws -> Prop
 | .nil => True
 | .cons r rs => P r /\ Rws.All P rs
def Rws.len : Rws -> Nat
 | .nil => 0
 | .cons _ rs => Rws.len rs + 1
def Rd (m : RM) (rows : List D) (wi : Int) (r : Rw) : Prop := ∀ pre rest : List D, rows = pre ++ ((Rw.wd r).map wD ++ rest) -> m rows (pre.length : Int) [.non, .int wi] = .ok (Rw.d r, ((pre.length + (Rw.wd r).length : Nat) : Int))
theorem LJ {m : RM} {rows : List D} {wi : Int} {a0 : Option D} : ∀ (rs : Rws) (pre rest xs : List D) (k : Nat), rows = pre ++ ((Rws.wds rs).map wD ++ rest) -> t8 rest -> Rws.All (Rd m rows wi) rs -> xs.length + Rws.len rs <= 1000 -> Rws.len rs < k ->
  cN oG (rCall m (aHere (aB (aA 1) aD))) rows [a0, some (.int wi), none] k (pre.length : Int) xs = .ok (xs ++ Rws.ds rs, ((pre.length + (Rws.wds rs).length : Nat) : Int))
 | .nil, pre, rest, xs, k, h, hs, _, _, hk => by
  obtain ⟨k, rfl⟩ : ∃ j, k = j + 1 := ⟨k - 1, by have : 0 < k := hk; omega⟩
  unfold cN
  rw [ZG (τ := [a0, some (.int wi), none]) (show rows = pre ++ rest from h) hs]
  show R.ok (xs, (pre.length : Int)) = _
  unfold Rws.ds Rws.wds
  rw [xbm, xbh, Nat.add_zero]
 | .cons r rs, pre, rest, xs, k, h, hs, ha, hl, hk => by
  have hl : xs.length + (Rws.len rs + 1) <= 1000 := hl
  have hk : Rws.len rs + 1 < k := hk
  obtain ⟨k, rfl⟩ : ∃ j, k = j + 1 := ⟨k - 1, by omega⟩
  have hw : Rws.wds (.cons r rs) = Rw.wd r ++ Rws.wds rs := by rw [Rws.wds]
  have hds : Rws.ds (.cons r rs) = Rw.d r :: Rws.ds rs := by rw [Rws.ds]
  have h1 : rows = pre ++ ((Rw.wd r).map wD ++ ((Rws.wds rs).map wD ++ rest)) := by rw [h, hw, xaz, xa3]
  obtain ⟨x, y, zs, t, ew⟩ : ∃ x y zs t, Rw.wd r = (x :: y :: zs) :: t := by
   cases r with
   | cross n a b c d => exact ⟨n, "=", [a, b, "x", c, d], [], by unfold Rw.wd; rfl⟩
   | rule n f as => exact ⟨n, "=", f :: as, [], by unfold Rw.wd; rfl⟩
   | times k rs => exact ⟨"times", bE k, [], _, by unfold Rw.wd; rfl⟩
  have hah : dR rows (pre.length : Int) = wD (x :: y :: zs) := j7 (rest := t.map wD ++ ((Rws.wds rs).map wD ++ rest)) (by rw [h1, ew]; rfl)
  have hr := ha.1 pre _ h1
  unfold cN
  rw [yC hah (ZD x y zs)]
  show ((m rows (pre.length : Int) [.non, .int wi]).bind fun x => bif most xs.length then cN oG (rCall m (aHere (aB (aA 1) aD))) rows [a0, some (.int wi), none] k x.2 (xs ++ [x.1]) else .bad) = _
  rw [hr]
  show (bif most xs.length then cN oG (rCall m (aHere (aB (aA 1) aD))) rows [a0, some (.int wi), none] k ((pre.length + (Rw.wd r).length : Nat) : Int) (xs ++ [Rw.d r]) else .bad) = _
  rw [sO (by omega), cond_true]
  have ih := LJ (a0 := a0) rs (pre ++ (Rw.wd r).map wD) rest (xs ++ [Rw.d r]) k (by rw [h1, xa3]) hs ha.2 (by rw [xaa]; show xs.length + 1 + _ <= _; omega) (by omega)
  rw [xaa, xae] at ih
  rw [ih, hw, hds, xaa, xa3, Nat.add_assoc]
  rfl
end LmDb
open L2 DL Mir
namespace LmDc
open LmA LmY Lk31 Rdr TxtA LmDa LmDb
theorem LK {m : RM} {rows : List D} {wi : Int} {r : Rw} {rs : Rws} {pre rest : List D} (h : rows = pre ++ ((Rws.wds (.cons r rs)).map wD ++ rest)) (hs : t8 rest) (ha : Rws.All (Rd m rows wi) (.cons r rs)) (hl : Rws.len (.cons r rs) <= 1000) :
  tJ m rows (pre.length : Int) [.non, .int wi] = .ok (.tup (Rws.ds (.cons r rs)), ((pre.length + (Rws.wds (.cons r rs)).length : Nat) : Int)) := by
 have hc := LJ (a0 := none) (.cons r rs) pre rest [] (Rws.len (.cons r rs) + 1) h hs ha (by simpa using hl) (xb5 _)
 have hds : Rws.ds (.cons r rs) = Rw.d r :: Rws.ds rs := by rw [Rws.ds]
 rw [xb2] at hc
 show (xN m rows [none, some (.int wi), none] (pre.length : Int)).bind fB = _
 have e1 : xN m rows [none, some (.int wi), none] (pre.length : Int) = xM m rows [none, some (.int wi), some (.lst (Rws.ds (.cons r rs)))] ((pre.length + (Rws.wds (.cons r rs)).length : Nat) : Int) := by
  show (l7 oG (rCall m (aHere (aB (aA 1) aD))) rows [none, some (.int wi), none] (pre.length : Int)).bind _ = _
  rw [xD hc (by simp)]; rfl
 rw [e1]
 have t1 : aM (aC a8 (aL bB (aB (aA 2) aD)) (eC (.int 0))) [none, some (.int wi), some (.lst (Rws.ds (.cons r rs)))] = .ok false := by
  rw [hds]
  show R.ok (decide (((Rw.d r :: Rws.ds rs).length : Int) = 0)) = _
  rw [xau (by rw [xaf]; omega)]
 unfold xM
 rw [fZ (fO t1)]
 rfl
theorem LL {rows pre rest : List D} (h : rows = pre ++ wD ["end"] :: rest) : jZ rows (pre.length : Int) [.non] = .ok (.non, (pre.length : Int) + 1) := by
 show (xH rows [none] (pre.length : Int)).bind fB = _
 unfold xH rIf
 have t : rCmp cE rTake (aY (bD (aB (eC (.str "end")) aD))) rows [none] (pre.length : Int) = .ok (false, (pre.length : Int) + 1) := by
  show ((cE (dR rows (pre.length : Int)) (.lst [.str "end"])).bind fun z => (eK z).bind fun b => R.ok (b, (pre.length : Int) + 1)) = _
  rw [j7 h]; rfl
 rw [t]; rfl
theorem ZH (k : Nat) (hk : k <= 60) (τ : DSt) : dY 1 [0] (fG eG (aB (aC aI (eC nZ) (eC (.int 1))) aD)) bV dB (aL eZ (aB (aA 0) aD)) τ = .ok ((List.range 61).map fun i => D.str (bE i)) := by
 rw [nO, show fG eG (aB (aC aI (eC nZ) (eC (.int 1))) aD) τ = .ok ((List.range 61).map fun i : Nat => D.int (i : Int)) from rfl]
 rw [pQ (g := fun d => match d with | .int i => .str (bE i.toNat) | d => d) (by simp) (fun d hd => ?_), xbp]
 ·rfl
 ·obtain ⟨i, hi, rfl⟩ := xa7.mp hd
  show (eZ [.int (i : Int)]).noerr = _
  rw [x8 (xar (xcx.mp hi) (by decide))]; rfl
theorem ZI {k : Nat} (hk : k <= 60) : pV [.str (bE k)] = .ok (.int (k : Int)) := by
 have hk' : k < 10 ^ 10 := by omega
 have lo := u9 (by decide) hk'
 show nQ (.str (aF (cZ k))) = _
 unfold nQ
 simp only [SA (xar hk' (by decide))]
 rw [show decide ((aF (cZ k)).length <= 640) = true from xai (by show (cZ k).toArray.size <= 640; rw [xal]; omega)]; rfl
theorem ZJ {k : Nat} (hk : k <= 60) : cT (.str (bE k)) (.lst ((List.range 61).map fun i => D.str (bE i))) = .ok (.bl false) := by
 rw [V3 (by
  unfold dP
  rw [xaw, xa8]
  refine ⟨rfl, fun d hd => ?_⟩
  obtain ⟨i, _, rfl⟩ := xa7.mp hd
  rfl)]
 congr 2
 unfold fM
 rw [Bool.not_eq_false', List.any_eq_true]
 exact ⟨_, xa7.mpr ⟨k, xcx.mpr (by omega), rfl⟩, by unfold a7; simp⟩
theorem ZK {m : RM} {rows pre rest : List D} {k : Nat} {rs : Rws} {wi : Int} (hk : k <= 60) (hw : wi ≠ 4) (h : rows = pre ++ ((Rws.wds rs).map wD ++ wD ["end"] :: rest)) (hr : m rows (pre.length : Int) [.non, .int (wi + 1)] = .ok (.tup (Rws.ds rs), ((pre.length + (Rws.wds rs).length : Nat) : Int))) :
  l9 m rows (pre.length : Int) [wD ["times", bE k], .non, .int wi] = .ok ((Rw.times k rs).d, ((pre.length + (Rws.wds rs).length + 1 : Nat) : Int)) := by
 show (xJ m rows [some (wD ["times", bE k]), none, some (.int wi), none] (pre.length : Int)).bind fB = _
 have t1 : aM (aC a8 (aA 2) (eC tH)) [some (wD ["times", bE k]), none, some (.int wi), none] = .ok false := by
  show R.ok (decide (wi = 4)) = _
  rw [xau hw]
 have t2 : eS (aM (aC cE (aL bB (aB (aA 0) aD)) (eC (.int 2)))) (aM (aC cT (aC aE (aA 0) (eC (.int 1))) (aY (dY 1 [0] (fG eG (aB (aC aI (eC nZ) (eC (.int 1))) aD)) bV dB (aL eZ (aB (aA 0) aD)))))) [some (wD ["times", bE k]), none, some (.int wi), none] = .ok false := by
  rw [nJ, show aM (aC cE (aL bB (aB (aA 0) aD)) (eC (.int 2))) [some (wD ["times", bE k]), none, some (.int wi), none] = .ok false from rfl, nK, iX, cS, iW, ZH k hk]
  show eD (cT (.str (bE k)) (.lst ((List.range 61).map fun i => D.str (bE i)))) = _
  rw [ZJ hk]; rfl
 have he : jZ rows ((pre.length + (Rws.wds rs).length : Nat) : Int) [.non] = .ok (.non, ((pre.length + (Rws.wds rs).length + 1 : Nat) : Int)) := by
  have := LL (rows := rows) (pre := pre ++ (Rws.wds rs).map wD) (rest := rest) (by rw [h, xa3])
  rw [xaa, xae] at this
  exact this
 unfold xJ
 rw [fZ (fO t1)]
 unfold IQ
 rw [fZ (fO t2)]
 unfold IP
 rw [j8 (d := .tup (Rws.ds rs)) (n' := ((pre.length + (Rws.wds rs).length : Nat) : Int)) (show rCall m (aHere (aB (aC aI (aA 2) (eC (.int 1))) aD)) rows [some (wD ["times", bE k]), none, some (.int wi), none] (pre.length : Int) = _ from hr)]
 show (xI m rows [some (wD ["times", bE k]), none, some (.int wi), some (.tup (Rws.ds rs))] ((pre.length + (Rws.wds rs).length : Nat) : Int)).bind fB = _
 unfold xI
 rw [qE (d := .non) (n' := ((pre.length + (Rws.wds rs).length + 1 : Nat) : Int)) (show rCall jZ aOnly rows [some (wD ["times", bE k]), none, some (.int wi), some (.tup (Rws.ds rs))] ((pre.length + (Rws.wds rs).length : Nat) : Int) = _ from he)]
 unfold IN rRet
 rw [lF (d := (Rw.times k rs).d) ?_]
 ·rfl
 ·rw [Rw.d]
  show dM (bK (.ok (.str "times")) (bK (pV [.str (bE k)]).noerr (bK (.ok (.tup (Rws.ds rs))) (.ok [])))) = _
  rw [ZI hk]; rfl
theorem ZL {m : RM} {rows pre rest : List D} {k : Nat} {rs : Rws} {wi : Int} (h : rows = pre ++ ((Rw.wd (.times k rs)).map wD ++ rest)) (hr : m rows ((pre.length : Int) + 1) [wD ["times", bE k], .non, .int wi] = .ok ((Rw.times k rs).d, ((pre.length + (Rw.wd (.times k rs)).length : Nat) : Int))) :
  j1 m rows (pre.length : Int) [.non, .int wi] = .ok ((Rw.times k rs).d, ((pre.length + (Rw.wd (.times k rs)).length : Nat) : Int)) := by
 have hwd : Rw.wd (.times k rs) = (["times", bE k] : List Str) :: (Rws.wds rs ++ [(["end"] : List Str)]) := by rw [Rw.wd]
 have hah : dR rows (pre.length : Int) = wD ["times", bE k] := j7 (rest := (Rws.wds rs ++ [(["end"] : List Str)]).map wD ++ rest) (by rw [h, hwd]; rfl)
 show (j0 m rows [none, some (.int wi), none, none] (pre.length : Int)).bind fB = _
 unfold j0
 rw [j8 (d := wD ["times", bE k]) (n' := (pre.length : Int) + 1) (by unfold rTake; rw [hah])]
 show (mB m rows [none, some (.int wi), some (wD ["times", bE k]), none] ((pre.length : Int) + 1)).bind fB = _
 unfold mB
 rw [LG (x := (Rw.times k rs).d) (k := ((pre.length + (Rw.wd (.times k rs)).length : Nat) : Int)) (fO (b := true) (by rfl)) ?_]
 ·rfl
 ·unfold IR rRet
  rw [show rCall m (aMore (aA 2) (aHere (aB (aA 1) aD))) rows [none, some (.int wi), some (wD ["times", bE k]), none] ((pre.length : Int) + 1) = _ from hr]; rfl
end LmDc
open L2 DL Mir
namespace LmDd
open LmA LmY Lk31 Rdr TxtA LmDa LmDb LmDc
mutual
def b6 : Rw -> Nat -> Prop
 | .cross n a b c e, _ => Nm n /\ Nm a /\ Nm b /\ Nm c /\ Nm e
 | .rule n f as, _ => Nm n /\ Nm f /\ as ≠ [] /\ as.length <= 900 /\ ∀ x ∈ as, Nm x
 | .times k rs, d => k <= 60 /\ 0 < d /\ (∃ r rs', rs = .cons r rs') /\ Rws.len rs <= 1000 /\ RsOk rs (d - 1)
def RsOk : Rws -> Nat -> Prop
 | .nil, _ => True
 | .cons r rs, d => b6 r d /\ RsOk rs d
end
theorem yD {P : Rw -> Prop} {d : Nat} (h : ∀ r, b6 r d -> P r) : ∀ rs, RsOk rs d -> Rws.All P rs
 | .nil, _ => trivial
 | .cons r rs, hr => by
  rw [RsOk] at hr
  exact ⟨h r hr.1, yD h rs hr.2⟩
theorem LM (j : Nat) : mD (j + 1) = tJ (j1 (l9 (mD j))) := rfl
theorem LN {rows : List D} : ∀ (d j : Nat) (wi : Int), wi + (d : Int) = 4 -> d <= j -> (∀ r, b6 r d -> Rd (j1 (l9 (mD j))) rows wi r) /\
  (∀ r rs, RsOk (.cons r rs) d -> Rws.len (.cons r rs) <= 1000 -> ∀ pre rest : List D, rows = pre ++ ((Rws.wds (.cons r rs)).map wD ++ rest) -> t8 rest -> mD (j + 1) rows (pre.length : Int) [.non, .int wi] = .ok (.tup (Rws.ds (.cons r rs)), ((pre.length + (Rws.wds (.cons r rs)).length : Nat) : Int))) := by
 intro d
 induction d with
 | zero =>
  intro j wi hwi hj
  have hrow : ∀ r, b6 r 0 -> Rd (j1 (l9 (mD j))) rows wi r := fun r hr pre rest h => by
   cases r with
   | cross n a b c e =>
    rw [b6] at hr
    have hw : Rw.wd (.cross n a b c e) = [([n, "=", a, b, "x", c, e] : List Str)] := by rw [Rw.wd]
    rw [hw] at h ⊢
    exact LH _ h hr.1 hr.2.1 hr.2.2.1 hr.2.2.2.1 hr.2.2.2.2 wi
   | rule n f as =>
    rw [b6] at hr
    have hw : Rw.wd (.rule n f as) = [([n, "=", f] ++ as : List Str)] := by rw [Rw.wd]
    rw [hw] at h ⊢
    cases as with
    | nil => exact xaq rfl hr.2.2.1
    | cons a as => exact LI _ h hr.1 hr.2.1 hr.2.2.2.2 (by have := hr.2.2.2.1; rw [xaf] at this; omega) wi
   | times k rs =>
    rw [b6] at hr
    exact xaq hr.2.1 (xbs _)
  exact ⟨hrow, fun r rs hr hl pre rest h hs => by rw [LM]; exact LK h hs (yD hrow _ hr) hl⟩
 | succ d ih =>
  intro j wi hwi hj
  obtain ⟨j, rfl⟩ : ∃ i, j = i + 1 := ⟨j - 1, by omega⟩
  have ih2 := (ih j (wi + 1) (by omega) (by omega)).2
  have hrow : ∀ r, b6 r (d + 1) -> Rd (j1 (l9 (mD (j + 1)))) rows wi r := fun r hr pre rest h => by
   cases r with
   | cross n a b c e =>
    rw [b6] at hr
    have hw : Rw.wd (.cross n a b c e) = [([n, "=", a, b, "x", c, e] : List Str)] := by rw [Rw.wd]
    rw [hw] at h ⊢
    exact LH _ h hr.1 hr.2.1 hr.2.2.1 hr.2.2.2.1 hr.2.2.2.2 wi
   | rule n f as =>
    rw [b6] at hr
    have hw : Rw.wd (.rule n f as) = [([n, "=", f] ++ as : List Str)] := by rw [Rw.wd]
    rw [hw] at h ⊢
    cases as with
    | nil => exact xaq rfl hr.2.2.1
    | cons a as => exact LI _ h hr.1 hr.2.1 hr.2.2.2.2 (by have := hr.2.2.2.1; rw [xaf] at this; omega) wi
   | times k rs =>
    rw [b6] at hr
    obtain ⟨h1, _, ⟨r1, rs1, rfl⟩, h3, h4⟩ := hr
    have hwd : Rw.wd (.times k (.cons r1 rs1)) = (["times", bE k] : List Str) :: (Rws.wds (.cons r1 rs1) ++ [(["end"] : List Str)]) := by rw [Rw.wd]
    have hrows : rows = (pre ++ [wD ["times", bE k]]) ++ ((Rws.wds (.cons r1 rs1)).map wD ++ wD ["end"] :: rest) := by
     rw [h, hwd]; simp
    have e1 := ih2 r1 rs1 h4 h3 (pre ++ [wD ["times", bE k]]) (wD ["end"] :: rest) hrows (.inr ⟨rest, rfl⟩)
    have e2 := ZK (wi := wi) h1 (by omega) hrows e1
    rw [xaa] at e2
    refine ZL h ?_
    rw [hwd, xaf, xaa]
    rw [show ((pre.length + [wD ["times", bE k]].length : Nat) : Int) = (pre.length : Int) + 1 from by simp] at e2
    rw [e2]
    congr 3
    show pre.length + 1 + (Rws.wds (.cons r1 rs1)).length + 1 = pre.length + ((Rws.wds (.cons r1 rs1)).length + 1 + 1)
    omega
  exact ⟨hrow, fun r rs hr hl pre rest h hs => by rw [LM]; exact LK h hs (yD hrow _ hr) hl⟩
end LmDd
open L2 DL Mir
namespace LmDe
open LmA LmY Lk31 Rdr TxtA LmDa LmDb LmDc LmDd
theorem LO {ds : List D} {k : Nat} {d : D} (hk : 0 < k) (hl : k <= ds.length) (h : ds[ds.length - k]? = some d) : aE (.lst ds) (.int (-(k : Int))) = .ok d := by
 have e : dJ ds (-(k : Int)) = some d := by
  unfold dJ iM
  rw [xa1 (by omega), xa4 (by omega), show (-(k : Int) + (ds.length : Int)).toNat = ds.length - k by omega]
  exact h
 show (match dJ ds (-(k : Int)) with | some d => R.ok d | none => R.bad) = _
 rw [e]
theorem ZM {α : Type} (a b c d : α) (ps : List α) : cJ (a :: b :: (ps ++ [c, d])) (some 2) (some (-2)) = ps := by
 unfold cJ HT.sIx
 have hl : (a :: b :: (ps ++ [c, d])).length = ps.length + 4 := by simp
 rw [hl]
 simp only
 rw [xa4 (by decide), xa1 (by decide), show ((-2 : Int) + ((ps.length + 4 : Nat) : Int)).toNat = ps.length + 2 by omega, show min (2 : Int).toNat (ps.length + 4) = 2 by show min 2 _ = 2; omega]
 show (ps ++ [c, d]).take (ps.length + 2 - 2) = ps
 rw [Nat.add_sub_cancel, List.take_left]
theorem LP (xs : List Str) (h : xs.Nodup) : ∀ i, i <= xs.length -> e9 xs i = i
 | 0, _ => rfl
 | i + 1, hi => by
  have ih := LP xs h i (by omega)
  unfold e9
  rw [xa1, ih]
  intro hc
  rw [xbf, xas (show i < xs.length by omega)] at hc
  have hc : xs[i] ∈ xs.take i := by simpa using hc
  obtain ⟨j, hj, e⟩ := List.mem_iff_getElem.mp hc
  rw [xa9] at hj
  rw [List.getElem_take] at e
  have := (List.getElem_inj h).mp e
  omega
theorem LQ : ∀ xs : List Str, l6 (xs.map .str) = some xs
 | [] => rfl
 | x :: xs => by
  show (l6 (xs.map .str)).map (x :: ·) = _
  rw [LQ xs]; rfl
theorem LR {xs : List Str} (h : xs.Nodup) (hl : xs.length <= 1000) : gW [.lst (xs.map .str)] = .ok (.bl true) := by
 rw [YD]
 unfold tK
 have e1 : wZ (aA 0) [some (.lst (xs.map .str))] = .ok (.int (xs.length : Int)) := by
  show nS (.lst (xs.map .str)) = _
  unfold nS
  simp only [LQ]
  rw [show Nat.ble xs.length 1000 = true by simpa using hl, LP xs h _ (xak _)]; rfl
 have e2 : aL bB (aB (aA 0) aD) [some (.lst (xs.map .str))] = .ok (.int (xs.length : Int)) := by
  show R.ok (D.int ((xs.map D.str).length : Int)) = _
  rw [xae]
 rw [nL, cS, e1, e2]
 show fin (iC (R.ok (D.bl (decide ((xs.length : Int) = (xs.length : Int)))))) = _
 rw [xai rfl]; rfl
structure Rl where
 nm : Str
 ps : List Str
 out : Str
 r : Rw
 rs : Rws
def Rl.d (l : Rl) : D := .tup [.str l.nm, .tup (l.ps.map .str), .str l.out, .tup (Rws.ds (.cons l.r l.rs))]
abbrev bA (nm : Str) (ps : List Str) (out : Str) : List Str := ("rule" : Str) :: nm :: (ps ++ [(">" : Str), out])
def Rl.hd (l : Rl) : List Str := bA l.nm l.ps l.out
def Rl.wd (l : Rl) : List (List Str) := l.hd :: (Rws.wds (.cons l.r l.rs) ++ [(["end"] : List Str)])
structure gY (l : Rl) : Prop where
 nm : Nm l.nm
 out : Nm l.out
 ps : ∀ x ∈ l.ps, Nm x
 nd : l.ps.Nodup
 p1 : 1 <= l.ps.length
 p8 : l.ps.length <= 8
 ok : RsOk (.cons l.r l.rs) 4
 len : Rws.len (.cons l.r l.rs) <= 1000
theorem ZN {l : Rl} (ok : gY l) {rows pre rest : List D} (h : rows = pre ++ (l.wd.map wD ++ rest)) : i9 rows (pre.length : Int) [.non] = .ok (l.d, ((pre.length + l.wd.length : Nat) : Int)) := by
 obtain ⟨nm, ps, out, r, rs⟩ := l
 obtain ⟨h1, h2, h3, h4, h5, h6, h7, h8⟩ := ok
 simp only at h1 h2 h3 h4 h5 h6 h7 h8
 have hwd : Rl.wd ⟨nm, ps, out, r, rs⟩ = (bA nm ps out) :: (Rws.wds (.cons r rs) ++ [(["end"] : List Str)]) := rfl
 have hah : dR rows (pre.length : Int) = wD (bA nm ps out) := j7 (rest := (Rws.wds (.cons r rs) ++ [(["end"] : List Str)]).map wD ++ rest) (by rw [h, hwd]; rfl)
 have hlen : ((bA nm ps out).map D.str).length = ps.length + 4 := by simp
 show (xR rows [none, none, none, none] (pre.length : Int)).bind fB = _
 unfold xR
 rw [j8 (d := wD (bA nm ps out)) (n' := (pre.length : Int) + 1) (by unfold rTake; rw [hah])]
 show (xQ rows [none, some (wD (bA nm ps out)), none, none] ((pre.length : Int) + 1)).bind fB = _
 unfold xQ
 have e1 : bY (aA 1) (bF (eC (.int 2))) (bF (iQ iU (eC (.int 2)))) [none, some (wD (bA nm ps out)), none, none] = .ok (.lst (ps.map .str)) := by
  show R.ok (D.lst (cJ ((bA nm ps out).map D.str) (some 2) (some (-2)))) = _
  rw [show (bA nm ps out).map D.str = .str "rule" :: .str nm :: (ps.map D.str ++ [.str ">", .str out]) from by simp, ZM]
 rw [j8 (d := .lst (ps.map .str)) (n' := (pre.length : Int) + 1) (lF e1)]
 show (xP rows [none, some (wD (bA nm ps out)), some (.lst (ps.map .str)), none] ((pre.length : Int) + 1)).bind fB = _
 have g1 : aE (wD (bA nm ps out)) (.int (-2)) = .ok (.str ">") := LO (k := 2) (by decide) (by rw [hlen]; omega) (by
  rw [hlen, show ps.length + 4 - 2 = (ps.length + 1 + 1 : Nat) by omega, xbi, xbi, xb9, xb9, xaz, xbe (by simp)]
  simp)
 have g2 : aE (wD (bA nm ps out)) (.int (-1)) = .ok (.str out) := LO (k := 1) (by decide) (by rw [hlen]; omega) (by
  rw [hlen, show ps.length + 4 - 1 = (ps.length + 1 + 1 + 1 : Nat) by omega, xbi, xbi, xb9, xb9, xaz, xbe (by simp)]
  simp)
 have g3 : aE (wD (bA nm ps out)) (.int 1) = .ok (.str nm) := l0 (j := 1) (by rfl)
 have ad : aI (.lst [.str nm, .str out]) (.lst (ps.map D.str)) = .ok (.lst ((nm :: out :: ps).map D.str)) := by
  show (bif aW (2 + (ps.map D.str).length) then R.ok (D.lst (.str nm :: .str out :: ps.map D.str)) else .bad) = _
  rw [show aW (2 + (ps.map D.str).length) = true from xai (by rw [xae]; exact xaj (show _ <= 1000 by omega) (by decide))]; rfl
 have l1 : iG [.lst ((nm :: out :: ps).map .str)] = .ok .non := names_ok (.inl rfl) (by rw [xaf, xaf]; omega) (fun x hx => by
  rcases xag.mp hx with rfl | hx
  ·exact h1
  ·rcases xag.mp hx with rfl | hx
   ·exact h2
   ·exact h3 x hx)
 have t1 : eS (aM (aC gL (aL bB (aB (aA 1) aD)) (eC (.int 5)))) (aM (aC cE (aC aE (aA 1) (iQ iU (eC (.int 2)))) (eC (.str ">")))) [none, some (wD (bA nm ps out)), some (.lst (ps.map .str)), none] = .ok false := by
  have e : aM (aC gL (aL bB (aB (aA 1) aD)) (eC (.int 5))) [none, some (wD (bA nm ps out)), some (.lst (ps.map .str)), none] = .ok false := by
   show R.ok (decide ((((bA nm ps out).map D.str).length : Int) < 5)) = _
   rw [hlen, xau (by omega)]
  rw [nJ, e, nK]
  show eD (bI cE (aE (wD (bA nm ps out)) (.int (-2))) (.ok (.str ">"))) = _
  rw [g1]; rfl
 have t2 : eS (aM (aC eM (aL bB (aB (aA 2) aD)) (eC pX))) (eF (aM (aU gW (aB (aA 2) aD)))) [none, some (wD (bA nm ps out)), some (.lst (ps.map .str)), none] = .ok false := by
  have e : aM (aC eM (aL bB (aB (aA 2) aD)) (eC pX)) [none, some (wD (bA nm ps out)), some (.lst (ps.map .str)), none] = .ok false := by
   show R.ok (decide ((8 : Int) < ((ps.map D.str).length : Int))) = _
   rw [xae, xau (by omega)]
  rw [nJ, e, nK]
  show lX (eD (gW [.lst (ps.map .str)])) = _
  rw [LR h4 (by omega)]; rfl
 have hrows : rows = (pre ++ [wD (bA nm ps out)]) ++ ((Rws.wds (.cons r rs)).map wD ++ wD ["end"] :: rest) := by
  rw [h, hwd]; simp
 have hr := (LN (rows := rows) 4 7 0 (by decide) (by decide)).2 r rs h7 h8 _ _ hrows (.inr ⟨rest, rfl⟩)
 have he := LL (rows := rows) (pre := pre ++ [wD (bA nm ps out)] ++ (Rws.wds (.cons r rs)).map wD) (rest := rest) (by rw [hrows]; simp)
 rw [xaa, xaa, xae] at he
 rw [xaa] at hr
 unfold xP
 rw [fZ (fO t1)]
 unfold IZ
 rw [qE (d := .non) (n' := (pre.length : Int) + 1) (lF (by
  rw [nF, bT, cS, show aY (bD (aB (aC aE (aA 1) (eC (.int 1))) (aB (aC aE (aA 1) (iQ iU (eC (.int 1)))) aD))) [none, some (wD (bA nm ps out)), some (.lst (ps.map .str)), none] = .ok (.lst [.str nm, .str out]) from by
   show pJ (gO (bK (aE (wD (bA nm ps out)) (.int 1)) (bK (aE (wD (bA nm ps out)) (.int (-1))) (.ok [])))) = _
   rw [g3, g2]; rfl, show aA 2 [none, some (wD (bA nm ps out)), some (.lst (ps.map .str)), none] = .ok (.lst (ps.map .str)) from rfl, cF, ad]
  exact l1))]
 unfold IY
 rw [fZ (fO t2)]
 unfold IX
 rw [j8 (d := .tup (Rws.ds (.cons r rs))) (n' := ((pre.length + 1 + (Rws.wds (.cons r rs)).length : Nat) : Int)) (show rCall mE (aHere (aB (eC (.int 0)) aD)) rows [none, some (wD (bA nm ps out)), some (.lst (ps.map .str)), none] ((pre.length : Int) + 1) = _ from hr)]
 show (xO rows [none, some (wD (bA nm ps out)), some (.lst (ps.map .str)), some (.tup (Rws.ds (.cons r rs)))] ((pre.length + 1 + (Rws.wds (.cons r rs)).length : Nat) : Int)).bind fB = _
 unfold xO
 rw [qE (d := .non) (n' := ((pre.length + 1 + (Rws.wds (.cons r rs)).length : Nat) : Int) + 1) (show rCall jZ aOnly rows [none, some (wD (bA nm ps out)), some (.lst (ps.map .str)), some (.tup (Rws.ds (.cons r rs)))] ((pre.length + 1 + (Rws.wds (.cons r rs)).length : Nat) : Int) = _ from he)]
 unfold IW rRet
 rw [lF (d := Rl.d ⟨nm, ps, out, r, rs⟩) (by
  show dM (bK (aE (wD (bA nm ps out)) (.int 1)) (bK (.ok (.tup (ps.map .str))) (bK (aE (wD (bA nm ps out)) (.int (-1))) (bK (.ok (.tup (Rws.ds (.cons r rs)))) (.ok []))))) = _
  rw [g3, g2]; rfl)]
 show R.ok (Rl.d ⟨nm, ps, out, r, rs⟩, ((pre.length + 1 + (Rws.wds (.cons r rs)).length : Nat) : Int) + 1) = _
 rw [hwd, xaf, xaa]
 congr 2
 simp only [xaf, xbh]
 omega
end LmDe
open L2 DL Mir
namespace LmDf
open LmA LmY Lk31 Rdr TxtA LmDa LmDb LmDc LmDd LmDe
abbrev mK : TF := rCmp a8 (rSl rAhead bR (bF (eC (.int 1)))) (aY (bD (aB (eC (.str "rule")) aD)))
theorem LS {rows : List D} {τ : DSt} {n : Int} {x : Str} {ws : List Str} (h : dR rows n = wD (x :: ws)) : mK rows τ n = .ok (decide (x = "rule"), n) := by
 have e : rSl rAhead bR (bF (eC (.int 1))) rows τ n = .ok (.lst [.str x], n) := by
  show (match dR rows n with | .lst xs => R.ok (D.lst (cJ xs none (some 1)), n) | _ => .bad) = _
  rw [h]
  show R.ok (D.lst (cJ (.str x :: ws.map D.str) none (some 1)), n) = _
  congr 3
 unfold mK rCmp
 rw [e]
 show ((a8 (.lst [.str x]) (.lst [.str "rule"])).bind fun z => (eK z).bind fun b => R.ok (b, n)) = _
 have e2 : a8 (.lst [.str x]) (.lst [.str "rule"]) = .ok (.bl (decide (x = "rule"))) := by
  show R.ok (D.bl (a7 (.lst [.str x]) (.lst [.str "rule"]))) = _
  congr 2
  simp only [a7, eqDs, xcp]
  by_cases z : x = "rule"
  ·rw [z, xai rfl]; exact beq_self_eq_true _
  ·rw [xau z]; exact beq_eq_false_iff_ne.mpr z
 rw [e2]; rfl
def aZ (ls : List Rl) : List (List Str) := ls.flatMap Rl.wd
theorem LU {rows : List D} {τ : DSt} {x : Str} {ws : List Str} (hx : x ≠ "rule") : ∀ (ls : List Rl) (pre rest xs : List D) (k : Nat), rows = pre ++ ((aZ ls).map wD ++ wD (x :: ws) :: rest) -> (∀ l ∈ ls, gY l) -> xs.length + ls.length <= 1000 -> ls.length < k ->
  cN mK (rCall i9 aOnly) rows τ k (pre.length : Int) xs = .ok (xs ++ ls.map Rl.d, ((pre.length + (aZ ls).length : Nat) : Int))
 | [], pre, rest, xs, k, h, _, _, hk => by
  obtain ⟨k, rfl⟩ : ∃ j, k = j + 1 := ⟨k - 1, by have : 0 < k := hk; omega⟩
  unfold cN
  rw [LS (j7 (show rows = pre ++ wD (x :: ws) :: rest from h)), xau hx]
  show R.ok (xs, (pre.length : Int)) = _
  rw [xcb, xbm]; rfl
 | l :: ls, pre, rest, xs, k, h, ha, hl, hk => by
  rw [xaf] at hl hk
  obtain ⟨k, rfl⟩ : ∃ j, k = j + 1 := ⟨k - 1, by omega⟩
  have hw : aZ (l :: ls) = l.wd ++ aZ ls := rfl
  have h1 : rows = pre ++ (l.wd.map wD ++ ((aZ ls).map wD ++ wD (x :: ws) :: rest)) := by rw [h, hw, xaz, xa3]
  have hr := ZN (ha l xax) h1
  unfold cN
  rw [LS (x := "rule") (ws := l.nm :: (l.ps ++ [(">" : Str), l.out])) (j7 (rest := (Rws.wds (.cons l.r l.rs) ++ [(["end"] : List Str)]).map wD ++ ((aZ ls).map wD ++ wD (x :: ws) :: rest)) (by rw [h1]; rfl)), xai rfl]
  show ((i9 rows (pre.length : Int) [.non]).bind fun x => bif most xs.length then cN mK (rCall i9 aOnly) rows τ k x.2 (xs ++ [x.1]) else .bad) = _
  rw [hr]
  show (bif most xs.length then cN mK (rCall i9 aOnly) rows τ k ((pre.length + l.wd.length : Nat) : Int) (xs ++ [l.d]) else .bad) = _
  rw [sO (by omega), cond_true]
  have ih := LU (rows := rows) (τ := τ) (ws := ws) hx ls (pre ++ l.wd.map wD) rest (xs ++ [l.d]) k (by rw [h1, xa3]) (fun q hq => ha q (xah _ hq)) (by rw [xaa]; show xs.length + 1 + _ <= _; omega) (by omega)
  rw [xaa, xae] at ih
  rw [ih, hw, xaa, xa3, Nat.add_assoc, xbi]
  rfl
theorem ZO : ∀ {r : Rw}, b6 r 4 -> ∃ x ws t, Rw.wd r = (x :: ws) :: t /\ x ≠ "rule"
 | .cross n a b c d, h => by
  rw [b6] at h
  exact ⟨n, ["=", a, b, "x", c, d], [], by rw [Rw.wd], qD h.1 (by decide +kernel)⟩
 | .rule n f as, h => by
  rw [b6] at h
  exact ⟨n, "=" :: f :: as, [], by rw [Rw.wd]; rfl, qD h.1 (by decide +kernel)⟩
 | .times k rs, h => ⟨"times", [bE k], _, by rw [Rw.wd], by decide⟩
theorem ZP {T : D} {ls : List Rl} {r : Rw} {rs : Rws} (hT : jY [T] = .ok (.lst ((aZ ls ++ Rws.wds (.cons r rs)).map wD))) (ha : ∀ l ∈ ls, gY l) (hn : (ls.map Rl.nm).Nodup) (hl : ls.length <= 20) (hr : RsOk (.cons r rs) 4) (hrl : Rws.len (.cons r rs) <= 1000) :
  iH [T] = .ok (.tup [.tup (ls.map Rl.d), .tup (Rws.ds (.cons r rs))]) := by
 have hr1 : b6 r 4 := by rw [RsOk] at hr; exact hr.1
 obtain ⟨x, ws, t, ew, hx⟩ := ZO hr1
 have hwr : Rws.wds (.cons r rs) = (x :: ws) :: (t ++ Rws.wds rs) := by rw [Rws.wds, ew]; rfl
 rw [YK]
 unfold tM sReader
 rw [show aU jY (aB (aA 0) aD) [some T, none, none, none] = _ from hT]
 show fin ((xU ((aZ ls ++ Rws.wds (.cons r rs)).map wD) [some T, none, none, none] 0).bind xE) = _
 generalize hR : (aZ ls ++ Rws.wds (.cons r rs)).map wD = rows
 have h0 : rows = [] ++ ((aZ ls).map wD ++ wD (x :: ws) :: (t ++ Rws.wds rs).map wD) := by rw [<- hR, xaz, hwr]; rfl
 have hc := LU (rows := rows) (τ := [some T, none, none, none]) hx ls [] _ [] (ls.length + 1) h0 ha (by simp; omega) (xb5 _)
 rw [xb2, xbh, xci] at hc
 have h2 : rows = (aZ ls).map wD ++ ((Rws.wds (.cons r rs)).map wD ++ []) := by rw [<- hR, xaz, xbm]
 have hq := (LN (rows := rows) 4 7 0 (by decide) (by decide)).2 r rs hr hrl _ _ h2 (.inl rfl)
 rw [xae] at hq
 have e1 : xU rows [some T, none, none, none] 0 = xT rows [some T, none, some (.lst (ls.map Rl.d)), none] (((aZ ls).length : Nat) : Int) := by
  show (l7 mK (rCall i9 aOnly) rows [some T, none, none, none] 0).bind _ = _
  rw [xD (show cN mK (rCall i9 aOnly) rows [some T, none, none, none] (ls.length + 1) 0 [] = _ from hc) (by simp)]; rfl
 have t1 : aM (aC eM (aL bB (aB (aA 2) aD)) (eC tL)) [some T, none, some (.lst (ls.map Rl.d)), none] = .ok false := by
  show R.ok (decide ((20 : Int) < ((ls.map Rl.d).length : Int))) = _
  rw [xae, xau (by omega)]
 have e2 : dY 1 [0] (c5 (aA 2)) bV dB (aC aE (aA 0) (eC (.int 0))) [some T, none, some (.lst (ls.map Rl.d)), none] = .ok ((ls.map Rl.nm).map .str) := by
  rw [nO, show c5 (aA 2) [some T, none, some (.lst (ls.map Rl.d)), none] = .ok (ls.map Rl.d) from rfl, pQ (g := fun d => match d with | .tup (a :: _) => a | d => d) (by rw [xae]; omega) (fun d hd => ?_), xbp, xbp]
  ·rfl
  ·obtain ⟨l, _, rfl⟩ := xa7.mp hd
   rfl
 have t2 : eF (aM (aU gW (aB (aY (dY 1 [0] (c5 (aA 2)) bV dB (aC aE (aA 0) (eC (.int 0))))) aD))) [some T, none, some (.lst (ls.map Rl.d)), none] = .ok false := by
  rw [sJ, iX, nF, bT, iW, e2]
  show lX (eD (gW [.lst ((ls.map Rl.nm).map .str)])) = _
  rw [LR hn (by rw [xae]; omega)]; rfl
 have t3 : rCmp cE rAhead (aY (bD aD)) rows [some T, none, some (.lst (ls.map Rl.d)), some (.tup (Rws.ds (.cons r rs)))] (((aZ ls).length + (Rws.wds (.cons r rs)).length : Nat) : Int) = .ok (false, (((aZ ls).length + (Rws.wds (.cons r rs)).length : Nat) : Int)) := by
  have : dR rows (((aZ ls).length + (Rws.wds (.cons r rs)).length : Nat) : Int) = .lst [] := by
   unfold dR
   rw [xbl, xbf, xb3 (by rw [<- hR, xae, xaa]; omega)]; rfl
  show ((cE (dR rows (((aZ ls).length + (Rws.wds (.cons r rs)).length : Nat) : Int)) (.lst [])).bind fun z => (eK z).bind fun b => R.ok (b, _)) = _
  rw [this]; rfl
 rw [e1]
 unfold xT
 rw [fZ (fO t1)]
 unfold JA
 rw [fZ (fO t2)]
 unfold I0
 rw [j8 (d := .tup (Rws.ds (.cons r rs))) (n' := (((aZ ls).length + (Rws.wds (.cons r rs)).length : Nat) : Int)) (show rCall mE (aHere (aB (eC (.int 0)) aD)) rows [some T, none, some (.lst (ls.map Rl.d)), none] (((aZ ls).length : Nat) : Int) = _ from hq)]
 show fin ((xS rows [some T, none, some (.lst (ls.map Rl.d)), some (.tup (Rws.ds (.cons r rs)))] (((aZ ls).length + (Rws.wds (.cons r rs)).length : Nat) : Int)).bind xE) = _
 unfold xS
 rw [fZ t3]
 rfl
end LmDf
open L2 DL Mir
open L2 DL Mir
open L2 DL Mir
namespace LmWf
open LmA LmY LmWa TxtA
theorem jD (ns : List Int) (hb : ∀ n ∈ ns, 0 <= n /\ n < 1000000) (j : Nat) (h : j < ns.length) : ∃ d : Int, aE (.lst (ns.map .int)) (.int (j : Int)) = .ok (.int d) /\ 0 <= d /\ d < 1000000 :=
 ⟨ns[j], l0 (by rw [xba, xas h]; rfl), (hb _ (xby h)).1, (hb _ (xby h)).2⟩
end LmWf
open L2 DL Mir
namespace LmWg
open LmA LmY LmWa LmWf TxtA
def iI : Str := "abcdefghijklmnopqrstuvwxyz"
theorem yE (r : Int) (h0 : 0 <= r) (h1 : r < 26) : iZ (.str iI) (.int r) = .ok (.str (aF [97 + r.toNat])) := by
 obtain ⟨j, rfl⟩ : ∃ j : Nat, r = (j : Int) := ⟨r.toNat, by omega⟩
 have hj : j < 26 := by omega
 have hc : iI.cps = ((List.range 26).map (97 + ·)).toArray := by rfl
 show (bif decide (0 <= (j : Int)) && Nat.blt (j : Int).natAbs 1073741824 then (match iI.cps[(j : Int).toNat]? with
  | some c => R.ok (D.str (fU c))
  | none => .bad) else .bad) = _
 rw [xai h0, show Nat.blt (j : Int).natAbs 1073741824 = true from by rw [Nat.blt_eq]; omega, hc, xbl]
 rw [List.getElem?_toArray, xba, xbw hj]
 rfl
theorem ZQ (a b : List Nat) : (aF a : Str) ++ aF b = aF (a ++ b) := by
 show (⟨(aF a).cps ++ (aF b).cps⟩ : Str) = _
 unfold aF
 simp
theorem add_ok {a b : List Nat} (h : a.length + b.length <= 1000000) : aI (.str (aF a)) (.str (aF b)) = .ok (.str (aF (a ++ b))) := by
 show (bif aW ((aF a).length + (aF b).length) then R.ok (D.str (aF a ++ aF b)) else .bad) = _
 rw [show aW ((aF a).length + (aF b).length) = true from xai (by show a.toArray.size + b.toArray.size <= _; rw [xal, xal]; exact xaj h (by decide)), ZQ]; rfl
theorem ofL_inj {a b : List Nat} (h : aF a = aF b) : a = b := by
 have := congrArg (fun z : Str => z.cps.toList) h
 simpa [aF] using this
end LmWg
open L2 DL Mir
namespace LmDg
open LmA LmY Lk31 Rdr TxtA LmDa LmDb LmDc LmDd LmDe LmDf
def cl (x : Str) : List Nat := x.cps.toList
theorem qF (x : Str) : aF (cl x) = x := by unfold aF cl; simp
theorem oH (l : List Nat) : cl (aF l) = l := by unfold aF cl; simp
theorem t9 (x : Str) : (cl x).length = x.length := by unfold cl; simp [Str.length]
def dG (ws : List Str) : List Nat := TxtA.flat [32] (ws.map cl)
abbrev rT (ws : List Str) : D := .str (aF (dG ws))
theorem oI {ws : List Str} (h : ∀ x ∈ ws, x.length <= 1000) (hl : ws.length <= 1000) : c7 (.str " ") (.lst (ws.map .str)) = .ok (rT ws) := by
 have := LmY.join_ok (y := [32]) (rows := ws.map cl) (B := 1000) (fun r hr => by
  obtain ⟨x, hx, rfl⟩ := xa7.mp hr
  rw [t9]; exact h x hx) (by rw [xae]; show _ + _ * 1 <= _; omega)
 rw [xbp, xbp] at this
 rw [show (ws.map ((D.str ∘ aF) ∘ cl)) = ws.map D.str from xcv fun x _ => by show D.str (aF (cl x)) = _; rw [qF]] at this
 exact this
theorem LV {k : Nat} (hk : k <= 60) : aI (.str "times ") (.str (bE k)) = .ok (rT ["times", bE k]) := by
 have lo := u9 (by decide) (show k < 10 ^ 10 by omega)
 have := LmWg.add_ok (a := [116, 105, 109, 101, 115, 32]) (b := cZ k) (by show 6 + (cZ k).length <= _; omega)
 rw [show (D.str "times ") = .str (aF [116, 105, 109, 101, 115, 32]) from rfl]
 show aI _ (.str (aF (cZ k))) = _
 rw [this]
 unfold rT dG
 rw [xbi, xbi, xcb, show cl (bE k) = cZ k from oH _]
 congr 3
def aJ (wss : List (List Str)) : List D := wss.map rT
theorem oJ {U : DSt} {A : Option D} {xs : List D} {z : Option D} {fe : DSt -> R D} {d : D} (he : fe [A, none, z] = .ok d) (hl : xs.length <= 1000000) : dU [1] 1 fe [A, some (.lst xs), z] = .ok (.nx [A, some (.lst (xs ++ [d])), z]) := by
 rw [lY, show dS [A, some (.lst xs), z] 1 = .ok xs from rfl, show mask [1] [A, some (.lst xs), z] = [A, none, z] from rfl, he, lZ _ _ _ _ hl]; rfl
theorem ZR {m : List D -> R D} {A : Option D} {d : Nat} (hm : 0 < d -> ∀ rs, RsOk rs (d - 1) -> (Rws.wds rs).length <= 1000 -> m [.tup (Rws.ds rs)] = .ok (.lst (aJ (Rws.wds rs)))) {r : Rw} (hr : b6 r d) {xs : List D} (hl : xs.length + (Rw.wd r).length <= 1000) :
  k8 m [A, some (.lst xs), some (Rw.d r)] = .ok (.nx [A, some (.lst (xs ++ aJ (Rw.wd r))), some (Rw.d r)]) := by
 cases r with
 | cross n a b c e =>
  rw [b6] at hr
  have hw : Rw.wd (.cross n a b c e) = [([n, "=", a, b, "x", c, e] : List Str)] := by rw [Rw.wd]
  have hd : Rw.d (.cross n a b c e) = .tup [.str "cross", .str n, .str a, .str b, .str c, .str e] := by rw [Rw.d]
  rw [hw, hd]
  have ej : fW (eC (.str " ")) (aY (bD (aB (aC aE (aA 2) (eC (.int 1))) (aB (eC (.str "=")) (aB (aC aE (aA 2) (eC (.int 2))) (aB (aC aE (aA 2) (eC (.int 3))) (aB (eC (.str "x")) (aB (aC aE (aA 2) (eC (.int 4))) (aB (aC aE (aA 2) (eC (.int 5))) aD))))))))) [A, none, some (.tup [.str "cross", .str n, .str a, .str b, .str c, .str e])] = .ok (rT [n, "=", a, b, "x", c, e]) := by
   show c7 (.str " ") (.lst (([n, "=", a, b, "x", c, e] : List Str).map .str)) = _
   refine oI (fun x hx => ?_) (by show 7 <= 1000; decide)
   simp only [xag, xa5, or_false] at hx
   rcases hx with rfl | rfl | rfl | rfl | rfl | rfl | rfl
   ·exact hr.1.2
   ·decide
   ·exact hr.2.1.2
   ·exact hr.2.2.1.2
   ·decide
   ·exact hr.2.2.2.1.2
   ·exact hr.2.2.2.2.2
  unfold k8
  rw [dN, show aM (aC a8 (aC aE (aA 2) (eC (.int 0))) (eC (.str "times"))) [A, some (.lst xs), some (.tup [.str "cross", .str n, .str a, .str b, .str c, .str e])] = .ok false from rfl, fL, dN, show aM (aC a8 (aC aE (aA 2) (eC (.int 0))) (eC (.str "cross"))) [A, some (.lst xs), some (.tup [.str "cross", .str n, .str a, .str b, .str c, .str e])] = .ok true from rfl, iY, oJ (U := []) ej (by omega)]
  rfl
 | rule n f as =>
  rw [b6] at hr
  have hw : Rw.wd (.rule n f as) = [([n, "=", f] ++ as : List Str)] := by rw [Rw.wd]
  have hd : Rw.d (.rule n f as) = .tup [.str "rule", .str n, .str f, .tup (as.map .str)] := by rw [Rw.d]
  rw [hw, hd]
  have hadd : aI (.lst [.str n, .str "=", .str f]) (.lst (as.map D.str)) = .ok (.lst (([n, "=", f] ++ as : List Str).map D.str)) := by
   show (bif aW (3 + (as.map D.str).length) then R.ok (D.lst ([.str n, .str "=", .str f] ++ as.map D.str)) else .bad) = _
   rw [show aW (3 + (as.map D.str).length) = true from xai (by rw [xae]; have := hr.2.2.2.1; exact xaj (show _ <= 1000 by omega) (by decide)), xaz]; rfl
  have ej : fW (eC (.str " ")) (aC aI (aY (bD (aB (aC aE (aA 2) (eC (.int 1))) (aB (eC (.str "=")) (aB (aC aE (aA 2) (eC (.int 2))) aD))))) (aY (jQ kQ (aB (aC aE (aA 2) (eC (.int 3))) aD)))) [A, none, some (.tup [.str "rule", .str n, .str f, .tup (as.map .str)])] = .ok (rT ([n, "=", f] ++ as)) := by
   show ((aI (.lst [.str n, .str "=", .str f]) (.lst (as.map D.str))).bind fun d => c7 (.str " ") d) = _
   rw [hadd]
   show c7 (.str " ") (.lst (([n, "=", f] ++ as : List Str).map .str)) = _
   refine oI (fun x hx => ?_) (by rw [xaa]; have := hr.2.2.2.1; show 3 + _ <= _; omega)
   rcases xay.mp hx with hx | hx
   ·simp only [xag, xa5, or_false] at hx
    rcases hx with rfl | rfl | rfl
    ·exact hr.1.2
    ·decide
    ·exact hr.2.1.2
   ·exact (hr.2.2.2.2 x hx).2
  unfold k8
  rw [dN, show aM (aC a8 (aC aE (aA 2) (eC (.int 0))) (eC (.str "times"))) [A, some (.lst xs), some (.tup [.str "rule", .str n, .str f, .tup (as.map .str)])] = .ok false from rfl, fL, dN, show aM (aC a8 (aC aE (aA 2) (eC (.int 0))) (eC (.str "cross"))) [A, some (.lst xs), some (.tup [.str "rule", .str n, .str f, .tup (as.map .str)])] = .ok false from rfl, fL, oJ (U := []) ej (by omega)]
  rfl
 | times k rs =>
  rw [b6] at hr
  obtain ⟨h1, h0, _, _, h5⟩ := hr
  have hw : Rw.wd (.times k rs) = (["times", bE k] : List Str) :: (Rws.wds rs ++ [(["end"] : List Str)]) := by rw [Rw.wd]
  have hd : Rw.d (.times k rs) = .tup [.str "times", .int (k : Int), .tup (Rws.ds rs)] := by rw [Rw.d]
  rw [hw, xaf, xaa] at hl
  rw [hw, hd]
  have hm := hm h0 rs h5 (by omega)
  have e1 : aC aI (eC (.str "times ")) (aL eZ (aB (aC aE (aA 2) (eC (.int 1))) aD)) [A, none, some (.tup [.str "times", .int (k : Int), .tup (Rws.ds rs)])] = .ok (rT ["times", bE k]) := by
   show bI aI (.ok (.str "times ")) (eZ [.int (k : Int)]).noerr = _
   rw [x8 (xbz h1 (by decide))]
   exact LV h1
  unfold k8
  rw [dN, show aM (aC a8 (aC aE (aA 2) (eC (.int 0))) (eC (.str "times"))) [A, some (.lst xs), some (.tup [.str "times", .int (k : Int), .tup (Rws.ds rs)])] = .ok true from rfl, iY]
  unfold JD
  rw [bS, oJ (U := []) e1 (by omega), bO]
  unfold JC
  have e2 : pR [1] 1 (aU m (aB (aC aE (aA 2) (eC (.int 2))) aD)) [A, some (.lst (xs ++ [rT ["times", bE k]])), some (.tup [.str "times", .int (k : Int), .tup (Rws.ds rs)])] = .ok (.nx [A, some (.lst (xs ++ [rT ["times", bE k]] ++ aJ (Rws.wds rs))), some (.tup [.str "times", .int (k : Int), .tup (Rws.ds rs)])]) := by
   show ((m [.tup (Rws.ds rs)]).bind fun d => l5 (xs ++ [rT ["times", bE k]]) 1 [A, some (.lst (xs ++ [rT ["times", bE k]])), some (.tup [.str "times", .int (k : Int), .tup (Rws.ds rs)])] d) = _
   rw [hm]
   show (bif aW ((xs ++ [rT ["times", bE k]]).length + (aJ (Rws.wds rs)).length) then R.ok (aG.nx [A, some (.lst (xs ++ [rT ["times", bE k]] ++ aJ (Rws.wds rs))), some (.tup [.str "times", .int (k : Int), .tup (Rws.ds rs)])]) else .bad) = _
   rw [show aW ((xs ++ [rT ["times", bE k]]).length + (aJ (Rws.wds rs)).length) = true from xai (by unfold aJ; rw [xaa, xae]; exact xaj (show xs.length + 1 + _ <= 1000 by omega) (by decide))]; rfl
  rw [bS, e2, bO]
  unfold JB
  rw [oJ (U := []) (d := .str "end") (by rfl) (by unfold aJ; rw [xaa, xaa, xae]; show xs.length + 1 + _ <= _; omega)]
  unfold aJ
  rw [xbi, xaz, xbi, xcb, show rT ["end"] = .str "end" from rfl]
  simp
theorem LW {m : List D -> R D} {A : Option D} {d : Nat} (hm : 0 < d -> ∀ rs, RsOk rs (d - 1) -> (Rws.wds rs).length <= 1000 -> m [.tup (Rws.ds rs)] = .ok (.lst (aJ (Rws.wds rs)))) : ∀ (rs : Rws) (xs : List D) (z : Option D), RsOk rs d -> xs.length + (Rws.wds rs).length <= 1000 ->
  ∃ z', cQ [2] bV (k8 m) (Rws.ds rs) [A, some (.lst xs), z] = .ok (.nx [A, some (.lst (xs ++ aJ (Rws.wds rs))), z'])
 | .nil, xs, z, _, _ => ⟨z, by rw [Rws.ds, Rws.wds, sN]; unfold aJ; rw [xcb, xbm]⟩
 | .cons r rs, xs, z, hr, hl => by
  rw [RsOk] at hr
  have hw : Rws.wds (.cons r rs) = Rw.wd r ++ Rws.wds rs := by rw [Rws.wds]
  rw [hw, xaa] at hl
  obtain ⟨z', e⟩ := LW (A := A) hm rs (xs ++ aJ (Rw.wd r)) (some (Rw.d r)) hr.2 (by unfold aJ; rw [xaa, xae]; omega)
  refine ⟨z', ?_⟩
  rw [show Rws.ds (.cons r rs) = Rw.d r :: Rws.ds rs by rw [Rws.ds], pO]
  show gP (k8 m [A, some (.lst xs), some (Rw.d r)]) _ = _
  rw [ZR hm hr.1 (by omega), nM, e, hw]
  unfold aJ
  rw [xaz, xa3]
theorem yF : ∀ (n d : Nat) (rs : Rws), d < n -> RsOk rs d -> (Rws.wds rs).length <= 1000 -> k9 n [.tup (Rws.ds rs)] = .ok (.lst (aJ (Rws.wds rs)))
 | 0, _, _, h, _, _ => xaq h (Nat.not_lt_zero _)
 | n + 1, d, rs, h, hr, hl => by
  rw [YL]
  unfold n5 JF JE
  have hm : 0 < d -> ∀ rs, RsOk rs (d - 1) -> (Rws.wds rs).length <= 1000 -> k9 n [.tup (Rws.ds rs)] = .ok (.lst (aJ (Rws.wds rs))) := fun h0 rs hr hl => yF n (d - 1) rs (by omega) hr hl
  obtain ⟨z', e⟩ := LW (A := some (.tup (Rws.ds rs))) hm rs [] none hr (by simpa using hl)
  rw [xb2] at e
  show fin (iB (cQ [2] bV (k8 (k9 n)) (Rws.ds rs) [some (.tup (Rws.ds rs)), some (.lst []), none]) _) = _
  rw [e]; rfl
end LmDg
open L2 DL Mir
namespace LmDh
open LmA LmY Lk31 Rdr TxtA LmDa LmDb LmDc LmDd LmDe LmDf LmDg
theorem LX : ∀ us : List (List Str), imms (aJ us) = true
 | [] => rfl
 | u :: us => by
  show (imm (rT u) && imms (aJ us)) = true
  rw [LX us]; rfl
theorem ZS {m : List D -> R D} {A : Option D} {d : Nat} (hm : 0 < d -> ∀ rs, RsOk rs (d - 1) -> (Rws.wds rs).length <= 1000 -> m [.tup (Rws.ds rs)] = .ok (.lst (aJ (Rws.wds rs)))) {r : Rw} (hr : b6 r d) {ys : List (List Str)} (hl : ys.length + (Rw.wd r).length <= 1000) :
  lB m [A, some (.lst (aJ ys)), some (Rw.d r)] = .ok (.nx [A, some (.lst (aJ (ys ++ Rw.wd r))), some (Rw.d r)]) := by
 cases r with
 | cross n a b c e =>
  rw [b6] at hr
  have hw : Rw.wd (.cross n a b c e) = [([n, "=", a, b, "x", c, e] : List Str)] := by rw [Rw.wd]
  have hd : Rw.d (.cross n a b c e) = .tup [.str "cross", .str n, .str a, .str b, .str c, .str e] := by rw [Rw.d]
  rw [hw, hd]
  have ej : fW (eC (.str " ")) (aY (bD (aB (aC aE (aA 2) (eC (.int 1))) (aB (eC (.str "=")) (aB (aC aE (aA 2) (eC (.int 2))) (aB (aC aE (aA 2) (eC (.int 3))) (aB (eC (.str "x")) (aB (aC aE (aA 2) (eC (.int 4))) (aB (aC aE (aA 2) (eC (.int 5))) aD))))))))) [A, none, some (.tup [.str "cross", .str n, .str a, .str b, .str c, .str e])] = .ok (rT [n, "=", a, b, "x", c, e]) := by
   show c7 (.str " ") (.lst (([n, "=", a, b, "x", c, e] : List Str).map .str)) = _
   refine oI (fun x hx => ?_) (by show 7 <= 1000; decide)
   simp only [xag, xa5, or_false] at hx
   rcases hx with rfl | rfl | rfl | rfl | rfl | rfl | rfl
   ·exact hr.1.2
   ·decide
   ·exact hr.2.1.2
   ·exact hr.2.2.1.2
   ·decide
   ·exact hr.2.2.2.1.2
   ·exact hr.2.2.2.2.2
  unfold lB
  rw [dN, show aM (aC a8 (aC aE (aA 2) (eC (.int 0))) (eC (.str "times"))) [A, some (.lst (aJ ys)), some (.tup [.str "cross", .str n, .str a, .str b, .str c, .str e])] = .ok false from rfl, fL, dN, show aM (aC a8 (aC aE (aA 2) (eC (.int 0))) (eC (.str "cross"))) [A, some (.lst (aJ ys)), some (.tup [.str "cross", .str n, .str a, .str b, .str c, .str e])] = .ok true from rfl, iY, oJ (U := []) ej (by unfold aJ; rw [xae]; omega)]
  unfold aJ
  rw [xaz]; rfl
 | rule n f as =>
  rw [b6] at hr
  have hw : Rw.wd (.rule n f as) = [([n, "=", f] ++ as : List Str)] := by rw [Rw.wd]
  have hd : Rw.d (.rule n f as) = .tup [.str "rule", .str n, .str f, .tup (as.map .str)] := by rw [Rw.d]
  rw [hw, hd]
  have hadd : aI (.lst [.str n, .str "=", .str f]) (.lst (as.map D.str)) = .ok (.lst (([n, "=", f] ++ as : List Str).map D.str)) := by
   show (bif aW (3 + (as.map D.str).length) then R.ok (D.lst ([.str n, .str "=", .str f] ++ as.map D.str)) else .bad) = _
   rw [show aW (3 + (as.map D.str).length) = true from xai (by rw [xae]; have := hr.2.2.2.1; exact xaj (show _ <= 1000 by omega) (by decide)), xaz]; rfl
  have ej : fW (eC (.str " ")) (aC aI (aY (bD (aB (aC aE (aA 2) (eC (.int 1))) (aB (eC (.str "=")) (aB (aC aE (aA 2) (eC (.int 2))) aD))))) (aY (jQ kQ (aB (aC aE (aA 2) (eC (.int 3))) aD)))) [A, none, some (.tup [.str "rule", .str n, .str f, .tup (as.map .str)])] = .ok (rT ([n, "=", f] ++ as)) := by
   show ((aI (.lst [.str n, .str "=", .str f]) (.lst (as.map D.str))).bind fun d => c7 (.str " ") d) = _
   rw [hadd]
   show c7 (.str " ") (.lst (([n, "=", f] ++ as : List Str).map .str)) = _
   refine oI (fun x hx => ?_) (by rw [xaa]; have := hr.2.2.2.1; show 3 + _ <= _; omega)
   rcases xay.mp hx with hx | hx
   ·simp only [xag, xa5, or_false] at hx
    rcases hx with rfl | rfl | rfl
    ·exact hr.1.2
    ·decide
    ·exact hr.2.1.2
   ·exact (hr.2.2.2.2 x hx).2
  unfold lB
  rw [dN, show aM (aC a8 (aC aE (aA 2) (eC (.int 0))) (eC (.str "times"))) [A, some (.lst (aJ ys)), some (.tup [.str "rule", .str n, .str f, .tup (as.map .str)])] = .ok false from rfl, fL, dN, show aM (aC a8 (aC aE (aA 2) (eC (.int 0))) (eC (.str "cross"))) [A, some (.lst (aJ ys)), some (.tup [.str "rule", .str n, .str f, .tup (as.map .str)])] = .ok false from rfl, fL, oJ (U := []) ej (by unfold aJ; rw [xae]; omega)]
  unfold aJ
  rw [xaz]; rfl
 | times k rs =>
  rw [b6] at hr
  obtain ⟨h1, h0, _, _, h5⟩ := hr
  have hw : Rw.wd (.times k rs) = (["times", bE k] : List Str) :: (Rws.wds rs ++ [(["end"] : List Str)]) := by rw [Rw.wd]
  have hd : Rw.d (.times k rs) = .tup [.str "times", .int (k : Int), .tup (Rws.ds rs)] := by rw [Rw.d]
  rw [hw, xaf, xaa] at hl
  rw [hw, hd]
  have hm := hm h0 rs h5 (by omega)
  have e1 : aC aI (eC (.str "times ")) (aL eZ (aB (aC aE (aA 2) (eC (.int 1))) aD)) [A, some (.lst (aJ ys)), some (.tup [.str "times", .int (k : Int), .tup (Rws.ds rs)])] = .ok (rT ["times", bE k]) := by
   show bI aI (.ok (.str "times ")) (eZ [.int (k : Int)]).noerr = _
   rw [x8 (xbz h1 (by decide))]
   exact LV h1
  have ad : ∀ (us vs : List (List Str)), us.length + vs.length <= 10000 -> aI (.lst (aJ us)) (.lst (aJ vs)) = .ok (.lst (aJ (us ++ vs))) := fun us vs hq => by
   show (bif aW ((aJ us).length + (aJ vs).length) then R.ok (D.lst (aJ us ++ aJ vs)) else .bad) = _
   unfold aJ
   rw [xae, xae, show aW (us.length + vs.length) = true from xai (xaj hq (by decide)), xaz]; rfl
  have e2 : nP (aC aI (aC aI (aA 1) (aY (bD (aB (aC aI (eC (.str "times ")) (aL eZ (aB (aC aE (aA 2) (eC (.int 1))) aD))) aD)))) (aU m (aB (aC aE (aA 2) (eC (.int 2))) aD))) (aY (bD (aB (eC (.str "end")) aD))) [A, some (.lst (aJ ys)), some (.tup [.str "times", .int (k : Int), .tup (Rws.ds rs)])] = .ok (aJ (ys ++ ((["times", bE k] : List Str) :: (Rws.wds rs ++ [(["end"] : List Str)])))) := by
   have f1 : aC aI (aC aI (aA 1) (aY (bD (aB (aC aI (eC (.str "times ")) (aL eZ (aB (aC aE (aA 2) (eC (.int 1))) aD))) aD)))) (aU m (aB (aC aE (aA 2) (eC (.int 2))) aD)) [A, some (.lst (aJ ys)), some (.tup [.str "times", .int (k : Int), .tup (Rws.ds rs)])] = .ok (.lst (aJ (ys ++ [(["times", bE k] : List Str)] ++ Rws.wds rs))) := by
    rw [cS, cS, iW, nH, bT, e1]
    show bI aI (aI (.lst (aJ ys)) (.lst (aJ [(["times", bE k] : List Str)]))) (m [.tup (Rws.ds rs)]) = _
    rw [ad ys _ (by show _ + 1 <= _; omega), hm, cF, ad _ _ (by rw [xaa]; show _ + 1 + _ <= _; omega)]
   unfold nP
   rw [f1]
   show pS (.lst (aJ (ys ++ [(["times", bE k] : List Str)] ++ Rws.wds rs))) (.lst (aJ [(["end"] : List Str)])) = _
   show (bif aW ((aJ (ys ++ [(["times", bE k] : List Str)] ++ Rws.wds rs)).length + 1) then R.ok (aJ (ys ++ [(["times", bE k] : List Str)] ++ Rws.wds rs) ++ aJ [(["end"] : List Str)]) else .bad) = _
   rw [show aW ((aJ (ys ++ [(["times", bE k] : List Str)] ++ Rws.wds rs)).length + 1) = true from xai (by unfold aJ; rw [xae, xaa, xaa]; exact xaj (show ys.length + 1 + _ + 1 <= 2000 by omega) (by decide))]
   show R.ok (aJ (ys ++ [(["times", bE k] : List Str)] ++ Rws.wds rs) ++ aJ [(["end"] : List Str)]) = _
   unfold aJ
   simp
  unfold lB
  rw [dN, show aM (aC a8 (aC aE (aA 2) (eC (.int 0))) (eC (.str "times"))) [A, some (.lst (aJ ys)), some (.tup [.str "times", .int (k : Int), .tup (Rws.ds rs)])] = .ok true from rfl, iY]
  unfold rO
  rw [e2]
  show (bif imms (aJ (ys ++ ((["times", bE k] : List Str) :: (Rws.wds rs ++ [(["end"] : List Str)])))) then R.ok (aG.nx [A, some (.lst (aJ (ys ++ ((["times", bE k] : List Str) :: (Rws.wds rs ++ [(["end"] : List Str)]))))), some (.tup [.str "times", .int (k : Int), .tup (Rws.ds rs)])]) else .bad) = _
  rw [LX]; rfl
theorem LY {m : List D -> R D} {A : Option D} {d : Nat} (hm : 0 < d -> ∀ rs, RsOk rs (d - 1) -> (Rws.wds rs).length <= 1000 -> m [.tup (Rws.ds rs)] = .ok (.lst (aJ (Rws.wds rs)))) : ∀ (rs : Rws) (ys : List (List Str)) (z : Option D), RsOk rs d -> ys.length + (Rws.wds rs).length <= 1000 ->
  ∃ z', cQ [2] bV (lB m) (Rws.ds rs) [A, some (.lst (aJ ys)), z] = .ok (.nx [A, some (.lst (aJ (ys ++ Rws.wds rs))), z'])
 | .nil, ys, z, _, _ => ⟨z, by rw [Rws.ds, Rws.wds, sN, xbm]⟩
 | .cons r rs, ys, z, hr, hl => by
  rw [RsOk] at hr
  have hw : Rws.wds (.cons r rs) = Rw.wd r ++ Rws.wds rs := by rw [Rws.wds]
  rw [hw, xaa] at hl
  obtain ⟨z', e⟩ := LY (A := A) hm rs (ys ++ Rw.wd r) (some (Rw.d r)) hr.2 (by rw [xaa]; omega)
  refine ⟨z', ?_⟩
  rw [show Rws.ds (.cons r rs) = Rw.d r :: Rws.ds rs by rw [Rws.ds], pO]
  show gP (lB m [A, some (.lst (aJ ys)), some (Rw.d r)]) _ = _
  rw [ZS hm hr.1 (by omega), nM, e, hw, xa3]
theorem yG : ∀ (n d : Nat) (rs : Rws), d < n -> RsOk rs d -> (Rws.wds rs).length <= 1000 -> lC n [.tup (Rws.ds rs)] = .ok (.lst (aJ (Rws.wds rs)))
 | 0, _, _, h, _, _ => xaq h (Nat.not_lt_zero _)
 | n + 1, d, rs, h, hr, hl => by
  rw [YY]
  unfold oB KR KQ
  have hm : 0 < d -> ∀ rs, RsOk rs (d - 1) -> (Rws.wds rs).length <= 1000 -> lC n [.tup (Rws.ds rs)] = .ok (.lst (aJ (Rws.wds rs))) := fun h0 rs hr hl => yG n (d - 1) rs (by omega) hr hl
  obtain ⟨z', e⟩ := LY (A := some (.tup (Rws.ds rs))) hm rs [] none hr (by simpa using hl)
  rw [xb2] at e
  show fin (iB (cQ [2] bV (lB (lC n)) (Rws.ds rs) [some (.tup (Rws.ds rs)), some (.lst (aJ [])), none]) _) = _
  rw [e]; rfl
end LmDh
open L2 DL Mir
namespace LmDi
open LmA LmY Lk31 Rdr TxtA LmDa LmDb LmDc LmDd LmDe LmDf LmDg LmDh
abbrev dD (ls : List Rl) (r : Rw) (rs : Rws) : D := .tup [.tup (ls.map Rl.d), .tup (Rws.ds (.cons r rs))]
theorem yH {A b c d e : Option D} {xs : List D} {fe : DSt -> R D} {v : D} (he : fe [A, none, b, c, d, e] = .ok v) (hl : xs.length <= 1000000) : dU [1] 1 fe [A, some (.lst xs), b, c, d, e] = .ok (.nx [A, some (.lst (xs ++ [v])), b, c, d, e]) := by
 rw [lY, show dS [A, some (.lst xs), b, c, d, e] 1 = .ok xs from rfl, show mask [1] [A, some (.lst xs), b, c, d, e] = [A, none, b, c, d, e] from rfl, he, lZ _ _ _ _ hl]; rfl
theorem ZU {nm out : Str} {ps : List Str} (h1 : Nm nm) (h2 : Nm out) (h3 : ∀ x ∈ ps, Nm x) (h8 : ps.length <= 8) (A e : Option D) :
  fW (eC (.str " ")) (aC aI (aC aI (aY (bD (aB (eC (.str "rule")) (aB (aA 2) aD)))) (aY (jQ kQ (aB (aA 3) aD)))) (aY (bD (aB (eC (.str ">")) (aB (aA 4) aD))))) [A, none, some (.str nm), some (.tup (ps.map .str)), some (.str out), e] = .ok (rT (bA nm ps out)) := by
 have a1 : aI (.lst [.str "rule", .str nm]) (.lst (ps.map D.str)) = .ok (.lst (.str "rule" :: .str nm :: ps.map D.str)) := by
  show (bif aW (2 + (ps.map D.str).length) then R.ok (D.lst ([.str "rule", .str nm] ++ ps.map D.str)) else .bad) = _
  rw [show aW (2 + (ps.map D.str).length) = true from xai (by rw [xae]; exact xaj (show _ <= 1000 by omega) (by decide))]; rfl
 have a2 : aI (.lst (.str "rule" :: .str nm :: ps.map D.str)) (.lst [.str ">", .str out]) = .ok (.lst ((bA nm ps out).map D.str)) := by
  show (bif aW ((D.str "rule" :: .str nm :: ps.map D.str).length + 2) then R.ok (D.lst ((.str "rule" :: .str nm :: ps.map D.str) ++ [.str ">", .str out])) else .bad) = _
  rw [show aW ((D.str "rule" :: .str nm :: ps.map D.str).length + 2) = true from xai (by rw [xaf, xaf, xae]; exact xaj (show _ <= 1000 by omega) (by decide))]
  show R.ok (D.lst ((.str "rule" :: .str nm :: ps.map D.str) ++ [.str ">", .str out])) = _
  simp [bA]
 show ((bI aI (aI (.lst [.str "rule", .str nm]) (.lst (ps.map D.str))) (.ok (.lst [.str ">", .str out]))).bind fun d => c7 (.str " ") d) = _
 rw [a1, cF, a2]
 refine oI (fun x hx => ?_) (by show (ps ++ _).length + 1 + 1 <= _; rw [xaa]; show ps.length + 2 + 1 + 1 <= _; omega)
 rcases xag.mp hx with rfl | hx
 ·decide
 ·rcases xag.mp hx with rfl | hx
  ·exact h1.2
  ·rcases xay.mp hx with hx | hx
   ·exact (h3 x hx).2
   ·simp only [xag, xa5, or_false] at hx
    rcases hx with rfl | rfl
    ·decide
    ·exact h2.2
theorem ZV {l : Rl} (ok : gY l) {A z2 z3 z4 z5 : Option D} {xs : List D} (hl : xs.length + l.wd.length <= 1000) : mF [A, some (.lst xs), some (.str l.nm), some (.tup (l.ps.map .str)), some (.str l.out), some (.tup (Rws.ds (.cons l.r l.rs)))] = .ok (.nx [A, some (.lst (xs ++ aJ l.wd)), some (.str l.nm), some (.tup (l.ps.map .str)), some (.str l.out), some (.tup (Rws.ds (.cons l.r l.rs)))]) := by
 have hw : l.wd = bA l.nm l.ps l.out :: (Rws.wds (.cons l.r l.rs) ++ [(["end"] : List Str)]) := rfl
 rw [hw, xaf, xaa] at hl
 have hs : jA [.tup (Rws.ds (.cons l.r l.rs))] = .ok (.lst (aJ (Rws.wds (.cons l.r l.rs)))) := yF 64 4 _ (by decide) ok.ok (by omega)
 unfold mF
 rw [bS, yH (ZU ok.nm ok.out ok.ps ok.p8 A _) (by omega), bO]
 unfold JH
 have e2 : pR [1] 1 (aU jA (aB (aA 5) aD)) [A, some (.lst (xs ++ [rT (bA l.nm l.ps l.out)])), some (.str l.nm), some (.tup (l.ps.map .str)), some (.str l.out), some (.tup (Rws.ds (.cons l.r l.rs)))] = .ok (.nx [A, some (.lst (xs ++ [rT (bA l.nm l.ps l.out)] ++ aJ (Rws.wds (.cons l.r l.rs)))), some (.str l.nm), some (.tup (l.ps.map .str)), some (.str l.out), some (.tup (Rws.ds (.cons l.r l.rs)))]) := by
  show ((jA [.tup (Rws.ds (.cons l.r l.rs))]).bind fun d => l5 (xs ++ [rT (bA l.nm l.ps l.out)]) 1 [A, some (.lst (xs ++ [rT (bA l.nm l.ps l.out)])), some (.str l.nm), some (.tup (l.ps.map .str)), some (.str l.out), some (.tup (Rws.ds (.cons l.r l.rs)))] d) = _
  rw [hs]
  show (bif aW ((xs ++ [rT (bA l.nm l.ps l.out)]).length + (aJ (Rws.wds (.cons l.r l.rs))).length) then R.ok (aG.nx [A, some (.lst (xs ++ [rT (bA l.nm l.ps l.out)] ++ aJ (Rws.wds (.cons l.r l.rs)))), some (.str l.nm), some (.tup (l.ps.map .str)), some (.str l.out), some (.tup (Rws.ds (.cons l.r l.rs)))]) else .bad) = _
  rw [show aW ((xs ++ [rT (bA l.nm l.ps l.out)]).length + (aJ (Rws.wds (.cons l.r l.rs))).length) = true from xai (by unfold aJ; rw [xaa, xae]; exact xaj (show xs.length + 1 + _ <= 1000 by omega) (by decide))]; rfl
 rw [bS, e2, bO]
 unfold JG
 rw [yH (v := .str "end") (by rfl) (by unfold aJ; rw [xaa, xaa, xae]; show xs.length + 1 + _ <= _; omega), hw]
 unfold aJ
 rw [xbi, xaz, xbi, xcb, show rT ["end"] = .str "end" from rfl]
 simp
theorem LZ {A : Option D} : ∀ (ls : List Rl) (xs : List D) (z2 z3 z4 z5 : Option D), (∀ l ∈ ls, gY l) -> xs.length + (aZ ls).length <= 1000 -> ∃ y2 y3 y4 y5, cQ [2, 3, 4, 5] (b8 4) mF (ls.map Rl.d) [A, some (.lst xs), z2, z3, z4, z5] = .ok (.nx [A, some (.lst (xs ++ aJ (aZ ls))), y2, y3, y4, y5])
 | [], xs, z2, z3, z4, z5, _, _ => ⟨z2, z3, z4, z5, by
  show R.ok (aG.nx [A, some (.lst xs), z2, z3, z4, z5]) = _
  unfold aJ aZ
  simp⟩
 | l :: ls, xs, z2, z3, z4, z5, h, hl => by
  have hw : aZ (l :: ls) = l.wd ++ aZ ls := rfl
  rw [hw, xaa] at hl
  obtain ⟨y2, y3, y4, y5, e⟩ := LZ (A := A) ls (xs ++ aJ l.wd) (some (.str l.nm)) (some (.tup (l.ps.map .str))) (some (.str l.out)) (some (.tup (Rws.ds (.cons l.r l.rs)))) (fun q hq => h q (xah _ hq)) (by unfold aJ; rw [xaa, xae]; omega)
  refine ⟨y2, y3, y4, y5, ?_⟩
  show gP (mF [A, some (.lst xs), some (.str l.nm), some (.tup (l.ps.map .str)), some (.str l.out), some (.tup (Rws.ds (.cons l.r l.rs)))]) (cQ [2, 3, 4, 5] (b8 4) mF (ls.map Rl.d)) = _
  rw [ZV (z2 := none) (z3 := none) (z4 := none) (z5 := none) (h l xax) (by omega), nM, e, hw]
  unfold aJ
  rw [xaz, xa3]
def fP (wss : List (List Str)) : List Nat := TxtA.flat [59, 32] (wss.map dG)
theorem L3 {wss : List (List Str)} (h : ∀ ws ∈ wss, (dG ws).length <= 1000) (hl : wss.length <= 1000) : c7 (.str "; ") (.lst (aJ wss)) = .ok (.str (aF (fP wss))) := by
 have := LmY.join_ok (y := [59, 32]) (rows := wss.map dG) (B := 1000) (fun r hr => by
  obtain ⟨x, hx, rfl⟩ := xa7.mp hr
  exact h x hx) (by rw [xae]; show _ + _ * 2 <= _; omega)
 rw [xbp, xbp] at this
 exact this
theorem ZW {ls : List Rl} {r : Rw} {rs : Rws} (h : ∀ l ∈ ls, gY l) (hr : RsOk (.cons r rs) 4) (hl : (aZ ls ++ Rws.wds (.cons r rs)).length <= 1000) (ht : ∀ ws ∈ aZ ls ++ Rws.wds (.cons r rs), (dG ws).length <= 1000) : jB [dD ls r rs] = .ok (.str (aF (fP (aZ ls ++ Rws.wds (.cons r rs))))) := by
 have hl' := hl
 rw [xaa] at hl'
 obtain ⟨y2, y3, y4, y5, e⟩ := LZ (A := some (dD ls r rs)) ls [] none none none none h (by simp; omega)
 have hs : jA [.tup (Rws.ds (.cons r rs))] = .ok (.lst (aJ (Rws.wds (.cons r rs)))) := yF 64 4 _ (by decide) hr (by omega)
 rw [YM]
 unfold tN JI
 show fin (iB (cQ [2, 3, 4, 5] (b8 4) mF (ls.map Rl.d) [some (dD ls r rs), some (.lst []), none, none, none, none]) xV) = _
 rw [e, bO, xb2]
 unfold xV
 have ea : aI (.lst (aJ (aZ ls))) (.lst (aJ (Rws.wds (.cons r rs)))) = .ok (.lst (aJ (aZ ls ++ Rws.wds (.cons r rs)))) := by
  show (bif aW ((aJ (aZ ls)).length + (aJ (Rws.wds (.cons r rs))).length) then R.ok (D.lst (aJ (aZ ls) ++ aJ (Rws.wds (.cons r rs)))) else .bad) = _
  unfold aJ
  rw [xae, xae, show aW ((aZ ls).length + (Rws.wds (.cons r rs)).length) = true from xai (xaj hl' (by decide)), xaz]; rfl
 show fin (iC ((bI aI (.ok (.lst (aJ (aZ ls)))) (jA [.tup (Rws.ds (.cons r rs))])).bind fun d => c7 (.str "; ") d)) = _
 rw [hs, cF, ea]
 show fin (iC (c7 (.str "; ") (.lst (aJ (aZ ls ++ Rws.wds (.cons r rs)))))) = _
 rw [L3 ht hl]; rfl
end LmDi
open L2 DL Mir
namespace LmDj
open LmA LmY Lk31 Rdr TxtA LmDa LmDb LmDc LmDd LmDe LmDf LmDg LmDh LmDi
theorem yI (y : List Nat) (z : List Nat) (zs : List (List Nat)) : ∀ (xs : List (List Nat)), xs ≠ [] -> TxtA.flat y (xs ++ z :: zs) = TxtA.flat y xs ++ y ++ TxtA.flat y (z :: zs)
 | [], h => xaq rfl h
 | [x], _ => rfl
 | x :: x' :: xs, _ => by
  have ih := yI y z zs (x' :: xs) (by simp)
  show x ++ y ++ TxtA.flat y (x' :: xs ++ z :: zs) = x ++ y ++ TxtA.flat y (x' :: xs) ++ y ++ TxtA.flat y (z :: zs)
  rw [ih]
  simp
theorem L4 (nm out : Str) (ps : List Str) (h : ps ≠ []) : dG (bA nm ps out) = [114, 117, 108, 101, 32] ++ cl nm ++ [32] ++ dG ps ++ [32, 62, 32] ++ cl out := by
 unfold dG
 have e1 : (bA nm ps out).map cl = [cl "rule", cl nm] ++ (ps.map cl ++ [cl ">", cl out]) := by simp [bA]
 have e2 : TxtA.flat [32] (ps.map cl ++ [cl ">", cl out]) = TxtA.flat [32] (ps.map cl) ++ [32] ++ TxtA.flat [32] [cl ">", cl out] := yI _ _ _ _ (by simpa using h)
 cases hp : ps.map cl ++ [cl ">", cl out] with
 | nil => simp at hp
 | cons z zs =>
  rw [e1, hp, yI _ _ _ _ (by simp), <- hp, e2]
  show (cl "rule" ++ [32] ++ cl nm) ++ [32] ++ (TxtA.flat [32] (ps.map cl) ++ [32] ++ (cl ">" ++ [32] ++ cl out)) = _
  rw [show cl "rule" = [114, 117, 108, 101] from rfl, show cl ">" = [62] from rfl]
  simp
end LmDj
open L2 DL Mir
namespace LmDk
open LmA LmY Lk31 Rdr TxtA LmDa LmDb LmDc LmDd LmDe LmDf LmDg LmDh LmDi LmDj
theorem qG {a b : List Nat} (h : a.length + b.length <= 1000000) : aI (.str (aF a)) (.str (aF b)) = .ok (.str (aF (a ++ b))) := by
 show (bif aW ((aF a).length + (aF b).length) then R.ok (D.str ((aF a) ++ (aF b))) else .bad) = _
 have e : (aF a).length + (aF b).length = a.length + b.length := by simp [aF, Str.length]
 rw [e, show aW (a.length + b.length) = true from xai (xaj h (by decide))]
 show R.ok (D.str ((aF a) ++ (aF b))) = _
 rw [show (aF a : Str) ++ aF b = aF (a ++ b) from by
  show (⟨(aF a).cps ++ (aF b).cps⟩ : Str) = _
  unfold aF
  simp]
theorem ZX {nm out : Str} {ps : List Str} (h3 : ∀ x ∈ ps, Nm x) (h8 : ps.length <= 8) (h0 : ps ≠ []) (ht : (dG (bA nm ps out)).length <= 1000) (A e : Option D) :
  aC aI (aC aI (aC aI (aC aI (aC aI (eC (.str "rule ")) (aA 2)) (eC (.str " "))) (w5 (eC (.str " ")) (aA 3))) (eC (.str " > "))) (aA 4) [A, none, some (.str nm), some (.tup (ps.map .str)), some (.str out), e] = .ok (rT (bA nm ps out)) := by
 have ej : jV (.str " ") (.tup (ps.map .str)) = .ok (rT ps) := (show jV (.str " ") (.tup (ps.map .str)) = c7 (.str " ") (.lst (ps.map .str)) from rfl).trans (oI (fun x hx => (h3 x hx).2) (by omega))
 have er : rT (bA nm ps out) = .str (aF ([114, 117, 108, 101, 32] ++ cl nm ++ [32] ++ dG ps ++ [32, 62, 32] ++ cl out)) := by
  show D.str (aF (dG (bA nm ps out))) = _
  rw [L4 _ _ _ h0]
 rw [er]
 rw [L4 _ _ _ h0] at ht
 simp only [xaa] at ht
 show bI aI (bI aI (bI aI (bI aI (aI (.str "rule ") (.str nm)) (.ok (.str " "))) (jV (.str " ") (.tup (ps.map .str)))) (.ok (.str " > "))) (.ok (.str out)) = _
 have a1 : aI (.str "rule ") (.str nm) = .ok (.str (aF ([114, 117, 108, 101, 32] ++ cl nm))) := by
  have := qG (a := [114, 117, 108, 101, 32]) (b := cl nm) (by show 5 + _ <= _; omega)
  rw [qF] at this
  exact this
 have a2 : ∀ z, z.length <= 2000 -> aI (.str (aF z)) (.str " ") = .ok (.str (aF (z ++ [32]))) := fun z hz => qG (a := z) (b := [32]) (by show _ + 1 <= _; omega)
 have a3 : ∀ z, z.length <= 2000 -> aI (.str (aF z)) (.str " > ") = .ok (.str (aF (z ++ [32, 62, 32]))) := fun z hz => qG (a := z) (b := [32, 62, 32]) (by show _ + 3 <= _; omega)
 have a4 : ∀ z, z.length <= 2000 -> aI (.str (aF z)) (.str out) = .ok (.str (aF (z ++ cl out))) := fun z hz => by
  have := qG (a := z) (b := cl out) (by omega)
  rw [qF] at this
  exact this
 rw [a1, ej, cF, a2 _ (by simp only [xaa]; omega), cF, qG (by simp only [xaa]; omega), cF, a3 _ (by simp only [xaa]; omega), cF, a4 _ (by simp only [xaa]; omega)]
theorem L5 {us vs : List (List Str)} (hq : us.length + vs.length <= 10000) : aI (.lst (aJ us)) (.lst (aJ vs)) = .ok (.lst (aJ (us ++ vs))) := by
 show (bif aW ((aJ us).length + (aJ vs).length) then R.ok (D.lst (aJ us ++ aJ vs)) else .bad) = _
 unfold aJ
 rw [xae, xae, show aW (us.length + vs.length) = true from xai (xaj hq (by decide)), xaz]; rfl
theorem ZY {l : Rl} (ok : gY l) {A : Option D} {ys : List (List Str)} (hl : ys.length + l.wd.length <= 1000) (ht : (dG (bA l.nm l.ps l.out)).length <= 1000) : mJ [A, some (.lst (aJ ys)), some (.str l.nm), some (.tup (l.ps.map .str)), some (.str l.out), some (.tup (Rws.ds (.cons l.r l.rs)))] = .ok (.nx [A, some (.lst (aJ (ys ++ l.wd))), some (.str l.nm), some (.tup (l.ps.map .str)), some (.str l.out), some (.tup (Rws.ds (.cons l.r l.rs)))]) := by
 have hw : l.wd = bA l.nm l.ps l.out :: (Rws.wds (.cons l.r l.rs) ++ [(["end"] : List Str)]) := rfl
 rw [hw, xaf, xaa] at hl
 have hs : j3 [.tup (Rws.ds (.cons l.r l.rs))] = .ok (.lst (aJ (Rws.wds (.cons l.r l.rs)))) := yG 64 4 _ (by decide) ok.ok (by omega)
 have h0 : l.ps ≠ [] := fun e => by have := ok.p1; rw [e] at this; cases this
 unfold mJ
 rw [bS, yH (ZX ok.ps ok.p8 h0 ht A _) (by unfold aJ; rw [xae]; omega), bO]
 rw [show aJ ys ++ [rT (bA l.nm l.ps l.out)] = aJ (ys ++ [bA l.nm l.ps l.out]) from by unfold aJ; simp]
 unfold KS
 rw [wE, V5]
 show wC 1 (wR (bI aI (.ok (.lst (aJ (ys ++ [bA l.nm l.ps l.out])))) (j3 [.tup (Rws.ds (.cons l.r l.rs))])) (.ok (.lst (aJ [(["end"] : List Str)])))) _ = _
 rw [hs, cF, L5 (by rw [xaa]; show _ + 1 + _ <= _; omega), V6 _ _ (by unfold aJ; rw [xae, xaa, xaa]; show _ + 1 + _ + 1 <= _; omega), wF, hw]
 rw [show aJ (ys ++ [bA l.nm l.ps l.out] ++ Rws.wds (.cons l.r l.rs)) ++ aJ [(["end"] : List Str)] = aJ (ys ++ bA l.nm l.ps l.out :: (Rws.wds (.cons l.r l.rs) ++ [(["end"] : List Str)])) from by unfold aJ; simp]
 rfl
theorem L6 {A : Option D} : ∀ (ls : List Rl) (ys : List (List Str)) (z2 z3 z4 z5 : Option D), (∀ l ∈ ls, gY l) -> (∀ l ∈ ls, (dG (bA l.nm l.ps l.out)).length <= 1000) -> ys.length + (aZ ls).length <= 1000 -> ∃ y2 y3 y4 y5, cQ [2, 3, 4, 5] (b8 4) mJ (ls.map Rl.d) [A, some (.lst (aJ ys)), z2, z3, z4, z5] = .ok (.nx [A, some (.lst (aJ (ys ++ aZ ls))), y2, y3, y4, y5])
 | [], ys, z2, z3, z4, z5, _, _, _ => ⟨z2, z3, z4, z5, by
  show R.ok (aG.nx [A, some (.lst (aJ ys)), z2, z3, z4, z5]) = _
  unfold aZ
  simp⟩
 | l :: ls, ys, z2, z3, z4, z5, h, ht, hl => by
  have hw : aZ (l :: ls) = l.wd ++ aZ ls := rfl
  rw [hw, xaa] at hl
  obtain ⟨y2, y3, y4, y5, e⟩ := L6 (A := A) ls (ys ++ l.wd) (some (.str l.nm)) (some (.tup (l.ps.map .str))) (some (.str l.out)) (some (.tup (Rws.ds (.cons l.r l.rs)))) (fun q hq => h q (xah _ hq)) (fun q hq => ht q (xah _ hq)) (by rw [xaa]; omega)
  refine ⟨y2, y3, y4, y5, ?_⟩
  show gP (mJ [A, some (.lst (aJ ys)), some (.str l.nm), some (.tup (l.ps.map .str)), some (.str l.out), some (.tup (Rws.ds (.cons l.r l.rs)))]) (cQ [2, 3, 4, 5] (b8 4) mJ (ls.map Rl.d)) = _
  rw [ZY (h l xax) (by omega) (ht l xax), nM, e, hw, xa3]
theorem ZZ {ls : List Rl} {r : Rw} {rs : Rws} (h : ∀ l ∈ ls, gY l) (hr : RsOk (.cons r rs) 4) (hl : (aZ ls ++ Rws.wds (.cons r rs)).length <= 1000) (ht : ∀ ws ∈ aZ ls ++ Rws.wds (.cons r rs), (dG ws).length <= 1000) : lD [dD ls r rs] = .ok (.str (aF (fP (aZ ls ++ Rws.wds (.cons r rs))))) := by
 have hl' := hl
 rw [xaa] at hl'
 have hh : ∀ l ∈ ls, (dG (bA l.nm l.ps l.out)).length <= 1000 := fun l q => ht _ (xcc _ (List.mem_flatMap.mpr ⟨l, q, xax⟩))
 obtain ⟨y2, y3, y4, y5, e⟩ := L6 (A := some (dD ls r rs)) ls [] none none none none h hh (by simp; omega)
 have hs : j3 [.tup (Rws.ds (.cons r rs))] = .ok (.lst (aJ (Rws.wds (.cons r rs)))) := yG 64 4 _ (by decide) hr (by omega)
 rw [YZ]
 unfold t0 KT
 show fin (iB (cQ [2, 3, 4, 5] (b8 4) mJ (ls.map Rl.d) [some (dD ls r rs), some (.lst (aJ [])), none, none, none, none]) xW) = _
 rw [e, bO, xb2]
 unfold xW
 show fin (iC ((bI aI (.ok (.lst (aJ (aZ ls)))) (j3 [.tup (Rws.ds (.cons r rs))])).bind fun d => c7 (.str "; ") d)) = _
 rw [hs, cF, L5 (by omega)]
 show fin (iC (c7 (.str "; ") (.lst (aJ (aZ ls ++ Rws.wds (.cons r rs)))))) = _
 rw [L3 ht hl]; rfl
end LmDk
open L2 DL Mir
namespace LmDl
open LmA LmY Lk31 Rdr TxtA LmDa LmDb LmDc LmDd LmDe LmDf LmDg LmDh LmDi LmDj LmDk
theorem Z0 (i : Int) : n6 [.int i] = .ok (.bl true) := by
 rw [YO]; unfold tQ; kd_p
theorem mL (n : Nat) (x : Str) : eO (n + 1) [.str x, .str x] = .ok (.bl true) := by
 rw [xY]; unfold lE; kd_p
 rw [show g2 bW [.str x, .ty "tuple"] = .ok (.bl false) from rfl]; kd_p
 unfold xX; kd_p
 rw [show g2 bW [.str x, .ty "str"] = .ok (.bl true) from rfl]; kd_p
 rw [show g2 bW [.str x, .ty "str"] = .ok (.bl true) from rfl]; kd_p
 rw [pN (show gM (.str x) (.str x) = true from rfl), vL 9 (.str x) rfl]; kd_p
theorem Z1 (n : Nat) (i : Int) : eO (n + 1) [.int i, .int i] = .ok (.bl true) := by
 rw [xY]; unfold lE; kd_p
 rw [show g2 bW [.int i, .ty "tuple"] = .ok (.bl false) from rfl]; kd_p
 unfold xX; kd_p
 rw [show g2 bW [.int i, .ty "str"] = .ok (.bl false) from rfl]; kd_p
 unfold KZ; kd_p
 rw [Z0]; kd_p
theorem L7 (n : Nat) (x y : Option D) : ∀ (ds : List D) (a b : Option D), (∀ d ∈ ds, eO n [d, d] = .ok (.bl true)) -> ∃ a' b', cQ [2, 3] (b8 2) (qA (eO n)) (jU ds ds) [x, y, a, b] = .ok (.nx [x, y, a', b'])
 | [], a, b, _ => ⟨a, b, rfl⟩
 | d :: ds, a, b, h => by
  obtain ⟨a', b', e⟩ := L7 n x y ds (some d) (some d) (fun d' hd => h d' (by simp [hd]))
  refine ⟨a', b', ?_⟩
  show gP (qA (eO n) [x, y, some d, some d]) (cQ [2, 3] (b8 2) (qA (eO n)) (jU ds ds)) = _
  unfold qA; kd_p
  rw [h d (by simp)]; kd_p
  exact e
theorem j9 (n : Nat) (ds : List D) (h : ∀ d ∈ ds, eO n [d, d] = .ok (.bl true)) : eO (n + 1) [.tup ds, .tup ds] = .ok (.bl true) := by
 obtain ⟨a, b, e⟩ := L7 n (some (.tup ds)) (some (.tup ds)) ds none none h
 rw [xY]; unfold lE; kd_p
 unfold KY; kd_p
 rw [show bB [.tup ds] = .ok (.int (ds.length : Int)) from rfl]; kd_p
 unfold KW; kd_p
 rw [show pU [.tup ds, .tup ds] = .ok (jU ds ds) from by
  show (bif ds.length == ds.length then R.ok (jU ds ds) else .bad) = _
  rw [beq_self_eq_true]; rfl]; kd_p
 rw [e]; kd_p
 unfold KU; kd_p
theorem yJ (n : Nat) (xs : List Str) : eO (n + 2) [.tup (xs.map .str), .tup (xs.map .str)] = .ok (.bl true) := j9 _ _ fun d hd => by
 obtain ⟨x, _, rfl⟩ := xa7.mp hd
 exact mL _ _
mutual
theorem Z2 : ∀ (r : Rw) (d n : Nat), b6 r d -> 2 * d + 2 <= n -> eO (n + 1) [Rw.d r, Rw.d r] = .ok (.bl true)
 | .cross x a b c e, d, n, _, h => by
  obtain ⟨j, rfl⟩ : ∃ j, n = j + 1 := ⟨n - 1, by omega⟩
  rw [Rw.d]
  exact yJ j [("cross" : Str), x, a, b, c, e]
 | .rule x f as, d, n, _, h => by
  obtain ⟨j, rfl⟩ : ∃ j, n = j + 2 := ⟨n - 2, by omega⟩
  rw [Rw.d]
  refine j9 _ _ fun q hq => ?_
  simp only [xag, xa5, or_false] at hq
  rcases hq with rfl | rfl | rfl | rfl
  ·exact mL _ _
  ·exact mL _ _
  ·exact mL _ _
  ·exact yJ _ _
 | .times k rs, d, n, hr, h => by
  obtain ⟨j, rfl⟩ : ∃ j, n = j + 2 := ⟨n - 2, by omega⟩
  rw [b6] at hr
  obtain ⟨h1, h0, _, _, h5⟩ := hr
  rw [Rw.d]
  refine j9 _ _ fun q hq => ?_
  simp only [xag, xa5, or_false] at hq
  rcases hq with rfl | rfl | rfl
  ·exact mL _ _
  ·exact Z1 _ _
  ·exact j9 (j + 1) _ fun q hq => like_rs rs (d - 1) j h5 (by omega) q hq
theorem like_rs : ∀ (rs : Rws) (d n : Nat), RsOk rs d -> 2 * d + 2 <= n -> ∀ q ∈ Rws.ds rs, eO (n + 1) [q, q] = .ok (.bl true)
 | .nil, d, n, _, _, q, hq => by rw [Rws.ds] at hq; cases hq
 | .cons r rs, d, n, hr, h, q, hq => by
  rw [RsOk] at hr
  rw [Rws.ds] at hq
  rcases xag.mp hq with rfl | hq
  ·exact Z2 r d n hr.1 h
  ·exact like_rs rs d n hr.2 h q hq
end
theorem Z3 {ls : List Rl} {r : Rw} {rs : Rws} (h : ∀ l ∈ ls, gY l) (hr : RsOk (.cons r rs) 4) : gX [dD ls r rs, dD ls r rs] = .ok (.bl true) := by
 refine j9 63 _ fun q hq => ?_
 simp only [xag, xa5, or_false] at hq
 rcases hq with rfl | rfl
 ·refine j9 62 _ fun q hq => ?_
  obtain ⟨l, hl, rfl⟩ := xa7.mp hq
  refine j9 61 _ fun q hq => ?_
  simp only [xag, xa5, or_false] at hq
  rcases hq with rfl | rfl | rfl | rfl
  ·exact mL _ _
  ·exact yJ _ _
  ·exact mL _ _
  ·exact j9 60 _ fun q hq => like_rs _ 4 59 (h l hl).ok (by decide) q hq
 ·exact j9 62 _ fun q hq => like_rs _ 4 61 hr (by decide) q hq
end LmDl
open L2 DL Mir
open L2 DL Mir
namespace LmO
open LmA LmB LmW LmX LmY TxtA
def cutW : List Nat -> List (List Nat)
 | [] => [[]]
 | c :: r => if c = 32 then [] :: cutW r else match cutW r with
  | w :: ws => (c :: w) :: ws
  | [] => [[c]]
theorem uA : ∀ r, cutW r ≠ []
 | [] => by simp [cutW]
 | c :: r => by
  unfold cutW
  split
  ·simp
  ·split <;> simp
theorem L8 : ∀ r, ∀ w ∈ cutW r, (32 : Nat) ∉ w
 | [], w, h => by simp [cutW] at h; simp [h]
 | c :: r, w, h => by
  have ih := L8 r
  unfold cutW at h
  split at h
  ·rcases xag.mp h with rfl | h
   ·simp
   ·exact ih w h
  ·rename_i hc
   split at h
   ·rename_i w' ws e
    rw [e] at ih
    rcases xag.mp h with rfl | h
    ·intro q
     rcases xag.mp q with q | q
     ·exact hc q.symm
     ·exact ih w' (by simp) q
    ·exact ih w (xah _ h)
   ·rename_i e
    exact xaq e (uA r)
theorem Z4 (y r : List Nat) {rs : List (List Nat)} (h : rs ≠ []) : TxtA.flat y (r :: rs) = r ++ y ++ TxtA.flat y rs := by
 obtain ⟨q, qs, rfl⟩ := List.exists_cons_of_ne_nil h
 rfl
theorem yK : ∀ r, TxtA.flat [32] (cutW r) = r
 | [] => rfl
 | c :: r => by
  have ih := yK r
  unfold cutW
  split
  ·rename_i hc
   rw [Z4 _ _ (uA r), ih, hc]; rfl
  ·split
   ·rename_i w ws e
    rw [e] at ih
    cases ws with
    | nil => rw [<- ih]; rfl
    | cons q qs => rw [<- ih]; rfl
   ·rename_i e
    exact xaq e (uA r)
theorem Z5 {w : List Nat} (h : (32 : Nat) ∉ w) (r : List Nat) : cutW (w ++ 32 :: r) = w :: cutW r := by
 induction w with
 | nil => simp [cutW]
 | cons c w ih =>
  have hc : ¬ c = 32 := fun z => h (by rw [z]; exact xax)
  rw [List.cons_append, cutW, xa1 hc, ih fun q => h (xah _ q)]
theorem Z6 {w : List Nat} (h : (32 : Nat) ∉ w) : cutW w = [w] := by
 induction w with
 | nil => rfl
 | cons c w ih =>
  have hc : ¬ c = 32 := fun z => h (by rw [z]; exact xax)
  rw [cutW, xa1 hc, ih fun q => h (xah _ q)]
theorem cutW_flat : ∀ {ws : List (List Nat)}, ws ≠ [] -> (∀ w ∈ ws, (32 : Nat) ∉ w) -> cutW (TxtA.flat [32] ws) = ws
 | [], h, _ => xaq rfl h
 | [w], _, h => Z6 (h w (by simp))
 | w :: w' :: ws, _, h => by
  rw [TxtA.flat, xa3, List.singleton_append, Z5 (h w (by simp)), cutW_flat (by simp) fun q hq => h q (xah _ hq)]
def wl (ws : List (List Nat)) : D := .lst ((ws.map aF).map D.str)
def Fr (r : List Nat) : Prop := ∀ i, r[i]? = some 59 -> r[i + 1]? ≠ some 32
theorem Fr.free {r : List Nat} (h : Fr r) : mW 59 [32] r := fun i hi p hp q => by
 have h0 := oV q
 rw [xbc hi] at h0
 have h1 : (r ++ p)[i + 1]? = some 32 := by
  unfold hZ at q
  have : (((r ++ p).drop i).take ([59, 32] : List Nat).length)[1]? = some 32 := by rw [q]; rfl
  rw [List.getElem?_take, xa4 (by decide), List.getElem?_drop] at this
  exact this
 by_cases hl : i + 1 < r.length
 ·rw [xbc hl] at h1
  exact h i h0 h1
 ·rw [xbe (by omega), show i + 1 - r.length = 0 by omega] at h1
  rcases hp with rfl | hp
  ·simp at h1
  ·rw [<- List.head?_eq_getElem?, hp] at h1
   exact xaq h1 (by decide)
theorem fr_no {r : List Nat} (h : (59 : Nat) ∉ r) : Fr r := fun i hi => xaq (xbo hi) h
theorem lo (l : List Nat) : (aF l).length = l.length := by simp [aF, Str.length]
theorem Z7 {rows : List (List Nat)} (hne : rows ≠ []) (hr : ∀ r ∈ rows, Fr r) (hl : (TxtA.flat [59, 32] rows).length <= 10000000) : gU (.str (aF (TxtA.flat [59, 32] rows))) (.str (aF [59, 32])) = .ok ((rows.map aF).map D.str) := by
 unfold gU
 show (bif (!((aF [59, 32]).length == 0)) && aW ((aF (TxtA.flat [59, 32] rows)).length + 2) then R.ok ((Txt.split _ _).map D.str) else .bad) = _
 rw [A7 (by decide) (by decide) hne fun r h => (hr r h).free, lo, lo]
 rw [show (!(([59, 32] : List Nat).length == 0) && aW ((TxtA.flat [59, 32] rows).length + 2)) = true from by
  rw [xaw]; exact ⟨by simp, xai (by show _ <= 16777216; omega)⟩, cond_true]
theorem Z8 (r : List Nat) (hl : r.length <= 10000000) : gU (.str (aF r)) (.str " ") = .ok (((cutW r).map aF).map D.str) := by
 have e := ZA (c := 32) (t := []) (rows := cutW r) (by simp) (by decide) (uA r) (L8 r) (by rw [yK]; exact hl)
 rw [yK] at e
 exact e
theorem rows_okF {rows : List (List Nat)} (hne : rows ≠ []) (hr : ∀ r ∈ rows, Fr r /\ r.length <= 1000) (hl : rows.length <= 1000) : jY [.str (aF (TxtA.flat [59, 32] rows))] = .ok (.lst (rows.map fun r => wl (cutW r))) := by
 have ht := x9 [59, 32] (B := 1000) rows fun r h => (hr r h).2
 have e2 : ([59, 32] : List Nat).length = 2 := rfl
 rw [e2] at ht
 rw [X2]; unfold sX; kd_p
 rw [show ∀ x : Str, g2 bW [.str x, .ty "str"] = .ok (.bl true) from fun _ => rfl]; kd_p
 unfold IL
 have e : sU (aA 0) (eC (.str "; ")) [some (.str (aF (TxtA.flat [59, 32] rows)))] = .ok ((rows.map aF).map D.str) := by
  show gU (.str (aF (TxtA.flat [59, 32] rows))) (.str "; ") = _
  exact Z7 hne (fun r h => (hr r h).1) (by omega)
 kd_p
 rw [e]; kd_p
 rw [xbp, LmB.lc_mapP (g := fun r => wl (cutW r)) (by omega) (fun r h => ?_)]
 ·kd_p
 ·show ((gU (.str (aF r)) (.str " ")).bind fun l => R.ok (D.lst l)) = _
  rw [Z8 r (by have := (hr r h).2; omega)]; rfl
end LmO
open L2 DL Mir
namespace LmDm
open LmA LmY Lk31 Rdr TxtA LmDa LmDb LmDc LmDd LmDe LmDf LmDg LmDh LmDi LmDj LmDk LmDl
structure Gd (ws : List Str) : Prop where
 ne : ws ≠ []
 l13 : ws.length <= 13
 ok : ∀ x ∈ ws, x.length <= 8 /\ (32 : Nat) ∉ cl x /\ (59 : Nat) ∉ cl x
theorem Gd.len {ws : List Str} (h : Gd ws) : (dG ws).length <= 200 := by
 have := x9 [32] (B := 8) (ws.map cl) (fun r hr => by
  obtain ⟨x, hx, rfl⟩ := xa7.mp hr
  rw [t9]; exact (h.ok x hx).1)
 rw [xae] at this
 have := h.l13
 unfold dG
 simp only [xaf, xbh] at *
 omega
theorem Gd.no {ws : List Str} (h : Gd ws) : (59 : Nat) ∉ dG ws := fun hc => by
 rcases LF hc with hc | ⟨r, hr, hc⟩
 ·simp at hc
 ·obtain ⟨x, hx, rfl⟩ := xa7.mp hr
  exact (h.ok x hx).2.2 hc
theorem Gd.cut {ws : List Str} (h : Gd ws) : LmO.wl (LmO.cutW (dG ws)) = wD ws := by
 unfold dG
 rw [LmO.cutW_flat (by simpa using h.ne) (fun w hw => by
  obtain ⟨x, hx, rfl⟩ := xa7.mp hw
  exact (h.ok x hx).2.1)]
 unfold LmO.wl wD
 congr 2
 rw [xbp, show (aF ∘ cl) = id from funext fun x => qF x, List.map_id]
theorem Z9 {wss : List (List Str)} (hne : wss ≠ []) (h : ∀ ws ∈ wss, Gd ws) (hl : wss.length <= 1000) : jY [.str (aF (fP wss))] = .ok (.lst (wss.map wD)) := by
 unfold fP
 rw [LmO.rows_okF (by simpa using hne) (fun r hr => by
  obtain ⟨ws, hw, rfl⟩ := xa7.mp hr
  exact ⟨LmO.fr_no (h ws hw).no, xaj (h ws hw).len (by decide)⟩) (by rw [xae]; exact hl), xbp]
 congr 2
 exact xcv fun ws hw => (h ws hw).cut
def Lt (l : List Nat) : Prop := ∀ c ∈ l, 97 <= c /\ c <= 122
theorem zaa : ∀ c : Nat, 97 <= c /\ c <= 122 -> j6 (fU c) "abcdefghijklmnopqrstuvwxyz" = true := by
 intro c h
 have : ∀ k : Fin 26, j6 (fU (97 + k.val)) "abcdefghijklmnopqrstuvwxyz" = true := by decide +kernel
 have := this ⟨c - 97, by omega⟩
 rw [show 97 + (⟨c - 97, by omega⟩ : Fin 26).val = c by show 97 + (c - 97) = c; omega] at this
 exact this
theorem L9 {c : Nat} (h : j6 (fU c) "abcdefghijklmnopqrstuvwxyz" = true) : c ≠ 32 /\ c ≠ 59 := by
 refine ⟨fun e => ?_, fun e => ?_⟩ <;> (subst e; revert h; decide +kernel)
theorem yL {l : List Nat} (h1 : l ≠ []) (h8 : l.length <= 8) (hL : Lt l) (hk : kept (aF l) = false) : Nm (aF l) := by
 have hlen : (aF l).length = l.length := LmO.lo l
 have hp := xcw.mpr h1
 refine ⟨?_, by omega⟩
 unfold oE
 rw [hk, hlen, xai (show 1 <= (l.length : Int) by omega), xai (show (l.length : Int) <= 8 by omega)]
 show (true && true && (cl (aF l)).all _ && true) = true
 rw [oH, xcp, xco, xco, xa8]
 exact fun c hc => zaa c (hL c hc)
theorem uB {x : Str} (h : Nm x) : 1 <= (cl x).length /\ x.length <= 8 /\ (32 : Nat) ∉ cl x /\ (59 : Nat) ∉ cl x := by
 have z := h.1
 unfold oE at z
 simp only [xaw, decide_eq_true_eq] at z
 obtain ⟨⟨⟨a, b⟩, c⟩, d⟩ := z
 rw [xa8] at c
 refine ⟨by rw [t9]; omega, by omega, fun hc => ?_, fun hc => ?_⟩
 ·exact (L9 (c _ hc)).1 rfl
 ·exact (L9 (c _ hc)).2 rfl
theorem zab (z : Str) : kept z = decide (z = "x" \/ z = "rule" \/ z = "times" \/ z = "end") := by
 unfold Lk31.kept
 unfold fM
 rw [xcg, decide_eq_true_eq, xce, xce, xce, xce, List.any_nil]
 simp only [a7, Bool.or_false, xcu, beq_iff_eq]
 constructor <;> (rintro (h | h | h | h) <;> simp [h])
theorem yM (l : List Nat) : kept (aF l) = decide (l = [120] \/ l = [114, 117, 108, 101] \/ l = [116, 105, 109, 101, 115] \/ l = [101, 110, 100]) := by
 rw [zab]
 have e : ∀ r : List Nat, (aF l = aF r) = (l = r) := fun r => propext ⟨fun h => LmWg.ofL_inj h, fun h => by rw [h]⟩
 have := e [120]; have := e [114, 117, 108, 101]; have := e [116, 105, 109, 101, 115]; have := e [101, 110, 100]
 rw [show ("x" : Str) = aF [120] from rfl, show ("rule" : Str) = aF [114, 117, 108, 101] from rfl, show ("times" : Str) = aF [116, 105, 109, 101, 115] from rfl, show ("end" : Str) = aF [101, 110, 100] from rfl]
 simp only [e]
end LmDm
open L2 DL Mir
namespace LmDn
open LmA LmY Lk31 Rdr TxtA LmWa LmWf LmDa LmDg LmDm
open LmWg (iI yE add_ok ofL_inj)
structure Ns (ns : List Str) : Prop where
 len : ns.length = 9
 ok : ∀ x ∈ ns, Nm x
 lt : ∀ x ∈ ns, Lt (cl x)
 first : ∀ (i j : Nat) (a b : Str), ns[i]? = some a -> ns[j]? = some b -> (cl a)[0]? = (cl b)[0]? -> i = j
def gZ (l : List Nat) : List Nat := bif kept (aF l) then l ++ [97] else l
theorem yN {c : Nat} {l : List Nat} (hL : Lt (c :: l)) (h7 : l.length <= 7) : Nm (aF (gZ (c :: l))) /\ (gZ (c :: l))[0]? = some c := by
 unfold gZ
 cases hk : kept (aF (c :: l)) with
 | false => exact ⟨yL (by simp) (by simp; omega) hL hk, rfl⟩
 | true =>
  refine ⟨?_, rfl⟩
  rw [yM, decide_eq_true_eq] at hk
  show Nm (aF (c :: l ++ [97]))
  have k2 : ∀ r : List Nat, r.length <= 6 -> r ≠ [] -> Lt r -> kept (aF (r ++ [97])) = false -> Nm (aF (r ++ [97])) := fun r h1 h2 h3 h4 => yL (by simp) (by simp; omega) (fun x hx => by
   rcases xay.mp hx with h | h
   ·exact h3 x h
   ·rw [xbb.mp h]; omega) h4
  rcases hk with e | e | e | e <;> (rw [e] at hL ⊢; exact k2 _ (by decide) (by decide) hL (by rw [yM]; decide))
theorem zac {l : List Nat} (hL : Lt l) : Lt (gZ l) := by
 unfold gZ
 cases kept (aF l) with
 | false => exact hL
 | true =>
  intro x hx
  rcases xay.mp hx with h | h
  ·exact hL x h
  ·rw [xbb.mp h]; omega
theorem zad (z : Str) : jW (.str "a") (.int (if kept z = true then 1 else 0)) = .ok (.str (aF (bif kept z then [97] else []))) := by
 cases kept z <;> rfl
theorem names_ok (c : Int) : ∃ ns : List Str, p7 [.int c, .int 9] = .ok (.lst (ns.map .str)) /\ Ns ns := by
 obtain ⟨ns, e, hl, hb⟩ := t7 c 12 (by decide)
 have e : cO [.int c, .int 12] = .ok (.lst (ns.map .int)) := e
 obtain ⟨d9, g9, a9, b9⟩ := jD ns hb 9 (by omega)
 obtain ⟨d10, g10, a10, b10⟩ := jD ns hb 10 (by omega)
 obtain ⟨d11, g11, a11, b11⟩ := jD ns hb 11 (by omega)
 have g9 : aE (.lst (ns.map .int)) (.int 9) = .ok (.int d9) := g9
 have g10 : aE (.lst (ns.map .int)) (.int 10) = .ok (.int d10) := g10
 have g11 : aE (.lst (ns.map .int)) (.int 11) = .ok (.int d11) := g11
 rw [YS]; unfold tW JY JX JW; kd_p
 rw [e]; kd_p
 rw [g10]; walk_at "evd"
 have m10 := cX (i := d10) (j := 8) (by decide)
 rw [show ("abcdefghijklmnopqrstuvwxyz" : Str) = iI from rfl, show (D.str "") = .str (aF []) from rfl]
 have turn : ∀ (j : Nat) (d : D) (U : DSt), (cC 0 (d10 % 8).toNat)[j]? = some d -> (∃ (l : List Nat) (z : Option D), U = [some (.int c), some (.int 9), some (.str iI), some (.lst (ns.map .int)), some (.str (aF l)), z, none, none, none] /\ l.length = j /\ ∀ c ∈ l, 97 <= c /\ c <= 122) ->
   ∃ U', (pZ (U.set 5 (some d)) = .ok (.nx U') \/ pZ (U.set 5 (some d)) = .ok (.ct U')) /\ ∃ (l : List Nat) (z : Option D), U' = [some (.int c), some (.int 9), some (.str iI), some (.lst (ns.map .int)), some (.str (aF l)), z, none, none, none] /\ l.length = j + 1 /\ ∀ c ∈ l, 97 <= c /\ c <= 122 := by
  rintro j d U hd ⟨l, z, rfl, hl, hc⟩
  have hj : j < (d10 % 8).toNat := by
   have := (xam.mp hd).1
   simpa [cC] using this
  obtain rfl : d = .int (j : Int) := by
   unfold cC at hd
   rw [xba, xbw hj] at hd
   simpa using hd.symm
  unfold pZ; kd_p
  rw [g11]
  rw [show gO (.ok [D.int 1, .int 26, .int 676, .int 17576, .int 5, .int 9, .int 77]) = .ok [D.int 1, .int 26, .int 676, .int 17576, .int 5, .int 9, .int 77] from rfl]; kd_p
  obtain ⟨q, hq, hq0, hq1⟩ : ∃ q : Int, aE (.lst [.int 1, .int 26, .int 676, .int 17576, .int 5, .int 9, .int 77]) (.int (j : Int)) = .ok (.int q) /\ 0 < q /\ q <= 20000 := by
   have : j = 0 \/ j = 1 \/ j = 2 \/ j = 3 \/ j = 4 \/ j = 5 \/ j = 6 := by omega
   rcases this with rfl | rfl | rfl | rfl | rfl | rfl | rfl
   ·exact ⟨1, rfl, by decide, by decide⟩
   ·exact ⟨26, rfl, by decide, by decide⟩
   ·exact ⟨676, rfl, by decide, by decide⟩
   ·exact ⟨17576, rfl, by decide, by decide⟩
   ·exact ⟨5, rfl, by decide, by decide⟩
   ·exact ⟨9, rfl, by decide, by decide⟩
   ·exact ⟨77, rfl, by decide, by decide⟩
  rw [hq]; kd_p
  rw [pM _ _ (ED (by omega) (by omega) (by omega)) hq0]; kd_p
  rw [dO _ _ (by decide)]; kd_p
  have m := cX (i := d11 / q) (j := 26) (by decide)
  rw [yE _ m.1 m.2]; kd_p
  rw [add_ok (by simp; omega)]; kd_p
  refine ⟨_, .inl rfl, l ++ [97 + (d11 / q % 26).toNat], _, rfl, by simp [hl], fun x hx => ?_⟩
  rcases xay.mp hx with h | h
  ·exact hc x h
  ·rw [xbb.mp h]; omega
 obtain ⟨U', e2, l, z, rfl, hl2, hc⟩ := pP (i := 5) (fb := pZ) _ _ turn [some (.int c), some (.int 9), some (.str iI), some (.lst (ns.map .int)), some (.str (aF [])), none, none, none, none] ⟨[], none, rfl, rfl, by simp⟩
 have hl7 : l.length <= 7 := by
  have : (cC 0 (d10 % 8).toNat).length = (d10 % 8).toNat := by simp [cC]
  omega
 rw [e2]; kd_p
 unfold JV; kd_p
 unfold JU; walk_at "evd"
 let hd : Nat -> Nat := fun k => 97 + ((d9 + (k : Int)) % 26).toNat
 have hL : ∀ k, Lt (hd k :: l) := fun k x hx => by
  rcases xag.mp hx with rfl | hx
  ·have := cX (i := d9 + (k : Int)) (j := 26) (by decide)
   show 97 <= 97 + ((d9 + (k : Int)) % 26).toNat /\ 97 + ((d9 + (k : Int)) % 26).toNat <= 122
   omega
  ·exact hc x hx
 have turn2 : ∀ (j : Nat) (d : D) (U : DSt), (cC 0 9)[j]? = some d -> (∃ (a b : Option D), U = [some (.int c), some (.int 9), some (.str iI), some (.lst (ns.map .int)), some (.str (aF l)), z, some (.lst (((List.range j).map fun k => aF (gZ (hd k :: l))).map .str)), a, b]) ->
   ∃ U', (p0 (U.set 7 (some d)) = .ok (.nx U') \/ p0 (U.set 7 (some d)) = .ok (.ct U')) /\ ∃ (a b : Option D), U' = [some (.int c), some (.int 9), some (.str iI), some (.lst (ns.map .int)), some (.str (aF l)), z, some (.lst (((List.range (j + 1)).map fun k => aF (gZ (hd k :: l))).map .str)), a, b] := by
  rintro j d U hd' ⟨a, b, rfl⟩
  have hj : j < 9 := by
   have := (xam.mp hd').1
   simpa [cC] using this
  obtain rfl : d = .int (j : Int) := by
   unfold cC at hd'
   rw [xba, xbw hj] at hd'
   simpa using hd'.symm
  have m := cX (i := d9 + (j : Int)) (j := 26) (by decide)
  unfold p0; kd_p
  rw [g9]; walk_at "evd"
  rw [yE _ m.1 m.2]; kd_p
  rw [add_ok (by simp; omega)]; kd_p
  unfold JS; kd_p
  rw [Y3]; kd_p
  rw [show ([97 + ((d9 + (j : Int)) % 26).toNat] ++ l) = hd j :: l from rfl]
  rw [zad]; kd_p
  rw [add_ok (by cases kept (aF (hd j :: l)) <;> simp <;> omega), lZ _ _ _ _ (by simp; omega)]
  refine ⟨_, .inl rfl, some (.int (j : Int)), some (.str (aF (hd j :: l))), ?_⟩
  have en : hd j :: l ++ (bif kept (aF (hd j :: l)) then [97] else []) = gZ (hd j :: l) := by
   unfold gZ
   cases kept (aF (hd j :: l)) <;> simp
  rw [en, List.range_succ, xaz, xaz]; rfl
 obtain ⟨U', e3, a, b, rfl⟩ := pP (i := 7) (fb := p0) _ _ turn2 [some (.int c), some (.int 9), some (.str iI), some (.lst (ns.map .int)), some (.str (aF l)), z, some (.lst []), none, none] ⟨none, none, rfl⟩
 rw [show (cC 0 9).length = 9 from rfl] at e3
 rw [e3]; kd_p
 unfold JT; kd_p
 have hat : ∀ i x, ((List.range 9).map fun k => aF (gZ (hd k :: l)))[i]? = some x -> i < 9 /\ x = aF (gZ (hd i :: l)) := fun i x h => by
  have hi := (xam.mp h).1
  rw [xae, List.length_range] at hi
  rw [xba, xbw hi] at h
  exact ⟨hi, by simpa using h.symm⟩
 refine ⟨(List.range 9).map fun k => aF (gZ (hd k :: l)), rfl, by simp, fun x hx => ?_, fun x hx => ?_, fun i j x y hx hy he => ?_⟩
 ·obtain ⟨k, _, rfl⟩ := xa7.mp hx
  exact (yN (hL k) hl7).1
 ·obtain ⟨k, _, rfl⟩ := xa7.mp hx
  rw [oH]
  exact zac (hL k)
 ·obtain ⟨hi, rfl⟩ := hat i x hx
  obtain ⟨hj, rfl⟩ := hat j y hy
  rw [oH, oH, (yN (hL i) hl7).2, (yN (hL j) hl7).2] at he
  have he : 97 + ((d9 + (i : Int)) % 26).toNat = 97 + ((d9 + (j : Int)) % 26).toNat := xbk he
  have := cX (i := d9 + (i : Int)) (j := 26) (by decide)
  have := cX (i := d9 + (j : Int)) (j := 26) (by decide)
  omega
def rn (a : Str) : Str := aF ((cl a).take 7 ++ [114])
theorem uC {a : Str} (h : Nm a) (hL : Lt (cl a)) : Nm (rn a) /\ (cl (rn a))[0]? = (cl a)[0]? := by
 have hp := (uB h).1
 have hl : ((cl a).take 7).length <= 7 := by rw [xa9]; omega
 refine ⟨yL (by simp) (by simp; omega) (fun x hx => ?_) ?_, ?_⟩
 ·rcases xay.mp hx with h | h
  ·exact hL x (xcd h)
  ·rw [xbb.mp h]; omega
 ·rw [yM, decide_eq_false_iff_not]
  intro h
  rcases h with h | h | h | h <;> (have := congrArg List.getLast? h; simp at this)
 ·unfold rn
  rw [oH]
  cases hc : cl a with
  | nil => rw [hc] at hp; simp at hp
  | cons x xs => rfl
end LmDn
open L2 DL Mir
namespace LmDo
open LmA LmY Lk31 Rdr TxtA LmWa LmWf LmDa LmDb LmDd LmDg LmDm LmDn
theorem MA {ds : List Int} (h : ds.length = 12) : ∃ d0 d1 d2 d3 d4 d5 d6 d7 d8 d9 d10 d11, ds = [d0, d1, d2, d3, d4, d5, d6, d7, d8, d9, d10, d11] := by
 match ds, h with
 | [d0, d1, d2, d3, d4, d5, d6, d7, d8, d9, d10, d11], _ => exact ⟨d0, d1, d2, d3, d4, d5, d6, d7, d8, d9, d10, d11, rfl⟩
abbrev za : Str := "a"
def pk {α : Type} (z : α) (xs : List α) (d : Int) : α := xs.getD (d % (xs.length : Int)).toNat z
section
variable {α : Type} (z : α) (f : α -> D) {xs : List α} (hne : xs ≠ [])
include hne
theorem yO (d : Int) : pk z xs d ∈ xs := by
 have hp := xcw.mpr hne
 have m := cX (i := d) (j := (xs.length : Int)) (by omega)
 unfold pk
 rw [xbf, xas (show (d % (xs.length : Int)).toNat < xs.length by omega)]
 exact xby _
theorem uD (d : Int) : bI aE (.ok (.lst (xs.map f))) (bI aQ (.ok (.int d)) (.ok (.int ((xs.map f).length : Int)))) = .ok (f (pk z xs d)) := by
 have hp := xcw.mpr hne
 have m := cX (i := d) (j := (xs.length : Int)) (by omega)
 rw [xae, cF, dO _ _ (by omega), cF]
 obtain ⟨j, hj⟩ : ∃ j : Nat, d % (xs.length : Int) = (j : Int) := ⟨(d % (xs.length : Int)).toNat, by omega⟩
 rw [hj]
 refine l0 ?_
 have hlt : j < xs.length := by omega
 unfold pk
 rw [hj, xbl, xba, xbf, xas hlt]; rfl
end
abbrev kD (k : Str × Nat) : D := .tup [.str k.1, .int (k.2 : Int)]
structure mM (k : Str × Nat) : Prop where
 nm : Nm k.1
 l1 : 1 <= k.2
 l8 : k.2 <= 8
theorem uE {ws : List Str} (ne : ws ≠ []) (l : ws.length <= 13) (h : ∀ x ∈ ws, Nm x \/ x = "=" \/ x = "x" \/ x = "rule" \/ x = ">" \/ x = "times" \/ x = "end") : Gd ws := by
 refine ⟨ne, l, fun x hx => ?_⟩
 rcases h x hx with h | rfl | rfl | rfl | rfl | rfl | rfl
 ·exact ⟨(uB h).2.1, (uB h).2.2.1, (uB h).2.2.2⟩
 all_goals decide
structure uF (r : Rw) : Prop where
 ok : ∀ d, b6 r d
 wd : ∃ ws, Rw.wd r = [ws] /\ Gd ws
theorem zae {n a b c e : Str} (h1 : Nm n) (h2 : Nm a) (h3 : Nm b) (h4 : Nm c) (h5 : Nm e) : uF (.cross n a b c e) := by
 refine ⟨fun d => by rw [b6]; exact ⟨h1, h2, h3, h4, h5⟩, [n, "=", a, b, "x", c, e], by rw [Rw.wd], uE (by simp) (by simp) fun x hx => ?_⟩
 simp only [xag, xa5, or_false] at hx
 rcases hx with rfl | rfl | rfl | rfl | rfl | rfl | rfl
 ·exact .inl h1
 ·exact .inr (.inl rfl)
 ·exact .inl h2
 ·exact .inl h3
 ·exact .inr (.inr (.inl rfl))
 ·exact .inl h4
 ·exact .inl h5
theorem MB {n f : Str} {as : List Str} (h1 : Nm n) (h2 : Nm f) (h0 : as ≠ []) (h9 : as.length <= 9) (h3 : ∀ x ∈ as, Nm x) : uF (.rule n f as) := by
 refine ⟨fun d => by rw [b6]; exact ⟨h1, h2, h0, by omega, h3⟩, [n, "=", f] ++ as, by rw [Rw.wd], uE (by simp) (by simp; omega) fun x hx => ?_⟩
 rcases xay.mp hx with hx | hx
 ·simp only [xag, xa5, or_false] at hx
  rcases hx with rfl | rfl | rfl
  ·exact .inl h1
  ·exact .inr (.inl rfl)
  ·exact .inl h2
 ·exact .inl (h3 x hx)
theorem zaf {ds : List Int} (hd : ds.length = 12) {xs : List Str} (hne : xs ≠ []) (hx : ∀ x ∈ xs, Nm x) {ks : List (Str × Nat)} (hk : ∀ k ∈ ks, mM k) :
  ∃ r, mG [.lst (ds.map .int), .lst (xs.map .str), .lst (ks.map kD)] = .ok (Rw.d r) /\ uF r := by
 obtain ⟨d0, d1, d2, d3, d4, d5, d6, d7, d8, d9, d10, d11, rfl⟩ := MA hd
 have pm : ∀ d, Nm (pk za xs d) := fun d => hx _ (yO za hne d)
 have po : ∀ d, bI aE (.ok (.lst (xs.map .str))) (bI aQ (.ok (.int d)) (.ok (.int ((xs.map D.str).length : Int)))) = .ok (.str (pk za xs d)) := uD za .str hne
 let W : List D := [.int d0, .int d1, .int d2, .int d3, .int d4, .int d5, .int d6, .int d7, .int d8, .int d9, .int d10, .int d11]
 have eW : [d0, d1, d2, d3, d4, d5, d6, d7, d8, d9, d10, d11].map D.int = W := rfl
 rw [eW, YT]
 let A : Option D := some (.lst W)
 let B : Option D := some (.lst (xs.map .str))
 let C : Option D := some (.lst (ks.map kD))
 let some8 : List Str := [d3, d4, d5, d6, d7, d8, d9, d10].map (pk za xs)
 have s0 : bZ 3 (aC aE (aA 1) (aC aQ (aC aE (aA 0) (eC (.int 1))) (aL bB (aB (aA 1) aD)))) [A, B, C, none, none, none, none] = .ok (.nx [A, B, C, some (.str (pk za xs d1)), none, none, none]) := by
  show ((bI aE (.ok (.lst (xs.map .str))) (bI aQ (.ok (.int d1)) (.ok (.int ((xs.map D.str).length : Int))))).bind fun d => R.ok (aG.nx ([A, B, C, none, none, none, none].set 3 (some d)))) = _
  rw [po]; rfl
 have s1 : dY 1 [0] (c5 (bY (aA 0) (bF (eC (.int 3))) (bF (eC (.int 11))))) bV dB (aC aE (aA 2) (aC aQ (aA 0) (aL bB (aB (aA 2) aD)))) [A, B, C, some (.str (pk za xs d1)), none, none, none] = .ok (some8.map .str) := by
  rw [nO, show c5 (bY (aA 0) (bF (eC (.int 3))) (bF (eC (.int 11)))) [A, B, C, some (.str (pk za xs d1)), none, none, none] = .ok ([d3, d4, d5, d6, d7, d8, d9, d10].map .int) from rfl,
   pQ (g := fun d => match d with | .int d => .str (pk za xs d) | d => d) (by simp) (fun d hd => ?_)]
  ·rfl
  ·obtain ⟨i, _, rfl⟩ := xa7.mp hd
   exact po i
 have s1' : cM [] 4 (aY (dY 1 [0] (c5 (bY (aA 0) (bF (eC (.int 3))) (bF (eC (.int 11))))) bV dB (aC aE (aA 2) (aC aQ (aA 0) (aL bB (aB (aA 2) aD)))))) [A, B, C, some (.str (pk za xs d1)), none, none, none] = .ok (.nx [A, B, C, some (.str (pk za xs d1)), some (.lst (some8.map .str)), none, none]) := by
  show ((aY _ [A, B, C, some (.str (pk za xs d1)), none, none, none]).bind fun d => R.ok (aG.nx ([A, B, C, some (.str (pk za xs d1)), none, none, none].set 4 (some d)))) = _
  rw [iW, s1]; rfl
 have hs8 : ∀ x ∈ some8, Nm x := fun x hx => by
  obtain ⟨d, _, rfl⟩ := xa7.mp hx
  exact pm d
 unfold tX
 rw [bS, s0, bO]
 unfold J3
 rw [bS, s1', bO]
 unfold J2
 rw [bS, dN]
 have hc : ∃ b, gD (aM (aC eM (aC aQ (aC aE (aA 0) (eC (.int 0))) (eC (.int 8))) (eC (.int 4)))) (aM (aC cE (aA 2) (aY (bD aD)))) [A, B, C, some (.str (pk za xs d1)), some (.lst (some8.map .str)), none, none] = .ok b /\ (b = true -> ks ≠ []) := by
  have t1 : aM (aC eM (aC aQ (aC aE (aA 0) (eC (.int 0))) (eC (.int 8))) (eC (.int 4))) [A, B, C, some (.str (pk za xs d1)), some (.lst (some8.map .str)), none, none] = .ok (decide (4 < d0 % 8)) := by
   show eD (bI eM (aQ (.int d0) (.int 8)) (.ok (.int 4))) = _
   rw [dO _ _ (by decide)]; rfl
  rw [nI, t1]
  cases decide (4 < d0 % 8) with
  | false => exact ⟨false, rfl, by simp⟩
  | true =>
   cases ks with
   | nil => exact ⟨false, rfl, by simp⟩
   | cons k ks =>
    refine ⟨true, ?_, by simp⟩
    show eD (cE (.lst ((k :: ks).map kD)) (.lst [])) = _
    rw [sL (by
     show (aT 9 (.lst ((k :: ks).map kD)) && true) = true
     rw [xcp, show aT 9 (.lst ((k :: ks).map kD)) = ((k :: ks).map kD).all (aT 8) from by unfold aT; rfl, xa8]
     intro d hd
     obtain ⟨x, _, rfl⟩ := xa7.mp hd
     rfl)]
    rfl
 obtain ⟨b, hb, hkn⟩ := hc
 rw [hb]
 cases b with
 | false =>
  rw [fL, lV, bO]
  unfold J1
  refine ⟨.cross (pk za xs d1) (pk za xs d3) (pk za xs d4) (pk za xs d5) (pk za xs d6), ?_, zae (pm _) (pm _) (pm _) (pm _) (pm _)⟩
  rw [Rw.d]; rfl
 | true =>
  have hk0 := hkn rfl
  have hK := hk _ (yO (za, 1) hk0 d2)
  have e2 : fI [] [5, 6] (b8 2) (aC aE (aA 2) (aC aQ (aC aE (aA 0) (eC (.int 2))) (aL bB (aB (aA 2) aD)))) [A, B, C, some (.str (pk za xs d1)), some (.lst (some8.map .str)), none, none] = .ok (.nx [A, B, C, some (.str (pk za xs d1)), some (.lst (some8.map .str)), some (.str (pk (za, 1) ks d2).1), some (.int ((pk (za, 1) ks d2).2 : Int))]) := by
   rw [kT, show aC aE (aA 2) (aC aQ (aC aE (aA 0) (eC (.int 2))) (aL bB (aB (aA 2) aD))) (mask [] [A, B, C, some (.str (pk za xs d1)), some (.lst (some8.map .str)), none, none]) = .ok (kD (pk (za, 1) ks d2)) from uD (za, 1) kD hk0 d2]
   rfl
  rw [iY]
  unfold J0
  rw [bS, e2, bO]
  unfold JZ
  refine ⟨.rule (pk za xs d1) (pk (za, 1) ks d2).1 (some8.take (pk (za, 1) ks d2).2), ?_, MB (pm _) hK.nm (fun h => ?_) (by rw [xa9]; show min _ 8 <= 9; omega) (fun x hx => hs8 x (xcd hx))⟩
  ·rw [nL, kS, bT, bT, bT, bT, lW, bT, LmL.eSl_to _ _ _ (some8.map .str) (pk (za, 1) ks d2).2 rfl rfl, Rw.d, xcq]
   rfl
  ·have := congrArg List.length h
   rw [xa9] at this
   have : min (pk (za, 1) ks d2).2 8 = 0 := this
   have := hK.l1
   omega
end LmDo
open L2 DL Mir
namespace LmDp
open LmA LmY Lk31 Rdr TxtA LmWa LmWf LmDa LmDb LmDd LmDg LmDm LmDn LmDo
def dH : Rws -> Rw -> Rws
 | .nil, r => .cons r .nil
 | .cons a rs, r => .cons a (dH rs r)
theorem oK : ∀ (rs : Rws) (r : Rw), Rws.ds (dH rs r) = Rws.ds rs ++ [Rw.d r]
 | .nil, r => by rw [dH, Rws.ds, Rws.ds]; rfl
 | .cons a rs, r => by rw [dH, Rws.ds, Rws.ds, oK rs r]; rfl
theorem oM : ∀ (rs : Rws) (r : Rw), Rws.wds (dH rs r) = Rws.wds rs ++ Rw.wd r
 | .nil, r => by rw [dH, Rws.wds, Rws.wds, Rws.wds]; simp
 | .cons a rs, r => by rw [dH, Rws.wds, Rws.wds, oM rs r, xa3]
theorem uG : ∀ (rs : Rws) (r : Rw), Rws.len (dH rs r) = Rws.len rs + 1
 | .nil, r => rfl
 | .cons a rs, r => by
  show Rws.len (dH rs r) + 1 = _
  rw [uG rs r]; rfl
theorem uH : ∀ (rs : Rws) (r : Rw) (d : Nat), RsOk rs d -> b6 r d -> RsOk (dH rs r) d
 | .nil, r, d, _, h => by rw [dH, RsOk]; exact ⟨h, by rw [RsOk]; trivial⟩
 | .cons a rs, r, d, h1, h => by
  rw [RsOk] at h1
  rw [dH, RsOk]
  exact ⟨h1.1, uH rs r d h1.2 h⟩
theorem zag : ∀ {rs : Rws}, 1 <= Rws.len rs -> ∃ r rs', rs = .cons r rs'
 | .nil, h => by cases h
 | .cons r rs, _ => ⟨r, rs, rfl⟩
theorem MC {k : Nat} (hk : k <= 60) : Gd ["times", bE k] := by
 refine ⟨by simp, by simp, fun x hx => ?_⟩
 simp only [xag, xa5, or_false] at hx
 rcases hx with rfl | rfl
 ·decide
 ·have : ∀ j : Fin 61, (bE j.val).length <= 8 /\ (32 : Nat) ∉ cl (bE j.val) /\ (59 : Nat) ∉ cl (bE j.val) := by decide +kernel
  exact this ⟨k, by omega⟩
theorem uI : Gd ["end"] := uE (by simp) (by simp) fun x hx => by
 rw [xbb.mp hx]; simp
structure Bd (rs : Rws) (d a a' : Nat) : Prop where
 ok : RsOk rs d
 le : a <= a'
 up : a' <= max a 40 + 3 * (d + 1)
 wl : (Rws.wds rs).length <= 2 * (a' - a)
 len : Rws.len rs <= 3
 gd : ∀ ws ∈ Rws.wds rs, Gd ws
section
variable {cs : List Int} (hcs : cs ≠ [])
include hcs
theorem yP {fc fa : DSt -> R D} {U : DSt} {a : Int} (h0 : fc U = .ok (.lst (cs.map .int))) (h1 : fa U = .ok (.int a)) : ∃ ds : List Int, aU cO (aB (aC aE fc (aC aQ fa (aL bB (aB fc aD)))) (aB (eC (.int 12)) aD)) U = .ok (.lst (ds.map .int)) /\ ds.length = 12 /\ ∀ n ∈ ds, 0 <= n /\ n < 1000000 := by
 obtain ⟨ds, e, hl, hb⟩ := t7 (pk 0 cs a) 12 (by decide)
 refine ⟨ds, ?_, hl, hb⟩
 rw [nF, bT, cS, cS, lW, bT, h0, h1]
 show iV cO (bK (bI aE (.ok (.lst (cs.map .int))) (bI aQ (.ok (.int a)) (.ok (.int ((cs.map D.int).length : Int))))) (.ok [.int 12])) = _
 rw [uD 0 D.int hcs]
 exact e
variable {xs : List Str} (hne : xs ≠ []) (hx : ∀ x ∈ xs, Nm x) {ks : List (Str × Nat)} (hk : ∀ k ∈ ks, mM k)
include hne hx hk
abbrev cG (cs : List Int) (a : Nat) (xs : List Str) (ks : List (Str × Nat)) (d : Nat) (rs : Rws) (z6 z7 z8 : Option D) : DSt := [some (.lst (cs.map .int)), some (.int (a : Int)), some (.lst (xs.map .str)), some (.lst (ks.map kD)), some (.int (d : Int)), some (.lst (Rws.ds rs)), z6, z7, z8]
theorem zah {m : List D -> R D} {d : Nat}
  (hm : ∀ d' a : Nat, d = d' + 1 -> ∃ r rs a', m [.lst (cs.map .int), .int (a : Int), .lst (xs.map .str), .lst (ks.map kD), .int (d' : Int)] = .ok (.tup [.tup (Rws.ds (.cons r rs)), .int ((a' : Nat) : Int)]) /\ Bd (.cons r rs) d' a a')
  (a0 a : Nat) (rs : Rws) (j : Nat) (hj : j < 3) (h1 : RsOk rs d) (h2 : a0 <= a) (h3 : a <= max (a0 + j) (40 + 3 * d + j)) (h4 : (Rws.wds rs).length <= 2 * (a - a0)) (h5 : Rws.len rs = j) (h6 : ∀ ws ∈ Rws.wds rs, Gd ws) (hL : (Rws.ds rs).length <= 1000000) (z6 z7 z8 : Option D) :
  ∃ a' rs' z7' z8', n9 m (cG cs a xs ks d rs z6 z7 z8) = .ok (.nx (cG cs a' xs ks d rs' z6 z7' z8')) /\ RsOk rs' d /\ a0 <= a' /\ a' <= max (a0 + (j + 1)) (40 + 3 * d + (j + 1)) /\ (Rws.wds rs').length <= 2 * (a' - a0) /\ Rws.len rs' = j + 1 /\ (∀ ws ∈ Rws.wds rs', Gd ws) /\ (Rws.ds rs').length = (Rws.ds rs).length + 1 := by
 obtain ⟨ds, e, hl, hb⟩ := yP hcs (U := mask [5] (cG cs (a + 1) xs ks d rs z6 z7 z8)) (fc := aA 0) (fa := aA 1) (a := ((a + 1 : Nat) : Int)) rfl rfl
 obtain ⟨d0, d1, d2, d3, d4, d5, d6, d7, d8, d9, d10, d11, rfl⟩ := MA hl
 have s1 : cM [5] 1 (aC aI (aA 1) (eC (.int 1))) (cG cs a xs ks d rs z6 z7 z8) = .ok (.nx (cG cs (a + 1) xs ks d rs z6 z7 z8)) := rfl
 generalize hW : [d0, d1, d2, d3, d4, d5, d6, d7, d8, d9, d10, d11] = W at e hl hb
 have s2 : cM [5] 7 (aU cO (aB (aC aE (aA 0) (aC aQ (aA 1) (aL bB (aB (aA 0) aD)))) (aB (eC (.int 12)) aD))) (cG cs (a + 1) xs ks d rs z6 z7 z8) = .ok (.nx (cG cs (a + 1) xs ks d rs z6 (some (.lst (W.map .int))) z8)) := by
  show (aU cO _ (mask [5] (cG cs (a + 1) xs ks d rs z6 z7 z8))).bind _ = _
  rw [e]; rfl
 have i0 : aE (.lst (W.map .int)) (.int 0) = .ok (.int d0) := by rw [<- hW]; rfl
 have i1 : aE (.lst (W.map .int)) (.int 1) = .ok (.int d1) := by rw [<- hW]; rfl
 have i2 : aE (.lst (W.map .int)) (.int 2) = .ok (.int d2) := by rw [<- hW]; rfl
 have b2 : 0 <= d2 := (hb d2 (by rw [<- hW]; simp)).1
 unfold n9
 rw [bS, s1, bO]
 unfold J7
 rw [bS, s2, bO]
 unfold J6
 rw [dN]
 have hc : gD (aM (aC a8 (aC aQ (aC aE (aA 7) (eC (.int 0))) (eC (.int 8))) (eC (.int 0)))) (gD (aM (aC eM (aA 4) (eC (.int 0)))) (aM (aC gL (aA 1) (eC (.int 40))))) (cG cs (a + 1) xs ks d rs z6 (some (.lst (W.map .int))) z8) = .ok (decide (d0 % 8 = 0) && (decide ((0 : Int) < (d : Int)) && decide (((a + 1 : Nat) : Int) < 40))) := by
  have t1 : aM (aC a8 (aC aQ (aC aE (aA 7) (eC (.int 0))) (eC (.int 8))) (eC (.int 0))) (cG cs (a + 1) xs ks d rs z6 (some (.lst (W.map .int))) z8) = .ok (decide (d0 % 8 = 0)) := by
   show eD (bI a8 (bI aQ (aE (.lst (W.map .int)) (.int 0)) (.ok (.int 8))) (.ok (.int 0))) = _
   rw [i0, cF, dO _ _ (by decide)]; rfl
  rw [nI, t1]
  cases decide (d0 % 8 = 0) with
  | false => rfl
  | true =>
   rw [sI, nI, show aM (aC eM (aA 4) (eC (.int 0))) (cG cs (a + 1) xs ks d rs z6 (some (.lst (W.map .int))) z8) = .ok (decide ((0 : Int) < (d : Int))) from rfl]
   cases decide ((0 : Int) < (d : Int)) with
   | false => rfl
   | true => rfl
 rw [hc]
 cases hB : (decide (d0 % 8 = 0) && (decide ((0 : Int) < (d : Int)) && decide (((a + 1 : Nat) : Int) < 40))) with
 | false =>
  obtain ⟨r, er, hr⟩ := zaf hl hne hx hk
  obtain ⟨ws, ew, hg⟩ := hr.wd
  rw [fL, lY, show dS (cG cs (a + 1) xs ks d rs z6 (some (.lst (W.map .int))) z8) 5 = .ok (Rws.ds rs) from rfl, show aU mG (aB (aA 7) (aB (aA 2) (aB (aA 3) aD))) (mask [5] (cG cs (a + 1) xs ks d rs z6 (some (.lst (W.map .int))) z8)) = .ok (Rw.d r) from er, lZ _ _ _ _ hL]
  refine ⟨a + 1, dH rs r, some (.lst (W.map .int)), z8, ?_, uH rs r d h1 (hr.ok d), by omega, by omega, ?_, by rw [uG, h5], fun w hw => ?_, ?_⟩
  ·unfold cG
   rw [oK]; rfl
  ·rw [oM, xaa, ew]
   simp only [xaf, xbh]
   omega
  ·rw [oM, ew] at hw
   rcases xay.mp hw with h | h
   ·exact h6 w h
   ·rw [xbb.mp h]; exact hg
  ·rw [oK, xaa]; rfl
 | true =>
  simp only [xaw, decide_eq_true_eq] at hB
  obtain ⟨_, hd0, ha40⟩ := hB
  obtain ⟨d', rfl⟩ : ∃ d', d = d' + 1 := ⟨d - 1, by omega⟩
  obtain ⟨r, rs1, a', em, bd⟩ := hm d' (a + 1) rfl
  have sA : fI [5] [8, 1] (b8 2) (aU m (aB (aA 0) (aB (aA 1) (aB (aA 2) (aB (aA 3) (aB (aC gSub (aA 4) (eC (.int 1))) aD)))))) (cG cs (a + 1) xs ks (d' + 1) rs z6 (some (.lst (W.map .int))) z8) = .ok (.nx (cG cs a' xs ks (d' + 1) rs z6 (some (.lst (W.map .int))) (some (.tup (Rws.ds (.cons r rs1)))))) := by
   rw [kT, show aU m (aB (aA 0) (aB (aA 1) (aB (aA 2) (aB (aA 3) (aB (aC gSub (aA 4) (eC (.int 1))) aD))))) (mask [5] (cG cs (a + 1) xs ks (d' + 1) rs z6 (some (.lst (W.map .int))) z8)) = m [.lst (cs.map .int), .int ((a + 1 : Nat) : Int), .lst (xs.map .str), .lst (ks.map kD), .int (((d' + 1 : Nat) : Int) - 1)] from rfl, show ((d' + 1 : Nat) : Int) - 1 = (d' : Int) by omega, em]
   rfl
  obtain ⟨k, ek, hk60⟩ : ∃ k : Nat, aC aE (aY (bD (aB (aC aQ (aC aE (aA 7) (eC (.int 2))) (eC (.int 4))) (aB (aC aQ (aC aE (aA 7) (eC (.int 2))) (eC (.int 61))) aD)))) (aL fK (aB (aC a8 (aC aQ (aC aE (aA 7) (eC (.int 1))) (eC (.int 16))) (eC (.int 1))) aD)) (mask [5] (cG cs a' xs ks (d' + 1) rs z6 (some (.lst (W.map .int))) (some (.tup (Rws.ds (.cons r rs1)))))) = .ok (.int (k : Int)) /\ k <= 60 := by
   have m4 := cX (i := d2) (j := 4) (by decide)
   have m61 := cX (i := d2) (j := 61) (by decide)
   have e0 : aC aE (aY (bD (aB (aC aQ (aC aE (aA 7) (eC (.int 2))) (eC (.int 4))) (aB (aC aQ (aC aE (aA 7) (eC (.int 2))) (eC (.int 61))) aD)))) (aL fK (aB (aC a8 (aC aQ (aC aE (aA 7) (eC (.int 1))) (eC (.int 16))) (eC (.int 1))) aD)) (mask [5] (cG cs a' xs ks (d' + 1) rs z6 (some (.lst (W.map .int))) (some (.tup (Rws.ds (.cons r rs1)))))) = aE (.lst [.int (d2 % 4), .int (d2 % 61)]) (.int (bif decide (d1 % 16 = 1) then 1 else 0)) := by
    show bI aE (pJ (gO (bK (bI aQ (aE (.lst (W.map .int)) (.int 2)) (.ok (.int 4))) (bK (bI aQ (aE (.lst (W.map .int)) (.int 2)) (.ok (.int 61))) (.ok []))))) (nG fK (bK (bI a8 (bI aQ (aE (.lst (W.map .int)) (.int 1)) (.ok (.int 16))) (.ok (.int 1))) (.ok []))) = _
    rw [i2, i1, cF, cF, cF, dO _ _ (by decide), dO _ _ (by decide), dO _ _ (by decide)]
    show bI aE (.ok (.lst [.int (d2 % 4), .int (d2 % 61)])) (nG fK (.ok [.bl (decide (d1 % 16 = 1))])) = _
    cases decide (d1 % 16 = 1) <;> rfl
   rw [e0]
   cases decide (d1 % 16 = 1) with
   | false => exact ⟨(d2 % 4).toNat, by show R.ok (D.int (d2 % 4)) = _; congr 2; omega, by omega⟩
   | true => exact ⟨(d2 % 61).toNat, by show R.ok (D.int (d2 % 61)) = _; congr 2; omega, by omega⟩
  rw [iY]
  unfold J5
  rw [bS, sA, bO]
  unfold J4
  rw [lY, show dS (cG cs a' xs ks (d' + 1) rs z6 (some (.lst (W.map .int))) (some (.tup (Rws.ds (.cons r rs1))))) 5 = .ok (Rws.ds rs) from rfl, kS, bT, bT, bT, ek]
  rw [show dM (bK (eC (.str "times") (mask [5] (cG cs a' xs ks (d' + 1) rs z6 (some (.lst (W.map .int))) (some (.tup (Rws.ds (.cons r rs1))))))) (bK (.ok (.int (k : Int))) (bK (aA 8 (mask [5] (cG cs a' xs ks (d' + 1) rs z6 (some (.lst (W.map .int))) (some (.tup (Rws.ds (.cons r rs1))))))) (aD (mask [5] (cG cs a' xs ks (d' + 1) rs z6 (some (.lst (W.map .int))) (some (.tup (Rws.ds (.cons r rs1))))))))) ) = .ok (Rw.d (.times k (.cons r rs1))) from by rw [Rw.d]; rfl, lZ _ _ _ _ hL]
  have b1 := bd.le
  have b2 := bd.up
  have b3 := bd.wl
  refine ⟨a', dH rs (.times k (.cons r rs1)), some (.lst (W.map .int)), some (.tup (Rws.ds (.cons r rs1))), ?_, uH rs _ _ h1 ?_, by omega, by omega, ?_, by rw [uG, h5], fun w hw => ?_, ?_⟩
  ·unfold cG
   rw [oK]; rfl
  ·rw [b6]
   exact ⟨hk60, by omega, ⟨r, rs1, rfl⟩, xaj bd.len (by decide), bd.ok⟩
  ·rw [oM, xaa, Rw.wd]
   simp only [xaf, xaa, xbh]
   omega
  ·rw [oM, Rw.wd] at hw
   rcases xay.mp hw with h | h
   ·exact h6 w h
   ·rcases xag.mp h with rfl | h
    ·exact MC hk60
    ·rcases xay.mp h with h | h
     ·exact bd.gd w h
     ·rw [xbb.mp h]; exact uI
  ·rw [oK, xaa]; rfl
theorem yQ : ∀ (n d a : Nat), d < n -> ∃ r rs a', jC n [.lst (cs.map .int), .int (a : Int), .lst (xs.map .str), .lst (ks.map kD), .int (d : Int)] = .ok (.tup [.tup (Rws.ds (.cons r rs)), .int ((a' : Nat) : Int)]) /\ Bd (.cons r rs) d a a'
 | 0, d, a, h => xaq h (Nat.not_lt_zero _)
 | n + 1, d, a, h => by
  have hm : ∀ d' a : Nat, d = d' + 1 -> ∃ r rs a', jC n [.lst (cs.map .int), .int (a : Int), .lst (xs.map .str), .lst (ks.map kD), .int (d' : Int)] = .ok (.tup [.tup (Rws.ds (.cons r rs)), .int ((a' : Nat) : Int)]) /\ Bd (.cons r rs) d' a a' := fun d' a hd => yQ n d' a (by omega)
  obtain ⟨ds, e, hl, hb⟩ := yP hcs (U := mask [5] (cG cs a xs ks d .nil none none none)) (fc := aA 0) (fa := aA 1) (a := (a : Int)) rfl rfl
  obtain ⟨d11, g11, a11, b11⟩ := jD ds hb 11 (by omega)
  have g11 : aE (.lst (ds.map .int)) (.int 11) = .ok (.int d11) := g11
  have m3 := cX (i := d11) (j := 3) (by decide)
  have turn : ∀ (j : Nat) (x : D) (U : DSt), (cC 0 (1 + d11 % 3).toNat)[j]? = some x -> (∃ (a' : Nat) (rs : Rws) (z6 z7 z8 : Option D), U = cG cs a' xs ks d rs z6 z7 z8 /\ RsOk rs d /\ a <= a' /\ a' <= max (a + j) (40 + 3 * d + j) /\ (Rws.wds rs).length <= 2 * (a' - a) /\ Rws.len rs = j /\ (∀ ws ∈ Rws.wds rs, Gd ws) /\ (Rws.ds rs).length = j) ->
    ∃ U', (n9 (jC n) (U.set 6 (some x)) = .ok (.nx U') \/ n9 (jC n) (U.set 6 (some x)) = .ok (.ct U')) /\ ∃ (a' : Nat) (rs : Rws) (z6 z7 z8 : Option D), U' = cG cs a' xs ks d rs z6 z7 z8 /\ RsOk rs d /\ a <= a' /\ a' <= max (a + (j + 1)) (40 + 3 * d + (j + 1)) /\ (Rws.wds rs).length <= 2 * (a' - a) /\ Rws.len rs = j + 1 /\ (∀ ws ∈ Rws.wds rs, Gd ws) /\ (Rws.ds rs).length = j + 1 := by
   rintro j x U hd ⟨a', rs, z6, z7, z8, rfl, h1, h2, h3, h4, h5, h6, h7⟩
   have hj : j < (1 + d11 % 3).toNat := by
    have := (xam.mp hd).1
    simpa [cC] using this
   obtain ⟨a2, rs2, y7, y8, e2, q1, q2, q3, q4, q5, q6, q7⟩ := zah hcs hne hx hk hm a a' rs j (by omega) h1 h2 h3 h4 h5 h6 (by omega) (some x) z7 z8
   exact ⟨_, .inl e2, a2, rs2, _, y7, y8, rfl, q1, q2, q3, q4, q5, q6, by rw [q7, h7]⟩
  obtain ⟨U', e2, a', rs, z6, z7, z8, rfl, h1, h2, h3, h4, h5, h6, h7⟩ := pP (i := 6) (fb := n9 (jC n)) _ _ turn (cG cs a xs ks d .nil none none none) ⟨a, .nil, none, none, none, rfl, by rw [RsOk]; trivial, xak _, by omega, by rw [Rws.wds]; simp, rfl, (fun ws hw => by rw [Rws.wds] at hw; cases hw), by rw [Rws.ds]; rfl⟩
  have hN : (cC 0 (1 + d11 % 3).toNat).length = (1 + d11 % 3).toNat := by simp [cC]
  rw [hN] at h3 h5 h7
  obtain ⟨r, rs', rfl⟩ := zag (show 1 <= Rws.len rs by omega)
  refine ⟨r, rs', a', ?_, h1, h2, by omega, h4, by omega, h6⟩
  rw [YU]
  unfold oA
  have s0 : fS [] 5 (bD aD) [some (.lst (cs.map .int)), some (.int (a : Int)), some (.lst (xs.map .str)), some (.lst (ks.map kD)), some (.int (d : Int)), none, none, none, none] = .ok (.nx (cG cs a xs ks d .nil none none none)) := by unfold cG; rw [Rws.ds]; rfl
  rw [bS, s0, bO]
  unfold J9
  have er : fG eG (aB (aC aI (eC (.int 1)) (aC aQ (aC aE (aU cO (aB (aC aE (aA 0) (aC aQ (aA 1) (aL bB (aB (aA 0) aD)))) (aB (eC (.int 12)) aD))) (eC (.int 11))) (eC (.int 3)))) aD) (mask [5] (cG cs a xs ks d .nil none none none)) = .ok (cC 0 (1 + d11 % 3).toNat) := by
   rw [wL, bT, cS, cS, cS, e]
   show wK eG (bK (bI aI (.ok (.int 1)) (bI aQ (aE (.lst (ds.map .int)) (.int 11)) (.ok (.int 3)))) (.ok [])) = _
   rw [g11, cF, dO _ _ (by decide), cF, pL, vV]
   show eG [.int (1 + d11 % 3)] = _
   exact wI _ (wJ (by omega) (by omega))
  rw [bS, wO, er, sM, e2, bO]
  unfold J8
  rfl
end
end LmDp
open L2 DL Mir
open L2 DL Mir
open L2 DL Mir
open L2 DL Mir
open L2 DL Mir
namespace LmWl
open LmA LmY LmWa LmWf LmWg TxtA
theorem lo (l : List Nat) : (aF l).length = l.length := by simp [aF, Str.length]
end LmWl
open L2 DL Mir
open L2 DL Mir
open L2 DL Mir
open L2 DL Mir
open L2 DL Mir
open L2 DL Mir
open L2 DL Mir
open L2 DL Mir
open L2 DL Mir
open L2 DL Mir
open L2 DL Mir
namespace LmXg
open LmA LmY LmWa LmWf LmWg LmWl TxtA
theorem ME (n d : Nat) (o : Option Int) (hd : d <= n) : (match o with | none => (d : Int) | some i => max 0 (min (if i < 0 then i + (n : Int) else i) (n : Int))) = ((HT.sIx n d o : Nat) : Int) := by
 cases o with
 | none => rfl
 | some i =>
  show max 0 (min (if i < 0 then i + (n : Int) else i) (n : Int)) = (((if i < 0 then (i + (n : Int)).toNat else min i.toNat n) : Nat) : Int)
  by_cases h : i < 0
  ·rw [xa4 h, xa4 h]; omega
  ·rw [xa1 h, xa1 h]; omega
theorem zai (n : Nat) (lo hi : Option Int) : Builtin.Str.strSliceIndices lo hi 1 n = (List.range (HT.sIx n n hi - HT.sIx n 0 lo)).map (fun k => HT.sIx n 0 lo + k) := by
 have h1 := ME n 0 lo (xbv _)
 have h2 := ME n n hi (xak _)
 have l1 := HT.sIx_le n 0 (xbv _) lo
 have l2 := HT.sIx_le n n (xak _) hi
 generalize HT.sIx n 0 lo = a at *
 generalize HT.sIx n n hi = b at *
 have e : Builtin.Str.strSliceIndices lo hi 1 n = sliceRange (a : Int) (b : Int) 1 := by
  rw [<- h1, <- h2]
  unfold Builtin.Str.strSliceIndices
  simp only [show (1 : Int) > 0 by decide, if_true]
  rfl
 rw [e]
 unfold sliceRange
 simp only [show (1 : Int) > 0 by decide, if_true]
 by_cases h : (a : Int) < b
 ·rw [xa4 h, show (((b : Int) - a + 1 - 1) / 1).toNat = b - a by rw [Int.ediv_one]; omega]
  refine xcv fun k _ => ?_
  omega
 ·rw [xa1 h, show b - a = 0 by omega]; rfl
theorem zaj (l : List Nat) (lo hi : Option Int) : i6 (aF l) lo hi = aF (cJ l lo hi) := by
 have hp : slicePicked (aF l) (gR lo) (gR hi) none = (List.range (HT.sIx l.length l.length hi - HT.sIx l.length 0 lo)).map (fun k => HT.sIx l.length 0 lo + k) := by
  rw [<- zai, <- LmWl.lo l]
  unfold slicePicked gR
  cases lo <;> cases hi <;> rfl
 have l1 := HT.sIx_le l.length 0 (xbv _) lo
 have l2 := HT.sIx_le l.length l.length (xak _) hi
 unfold i6 cJ
 rw [hp, xae, List.length_range, LmWl.lo l]
 generalize HT.sIx l.length 0 lo = a at *
 generalize HT.sIx l.length l.length hi = b at *
 by_cases h : (b - a == l.length) = true
 ·rw [xa4 h]
  have h := eq_of_beq h
  rcases Nat.eq_zero_or_pos l.length with hz | hz
  ·rw [xcj.mp hz]; simp
  ·rw [show a = 0 by omega, show b - 0 = l.length by omega, List.drop_zero, List.take_length]
 ·rw [xa1 h]
  have : ((List.range (b - a)).map (fun k => a + k)).filterMap ((aF l).cps[·]?) = (l.drop a).take (b - a) := by
   rcases Nat.lt_or_ge b a with hab | hab
   ·rw [show b - a = 0 by omega]; simp
   ·have := StrLaws.picks l (b - a) a (by omega)
    simpa [aF] using this
  rw [this]; rfl
theorem zak (l : List Nat) (h : l.length <= 1000000) (lo hi : Option Int) : sS (.str (aF l)) lo hi = .ok (.str (aF (cJ l lo hi))) := by
 show (bif aW (i6 (aF l) lo hi).length then _ else _) = _
 rw [zaj, show aW (aF (cJ l lo hi)).length = true from xai (by
  rw [LmWl.lo _]
  refine xaj ?_ (xaj h (by decide))
  unfold cJ
  rw [xa9, xbu]
  omega)]; rfl
theorem slS {fe : DSt -> R D} {fl fh : DSt -> R (Option Int)} {U : DSt} {l : List Nat} {lo hi : Option Int} (h1 : fe U = .ok (.str (aF l))) (h2 : fl U = .ok lo) (h3 : fh U = .ok hi) (h : l.length <= 1000000) : fV fe fl fh U = .ok (.str (aF (cJ l lo hi))) := by
 unfold fV
 rw [h1, R.ok_bind, h2, R.ok_bind, h3, R.ok_bind, zak l h]
theorem cut_take (l : List Nat) (n : Nat) : cJ l none (some (n : Int)) = l.take n := by
 unfold cJ
 rw [HT.sIx_none, HT.sIx_nat, List.drop_zero, Nat.sub_zero, <- List.take_eq_take_min]
end LmXg
open L2 DL Mir
namespace LmDq
open LmA LmY Lk31 Rdr TxtA LmWa LmWf LmDa LmDb LmDd LmDe LmDf LmDg LmDi LmDm LmDn LmDo LmDp
theorem MF {fe : DSt -> R D} {U : DSt} {a : Str} (h : fe U = .ok (.str a)) (hl : a.length <= 1000) : aC aI (fV fe bR (bF (eC (.int 7)))) (eC (.str "r")) U = .ok (.str (rn a)) := by
 have e : fV fe bR (bF (eC (.int 7))) U = .ok (.str (aF ((cl a).take 7))) := by
  rw [LmXg.slS (l := cl a) (lo := none) (hi := some ((7 : Nat) : Int)) (by rw [h, qF]) rfl rfl (by rw [t9]; omega), LmXg.cut_take]
 rw [cS, e]
 show aI (.str (aF ((cl a).take 7))) (.str (aF [114])) = _
 rw [LmWg.add_ok (by rw [xa9]; show min 7 _ + 1 <= _; omega)]; rfl
theorem zal {α : Type} (xs : List α) (t : Nat) (x : α) : x ∈ xs.drop t ++ xs.take t ↔ x ∈ xs := by
 rw [xay, or_comm, <- xay, List.take_append_drop]
theorem zam {α : Type} {xs : List α} (h : xs.Nodup) (t : Nat) : (xs.drop t ++ xs.take t).Nodup :=
 (List.perm_append_comm.trans (by rw [List.take_append_drop])).nodup_iff.mpr h
theorem zan {ns : List Str} (h : Ns ns) : ns.Nodup := by
 unfold List.Nodup
 rw [List.pairwise_iff_getElem]
 intro i j hi hj hij he
 have := h.first i j _ _ (xas hi) (xas hj) (by rw [he])
 omega
structure uJ (l : Rl) : Prop where
 ok : gY l
 gd : ∀ ws ∈ l.wd, Gd ws
theorem zao {nm out : Str} {ps : List Str} (h1 : Nm nm) (h2 : Nm out) (h3 : ∀ x ∈ ps, Nm x) (h8 : ps.length <= 8) : Gd (bA nm ps out) :=
 uE (by simp) (by simp; omega) fun x hx => by
  rcases xag.mp hx with rfl | hx
  ·simp
  ·rcases xag.mp hx with rfl | hx
   ·exact .inl h1
   ·rcases xay.mp hx with hx | hx
    ·exact .inl (h3 x hx)
    ·simp only [xag, xa5, or_false] at hx
     rcases hx with rfl | rfl
     ·simp
     ·exact .inl h2
abbrev cB (cs : List Int) (N : Int) (ns : List Str) (ls : List Rl) (ks : List (Str × Nat)) (a : Nat) (z6 z7 z8 z9 z10 z11 : Option D) : DSt := [some (.lst (cs.map .int)), some (.int N), some (.lst (ns.map .str)), some (.lst (ls.map Rl.d)), some (.lst (ks.map kD)), some (.int (a : Int)), z6, z7, z8, z9, z10, z11]
section
variable {cs : List Int} (hcs : cs ≠ []) {ns : List Str} (hn : Ns ns)
include hcs hn
theorem zap {N : Int} (ls : List Rl) (ks : List (Str × Nat)) (a j : Nat) (hj : j < 3) (hks : ∀ k ∈ ks, mM k) (hl : ls.length = j) (hkl : ks.length = j) (x : Str) (hx : ns[j]? = some x) (z7 z8 z9 z10 z11 : Option D) :
  ∃ l k a' y7 y8 y9 y10 y11, mH (cB cs N ns ls ks a (some (.int (j : Int))) z7 z8 z9 z10 z11) = .ok (.nx (cB cs N ns (ls ++ [l]) (ks ++ [k]) a' (some (.int (j : Int))) y7 y8 y9 y10 y11)) /\ uJ l /\ mM k /\ l.nm = rn x /\ a <= a' /\ a' <= max (a + 3) 40 + 15 /\ l.wd.length <= 2 * (a' - a) + 2 := by
 have hxm : x ∈ ns := xbo hx
 have hxN := hn.ok x hxm
 obtain ⟨hr1, hr2⟩ := uC hxN (hn.lt x hxm)
 have h9 := hn.len
 obtain ⟨ds, e, hl12, hb⟩ := yP hcs (U := mask [3] (cB cs N ns ls ks a (some (.int (j : Int))) z7 z8 z9 z10 z11)) (fc := aA 0) (fa := aC aI (aA 5) (aA 6)) (a := (a : Int) + (j : Int)) rfl rfl
 obtain ⟨d0, g0, a0, b0⟩ := jD ds hb 0 (by omega)
 obtain ⟨d1, g1, a1, b1⟩ := jD ds hb 1 (by omega)
 obtain ⟨d2, g2, a2, b2⟩ := jD ds hb 2 (by omega)
 obtain ⟨d3, g3, a3, b3⟩ := jD ds hb 3 (by omega)
 have g0 : aE (.lst (ds.map .int)) (.int 0) = .ok (.int d0) := g0
 have g1 : aE (.lst (ds.map .int)) (.int 1) = .ok (.int d1) := g1
 have g2 : aE (.lst (ds.map .int)) (.int 2) = .ok (.int d2) := g2
 have g3 : aE (.lst (ds.map .int)) (.int 3) = .ok (.int d3) := g3
 let W : Option D := some (.lst (ds.map .int))
 let J : Option D := some (.int (j : Int))
 have s0 : cM [3] 7 (aU cO (aB (aC aE (aA 0) (aC aQ (aC aI (aA 5) (aA 6)) (aL bB (aB (aA 0) aD)))) (aB (eC (.int 12)) aD))) (cB cs N ns ls ks a J z7 z8 z9 z10 z11) = .ok (.nx (cB cs N ns ls ks a J W z8 z9 z10 z11)) := by
  show (aU cO _ (mask [3] (cB cs N ns ls ks a J z7 z8 z9 z10 z11))).bind _ = _
  rw [e]; rfl
 have m8 := cX (i := d0) (j := 8) (by decide)
 obtain ⟨p, hp⟩ : ∃ p : Nat, 1 + d0 % 8 = (p : Int) := ⟨(1 + d0 % 8).toNat, by omega⟩
 have s1 : cM [3] 8 (bY (aA 2) bR (bF (aC aI (eC (.int 1)) (aC aQ (aC aE (aA 7) (eC (.int 0))) (eC (.int 8)))))) (cB cs N ns ls ks a J W z8 z9 z10 z11) = .ok (.nx (cB cs N ns ls ks a J W (some (.lst ((ns.take p).map .str))) z9 z10 z11)) := by
  show (bY (aA 2) bR (bF _) (mask [3] (cB cs N ns ls ks a J W z8 z9 z10 z11))).bind _ = _
  rw [LmL.eSl_to _ _ _ (ns.map .str) p rfl (by
   show bI aI (.ok (.int 1)) (bI aQ (aE (.lst (ds.map .int)) (.int 0)) (.ok (.int 8))) = _
   rw [g0, cF, dO _ _ (by decide), cF, pL, hp]), <- xcq]
  rfl
 have pl : (ns.take p).length = p := by rw [xa9]; omega
 have m1 := cX (i := d1) (j := (p : Int)) (by omega)
 obtain ⟨t, ht⟩ : ∃ t : Nat, d1 % (p : Int) = (t : Int) := ⟨(d1 % (p : Int)).toNat, by omega⟩
 have s2 : cM [3] 9 (aC aQ (aC aE (aA 7) (eC (.int 1))) (aL bB (aB (aA 8) aD))) (cB cs N ns ls ks a J W (some (.lst ((ns.take p).map .str))) z9 z10 z11) = .ok (.nx (cB cs N ns ls ks a J W (some (.lst ((ns.take p).map .str))) (some (.int (t : Int))) z10 z11)) := by
  show ((bI aQ (aE (.lst (ds.map .int)) (.int 1)) (.ok (.int (((ns.take p).map D.str).length : Int)))).bind _) = _
  rw [g1, xae, pl, cF, dO _ _ (by omega), ht]; rfl
 let ps : List Str := (ns.take p).drop t ++ (ns.take p).take t
 have hps : ∀ x ∈ ps, Nm x := fun x hx => hn.ok x (xcd ((zal _ t x).mp hx))
 have hpn : ps.Nodup := zam ((zan hn).sublist (List.take_sublist _ _)) t
 have hpl : ps.length = p := by
  show ((ns.take p).drop t ++ (ns.take p).take t).length = p
  rw [xaa, xbu, pl, xa9, pl]; omega
 have hpne : ps ≠ [] := fun h => by rw [h] at hpl; simp at hpl; omega
 have s3 : cM [3] 8 (aC aI (bY (aA 8) (bF (aA 9)) bR) (bY (aA 8) bR (bF (aA 9)))) (cB cs N ns ls ks a J W (some (.lst ((ns.take p).map .str))) (some (.int (t : Int))) z10 z11) = .ok (.nx (cB cs N ns ls ks a J W (some (.lst (ps.map .str))) (some (.int (t : Int))) z10 z11)) := by
  show (aC aI _ _ (mask [3] (cB cs N ns ls ks a J W (some (.lst ((ns.take p).map .str))) (some (.int (t : Int))) z10 z11))).bind _ = _
  rw [cS, LmL.eSl_from _ _ _ ((ns.take p).map .str) t rfl rfl, LmL.eSl_to _ _ _ ((ns.take p).map .str) t rfl rfl, cF, <- List.map_drop, <- xcq]
  have ea : aI (.lst (((ns.take p).drop t).map .str)) (.lst (((ns.take p).take t).map .str)) = .ok (.lst (ps.map .str)) := by
   show (bif aW ((((ns.take p).drop t).map D.str).length + (((ns.take p).take t).map D.str).length) then R.ok (D.lst (((ns.take p).drop t).map D.str ++ ((ns.take p).take t).map D.str)) else .bad) = _
   rw [show aW ((((ns.take p).drop t).map D.str).length + (((ns.take p).take t).map D.str).length) = true from xai (by rw [xae, xae, xbu, pl, xa9, pl]; exact xaj (show _ <= 1000 by omega) (by decide)), <- xaz]; rfl
  rw [ea]; rfl
 obtain ⟨is, hi1, hi2, hi3, s4⟩ : ∃ is : List Str, is ≠ [] /\ (∀ x ∈ is, Nm x) /\ is.length <= 9 /\ cM [3] 10 (aC aE (aY (bD (aB (aA 8) (aB (aA 2) aD)))) (aL fK (aB (aC a8 (aC aQ (aC aE (aA 7) (eC (.int 3))) (eC (.int 4))) (eC (.int 1))) aD))) (cB cs N ns ls ks a J W (some (.lst (ps.map .str))) (some (.int (t : Int))) z10 z11) = .ok (.nx (cB cs N ns ls ks a J W (some (.lst (ps.map .str))) (some (.int (t : Int))) (some (.lst (is.map .str))) z11)) := by
  have e0 : cM [3] 10 (aC aE (aY (bD (aB (aA 8) (aB (aA 2) aD)))) (aL fK (aB (aC a8 (aC aQ (aC aE (aA 7) (eC (.int 3))) (eC (.int 4))) (eC (.int 1))) aD))) (cB cs N ns ls ks a J W (some (.lst (ps.map .str))) (some (.int (t : Int))) z10 z11) = (aE (.lst [.lst (ps.map .str), .lst (ns.map .str)]) (.int (bif decide (d3 % 4 = 1) then 1 else 0))).bind fun d => .ok (.nx (cB cs N ns ls ks a J W (some (.lst (ps.map .str))) (some (.int (t : Int))) (some d) z11)) := by
   show (bI aE (.ok (.lst [.lst (ps.map .str), .lst (ns.map .str)])) (nG fK (bK (bI a8 (bI aQ (aE (.lst (ds.map .int)) (.int 3)) (.ok (.int 4))) (.ok (.int 1))) (.ok [])))).bind _ = _
   rw [g3, cF, dO _ _ (by decide)]
   show (bI aE (.ok (.lst [.lst (ps.map .str), .lst (ns.map .str)])) (nG fK (.ok [.bl (decide (d3 % 4 = 1))]))).bind _ = _
   cases decide (d3 % 4 = 1) <;> rfl
  rw [e0]
  cases decide (d3 % 4 = 1) with
  | false => exact ⟨ps, hpne, hps, by omega, rfl⟩
  | true => exact ⟨ns, fun h => by rw [h] at h9; simp at h9, hn.ok, by omega, rfl⟩
 obtain ⟨r, rs, a', eb, bd⟩ := yQ hcs hi1 hi2 hks 64 4 (a + 3) (by decide)
 have s5 : fI [3] [11, 5] (b8 2) (aU lA (aB (aA 0) (aB (aC aI (aA 5) (eC (.int 3))) (aB (aA 10) (aB (aA 4) (aB (eC (.int 4)) aD)))))) (cB cs N ns ls ks a J W (some (.lst (ps.map .str))) (some (.int (t : Int))) (some (.lst (is.map .str))) z11) = .ok (.nx (cB cs N ns ls ks a' J W (some (.lst (ps.map .str))) (some (.int (t : Int))) (some (.lst (is.map .str))) (some (.tup (Rws.ds (.cons r rs)))))) := by
  rw [kT, show aU lA (aB (aA 0) (aB (aC aI (aA 5) (eC (.int 3))) (aB (aA 10) (aB (aA 4) (aB (eC (.int 4)) aD))))) (mask [3] (cB cs N ns ls ks a J W (some (.lst (ps.map .str))) (some (.int (t : Int))) (some (.lst (is.map .str))) z11)) = _ from eb]; rfl
 have ex : ∀ U : DSt, aA 2 U = .ok (.lst (ns.map .str)) -> aA 6 U = .ok (.int (j : Int)) -> aC aI (fV (aC aE (aA 2) (aA 6)) bR (bF (eC (.int 7)))) (eC (.str "r")) U = .ok (.str (rn x)) := fun U h2 h6 => MF (by
  rw [cS, h2, h6, cF]
  exact l0 (by rw [xba, hx]; rfl)) hxN.2
 let l : Rl := ⟨rn x, ps, pk za is d2, r, rs⟩
 have hout : Nm (pk za is d2) := hi2 _ (yO za hi1 d2)
 have e6 : bL (aB (aC aI (fV (aC aE (aA 2) (aA 6)) bR (bF (eC (.int 7)))) (eC (.str "r"))) (aB (aL eY (aB (aA 8) aD)) (aB (aC aE (aA 10) (aC aQ (aC aE (aA 7) (eC (.int 2))) (aL bB (aB (aA 10) aD)))) (aB (aA 11) aD)))) (mask [3] (cB cs N ns ls ks a' J W (some (.lst (ps.map .str))) (some (.int (t : Int))) (some (.lst (is.map .str))) (some (.tup (Rws.ds (.cons r rs)))))) = .ok (Rl.d l) := by
  rw [kS, bT, bT, bT, bT, ex _ rfl rfl, show aC aE (aA 10) (aC aQ (aC aE (aA 7) (eC (.int 2))) (aL bB (aB (aA 10) aD))) (mask [3] (cB cs N ns ls ks a' J W (some (.lst (ps.map .str))) (some (.int (t : Int))) (some (.lst (is.map .str))) (some (.tup (Rws.ds (.cons r rs)))))) = bI aE (.ok (.lst (is.map .str))) (bI aQ (aE (.lst (ds.map .int)) (.int 2)) (.ok (.int ((is.map D.str).length : Int)))) from rfl, g2, uD za .str hi1 d2]
  rfl
 have e7 : aC aI (aA 4) (aY (bD (aB (bL (aB (aC aI (fV (aC aE (aA 2) (aA 6)) bR (bF (eC (.int 7)))) (eC (.str "r"))) (aB (aL bB (aB (aA 8) aD)) aD))) aD))) (mask [3] (cB cs N ns (ls ++ [l]) ks a' J W (some (.lst (ps.map .str))) (some (.int (t : Int))) (some (.lst (is.map .str))) (some (.tup (Rws.ds (.cons r rs)))))) = .ok (.lst ((ks ++ [(rn x, p)]).map kD)) := by
  rw [cS, iW, nH, bT, kS, bT, bT, ex _ rfl rfl]
  show aI (.lst (ks.map kD)) (.lst [.tup [.str (rn x), .int ((ps.map D.str).length : Int)]]) = _
  rw [xae, hpl]
  show (bif aW ((ks.map kD).length + 1) then R.ok (D.lst (ks.map kD ++ [kD (rn x, p)])) else .bad) = _
  rw [show aW ((ks.map kD).length + 1) = true from xai (by rw [xae]; exact xaj (show _ <= 1000 by omega) (by decide)), xaz]; rfl
 have b1 := bd.le
 have b2 := bd.up
 have b3 := bd.wl
 refine ⟨l, (rn x, p), a', W, some (.lst (ps.map .str)), some (.int (t : Int)), some (.lst (is.map .str)), some (.tup (Rws.ds (.cons r rs))), ?_, ⟨⟨hr1, hout, hps, hpn, by show 1 <= ps.length; omega, by show ps.length <= 8; omega, bd.ok, xaj bd.len (by decide)⟩, fun ws hw => ?_⟩, ⟨hr1, by show 1 <= p; omega, by show p <= 8; omega⟩, rfl, by omega, by omega, ?_⟩
 rotate_left
 ·rcases xag.mp hw with rfl | hw
  ·exact zao hr1 hout hps (by show ps.length <= 8; omega)
  ·rcases xay.mp hw with hw | hw
   ·exact bd.gd ws hw
   ·rw [xbb.mp hw]; exact uI
 ·show (bA _ _ _ :: (Rws.wds (.cons r rs) ++ [(["end"] : List Str)])).length <= _
  rw [xaf, xaa]
  simp only [xaf, xbh]
  omega
 ·unfold mH
  rw [bS, s0, bO]
  unfold KH
  rw [bS, s1, bO]
  unfold KG
  rw [bS, s2, bO]
  unfold KF
  rw [bS, s3, bO]
  unfold KD
  rw [bS, s4, bO]
  unfold KC
  rw [bS, s5, bO]
  unfold KB
  rw [bS, lY, show dS (cB cs N ns ls ks a' J W (some (.lst (ps.map .str))) (some (.int (t : Int))) (some (.lst (is.map .str))) (some (.tup (Rws.ds (.cons r rs))))) 3 = .ok (ls.map Rl.d) from rfl, e6, lZ _ _ _ _ (by rw [xae]; omega), bO]
  have es : ∀ z : List D, ([some (.lst (cs.map .int)), some (.int N), some (.lst (ns.map .str)), some (.lst (ls.map Rl.d)), some (.lst (ks.map kD)), some (.int (a' : Int)), J, W, some (.lst (ps.map .str)), some (.int (t : Int)), some (.lst (is.map .str)), some (.tup (Rws.ds (.cons r rs)))] : DSt).set 3 (some (.lst (ls.map Rl.d ++ [Rl.d l]))) = cB cs N ns (ls ++ [l]) ks a' J W (some (.lst (ps.map .str))) (some (.int (t : Int))) (some (.lst (is.map .str))) (some (.tup (Rws.ds (.cons r rs)))) := fun _ => by
   unfold cB
   rw [show (ls ++ [l]).map Rl.d = ls.map Rl.d ++ [Rl.d l] from xaz]; rfl
  rw [es []]
  unfold KA
  show (aC aI _ _ (mask [3] (cB cs N ns (ls ++ [l]) ks a' J W (some (.lst (ps.map .str))) (some (.int (t : Int))) (some (.lst (is.map .str))) (some (.tup (Rws.ds (.cons r rs))))))).bind _ = _
  rw [e7]; rfl
end
end LmDq
open L2 DL Mir
namespace LmDr
open LmA LmY Lk31 Rdr TxtA LmWa LmWf LmDa LmDb LmDd LmDe LmDf LmDg LmDi LmDm LmDn LmDo LmDp LmDq
open LmC (cell t6)
theorem zaq (ls : List Rl) (l : Rl) : aZ (ls ++ [l]) = aZ ls ++ l.wd := by unfold aZ; simp
structure oN (ns : List Str) (ls : List Rl) (m : Nat) : Prop where
 ok : ∀ l ∈ ls, uJ l
 nm : ∀ (i : Nat) (l : Rl), ls[i]? = some l -> ∃ x, ns[i]? = some x /\ l.nm = rn x
 len : ls.length <= m
theorem oN.nodup {ns : List Str} (hn : Ns ns) {ls : List Rl} {m : Nat} (h : oN ns ls m) : (ls.map Rl.nm).Nodup := by
 unfold List.Nodup
 rw [List.pairwise_iff_getElem]
 intro i j hi hj hij he
 rw [xae] at hi hj
 obtain ⟨x, hx, ex⟩ := h.nm i _ (xas hi)
 obtain ⟨y, hy, ey⟩ := h.nm j _ (xas hj)
 have he : ls[i].nm = ls[j].nm := by simpa using he
 have hxm := xbo hx
 have hym := xbo hy
 have := hn.first i j x y hx hy (by rw [<- (uC (hn.ok x hxm) (hn.lt x hxm)).2, <- (uC (hn.ok y hym) (hn.lt y hym)).2, <- ex, <- ey, he])
 omega
section
variable {cs : List Int} (hcs : cs ≠ []) {ns : List Str} (hn : Ns ns)
include hcs hn
theorem zar (N : Nat) (hN : N <= 3) : ∃ (ls : List Rl) (ks : List (Str × Nat)) (a : Nat), p9 [.lst (cs.map .int), .int (N : Int), .lst (ns.map .str)] = .ok (.tup [.lst (ls.map Rl.d), .lst (ks.map kD), .int ((a : Nat) : Int)]) /\ oN ns ls 3 /\ (∀ k ∈ ks, mM k) /\ a <= 200 /\ (aZ ls).length <= 406 := by
 have h9 := hn.len
 have turn : ∀ (j : Nat) (x : D) (U : DSt), (cC 0 N)[j]? = some x -> (∃ (ls : List Rl) (ks : List (Str × Nat)) (a : Nat) (z6 z7 z8 z9 z10 z11 : Option D), U = cB cs (N : Int) ns ls ks a z6 z7 z8 z9 z10 z11 /\ oN ns ls j /\ ls.length = j /\ ks.length = j /\ (∀ k ∈ ks, mM k) /\ a <= 60 * j /\ (aZ ls).length <= 2 * a + 2 * j) ->
   ∃ U', (mH (U.set 6 (some x)) = .ok (.nx U') \/ mH (U.set 6 (some x)) = .ok (.ct U')) /\ ∃ (ls : List Rl) (ks : List (Str × Nat)) (a : Nat) (z6 z7 z8 z9 z10 z11 : Option D), U' = cB cs (N : Int) ns ls ks a z6 z7 z8 z9 z10 z11 /\ oN ns ls (j + 1) /\ ls.length = j + 1 /\ ks.length = j + 1 /\ (∀ k ∈ ks, mM k) /\ a <= 60 * (j + 1) /\ (aZ ls).length <= 2 * a + 2 * (j + 1) := by
  rintro j x U hd ⟨ls, ks, a, z6, z7, z8, z9, z10, z11, rfl, h1, h2, h3, h4, h5, h6⟩
  have hj : j < N := by
   have := (xam.mp hd).1
   simpa [cC] using this
  obtain rfl : x = .int (j : Int) := by
   unfold cC at hd
   rw [xba, xbw hj] at hd
   simpa using hd.symm
  obtain ⟨l, k, a', y7, y8, y9, y10, y11, e, q1, q2, q3, q4, q5, q6⟩ := zap hcs hn (N := (N : Int)) ls ks a j (by omega) h4 h2 h3 ns[j] (xas (by omega)) z7 z8 z9 z10 z11
  refine ⟨_, .inl e, ls ++ [l], ks ++ [k], a', _, y7, y8, y9, y10, y11, rfl, ⟨fun q hq => ?_, fun i q hq => ?_, by simp; omega⟩, by simp [h2], by simp [h3], fun q hq => ?_, by omega, ?_⟩
  ·rcases xay.mp hq with h | h
   ·exact h1.ok q h
   ·rw [xbb.mp h]; exact q1
  ·rcases Nat.lt_or_ge i ls.length with hi | hi
   ·rw [xbc hi] at hq
    exact h1.nm i q hq
   ·rw [xbe hi] at hq
    obtain ⟨rfl, rfl⟩ : i = j /\ l = q := by
     cases hz : i - ls.length with
     | zero => rw [hz] at hq; exact ⟨by omega, by simpa using hq⟩
     | succ n => rw [hz] at hq; simp at hq
    exact ⟨_, xas (by omega), q3⟩
  ·rcases xay.mp hq with h | h
   ·exact h4 q h
   ·rw [xbb.mp h]; exact q2
  ·rw [zaq, xaa]; omega
 obtain ⟨U', e2, ls, ks, a, z6, z7, z8, z9, z10, z11, rfl, h1, h2, h3, h4, h5, h6⟩ := pP (i := 6) (fb := mH) _ _ turn (cB cs (N : Int) ns [] [] 0 none none none none none none) ⟨[], [], 0, none, none, none, none, none, none, rfl, ⟨by simp, by simp, by simp⟩, rfl, rfl, by simp, by omega, by simp [aZ]⟩
 have hL : (cC 0 N).length = N := by simp [cC]
 rw [hL] at h1 h2 h3 h5 h6
 refine ⟨ls, ks, a, ?_, ⟨h1.ok, h1.nm, by omega⟩, h4, by omega, by omega⟩
 rw [YV]
 unfold tY KL KK KJ
 show fin (iB (wN [6] bV mH (eG [.int (N : Int)]) (cB cs (N : Int) ns [] [] 0 none none none none none none)) KI) = _
 rw [wI _ (wJ (by omega) (by omega)), xbl, sM, e2, bO]
 rfl
end
structure qH (ns : List Str) (ls : List Rl) (r : Rw) (rs : Rws) : Prop where
 rl : oN ns ls 3
 ok : RsOk (.cons r rs) 4
 len : Rws.len (.cons r rs) <= 3
 gd : ∀ ws ∈ Rws.wds (.cons r rs), Gd ws
 l1 : (aZ ls).length <= 406
 l2 : (Rws.wds (.cons r rs)).length <= 200
theorem zas (S : List Int) (hS : S.length <= 63) : ∃ (ns : List Str) (ls : List Rl) (r : Rw) (rs : Rws), mI [.lst (S.map .int)] = .ok (.tup [.lst (ns.map .str), dD ls r rs]) /\ Ns ns /\ qH ns ls r rs := by
 have c0 : fY [.lst (S.map .int), .int 0] = .ok (.int (cell S 0)) := t6 S 0
 obtain ⟨ds, e, hl, hb⟩ := t7 (cell S 0) 12 (by decide)
 have e : cO [.int (cell S 0), .int 12] = .ok (.lst (ds.map .int)) := e
 obtain ⟨d0, g0, a0, b0⟩ := jD ds hb 0 (by omega)
 have g0 : aE (.lst (ds.map .int)) (.int 0) = .ok (.int d0) := g0
 obtain ⟨ns, en, hn⟩ := LmDn.names_ok (cell S 0)
 have m4 := cX (i := d0) (j := 4) (by decide)
 obtain ⟨N, hN⟩ : ∃ N : Nat, d0 % 4 = (N : Int) := ⟨(d0 % 4).toNat, by omega⟩
 obtain ⟨cs, ec, hc⟩ : ∃ cs : List Int, ((S.map D.int).drop (min 1 (S.map D.int).length)).take (min 40 (S.map D.int).length - min 1 (S.map D.int).length) = cs.map D.int /\ cs.length <= 40 := by
  refine ⟨(S.drop (min 1 (S.map D.int).length)).take (min 40 (S.map D.int).length - min 1 (S.map D.int).length), by rw [xcq, List.map_drop], ?_⟩
  rw [xa9, xbu, xae]
  omega
 have hcs : cs ++ [0, 1] ≠ [] := by simp
 obtain ⟨ls, ks, a, er, h1, h2, h3, h4⟩ := zar hcs hn N (by omega)
 obtain ⟨r, rs, a', eb, bd⟩ := yQ hcs (show ns ≠ [] from fun h => by have := hn.len; rw [h] at this; simp at this) hn.ok h2 64 4 (a + 2) (by decide)
 have bu := bd.up
 have bl := bd.le
 have bw := bd.wl
 refine ⟨ns, ls, r, rs, ?_, hn, h1, bd.ok, bd.len, bd.gd, h4, by omega⟩
 rw [YX]; unfold tZ KP KO; kd_p
 rw [c0]; kd_p
 rw [e]; kd_p
 rw [c0]; kd_p
 rw [en]; kd_p
 rw [LmX.eSl_mid _ _ _ _ (S.map D.int) 1 40 rfl rfl rfl, ec]; kd_p
 rw [show aI (.lst (cs.map D.int)) (.lst [.int 0, .int 1]) = .ok (.lst ((cs ++ [0, 1]).map .int)) from by
  show (bif aW ((cs.map D.int).length + 2) then R.ok (D.lst (cs.map D.int ++ [.int 0, .int 1])) else .bad) = _
  rw [show aW ((cs.map D.int).length + 2) = true from xai (by rw [xae]; exact xaj (show cs.length + 2 <= 63 by omega) (by decide)), xaz]; rfl]; kd_p
 unfold KN; kd_p
 rw [g0]; walk_at "evd"
 rw [hN, er]; kd_p
 unfold KM
 rw [bS, kT]
 have eq : ∀ z1 z4 z7 : Option D, aU lA (aB (aA 3) (aB (aC aI (aA 6) (eC (.int 2))) (aB (aA 2) (aB (aA 5) (aB (eC (.int 4)) aD))))) (mask [] [some (.lst (S.map .int)), z1, some (.lst (ns.map .str)), some (.lst ((cs ++ [0, 1]).map .int)), z4, some (.lst (ks.map kD)), some (.int (a : Int)), z7]) = .ok (.tup [.tup (Rws.ds (.cons r rs)), .int ((a' : Nat) : Int)]) := fun z1 z4 z7 => eb
 rw [eq]
 rfl
end LmDr
open L2 DL Mir
namespace LmDs
open LmA LmY Lk31 Rdr TxtA LmWa LmWf LmDa LmDb LmDd LmDe LmDf LmDg LmDi LmDm LmDn LmDo LmDp LmDq LmDr
structure Dr (ls : List Rl) (r : Rw) (rs : Rws) : Prop where
 rl : ∀ l ∈ ls, uJ l
 nd : (ls.map Rl.nm).Nodup
 l3 : ls.length <= 20
 ok : RsOk (.cons r rs) 4
 len : Rws.len (.cons r rs) <= 1000
 gd : ∀ ws ∈ Rws.wds (.cons r rs), Gd ws
 ln : (aZ ls ++ Rws.wds (.cons r rs)).length <= 1000
theorem qH.dr {ns : List Str} (hn : Ns ns) {ls : List Rl} {r : Rw} {rs : Rws} (h : qH ns ls r rs) : Dr ls r rs :=
 ⟨h.rl.ok, h.rl.nodup hn, by have := h.rl.len; omega, h.ok, by have := h.len; omega, h.gd, by have := h.l1; have := h.l2; rw [xaa]; omega⟩
theorem yR (n : Nat) (xs : List Str) : (xs.map D.str).all (aT n) = true := by
 rw [xa8]
 intro d hd
 obtain ⟨x, _, rfl⟩ := xa7.mp hd
 cases n <;> rfl
mutual
theorem zat : ∀ (r : Rw) (d n : Nat), b6 r d -> 2 * d + 2 <= n -> aT n (Rw.d r) = true
 | .cross x a b c e, d, n, _, h => by
  obtain ⟨j, rfl⟩ : ∃ j, n = j + 1 := ⟨n - 1, by omega⟩
  rw [Rw.d]; unfold aT
  exact yR j [("cross" : Str), x, a, b, c, e]
 | .rule x f as, d, n, _, h => by
  obtain ⟨j, rfl⟩ : ∃ j, n = j + 2 := ⟨n - 2, by omega⟩
  rw [Rw.d]; unfold aT
  show (true && (true && (true && (aT (j + 1) (.tup (as.map .str)) && true)))) = true
  rw [show aT (j + 1) (.tup (as.map .str)) = (as.map D.str).all (aT j) from by unfold aT; rfl, yR]; rfl
 | .times k rs, d, n, hr, h => by
  obtain ⟨j, rfl⟩ : ∃ j, n = j + 2 := ⟨n - 2, by omega⟩
  rw [b6] at hr
  obtain ⟨h1, h0, _, _, h5⟩ := hr
  rw [Rw.d]; unfold aT
  show (true && (true && (aT (j + 1) (.tup (Rws.ds rs)) && true))) = true
  rw [show aT (j + 1) (.tup (Rws.ds rs)) = (Rws.ds rs).all (aT j) from by unfold aT; rfl, dat_rs rs (d - 1) j h5 (by omega)]; rfl
theorem dat_rs : ∀ (rs : Rws) (d n : Nat), RsOk rs d -> 2 * d + 2 <= n -> (Rws.ds rs).all (aT n) = true
 | .nil, d, n, _, _ => by rw [Rws.ds]; rfl
 | .cons r rs, d, n, hr, h => by
  rw [RsOk] at hr
  rw [Rws.ds, List.all_cons, zat r d n hr.1 h, dat_rs rs d n hr.2 h]; rfl
end
theorem zau {l : Rl} (h : gY l) (n : Nat) (hn : 12 <= n) : aT n (Rl.d l) = true := by
 obtain ⟨j, rfl⟩ : ∃ j, n = j + 2 := ⟨n - 2, by omega⟩
 unfold Rl.d aT
 show (true && (aT (j + 1) (.tup (l.ps.map .str)) && (true && (aT (j + 1) (.tup (Rws.ds (.cons l.r l.rs))) && true)))) = true
 rw [show aT (j + 1) (.tup (l.ps.map .str)) = (l.ps.map D.str).all (aT j) from by unfold aT; rfl, yR, show aT (j + 1) (.tup (Rws.ds (.cons l.r l.rs))) = (Rws.ds (.cons l.r l.rs)).all (aT j) from by unfold aT; rfl, dat_rs _ 4 j h.ok (by omega)]; rfl
theorem yS (x : D) (xs ys : List D) (h : (x :: xs).length + ys.length <= 100000) : aI (.tup (x :: xs)) (.tup ys) = .ok (.tup (x :: xs ++ ys)) := by
 show (bif aW ((x :: xs).length + ys.length) && true then R.ok (D.tup (x :: xs ++ ys)) else .bad) = _
 rw [show aW ((x :: xs).length + ys.length) = true from xai (xaj h (by decide))]; rfl
theorem qI : ∀ rs : Rws, (Rws.ds rs).length = Rws.len rs
 | .nil => by rw [Rws.ds]; rfl
 | .cons r rs => by rw [Rws.ds, xaf, qI rs]; rfl
theorem zav (r : Rw) : 1 <= (Rw.wd r).length := by
 cases r <;> (rw [Rw.wd]; simp only [xaf]; omega)
theorem yT : ∀ rs : Rws, (Rws.ds rs).length <= (Rws.wds rs).length
 | .nil => by rw [Rws.ds, Rws.wds]; exact xak _
 | .cons r rs => by
  have := yT rs
  have := zav r
  rw [Rws.ds, Rws.wds, xaf, xaa]; omega
theorem zaw (d : D) (ds : List D) : cJ (d :: ds) (some ((1 : Nat) : Int)) none = ds := by
 unfold cJ
 rw [HT.sIx_none, HT.sIx_nat, xaf, show min 1 (ds.length + 1) = 1 by omega]
 show ds.take (ds.length + 1 - 1) = ds
 rw [Nat.add_sub_cancel, List.take_length]
theorem zax {ns : List Str} (hn : Ns ns) {ls : List Rl} {r : Rw} {rs : Rws} (h : qH ns ls r rs) (q : Int) (h0 : 0 <= q) (h1 : q < 1000000) : ∃ ls' r' rs', j5 [.lst (ns.map .str), dD ls r rs, .int q] = .ok (dD ls' r' rs') /\ Dr ls' r' rs' := by
 have h9 := hn.len
 have ix : ∀ (k : Nat) (hk : k < 9), ∃ x ∈ ns, aE (.lst (ns.map .str)) (.int (k : Int)) = .ok (.str x) := fun k hk => ⟨ns[k], xby _, l0 (by rw [xba, xas (by omega)]; rfl)⟩
 obtain ⟨x0, m0, i0⟩ := ix 0 (by decide)
 obtain ⟨x1, m1, i1⟩ := ix 1 (by decide)
 obtain ⟨x2, m2, i2⟩ := ix 2 (by decide)
 have i0 : aE (.lst (ns.map .str)) (.int 0) = .ok (.str x0) := i0
 have i1 : aE (.lst (ns.map .str)) (.int 1) = .ok (.str x1) := i1
 have i2 : aE (.lst (ns.map .str)) (.int 2) = .ok (.str x2) := i2
 have n0 := hn.ok x0 m0
 have n1 := hn.ok x1 m1
 have n2 := hn.ok x2 m2
 have r2 := (uC n2 (hn.lt x2 m2)).1
 have m3 := cX (i := q) (j := 3) (by decide)
 have m9 := cX (i := q / 3) (j := 9) (by decide)
 have m27 := cX (i := q / 27) (j := 3) (by decide)
 obtain ⟨p, hp⟩ : ∃ p : Nat, 1 + q / 3 % 9 = (p : Int) := ⟨(1 + q / 3 % 9).toNat, by omega⟩
 obtain ⟨k, hk⟩ : ∃ k : Nat, q / 27 % 3 = (k : Int) := ⟨(q / 27 % 3).toNat, by omega⟩
 obtain ⟨f, hf, ef⟩ : ∃ f : Str, Nm f /\ aE (.lst [.str "nonesuch", .str x1, .str (rn x2)]) (.int (q % 3)) = .ok (.str f) := by
  have : q % 3 = 0 \/ q % 3 = 1 \/ q % 3 = 2 := by omega
  rcases this with e | e | e <;> rw [e]
  ·exact ⟨"nonesuch", ⟨by decide +kernel, by decide⟩, rfl⟩
  ·exact ⟨x1, n1, rfl⟩
  ·exact ⟨rn x2, r2, rfl⟩
 let row : Rw := .rule x0 f (ns.take p)
 have hrow : uF row := MB n0 hf (fun e => by have := congrArg List.length e; rw [xa9, h9] at this; simp at this; omega) (by rw [xa9]; omega) (fun x hx => hn.ok x (xcd hx))
 obtain ⟨ws, ew, hg⟩ := hrow.wd
 let A : Option D := some (.lst (ns.map .str))
 let B : Option D := some (dD ls r rs)
 let C : Option D := some (.int q)
 have s0 : bZ 3 (bL (aB (eC (.str "rule")) (aB (aC aE (aA 0) (eC (.int 0))) (aB (aC aE (aY (bD (aB (eC (.str "nonesuch")) (aB (aC aE (aA 0) (eC (.int 1))) (aB (aC aI (fV (aC aE (aA 0) (eC (.int 2))) bR (bF (eC (.int 7)))) (eC (.str "r"))) aD))))) (aC aQ (aA 2) (eC (.int 3)))) (aB (aL eY (aB (bY (aA 0) bR (bF (aC aI (eC (.int 1)) (aC aQ (aC eX (aA 2) (eC (.int 3))) (eC (.int 9)))))) aD)) aD))))) [A, B, C, none, none, none, none, none, none] = .ok (.nx [A, B, C, some (Rw.d row), none, none, none, none, none]) := by
  have e1 : aC aI (fV (aC aE (aA 0) (eC (.int 2))) bR (bF (eC (.int 7)))) (eC (.str "r")) [A, B, C, none, none, none, none, none, none] = .ok (.str (rn x2)) := MF (by exact i2) n2.2
  have e2 : aC aI (eC (.int 1)) (aC aQ (aC eX (aA 2) (eC (.int 3))) (eC (.int 9))) [A, B, C, none, none, none, none, none, none] = .ok (.int (p : Int)) := by
   show bI aI (.ok (.int 1)) (bI aQ (eX (.int q) (.int 3)) (.ok (.int 9))) = _
   rw [pM _ _ (by decide +kernel) (by decide), cF, dO _ _ (by decide), cF, pL, hp]
  show (bL _ [A, B, C, none, none, none, none, none, none]).bind _ = _
  rw [kS, bT, bT, bT, bT, cS, cS, iW, nH, bT, bT, bT, e1, lW, bT, LmL.eSl_to _ _ _ (ns.map .str) p rfl e2]
  show (dM (bK (.ok (.str "rule")) (bK (aE (.lst (ns.map .str)) (.int 0)) (bK (bI aE (pJ (gO (bK (.ok (.str "nonesuch")) (bK (aE (.lst (ns.map .str)) (.int 1)) (.ok [.str (rn x2)]))))) (aQ (.int q) (.int 3))) (.ok [.tup ((ns.map D.str).take p)]))))).bind _ = _
  rw [i0, i1, dO _ _ (by decide)]
  show (dM (bK (.ok (.str "rule")) (bK (.ok (.str x0)) (bK (aE (.lst [.str "nonesuch", .str x1, .str (rn x2)]) (.int (q % 3))) (.ok [.tup ((ns.map D.str).take p)]))))).bind _ = _
  rw [ef, <- xcq]
  show R.ok _ = _
  congr 2
 have e3 : ∀ (L : List D) (z5 z6 z7 z8 : Option D), bL (aB (aA 4) (aB (aC aI (bL (aB (bL (aB (eC (.str "times")) (aB (aC aQ (aC eX (aA 2) (eC (.int 27))) (eC (.int 3))) (aB (bL (aB (aA 3) aD)) aD)))) (aB (aA 3) aD))) (aC aE (aA 1) (eC (.int 1)))) aD)) [A, B, C, some (Rw.d row), some (.tup L), z5, z6, z7, z8] = .ok (.tup [.tup L, .tup (Rws.ds (.cons (.times k (.cons row .nil)) (.cons row (.cons r rs))))]) := fun L z5 z6 z7 z8 => by
  show dM (bK (.ok (.tup L)) (bK (bI aI (dM (bK (dM (bK (.ok (.str "times")) (bK (bI aQ (eX (.int q) (.int 27)) (.ok (.int 3))) (.ok [.tup [Rw.d row]])))) (.ok [Rw.d row]))) (.ok (.tup (Rws.ds (.cons r rs))))) (.ok []))) = _
  rw [pM _ _ (by decide +kernel) (by decide), cF, dO _ _ (by decide), hk]
  show dM (bK (.ok (.tup L)) (bK (aI (.tup [.tup [.str "times", .int (k : Int), .tup [Rw.d row]], Rw.d row]) (.tup (Rws.ds (.cons r rs)))) (.ok []))) = _
  rw [yS _ _ _ (by rw [qI]; have := h.len; simp only [xaf, xbh]; omega)]
  rw [Rws.ds, Rws.ds, Rw.d, Rws.ds, Rws.ds]
  rfl
 have wq : Rws.wds (.cons (.times k (.cons row .nil)) (.cons row (.cons r rs))) = [(["times", bE k] : List Str), ws, (["end"] : List Str), ws] ++ Rws.wds (.cons r rs) := by
  have wr : ∀ a b, Rws.wds (.cons a b) = Rw.wd a ++ Rws.wds b := fun a b => by rw [Rws.wds]
  have wn : Rws.wds .nil = [] := by rw [Rws.wds]
  rw [wr (.times k (.cons row .nil)), wr row (.cons r rs), show Rw.wd (.times k (.cons row .nil)) = (["times", bE k] : List Str) :: (Rws.wds (.cons row .nil) ++ [(["end"] : List Str)]) from by rw [Rw.wd], wr row .nil, wn, ew]; simp
 have okq : RsOk (.cons (.times k (.cons row .nil)) (.cons row (.cons r rs))) 4 := by
  rw [RsOk, RsOk]
  refine ⟨?_, hrow.ok _, h.ok⟩
  rw [b6]
  exact ⟨by omega, by decide, ⟨_, _, rfl⟩, by show 1 <= 1000; decide, by rw [RsOk]; exact ⟨hrow.ok _, by rw [RsOk]; trivial⟩⟩
 have lenq : Rws.len (.cons (.times k (.cons row .nil)) (.cons row (.cons r rs))) <= 1000 := by
  have := h.len
  show Rws.len (.cons r rs) + 1 + 1 <= 1000
  omega
 have gdq : ∀ w ∈ Rws.wds (.cons (.times k (.cons row .nil)) (.cons row (.cons r rs))), Gd w := fun w hw => by
  rw [wq] at hw
  rcases xay.mp hw with hw | hw
  ·simp only [xag, xa5, or_false] at hw
   rcases hw with rfl | rfl | rfl | rfl
   ·exact MC (by omega)
   ·exact hg
   ·exact uI
   ·exact hg
  ·exact h.gd w hw
 have l1 := h.l1
 have l2 := h.l2
 cases hls : ls with
 | nil =>
  refine ⟨[], .times k (.cons row .nil), .cons row (.cons r rs), ?_, by simp, by simp, by simp, okq, lenq, gdq, ?_⟩
  ·subst hls
   rw [K2]
   unfold qB
   rw [bS, s0, bO]
   unfold x5
   rw [bS, show bZ 4 (aC aE (aA 1) (eC (.int 0))) [A, B, C, some (Rw.d row), none, none, none, none, none] = .ok (.nx [A, B, C, some (Rw.d row), some (.tup []), none, none, none, none]) from rfl, bO]
   unfold x4
   rw [bS, dN, show aM (aC kY (aA 4) (bL aD)) [A, B, C, some (Rw.d row), some (.tup []), none, none, none, none] = .ok false from rfl, fL, lV, bO]
   unfold xZ
   rw [nL, e3]; rfl
  ·rw [wq, xaa, xaa]
   simp only [aZ, List.flatMap_nil, xaf, xbh]
   omega
 | cons l ls' =>
  subst hls
  have hl := h.rl.ok l xax
  have hw : aZ (l :: ls') = l.wd ++ aZ ls' := rfl
  let l' : Rl := ⟨l.nm, l.ps, l.out, l.r, dH l.rs row⟩
  have hc : ∀ rs0, dH (.cons l.r rs0) row = .cons l.r (dH rs0 row) := fun _ => rfl
  have hwd : l'.wd = bA l.nm l.ps l.out :: (Rws.wds (.cons l.r l.rs) ++ [ws] ++ [(["end"] : List Str)]) := by
   show bA l.nm l.ps l.out :: (Rws.wds (.cons l.r (dH l.rs row)) ++ _) = _
   rw [<- hc, oM, ew]
  have hwl : l.wd = bA l.nm l.ps l.out :: (Rws.wds (.cons l.r l.rs) ++ [(["end"] : List Str)]) := rfl
  have hl' : uJ l' := by
   refine ⟨⟨hl.ok.nm, hl.ok.out, hl.ok.ps, hl.ok.nd, hl.ok.p1, hl.ok.p8, ?_, ?_⟩, fun w hw => ?_⟩
   ·show RsOk (.cons l.r (dH l.rs row)) 4
    rw [<- hc]
    exact uH _ _ _ hl.ok.ok (hrow.ok 4)
   ·show Rws.len (.cons l.r (dH l.rs row)) <= 1000
    rw [<- hc, uG, <- qI]
    have := yT (.cons l.r l.rs)
    rw [hw, xaa, hwl, xaf, xaa] at l1
    omega
   ·rw [hwd] at hw
    rcases xag.mp hw with rfl | hw
    ·exact hl.gd _ (by rw [hwl]; exact xax)
    ·rcases xay.mp hw with hw | hw
     ·rcases xay.mp hw with hw | hw
      ·exact hl.gd _ (by rw [hwl]; exact xah _ (xcc _ hw))
      ·rw [xbb.mp hw]; exact hg
     ·rw [xbb.mp hw]; exact uI
  refine ⟨l' :: ls', .times k (.cons row .nil), .cons row (.cons r rs), ?_, fun z hz => ?_, ?_, by have := h.rl.len; simp only [xaf] at *; omega, okq, lenq, gdq, ?_⟩
  ·have hdat : aM (aC kY (aA 4) (bL aD)) [A, B, C, some (Rw.d row), some (.tup ((l :: ls').map Rl.d)), none, none, none, none] = .ok true := by
    show eD (kY (.tup ((l :: ls').map Rl.d)) (.tup [])) = _
    unfold kY
    rw [show aT 20 (.tup ((l :: ls').map Rl.d)) = ((l :: ls').map Rl.d).all (aT 19) from by unfold aT; rfl, show ((l :: ls').map Rl.d).all (aT 19) = true from by
     rw [xa8]
     intro d hd
     obtain ⟨z, hz, rfl⟩ := xa7.mp hd
     exact zau (h.rl.ok z hz).ok 19 (by decide)]
    rfl
   rw [K2]
   unfold qB
   rw [bS, s0, bO]
   unfold x5
   rw [bS, show bZ 4 (aC aE (aA 1) (eC (.int 0))) [A, B, C, some (Rw.d row), none, none, none, none, none] = .ok (.nx [A, B, C, some (Rw.d row), some (.tup ((l :: ls').map Rl.d)), none, none, none, none]) from rfl, bO]
   unfold x4
   rw [bS, dN, hdat, iY]
   unfold K1
   rw [bS, show fI [] [5, 6, 7, 8] (b8 4) (aC aE (aA 4) (eC (.int 0))) [A, B, C, some (Rw.d row), some (.tup ((l :: ls').map Rl.d)), none, none, none, none] = .ok (.nx [A, B, C, some (Rw.d row), some (.tup ((l :: ls').map Rl.d)), some (.str l.nm), some (.tup (l.ps.map .str)), some (.str l.out), some (.tup (Rws.ds (.cons l.r l.rs)))]) from by
    rw [kT, show aC aE (aA 4) (eC (.int 0)) (mask [] [A, B, C, some (Rw.d row), some (.tup ((l :: ls').map Rl.d)), none, none, none, none]) = .ok (Rl.d l) from VS (j := 0) rfl]; rfl, bO]
   unfold K0
   have e4 : bZ 4 (aC aI (bL (aB (bL (aB (aA 5) (aB (aA 6) (aB (aA 7) (aB (aC aI (aA 8) (bL (aB (aA 3) aD))) aD))))) aD)) (bY (aA 4) (bF (eC (.int 1))) bR)) [A, B, C, some (Rw.d row), some (.tup ((l :: ls').map Rl.d)), some (.str l.nm), some (.tup (l.ps.map .str)), some (.str l.out), some (.tup (Rws.ds (.cons l.r l.rs)))] = .ok (.nx [A, B, C, some (Rw.d row), some (.tup ((l' :: ls').map Rl.d)), some (.str l.nm), some (.tup (l.ps.map .str)), some (.str l.out), some (.tup (Rws.ds (.cons l.r l.rs)))]) := by
    have e5 : bY (aA 4) (bF (eC (.int 1))) bR [A, B, C, some (Rw.d row), some (.tup ((l :: ls').map Rl.d)), some (.str l.nm), some (.tup (l.ps.map .str)), some (.str l.out), some (.tup (Rws.ds (.cons l.r l.rs)))] = .ok (.tup (ls'.map Rl.d)) := by
     show R.ok (D.tup (cJ ((l :: ls').map Rl.d) (some 1) none)) = _
     congr 2
     exact zaw (Rl.d l) (ls'.map Rl.d)
    show (aC aI _ _ [A, B, C, some (Rw.d row), some (.tup ((l :: ls').map Rl.d)), some (.str l.nm), some (.tup (l.ps.map .str)), some (.str l.out), some (.tup (Rws.ds (.cons l.r l.rs)))]).bind _ = _
    rw [cS, e5]
    show (bI aI (dM (bK (dM (bK (.ok (.str l.nm)) (bK (.ok (.tup (l.ps.map .str))) (bK (.ok (.str l.out)) (bK (aI (.tup (Rws.ds (.cons l.r l.rs))) (.tup [Rw.d row])) (.ok [])))))) (.ok []))) (.ok (.tup (ls'.map Rl.d)))).bind _ = _
    rw [show Rws.ds (.cons l.r l.rs) = Rw.d l.r :: Rws.ds l.rs from by rw [Rws.ds], yS _ _ _ (by rw [xaf, qI]; have := hl.ok.len; have : Rws.len l.rs + 1 <= 1000 := this; simp only [xaf, xbh]; omega), show Rw.d l.r :: Rws.ds l.rs ++ [Rw.d row] = Rws.ds (.cons l.r (dH l.rs row)) from by rw [Rws.ds, oK]; rfl]
    show (aI (.tup [Rl.d l']) (.tup (ls'.map Rl.d))).bind _ = _
    rw [yS _ _ _ (by rw [xae]; have := h.rl.len; simp only [xaf, xbh] at *; omega)]
    rfl
   rw [e4, bO]
   unfold xZ
   rw [nL, e3]; rfl
  ·rcases xag.mp hz with rfl | hz
   ·exact hl'
   ·exact h.rl.ok z (xah _ hz)
  ·exact h.rl.nodup hn
  ·have hw' : aZ (l' :: ls') = l'.wd ++ aZ ls' := rfl
   rw [wq, xaa, xaa, hw', xaa, hwd]
   rw [hw, xaa, hwl] at l1
   simp only [xaf, xaa, xbh] at *
   omega
end LmDs
open L2 DL Mir
namespace Lk32
open LmA LmY Lk31 Rdr TxtA LmWa LmWf LmDa LmDb LmDd LmDe LmDf LmDg LmDi LmDk LmDl LmDm LmDn LmDo LmDp LmDq LmDr LmDs
open LmC (cell t6)
section
variable {ls : List Rl} {r : Rw} {rs : Rws} (h : Dr ls r rs)
include h
theorem yU : ∀ ws ∈ aZ ls ++ Rws.wds (.cons r rs), Gd ws := fun ws hw => by
 rcases xay.mp hw with hw | hw
 ·obtain ⟨l, hl, hw⟩ := List.mem_flatMap.mp hw
  exact (h.rl l hl).gd ws hw
 ·exact h.gd ws hw
theorem MG : jB [dD ls r rs] = .ok (.str (aF (fP (aZ ls ++ Rws.wds (.cons r rs))))) :=
 ZW (fun l hl => (h.rl l hl).ok) h.ok h.ln fun ws hw => xaj (yU h ws hw).len (by decide)
theorem zay : lD [dD ls r rs] = .ok (.str (aF (fP (aZ ls ++ Rws.wds (.cons r rs))))) :=
 ZZ (fun l hl => (h.rl l hl).ok) h.ok h.ln fun ws hw => xaj (yU h ws hw).len (by decide)
theorem MH : iH [.str (aF (fP (aZ ls ++ Rws.wds (.cons r rs))))] = .ok (dD ls r rs) :=
 ZP (Z9 (fun e => by
  have := yT (.cons r rs)
  rw [qI] at this
  have := congrArg List.length e
  rw [xaa, xbh] at this
  have : 1 <= Rws.len (.cons r rs) := by show 1 <= Rws.len rs + 1; omega
  omega) (yU h) h.ln) (fun l hl => (h.rl l hl).ok) h.nd h.l3 h.ok h.len
theorem MI : gX [dD ls r rs, dD ls r rs] = .ok (.bl true) := Z3 (fun l hl => (h.rl l hl).ok) h.ok
theorem zaz : Dr [] r rs := ⟨by simp, by simp, by simp, h.ok, h.len, h.gd, by
 have := h.ln
 rw [xaa] at this ⊢
 simp only [aZ, List.flatMap_nil, xbh] at *
 omega⟩
theorem MJ (x0 x1 x3 : Option D) : x6 [x0, x1, some (dD ls r rs), x3, none, none, none] = .ok (.rt (.bl true)) := by
 have hs := zaz h
 have s1 : bZ 4 (aU lD (aB (aA 2) aD)) [x0, x1, some (dD ls r rs), x3, none, none, none] = .ok (.nx [x0, x1, some (dD ls r rs), x3, some (.str (aF (fP (aZ ls ++ Rws.wds (.cons r rs))))), none, none]) := by
  show (lD [dD ls r rs]).bind _ = _
  rw [zay h]; rfl
 have s2 : bZ 5 (aU jB (aB (aA 2) aD)) [x0, x1, some (dD ls r rs), x3, some (.str (aF (fP (aZ ls ++ Rws.wds (.cons r rs))))), none, none] = .ok (.nx [x0, x1, some (dD ls r rs), x3, some (.str (aF (fP (aZ ls ++ Rws.wds (.cons r rs))))), some (.str (aF (fP (aZ ls ++ Rws.wds (.cons r rs))))), none]) := by
  show (jB [dD ls r rs]).bind _ = _
  rw [MG h]; rfl
 unfold x6
 rw [bS, s1, bO]
 unfold K7
 rw [bS, s2, bO]
 have hr := MH h
 generalize fP (aZ ls ++ Rws.wds (.cons r rs)) = T at hr ⊢
 have t1 : eS (eF (aM (aL (g2 bW) (aB (aA 5) (aB (eC (.ty "str")) aD))))) (aM (aC cE (aA 5) (aA 4))) [x0, x1, some (dD ls r rs), x3, some (.str (aF T)), some (.str (aF T)), none] = .ok false := by
  show eD (cE (.str (aF T)) (.str (aF T))) = _
  rw [neS, xai rfl]; rfl
 unfold K6
 rw [bS, dN, t1, fL, lV, bO]
 have t2 : eF (aM (aU gX (aB (aU iH (aB (aA 4) aD)) (aB (aA 2) aD)))) [x0, x1, some (dD ls r rs), x3, some (.str (aF T)), some (.str (aF T)), none] = .ok false := by
  show lX (eD (iV gX (bK (iH [.str (aF T)]) (.ok [dD ls r rs])))) = _
  rw [hr]
  show lX (eD (gX [dD ls r rs, dD ls r rs])) = _
  rw [MI h]; rfl
 unfold K5
 rw [bS, dN, t2, fL, lV, bO]
 unfold K4
 rw [bS, show bZ 6 (bL (aB (bL aD) (aB (aC aE (aA 2) (eC (.int 1))) aD))) [x0, x1, some (dD ls r rs), x3, some (.str (aF T)), some (.str (aF T)), none] = .ok (.nx [x0, x1, some (dD ls r rs), x3, some (.str (aF T)), some (.str (aF T)), some (dD [] r rs)]) from rfl, bO]
 unfold K3
 show iC (iV gX (bK (iV iH (bK (jB [dD [] r rs]) (.ok []))) (.ok [dD [] r rs]))) = _
 rw [MG hs]
 show iC (iV gX (bK (iH [.str (aF (fP (aZ [] ++ Rws.wds (.cons r rs))))]) (.ok [dD [] r rs]))) = _
 rw [MH hs]
 show iC (gX [dD [] r rs, dD [] r rs]) = _
 rw [MI hs]; rfl
end
theorem law_ok (ns : List Int) (h : ns.length <= 63) : t5 [.lst (ns.map .int)] = .ok (.bl true) := by
 obtain ⟨xs, ls, r, rs, ed, hn, hd⟩ := zas ns h
 have c0 : fY [.lst (ns.map .int), .int 0] = .ok (.int (cell ns 0)) := t6 ns 0
 obtain ⟨ds, e, hl, hb⟩ := t7 (cell ns 0) 12 (by decide)
 have e : cO [.int (cell ns 0), .int 12] = .ok (.lst (ds.map .int)) := e
 obtain ⟨d4, g4, a4, b4⟩ := jD ds hb 4 (by omega)
 have g4 : aE (.lst (ds.map .int)) (.int 4) = .ok (.int d4) := g4
 rw [Y0]
 unfold t4
 have s1 : fI [] [1, 2] (b8 2) (aU mI (aB (aA 0) aD)) [some (.lst (ns.map .int)), none, none, none, none, none, none] = .ok (.nx [some (.lst (ns.map .int)), some (.lst (xs.map .str)), some (dD ls r rs), none, none, none, none]) := by
  rw [kT, show aU mI (aB (aA 0) aD) (mask [] [some (.lst (ns.map .int)), none, none, none, none, none, none]) = _ from ed]; rfl
 rw [bS, s1, bO]
 unfold K9
 have s2 : bZ 3 (aC aE (aU cO (aB (aU fY (aB (aA 0) (aB (eC (.int 0)) aD))) (aB (eC (.int 12)) aD))) (eC (.int 4))) [some (.lst (ns.map .int)), some (.lst (xs.map .str)), some (dD ls r rs), none, none, none, none] = .ok (.nx [some (.lst (ns.map .int)), some (.lst (xs.map .str)), some (dD ls r rs), some (.int d4), none, none, none]) := by
  show (bI aE (iV cO (bK (fY [.lst (ns.map .int), .int 0]) (.ok [.int 12]))) (.ok (.int 4))).bind _ = _
  rw [c0]
  show (bI aE (cO [.int (cell ns 0), .int 12]) (.ok (.int 4))).bind _ = _
  rw [e, cF, g4]; rfl
 rw [bS, s2, bO]
 unfold K8
 rw [bS, dN]
 have t1 : aM (aC a8 (aC aQ (aA 3) (eC (.int 2))) (eC (.int 0))) [some (.lst (ns.map .int)), some (.lst (xs.map .str)), some (dD ls r rs), some (.int d4), none, none, none] = .ok (decide (d4 % 2 = 0)) := by
  show eD (bI a8 (aQ (.int d4) (.int 2)) (.ok (.int 0))) = _
  rw [dO _ _ (by decide)]; rfl
 rw [t1]
 cases decide (d4 % 2 = 0) with
 | false =>
  rw [fL, lV, bO, MJ (qH.dr hn hd)]; rfl
 | true =>
  obtain ⟨ls', r', rs', el, hD⟩ := zax hn hd (d4 / 2) (by omega) (by omega)
  have s3 : bZ 2 (aU j5 (aB (aA 1) (aB (aA 2) (aB (aC eX (aA 3) (eC (.int 2))) aD)))) [some (.lst (ns.map .int)), some (.lst (xs.map .str)), some (dD ls r rs), some (.int d4), none, none, none] = .ok (.nx [some (.lst (ns.map .int)), some (.lst (xs.map .str)), some (dD ls' r' rs'), some (.int d4), none, none, none]) := by
   show (iV j5 (bK (.ok (.lst (xs.map .str))) (bK (.ok (dD ls r rs)) (bK (eX (.int d4) (.int 2)) (.ok []))))).bind _ = _
   rw [pM _ _ (by decide +kernel) (by decide)]
   show (j5 [.lst (xs.map .str), dD ls r rs, .int (d4 / 2)]).bind _ = _
   rw [el]; rfl
  rw [iY, s3, bO, MJ hD]; rfl
end Lk32
end
section
namespace Kx
open L2 DL Mir
local macro_rules | `(tactic| kst_p2) => `(tactic| (first | exact Or.inl rfl | exact Or.inr (Or.inl rfl) | exact Or.inr (Or.inr rfl)))
local macro_rules | `(tactic| kcj_m) => `(tactic| (first | exact Or.inl rfl | exact Or.inr rfl))
local macro_rules | `(tactic| kcf_m) => `(tactic| (first | exact .inl rfl | exact .inr rfl | assumption))
local macro_rules | `(tactic| walk_at "C") => `(tactic| first | assumption | exact XC.lc (by assumption) _ _ _ _ _ _ | exact XC.nox (by assumption))
local macro_rules | `(tactic| walk_at "H") => `(tactic| first | assumption | exact XC.calm (by walk_at "C") | rfl)
local macro_rules | `(tactic| walk_at "F") => `(tactic| first | exact pG | exact vO | exact nA | exact UD | exact UG | exact UH | exact BU (by walk_at "C") | exact vP (by walk_at "C") | exact V2 (by walk_at "C") | exact wQ (by walk_at "C") | exact XO (by walk_at "C"))
local macro_rules | `(tactic| walk_at "E") => `(tactic| first | ((with_reducible refine @SC _ _ _ _ _ ?_ ?_ ?_ ?_); rfl; (first | exact Or.inl rfl | exact Or.inr (Or.inl rfl) | exact Or.inr (Or.inr rfl)); decide; decide) | ((with_reducible refine @cI _ _ _ _ _ _ ?_ ?_ ?_); walk_at "E"; walk_at "E"; rfl) | ((with_reducible refine @jM _ _ _ _ _)) | ((with_reducible refine @dA _ _)) | ((with_reducible refine @SU _ _ _ _ _ _ _ ?_ ?_ ?_); walk_at "E"; walk_at "E"; (intro _ _ ; rfl)) | ((with_reducible refine @qZ _ _ _ _ _)) | ((with_reducible refine @T6 _ _ _ _ _ _ _ ?_ ?_); walk_at "E"; walk_at "E") | ((with_reducible refine @BB _ _ _ _ _ _ _ _ _ _ (by walk_at "C") ?_ ?_ ?_ ?_ ?_ ?_); walk_at "H"; walk_at "E"; rfl; decide; rfl; rfl) | ((with_reducible refine @SQ _ _ _ _ _ ?_); walk_at "E") | ((with_reducible refine @UA _ _ _ _ _ _ _ ?_ ?_); walk_at "E"; walk_at "E") | ((with_reducible refine @DF.val _ _ _ _ ?_); walk_at "E") | ((with_reducible refine @SO _ _ _ _ _ _ ?_); walk_at "E") | ((with_reducible refine @UQ _ _ _ _ _ _ _ ?_ ?_ ?_ ?_ ?_); walk_at "H"; walk_at "E"; rfl; rfl; rfl) | ((with_reducible refine @gN _ _ _ _ _ _ _ _ _ ?_ ?_ ?_ ?_); walk_at "F"; walk_at "E"; walk_at "E"; (first | exact cV _ (by decide) (by decide) | rfl)) | ((with_reducible refine @VC _ _ _ _ ?_); walk_at "E") | ((with_reducible refine @VD _ _ _ _ _ _ _ _ _ _ ?_ ?_ ?_); walk_at "E"; walk_at "E"; walk_at "E") | ((with_reducible refine @B3 _ _)) | ((with_reducible refine @U3 _ _ _ _ _ _ _ ?_ ?_ ?_ ?_ ?_); walk_at "H"; walk_at "E"; rfl; rfl; rfl) | ((with_reducible refine @T8 _ _ _ _ _ _ _ ?_ ?_); walk_at "E"; walk_at "E") | ((with_reducible refine @UI _ _ _ _ _ _ _ _ _ ?_ ?_ ?_ ?_); walk_at "F"; walk_at "E"; walk_at "E"; (first | exact cV _ (by decide) (by decide) | rfl)) | ((with_reducible refine @SX _ _ _ _ _ ?_); walk_at "E") | ((with_reducible refine @WI _ _ _ _ _ _ _ _ ?_ ?_ ?_ ?_ ?_ ?_ ?_); walk_at "E"; walk_at "E"; rfl; rfl; rfl; rfl; rfl) | ((with_reducible refine @VH _ _ _ _ _ ?_ ?_ ?_); walk_at "H"; rfl; decide) | ((with_reducible refine @T9 _ _ _ _ _ _ _ ?_ ?_); walk_at "E"; walk_at "E") | ((with_reducible refine @S0 _ _ _ _ _ _ _ ?_ ?_ ?_ ?_); walk_at "H"; walk_at "E"; rfl; rfl) | ((with_reducible refine @SD _ _ _ _ _)) | ((with_reducible refine @rJ _ _ _ _ _ ?_); walk_at "E") | ((with_reducible refine @UC _ _ _ _ _ ?_); walk_at "E") | ((with_reducible refine @UB _ _ _ _ _ _ _ ?_ ?_); walk_at "E"; walk_at "E") | ((with_reducible refine @U0 _ _ _ _ _ _ _ ?_ ?_ ?_ ?_ ?_); walk_at "H"; walk_at "E"; rfl; rfl; rfl) | ((with_reducible refine @WE _ _ _ _ _ _ _ _ _ _ ?_ ?_ ?_); walk_at "E"; walk_at "E"; walk_at "E") | ((with_reducible refine @VV _ _ _ _ _ _ _ ?_ ?_ ?_ ?_ ?_); walk_at "H"; walk_at "E"; rfl; rfl; rfl) | ((with_reducible refine @U7 _ _ _ _ _ _ _ ?_ ?_ ?_ ?_ ?_); walk_at "H"; walk_at "E"; rfl; rfl; rfl) | ((with_reducible refine @jO _ _ _ _ _ ?_); walk_at "E") | ((with_reducible refine @WB _ _ _ _ _ _ _ ?_ ?_ ?_); walk_at "E"; walk_at "E"; (intro _ _ ; rfl)) | ((with_reducible refine @rH _ _ _ _ _ ?_); walk_at "E") | ((with_reducible refine @V4 _ _ _ _ _ _ _ ?_ ?_); walk_at "E"; walk_at "E") | ((with_reducible refine @vE _ _ _ _ _ _ _ _ ?_ ?_); walk_at "E"; walk_at "E") | ((with_reducible refine @WZ _ _ _ _ _ _ _ _ ?_ ?_ ?_ ?_ ?_ ?_ ?_); walk_at "E"; walk_at "E"; rfl; rfl; rfl; rfl; rfl) | ((with_reducible refine @XJ _ _ _ _ _ _ _ ?_ ?_); walk_at "E"; walk_at "E") | ((with_reducible refine @T7 _ _ _ _ _ _ _ ?_ ?_); walk_at "E"; walk_at "E") | ((with_reducible refine @XG _ _ _ _ _ _ _ _ ?_ ?_ ?_ ?_ ?_ ?_ ?_); walk_at "E"; walk_at "E"; rfl; rfl; rfl; rfl; rfl) | ((with_reducible refine @WU _ _ _ _ _ _ _ _ _ _ ?_ ?_ ?_ ?_ ?_); walk_at "H"; walk_at "E"; rfl; rfl; rfl) | ((with_reducible refine @V8 _ _ _ _ _ ?_); walk_at "E") | ((with_reducible refine @W2 _ _ _ _ _ _ _ ?_ ?_ ?_ ?_ ?_); walk_at "H"; walk_at "E"; rfl; rfl; rfl) | ((with_reducible refine @DW.dt _ _ _ _ ?_); walk_at "E") | ((with_reducible refine @mY _ _ _ _ _ _ _ _ ?_ ?_); walk_at "E"; walk_at "E") | ((with_reducible refine @XA _ _ _ (by walk_at "C") ?_ ?_ _ _ _ _ _ _ ?_ ?_ ?_ ?_ ?_ ?_ ?_); walk_at "H"; walk_at "H"; walk_at "E"; rfl; rfl; rfl; rfl; rfl; rfl) | ((with_reducible refine @iP _ _ _ _ ?_ ?_); walk_at "E"; (intro _ ; rfl)) | ((with_reducible refine @A9 _ _ _ _ _ _ ?_); walk_at "E") | ((refine @jM _ _ _ _ _)) | ((refine @qZ _ _ _ _ _)) | ((refine @gN _ _ _ _ _ _ _ _ _ ?_ ?_ ?_ ?_); walk_at "F"; walk_at "E"; walk_at "E"; (first | exact cV _ (by decide) (by decide) | rfl)) | ((refine @rJ _ _ _ _ _ ?_); walk_at "E") | ((refine @jO _ _ _ _ _ ?_); walk_at "E") | ((refine @rH _ _ _ _ _ ?_); walk_at "E") | ((refine @DW.dt _ _ _ _ ?_); walk_at "E") | ((refine @mY _ _ _ _ _ _ _ _ ?_ ?_); walk_at "E"; walk_at "E") | ((refine @iP _ _ _ _ ?_ ?_); walk_at "E"; (intro _ ; rfl)))
local macro_rules | `(tactic| walk_at "GS") => `(tactic| first | exact @NV _ | ((refine @NW _ _ _ _ _ ?_ ?_ ?_); ((refine @y6 _ _ _ _ ?_ ?_ ?_ ?_); assumption; rfl; (first | exact Or.inl rfl | exact Or.inr rfl); (first | exact .inl rfl | exact .inr rfl | assumption)); walk_at "GS"; rfl))
local macro_rules | `(tactic| walk_at "G") => `(tactic| first | ((with_reducible refine @SV _ _ _ _ ?_ ?_ ?_ ?_); assumption; rfl; (first | exact Or.inl rfl | exact Or.inr rfl); (first | exact .inl rfl | exact .inr rfl | assumption)) | ((with_reducible refine @SW _ _ _ _ _ _ ?_ ?_ ?_ ?_ ?_); walk_at "H"; walk_at "GS"; rfl; rfl; rfl))
local macro_rules | `(tactic| kst_p1) => `(tactic| exact @TC _ _ _ _ _ _ _ _ _ (by assumption) (by walk_at "E") (by rfl) (by kcj_m) (by rfl) (by kcf_m))
local macro_rules | `(tactic| walk_at "s3") => `(tactic| exact @pA _ _ _ _ _ _ _ _ (by walk_at "E"))
local macro_rules | `(tactic| walk_at "s5") => `(tactic| exact @TD _ _ _ _ _ _ _ _ _ _ _ (by assumption) (by walk_at "E") (by rfl) (by rfl) (by kcj_m) (by rfl) (by kcf_m))
local macro_rules | `(tactic| walk_at "s1") => `(tactic| exact @TB _ _ _ _ _ _ _ _ _ _ (by assumption) (by walk_at "E") (by rfl) (by rfl) (by kcj_m) (by rfl) (by kcf_m))
local macro_rules | `(tactic| kpf_c) => `(tactic| exact @TR _ _ _ _ _ _ _ _ _ _ _ _ (by walk_at "E") (by rfl) (by rfl) (by kst_p2) (by decide) (by decide) (by rfl) (by rfl) (by rfl) (by rfl) (by rfl) (by rfl))
local macro_rules | `(tactic| walk_at "s9") => `(tactic| exact @TM _ _ _ _ _ _ _ _ _ _ (by walk_at "E") (by walk_at "G") (by rfl) (by rfl) (by rfl) (by rfl))
local macro_rules | `(tactic| walk_at "s6") => `(tactic| exact @TH _ _ _ _ _ _ _ _ _ _ _ (by assumption) (by walk_at "E") (by rfl) (by rfl) (by kcj_m) (by rfl) (by kcf_m))
local macro_rules | `(tactic| walk_at "sd") => `(tactic| exact @VZ _ _ _ _ _ _ _ _ _ _ _ _ (by walk_at "E") (by rfl) (by rfl) (by kst_p2) (by decide) (by decide) (by rfl) (by rfl) (by rfl) (by rfl) (by rfl) (by rfl))
local macro_rules | `(tactic| kd_p1) => `(tactic| exact (@cA _ _ _ _ _ _ _ (by walk_at "s3")))
local macro_rules | `(tactic| walk_at "I3") => `(tactic| exact (@dZ _ _ _ _ _ _ _ _ _ _ _ _ (by walk_at "E") (by kd_p1) (@gG _ _ _ _)))
set_option maxHeartbeats 4000000
variable {P : Program} {w : World} {K : xFg} {mg : Str -> Option Value} {base : Heap} {f : Addr} {fd : FuncData} {k : Nat}
local macro_rules | `(tactic| kst_p) => `(tactic| exact ⟨rfl, rfl, rfl, by decide +kernel, rfl, by decide +kernel, by decide +kernel⟩)
local macro_rules | `(tactic| walk_at "b0") => `(tactic| exact fun _ _ _ _ _ _ => us0 (rfl))
local macro_rules | `(tactic| walk_at "b1") => `(tactic| exact fun _ _ _ _ _ _ => sV (fun _ => rfl))
local macro_rules | `(tactic| walk_at "b2") => `(tactic| exact fun _ _ _ _ _ _ => wX (fun _ _ => rfl))
local macro_rules | `(tactic| walk_at "b3") => `(tactic| exact fun _ _ _ _ _ _ => us3 (fun _ _ _ => rfl))
local macro_rules | `(tactic| walk_at "b4") => `(tactic| exact fun _ _ _ _ _ _ => us4 (fun _ _ _ _ => rfl))
local macro_rules | `(tactic| walk_at "b5") => `(tactic| exact fun _ _ _ _ _ _ => us5 (fun _ _ _ _ _ => rfl))
def top (i : Nat) : Stmt := PySem.Challenge.pw_chalkline_k32_drawings_written.main.body.getD i (.Pass ⟨0, 0, 0, 0⟩)
theorem zaA (F : FA K mg "_law_mixed" (top 29) ["_law_cell_here", "_law_k"] f fd) : aS P w K mg base (k + 1) "_law_mixed" n8 := F.ok (own' := []) (N := ["_law_cell_here", "_law_k", "_law_number"]) (by kst_p) rfl rfl fun _ _ _ _ _ _ C L nd => (@aX _ _ _ _ _ _ _ _ _ _ (by kst_p1) (@aX _ _ _ _ _ _ _ _ _ _ (by kst_p1) (@aX _ _ _ _ _ _ _ _ _ _ (by kst_p1) (by kd_p1))))
theorem zaB (F : FA K mg "_law_digits" (top 30) ["_law_cell_here", "_law_many"] f fd) (q1 : mg "range" = none) (q0 : aS P w K mg base k "_law_mixed" n8) : aS P w K mg base (k + 1) "_law_digits" cO := F.ok (own' := []) (N := ["_law_cell_here", "_law_many", "_law_found", "_law_number", "_law_k"]) (by kst_p) rfl rfl fun _ _ _ _ _ _ C L nd => (@aX _ _ _ _ _ _ _ _ _ _ (by walk_at "s5") (@aX _ _ _ _ _ _ _ _ _ _ (by walk_at "s1") (@aX _ _ _ _ _ _ _ _ _ _ (@iS _ _ _ _ _ _ _ _ _ _ _ _ L C.calm (by walk_at "E") (by walk_at "G") (@cA _ _ _ _ _ _ _ (@dZ _ _ _ _ _ _ _ _ _ _ _ _ (@DW.dt _ _ _ _ (@mY _ _ _ _ _ _ _ _ (by walk_at "E") (@rH _ _ _ _ _ (@gN _ _ _ _ _ _ _ _ _ (@nA _) (by walk_at "E") (@jM _ _ _ _ _) (by first | exact cV _ (by decide) (by decide) | rfl))))) (@aX _ _ _ _ _ _ _ _ _ _ (by kpf_c) (@cA _ _ _ _ _ _ _ (by walk_at "s1"))) (@cA _ _ _ _ _ _ _ (by kpf_c)))) (by rfl) (by intro _ ; rfl)) (@jP _ _ _ _ _ _ _ _ 2 (by rfl) (by rfl) (by kd_p1)))))
theorem zaC (F : FA K mg "_law_names" (top 31) ["_law_cell_here", "_law_many"] f fd) (q1 : mg "range" = none) (q2 : mg "int" = none) (q0 : aS P w K mg base k "_law_digits" cO) : aS P w K mg base (k + 1) "_law_names" p7 := F.ok (own' := []) (N := ["_law_cell_here", "_law_many", "_law_letters", "_law_digits_here", "_law_tail", "_law_j", "_law_found", "_law_k", "_law_name"]) (by kst_p) rfl rfl fun _ _ _ _ _ _ C L nd => (@aX _ _ _ _ _ _ _ _ _ _ (by kst_p1) (@aX _ _ _ _ _ _ _ _ _ _ (by kst_p1) (@aX _ _ _ _ _ _ _ _ _ _ (by kst_p1) (@aX _ _ _ _ _ _ _ _ _ _ (@iS _ _ _ _ _ _ _ _ _ _ _ _ L C.calm (by walk_at "E") (by walk_at "G") (@cA _ _ _ _ _ _ _ (by kst_p1)) (by rfl) (by intro _ ; rfl)) (@aX _ _ _ _ _ _ _ _ _ _ (by walk_at "s5") (@aX _ _ _ _ _ _ _ _ _ _ (@iS _ _ _ _ _ _ _ _ _ _ _ _ L C.calm (by walk_at "E") (by walk_at "G") (@aX _ _ _ _ _ _ _ _ _ _ (by walk_at "s1") (@cA _ _ _ _ _ _ _ (by kpf_c))) (by rfl) (by intro _ ; rfl)) (@jP _ _ _ _ _ _ _ _ 6 (by rfl) (by rfl) (by kd_p1))))))))
theorem zaD (F : FA K mg "_law_row" (top 32) ["_law_digits_here", "_law_names_here", "_law_rules_here"] f fd) (q1 : mg "len" = none) (q0 : mg "tuple" = none) : aS P w K mg base (k + 1) "_law_row" mG := F.ok (own' := []) (N := ["_law_digits_here", "_law_names_here", "_law_rules_here", "_law_new", "_law_some", "_law_name", "_law_many"]) (by kst_p) rfl rfl fun _ _ _ _ _ _ C L nd => (@aX _ _ _ _ _ _ _ _ _ _ (by kst_p1) (@aX _ _ _ _ _ _ _ _ _ _ (@TL _ _ _ _ _ _ _ _ _ _ _ _ _ _ _ _ _ _ _ _ 4 C.calm nd (LC.of (k := 1) (NY := ["_law_digit", "_law_digits_here", "_law_names_here", "_law_rules_here", "_law_new", "_law_some", "_law_name", "_law_many"]) (N := ["_law_digits_here", "_law_names_here", "_law_rules_here", "_law_new", "_law_some", "_law_name", "_law_many"]) (sc0 := (bX (top 32))) rfl rfl (by decide +kernel)) rfl (by walk_at "E") (fun _ _ _ _ nd2 => ⟨(by walk_at "G"), (@m6 _ _), (by walk_at "E")⟩) (by rfl) (by rfl) (by rfl) (by rfl) (by intro _ ; rfl)) (@aX _ _ _ _ _ _ _ _ _ _ (@dZ _ _ _ _ _ _ _ _ _ _ _ _ (@DW.dt _ _ _ _ (@mY _ _ _ _ _ _ _ _ (@gN _ _ _ _ _ _ _ _ _ (@nA _) (by walk_at "E") (@jM _ _ _ _ _) (by first | exact cV _ (by decide) (by decide) | rfl)) (by walk_at "E"))) (@aX _ _ _ _ _ _ _ _ _ _ (by walk_at "s9") (by kd_p1)) (@gG _ _ _ _)) (by kd_p1))))
theorem zaE (F : FA K mg "_law_body" (top 33) ["_law_cells", "_law_at", "_law_names_here", "_law_rules_here", "_law_left"] f fd) (q2 : mg "range" = none) (q4 : mg "len" = none) (q5 : mg "int" = none) (q3 : mg "tuple" = none) (q0 : aS P w K mg base k "_law_digits" cO) (q1 : aS P w K mg base k "_law_row" mG) : aS P w K mg base (k + 1 + 64) "_law_body" lA := show aS P w K mg base (k + 1 + 64) "_law_body" (i7 (fun m => bN 5 9 (oA m)) 64) from F.deep (own' := []) (N := ["_law_cells", "_law_at", "_law_names_here", "_law_rules_here", "_law_left", "_law_rows", "_law_turn", "_law_digits_here", "_law_inner"]) (by kst_p) rfl rfl (fun j m F__law_body _ _ _ _ _ _ C L nd => have q0 := aS.mono q0 (show k <= k + 1 + j by omega); have q1 := aS.mono q1 (show k <= k + 1 + j by omega); (@aX _ _ _ _ _ _ _ _ _ _ (by walk_at "s5") (@aX _ _ _ _ _ _ _ _ _ _ (@iS _ _ _ _ _ _ _ _ _ _ _ _ L C.calm (by walk_at "E") (by walk_at "G") (@aX _ _ _ _ _ _ _ _ _ _ (by walk_at "s1") (@aX _ _ _ _ _ _ _ _ _ _ (by walk_at "s1") (@cA _ _ _ _ _ _ _ (@dZ _ _ _ _ _ _ _ _ _ _ _ _ (@DW.dt _ _ _ _ (@mY _ _ _ _ _ _ _ _ (by walk_at "E") (@mY _ _ _ _ _ _ _ _ (@gN _ _ _ _ _ _ _ _ _ (@nA _) (by walk_at "E") (@jM _ _ _ _ _) (by first | exact cV _ (by decide) (by decide) | rfl)) (@rH _ _ _ _ _ (@gN _ _ _ _ _ _ _ _ _ (@pG _) (by walk_at "E") (@jM _ _ _ _ _) (by first | exact cV _ (by decide) (by decide) | rfl)))))) (@aX _ _ _ _ _ _ _ _ _ _ (by walk_at "s9") (@cA _ _ _ _ _ _ _ (by kpf_c))) (@cA _ _ _ _ _ _ _ (by kpf_c)))))) (by rfl) (by intro _ ; rfl)) (@jP _ _ _ _ _ _ _ _ 5 (by rfl) (by rfl) (by kd_p1))))) 64
theorem zaF (F : FA K mg "_law_rules" (top 34) ["_law_cells", "_law_many", "_law_names_here"] f fd) (q2 : mg "range" = none) (q4 : mg "len" = none) (q5 : mg "int" = none) (q3 : mg "tuple" = none) (q0 : aS P w K mg base k "_law_digits" cO) (q1 : aS P w K mg base k "_law_body" lA) : aS P w K mg base (k + 1) "_law_rules" p9 := F.ok (own' := []) (N := ["_law_cells", "_law_many", "_law_names_here", "_law_rules_here", "_law_known", "_law_at", "_law_k", "_law_digits_here", "_law_params", "_law_turn", "_law_inner", "_law_rows"]) (by kst_p) rfl rfl fun _ _ _ _ _ _ C L nd => (@aX _ _ _ _ _ _ _ _ _ _ (by walk_at "s5") (@aX _ _ _ _ _ _ _ _ _ _ (by walk_at "s1") (@aX _ _ _ _ _ _ _ _ _ _ (by walk_at "s1") (@aX _ _ _ _ _ _ _ _ _ _ (@iS _ _ _ _ _ _ _ _ _ _ _ _ L C.calm (by walk_at "E") (by walk_at "G") (@aX _ _ _ _ _ _ _ _ _ _ (by walk_at "s1") (@aX _ _ _ _ _ _ _ _ _ _ (by walk_at "s1") (@aX _ _ _ _ _ _ _ _ _ _ (by walk_at "s1") (@aX _ _ _ _ _ _ _ _ _ _ (by walk_at "s1") (@aX _ _ _ _ _ _ _ _ _ _ (by walk_at "s1") (@aX _ _ _ _ _ _ _ _ _ _ (by walk_at "s9") (@aX _ _ _ _ _ _ _ _ _ _ (by kpf_c) (@cA _ _ _ _ _ _ _ (by walk_at "s1"))))))))) (by rfl) (by intro _ ; rfl)) (@jP _ _ _ _ _ _ _ _ 3 (by rfl) (by rfl) (by kd_p1))))))
theorem zaG (F : FA K mg "_law_cell" (top 27) ["_law_script", "_law_k"] f fd) (q0 : mg "len" = none) : aS P w K mg base (k + 1) "_law_cell" fY := F.ok (own' := []) (N := ["_law_script", "_law_k"]) (by kst_p) rfl rfl fun _ _ _ _ _ _ C L nd => (@aX _ _ _ _ _ _ _ _ _ _ (@dZ _ _ _ _ _ _ _ _ _ _ _ _ (@gN _ _ _ _ _ _ _ _ _ (@pG _) (by walk_at "E") (by walk_at "E") (by first | exact cV _ (by decide) (by decide) | rfl)) (by kd_p1) (@gG _ _ _ _)) (by kd_p1))
theorem zaH (F : FA K mg "_law_drawing" (top 35) ["_law_script"] f fd) (q5 : mg "tuple" = none) (q0 : aS P w K mg base k "_law_digits" cO) (q3 : aS P w K mg base k "_law_cell" fY) (q1 : aS P w K mg base k "_law_names" p7) (q2 : aS P w K mg base k "_law_rules" p9) (q4 : aS P w K mg base k "_law_body" lA) : aS P w K mg base (k + 1) "_law_drawing" mI := F.ok (own' := []) (N := ["_law_script", "_law_first", "_law_names_here", "_law_cells", "_law_rules_here", "_law_known", "_law_at", "_law_rows"]) (by kst_p) rfl rfl fun _ _ _ _ _ _ C L nd => (@aX _ _ _ _ _ _ _ _ _ _ (by kst_p1) (@aX _ _ _ _ _ _ _ _ _ _ (by kst_p1) (@aX _ _ _ _ _ _ _ _ _ _ (by kst_p1) (@aX _ _ _ _ _ _ _ _ _ _ (by walk_at "s9") (@aX _ _ _ _ _ _ _ _ _ _ (by walk_at "s9") (by kd_p1))))))
theorem zaI (F : FA K mg "_law_texts" (top 36) ["_law_rows"] f fd) (q1 : mg "str" = none) (q0 : mg "list" = none) : aS P w K mg base (k + 1 + 64) "_law_texts" j3 := show aS P w K mg base (k + 1 + 64) "_law_texts" (i7 (fun m => bN 1 3 (oB m)) 64) from F.deep (own' := []) (N := ["_law_rows", "_law_found", "_law_row_here"]) (by kst_p) rfl rfl (fun j m F__law_texts _ _ _ _ _ _ C L nd => (@aX _ _ _ _ _ _ _ _ _ _ (by walk_at "s5") (@aX _ _ _ _ _ _ _ _ _ _ (@iS _ _ _ _ _ _ _ _ _ _ _ _ L C.calm (by walk_at "E") (by walk_at "G") (@cA _ _ _ _ _ _ _ (@dZ _ _ _ _ _ _ _ _ _ _ _ _ (by walk_at "E") (@cA _ _ _ _ _ _ _ (by walk_at "s6")) (@cA _ _ _ _ _ _ _ (@dZ _ _ _ _ _ _ _ _ _ _ _ _ (by walk_at "E") (@cA _ _ _ _ _ _ _ (by kpf_c)) (@cA _ _ _ _ _ _ _ (by kpf_c)))))) (by rfl) (by intro _ ; rfl)) (@jP _ _ _ _ _ _ _ _ 1 (by rfl) (by rfl) (by kd_p1))))) 64
theorem zaJ (F : FA K mg "_law_text" (top 37) ["_law_drawing_here"] f fd) (q0 : aS P w K mg base k "_law_texts" j3) : aS P w K mg base (k + 1) "_law_text" lD := F.ok (own' := []) (N := ["_law_drawing_here", "_law_found", "_law_name", "_law_params", "_law_out", "_law_rows"]) (by kst_p) rfl rfl fun _ _ _ _ _ _ C L nd => (@aX _ _ _ _ _ _ _ _ _ _ (by walk_at "s5") (@aX _ _ _ _ _ _ _ _ _ _ (@iS _ _ _ _ _ _ _ _ _ _ _ _ L C.calm (by walk_at "E") (by walk_at "G") (@aX _ _ _ _ _ _ _ _ _ _ (by kpf_c) (@jP _ _ _ _ _ _ _ _ 1 (by rfl) (by rfl) (@cA _ _ _ _ _ _ _ (by walk_at "s5")))) (by rfl) (by intro _ ; rfl)) (@jP _ _ _ _ _ _ _ _ 1 (by rfl) (by rfl) (by kd_p1))))
theorem zaK (F : FA K mg "shown_rows" (top 25) ["rows"] f fd) (q1 : mg "str" = none) (q0 : mg "list" = none) : aS P w K mg base (k + 1 + 64) "shown_rows" jA := show aS P w K mg base (k + 1 + 64) "shown_rows" (i7 (fun m => bN 1 3 (n5 m)) 64) from F.deep (own' := []) (N := ["rows", "pieces", "row"]) (by kst_p) rfl rfl (fun j m F_shown_rows _ _ _ _ _ _ C L nd => (@aX _ _ _ _ _ _ _ _ _ _ (by walk_at "s5") (@aX _ _ _ _ _ _ _ _ _ _ (@iS _ _ _ _ _ _ _ _ _ _ _ _ L C.calm (by walk_at "E") (by walk_at "G") (@cA _ _ _ _ _ _ _ (@dZ _ _ _ _ _ _ _ _ _ _ _ _ (by walk_at "E") (@aX _ _ _ _ _ _ _ _ _ _ (by kpf_c) (@aX _ _ _ _ _ _ _ _ _ _ (by walk_at "sd") (@cA _ _ _ _ _ _ _ (by kpf_c)))) (@cA _ _ _ _ _ _ _ (@dZ _ _ _ _ _ _ _ _ _ _ _ _ (by walk_at "E") (@cA _ _ _ _ _ _ _ (by kpf_c)) (@cA _ _ _ _ _ _ _ (by kpf_c)))))) (by rfl) (by intro _ ; rfl)) (@jP _ _ _ _ _ _ _ _ 1 (by rfl) (by rfl) (by kd_p1))))) 64
theorem zaL (F : FA K mg "shown_drawing" (top 24) ["drawing"] f fd) (q1 : mg "list" = none) (q0 : aS P w K mg base k "shown_rows" jA) : aS P w K mg base (k + 1) "shown_drawing" jB := F.ok (own' := []) (N := ["drawing", "pieces", "name", "params", "out", "rows"]) (by kst_p) rfl rfl fun _ _ _ _ _ _ C L nd => (@aX _ _ _ _ _ _ _ _ _ _ (by walk_at "s5") (@aX _ _ _ _ _ _ _ _ _ _ (@iS _ _ _ _ _ _ _ _ _ _ _ _ L C.calm (by walk_at "E") (by walk_at "G") (@aX _ _ _ _ _ _ _ _ _ _ (by kpf_c) (@aX _ _ _ _ _ _ _ _ _ _ (by walk_at "sd") (@cA _ _ _ _ _ _ _ (by kpf_c)))) (by rfl) (by intro _ ; rfl)) (@jP _ _ _ _ _ _ _ _ 1 (by rfl) (by rfl) (by kd_p1))))
theorem zaM (F : FA K mg "_law_whole" (top 28) ["_law_found"] f fd) (q0 : mg "isinstance" = none) (q2 : mg "int" = none) (q1 : mg "bool" = none) : aS P w K mg base (k + 1) "_law_whole" n6 := F.ok (own' := []) (N := ["_law_found"]) (by kst_p) rfl rfl fun _ _ _ _ _ _ C L nd => (@cA _ _ _ _ _ _ _ (@pA _ _ _ _ _ _ _ _ (@vE _ _ _ _ _ _ _ _ (@jR _ _ _ _ _ _ _ q0 (@cI _ _ _ _ _ _ (by walk_at "E") (@cI _ _ _ _ _ _ (@jN _ _ _ _ _ q2 vQ (by rfl) (by decide) (by decide)) (@dA _ _) (by rfl)) (by rfl)) (by rfl) (by rfl) (by rfl)) (@A9 _ _ _ _ _ _ (@SK _ _ _ _ _ (@jR _ _ _ _ _ _ _ q0 (@cI _ _ _ _ _ _ (by walk_at "E") (@cI _ _ _ _ _ _ (@jN _ _ _ _ _ q1 UM (by rfl) (by decide) (by decide)) (@dA _ _) (by rfl)) (by rfl)) (by rfl) (by rfl) (by rfl)))))))
theorem zaN (F : FA K mg "_law_like" (top 38) ["_law_found", "_law_due"] f fd) (q0 : mg "isinstance" = none) (q2 : mg "tuple" = none) (q3 : mg "len" = none) (q4 : mg "zip" = none) (q5 : mg "str" = none) (q1 : aS P w K mg base k "_law_whole" n6) : aS P w K mg base (k + 1 + 64) "_law_like" gX := show aS P w K mg base (k + 1 + 64) "_law_like" (i7 (fun m => bN 2 4 (lE m)) 64) from F.deep (own' := []) (N := ["_law_found", "_law_due", "_law_one", "_law_other"]) (by kst_p) rfl rfl (fun j m F__law_like _ _ _ _ _ _ C L nd => have q1 := aS.mono q1 (show k <= k + 1 + j by omega); (@aX _ _ _ _ _ _ _ _ _ _ (@dZ _ _ _ _ _ _ _ _ _ _ _ _ (@iP _ _ _ _ (@jR _ _ _ _ _ _ _ q0 (@cI _ _ _ _ _ _ (by walk_at "E") (@cI _ _ _ _ _ _ (@jN _ _ _ _ _ q2 vR (by rfl) (by decide) (by decide)) (@dA _ _) (by rfl)) (by rfl)) (by rfl) (by rfl) (by rfl)) (by intro _ ; rfl)) (@aX _ _ _ _ _ _ _ _ _ _ (@dZ _ _ _ _ _ _ _ _ _ _ _ _ (@DW.dt _ _ _ _ (@lQ _ _ _ _ _ _ _ _ (@jO _ _ _ _ _ (@iP _ _ _ _ (@jR _ _ _ _ _ _ _ q0 (@cI _ _ _ _ _ _ (by walk_at "E") (@cI _ _ _ _ _ _ (@jN _ _ _ _ _ q2 vR (by rfl) (by decide) (by decide)) (@dA _ _) (by rfl)) (by rfl)) (by rfl) (by rfl) (by rfl)) (by intro _ ; rfl))) (by walk_at "E"))) (by kd_p1) (@gG _ _ _ _)) (@aX _ _ _ _ _ _ _ _ _ _ (@iS _ _ _ _ _ _ _ _ _ _ _ _ L C.calm (by walk_at "E") (by walk_at "G") (@cA _ _ _ _ _ _ _ (by walk_at "I3")) (by rfl) (by intro _ ; rfl)) (by kd_p1))) (@gG _ _ _ _)) (@aX _ _ _ _ _ _ _ _ _ _ (@dZ _ _ _ _ _ _ _ _ _ _ _ _ (@iP _ _ _ _ (@jR _ _ _ _ _ _ _ q0 (@cI _ _ _ _ _ _ (by walk_at "E") (@cI _ _ _ _ _ _ (@jN _ _ _ _ _ q5 nB (by rfl) (by decide) (by decide)) (@dA _ _) (by rfl)) (by rfl)) (by rfl) (by rfl) (by rfl)) (by intro _ ; rfl)) (@cA _ _ _ _ _ _ _ (@pA _ _ _ _ _ _ _ _ (@vE _ _ _ _ _ _ _ _ (@jR _ _ _ _ _ _ _ q0 (@cI _ _ _ _ _ _ (by walk_at "E") (@cI _ _ _ _ _ _ (@jN _ _ _ _ _ q5 nB (by rfl) (by decide) (by decide)) (@dA _ _) (by rfl)) (by rfl)) (by rfl) (by rfl) (by rfl)) (by walk_at "E")))) (@gG _ _ _ _)) (by kd_p1)))) 64
theorem zaO (F : FA K mg "_law_loose" (top 39) ["_law_names_here", "_law_drawing_here", "_law_number"] f fd) (q0 : mg "tuple" = none) : aS P w K mg base (k + 1) "_law_loose" j5 := F.ok (own' := []) (N := ["_law_names_here", "_law_drawing_here", "_law_number", "_law_row_here", "_law_rules_here", "_law_name", "_law_params", "_law_out", "_law_rows"]) (by kst_p) rfl rfl fun _ _ _ _ _ _ C L nd => (@aX _ _ _ _ _ _ _ _ _ _ (by kst_p1) (@aX _ _ _ _ _ _ _ _ _ _ (by kst_p1) (@aX _ _ _ _ _ _ _ _ _ _ (@dZ _ _ _ _ _ _ _ _ _ _ _ _ (by walk_at "E") (@aX _ _ _ _ _ _ _ _ _ _ (by walk_at "s9") (@cA _ _ _ _ _ _ _ (by kst_p1))) (@gG _ _ _ _)) (by kd_p1))))
theorem zaP (F : FA K mg "is_word" (top 15) ["thing"] f fd) (q1 : mg "isinstance" = none) (q3 : mg "str" = none) (q4 : mg "len" = none) (q5 : mg "all" = none) (q0 : ∃ u v, mg "MOST_LETTERS" = some u /\ aR v u /\ ∀ G, Rep K mg G sY v) (q2 : ∃ u v, mg "LETTERS" = some u /\ aR v u /\ ∀ G, Rep K mg G xG v) : aS P w K mg base (k + 1) "is_word" nY := F.ok (own' := []) (N := ["thing"]) (by kst_p) rfl rfl fun _ _ _ _ _ _ C L nd => (@aX _ _ _ _ _ _ _ _ _ _ (@dZ _ _ _ _ _ _ _ _ _ _ _ _ (@DW.dt _ _ _ _ (@lQ _ _ _ _ _ _ _ _ (@jO _ _ _ _ _ (@iP _ _ _ _ (@jR _ _ _ _ _ _ _ q1 (@cI _ _ _ _ _ _ (by walk_at "E") (@cI _ _ _ _ _ _ (@jN _ _ _ _ _ q3 nB (by rfl) (by decide) (by decide)) (@dA _ _) (by rfl)) (by rfl)) (by rfl) (by rfl) (by rfl)) (by intro _ ; rfl))) (@rJ _ _ _ _ _ (@jO _ _ _ _ _ (@UJ _ _ _ _ _ _ _ _ _ _ _ _ _ (@vO _) (@vO _) (@jM _ _ _ _ _) (by walk_at "E") (by walk_at "E") (by with_unfolding_all rfl)))))) (by kd_p1) (@gG _ _ _ _)) (@cA _ _ _ _ _ _ _ (@pA _ _ _ _ _ _ _ _ (@BZ _ _ _ _ _ _ _ C.calm q5 (@cI _ _ _ _ _ _ (@DF.val _ _ _ _ (@o7 _ _ _ _ _ _ _ _ _ _ _ _ _ _ _ C.calm (LC.of (k := 1) (NY := ["sign", "thing"]) (N := ["thing"]) (sc0 := (bX (top 15))) rfl rfl (by decide +kernel)) rfl (by walk_at "E") (fun _ _ _ _ nd2 => ⟨(by walk_at "G"), (@m6 _ _), (by walk_at "E")⟩) (by intro _ ; rfl))) (@dA _ _) (by rfl)) (by rfl) (by rfl) (by rfl)))))
theorem zaQ (F : FA K mg "is_name" (top 14) ["thing"] f fd) (q0 : ∃ u v, mg "NO_NAMES" = some u /\ aR v u /\ ∀ G, Rep K mg G s9 v) (q1 : aS P w K mg base k "is_word" nY) : aS P w K mg base (k + 1) "is_name" k7 := F.ok (own' := []) (N := ["thing"]) (by kst_p) rfl rfl fun _ _ _ _ _ _ C L nd => (by kd_p1)
theorem zaR (F : FA K mg "look_at_names" (top 18) ["words"] f fd) {q1 : Addr} (q2 : mg "NoText" = some (.ref q1)) (q3 : PySem.W.excIn K q1 [.type "ValueError", .type "Exception", .type "BaseException", .type "object"] "ValueError.__new__" = true) (q4 : dX K mg "NoText" q1) (q5 : mg "all" = none) (q0 : aS P w K mg base k "is_name" k7) : aS P w K mg base (k + 1) "look_at_names" iG := F.ok (own' := []) (N := ["words"]) (by kst_p) rfl rfl fun _ _ _ _ _ _ C L nd => (@cA _ _ _ _ _ _ _ (@dZ _ _ _ _ _ _ _ _ _ _ _ _ (@jO _ _ _ _ _ (@iP _ _ _ _ (@BZ _ _ _ _ _ _ _ C.calm q5 (@cI _ _ _ _ _ _ (@DF.val _ _ _ _ (@o7 _ _ _ _ _ _ _ _ _ _ _ _ _ _ _ C.calm (LC.of (k := 1) (NY := ["word", "words"]) (N := ["words"]) (sc0 := (bX (top 18))) rfl rfl (by decide +kernel)) rfl (by walk_at "E") (fun _ _ _ _ nd2 => ⟨(by walk_at "G"), (@m6 _ _), (by walk_at "E")⟩) (by intro _ ; rfl))) (@dA _ _) (by rfl)) (by rfl) (by rfl) (by rfl)) (by intro _ ; rfl))) (@cA _ _ _ _ _ _ _ (@B6 _ _ _ _ _ _ _ _ _ _ _ _ _ _ _ _ _ _ _ _ _ _ _ _ _ _ q3 q4 (by rfl) (by decide))) (@gG _ _ _ _)))
theorem zaS (F : FA K mg "read_end" (top 20) ["reader"] f fd) {q0 : Addr} (q1 : mg "NoText" = some (.ref q0)) (q2 : PySem.W.excIn K q0 [.type "ValueError", .type "Exception", .type "BaseException", .type "object"] "ValueError.__new__" = true) (q3 : dX K mg "NoText" q0) {q4 : Addr} (q5 : Rdr.RdF P w K mg base k q4) : Rdr.FnAtR P w K mg base (k + 1) "read_end" q4 0 jZ := Rdr.FA.okR F (N := ["reader"]) (by kst_p) rfl rfl fun _ _ _ _ _ _ C L nd => (@Rdr.drs_one _ _ _ _ _ _ (@Rdr.dr_if _ _ _ _ _ _ _ _ _ _ _ (@Rdr.rt_cmp _ _ _ _ _ _ _ _ _ _ _ (@vP _ _ _ C) (@Rdr.er_take _ _ _ _ _ _ _ _ _ C q5 _ (by rfl) (by kst_p2) (by decide) (by decide) (by rfl)) (by walk_at "E") (by first | exact cV _ (by decide) (by decide) | rfl)) (@Rdr.drs_one _ _ _ _ _ _ (@Rdr.dr_raise1 _ _ _ _ _ _ _ _ _ _ _ _ _ _ _ _ _ _ _ _ _ _ _ _ _ q2 q3 (by rfl) (by decide))) (@Rdr.drs_nil _ _ _ _)))
theorem zaT (F : FA K mg "read_times" (top 23) ["words", "reader", "within"] f fd) {q4 : Addr} (q5 : mg "NoText" = some (.ref q4)) (q6 : PySem.W.excIn K q4 [.type "ValueError", .type "Exception", .type "BaseException", .type "object"] "ValueError.__new__" = true) (q7 : dX K mg "NoText" q4) {q12 : Addr} (q13 : Rdr.RdF P w K mg base k q12) {m : Rdr.RM} (q9 : mg "len" = none) (q8 : mg "range" = none) (q10 : mg "str" = none) (q11 : mg "int" = none) (q0 : ∃ u v, mg "MOST_WITHIN" = some u /\ aR v u /\ ∀ G, Rep K mg G tH v) (q1 : ∃ u v, mg "MOST_TIMES" = some u /\ aR v u /\ ∀ G, Rep K mg G nZ v) (q2 : Rdr.FnAtR P w K mg base k "read_rows" q12 0 m) (q3 : Rdr.FnAtR P w K mg base k "read_end" q12 0 jZ) : Rdr.FnAtR P w K mg base (k + 1) "read_times" q12 1 (l9 m) := Rdr.FA.okR F (N := ["words", "reader", "within", "rows"]) (by kst_p) rfl rfl fun _ _ _ _ _ _ C L nd => (@Rdr.drs_cons _ _ _ _ _ _ _ _ (@Rdr.dr_if _ _ _ _ _ _ _ _ _ _ _ (@Rdr.rt_dt _ _ _ _ _ _ (by walk_at "E")) (@Rdr.drs_one _ _ _ _ _ _ (@Rdr.dr_raise1 _ _ _ _ _ _ _ _ _ _ _ _ _ _ _ _ _ _ _ _ _ _ _ _ _ q6 q7 (by rfl) (by decide))) (@Rdr.drs_nil _ _ _ _)) (@Rdr.drs_cons _ _ _ _ _ _ _ _ (@Rdr.dr_if _ _ _ _ _ _ _ _ _ _ _ (@Rdr.rt_dt _ _ _ _ _ _ (@DW.dt _ _ _ _ (@lQ _ _ _ _ _ _ _ _ (by walk_at "E") (@rJ _ _ _ _ _ (@gN _ _ _ _ _ _ _ _ _ (@wQ _ _ _ C) (by walk_at "E") (@DF.val _ _ _ _ (@o7 _ _ _ _ _ _ _ _ _ _ _ _ _ _ _ C.calm (LC.of (k := 1) (NY := ["number", "words", "reader", "within", "rows"]) (N := ["words", "reader", "within", "rows"]) (sc0 := (bX (top 23))) rfl rfl (by decide +kernel)) rfl (by walk_at "E") (fun _ _ _ _ nd2 => ⟨(by walk_at "G"), (@m6 _ _), (by walk_at "E")⟩) (by intro _ ; rfl))) (by first | exact cV _ (by decide) (by decide) | rfl)))))) (@Rdr.drs_one _ _ _ _ _ _ (@Rdr.dr_raise1 _ _ _ _ _ _ _ _ _ _ _ _ _ _ _ _ _ _ _ _ _ _ _ _ _ q6 q7 (by rfl) (by decide))) (@Rdr.drs_nil _ _ _ _)) (@Rdr.drs_cons _ _ _ _ _ _ _ _ (@Rdr.dr_set _ _ _ _ _ _ _ _ _ 3 nd (@Rdr.er_call _ _ _ _ _ _ _ _ _ _ _ _ _ C q2 (@Rdr.dar_here _ _ _ _ _ _ _ _ (by walk_at "E") (by rfl) (by kst_p2) (by decide) (by decide) (by rfl)) (by rfl) (by decide) (by rfl) (by rfl)) (by rfl) (by rfl) (by kcj_m) (by rfl) (by kcf_m)) (@Rdr.drs_cons _ _ _ _ _ _ _ _ (@Rdr.dr_expr _ _ _ _ _ _ _ (@Rdr.er_call _ _ _ _ _ _ _ _ _ _ _ _ _ C q3 (@Rdr.dar_nil _ _ _ _ _ _ (by rfl) (by kst_p2) (by decide) (by decide) (by rfl)) (by rfl) (by decide) (by rfl) (by rfl)) (by rfl)) (@Rdr.drs_one _ _ _ _ _ _ (@Rdr.dr_ret _ _ _ _ _ _ _ (@Rdr.er_de _ _ _ _ _ _ (by walk_at "E"))))))))
theorem zaU (F : FA K mg "read_row" (top 22) ["reader", "within"] f fd) {q2 : Addr} (q3 : mg "NoText" = some (.ref q2)) (q4 : PySem.W.excIn K q2 [.type "ValueError", .type "Exception", .type "BaseException", .type "object"] "ValueError.__new__" = true) (q5 : dX K mg "NoText" q2) {q8 : Addr} (q9 : Rdr.RdF P w K mg base k q8) {m : Rdr.RM} (q7 : mg "len" = none) (q6 : mg "tuple" = none) (q1 : Rdr.FnAtR P w K mg base k "read_times" q8 1 m) (q0 : aS P w K mg base k "look_at_names" iG) : Rdr.FnAtR P w K mg base (k + 1) "read_row" q8 0 (j1 m) := Rdr.FA.okR F (N := ["reader", "within", "words", "names"]) (by kst_p) rfl rfl fun _ _ _ _ _ _ C L nd => (@Rdr.drs_cons _ _ _ _ _ _ _ _ (@Rdr.dr_set _ _ _ _ _ _ _ _ _ 2 nd (@Rdr.er_take _ _ _ _ _ _ _ _ _ C q9 _ (by rfl) (by kst_p2) (by decide) (by decide) (by rfl)) (by rfl) (by rfl) (by kcj_m) (by rfl) (by kcf_m)) (@Rdr.drs_cons _ _ _ _ _ _ _ _ (@Rdr.dr_if _ _ _ _ _ _ _ _ _ _ _ (@Rdr.rt_dt _ _ _ _ _ _ (by walk_at "E")) (@Rdr.drs_one _ _ _ _ _ _ (@Rdr.dr_ret _ _ _ _ _ _ _ (@Rdr.er_call _ _ _ _ _ _ _ _ _ _ _ _ _ C q1 (@Rdr.dar_cons _ _ _ _ _ _ _ _ _ (by walk_at "E") (@Rdr.dar_here _ _ _ _ _ _ _ _ (by walk_at "E") (by rfl) (by kst_p2) (by decide) (by decide) (by rfl)) (by rfl)) (by rfl) (by decide) (by rfl) (by rfl)))) (@Rdr.drs_nil _ _ _ _)) (@Rdr.drs_cons _ _ _ _ _ _ _ _ (@Rdr.dr_if _ _ _ _ _ _ _ _ _ _ _ (@Rdr.rt_dt _ _ _ _ _ _ (@DW.dt _ _ _ _ (@lQ _ _ _ _ _ _ _ _ (@gN _ _ _ _ _ _ _ _ _ (@pG _) (by walk_at "E") (@jM _ _ _ _ _) (by first | exact cV _ (by decide) (by decide) | rfl)) (by walk_at "E")))) (@Rdr.drs_one _ _ _ _ _ _ (@Rdr.dr_raise1 _ _ _ _ _ _ _ _ _ _ _ _ _ _ _ _ _ _ _ _ _ _ _ _ _ q4 q5 (by rfl) (by decide))) (@Rdr.drs_nil _ _ _ _)) (@Rdr.drs_cons _ _ _ _ _ _ _ _ (@Rdr.dr_if _ _ _ _ _ _ _ _ _ _ _ (@Rdr.rt_dt _ _ _ _ _ _ (by walk_at "E")) (@Rdr.drs_cons _ _ _ _ _ _ _ _ (@Rdr.dr_set _ _ _ _ _ _ _ _ _ 3 nd (@Rdr.er_de _ _ _ _ _ _ (by walk_at "E")) (by rfl) (by rfl) (by kcj_m) (by rfl) (by kcf_m)) (@Rdr.drs_cons _ _ _ _ _ _ _ _ (@Rdr.dr_expr _ _ _ _ _ _ _ (@Rdr.er_de _ _ _ _ _ _ (by walk_at "E")) (by rfl)) (@Rdr.drs_one _ _ _ _ _ _ (@Rdr.dr_ret _ _ _ _ _ _ _ (@Rdr.er_de _ _ _ _ _ _ (by walk_at "E")))))) (@Rdr.drs_nil _ _ _ _)) (@Rdr.drs_cons _ _ _ _ _ _ _ _ (@Rdr.dr_expr _ _ _ _ _ _ _ (@Rdr.er_de _ _ _ _ _ _ (by walk_at "E")) (by rfl)) (@Rdr.drs_one _ _ _ _ _ _ (@Rdr.dr_ret _ _ _ _ _ _ _ (@Rdr.er_de _ _ _ _ _ _ (by walk_at "E")))))))))
theorem zaV (F : FA K mg "read_rows" (top 21) ["reader", "within"] f fd) {q1 : Addr} (q2 : mg "NoText" = some (.ref q1)) (q3 : PySem.W.excIn K q1 [.type "ValueError", .type "Exception", .type "BaseException", .type "object"] "ValueError.__new__" = true) (q4 : dX K mg "NoText" q1) {q7 : Addr} (q8 : Rdr.RdF P w K mg base k q7) {m : Rdr.RM} (q6 : mg "len" = none) (q5 : mg "tuple" = none) (q0 : Rdr.FnAtR P w K mg base k "read_row" q7 0 m) : Rdr.FnAtR P w K mg base (k + 1) "read_rows" q7 0 (tJ m) := Rdr.FA.okR F (N := ["reader", "within", "rows"]) (by kst_p) rfl rfl fun _ _ _ _ _ _ C L nd => (@Rdr.drs_col _ _ _ _ _ _ _ _ _ _ _ _ _ _ _ _ _ _ _ 2 L nd (@Rdr.rt_cmp _ _ _ _ _ _ _ _ _ _ _ (@wQ _ _ _ C) (@Rdr.er_ahead _ _ _ _ _ _ _ _ _ C q8 _ (by rfl) (by kst_p2) (by decide) (by decide) (by rfl)) (by walk_at "E") (by first | exact cV _ (by decide) (by decide) | rfl)) (@Rdr.er_call _ _ _ _ _ _ _ _ _ _ _ _ _ C q0 (@Rdr.dar_here _ _ _ _ _ _ _ _ (by walk_at "E") (by rfl) (by kst_p2) (by decide) (by decide) (by rfl)) (by rfl) (by decide) (by rfl) (by rfl)) (@Rdr.drs_cons _ _ _ _ _ _ _ _ (@Rdr.dr_if _ _ _ _ _ _ _ _ _ _ _ (@Rdr.rt_dt _ _ _ _ _ _ (by walk_at "E")) (@Rdr.drs_one _ _ _ _ _ _ (@Rdr.dr_raise1 _ _ _ _ _ _ _ _ _ _ _ _ _ _ _ _ _ _ _ _ _ _ _ _ _ q3 q4 (by rfl) (by decide))) (@Rdr.drs_nil _ _ _ _)) (@Rdr.drs_one _ _ _ _ _ _ (@Rdr.dr_ret _ _ _ _ _ _ _ (@Rdr.er_de _ _ _ _ _ _ (by walk_at "E"))))) (by rfl) (by rfl) (by kcj_m) (by kst_p2) (by decide) (by decide) (by rfl) (by kcf_m) (by rfl) (by rfl) (by rfl) (by rfl) (by rfl) (by rfl))
theorem zaW (F : FA K mg "rows_of" (top 4) ["text"] f fd) {q1 : Addr} (q2 : mg "NoText" = some (.ref q1)) (q3 : PySem.W.excIn K q1 [.type "ValueError", .type "Exception", .type "BaseException", .type "object"] "ValueError.__new__" = true) (q4 : dX K mg "NoText" q1) (q0 : mg "isinstance" = none) (q5 : mg "str" = none) : aS P w K mg base (k + 1) "rows_of" jY := F.ok (own' := []) (N := ["text"]) (by kst_p) rfl rfl fun _ _ _ _ _ _ C L nd => (@aX _ _ _ _ _ _ _ _ _ _ (@dZ _ _ _ _ _ _ _ _ _ _ _ _ (@jO _ _ _ _ _ (@iP _ _ _ _ (@jR _ _ _ _ _ _ _ q0 (@cI _ _ _ _ _ _ (by walk_at "E") (@cI _ _ _ _ _ _ (@jN _ _ _ _ _ q5 nB (by rfl) (by decide) (by decide)) (@dA _ _) (by rfl)) (by rfl)) (by rfl) (by rfl) (by rfl)) (by intro _ ; rfl))) (@cA _ _ _ _ _ _ _ (@B6 _ _ _ _ _ _ _ _ _ _ _ _ _ _ _ _ _ _ _ _ _ _ _ _ _ _ q3 q4 (by rfl) (by decide))) (@gG _ _ _ _)) (@cA _ _ _ _ _ _ _ (@pA _ _ _ _ _ _ _ _ (@DF.val _ _ _ _ (@o7 _ _ _ _ _ _ _ _ _ _ _ _ _ _ _ C.calm (LC.of (k := 1) (NY := ["row", "text"]) (N := ["text"]) (sc0 := (bX (top 4))) rfl rfl (by decide +kernel)) rfl (by walk_at "E") (fun _ _ _ _ nd2 => ⟨(by walk_at "G"), (@m6 _ _), (by walk_at "E")⟩) (by intro _ ; rfl))))))
theorem zaX (F : FA K mg "unlike" (top 17) ["names"] f fd) (q0 : mg "len" = none) (q1 : mg "set" = none) : aS P w K mg base (k + 1) "unlike" gW := F.ok (own' := []) (N := ["names"]) (by kst_p) rfl rfl fun _ _ _ _ _ _ C L nd => (by kd_p1)
theorem zaY (F : FA K mg "read_rule" (top 19) ["reader"] f fd) {q4 : Addr} (q5 : mg "NoText" = some (.ref q4)) (q6 : PySem.W.excIn K q4 [.type "ValueError", .type "Exception", .type "BaseException", .type "object"] "ValueError.__new__" = true) (q7 : dX K mg "NoText" q4) {q11 : Addr} (q12 : Rdr.RdF P w K mg base k q11) (q10 : mg "len" = none) (q9 : mg "tuple" = none) (q0 : ∃ u v, mg "MOST_PARAMS" = some u /\ aR v u /\ ∀ G, Rep K mg G pX v) (q1 : aS P w K mg base k "look_at_names" iG) (q8 : aS P w K mg base k "unlike" gW) (q2 : Rdr.FnAtR P w K mg base k "read_rows" q11 0 mE) (q3 : Rdr.FnAtR P w K mg base k "read_end" q11 0 jZ) : Rdr.FnAtR P w K mg base (k + 1) "read_rule" q11 0 i9 := Rdr.FA.okR F (N := ["reader", "words", "params", "rows"]) (by kst_p) rfl rfl fun _ _ _ _ _ _ C L nd => (@Rdr.drs_cons _ _ _ _ _ _ _ _ (@Rdr.dr_set _ _ _ _ _ _ _ _ _ 1 nd (@Rdr.er_take _ _ _ _ _ _ _ _ _ C q12 _ (by rfl) (by kst_p2) (by decide) (by decide) (by rfl)) (by rfl) (by rfl) (by kcj_m) (by rfl) (by kcf_m)) (@Rdr.drs_cons _ _ _ _ _ _ _ _ (@Rdr.dr_set _ _ _ _ _ _ _ _ _ 2 nd (@Rdr.er_de _ _ _ _ _ _ (by walk_at "E")) (by rfl) (by rfl) (by kcj_m) (by rfl) (by kcf_m)) (@Rdr.drs_cons _ _ _ _ _ _ _ _ (@Rdr.dr_if _ _ _ _ _ _ _ _ _ _ _ (@Rdr.rt_dt _ _ _ _ _ _ (@DW.dt _ _ _ _ (@lQ _ _ _ _ _ _ _ _ (@gN _ _ _ _ _ _ _ _ _ (@pG _) (by walk_at "E") (@jM _ _ _ _ _) (by first | exact cV _ (by decide) (by decide) | rfl)) (by walk_at "E")))) (@Rdr.drs_one _ _ _ _ _ _ (@Rdr.dr_raise1 _ _ _ _ _ _ _ _ _ _ _ _ _ _ _ _ _ _ _ _ _ _ _ _ _ q6 q7 (by rfl) (by decide))) (@Rdr.drs_nil _ _ _ _)) (@Rdr.drs_cons _ _ _ _ _ _ _ _ (@Rdr.dr_expr _ _ _ _ _ _ _ (@Rdr.er_de _ _ _ _ _ _ (by walk_at "E")) (by rfl)) (@Rdr.drs_cons _ _ _ _ _ _ _ _ (@Rdr.dr_if _ _ _ _ _ _ _ _ _ _ _ (@Rdr.rt_dt _ _ _ _ _ _ (@DW.dt _ _ _ _ (@lQ _ _ _ _ _ _ _ _ (@gN _ _ _ _ _ _ _ _ _ (@nA _) (by walk_at "E") (by walk_at "E") (by first | exact cV _ (by decide) (by decide) | rfl)) (by walk_at "E")))) (@Rdr.drs_one _ _ _ _ _ _ (@Rdr.dr_raise1 _ _ _ _ _ _ _ _ _ _ _ _ _ _ _ _ _ _ _ _ _ _ _ _ _ q6 q7 (by rfl) (by decide))) (@Rdr.drs_nil _ _ _ _)) (@Rdr.drs_cons _ _ _ _ _ _ _ _ (@Rdr.dr_set _ _ _ _ _ _ _ _ _ 3 nd (@Rdr.er_call _ _ _ _ _ _ _ _ _ _ _ _ _ C q2 (@Rdr.dar_here _ _ _ _ _ _ _ _ (by walk_at "E") (by rfl) (by kst_p2) (by decide) (by decide) (by rfl)) (by rfl) (by decide) (by rfl) (by rfl)) (by rfl) (by rfl) (by kcj_m) (by rfl) (by kcf_m)) (@Rdr.drs_cons _ _ _ _ _ _ _ _ (@Rdr.dr_expr _ _ _ _ _ _ _ (@Rdr.er_call _ _ _ _ _ _ _ _ _ _ _ _ _ C q3 (@Rdr.dar_nil _ _ _ _ _ _ (by rfl) (by kst_p2) (by decide) (by decide) (by rfl)) (by rfl) (by decide) (by rfl) (by rfl)) (by rfl)) (@Rdr.drs_one _ _ _ _ _ _ (@Rdr.dr_ret _ _ _ _ _ _ _ (@Rdr.er_de _ _ _ _ _ _ (by walk_at "E")))))))))))
theorem zaZ (F : FA K mg "read_drawing" (top 16) ["text"] f fd) {q4 : Addr} (q5 : mg "NoText" = some (.ref q4)) (q6 : PySem.W.excIn K q4 [.type "ValueError", .type "Exception", .type "BaseException", .type "object"] "ValueError.__new__" = true) (q7 : dX K mg "NoText" q4) {q11 : Addr} (q12 : Rdr.RdG P w K mg base k q11) (q10 : mg "len" = none) (q9 : mg "tuple" = none) (q0 : ∃ u v, mg "MOST_RULES" = some u /\ aR v u /\ ∀ G, Rep K mg G tL v) (q3 : aS P w K mg base k "rows_of" jY) (q1 : Rdr.FnAtR P w K mg base k "read_rule" q11 0 i9) (q8 : aS P w K mg base k "unlike" gW) (q2 : Rdr.FnAtR P w K mg base k "read_rows" q11 0 mE) : aS P w K mg base (k + 1) "read_drawing" iH := F.ok (own' := []) (N := ["text", "reader", "rules", "rows"]) (by kst_p) rfl rfl fun _ _ _ _ _ _ C L nd => (@Rdr.dss_reader _ _ _ _ _ _ _ _ _ _ _ _ _ _ _ 1 nd C q12 (by walk_at "E") (@Rdr.drs_col _ _ _ _ _ _ _ _ _ _ _ _ _ _ _ _ _ _ _ 2 L nd (@Rdr.rt_cmp _ _ _ _ _ _ _ _ _ _ _ (@BU _ _ _ C) (@Rdr.er_sl _ _ _ _ _ _ _ _ _ _ _ _ (@Rdr.er_ahead _ _ _ _ _ _ _ _ _ C q12.F _ (by rfl) (by kst_p2) (by decide) (by decide) (by rfl)) (@B3 _ _) (by walk_at "E")) (by walk_at "E") (by first | exact cV _ (by decide) (by decide) | rfl)) (@Rdr.er_call _ _ _ _ _ _ _ _ _ _ _ _ _ C q1 (@Rdr.dar_nil _ _ _ _ _ _ (by rfl) (by kst_p2) (by decide) (by decide) (by rfl)) (by rfl) (by decide) (by rfl) (by rfl)) (@Rdr.drs_cons _ _ _ _ _ _ _ _ (@Rdr.dr_if _ _ _ _ _ _ _ _ _ _ _ (@Rdr.rt_dt _ _ _ _ _ _ (@gN _ _ _ _ _ _ _ _ _ (@nA _) (by walk_at "E") (by walk_at "E") (by first | exact cV _ (by decide) (by decide) | rfl))) (@Rdr.drs_one _ _ _ _ _ _ (@Rdr.dr_raise1 _ _ _ _ _ _ _ _ _ _ _ _ _ _ _ _ _ _ _ _ _ _ _ _ _ q6 q7 (by rfl) (by decide))) (@Rdr.drs_nil _ _ _ _)) (@Rdr.drs_cons _ _ _ _ _ _ _ _ (@Rdr.dr_if _ _ _ _ _ _ _ _ _ _ _ (@Rdr.rt_dt _ _ _ _ _ _ (@jO _ _ _ _ _ (@iP _ _ _ _ (@BB _ _ _ _ _ _ _ _ _ _ C q8 (@cI _ _ _ _ _ _ (@DF.val _ _ _ _ (@o7 _ _ _ _ _ _ _ _ _ _ _ _ _ _ _ C.calm (LC.of (k := 1) (NY := ["rule", "text", "reader", "rules", "rows"]) (N := ["text", "reader", "rules", "rows"]) (sc0 := (bX (top 16))) rfl rfl (by decide +kernel)) rfl (by walk_at "E") (fun _ _ _ _ nd2 => ⟨(by walk_at "G"), (@m6 _ _), (by walk_at "E")⟩) (by intro _ ; rfl))) (@dA _ _) (by rfl)) (by rfl) (by decide) (by rfl) (by rfl)) (by intro _ ; rfl)))) (@Rdr.drs_one _ _ _ _ _ _ (@Rdr.dr_raise1 _ _ _ _ _ _ _ _ _ _ _ _ _ _ _ _ _ _ _ _ _ _ _ _ _ q6 q7 (by rfl) (by decide))) (@Rdr.drs_nil _ _ _ _)) (@Rdr.drs_cons _ _ _ _ _ _ _ _ (@Rdr.dr_set _ _ _ _ _ _ _ _ _ 3 nd (@Rdr.er_call _ _ _ _ _ _ _ _ _ _ _ _ _ C q2 (@Rdr.dar_here _ _ _ _ _ _ _ _ (by walk_at "E") (by rfl) (by kst_p2) (by decide) (by decide) (by rfl)) (by rfl) (by decide) (by rfl) (by rfl)) (by rfl) (by rfl) (by kcj_m) (by rfl) (by kcf_m)) (@Rdr.drs_cons _ _ _ _ _ _ _ _ (@Rdr.dr_if _ _ _ _ _ _ _ _ _ _ _ (@Rdr.rt_cmp _ _ _ _ _ _ _ _ _ _ _ (@vP _ _ _ C) (@Rdr.er_ahead _ _ _ _ _ _ _ _ _ C q12.F _ (by rfl) (by kst_p2) (by decide) (by decide) (by rfl)) (by walk_at "E") (by first | exact cV _ (by decide) (by decide) | rfl)) (@Rdr.drs_one _ _ _ _ _ _ (@Rdr.dr_raise1 _ _ _ _ _ _ _ _ _ _ _ _ _ _ _ _ _ _ _ _ _ _ _ _ _ q6 q7 (by rfl) (by decide))) (@Rdr.drs_nil _ _ _ _)) (@Rdr.drs_one _ _ _ _ _ _ (@Rdr.dr_ret _ _ _ _ _ _ _ (@Rdr.er_de _ _ _ _ _ _ (by walk_at "E")))))))) (by rfl) (by rfl) (by kcj_m) (by kst_p2) (by decide) (by decide) (by rfl) (by kcf_m) (by rfl) (by rfl) (by rfl) (by rfl) (by rfl) (by rfl)) (by rfl) (by kcj_m) (by kcf_m) (by rfl) (by rfl) (by rfl) (by rfl))
abbrev kA : Stmt := top 40
theorem MK : fD ["_law_script", "_law_names_here", "_law_drawing_here", "_law_number", "_law_text_here", "_law_told", "_law_short"] ["_law_script"] (bX kA) := by kst_p
theorem za0 (F : eP K "law" "law" kA f fd) (q4 : mg "isinstance" = none) (q9 : mg "str" = none) (q1 : aS P w K mg base k "_law_drawing" mI) (q3 : aS P w K mg base k "_law_digits" cO) (q6 : aS P w K mg base k "_law_cell" fY) (q5 : aS P w K mg base k "_law_loose" j5) (q7 : aS P w K mg base k "_law_text" lD) (q0 : aS P w K mg base k "shown_drawing" jB) (q8 : aS P w K mg base k "_law_like" gX) (q2 : aS P w K mg base k "read_drawing" iH) : cH P w K mg base (bQ P w) (k + 1) f fd ["_law_script"] (o6 K mg t5) := by
 refine VI (own' := []) F MK rfl rfl fun X E hX C L => ?_
 obtain ⟨cdv, A, outer, s, H, rfl⟩ := hX
 have nd := MK.nd
 exact (@aX _ _ _ _ _ _ _ _ _ _ (by walk_at "s9") (@aX _ _ _ _ _ _ _ _ _ _ (by kst_p1) (@aX _ _ _ _ _ _ _ _ _ _ (@dZ _ _ _ _ _ _ _ _ _ _ _ _ (by walk_at "E") (@cA _ _ _ _ _ _ _ (by kst_p1)) (@gG _ _ _ _)) (@aX _ _ _ _ _ _ _ _ _ _ (by kst_p1) (@aX _ _ _ _ _ _ _ _ _ _ (by kst_p1) (@aX _ _ _ _ _ _ _ _ _ _ (@dZ _ _ _ _ _ _ _ _ _ _ _ _ (@DW.dt _ _ _ _ (@lQ _ _ _ _ _ _ _ _ (@jO _ _ _ _ _ (@iP _ _ _ _ (@jR _ _ _ _ _ _ _ q4 (@cI _ _ _ _ _ _ (by walk_at "E") (@cI _ _ _ _ _ _ (@jN _ _ _ _ _ q9 nB (by rfl) (by decide) (by decide)) (@dA _ _) (by rfl)) (by rfl)) (by rfl) (by rfl) (by rfl)) (by intro _ ; rfl))) (by walk_at "E"))) (by kd_p1) (@gG _ _ _ _)) (@aX _ _ _ _ _ _ _ _ _ _ (by walk_at "I3") (@aX _ _ _ _ _ _ _ _ _ _ (by kst_p1) (by kd_p1)))))))))
set_option maxHeartbeats 4000000 in
theorem all_mk {l : PySem.W.OpenLaw} {w : World} {K : xFg} {h : Heap} {mg : Str -> Option Value} {fa f26 : Addr} (X : K.In h) (G : h.Ns mainGlobals mg) (hfa : mg "law" = some (.ref fa))
  {od26 an26 : Option Addr} {sl26 : Array (Option Value)} {oc26 kV26 dc26 pm26 cd26 ct26 : Value}
  (d0 : FD K "_law_mixed" (top 29))
  (d1 : FD K "_law_digits" (top 30))
  (d2 : FD K "_law_names" (top 31))
  (d3 : FD K "_law_row" (top 32))
  (d4 : FD K "_law_body" (top 33))
  (d5 : FD K "_law_rules" (top 34))
  (d6 : FD K "_law_cell" (top 27))
  (d7 : FD K "_law_drawing" (top 35))
  (d8 : FD K "_law_texts" (top 36))
  (d9 : FD K "_law_text" (top 37))
  (d10 : FD K "shown_rows" (top 25))
  (d11 : FD K "shown_drawing" (top 24))
  (d12 : FD K "_law_whole" (top 28))
  (d13 : FD K "_law_like" (top 38))
  (d14 : FD K "_law_loose" (top 39))
  (d15 : FD K "is_word" (top 15))
  (d16 : FD K "is_name" (top 14))
  (d17 : FD K "look_at_names" (top 18))
  (d18 : FD K "read_end" (top 20))
  (d19 : FD K "read_times" (top 23))
  (d20 : FD K "read_row" (top 22))
  (d21 : FD K "read_rows" (top 21))
  (d22 : FD K "rows_of" (top 4))
  (d23 : FD K "unlike" (top 17))
  (d24 : FD K "read_rule" (top 19))
  (d25 : FD K "read_drawing" (top 16))
  (a26 : PySem.W.nsIn K mainGlobals "law" = some (some (.ref f26))) (l26 : K.lookup f26 = some ⟨oc26, od26, .func (PySem.W.fnOf "law" "law" (iN kA) (eI kA) (bX kA) .none kV26 dc26 pm26 an26 cd26 ct26), sl26⟩) (c26 : PySem.W.codeIn K cd26 "law" = true) (k26 : PySem.W.keepIn K (.ref f26) = true)
  {CR : Addr} (rA : PySem.W.nsIn K mainGlobals "Reader" = some (some (.ref CR))) (rB : PySem.W.plainGet K CR Str.empty = true) (rC : PySem.W.hasDictIn K CR = true) (rD : PySem.W.plainOver K CR = true) (rE : PySem.W.findIn K (.ref CR) "__setattr__" = some (some (.builtin "object.__setattr__"))) (rF : PySem.W.makesIn K CR = true) (rG : PySem.W.keepIn K (.ref CR) = true)
  (rn0 : PySem.W.findIn K (.ref CR) "rows" = some none)
  (rn1 : PySem.W.findIn K (.ref CR) "done" = some none)
  (rm0 : Rdr.MD K CR "__init__" "Reader.__init__" (jJ Rdr.rCls 0))
  (rm1 : Rdr.MD K CR "ahead" "Reader.ahead" (jJ Rdr.rCls 1))
  (rm2 : Rdr.MD K CR "take" "Reader.take" (jJ Rdr.rCls 2))
  (xd_NoText : XD K "NoText")
  (z_range : PySem.W.nsIn K mainGlobals "range" = some none)
  (z_int : PySem.W.nsIn K mainGlobals "int" = some none)
  (z_len : PySem.W.nsIn K mainGlobals "len" = some none)
  (z_tuple : PySem.W.nsIn K mainGlobals "tuple" = some none)
  (z_str : PySem.W.nsIn K mainGlobals "str" = some none)
  (z_list : PySem.W.nsIn K mainGlobals "list" = some none)
  (z_isinstance : PySem.W.nsIn K mainGlobals "isinstance" = some none)
  (z_bool : PySem.W.nsIn K mainGlobals "bool" = some none)
  (z_zip : PySem.W.nsIn K mainGlobals "zip" = some none)
  (z_all : PySem.W.nsIn K mainGlobals "all" = some none)
  (z_set : PySem.W.nsIn K mainGlobals "set" = some none)
  {t_MOST_LETTERS : Tok} (q_MOST_LETTERS : PySem.W.nsIn K mainGlobals "MOST_LETTERS" = some (some (.int 8 t_MOST_LETTERS)))
  {t_LETTERS : Tok} (q_LETTERS : PySem.W.nsIn K mainGlobals "LETTERS" = some (some (.str "abcdefghijklmnopqrstuvwxyz" t_LETTERS)))
  {a_NO_NAMES : Addr} {t0_NO_NAMES t1_NO_NAMES t2_NO_NAMES t3_NO_NAMES : Tok} {n_NO_NAMES : Nat} {sl_NO_NAMES : Array (Option Value)} (q_NO_NAMES : PySem.W.nsIn K mainGlobals "NO_NAMES" = some (some (.ref a_NO_NAMES))) (lq_NO_NAMES : K.lookup a_NO_NAMES = some ⟨.type "tuple", none, .seq #[.str "x" t0_NO_NAMES, .str "rule" t1_NO_NAMES, .str "times" t2_NO_NAMES, .str "end" t3_NO_NAMES] n_NO_NAMES, sl_NO_NAMES⟩)
  {t_MOST_WITHIN : Tok} (q_MOST_WITHIN : PySem.W.nsIn K mainGlobals "MOST_WITHIN" = some (some (.int 4 t_MOST_WITHIN)))
  {t_MOST_TIMES : Tok} (q_MOST_TIMES : PySem.W.nsIn K mainGlobals "MOST_TIMES" = some (some (.int 60 t_MOST_TIMES)))
  {t_MOST_PARAMS : Tok} (q_MOST_PARAMS : PySem.W.nsIn K mainGlobals "MOST_PARAMS" = some (some (.int 8 t_MOST_PARAMS)))
  {t_MOST_RULES : Tok} (q_MOST_RULES : PySem.W.nsIn K mainGlobals "MOST_RULES" = some (some (.int 20 t_MOST_RULES)))
  (hlaw : ∀ ns : List Int, ns.length <= 63 -> t5 [.lst (ns.map .int)] = .ok (.bl true))
  : ∃ fd : FuncData, (∀ (s : Shared) (v : Value), BindsTo s fd ⟨[v], []⟩ [("_law_script", v)]) /\ ∀ base : Heap, K.In base -> base.Ns mainGlobals mg -> cH l.prog w K mg base (bQ l.prog w) 70 fa fd ["_law_script"] (sF K) := by
 have e := hfa.symm.trans (xbn X G a26)
 cases e
 obtain ⟨f0, v0, F0⟩ := d0.go X G ["_law_cell_here", "_law_k"] (by walk_at "b2")
 obtain ⟨f1, v1, F1⟩ := d1.go X G ["_law_cell_here", "_law_many"] (by walk_at "b2")
 obtain ⟨f2, v2, F2⟩ := d2.go X G ["_law_cell_here", "_law_many"] (by walk_at "b2")
 obtain ⟨f3, v3, F3⟩ := d3.go X G ["_law_digits_here", "_law_names_here", "_law_rules_here"] (by walk_at "b3")
 obtain ⟨f4, v4, F4⟩ := d4.go X G ["_law_cells", "_law_at", "_law_names_here", "_law_rules_here", "_law_left"] (by walk_at "b5")
 obtain ⟨f5, v5, F5⟩ := d5.go X G ["_law_cells", "_law_many", "_law_names_here"] (by walk_at "b3")
 obtain ⟨f6, v6, F6⟩ := d6.go X G ["_law_script", "_law_k"] (by walk_at "b2")
 obtain ⟨f7, v7, F7⟩ := d7.go X G ["_law_script"] (by walk_at "b1")
 obtain ⟨f8, v8, F8⟩ := d8.go X G ["_law_rows"] (by walk_at "b1")
 obtain ⟨f9, v9, F9⟩ := d9.go X G ["_law_drawing_here"] (by walk_at "b1")
 obtain ⟨f10, v10, F10⟩ := d10.go X G ["rows"] (by walk_at "b1")
 obtain ⟨f11, v11, F11⟩ := d11.go X G ["drawing"] (by walk_at "b1")
 obtain ⟨f12, v12, F12⟩ := d12.go X G ["_law_found"] (by walk_at "b1")
 obtain ⟨f13, v13, F13⟩ := d13.go X G ["_law_found", "_law_due"] (by walk_at "b2")
 obtain ⟨f14, v14, F14⟩ := d14.go X G ["_law_names_here", "_law_drawing_here", "_law_number"] (by walk_at "b3")
 obtain ⟨f15, v15, F15⟩ := d15.go X G ["thing"] (by walk_at "b1")
 obtain ⟨f16, v16, F16⟩ := d16.go X G ["thing"] (by walk_at "b1")
 obtain ⟨f17, v17, F17⟩ := d17.go X G ["words"] (by walk_at "b1")
 obtain ⟨f18, v18, F18⟩ := d18.go X G ["reader"] (by walk_at "b1")
 obtain ⟨f19, v19, F19⟩ := d19.go X G ["words", "reader", "within"] (by walk_at "b3")
 obtain ⟨f20, v20, F20⟩ := d20.go X G ["reader", "within"] (by walk_at "b2")
 obtain ⟨f21, v21, F21⟩ := d21.go X G ["reader", "within"] (by walk_at "b2")
 obtain ⟨f22, v22, F22⟩ := d22.go X G ["text"] (by walk_at "b1")
 obtain ⟨f23, v23, F23⟩ := d23.go X G ["names"] (by walk_at "b1")
 obtain ⟨f24, v24, F24⟩ := d24.go X G ["reader"] (by walk_at "b1")
 obtain ⟨f25, v25, F25⟩ := d25.go X G ["text"] (by walk_at "b1")
 have F26 := uV (st := kA) l26 c26 k26
 have m26 := xbn X G a26
 obtain ⟨C_NoText, c_NoText, y_NoText, x_NoText⟩ := xd_NoText.go X G
 have n_range := xbj X G z_range
 have n_int := xbj X G z_int
 have n_len := xbj X G z_len
 have n_tuple := xbj X G z_tuple
 have n_str := xbj X G z_str
 have n_list := xbj X G z_list
 have n_isinstance := xbj X G z_isinstance
 have n_bool := xbj X G z_bool
 have n_zip := xbj X G z_zip
 have n_all := xbj X G z_all
 have n_set := xbj X G z_set
 refine ⟨PySem.W.fnOf "law" "law" (iN kA) (eI kA) (bX kA) .none kV26 dc26 pm26 an26 cd26 ct26, fun s v => .of_eq rfl, fun base _ _ => ?_⟩
 have k_MOST_LETTERS_is : ∃ u v, mg "MOST_LETTERS" = some u /\ aR v u /\ ∀ G, Rep K mg G sY v := ⟨_, .int 8, xbn X G q_MOST_LETTERS, ⟨_, rfl⟩, fun _ => rfl⟩
 have k_LETTERS_is : ∃ u v, mg "LETTERS" = some u /\ aR v u /\ ∀ G, Rep K mg G xG v := ⟨_, .str "abcdefghijklmnopqrstuvwxyz", xbn X G q_LETTERS, ⟨_, rfl⟩, fun _ => rfl⟩
 have k_NO_NAMES_is : ∃ u v, mg "NO_NAMES" = some u /\ aR v u /\ ∀ G, Rep K mg G s9 v := ⟨_, .ref a_NO_NAMES, xbn X G q_NO_NAMES, rfl, fun _ => WJ (l := [("x", t0_NO_NAMES), ("rule", t1_NO_NAMES), ("times", t2_NO_NAMES), ("end", t3_NO_NAMES)]) lq_NO_NAMES rfl (show 4 <= 100 by decide)⟩
 have k_MOST_WITHIN_is : ∃ u v, mg "MOST_WITHIN" = some u /\ aR v u /\ ∀ G, Rep K mg G tH v := ⟨_, .int 4, xbn X G q_MOST_WITHIN, ⟨_, rfl⟩, fun _ => rfl⟩
 have k_MOST_TIMES_is : ∃ u v, mg "MOST_TIMES" = some u /\ aR v u /\ ∀ G, Rep K mg G nZ v := ⟨_, .int 60, xbn X G q_MOST_TIMES, ⟨_, rfl⟩, fun _ => rfl⟩
 have k_MOST_PARAMS_is : ∃ u v, mg "MOST_PARAMS" = some u /\ aR v u /\ ∀ G, Rep K mg G pX v := ⟨_, .int 8, xbn X G q_MOST_PARAMS, ⟨_, rfl⟩, fun _ => rfl⟩
 have k_MOST_RULES_is : ∃ u v, mg "MOST_RULES" = some u /\ aR v u /\ ∀ G, Rep K mg G tL v := ⟨_, .int 20, xbn X G q_MOST_RULES, ⟨_, rfl⟩, fun _ => rfl⟩
 have GR := Rdr.rdg (P := l.prog) (w := w) (base := base) (xbn X G rA) ⟨⟨rB, rC, rD, rE⟩, rn0, rn1⟩ rF rG rm0 rm1 rm2 n_len
 have G0 : aS l.prog w K mg base 1 "_law_mixed" n8 := zaA (k := 0) F0
 have G1 := zaB (k := 1) F1 n_range G0
 have G2 := zaC (k := 2) F2 n_range n_int G1
 have G3 : aS l.prog w K mg base 1 "_law_row" mG := zaD (k := 0) F3 n_len n_tuple
 have G4 := zaE (k := 2) F4 n_range n_len n_int n_tuple G1 (G3.mono (by decide : 1 <= 2))
 have G5 := zaF (k := 67) F5 n_range n_len n_int n_tuple (G1.mono (by decide : 2 <= 67)) G4
 have G6 : aS l.prog w K mg base 1 "_law_cell" fY := zaG (k := 0) F6 n_len
 have G7 := zaH (k := 68) F7 n_tuple (G1.mono (by decide : 2 <= 68)) (G6.mono (by decide : 1 <= 68)) (G2.mono (by decide : 3 <= 68)) G5 (G4.mono (by decide : 67 <= 68))
 have G8 : aS l.prog w K mg base 65 "_law_texts" j3 := zaI (k := 0) F8 n_str n_list
 have G9 := zaJ (k := 65) F9 G8
 have G10 : aS l.prog w K mg base 65 "shown_rows" jA := zaK (k := 0) F10 n_str n_list
 have G11 := zaL (k := 65) F11 n_list G10
 have G12 : aS l.prog w K mg base 1 "_law_whole" n6 := zaM (k := 0) F12 n_isinstance n_int n_bool
 have G13 := zaN (k := 1) F13 n_isinstance n_tuple n_len n_zip n_str G12
 have G14 : aS l.prog w K mg base 1 "_law_loose" j5 := zaO (k := 0) F14 n_tuple
 have G15 : aS l.prog w K mg base 1 "is_word" nY := zaP (k := 0) F15 n_isinstance n_str n_len n_all k_MOST_LETTERS_is k_LETTERS_is
 have G16 := zaQ (k := 1) F16 k_NO_NAMES_is G15
 have G17 := zaR (k := 2) F17 c_NoText y_NoText x_NoText n_all G16
 have G18 := zaS (k := 3) F18 c_NoText y_NoText x_NoText (Rdr.RdF.mono (Rdr.RdG.F GR) (by decide : 2 <= 3))
 have G21 : Rdr.FnAtR l.prog w K mg base 29 "read_rows" CR 0 mE := Rdr.rec3 (k := 5) (Rdr.FA.badR (k := 4) F21 (N := ["reader", "within", "rows"]) ⟨rfl, rfl, rfl, by decide +kernel, rfl, by decide +kernel, by decide +kernel⟩) (fun l' _ hl F => zaV (k := l') F21 c_NoText y_NoText x_NoText (Rdr.RdF.mono (Rdr.RdG.F GR) (xaj (by decide : 2 <= 5) hl)) n_len n_tuple F) (fun l' _ hl F => zaU (k := l') F20 c_NoText y_NoText x_NoText (Rdr.RdF.mono (Rdr.RdG.F GR) (xaj (by decide : 2 <= 5) hl)) n_len n_tuple F (G17.mono (xaj (by decide : 3 <= 5) hl))) (fun l' _ hl F => zaT (k := l') F19 c_NoText y_NoText x_NoText (Rdr.RdF.mono (Rdr.RdG.F GR) (xaj (by decide : 2 <= 5) hl)) n_len n_range n_str n_int k_MOST_WITHIN_is k_MOST_TIMES_is F (G18.mono (xaj (by decide : 4 <= 5) hl))) 8
 have G22 : aS l.prog w K mg base 1 "rows_of" jY := zaW (k := 0) F22 c_NoText y_NoText x_NoText n_isinstance n_str
 have G23 : aS l.prog w K mg base 1 "unlike" gW := zaX (k := 0) F23 n_len n_set
 have G24 := zaY (k := 29) F24 c_NoText y_NoText x_NoText (Rdr.RdF.mono (Rdr.RdG.F GR) (by decide : 2 <= 29)) n_len n_tuple k_MOST_PARAMS_is (G17.mono (by decide : 3 <= 29)) (G23.mono (by decide : 1 <= 29)) G21 (G18.mono (by decide : 4 <= 29))
 have G25 := zaZ (k := 30) F25 c_NoText y_NoText x_NoText (Rdr.RdG.mono GR (by decide : 2 <= 30)) n_len n_tuple k_MOST_RULES_is (G22.mono (by decide : 1 <= 30)) G24 (G23.mono (by decide : 1 <= 30)) (G21.mono (by decide : 29 <= 30))
 exact VJ (za0 (P := l.prog) (w := w) (base := base) (k := 69) F26 n_isinstance n_str G7 (G1.mono (by decide : 2 <= 69)) (G6.mono (by decide : 1 <= 69)) (G14.mono (by decide : 1 <= 69)) (G9.mono (by decide : 66 <= 69)) (G11.mono (by decide : 66 <= 69)) (G13.mono (by decide : 66 <= 69)) (G25.mono (by decide : 31 <= 69))) hlaw
end Kx
structure PySem.W.Fast:Prop where
 (tw10025914301082144258 tw10050720663052804768 tw10077847380051534214 tw10198206705085404120 tw10228313118916029610 tw10318060055634934200 tw10362545382730896279 tw10439353674806596615 tw10462092307846602690 tw10462521906926757492 tw10512433413628438409 tw10859918979249512013 tw10861892133311377467 tw11021824081342465379 tw11087976014297685380 tw11128490843966987547 tw11244841177806192217 tw11271756917660211770 tw11294436964882741370 tw11361463610205181968 tw11450798252738582126 tw11469664082457508749 tw11470856669671412162 tw11572924877212857679 tw11581948778249104907 tw11654125516166866513 tw11695719899361029007 tw11780555148189149866 tw1182656137211376253 tw11855539987178223097 tw12014229010006249290 tw12031245992476602167 tw1204926241147884495 tw12085367536103286108 tw12115224880242752130 tw12126980754332001895 tw12220465464415792629 tw1230640193875336027 tw12308551307526037375 tw12322930463945497402
  tw12509960002835519423 tw12590536182022834479 tw12671856739628572270 tw12730941435685215320 tw12794882842016774812 tw12861627239784244184 tw12916496063560614254 tw13166640483625753814 tw13204636681326509640 tw13261730870922764939 tw1356664854982898739 tw1358011379296553101 tw13585100278466219862 tw13674809192422691185 tw13791698597298650009 tw13800738780494694762 tw13815129179732696975 tw13987305851101706005 tw14024640541456661321 tw14089492259514486514 tw14102057011030724970 tw14183524114908704947 tw14193787909083892356 tw14325547032433511153 tw14467735431856837754 tw14530775759110535819 tw14579964171684313662 tw14658459761550902887 tw1471925423854820457 tw14890029824183293073 tw15024729307381916883 tw15157813447502636832 tw15172681892072806619 tw15411440547310151252 tw15443395098228458727 tw15564388906180857192 tw1573394534617158124 tw15769252081816094341 tw15777894609865767269 tw15860357054105043000
  tw1589569833961160939 tw15961063910649193304 tw16059122645226439704 tw16242534981282749572 tw16250142598897227874 tw16285899356408104915 tw16473122353482130994 tw16475424807422774449 tw16685565213450251228 tw16787535039828540744 tw16891316700555358986 tw16958417643774601780 tw17076514669942446660 tw17147478647941491573 tw17199653430635231918 tw17215442908548156146 tw17254124307410388856 tw17287344785671084557 tw17346806252776466305 tw17599152280929370680 tw17646361543060019597 tw17713795468388081818 tw17765936869108241043 tw1786728816198077905 tw18043441654600754259 tw18055271941950859282 tw18062818319255113292 tw18086724258907712516 tw18088220123217792533 tw18307881147037746783 tw1896904072110860383 tw196774741275164944 tw2061561113136723838 tw2145888094607241704 tw2161910004235327428 tw2428696992886930121 tw2485014480947453846 tw2488268625496934477 tw252953129326582192 tw2612301960675309989
  tw2643676508551051017 tw2652220996415621291 tw2760017288483441637 tw2829320848016854355 tw3057180125269319623 tw3109650489330316152 tw3168555183118495186 tw3427849350382518314 tw3445778476464400098 tw3451520446447517864 tw3457482161009337801 tw3484700328929601968 tw359445696266091899 tw3819479982301640114 tw3820567080272226347 tw3839283529078294557 tw3999706300802400748 tw4091994569628448618 tw4140322039278048837 tw4170959377661640579 tw4187914238141662001 tw428262228607398849 tw4307109202144963687 tw4307362504466310345 tw4319325554320274782 tw4367071052848478121 tw4489923877341987626 tw4495811747545159786 tw4679029959463161457 tw4683029992871439723 tw4740346790666023108 tw4784997761227119503 tw5087245042271020431 tw5094008216804241987 tw5284970575228182063 tw5297075580338285140 tw5417011759491913347 tw5428959370968317613 tw5439475131034625101 tw5454451459268059102
  tw5464520472040276809 tw5630812638285611718 tw5674670472992482591 tw5681642687165706089 tw5814057006072079605 tw5815709548209949674 tw5846365301539253939 tw5871008577531714540 tw6026665265688319611 tw6158331381826550931 tw6169269012749029324 tw6262788849659711316 tw6303335441495541794 tw6307396530937239481 tw6383750219275266223 tw6499895408116616993 tw6520648010444079114 tw6590945953526982370 tw6606908957711413885 tw6776238851698459604 tw6978385202189052830 tw7110300517249676850 tw7120405319033039076 tw7144460847202338443 tw7315281658411973552 tw7332429910313079614 tw7431616922087442408 tw7528962446561948119 tw7546383812998772940 tw7722447486518412752 tw7745961457070461257 tw7848575136939235039 tw7893045399722384619 tw795358854775921969 tw8107183846959015920 tw8139000997056815646 tw8171508221766338947 tw8177910087538855428 tw8200985773609657926 tw8216694693003600121
  tw8244717426104624666 tw8247479268883950853 tw8328404960837720710 tw8411136866795237673 tw8438042880240099370 tw8468203506457682652 tw8497991778942740667 tw860371196815995764 tw8649499944017707978 tw8673692595865170336 tw8906307917597438231 tw8935547123090773077 tw8944445910998356349 tw9005644740277593543 tw9009519031161199134 tw9049032640456690139 tw9056829066805312660 tw9084565826622278606 tw9232179302703811581 tw9399201022911363424 tw9448885999143372094 tw9514240764521908551 tw9619412974065246175 tw9660884696811016871 tw9682074527158326178 tw971494817104431204 tw9725233156425842289 tw9739656140487131968 tw9824824760968573067 tw9875374998998535643 tw9930454796330640647 tw9990220597997734602:True)
open PySem.W PyProof.Rows
local macro_rules | `(tactic| walk_at "FD") => `(tactic| (refine' DL.FD.mk' ?a ?l ?c ?k; (case a => k_is); (case l => k_is); (case c => k_is); (case k => k_is)))
local macro_rules | `(tactic| walk_at "RD") => `(tactic| (refine' Rdr.MD.mk' ?a ?i ?l ?c ?k; (case a => k_is); (case i => k_is); (case l => k_is); (case c => k_is); (case k => k_is)))
local macro_rules | `(tactic| walk_at "NR") => `(tactic| first | (refine' DL.NR.ff ?h ?a ?t; (case h => decide); (case a => k_is); (case t => kit_is)) | (refine' DL.NR.tt ?h ?a ?t ?u; (case h => decide); (case a => k_is); (case t => kit_is); (case u => kts_exm)) | (refine' DL.NR.no ?a; (case a => k_is)))
local macro_rules | `(tactic| walk_at "XD") => `(tactic| (refine' DL.XD.mk' ?e ?y ?g ?i ?b ?o ?a ?s ?t ?v ?r0 ?r1 ?r2 ?r3 ?r4 ?r5 ?r6 ?r7 ?r8 ?r9 ?r10 ?r11 ?r12 ?r13 ?r14 ?r15; (case e => k_is); (case y => k_exc); (case g | i | b | o | a | s | t => k_is); (case v => kit_is); (case r0 | r1 | r2 | r3 | r4 | r5 | r6 | r7 | r8 | r9 | r10 | r11 | r12 | r13 | r14 | r15 => walk_at "NR")))
set_option maxRecDepth 100000 in
set_option maxHeartbeats 0 in
theorem PySem.Challenge.cw_chalkline_k32_drawings_written_holds : PySem.Challenge.rw_chalkline_k32_drawings_written.Holds := by
 w_on; o_law; k_head; (case hw => w_witness2)
 k_fill
 refine DL.walkD (l := PySem.Challenge.rw_chalkline_k32_drawings_written) 70 ⟨rfl, by decide, by decide⟩ rfl rfl (fun w h Y => PySem.W.kIn_of Y) ?F
 case F =>
  intro w mg fa h KX G hmg
  refine' Kx.all_mk KX G hmg ?d0 ?d1 ?d2 ?d3 ?d4 ?d5 ?d6 ?d7 ?d8 ?d9 ?d10 ?d11 ?d12 ?d13 ?d14 ?d15 ?d16 ?d17 ?d18 ?d19 ?d20 ?d21 ?d22 ?d23 ?d24 ?d25 ?a26 ?l26 ?c26 ?k26 ?rA ?rB ?rC ?rD ?rE ?rF ?rG ?rn0 ?rn1 ?rm0 ?rm1 ?rm2 ?xd_NoText ?z_range ?z_int ?z_len ?z_tuple ?z_str ?z_list ?z_isinstance ?z_bool ?z_zip ?z_all ?z_set ?q_MOST_LETTERS ?q_LETTERS ?q_NO_NAMES ?lq_NO_NAMES ?q_MOST_WITHIN ?q_MOST_TIMES ?q_MOST_PARAMS ?q_MOST_RULES ?hlaw
  (case d0 | d1 | d2 | d3 | d4 | d5 | d6 | d7 | d8 | d9 | d10 | d11 | d12 | d13 | d14 | d15 | d16 | d17 | d18 | d19 | d20 | d21 | d22 | d23 | d24 | d25 => walk_at "FD")
  (case a26 | l26 | c26 | k26 | rA | rB | rC | rD | rE | rF | rG | rn0 | rn1 => k_is)
  (case rm0 | rm1 | rm2 => walk_at "RD")
  (case xd_NoText => walk_at "XD")
  (case z_range | z_int | z_len | z_tuple | z_str | z_list | z_isinstance | z_bool | z_zip | z_all | z_set | q_MOST_LETTERS | q_LETTERS | q_NO_NAMES | lq_NO_NAMES | q_MOST_WITHIN | q_MOST_TIMES | q_MOST_PARAMS | q_MOST_RULES => k_is)
  (case hlaw => exact Lk32.law_ok)
end