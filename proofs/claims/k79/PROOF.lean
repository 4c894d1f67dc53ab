import PyProof.Rows.All
import Wide.All
import OpenK.AllK
import Wide.FinOn
import Lean
import PyProof.EqAt
import PyProof.EqKinds
import PyProof.TupleCall
import PyProof.NeKinds
import KE.KTryMore
import PyProof.NsDelKeeps
import PySem.SetTable
import PyProof.DictTable
import PyProof.SliceStr2
import PyProof.MeetsStr
import PyProof.StrWalks
import PyProof.TupleKey
import PyProof.SetKind
import PyProof.Rows.SetFrom
import PyProof.ZipIter
import PyProof.Rows.ZipGen
import PyProof.LayNew
import PyProof.ExcInit
import PyProof.ExcClass3
import PyProof.EnumFor
import PyProof.EnumMake
import PyProof.EnumStmt
import PySem.Challenge.RW_chalkline_k79_whole_bow_plan
set_option Elab.async false
set_option linter.all false
set_option maxRecDepth 100000
section
open PySem PyProof.Rows
abbrev xFg := PySem.W.Frag
abbrev xaa := @List.getElem?_set_ne
abbrev xab := @List.length_map
abbrev xad := @Heap.get?_push_of_some
abbrev xae := @List.getElem?_eq_some_iff
abbrev xaf := @List.mem_cons_of_mem
abbrev xag := @Heap.lt_size
abbrev xah := @List.size_toArray
abbrev xai := @Nat.le_refl
abbrev xaj := @Nat.lt_of_lt_of_le
abbrev xak := @PySem.W.mg_none_of
abbrev xal := @List.getElem?_set_self
abbrev xam := @List.mem_cons_self
abbrev xan := @List.getElem?_eq_getElem
abbrev xao := @Prod.ext
abbrev xap := @List.mem_cons
abbrev xaq := @List.length_cons
abbrev xar := @Array.length_toList
abbrev xas := @Ne.symm
abbrev xat := @Bool.and_eq_true
abbrev xau := @Array.getD_eq_getD_getElem?
abbrev xav := @Array.getElem?_toList
abbrev xaw := @Bool.false_ne_true
abbrev xax := @Nat.ne_of_lt
abbrev xay := @Int.mul_eq_zero
abbrev xaz := @Heap.get?_push_size
abbrev xa0 := @List.all_eq_true
abbrev xa1 := @List.filterMap_cons_some
abbrev xa2 := @List.mem_range
abbrev xa3 := @Array.getElem?_eq_some_iff
abbrev xa4 := @List.mem_append_right
abbrev xa5 := @Nat.le_trans
abbrev xa6 := @List.length_take
abbrev xa7 := @List.not_mem_nil
abbrev xa8 := @Classical.byContradiction
abbrev xa9 := @List.map_cons
abbrev xba := @Option.isSome_iff_exists
abbrev xbb := @List.filterMap_cons_none
abbrev xbc := @List.mem_of_getElem?
abbrev xbd := @Array.getElem?_eq_getElem
abbrev xbe := @List.mem_append
abbrev xbf := @Heap.get?_update_other
abbrev xbg := @List.getElem_of_mem
abbrev xbh := @List.mem_map
abbrev xbi := @List.mem_singleton
abbrev xbj := @List.map_append
abbrev xbk := @Nat.zero_add
abbrev xbl := @Nat.lt_irrefl
abbrev xbm := @PySem.W.mg_of
abbrev xbn := @List.mem_filterMap
abbrev xbo := @Nat.lt_of_le_of_lt
abbrev xbp := @List.mem_filter
abbrev xbq := @Int.mul_zero
abbrev xbr := @Int.emod_nonneg
abbrev xbt := @List.getElem?_map
abbrev xbu := @List.lookup_cons
abbrev xbv := @List.length_append
abbrev xbw := @Int.emod_lt_of_pos
abbrev xbx := @List.getElem?_append_left
abbrev xby := @List.length_drop
abbrev xbz := @List.getElem_mem
abbrev xb0 := @List.exists_of_findSome?_eq_some
abbrev xb1 := @List.getElem?_cons_succ
abbrev xb2 := @List.getElem?_toArray
abbrev xb3 := @Nat.le_of_not_lt
abbrev xb4 := @List.mem_of_mem_take
abbrev xb5 := @List.getElem?_append_right
abbrev xb6 := @List.findSome?_eq_none_iff
abbrev xb7 := @List.filterMap_cons
abbrev xb8 := @List.nodup_cons
abbrev xb9 := @Bool.eq_iff_iff
abbrev xcb := @Int.eq_of_mul_eq_mul_left
abbrev xcc := @List.pairwise_iff_getElem
abbrev xcd := @Nat.le_of_lt
abbrev xce := @Nat.ne_of_gt
abbrev xcf := @Int.natAbs_natCast
abbrev xch := @List.map_map
abbrev xci := @Int.natAbs_mul
abbrev xcj := @Nat.mod_lt
abbrev xck := @List.getElem?_replicate
abbrev xcl := @Nat.eq_zero_of_zero_dvd
abbrev xcm := @Nat.zero_le
abbrev xcn := @Option.map_eq_some_iff
abbrev xco := @Array.toList_filterMap
abbrev xcp := @Nat.gcd_dvd_left
abbrev xcq := @Nat.lt_succ_self
abbrev xcr := @List.length_replicate
abbrev xcs := @Int.natAbs_dvd_natAbs
abbrev xcu := @Heap.get?_update_self
abbrev xcv := @List.getElem?_eq_none
abbrev xcw := @List.append_nil
abbrev xcx := @List.of_mem_zip
abbrev xcy := @Int.zero_sub
abbrev xcz := @List.length_zip
abbrev xc0 := @List.length_set
abbrev xc1 := @List.toList_toArray
abbrev xc2 := @Heap.size_push
abbrev xc3 := @Bool.not_false
end
open PySem
section
namespace L2
open PySem.Spec PyProof.Rows
abbrev Key := Sum Int Str
def keyIs : Key -> Value -> Bool
  | .inl k, v => Value.isInt k v
  | .inr x, v => Value.isStrOf x v
def keyH (w : World) : Key -> Int
  | .inl k => hashInt k
  | .inr x => hashStr w x
theorem keyIs_shape : ∀ {k : Key} {v : Value}, keyIs k v = true -> (∃ i t, k = Sum.inl i /\ v = Value.int i t) \/ (∃ x t, k = Sum.inr x /\ v = Value.str x t)
  | .inl i, v, h => by
    obtain ⟨t, e⟩ := Value.isInt_shape (k := i) (v := v) h
    exact .inl ⟨i, t, rfl, e⟩
  | .inr x, v, h => by
    obtain ⟨t, e⟩ := Value.isStrOf_shape (x := x) (v := v) h
    exact .inr ⟨x, t, rfl, e⟩
theorem key_ll (a b : Int) : decide ((Sum.inl a : Key) = Sum.inl b) = (a == b) := by
  by_cases e : a = b
  · subst e; simp
  · have h : ¬ (Sum.inl a : Key) = Sum.inl b := fun q => e (Sum.inl.inj q)
    rw [decide_eq_false h]
    exact (beq_eq_false_iff_ne.mpr e).symm
theorem key_rr (a b : Str) : decide ((Sum.inr a : Key) = Sum.inr b) = decide (a = b) := by
  by_cases e : a = b
  · subst e; simp
  · have h : ¬ (Sum.inr a : Key) = Sum.inr b := fun q => e (Sum.inr.inj q)
    rw [decide_eq_false h, decide_eq_false e]
theorem key_lr (a : Int) (b : Str) : decide ((Sum.inl a : Key) = Sum.inr b) = false := decide_eq_false (fun q => nomatch q)
theorem key_rl (a : Str) (b : Int) : decide ((Sum.inr a : Key) = Sum.inl b) = false := decide_eq_false (fun q => nomatch q)
def mixKind (prog : Program) (w : World) : PySem.KeyKind prog w Key where
  is := keyIs
  hash := keyH w
  inj := fun v a b ha hb => by
    rcases keyIs_shape ha with ⟨i, t, rfl, rfl⟩ | ⟨x, t, rfl, rfl⟩
    · rcases keyIs_shape hb with ⟨j, u, rfl, e⟩ | ⟨y, u, rfl, e⟩
      · injection e with e1 _; rw [e1]
      · exact nomatch e
    · rcases keyIs_shape hb with ⟨j, u, rfl, e⟩ | ⟨y, u, rfl, e⟩
      · exact nomatch e
      · injection e with e1 _; rw [e1]
  byValue := fun k v h => by
    rcases keyIs_shape h with ⟨i, t, rfl, rfl⟩ | ⟨x, t, rfl, rfl⟩ <;> rfl
  pyHash := fun hv h => by
    rcases keyIs_shape hv with ⟨i, t, rfl, rfl⟩ | ⟨x, t, rfl, rfl⟩
    · exact wpAny_pyHash_int h
    · exact wpAny_pyHash_str h
  eqBool := fun hu hv h => by
    rcases keyIs_shape hu with ⟨i, t, rfl, rfl⟩ | ⟨x, t, rfl, rfl⟩
    · rcases keyIs_shape hv with ⟨j, u, rfl, rfl⟩ | ⟨y, u, rfl, rfl⟩
      · rw [key_ll] at h; exact wpAny_eqBool_int h
      · rw [key_lr] at h; exact SeqAt.EqAt.int_str i t y u _ _ _ _ h
    · rcases keyIs_shape hv with ⟨j, u, rfl, rfl⟩ | ⟨y, u, rfl, rfl⟩
      · rw [key_rl] at h; exact SeqAt.EqAt.str_int x t j u _ _ _ _ h
      · rw [key_rr] at h; exact wpAny_eqBool_str h
  «strs» := fun k x t v h => by
    rcases keyIs_shape h with ⟨i, u, rfl, e⟩ | ⟨y, u, rfl, e⟩
    · exact nomatch e
    · injection e with e1 _
      subst e1
      cases v <;> rfl
end L2
namespace L2
open PySem.Spec PyProof.Rows
inductive V where
  | non | bl (b : Bool) | int (i : Int) | str (x : Str) | byt (b : Array UInt8) | flt (b : UInt64) | ref (a : Addr) | ty (n : String)
  deriving DecidableEq
def RelV : V -> Value -> Prop
  | .non, u => u = Value.none
  | .bl b, u => u = Value.bool b
  | .int i, u => ∃ t, u = Value.int i t
  | .str x, u => ∃ t, u = Value.str x t
  | .byt b, u => ∃ t, u = Value.bytes b t
  | .flt b, u => ∃ t, u = Value.float b t
  | .ref a, u => u = Value.ref a
  | .ty n, u => u = Value.type n
abbrev Vals : List V -> List Value -> Prop := Paired RelV
theorem Vals.length {xs : List V} {us : List Value} (r : Vals xs us) : xs.length = us.length := Paired.length r
theorem Vals.get : ∀ {xs : List V} {us : List Value} {i : Nat} {x : V}, Vals xs us -> xs[i]? = some x -> ∃ u, us[i]? = some u /\ RelV x u
  | _, _, _, _, .nil, e => by simp at e
  | _, _, 0, _, .cons r _, e => by simp at e; subst e; exact ⟨_, rfl, r⟩
  | _, _, i + 1, x, .cons _ t, e => by
    obtain ⟨u, h1, h2⟩ := Vals.get (i := i) (x := x) t (by simpa using e)
    exact ⟨u, by simpa using h1, h2⟩
theorem Vals.append : ∀ {xs ys : List V} {us ws : List Value}, Vals xs us -> Vals ys ws -> Vals (xs ++ ys) (us ++ ws)
  | _, _, _, _, .nil, s => s
  | _, _, _, _, .cons r t, s => .cons r (Vals.append t s)
theorem Vals.take : ∀ {xs : List V} {us : List Value} (n : Nat), Vals xs us -> Vals (xs.take n) (us.take n)
  | _, _, 0, _ => .nil
  | _, _, _ + 1, .nil => .nil
  | _, _, n + 1, .cons r t => .cons r (Vals.take n t)
theorem Vals.drop : ∀ {xs : List V} {us : List Value} (n : Nat), Vals xs us -> Vals (xs.drop n) (us.drop n)
  | _, _, 0, r => r
  | _, _, _ + 1, .nil => .nil
  | _, _, n + 1, .cons _ t => Vals.drop n t
def RelO : Option V -> Option Value -> Prop
  | some v, some u => RelV v u
  | none, none => True
  | _, _ => False
def KV {κ : Type} : List (κ × V) -> List (κ × Value) -> Prop := Paired fun (p : κ × V) (q : κ × Value) => p.1 = q.1 /\ RelV p.2 q.2
def kV : Key -> V
  | .inl i => .int i
  | .inr x => .str x
inductive HO where
  | lst (xs : List V)
  | tup (xs : List V)
  | dK (kvs : List (Key × V)) | dT (kvs : List (List Key × V))
  | set (S : Int -> Bool) (n : Nat)
  | ins (C dx : Addr) (fs : List (Str × V))
  | own (x : Addr)
  | xd (fs : List (Str × V))
  | met (f x : Addr)
  | rng (lo hi : Int)
  | frz (o : Obj) (u : HO)
  | tbl (ps : Array Value)
  | ext (φ : Heap -> Prop)
abbrev Hp := Addr -> Option HO
def upd (H : Hp) (a : Addr) (o : HO) : Hp := fun b => if b = a then some o else H b
theorem upd_same {H : Hp} {a : Addr} {o : HO} : upd H a o a = some o := by unfold upd; rw [if_pos rfl]
theorem upd_ne {H : Hp} {a b : Addr} {o : HO} (h : b ≠ a) : upd H a o b = H b := by unfold upd; rw [if_neg h]
theorem ne_of_none {H : Hp} {a b : Addr} {o : HO} (h : H a = some o) (h' : H b = none) : a ≠ b := by
  intro e; subst e; rw [h] at h'; cases h'
section
variable (P : Program) (w : World)
def ObjOk (H : Hp) (h : Heap) (a : Addr) : HO -> Prop
  | .lst xs => xs.length <= sizeLine /\ ∃ (its : List Value) (n : Nat), Vals xs its /\ h.get? a = some { cls := .type "list", data := .seq its.toArray n }
  | .tup xs => xs.length <= sizeLine /\ ∃ its : List Value, Vals xs its /\ IsTup h a its.toArray
  | .dK kvs => kvs.length <= sizeLine /\ (a == sysModules) = false /\ ∃ vs, KV kvs vs /\ h.DictOf (mixKind P w) a vs
  | .dT kvs => kvs.length <= sizeLine /\ (a == sysModules) = false /\ ∃ xs : List (List Key × Addr × Value),
      Paired (fun (p : List Key × V) (q : List Key × Addr × Value) => p.1 = q.1 /\ H q.2.1 = some (.tup (p.1.map kV)) /\ RelV p.2 q.2.2) kvs xs /\
      ∃ o es ep, h.get? a = some o /\ o.ExactDict /\ o.data = .dict es ep /\ es.toList = xs.map (entryOfKey (tupleKind (mixKind P w))) /\ (xs.map (·.1)).Nodup
  | .set S n => h.SetOf (intKind P w) a S n
  | .ins C dx fs => H dx = some (.own a) /\ fs.length <= 1000 /\ dx ≠ a /\ h.get? a = some (PySem.W.instObj C dx) /\
      ∃ mA, h.Ns1 dx mA /\ (∀ f, RelO (fs.lookup f) (mA f)) /\ PySem.Within mA (fs.map (·.1))
  | .own _ => ∃ o, h.get? a = some o
  | .xd fs => ∃ mA, h.Ns1 a mA /\ ∀ f, RelO (fs.lookup f) (mA f)
  | .rng lo hi => ∃ t u v, h.get? a = some { cls := .type "range", data := .fields #[.int lo t, .int hi u, .int 1 v] }
  | .frz o u => h.get? a = some o /\ ObjOk H h a u
  | .tbl ps => h.get? a = some { cls := .none, data := .fields ps }
  | .met f x => h.get? a = some (PySem.W.methodObj (.ref f) (.ref x))
  | .ext φ => φ h /\ (∃ o, h.get? a = some o) /\ ∀ h1 h2 : Heap, φ h1 -> (∀ o, h1.get? a = some o -> h2.get? a = some o) -> φ h2
def HOk (H : Hp) (h : Heap) : Prop := ∀ a o, H a = some o -> ObjOk P w H h a o
end
section
variable {P : Program} {w : World} {H H' : Hp} {h h' : Heap} {a : Addr} {o : HO}
theorem ObjOk.lt (x : ObjOk P w H h a o) : a < h.objs.size := by
  cases o with
  | lst xs => obtain ⟨_, _, _, _, e⟩ := x; exact xag e
  | tup xs => obtain ⟨_, _, _, p⟩ := x; exact p.lt
  | dK kvs => obtain ⟨_, _, _, _, o, _, _, e, _⟩ := x; exact xag e
  | dT kvs => obtain ⟨_, _, _, _, o, _, _, e, _⟩ := x; exact xag e
  | set S n => obtain ⟨o, _, _, _, e, _⟩ := x; exact xag e
  | ins C dx fs => obtain ⟨_, _, _, e, _⟩ := x; exact xag e
  | own y => obtain ⟨_, e⟩ := x; exact xag e
  | xd fs => obtain ⟨_, ⟨_, _, _, e, _⟩, _⟩ := x; exact xag e
  | rng lo hi => obtain ⟨_, _, _, e⟩ := x; exact xag e
  | frz ob u => obtain ⟨e, _⟩ := x; exact xag e
  | tbl ps => exact xag (show h.get? a = some _ from x)
  | met f y => exact xag (show h.get? a = some _ from x)
  | ext φ => obtain ⟨_, ⟨_, e⟩, _⟩ := x; exact xag e
theorem Paired.mapP {α β : Type} {F G : α -> β -> Prop} : ∀ {l₁ : List α} {l₂ : List β}, Paired F l₁ l₂ -> (∀ a b, F a b -> G a b) -> Paired G l₁ l₂
  | _, _, .nil, _ => .nil
  | _, _, .cons r t, f => .cons (f _ _ r) (Paired.mapP t f)
theorem ObjOk.stay (x : ObjOk P w H h a o) (k : ∀ b u, (b = a \/ H b = some (.own a)) -> h.get? b = some u -> h'.get? b = some u)
    (ho : ∀ b, H b = some (.own a) -> H' b = some (.own a)) (ht : ∀ b xs, H b = some (.tup xs) -> H' b = some (.tup xs)) : ObjOk P w H' h' a o := by
  induction o with
  | lst xs => obtain ⟨z, its, n, r, e⟩ := x; exact ⟨z, its, n, r, k _ _ (.inl rfl) e⟩
  | tup xs => obtain ⟨z, its, r, ob, e, c⟩ := x; exact ⟨z, its, r, ob, k _ _ (.inl rfl) e, c⟩
  | dK kvs => obtain ⟨z, y, vs, r, ob, es, ep, e, c⟩ := x; exact ⟨z, y, vs, r, ob, es, ep, k _ _ (.inl rfl) e, c⟩
  | dT kvs =>
    obtain ⟨z, y, xs, r, ob, es, ep, e, c⟩ := x
    exact ⟨z, y, xs, Paired.mapP r fun p q z => ⟨z.1, ht _ _ z.2.1, z.2.2⟩, ob, es, ep, k _ _ (.inl rfl) e, c⟩
  | set S n => obtain ⟨ob, es, ep, t, e, c⟩ := x; exact ⟨ob, es, ep, t, k _ _ (.inl rfl) e, c⟩
  | ins C dx fs =>
    obtain ⟨d, z, ne, e, mA, ⟨od, es, ep, e2, c⟩, r⟩ := x
    exact ⟨ho _ d, z, ne, k _ _ (.inl rfl) e, mA, ⟨od, es, ep, k _ _ (.inr d) e2, c⟩, r⟩
  | own y => obtain ⟨ob, e⟩ := x; exact ⟨ob, k _ _ (.inl rfl) e⟩
  | xd fs => obtain ⟨mA, ⟨od, es, ep, e, c⟩, r⟩ := x; exact ⟨mA, ⟨od, es, ep, k _ _ (.inl rfl) e, c⟩, r⟩
  | rng lo hi => obtain ⟨t, u, v, e⟩ := x; exact ⟨t, u, v, k _ _ (.inl rfl) e⟩
  | frz ob u ih => obtain ⟨e, q⟩ := x; exact ⟨k _ _ (.inl rfl) e, ih q⟩
  | tbl ps =>
    have e : h.get? a = some { cls := .none, data := .fields ps } := x
    show h'.get? a = some { cls := .none, data := .fields ps }
    exact k a _ (.inl rfl) e
  | met f y =>
    have e : h.get? a = some (PySem.W.methodObj (.ref f) (.ref y)) := x
    show h'.get? a = some (PySem.W.methodObj (.ref f) (.ref y))
    exact k a _ (.inl rfl) e
  | ext φ => obtain ⟨p, ⟨o, e⟩, st⟩ := x; exact ⟨st _ _ p fun o q => k _ _ (.inl rfl) q, ⟨o, k _ _ (.inl rfl) e⟩, st⟩
theorem HOk.lt (x : HOk P w H h) (e : H a = some o) : a < h.objs.size := (x a o e).lt
theorem HOk.fresh (x : HOk P w H h) (e : h.objs.size <= a) : H a = none := by
  cases q : H a with
  | none => rfl
  | some u => exact absurd (xaj (x.lt q) e) (xbl _)
theorem HOk.kept (x : HOk P w H h) (k : ∀ b u, h.get? b = some u -> h'.get? b = some u) : HOk P w H h' := fun a o e =>
  (x a o e).stay (fun b u _ q => k b u q) (fun _ q => q) fun _ _ q => q
theorem HOk.laid (x : HOk P w H h) (k : ∀ b u, h.get? b = some u -> h'.get? b = some u) (hp : h.objs.size <= a) (new : ObjOk P w (upd H a o) h' a o) : HOk P w (upd H a o) h' := fun b u e => by
  have hn := x.fresh hp
  by_cases hb : b = a
  · subst hb; rw [upd_same] at e; cases e; exact new
  · rw [upd_ne hb] at e
    exact (x b u e).stay (fun c v _ q => k c v q) (fun c q => by rw [upd_ne (ne_of_none q hn)]; exact q) fun c xs q => by rw [upd_ne (ne_of_none q hn)]; exact q
end
def Rd (H : Hp) (a : Addr) (u : HO) : Prop := H a = some u \/ ∃ o, H a = some (.frz o u)
theorem Rd.ok {P : Program} {w : World} {H : Hp} {h : Heap} {a : Addr} {u : HO} (r : Rd H a u) (x : HOk P w H h) : ObjOk P w H h a u := by
  rcases r with r | ⟨o, r⟩
  · exact x a u r
  · obtain ⟨_, q⟩ := x a _ r
    exact q
def Mut : Option HO -> Prop
  | some (.lst _) => True
  | some (.dK _) => True
  | some (.dT _) => True
  | some (.set _ _) => True
  | some (.ins _ _ _) => True
  | some (.ext _) => True
  | _ => False
section
variable {P : Program} {w : World} {H : Hp} {h h' : Heap} {x e : Addr} {o' : HO}
theorem HOk.write (ok : HOk P w H h) (mu : Mut (H x)) (he : e = x \/ H e = some (.own x)) (k : ∀ b u, b ≠ e -> h.get? b = some u -> h'.get? b = some u) (heo : ∃ u, h'.get? e = some u)
    (new : ObjOk P w (upd H x o') h' x o') : HOk P w (upd H x o') h' := fun b u q => by
  have nown : ∀ c y, H c = some (.own y) -> c ≠ x := fun c y r z => by subst z; rw [r] at mu; exact mu
  have ntup : ∀ c xs, H c = some (.tup xs) -> c ≠ x := fun c xs r z => by subst z; rw [r] at mu; exact mu
  by_cases hb : b = x
  · subst hb; rw [upd_same] at q; cases q; exact new
  · rw [upd_ne hb] at q
    by_cases hbe : b = e
    · have q' : H b = some (.own x) := by
        rcases he with z | z
        · exact absurd (hbe.trans z) hb
        · rw [hbe]; exact z
      rw [q] at q'; cases q'
      obtain ⟨v, hv⟩ := heo
      exact ⟨v, by rw [hbe]; exact hv⟩
    · refine (ok b u q).stay (fun c v hc r => k c v ?_ r) (fun c r => by rw [upd_ne (nown c b r)]; exact r) fun c xs r => by rw [upd_ne (ntup c xs r)]; exact r
      rcases hc with rfl | hc
      · exact hbe
      · rintro rfl
        rcases he with z | z
        · exact nown c b hc z
        · rw [hc] at z; cases z; exact hb rfl
end
structure Un (fs ex : List Addr) (H H' : Hp) (h h' : Heap) : Prop where
  keep : ∀ b o, h.get? b = some o -> H b = none -> b ∉ fs -> b ∉ ex -> h'.get? b = some o
  slot : ∀ b o, h.get? b = some o -> H b = none -> b ∈ fs -> b ∉ ex -> ∃ sl, h'.get? b = some { o with slots := sl }
  free : ∀ b o, h.get? b = some o -> H b = none -> b ∉ ex -> H' b = none
  there : ∀ b o, h.get? b = some o -> b ∉ ex -> ∃ o', h'.get? b = some o'
  tups : ∀ b xs, H b = some (.tup xs) -> H' b = some (.tup xs)
  frzs : ∀ b o u, H b = some (.frz o u) -> H' b = some (.frz o u)
  tbls : ∀ b ps, H b = some (.tbl ps) -> ∃ more, H' b = some (.tbl (ps ++ more))
section
variable {fs fs' ex ex' : List Addr} {H H1 H2 : Hp} {h h1 h2 h' : Heap} {a x e : Addr} {o : HO}
theorem Un.any (u : Un fs ex H H1 h h1) {b : Addr} {ob : Obj} (q : h.get? b = some ob) (n : H b = none) (hx : b ∉ ex) : ∃ sl, h1.get? b = some { ob with slots := sl } := by
  by_cases hb : b ∈ fs
  · exact u.slot b ob q n hb hx
  · exact ⟨ob.slots, u.keep b ob q n hb hx⟩
theorem Un.kept (k : ∀ b u, h.get? b = some u -> h'.get? b = some u) : Un fs ex H H h h' :=
  ⟨fun b ob q _ _ _ => k b ob q, fun b ob q _ _ _ => ⟨ob.slots, k b ob q⟩, fun _ _ _ n _ => n, fun b ob q _ => ⟨ob, k b ob q⟩, fun _ _ q => q, fun _ _ _ q => q, fun _ ps q => ⟨#[], by rw [q]; simp⟩⟩
theorem Un.refl : Un fs ex H H h h := Un.kept fun _ _ q => q
theorem Un.laid (k : ∀ b u, h.get? b = some u -> h'.get? b = some u) (hp : h.objs.size <= a) (hn : H a = none) : Un fs ex H (upd H a o) h h' where
  keep := fun b u q _ _ _ => k b u q
  slot := fun b u q _ _ _ => ⟨u.slots, k b u q⟩
  free := fun b u q n _ => by rw [upd_ne (xax (xaj (xag q) hp))]; exact n
  there := fun b u q _ => ⟨u, k b u q⟩
  tups := fun b xs q => by rw [upd_ne (ne_of_none q hn)]; exact q
  frzs := fun b u xs q => by rw [upd_ne (ne_of_none q hn)]; exact q
  tbls := fun b ps q => ⟨#[], by rw [upd_ne (ne_of_none q hn), q]; simp⟩
theorem Un.write (mu : Mut (H x)) (he : e = x \/ H e = some (.own x)) (k : ∀ b u, b ≠ e -> h.get? b = some u -> h'.get? b = some u) (heo : ∃ u, h'.get? e = some u) : Un fs ex H (upd H x o) h h' := by
  have hx : ∀ b, H b = none -> b ≠ x := fun b n z => by subst z; rw [n] at mu; exact mu
  have hb : ∀ b, H b = none -> b ≠ e := fun b n z => by
    subst z
    rcases he with r | r
    · exact hx b n r
    · rw [n] at r; cases r
  have hm : ∀ b u, H b = some u -> ¬ Mut (some u) -> b ≠ x := fun b u q nm z => by subst z; rw [q] at mu; exact nm mu
  refine ⟨fun b u q n _ _ => k b u (hb b n) q, fun b u q n _ _ => ⟨u.slots, k b u (hb b n) q⟩, fun b u q n _ => by rw [upd_ne (hx b n)]; exact n, fun b u q _ => ?_,
    fun b xs q => by rw [upd_ne (hm b _ q fun z => z)]; exact q, fun b u xs q => by rw [upd_ne (hm b _ q fun z => z)]; exact q, fun b ps q => ⟨#[], by rw [upd_ne (hm b _ q fun z => z), q]; simp⟩⟩
  by_cases hbe : b = e
  · subst hbe; exact heo
  · exact ⟨u, k b u hbe q⟩
end
def trk (h : Heap) (H : Hp) : List Addr := (List.range h.objs.size).filter fun a => (H a).isSome
def hidT (h : Heap) (H : Hp) : Heap := PySem.W.hideAll h (trk h H)
theorem hidT_size (h : Heap) (H : Hp) : (hidT h H).objs.size = h.objs.size := PySem.W.hideAll_size _ _
theorem hidT_get {h : Heap} {H : Hp} {b : Addr} {o : Obj} (e : h.get? b = some o) (n : H b = none) : (hidT h H).get? b = some o :=
  PySem.W.hideAll_get _ e fun hm => by
    have q : (H b).isSome = true := (xbp.mp hm).2
    rw [n] at q; simp at q
theorem of_hidT {h : Heap} {H : Hp} {b : Addr} {o : Obj} (e : (hidT h H).get? b = some o) : h.get? b = some o /\ H b = none := by
  have e' : h.get? b = some o := PySem.W.of_hideAll (trk h H) e
  refine ⟨e', ?_⟩
  cases q : H b with
  | none => rfl
  | some x =>
    have hm : b ∈ trk h H := xbp.mpr ⟨xa2.mpr (xag e'), by simp [q]⟩
    have z : (hidT h H).get? b = none := PySem.W.hideAll_none (trk h H) hm
    rw [z] at e; cases e
def allNews (g h : Heap) (L : Addr) : List (Addr × Obj) := (List.range h.objs.size).filterMap fun a => if a = L \/ (g.get? a).isSome = true then none else (h.get? a).map fun o => (a, o)
def rest (g h : Heap) (L d : Addr) : List (Addr × Obj) := (allNews g h L).filter fun p => decide (p.1 ≠ d)
end L2
namespace L2
open PySem.Spec PyProof.Rows
structure Mod (K : xFg) (mg : Str -> Option Value) (base : Heap) : Prop where
  kin : K.In base
  glob : base.Ns mainGlobals mg
  blt : ∃ mb, base.Ns builtinsNs mb /\ ∀ x : Str, x ≠ "__name__" -> mb x = bootBuiltins x
  nolimit : base.NoLimit
structure Cx where
  prog : Program
  w : World
  K : xFg
  mg : Str -> Option Value
  base : Heap
  A : Around
  N : List Str
  s₀ : Shared
  H₀ : Hp
  env : Env
  outer : List Env
  stack : List Env
  ex : List Addr
  fn : Str -> Bool
  calm : Bool
  pn : List (Addr × Obj)
  xe : Value -> Shared -> Prop
def frs (l : List Env) : List Addr := l.filterMap (·.frame)
abbrev Cx.fs (X : Cx) : List Addr := frs X.outer
def Vis (sc : Scope) (x : Str) : Prop := sc.names.lookup x = some .local \/ sc.names.lookup x = some .cell \/ sc.names.lookup x = some .free
def Loc (sc : Scope) (x : Str) : Prop := sc.names.lookup x = some .local \/ sc.names.lookup x = some .cell
def Look (env : Env) (h : Heap) (m : Str -> Option Value) (x : Str) (u : Value) : Prop :=
  (env.kindOf x = some .local /\ m x = some u) \/ ((env.kindOf x = some .cell \/ env.kindOf x = some .free) /\ ∃ c, env.cells.lookup x = some c /\ h.IsCell c (some u))
structure Cx.Ok (X : Cx) : Prop where
  mod : Mod X.K X.mg X.base
  kind : X.env.scope.kind = .function
  glob : X.env.globals = mainGlobals
  blt : X.env.builtins = builtinsNs
  above : X.s₀.heap.objs.size <= X.env.locals
  inj : ∀ x y c, X.env.cells.lookup x = some c -> X.env.cells.lookup y = some c -> x = y
  has : ∀ x, (X.env.kindOf x = some .cell \/ X.env.kindOf x = some .free) -> ∃ c, X.env.cells.lookup x = some c
  cab : ∀ x c, X.fn x = true -> X.env.cells.lookup x = some c -> X.s₀.heap.objs.size <= c
  hd : X.calm = true -> X.A.handled = none
  frames : X.A.frames = some X.stack
  stk : X.stack = X.outer \/ (X.stack = X.env :: X.outer /\ X.env.frame = some X.env.locals)
  exf : ∀ b ∈ X.ex, b ≠ X.env.locals /\ ∀ x c, X.env.cells.lookup x = some c -> c ≠ b
  bs : ∀ b o, X.base.get? b = some o -> X.s₀.heap.get? b = some o /\ X.H₀ b = none
  bsz : X.base.objs.size <= X.s₀.heap.objs.size
  noex : ∀ b o, X.base.get? b = some o -> b ∉ X.ex
  exfs : ∀ b ∈ X.ex, b ∉ X.fs
  funs : X.s₀.heap.FunFrames X.base X.outer
  frf : ∀ b ∈ X.fs, X.H₀ b = none
structure Inv (X : Cx) (pins : List (Addr × Obj)) (Z : List (Option V)) (H : Hp) (s : Shared) : Prop where
  ok : X.Ok
  os : s.os = X.s₀.os
  bare : AllBare s.gens
  base : Un X.fs X.ex X.H₀ H X.s₀.heap s.heap
  loc : ∃ m, s.heap.Ns X.env.locals m /\ ∀ (i : Nat) (x : Str) (v : V), X.N[i]? = some x -> Z[i]? = some (some v) -> Vis X.env.scope x -> ∃ u, RelV v u /\ Look X.env s.heap m x u
  cell : ∀ x c, X.env.cells.lookup x = some c -> ∃ v, s.heap.IsCell c v
  free : H X.env.locals = none
  freeC : ∀ x c, X.env.cells.lookup x = some c -> H c = none
  pin : ∀ p ∈ X.pn ++ pins, s.heap.get? p.1 = some p.2 /\ H p.1 = none /\ p.1 ≠ X.env.locals /\ p.1 ∉ X.fs /\ ∀ v, p.2.data ≠ .cell v
  hok : HOk X.prog X.w H s.heap
  len : Z.length = X.N.length
section
variable {X : Cx} {pins : List (Addr × Obj)} {Z : List (Option V)} {H H' : Hp} {s : Shared} {h' : Heap}
theorem Cx.Ok.nofr (ok : X.Ok) {b : Addr} {o : Obj} (e : X.base.get? b = some o) : b ∉ X.fs := fun hb => by
  have := (ok.funs.mem hb).1
  rw [e] at this; cases this
theorem Inv.bs (I : Inv X pins Z H s) : ∀ b o, X.base.get? b = some o -> s.heap.get? b = some o /\ H b = none := fun b o e =>
  ⟨I.base.keep b o (I.ok.bs b o e).1 (I.ok.bs b o e).2 (I.ok.nofr e) (I.ok.noex b o e), I.base.free b o (I.ok.bs b o e).1 (I.ok.bs b o e).2 (I.ok.noex b o e)⟩
theorem Inv.bk (I : Inv X pins Z H s) : ∀ b o, X.base.get? b = some o -> s.heap.get? b = some o := fun b o e => (I.bs b o e).1
theorem Inv.mod (I : Inv X pins Z H s) : Mod X.K X.mg X.base := I.ok.mod
theorem Inv.kIn (I : Inv X pins Z H s) : X.K.In s.heap := I.ok.mod.kin.keeps I.bk
theorem Inv.fr (I : Inv X pins Z H s) : ∃ m, Fr X.base X.env.locals s.heap m :=
  let ⟨m, hn, _⟩ := I.loc
  ⟨m, hn, I.bk, xa5 I.ok.bsz I.ok.above⟩
theorem Inv.lt (I : Inv X pins Z H s) : X.env.locals < s.heap.objs.size := let ⟨_, hn, _⟩ := I.loc; hn.lt
theorem Inv.sz (I : Inv X pins Z H s) : X.s₀.heap.objs.size <= s.heap.objs.size := xa5 I.ok.above (xcd I.lt)
theorem Inv.nofs (I : Inv X pins Z H s) {a : Addr} (h : s.heap.objs.size <= a) : a ∉ X.fs := fun hb => by
  obtain ⟨_, o, ho, _⟩ := I.ok.funs.mem hb
  exact absurd (xaj (xag ho) (xa5 I.sz h)) (xbl _)
theorem Inv.cne (I : Inv X pins Z H s) : ∀ x c, X.env.cells.lookup x = some c -> c ≠ X.env.locals := fun x c e z => by
  obtain ⟨v, o, ho, hd⟩ := I.cell x c e
  obtain ⟨m, ⟨o', es, ep, ho', hd', _⟩, _⟩ := I.loc
  rw [z, ho'] at ho; cases ho; rw [hd'] at hd; cases hd
theorem Inv.funs (I : Inv X pins Z H s) : s.heap.FunFrames X.base X.outer := by
  have all : ∀ (l : List Env), (∀ b ∈ frs l, b ∈ X.fs) -> X.s₀.heap.FunFrames X.base l -> s.heap.FunFrames X.base l := by
    intro l
    induction l with
    | nil => intro _ _; trivial
    | cons env r ih =>
      intro hs hl
      obtain ⟨hk, ⟨L, o, hf, hn, ho, hd⟩, hr⟩ := hl
      have hL : L ∈ X.fs := hs L (by unfold frs; rw [xb7, hf]; exact xam)
      obtain ⟨sl, e⟩ := I.base.slot L o ho (I.ok.frf L hL) hL fun z => I.ok.exfs L z hL
      exact ⟨hk, ⟨L, _, hf, hn, e, hd⟩, ih (fun b hb => hs b (by unfold frs; rw [xb7, hf]; exact xaf _ hb)) hr⟩
  exact all X.outer (fun _ hb => hb) I.ok.funs
theorem Inv.stack (I : Inv X pins Z H s) : s.heap.FunFrames X.base X.stack := by
  rcases I.ok.stk with e | ⟨e, hf⟩
  · rw [e]; exact I.funs
  · rw [e]
    obtain ⟨m, hn, _⟩ := I.loc
    refine .cons (by rw [I.ok.kind]; decide) hf hn ?_ I.funs
    exact Heap.get?_none_of_le (xa5 I.ok.bsz I.ok.above)
theorem Inv.stkSub (I : Inv X pins Z H s) : ∀ b ∈ frs X.stack, b ∈ X.env.locals :: X.fs := fun b hb => by
  rcases I.ok.stk with e | ⟨e, hf⟩
  · rw [e] at hb; exact xaf _ hb
  · rw [e] at hb
    unfold frs at hb
    rw [xb7, hf] at hb
    exact hb
theorem Inv.stkFree (I : Inv X pins Z H s) : ∀ b ∈ frs X.stack, H b = none := fun b hb => by
  rcases xap.mp (I.stkSub b hb) with e | hb
  · rw [e]; exact I.free
  · obtain ⟨_, o, ho, _⟩ := I.ok.funs.mem hb
    exact I.base.free b o ho (I.ok.frf b hb) fun z => I.ok.exfs b z hb
theorem Inv.step {g' : Array GenState} {t' : Nat} {d' : Drawn} {ch : List Addr} (I : Inv X pins Z H s)
    (hch : ∀ b ∈ ch, (b ∈ X.ex \/ X.s₀.heap.objs.size <= b) /\ b ≠ X.env.locals /\ (∀ x c, X.env.cells.lookup x = some c -> c ≠ b) /\ ∀ p ∈ X.pn ++ pins, p.1 ≠ b)
    (keep : ∀ b o, b ≠ X.env.locals -> b ∉ X.fs -> b ∉ ch -> s.heap.get? b = some o -> H b = none -> h'.get? b = some o)
    (slot : ∀ b o, b ≠ X.env.locals -> b ∈ X.fs -> b ∉ ch -> s.heap.get? b = some o -> H b = none -> ∃ sl, h'.get? b = some { o with slots := sl }) (free : ∀ b o, b ∉ ch -> s.heap.get? b = some o -> H b = none -> H' b = none)
    (there : ∀ b o, b ∉ ch -> s.heap.get? b = some o -> ∃ o', h'.get? b = some o')
    (tups : ∀ b xs, H b = some (.tup xs) -> H' b = some (.tup xs)) (frzs : ∀ b o u, H b = some (.frz o u) -> H' b = some (.frz o u)) (tbls : ∀ b ps, H b = some (.tbl ps) -> ∃ more, H' b = some (.tbl (ps ++ more)))
    (ns : ∀ m, s.heap.Ns X.env.locals m -> h'.Ns X.env.locals m) (hok : HOk X.prog X.w H' h') (hg : AllBare g') :
    Inv X pins Z H' { s with heap := h', gens := g', drawn := d', toks := t' } := by
  have neL : ∀ b o, X.s₀.heap.get? b = some o -> b ≠ X.env.locals := fun b o e => xax (xaj (xag e) I.ok.above)
  have neC : ∀ b o, X.s₀.heap.get? b = some o -> b ∉ X.ex -> b ∉ ch := fun b o e hx hb => by
    rcases (hch b hb).1 with z | z
    · exact hx z
    · exact absurd (xaj (xag e) z) (xbl _)
  have cellK : ∀ x c, X.env.cells.lookup x = some c -> ∀ v, s.heap.IsCell c v -> h'.IsCell c v := fun x c e v ⟨o, ho, hd⟩ => by
    have nch : c ∉ ch := fun z => (hch c z).2.2.1 x c e rfl
    by_cases hc : c ∈ X.fs
    · obtain ⟨sl, q⟩ := slot c o (I.cne x c e) hc nch ho (I.freeC x c e)
      exact ⟨_, q, hd⟩
    · exact ⟨o, keep c o (I.cne x c e) hc nch ho (I.freeC x c e), hd⟩
  refine ⟨I.ok, I.os, hg, ⟨fun b o e n hb hx => ?_, fun b o e n hb hx => ?_, fun b o e n hx => ?_, fun b o e hx => ?_, fun b xs e => tups b xs (I.base.tups b xs e), fun b o xs e => frzs b o xs (I.base.frzs b o xs e), fun b ps e => ?_⟩, ?_, fun x c e => ?_, ?_, fun x c e => ?_, fun p hp => ?_, hok, I.len⟩
  · exact keep b o (neL b o e) hb (neC b o e hx) (I.base.keep b o e n hb hx) (I.base.free b o e n hx)
  · obtain ⟨sl, e1⟩ := I.base.slot b o e n hb hx
    obtain ⟨sl', e2⟩ := slot b _ (neL b o e) hb (neC b o e hx) e1 (I.base.free b o e n hx)
    exact ⟨sl', e2⟩
  · obtain ⟨o', e1⟩ := I.base.there b o e hx
    exact free b o' (neC b o e hx) e1 (I.base.free b o e n hx)
  · obtain ⟨o', e1⟩ := I.base.there b o e hx
    exact there b o' (neC b o e hx) e1
  · obtain ⟨m1, e1⟩ := I.base.tbls b ps e
    obtain ⟨m2, e2⟩ := tbls b _ e1
    exact ⟨m1 ++ m2, by rw [e2, Array.append_assoc]⟩
  · obtain ⟨m, hn, hl⟩ := I.loc
    refine ⟨m, ns m hn, fun i x v e1 e2 e3 => ?_⟩
    obtain ⟨u, r, l⟩ := hl i x v e1 e2 e3
    refine ⟨u, r, ?_⟩
    rcases l with l | ⟨k, c, e, z⟩
    · exact .inl l
    · exact .inr ⟨k, c, e, cellK x c e _ z⟩
  · obtain ⟨v, z⟩ := I.cell x c e
    exact ⟨v, cellK x c e v z⟩
  · obtain ⟨m, ⟨o, _, _, ho, _⟩, _⟩ := I.loc
    exact free _ o (fun z => (hch _ z).2.1 rfl) ho I.free
  · obtain ⟨v, o, ho, hd⟩ := I.cell x c e
    exact free c o (fun z => (hch c z).2.2.1 x c e rfl) ho (I.freeC x c e)
  · obtain ⟨e, n, ne, nf, d⟩ := I.pin p hp
    have nch : p.1 ∉ ch := fun z => (hch p.1 z).2.2.2 p hp rfl
    exact ⟨keep p.1 p.2 ne nf nch e n, free p.1 p.2 nch e n, ne, nf, d⟩
theorem Inv.un {t' : Nat} (I : Inv X pins Z H s) (u : Un X.fs [] H H' s.heap h') (hok : HOk X.prog X.w H' h') : Inv X pins Z H' { s with heap := h', toks := t' } := by
  obtain ⟨m, ⟨o, es, ep, ho, r⟩, _⟩ := id I.loc
  obtain ⟨sl, hL⟩ := u.any ho I.free (by simp)
  exact I.step (g' := s.gens) (d' := s.drawn) (ch := []) (fun _ z => nomatch z) (fun b o _ hb _ e n => u.keep b o e n hb (by simp)) (fun b o _ hb _ e n => u.slot b o e n hb (by simp)) (fun b o _ e n => u.free b o e n (by simp)) (fun b o _ e => u.there b o e (by simp)) u.tups u.frzs u.tbls (fun m' hm => by
    obtain ⟨o', es', ep', ho', r'⟩ := hm
    rw [ho] at ho'; cases ho'
    exact ⟨_, es', ep', hL, r'⟩) hok I.bare
theorem Inv.call {g' : Array GenState} {t' : Nat} {d' : Drawn} {ch : List Addr} (I : Inv X pins Z H s) (u : Un (frs X.stack) ch H H' s.heap h') (hok : HOk X.prog X.w H' h') (hg : AllBare g')
    (hch : ∀ b ∈ ch, (b ∈ X.ex \/ X.s₀.heap.objs.size <= b) /\ b ≠ X.env.locals /\ (∀ x c, X.env.cells.lookup x = some c -> c ≠ b) /\ ∀ p ∈ X.pn ++ pins, p.1 ≠ b) :
    Inv X pins Z H' { s with heap := h', gens := g', drawn := d', toks := t' } := by
  obtain ⟨m, ⟨o, es, ep, ho, r⟩, _⟩ := id I.loc
  obtain ⟨sl, hL⟩ := u.any ho I.free fun z => (hch _ z).2.1 rfl
  exact I.step (ch := ch) hch (fun b o hL hb hc e n => u.keep b o e n (fun z => (xap.mp (I.stkSub b z)).elim hL hb) hc) (fun b o _ _ hc e n => u.any e n hc) (fun b o hc e n => u.free b o e n hc) (fun b o hc e => u.there b o e hc) u.tups u.frzs u.tbls (fun m' hm => by
    obtain ⟨o', es', ep', ho', r'⟩ := hm
    rw [ho] at ho'; cases ho'
    exact ⟨_, es', ep', hL, r'⟩) hok hg
theorem Inv.turned {t' : Nat} {it : Addr} (I : Inv X pins Z H s) (k : ∀ b o, b ≠ it -> s.heap.get? b = some o -> h'.get? b = some o) (hn : H it = none) (hL : it ≠ X.env.locals)
    (h1 : it ∈ X.ex \/ X.s₀.heap.objs.size <= it) (h2 : ∀ x c, X.env.cells.lookup x = some c -> c ≠ it) (h3 : ∀ p ∈ X.pn ++ pins, p.1 ≠ it) : Inv X pins Z H { s with heap := h', toks := t' } := by
  have nit : ∀ b u, H b = some u -> b ≠ it := fun b u e z => by rw [z, hn] at e; cases e
  refine I.step (g' := s.gens) (d' := s.drawn) (ch := [it]) (fun b hb => ?_) (fun b o _ _ hc e _ => k b o (fun z => hc (by simp [z])) e) (fun b o _ _ hc e _ => ⟨o.slots, k b o (fun z => hc (by simp [z])) e⟩) (fun _ _ _ _ n => n)
    (fun b o hc e => ⟨o, k b o (fun z => hc (by simp [z])) e⟩) (fun _ _ e => e) (fun _ _ _ e => e) (fun b ps e => ⟨#[], by rw [e]; simp⟩) (fun m hm => ?_) (fun b u e => ?_) I.bare
  · have e : b = it := by simpa using hb
    subst e
    exact ⟨h1, hL, h2, h3⟩
  · obtain ⟨o, es, ep, ho, r⟩ := hm
    exact ⟨o, es, ep, k _ o (xas hL) ho, r⟩
  · refine (I.hok b u e).stay (fun c v hc q => k c v ?_ q) (fun _ q => q) fun _ _ q => q
    rcases hc with z | z
    · rw [z]; exact nit b u e
    · exact nit c _ z
theorem Inv.tok (I : Inv X pins Z H s) (t : Nat) : Inv X pins Z H { s with toks := t } := I.un (h' := s.heap) (t' := t) Un.refl I.hok
theorem Inv.kept {t' : Nat} (I : Inv X pins Z H s) (k : ∀ b u, s.heap.get? b = some u -> h'.get? b = some u) : Inv X pins Z H { s with heap := h', toks := t' } := I.un (Un.kept k) (I.hok.kept k)
theorem Inv.laid {a : Addr} {o : HO} {t' : Nat} (I : Inv X pins Z H s) (k : ∀ b u, s.heap.get? b = some u -> h'.get? b = some u) (hp : s.heap.objs.size <= a) (new : ObjOk X.prog X.w (upd H a o) h' a o) :
    Inv X pins Z (upd H a o) { s with heap := h', toks := t' } := I.un (Un.laid k hp (I.hok.fresh hp)) (I.hok.laid k hp new)
theorem Inv.write {x e : Addr} {o : HO} {t' : Nat} (I : Inv X pins Z H s) (mu : Mut (H x)) (he : e = x \/ H e = some (.own x)) (k : ∀ b u, b ≠ e -> s.heap.get? b = some u -> h'.get? b = some u) (heo : ∃ u, h'.get? e = some u)
    (new : ObjOk X.prog X.w (upd H x o) h' x o) : Inv X pins Z (upd H x o) { s with heap := h', toks := t' } := I.un (Un.write mu he k heo) (I.hok.write mu he k heo new)
theorem Inv.weak {Z' : List (Option V)} (I : Inv X pins Z H s) (hl : Z'.length = Z.length) (w : ∀ (i : Nat) v, Z'[i]? = some (some v) -> Z[i]? = some (some v)) : Inv X pins Z' H s :=
  ⟨I.ok, I.os, I.bare, I.base, let ⟨m, hn, hl'⟩ := I.loc; ⟨m, hn, fun i x v e1 e2 e3 => hl' i x v e1 (w i v e2) e3⟩, I.cell, I.free, I.freeC, I.pin, I.hok, hl.trans I.len⟩
theorem Inv.pins_of {pins' : List (Addr × Obj)} (I : Inv X pins Z H s) (h : ∀ p ∈ pins', s.heap.get? p.1 = some p.2 /\ H p.1 = none /\ p.1 ≠ X.env.locals /\ p.1 ∉ X.fs /\ ∀ v, p.2.data ≠ .cell v) : Inv X pins' Z H s :=
  ⟨I.ok, I.os, I.bare, I.base, I.loc, I.cell, I.free, I.freeC, fun p hp => (xbe.mp hp).elim (fun z => I.pin p (List.mem_append_left _ z)) (h p), I.hok, I.len⟩
theorem nodup_ix {N : List Str} (hN : N.Nodup) {i j : Nat} {x : Str} (a : N[i]? = some x) (b : N[j]? = some x) : i = j := by
  obtain ⟨h1, e1⟩ := xae.mp a
  obtain ⟨h2, e2⟩ := xae.mp b
  exact (List.getElem_inj hN).mp (e1.trans e2.symm)
theorem store_ok2 {M : Model} {A : Around} {E : Value -> Shared -> Prop} {i : Nat} {x : Str} {v : V} {u : Value} {Q : Unit -> Shared -> Prop} (I : Inv X pins Z H s) (hN : X.N.Nodup) (hi : X.N[i]? = some x) (hx : Loc X.env.scope x) (r : RelV v u)
    (h : ∀ s', Inv X pins (Z.set i (some v)) H s' -> (∃ a, Heap.SameBut a s.heap s'.heap /\ (a = X.env.locals \/ X.env.cells.lookup x = some a)) -> Q () s') (hf : X.fn x = true \/ X.env.scope.names.lookup x = some .local := by first | exact .inl rfl | exact .inr rfl | assumption) : wpAny M A (storeName X.env x u) Q E s := by
  obtain ⟨m, hn, hl⟩ := id I.loc
  have hcls : (X.env.scope.kind == .class || (X.env.scope.kind == .module && X.env.locals != X.env.globals)) = false := by rw [I.ok.kind]; rfl
  have hiZ : i < Z.length := by rw [I.len]; exact (xae.mp hi).1
  have cne := I.cne
  have tracked : ∀ {a : Addr} {h' : Heap}, (∃ o, s.heap.get? a = some o /\ H a = none) -> Heap.SameBut a s.heap h' -> HOk X.prog X.w H h' := fun {a h'} ha hs b ob e => by
    obtain ⟨_, _, hfree⟩ := ha
    refine (I.hok b ob e).stay (fun c w' hc q => (hs.2 c ?_).trans q) (fun _ q => q) fun _ _ q => q
    rintro rfl
    rcases hc with rfl | hc
    · rw [hfree] at e; cases e
    · rw [hfree] at hc; cases hc
  rcases hx with hk | hk
  · refine wpAny_storeName_local hk hn (fun h' hn' hs => ?_) hcls
    obtain ⟨oL, _, _, hoL, _⟩ := id hn
    refine h _ ⟨I.ok, I.os, I.bare, ⟨fun b o e n hb hx => ?_, fun b o e n hb hx => ?_, I.base.free, fun b o e hx => ?_, I.base.tups, I.base.frzs, I.base.tbls⟩, ⟨_, hn', fun j y v' e1 e2 e3 => ?_⟩, fun y c e => ?_, I.free, I.freeC, fun p hp => ?_, tracked ⟨oL, hoL, I.free⟩ hs, by simpa using I.len⟩ ⟨_, hs, .inl rfl⟩
    · exact (hs.2 b (xax (xaj (xag e) I.ok.above))).trans (I.base.keep b o e n hb hx)
    · obtain ⟨sl, e1⟩ := I.base.slot b o e n hb hx
      exact ⟨sl, (hs.2 b (xax (xaj (xag e) I.ok.above))).trans e1⟩
    · obtain ⟨o', e1⟩ := I.base.there b o e hx
      exact ⟨o', (hs.2 b (xax (xaj (xag e) I.ok.above))).trans e1⟩
    · by_cases hj : j = i
      · subst hj
        rw [hi] at e1; cases e1
        rw [xal hiZ] at e2
        cases e2
        exact ⟨u, r, .inl ⟨hk, by simp⟩⟩
      · rw [xaa (xas hj)] at e2
        obtain ⟨u', r', q⟩ := hl j y v' e1 e2 e3
        refine ⟨u', r', ?_⟩
        rcases q with ⟨k, e⟩ | ⟨k, c, e, z⟩
        · refine .inl ⟨k, ?_⟩
          have : y ≠ x := fun e => hj (nodup_ix hN e1 (e ▸ hi))
          simp [this, e]
        · exact .inr ⟨k, c, e, z.sameBut hs (cne y c e)⟩
    · obtain ⟨w', z⟩ := I.cell y c e
      exact ⟨w', z.sameBut hs (cne y c e)⟩
    · obtain ⟨e, n, ne, nf, d⟩ := I.pin p hp
      exact ⟨(hs.2 p.1 ne).trans e, n, ne, nf, d⟩
  · have hfn : X.fn x = true := by
      rcases hf with z | z
      · exact z
      · rw [z] at hk; cases hk
    obtain ⟨c, hc⟩ := I.ok.has x (.inl hk)
    obtain ⟨w', z⟩ := I.cell x c hc
    refine wpAny_storeName_cell I.ok.kind hk hc z (fun h' hc' hs => ?_)
    obtain ⟨oc, hoc, hocd⟩ := id z
    refine h { s with heap := h' } ⟨I.ok, I.os, I.bare, ⟨fun b o e n hb hx => ?_, fun b o e n hb hx => ?_, I.base.free, fun b o e hx => ?_, I.base.tups, I.base.frzs, I.base.tbls⟩, ⟨m, hn.sameBut hs (xas (cne x c hc)), fun j y v' e1 e2 e3 => ?_⟩, fun y c' e => ?_, I.free, I.freeC, fun p hp => ?_, tracked ⟨oc, hoc, I.freeC x c hc⟩ hs, by simpa using I.len⟩ ⟨c, hs, .inr hc⟩
    · exact (hs.2 b (xax (xaj (xag e) (I.ok.cab x c hfn hc)))).trans (I.base.keep b o e n hb hx)
    · obtain ⟨sl, e1⟩ := I.base.slot b o e n hb hx
      exact ⟨sl, (hs.2 b (xax (xaj (xag e) (I.ok.cab x c hfn hc)))).trans e1⟩
    · obtain ⟨o', e1⟩ := I.base.there b o e hx
      exact ⟨o', (hs.2 b (xax (xaj (xag e) (I.ok.cab x c hfn hc)))).trans e1⟩
    · by_cases hj : j = i
      · subst hj
        rw [hi] at e1; cases e1
        rw [xal hiZ] at e2
        cases e2
        exact ⟨u, r, .inr ⟨.inl hk, c, hc, hc'⟩⟩
      · rw [xaa (xas hj)] at e2
        obtain ⟨u', r', q⟩ := hl j y v' e1 e2 e3
        refine ⟨u', r', ?_⟩
        rcases q with q | ⟨k, c', e, z'⟩
        · exact .inl q
        · refine .inr ⟨k, c', e, z'.sameBut hs ?_⟩
          rintro rfl
          exact hj (nodup_ix hN e1 (I.ok.inj _ _ _ e hc ▸ hi))
    · by_cases hcc : c' = c
      · subst hcc; exact ⟨_, hc'⟩
      · obtain ⟨w2, z2⟩ := I.cell y c' e
        exact ⟨w2, z2.sameBut hs hcc⟩
    · obtain ⟨e, n, ne, nf, d⟩ := I.pin p hp
      refine ⟨(hs.2 p.1 ?_).trans e, n, ne, nf, d⟩
      intro q
      rw [q, hoc] at e
      have q' : oc = p.2 := Option.some.inj e
      exact d w' (by rw [<- q']; exact hocd)
theorem store_ok {M : Model} {A : Around} {E : Value -> Shared -> Prop} {i : Nat} {x : Str} {v : V} {u : Value} {Q : Unit -> Shared -> Prop} (I : Inv X pins Z H s) (hN : X.N.Nodup) (hi : X.N[i]? = some x) (hx : Loc X.env.scope x) (r : RelV v u)
    (h : ∀ s', Inv X pins (Z.set i (some v)) H s' -> Q () s') (hf : X.fn x = true \/ X.env.scope.names.lookup x = some .local := by first | exact .inl rfl | exact .inr rfl | assumption) : wpAny M A (storeName X.env x u) Q E s :=
  store_ok2 I hN hi hx r (fun s' I' _ => h s' I') hf
theorem Inv.call' {s' : Shared} {ch : List Addr} (I : Inv X pins Z H s) (ho : s'.os = s.os) (u : Un (frs X.stack) ch H H' s.heap s'.heap) (hok : HOk X.prog X.w H' s'.heap) (hg : AllBare s'.gens)
    (hch : ∀ b ∈ ch, (b ∈ X.ex \/ X.s₀.heap.objs.size <= b) /\ b ≠ X.env.locals /\ (∀ x c, X.env.cells.lookup x = some c -> c ≠ b) /\ ∀ p ∈ X.pn ++ pins, p.1 ≠ b) : Inv X pins Z H' s' := by
  obtain ⟨h', g', d', t', o'⟩ := s'
  have e : o' = s.os := ho
  subst e
  exact I.call (g' := g') (t' := t') (d' := d') u hok hg hch
end
abbrev XK := Value -> Option Addr -> Hp -> Prop
abbrev St := List (Option V)
abbrev VK := V -> Hp -> Prop
abbrev TE := St -> Hp -> VK -> Prop
abbrev TT := St -> Hp -> (Bool -> Hp -> Prop) -> Prop
abbrev TA := St -> Hp -> (List V -> Hp -> Prop) -> Prop
structure Ends where
  nx : St -> Hp -> Prop
  rt : VK
  bk : St -> Hp -> Prop := fun _ _ => False
  ct : St -> Hp -> Prop := fun _ _ => False
abbrev TS := Ends -> St -> Hp -> Prop
def EP (X : Cx) (pins : List (Addr × Obj)) (Z : St) (Q : VK) (u : Value) (s' : Shared) : Prop := ∃ v H', Inv X pins Z H' s' /\ RelV v u /\ Q v H'
def TP (X : Cx) (pins : List (Addr × Obj)) (Z : St) (Q : Bool -> Hp -> Prop) (b : Bool) (s' : Shared) : Prop := ∃ H', Inv X pins Z H' s' /\ Q b H'
def AP (X : Cx) (pins : List (Addr × Obj)) (Z : St) (Q : List V -> Hp -> Prop) (us : List Value) (s' : Shared) : Prop := ∃ vs H', Inv X pins Z H' s' /\ Vals vs us /\ Q vs H'
def SP (X : Cx) (pins : List (Addr × Obj)) (D : Ends) (f : Flow) (s' : Shared) : Prop :=
  match f with
  | .next => ∃ Z' H', Inv X pins Z' H' s' /\ D.nx Z' H'
  | .brk => ∃ Z' H', Inv X pins Z' H' s' /\ D.bk Z' H'
  | .cont => ∃ Z' H', Inv X pins Z' H' s' /\ D.ct Z' H'
  | .ret u => ∃ v Z' H', Inv X pins Z' H' s' /\ RelV v u /\ D.rt v H'
def PE (X : Cx) (e : Expr) (t : TE) : Prop :=
  ∀ (pins : List (Addr × Obj)) (s : Shared) (Z : St) (H : Hp) (Q : VK), Inv X pins Z H s -> t Z H Q -> wpAny (model X.prog X.w) X.A (eval e X.env) (EP X pins Z Q) X.xe s
def PT (X : Cx) (e : Expr) (t : TT) : Prop :=
  ∀ (pins : List (Addr × Obj)) (s : Shared) (Z : St) (H : Hp) (Q : Bool -> Hp -> Prop), Inv X pins Z H s -> t Z H Q -> wpAny (model X.prog X.w) X.A (isTrue e X.env (eval e X.env)) (TP X pins Z Q) X.xe s
def PW (X : Cx) (e : Expr) (t : TT) : Prop :=
  ∀ (whole : Sem Value) (pins : List (Addr × Obj)) (s : Shared) (Z : St) (H : Hp) (Q : Bool -> Hp -> Prop), Inv X pins Z H s -> t Z H Q -> wpAny (model X.prog X.w) X.A (isTrue e X.env whole) (TP X pins Z Q) X.xe s
def PA (X : Cx) (es : List Expr) (t : TA) : Prop :=
  ∀ (pos : Pos) (pins : List (Addr × Obj)) (s : Shared) (Z : St) (H : Hp) (Q : List V -> Hp -> Prop), Inv X pins Z H s -> t Z H Q -> wpAny (model X.prog X.w) X.A (spliced (backTo pos (starEach es X.env))) (AP X pins Z Q) X.xe s
def PS (X : Cx) (st : Stmt) (t : TS) : Prop :=
  ∀ (pins : List (Addr × Obj)) (s : Shared) (Z : St) (H : Hp) (D : Ends), Inv X pins Z H s -> t D Z H -> wpAny (model X.prog X.w) X.A (exec st X.env) (SP X pins D) X.xe s
def PSs (X : Cx) (st : List Stmt) (t : TS) : Prop :=
  ∀ (pins : List (Addr × Obj)) (s : Shared) (Z : St) (H : Hp) (D : Ends), Inv X pins Z H s -> t D Z H -> wpAny (model X.prog X.w) X.A (execs st X.env) (SP X pins D) X.xe s
theorem thn {α : Type} {t : Sem α} {Q Q' : α -> Shared -> Prop} {M : Model} {A : Around} {E : Value -> Shared -> Prop} {s : Shared} (h : wpAny M A t Q E s) (hQ : ∀ a s, Q a s -> Q' a s) : wpAny M A t Q' E s := wpAny_mono h hQ fun _ _ x => x
end L2
namespace L2
open PySem.Spec PyProof.Rows
section
variable {X : Cx}
theorem bin {a b : Expr} {ta tb : TE} (ha : PE X a ta) (hb : PE X b tb) {pins : List (Addr × Obj)} {s : Shared} {Z : St} {H : Hp} {R : V -> V -> Hp -> Prop} (I : Inv X pins Z H s) (h : ta Z H fun x H1 => tb Z H1 fun y H2 => R x y H2)
    {α : Type} {Q : α -> Shared -> Prop} {f : Value -> Value -> Sem α}
    (hf : ∀ v u s2 x y H2, Inv X pins Z H2 s2 -> RelV x v -> RelV y u -> R x y H2 -> wpAny (model X.prog X.w) X.A (f v u) Q X.xe s2) :
    wpAny (model X.prog X.w) X.A (eval a X.env) (fun v s₁ => wpAny (model X.prog X.w) X.A (eval b X.env) (fun u s₂ => wpAny (model X.prog X.w) X.A (f v u) Q X.xe s₂) X.xe s₁) X.xe s := by
  refine thn (ha pins s Z H _ I h) fun v s1 ⟨x, H1, I1, r1, q1⟩ => ?_
  refine thn (hb pins s1 Z H1 _ I1 q1) fun u s2 ⟨y, H2, I2, r2, q2⟩ => ?_
  exact hf v u s2 x y H2 I2 r1 r2 q2
def tVar (i : Nat) : TE := fun Z H Q => ∃ v, Z[i]? = some (some v) /\ Q v H
def tC (v : V) : TE := fun _ H Q => Q v H
theorem pe_var {i : Nat} {x : Str} {pos : Pos} (hN : X.N[i]? = some x) (hv : Vis X.env.scope x) (hd : (x == ("__debug__" : Str)) = false := by decide) (hcd : (x == ("__classdict__" : Str)) = false := by decide) : PE X (.Name x pos) (tVar i) := by
  intro pins s Z H Q I h
  obtain ⟨v, e, h⟩ := h
  obtain ⟨m, hn, hl⟩ := I.loc
  obtain ⟨u, r, l⟩ := hl i x v hN e hv
  have fin : EP X pins Z Q u s := ⟨v, H, I, r, h⟩
  rcases l with ⟨hk, hm⟩ | ⟨hk, c, hc, hcell⟩
  · exact wpAny_Name (wpAny_loadName_local I.ok.kind hk hn hm fin) hd
  · rcases hk with hk | hk
    · exact wpAny_Name (wpAny_loadName_cell I.ok.kind hk hc hcell fin) hd
    · exact wpAny_Name (wpAny_loadName_free I.ok.kind hk hc hcell fin hcd) hd
theorem pe_int {i j pos} : PE X (.Constant (.int i) j pos) (tC (.int i)) := fun _ _ _ H _ I h => wpAny_Constant_int ⟨.int i, H, I.tok _, ⟨_, rfl⟩, h⟩
theorem pe_bl {b j pos} : PE X (.Constant (.bool b) j pos) (tC (.bl b)) := fun _ _ _ H _ I h => Constant_bool ⟨.bl b, H, I, rfl, h⟩
theorem pe_non {j pos} : PE X (.Constant .none j pos) (tC .non) := fun _ _ _ H _ I h => Constant_none ⟨.non, H, I, rfl, h⟩
theorem pe_str {x j pos} : PE X (.Constant (.str x) j pos) (tC (.str x)) := fun _ _ _ H _ I h => Calls.Constant_str ⟨.str x, H, I.tok _, ⟨_, rfl⟩, h⟩
def Gl (X : Cx) (x : Str) : Prop := X.env.kindOf x = some .globalImplicit
theorem ld_glob {E : Value -> Shared -> Prop} {pins : List (Addr × Obj)} {s : Shared} {Z : St} {H : Hp} {x : Str} {u : Value} {pos : Pos} {Q : Value -> Shared -> Prop} (I : Inv X pins Z H s) (hg : Gl X x) (hm : X.mg x = some u) (h : Q u s)
    (hd : (x == ("__debug__" : Str)) = false := by decide) : wpAny (model X.prog X.w) X.A (eval (.Name x pos) X.env) Q E s :=
  Calls.Name_function_global I.ok.kind hg (Calls.loadGlobal_global (by rw [I.ok.glob]; exact I.mod.glob.keeps I.bk) hm h) hd
theorem ld_blt {E : Value -> Shared -> Prop} {pins : List (Addr × Obj)} {s : Shared} {Z : St} {H : Hp} {x : Str} {u : Value} {pos : Pos} {Q : Value -> Shared -> Prop} (I : Inv X pins Z H s) (hg : Gl X x) (hm : X.mg x = none) (hv : bootBuiltins x = some u) (h : Q u s)
    (hn : x ≠ "__name__" := by decide) (hd : (x == ("__debug__" : Str)) = false := by decide) : wpAny (model X.prog X.w) X.A (eval (.Name x pos) X.env) Q E s := by
  obtain ⟨mb, h1, h2⟩ := I.mod.blt
  exact Calls.Name_function_global I.ok.kind hg (Calls.loadGlobal_builtin (by rw [I.ok.glob]; exact I.mod.glob.keeps I.bk) hm (by rw [I.ok.blt]; exact h1.keeps I.bk) ((h2 x hn).trans hv) h) hd
theorem pe_glob {x : Str} {v : V} {u : Value} {pos : Pos} (hg : Gl X x) (hm : X.mg x = some u) (r : RelV v u) (hd : (x == ("__debug__" : Str)) = false := by decide) : PE X (.Name x pos) (tC v) :=
  fun _ _ _ H _ I h => ld_glob I hg hm ⟨v, H, I, r, h⟩ hd
theorem pe_bltn {x : Str} {v : V} {u : Value} {pos : Pos} (hg : Gl X x) (hm : X.mg x = none) (hv : bootBuiltins x = some u) (r : RelV v u) (hn : x ≠ "__name__" := by decide) (hd : (x == ("__debug__" : Str)) = false := by decide) : PE X (.Name x pos) (tC v) :=
  fun _ _ _ H _ I h => ld_blt I hg hm hv ⟨v, H, I, r, h⟩ hn hd
variable {a b : Expr} {ta tb : TE} {pos : Pos}
def PC (X : Cx) (op : CmpOp) (a b : Expr) (t : TE) : Prop :=
  ∀ (pins : List (Addr × Obj)) (s : Shared) (Z : St) (H : Hp) (Q : VK), Inv X pins Z H s -> t Z H Q ->
    wpAny (model X.prog X.w) X.A (eval a X.env) (fun v s₁ => wpAny (model X.prog X.w) X.A (eval b X.env) (fun u s₂ => wpAny (model X.prog X.w) X.A (compareOp op v u) (EP X pins Z Q) X.xe s₂) X.xe s₁) X.xe s
theorem nobehind (b : Expr) {op : CmpOp} (h : op ≠ .In) (h2 : op ≠ .NotIn) : behindInMarks op b = false := by
  have e1 : (op == CmpOp.In) = false := by cases op <;> first | rfl | exact absurd rfl h
  have e2 : (op == CmpOp.NotIn) = false := by cases op <;> first | rfl | exact absurd rfl h2
  cases b <;> simp [behindInMarks, e1, e2]
def tB (t : TE) : TT := fun Z H Q => t Z H fun x H1 => ∃ c, x = .bl c /\ Q c H1
theorem pt_cmp {op : CmpOp} {t : TE} (h : PC X op a b t) (h1 : behindInMarks op b = false := by first | exact nobehind _ (by decide) (by decide) | rfl) : PT X (.Compare a [op] [b] pos) (tB t) := by
  intro pins s Z H Q I hw
  refine wpAny_isTrue_Compare1 (thn (h pins s Z H _ I hw) fun v s1 h1 => thn h1 fun u s2 h2 => thn h2 fun c s3 ⟨x, H1, I1, r1, q1⟩ => ?_) h1
  obtain ⟨d, rfl, q⟩ := q1
  cases r1
  exact wpAny_truthy_bool ⟨H1, I1, q⟩
theorem pt_val {e : Expr} {t : TE} (h : PE X e t) (he : ∀ whole, isTrue e X.env whole = (do let v <- whole; standAt e.pos; holding [v] (truthy v)) := by intro _; rfl) : PT X e (tB t) := by
  intro pins s Z H Q I hw
  refine isTrue_plain (thn (h pins s Z H _ I hw) fun v s1 ⟨x, H1, I1, r1, q1⟩ => ?_) (he _)
  obtain ⟨d, rfl, q⟩ := q1
  cases r1
  exact wpAny_truthy_bool ⟨H1, I1, q⟩
variable {tA tB' : TT} {rest : List Expr}
def tAnd (t u : TT) : TT := fun Z H Q => t Z H fun c H1 => if c = true then u Z H1 Q else Q false H1
def tOr (t u : TT) : TT := fun Z H Q => t Z H fun c H1 => if c = true then Q true H1 else u Z H1 Q
def tNot (t : TT) : TT := fun Z H Q => t Z H fun c H1 => Q (!c) H1
theorem pw_and1 (ha : PT X a tA) : PW X (.BoolOp .And [a] pos) tA := by
  intro wh pins s Z H Q I h
  refine isTrue_and (thn (ha pins s Z H Q I h) fun c s1 e => ?_)
  cases c with
  | true => exact isTrue_and_nil e
  | false => exact e
theorem pw_or1 (ha : PT X a tA) : PW X (.BoolOp .Or [a] pos) tA := by
  intro wh pins s Z H Q I h
  refine isTrue_or (thn (ha pins s Z H Q I h) fun c s1 e => ?_)
  cases c with
  | false => exact isTrue_or_nil e
  | true => exact e
theorem pw_and (ha : PT X a tA) (hb : PW X (.BoolOp .And (b :: rest) pos) tB') : PW X (.BoolOp .And (a :: b :: rest) pos) (tAnd tA tB') := by
  intro wh pins s Z H Q I h
  refine isTrue_and (thn (ha pins s Z H _ I h) fun c s1 ⟨H1, I1, q1⟩ => ?_)
  cases c with
  | true => exact hb wh pins s1 Z H1 Q I1 q1
  | false => exact ⟨H1, I1, q1⟩
theorem pw_or (ha : PT X a tA) (hb : PW X (.BoolOp .Or (b :: rest) pos) tB') : PW X (.BoolOp .Or (a :: b :: rest) pos) (tOr tA tB') := by
  intro wh pins s Z H Q I h
  refine isTrue_or (thn (ha pins s Z H _ I h) fun c s1 ⟨H1, I1, q1⟩ => ?_)
  cases c with
  | true => exact ⟨H1, I1, q1⟩
  | false => exact hb wh pins s1 Z H1 Q I1 q1
theorem pt_not (ha : PT X a tA) : PT X (.UnaryOp .Not a pos) (tNot tA) := by
  intro pins s Z H Q I h
  exact isTrue_not (ha pins s Z H (fun c H1 => Q (!c) H1) I h)
def tAndV (ta tb : TE) : TE := fun Z H Q => ta Z H fun x H1 => ∃ c, x = .bl c /\ if c = true then tb Z H1 Q else Q (.bl false) H1
def tNotV (ta : TE) : TE := fun Z H Q => ta Z H fun x H1 => ∃ c, x = .bl c /\ Q (.bl (!c)) H1
theorem pe_one {op} {t : TE} (h : PE X a t) : PE X (.BoolOp op [a] pos) t := fun pins s Z H Q I hw => BoolOp_one (h pins s Z H Q I hw)
theorem pe_and (ha : PE X a ta) (hb : PE X (.BoolOp .And (b :: rest) pos) tb) : PE X (.BoolOp .And (a :: b :: rest) pos) (tAndV ta tb) := by
  intro pins s Z H Q I h
  refine BoolOp_and (thn (ha pins s Z H _ I h) fun v s1 ⟨x, H1, I1, r1, q1⟩ => ?_)
  obtain ⟨c, rfl, q1⟩ := q1
  cases r1
  refine wpAny_truthy_bool ?_
  cases c with
  | true => exact hb pins s1 Z H1 Q I1 q1
  | false => exact ⟨.bl false, H1, I1, rfl, q1⟩
theorem pe_not (ha : PE X a ta) : PE X (.UnaryOp .Not a pos) (tNotV ta) := by
  intro pins s Z H Q I h
  refine UnaryOp_ (thn (ha pins s Z H _ I h) fun v s1 ⟨x, H1, I1, r1, q1⟩ => ?_)
  obtain ⟨c, rfl, q1⟩ := q1
  cases r1
  exact not_of (wpAny_truthy_bool ⟨.bl (!c), H1, I1, rfl, q1⟩)
end
end L2
namespace L2
open PySem.Spec PyProof.Rows
def SqL (K : xFg) (H : Hp) (a : Addr) (xs : List V) : Prop :=
  Rd H a (.lst xs) \/
    ∃ (o : Obj) (its : Array Value) (n : Nat), K.lookup a = some o /\ o.cls = .type "list" /\ o.dict = none /\ o.data = .seq its n /\ its.size <= sizeLine /\ Vals xs its.toList
def SqT (K : xFg) (H : Hp) (a : Addr) (xs : List V) : Prop :=
  Rd H a (.tup xs) \/
    ∃ (o : Obj) (its : Array Value) (n : Nat), K.lookup a = some o /\ o.cls = .type "tuple" /\ o.data = .seq its n /\ its.size <= sizeLine /\ Vals xs its.toList
def absV : Value -> Option V
  | .none => some .non
  | .bool b => some (.bl b)
  | .int i _ => some (.int i)
  | .str x _ => some (.str x)
  | .bytes b _ => some (.byt b)
  | .float b _ => some (.flt b)
  | .ref a => some (.ref a)
  | .type n => some (.ty n)
  | _ => none
theorem RelV.abs {x : V} {u : Value} (r : RelV x u) : absV u = some x := by
  cases x with
  | non => cases r; rfl
  | bl _ => cases r; rfl
  | int _ => obtain ⟨t, rfl⟩ := r; rfl
  | str _ => obtain ⟨t, rfl⟩ := r; rfl
  | byt _ => obtain ⟨t, rfl⟩ := r; rfl
  | flt _ => obtain ⟨t, rfl⟩ := r; rfl
  | ref _ => cases r; rfl
  | ty _ => cases r; rfl
theorem RelV.inj {x y : V} {u : Value} (r : RelV x u) (q : RelV y u) : x = y := Option.some.inj (r.abs.symm.trans q.abs)
theorem Vals.inj : ∀ {xs ys : List V} {us : List Value}, Vals xs us -> Vals ys us -> xs = ys
  | _, _, _, .nil, .nil => rfl
  | _, _, _, .cons r t, .cons r' t' => by rw [r.inj r', Vals.inj t t']
section
variable {X : Cx} {pins : List (Addr × Obj)} {Z : St} {H : Hp} {s : Shared} {a : Addr} {xs ys : List V}
theorem SqL.of {K : xFg} (h : H a = some (.lst xs)) : SqL K H a xs := .inl (.inl h)
theorem SqT.of {K : xFg} (h : H a = some (.tup xs)) : SqT K H a xs := .inl (.inl h)
theorem Inv.list (I : Inv X pins Z H s) (h : SqL X.K H a xs) : ∃ its : List Value, Vals xs its /\ PlainL s.heap a its.toArray /\ xs.length <= sizeLine := by
  rcases h with h | ⟨o, its, n, hk, hc, hd, hs, hz, r⟩
  · obtain ⟨z, its, n, r, e⟩ := h.ok I.hok
    exact ⟨its, r, ⟨_, n, e, rfl, rfl, rfl⟩, z⟩
  · refine ⟨its.toList, r, ⟨o, n, I.kIn a o hk, hc, hd, by simpa using hs⟩, ?_⟩
    have e := r.length
    simp only [xar] at e
    omega
theorem Inv.tuple (I : Inv X pins Z H s) (h : SqT X.K H a xs) : ∃ its : List Value, Vals xs its /\ IsTup s.heap a its.toArray /\ xs.length <= sizeLine := by
  rcases h with h | ⟨o, its, n, hk, hc, hs, hz, r⟩
  · obtain ⟨z, its, r, p⟩ := h.ok I.hok
    exact ⟨its, r, p, z⟩
  · refine ⟨its.toList, r, ⟨o, I.kIn a o hk, hc, n, by simpa using hs⟩, ?_⟩
    have e := r.length
    simp only [xar] at e
    omega
theorem Inv.list_inj (I : Inv X pins Z H s) (h : SqL X.K H a xs) (h' : SqL X.K H a ys) : xs = ys := by
  obtain ⟨its, r, ⟨o, n, e, _, _, d⟩, _⟩ := I.list h
  obtain ⟨its', r', ⟨o', n', e', _, _, d'⟩, _⟩ := I.list h'
  rw [e] at e'; cases e'
  rw [d] at d'
  injection d' with d1 _
  have : its = its' := by simpa using congrArg Array.toList d1
  subst this
  exact r.inj r'
theorem Inv.tuple_inj (I : Inv X pins Z H s) (h : SqT X.K H a xs) (h' : SqT X.K H a ys) : xs = ys := by
  obtain ⟨its, r, ⟨o, e, _, n, d⟩, _⟩ := I.tuple h
  obtain ⟨its', r', ⟨o', e', _, n', d'⟩, _⟩ := I.tuple h'
  rw [e] at e'; cases e'
  rw [d] at d'
  injection d' with d1 _
  have : its = its' := by simpa using congrArg Array.toList d1
  subst this
  exact r.inj r'
end
section
variable {X : Cx} {pins : List (Addr × Obj)} {Z : St} {H : Hp} {s : Shared} {E : Value -> Shared -> Prop}
end
section
variable {X : Cx} {st : Stmt} {rest : List Stmt} {t u : TS} {e : Expr} {te : TE} {pos : Pos}
def tNext : TS := fun D Z H => D.nx Z H
def tSeq (t u : TS) : TS := fun D Z H => t { D with nx := u D } Z H
theorem pss_nil : PSs X [] tNext := fun _ _ Z H _ I h => wpAny_execs_nil ⟨Z, H, I, h⟩
theorem pss_cons (h1 : PS X st t) (h2 : PSs X rest u) : PSs X (st :: rest) (tSeq t u) := by
  intro pins s Z H D I h
  refine wpAny_execs_cons (thn (h1 pins s Z H { D with nx := u D } I h) fun f s1 q => ?_)
  cases f with
  | next =>
    obtain ⟨Z', H', I', q⟩ := q
    exact h2 pins s1 Z' H' D I' q
  | ret v => exact q
  | brk => exact q
  | cont => exact q
theorem pss_one (h1 : PS X st t) : PSs X [st] t := by
  intro pins s Z H D I h
  refine wpAny_execs_cons (thn (h1 pins s Z H D I h) fun f s1 q => ?_)
  cases f with
  | next => exact wpAny_execs_nil q
  | ret v => exact q
  | brk => exact q
  | cont => exact q
theorem Inv.quiet {pins : List (Addr × Obj)} {Z : St} {H : Hp} {s : Shared} (I : Inv X pins Z H s) : interactive X.env = false := by simp [interactive, I.ok.kind]
def tDrop (te : TE) : TS := fun D Z H => te Z H fun _ H1 => D.nx Z H1
theorem ps_expr (he : PE X e te) (hs : swapsWith e none pos.line X.env = pure false := by rfl) : PS X (.Expr e pos) (tDrop te) := by
  intro pins s Z H D I h
  exact wpAny_Expr_any (thn (he pins s Z H _ I h) fun v s1 ⟨x, H1, I1, r1, q1⟩ => ⟨Z, H1, I1, q1⟩) I.quiet hs
def tRet (te : TE) : TS := fun D Z H => te Z H D.rt
theorem ps_ret (he : PE X e te) : PS X (.Return (some e) pos) (tRet te) := by
  intro pins s Z H D I h
  exact wpAny_Return_some (thn (he pins s Z H _ I h) fun v s1 ⟨x, H1, I1, r1, q1⟩ => ⟨x, Z, H1, I1, r1, q1⟩)
def tIfS (c : TT) (t u : TS) : TS := fun D Z H => c Z H fun b H1 => if b = true then t D Z H1 else u D Z H1
theorem ps_if {c : Expr} {a b : List Stmt} {tc : TT} (hc : PT X c tc) (ha : PSs X a t) (hb : PSs X b u) : PS X (.If c a b pos) (tIfS tc t u) := by
  intro pins s Z H D I h
  refine wpAny_If (thn (hc pins s Z H _ I h) fun d s1 ⟨H1, I1, q1⟩ => ?_)
  cases d with
  | true => exact ha pins s1 Z H1 D I1 q1
  | false => exact hb pins s1 Z H1 D I1 q1
def tNever : TS := fun _ _ _ => False
theorem ps_never : PS X st tNever := fun _ _ _ _ _ _ h => h.elim
end
abbrev TG := V -> St -> Hp -> (St -> Hp -> Prop) -> Prop
abbrev TGs := List V -> St -> Hp -> (St -> Hp -> Prop) -> Prop
def PG (X : Cx) (target : Expr) (t : TG) : Prop :=
  ∀ (pins : List (Addr × Obj)) (s : Shared) (Z : St) (H : Hp) (v : V) (u : Value) (Q : St -> Hp -> Prop), Inv X pins Z H s -> RelV v u -> t v Z H Q ->
    wpAny (model X.prog X.w) X.A (assign target X.env u) (fun _ s' => ∃ Z' H', Inv X pins Z' H' s' /\ Q Z' H') X.xe s
def PGs (X : Cx) (ts : List Expr) (t : TGs) : Prop :=
  ∀ (pins : List (Addr × Obj)) (s : Shared) (Z : St) (H : Hp) (vs : List V) (us : List Value) (Q : St -> Hp -> Prop), Inv X pins Z H s -> Vals vs us -> t vs Z H Q ->
    wpAny (model X.prog X.w) X.A (assignInOrder ((assignEach ts X.env).map (·.2)) us) (fun _ s' => ∃ Z' H', Inv X pins Z' H' s' /\ Q Z' H') X.xe s
abbrev TSet := V -> V -> V -> Hp -> (Hp -> Prop) -> Prop
section
variable {X : Cx} {pos : Pos}
def gName (i : Nat) : TG := fun v Z H Q => Q (Z.set i (some v)) H
theorem pg_name {i : Nat} {x : Str} (hN : X.N.Nodup) (hi : X.N[i]? = some x) (hx : Loc X.env.scope x) (hf : X.fn x = true \/ X.env.scope.names.lookup x = some .local := by first | exact .inl rfl | exact .inr rfl | assumption) : PG X (.Name x pos) (gName i) := by
  intro pins s Z H v u Q I r h
  exact wpAny_assign_Name (store_ok I hN hi hx r (fun s' I' => ⟨_, H, I', h⟩) hf)
def gNil : TGs := fun vs Z H Q => vs = [] /\ Q Z H
def gCons (t : TG) (u : TGs) : TGs := fun vs Z H Q => ∃ v r, vs = v :: r /\ t v Z H fun Z' H' => u r Z' H' Q
theorem pgs_nil : PGs X [] gNil := by
  intro pins s Z H vs us Q I r h
  obtain ⟨e, h⟩ := h
  subst e
  cases r
  exact assignInOrder_nil ⟨Z, H, I, h⟩
theorem pgs_cons {e : Expr} {es : List Expr} {t : TG} {u : TGs} (h1 : PG X e t) (h2 : PGs X es u)
    (hs : (assignEach (e :: es) X.env).map (·.2) = assign e X.env :: (assignEach es X.env).map (·.2) := by rfl) : PGs X (e :: es) (gCons t u) := by
  intro pins s Z H vs us Q I r h
  obtain ⟨v, vr, e1, h⟩ := h
  subst e1
  cases r with
  | cons r rr =>
    rw [hs]
    refine assignInOrder_cons (thn (h1 pins s Z H _ _ _ I r h) fun _ s1 ⟨Z1, H1, I1, q1⟩ => ?_)
    exact h2 pins s1 Z1 H1 _ _ Q I1 rr q1
def gTup (K : xFg) (n : Nat) (t : TGs) : TG := fun v Z H Q => ∃ a xs, v = .ref a /\ SqT K H a xs /\ xs.length = n /\ t xs Z H Q
theorem pg_tup {es : List Expr} {k : Nat} {t : TGs} {n : Nat} (hc : X.calm = true) (h : PGs X es t)
    (hn : (assignEach es X.env).length = n := by rfl) (hst : (assignEach es X.env).findIdx? (·.1) = none := by rfl) : PG X (.Tuple es k pos) (gTup X.K n t) := by
  intro pins s Z H v u Q I r hw
  obtain ⟨a, xs, e1, hq, hl, hw⟩ := hw
  subst e1
  cases r
  obtain ⟨its, rv, ht, hz⟩ := I.tuple hq
  refine assign_Tuple_tuple (I.ok.hd hc) ht (by simp [hn, <- hl, rv.length]) hst fun h' hx => ?_
  have I1 : Inv X pins Z H { s with heap := h' } := I.kept (t' := s.toks) fun b o e => hx b o (xax (xag e)) e
  exact h pins _ Z H xs _ Q I1 (by simpa using rv) hw
def gSub (to ti : TE) (t : TSet) : TG := fun v Z H Q => to Z H fun o H1 => ti Z H1 fun i H2 => t o i v H2 fun H3 => Q Z H3
def tAsg (te : TE) (g : TG) : TS := fun D Z H => te Z H fun x H1 => g x Z H1 D.nx
theorem ps_asg {tg e : Expr} {te : TE} {g : TG} (he : PE X e te) (hg : PG X tg g) (hs : swapsWithSole [tg] e pos.line X.env = pure false := by rfl) (hw : swappedStores [tg] e X.env = pure none := by rfl)
    (h1 : (assignEach [tg] X.env).map (·.2) = [assign tg X.env] := by rfl) : PS X (.Assign [tg] e pos) (tAsg te g) := by
  intro pins s Z H D I h
  refine wpAny_Assign_stores (thn (he pins s Z H _ I h) fun v s1 ⟨x, H1, I1, r1, q1⟩ => ?_) hs hw
  rw [h1]
  exact thn (hg pins s1 Z H1 x v _ I1 r1 q1) fun _ s2 q => q
theorem ps_set {i : Nat} {x : Str} {e : Expr} {te : TE} {pos' : Pos} (hN : X.N.Nodup) (hi : X.N[i]? = some x) (hx : Loc X.env.scope x) (he : PE X e te) (hs : swapsWith e (some (.Name x pos')) pos.line X.env = pure false := by rfl) (hf : X.fn x = true \/ X.env.scope.names.lookup x = some .local := by first | exact .inl rfl | exact .inr rfl | assumption) :
    PS X (.Assign [.Name x pos'] e pos) (tAsg te (gName i)) := by
  intro pins s Z H D I h
  refine wpAny_Assign_Name (thn (he pins s Z H _ I h) fun v s1 ⟨y, H1, I1, r1, q1⟩ => ?_) hs
  exact store_ok I1 hN hi hx r1 (fun s2 I2 => ⟨_, H1, I2, q1⟩) hf
def tPar (i j : Nat) (ta : TA) : TS := fun D Z H => ta Z H fun vs H1 => ∃ v w, vs = [v, w] /\ D.nx ((Z.set i (some v)).set j (some w)) H1
theorem ps_par {i j : Nat} {x y : Str} {a b : Expr} {ta : TA} {px py pt : Pos} {kt k2 pt2} (hc : X.calm = true) (hN : X.N.Nodup) (hi : X.N[i]? = some x) (hj : X.N[j]? = some y) (hij : i ≠ j)
    (hx : X.env.scope.names.lookup x = some .local) (hy : X.env.scope.names.lookup y = some .local) (ha : PA X [a, b] ta)
    (hw : swappedStores [.Tuple [.Name x px, .Name y py] kt pt] (.Tuple [a, b] k2 pt2) X.env = pure (some [x, y]))
    (hs : swapsWithSole [.Tuple [.Name x px, .Name y py] kt pt] (.Tuple [a, b] k2 pt2) pos.line X.env = pure false := by rfl) :
    PS X (.Assign [.Tuple [.Name x px, .Name y py] kt pt] (.Tuple [a, b] k2 pt2) pos) (tPar i j ta) := by
  intro pins s Z H D I h
  rw [exec_Assign_arm]
  refine wpAny_bind (wpAny_standAt ?_)
  rw [hs]
  refine wpAny_bind (wpAny_pure ?_)
  rw [if_neg (by decide)]
  refine wpAny_bind (Tuple_ (thn (ha _ pins s Z H _ I h) fun us s1 ⟨vs, H1, I1, r1, q1⟩ => ?_))
  obtain ⟨v, w, e1, q1⟩ := q1
  subst e1
  obtain ⟨u1, u2, rfl, rv, rw'⟩ : ∃ u1 u2, us = [u1, u2] /\ RelV v u1 /\ RelV w u2 := by
    cases r1 with
    | cons p q =>
      cases q with
      | cons p' q' =>
        cases q'
        exact ⟨_, _, rfl, p, p'⟩
  refine wpAny_newObj_type ?_ (by show 2 <= sizeLine; decide)
  have I2 : Inv X pins Z H1 { s1 with heap := s1.heap.push { cls := .type "tuple", data := .seq [u1, u2].toArray } } := I1.kept (t' := s1.toks) fun b o e => xad _ e
  rw [hw]
  refine wpAny_bind (wpAny_pure ?_)
  show wpAny (model X.prog X.w) X.A (do rule "assign.swapped-stores"; let items <- unpackItems (.ref s1.heap.objs.size) 2 none; assignInOrder [fun v => bindName X.env y v, fun v => bindName X.env x v] items.reverse; pure Flow.next) _ _ _
  refine wpAny_bind (wpAny_rule (wpAny_bind (unpackItems_tuple (items := #[u1, u2]) (I.ok.hd hc) (IsTup.new s1.heap _) fun h' hx' => ?_)))
  have I3 := I2.kept (h' := h') (t' := s1.toks) fun b o e => hx' b o (xax (xag e)) e
  show wpAny _ _ (assignInOrder [fun v => bindName X.env y v, fun v => bindName X.env x v] [u2, u1] >>= fun _ => pure Flow.next) _ _ _
  refine wpAny_bind (assignInOrder_cons (wpAny_bindName (store_ok I3 hN hj (.inl hy) rw' (fun s2 I4 => ?_) (.inr hy))))
  refine assignInOrder_cons (wpAny_bindName (store_ok I4 hN hi (.inl hx) rv (fun s3 I5 => assignInOrder_nil (wpAny_pure ?_)) (.inr hx)))
  rw [List.set_comm _ _ (xas hij)] at I5
  exact ⟨_, H1, I5, q1⟩
end
section
variable {X : Cx} {pos : Pos}
def tWhile (c : TT) (tb : TS) : TS := fun D Z H => ∃ W : Nat -> St -> Hp -> Prop, (∃ m, W m Z H) /\ ∀ m Z H, W m Z H ->
  c Z H fun b H1 => if b = true then ∃ N : St -> Hp -> Prop, (∀ Z' H', N Z' H' -> ∃ m', m' < m /\ W m' Z' H') /\ tb { D with nx := N, ct := N, bk := D.nx } Z H1 else D.nx Z H1
theorem ps_while {c : Expr} {body : List Stmt} {tc : TT} {tb : TS} (hp : PassesOwn (model X.prog X.w) X.A X.env X.xe) (hc : PT X c tc) (hb : PSs X body tb) : PS X (.While c body [] pos) (tWhile tc tb) := by
  intro pins s Z H D I h
  obtain ⟨W, ⟨m0, w0⟩, turn⟩ := h
  refine wpAny_While (codeAny_whileLoop (fun n s' => ∃ Z' H', Inv X pins Z' H' s' /\ W n Z' H') ?_ m0 ⟨Z, H, I, w0⟩)
  rintro n s1 ⟨Z1, H1, I1, w1⟩
  refine wpAny_passesOwn hp (thn (hc pins s1 Z1 H1 _ I1 (turn n Z1 H1 w1)) fun b s2 ⟨H2, I2, q2⟩ => ?_)
  cases b with
  | true =>
    obtain ⟨N, hN, q2⟩ := q2
    rw [if_pos rfl]
    refine wpAny_passesOwn hp (thn (hb pins s2 Z1 H2 _ I2 q2) fun f s3 q3 => ?_)
    cases f with
    | next =>
      obtain ⟨Z3, H3, I3, n3⟩ := q3
      obtain ⟨m', hm, w3⟩ := hN Z3 H3 n3
      exact ⟨m', hm, Z3, H3, I3, w3⟩
    | cont =>
      obtain ⟨Z3, H3, I3, n3⟩ := q3
      obtain ⟨m', hm, w3⟩ := hN Z3 H3 n3
      exact ⟨m', hm, Z3, H3, I3, w3⟩
    | brk => exact q3
    | ret v => exact q3
  | false =>
    rw [if_neg xaw]
    exact wpAny_execs_nil ⟨Z1, H2, I2, q2⟩
end
structure It where
  go : Nat -> Hp -> Prop
  yld : Nat -> Hp -> V -> Hp -> Prop
  stop : Nat -> Hp -> Prop
def FpOk (X : Cx) (pins : List (Addr × Obj)) (H : Hp) (b : Addr) : Prop :=
  H b = none /\ b ≠ X.env.locals /\ b ∉ X.fs /\ (b ∈ X.ex \/ X.s₀.heap.objs.size <= b) /\ (∀ x c, X.env.cells.lookup x = some c -> c ≠ b) /\ ∀ p ∈ X.pn ++ pins, p.1 ≠ b
theorem Inv.fpOk {X : Cx} {pins : List (Addr × Obj)} {Z : St} {H H' : Hp} {s : Shared} {b : Addr} (I : Inv X pins Z H s) (hb : s.heap.objs.size <= b) (hn : H' b = none) : FpOk X pins H' b := by
  refine ⟨hn, xce (xaj I.lt hb), I.nofs hb, .inr (xa5 I.sz hb), fun x c e z => ?_, fun p hp z => ?_⟩
  · obtain ⟨v, q⟩ := I.cell x c e
    exact absurd (xaj q.lt (by rw [z]; exact hb)) (xbl _)
  · exact absurd (xaj (xag (I.pin p hp).1) (by rw [z]; exact hb)) (xbl _)
structure Turn (P : Program) (w : World) (K : xFg) (tg : Expr) (J : It) (fp : List Addr) (it : Addr) (tn : Nat -> Heap -> Prop) : Prop where
  mem : it ∈ fp
  obj : ∀ i h, tn i h -> ∀ b ∈ fp, ∃ o, h.get? b = some o /\ ∀ v, o.data ≠ .cell v
  keep : ∀ i h h', tn i h -> (∀ b ∈ fp, ∀ o, h.get? b = some o -> h'.get? b = some o) -> tn i h'
  item : ∀ (X : Cx), X.prog = P -> X.w = w -> X.K = K -> X.calm = true -> ∀ (i : Nat) (pins : List (Addr × Obj)) (s : Shared) (Z : St) (H : Hp) (E : Value -> Shared -> Prop), Inv X pins Z H s -> (∀ b ∈ fp, FpOk X pins H b) -> tn i s.heap -> J.go i H ->
    wpAny (model P w) X.A (pyNext (.ref it)) (fun r s1 => ∃ u, r = some u /\
      wpAny (model P w) X.A (letOwnedTupleGo tg (.ref it) u) (fun _ s2 => ∃ x H', Inv X pins Z H' s2 /\ RelV x u /\ J.yld i H x H' /\ tn (i + 1) s2.heap /\ ∀ b ∈ fp, H' b = none) E s1) E s
  done : ∀ (X : Cx), X.prog = P -> X.w = w -> X.K = K -> X.calm = true -> ∀ (i : Nat) (pins : List (Addr × Obj)) (s : Shared) (Z : St) (H : Hp) (E : Value -> Shared -> Prop), Inv X pins Z H s -> (∀ b ∈ fp, FpOk X pins H b) -> tn i s.heap -> J.stop i H ->
    wpAny (model P w) X.A (pyNext (.ref it)) (fun r s1 => r = none /\ Inv X pins Z H s1) E s
  self : ∀ (A : Around) (i : Nat) (s : Shared) (Q : Value -> Shared -> Prop) (E : Value -> Shared -> Prop), tn i s.heap -> Q (.ref it) s -> wpAny (model P w) A (pyIter (.ref it)) Q E s
abbrev TI := St -> Hp -> (It -> Hp -> Prop) -> Prop
def PIE (X : Cx) (pins : List (Addr × Obj)) (Z : St) (tg : Expr) (R : It -> Hp -> Prop) (itv : Value) (s2 : Shared) : Prop :=
  ∃ (it : Addr) (fp : List Addr) (tn : Nat -> Heap -> Prop) (J : It) (H' : Hp), itv = .ref it /\ Inv X pins Z H' s2 /\ Turn X.prog X.w X.K tg J fp it tn /\ tn 0 s2.heap /\ (∀ b ∈ fp, FpOk X pins H' b) /\ R J H'
def PI (X : Cx) (tg iter : Expr) (wi : TI) : Prop :=
  ∀ (pins : List (Addr × Obj)) (s : Shared) (Z : St) (H : Hp) (R : It -> Hp -> Prop), Inv X pins Z H s -> wi Z H R ->
    wpAny (model X.prog X.w) X.A (eval iter X.env) (fun v s1 => wpAny (model X.prog X.w) X.A (pyIter v) (PIE X pins Z tg R) X.xe s1) X.xe s
theorem go_of {M : Model} {A : Around} {E : Value -> Shared -> Prop} {s : Shared} {tg : Expr} {it : Addr} {u : Value} {o : Obj} {n : String} {vs : Array Value} {Q : Unit -> Shared -> Prop} (ho : s.heap.get? it = some o) (hc : o.cls = .type n) (hd : o.data = .fields vs)
    (hn : ["enumerate", "zip", "dict_itemiterator", "dict_reverseitemiterator", "odict_iterator", "itertools.zip_longest", "itertools.pairwise"].contains n = false) (hQ : Q () s) : wpAny M A (letOwnedTupleGo tg (.ref it) u) Q E s := by
  unfold letOwnedTupleGo
  cases tg <;> first
    | exact wpAny_pure hQ
    | (cases u <;> first
        | exact wpAny_pure hQ
        | (refine wpAny_bind (wpAny_load ho ?_)
           rw [hc, hd]
           show wpAny M A (if (["enumerate", "zip", "dict_itemiterator", "dict_reverseitemiterator", "odict_iterator", "itertools.zip_longest", "itertools.pairwise"].contains n && vs[0]? == some (rawInt _)) = true then _ else _) Q E s
           rw [if_neg (by intro h; rw [hn, Bool.false_and] at h; cases h)]
           exact wpAny_pure hQ))
def Itl (K : xFg) (a : Addr) : It :=
  ⟨fun i H => ∃ xs x, SqL K H a xs /\ xs[i]? = some x, fun i H x H' => H' = H /\ ∀ xs, SqL K H a xs -> xs[i]? = some x, fun i H => ∃ xs, SqL K H a xs /\ xs.length <= i⟩
def Itt (K : xFg) (a : Addr) : It :=
  ⟨fun i H => ∃ xs x, SqT K H a xs /\ xs[i]? = some x, fun i H x H' => H' = H /\ ∀ xs, SqT K H a xs -> xs[i]? = some x, fun i H => ∃ xs, SqT K H a xs /\ xs.length <= i⟩
def Itr (lo : Int) (n : Nat) : It := ⟨fun i _ => i < n, fun i H x H' => H' = H /\ x = .int (lo + i), fun i _ => n <= i⟩
theorem turn_list {P : Program} {w : World} {K : xFg} {tg : Expr} (a it : Addr) : Turn P w K tg (Itl K a) [it] it (fun i h => h.IsListIter it a i) where
  mem := by simp
  obj := fun i h st b hb => by
    have e : b = it := by simpa using hb
    subst e
    obtain ⟨o, e, c, d⟩ := st
    exact ⟨o, e, fun v z => by rw [d] at z; cases z⟩
  keep := fun i h h' st k => st.at fun o e => k it (by simp) o e
  item := by
    intro X hP hw hK hc i pins s Z H E I hf st hg
    subst hP hw hK
    obtain ⟨xs, x, hq, hx⟩ := hg
    obtain ⟨its, rv, p, hz⟩ := I.list hq
    obtain ⟨u, hu, ru⟩ := rv.get hx
    obtain ⟨f0, f1, f2, f3, f4, f5⟩ := hf it (by simp)
    refine wpAny_pyNext_list_item st p.isList (x := u) (by simpa using hu) fun h' st' sb => ?_
    have I1 : Inv X pins Z H { s with heap := h' } := I.turned (t' := s.toks) (fun b o hb e => (sb.2 b hb).trans e) f0 f1 f3 f4 f5
    obtain ⟨o, e, c, d⟩ := id st'
    exact ⟨u, rfl, go_of (s := { s with heap := h' }) e c d (by decide) ⟨x, H, I1, ru, ⟨rfl, fun ys hy => by rw [I.list_inj hy hq]; exact hx⟩, st', fun b hb => (hf b hb).1⟩⟩
  done := by
    intro X hP hw hK hc i pins s Z H E I hf st hg
    subst hP hw hK
    obtain ⟨xs, hq, hx⟩ := hg
    obtain ⟨its, rv, p, hz⟩ := I.list hq
    obtain ⟨f0, f1, f2, f3, f4, f5⟩ := hf it (by simp)
    have hl := rv.length
    exact wpAny_pyNext_list_end (I.ok.hd hc) st p.isList (by simp; omega) fun h' eb => ⟨rfl, I.turned (t' := s.toks) (fun b o hb e => eb b o hb e) f0 f1 f3 f4 f5⟩
  self := fun _ _ _ _ _ st h => wpAny_pyIter_listiter st h
theorem turn_tuple {P : Program} {w : World} {K : xFg} {tg : Expr} (a it : Addr) : Turn P w K tg (Itt K a) [it] it (fun i h => h.IsTupleIter it a i) where
  mem := by simp
  obj := fun i h st b hb => by
    have e : b = it := by simpa using hb
    subst e
    obtain ⟨o, e, c, d⟩ := st
    exact ⟨o, e, fun v z => by rw [d] at z; cases z⟩
  keep := fun i h h' st k => st.at fun o e => k it (by simp) o e
  item := by
    intro X hP hw hK hc i pins s Z H E I hf st hg
    subst hP hw hK
    obtain ⟨xs, x, hq, hx⟩ := hg
    obtain ⟨its, rv, p, hz⟩ := I.tuple hq
    obtain ⟨u, hu, ru⟩ := rv.get hx
    obtain ⟨f0, f1, f2, f3, f4, f5⟩ := hf it (by simp)
    refine wpAny_pyNext_tuple_item st (show s.heap.IsTuple a its.toArray from p) (x := u) (by simpa using hu) fun h' st' sb => ?_
    have I1 : Inv X pins Z H { s with heap := h' } := I.turned (t' := s.toks) (fun b o hb e => (sb.2 b hb).trans e) f0 f1 f3 f4 f5
    obtain ⟨o, e, c, d⟩ := id st'
    exact ⟨u, rfl, go_of (s := { s with heap := h' }) e c d (by decide) ⟨x, H, I1, ru, ⟨rfl, fun ys hy => by rw [I.tuple_inj hy hq]; exact hx⟩, st', fun b hb => (hf b hb).1⟩⟩
  done := by
    intro X hP hw hK hc i pins s Z H E I hf st hg
    subst hP hw hK
    obtain ⟨xs, hq, hx⟩ := hg
    obtain ⟨its, rv, p, hz⟩ := I.tuple hq
    obtain ⟨f0, f1, f2, f3, f4, f5⟩ := hf it (by simp)
    have hl := rv.length
    exact wpAny_pyNext_tuple_end (I.ok.hd hc) st (show s.heap.IsTuple a its.toArray from p) (by simp; omega) fun h' eb => ⟨rfl, I.turned (t' := s.toks) (fun b o hb e => eb b o hb e) f0 f1 f3 f4 f5⟩
  self := fun _ _ _ _ _ st h => wpAny_pyIter_tupleiter st h
theorem turn_range {P : Program} {w : World} {K : xFg} {tg : Expr} (it : Addr) (lo : Int) (n : Nat) : Turn P w K tg (Itr lo n) [it] it (fun i h => IsRangeIter h it (lo + (i : Nat) * 1) ((n : Int) - (i : Nat)) 1) where
  mem := by simp
  obj := fun i h st b hb => by
    have e : b = it := by simpa using hb
    subst e
    exact ⟨_, st, fun v z => by
      have z' : Data.fields _ = Data.cell v := z
      cases z'⟩
  keep := fun i h h' st k => k it (by simp) _ st
  item := by
    intro X hP hw hK hc i pins s Z H E I hf st hg
    subst hP hw hK
    obtain ⟨f0, f1, f2, f3, f4, f5⟩ := hf it (by simp)
    have W := Walks.range (prog := X.prog) (w := X.w) (I.ok.hd hc) it lo 1 n
    refine W.item i s _ _ hg st fun v h' tk hv st' kk => ?_
    obtain ⟨t, rfl⟩ := hv
    have I1 : Inv X pins Z H { s with heap := h', toks := tk } := I.turned (fun b o hb e => kk b o (by simpa using hb) e) f0 f1 f3 f4 f5
    refine ⟨_, rfl, go_of (s := { s with heap := h', toks := tk }) (n := "range_iterator") st' rfl rfl (by decide) ⟨.int (lo + i), H, I1, ⟨t, ?_⟩, ⟨rfl, rfl⟩, st', fun b hb => (hf b hb).1⟩⟩
    rw [Int.mul_one]
  done := by
    intro X hP hw hK hc i pins s Z H E I hf st hg
    subst hP hw hK
    obtain ⟨f0, f1, f2, f3, f4, f5⟩ := hf it (by simp)
    exact wpAny_pyNext_range_end (I.ok.hd hc) st (by have : n <= i := hg; omega) fun h' eb => ⟨rfl, I.turned (t' := s.toks) (fun b o hb e => eb b o hb e) f0 f1 f3 f4 f5⟩
  self := fun _ _ _ _ _ st h => wpAny_pyIter_rangeiter st h
end L2
namespace L2
open PySem.Spec PyProof.Rows
section
variable {X : Cx} {tg : Expr}
def iList (K : xFg) (tl : TE) : TI := fun Z H R => tl Z H fun x H1 => ∃ a, x = .ref a /\ (∃ xs, SqL K H1 a xs) /\ R (Itl K a) H1
def iTup (K : xFg) (tl : TE) : TI := fun Z H R => tl Z H fun x H1 => ∃ a, x = .ref a /\ (∃ xs, SqT K H1 a xs) /\ R (Itt K a) H1
theorem pi_list {l : Expr} {tl : TE} (hl : PE X l tl) : PI X tg l (iList X.K tl) := by
  intro pins s Z H R I h
  refine thn (hl pins s Z H _ I h) fun v s1 ⟨x, H1, I1, r1, q1⟩ => ?_
  obtain ⟨a, e, ⟨xs, hq⟩, q⟩ := q1
  subst e
  cases r1
  obtain ⟨its, rv, p, hz⟩ := I1.list hq
  refine wpAny_pyIter_list p.isList ?_
  refine ⟨s1.heap.objs.size, [s1.heap.objs.size], _, _, H1, rfl, I1.kept (t' := s1.toks) fun b o e => xad _ e, turn_list a _, ⟨_, xaz _ rfl, rfl, rfl⟩, fun b hb => ?_, q⟩
  have e : b = s1.heap.objs.size := by simpa using hb
  subst e
  exact I1.fpOk (xai _) (I1.hok.fresh (xai _))
theorem pi_tup {l : Expr} {tl : TE} (hl : PE X l tl) : PI X tg l (iTup X.K tl) := by
  intro pins s Z H R I h
  refine thn (hl pins s Z H _ I h) fun v s1 ⟨x, H1, I1, r1, q1⟩ => ?_
  obtain ⟨a, e, ⟨xs, hq⟩, q⟩ := q1
  subst e
  cases r1
  obtain ⟨its, rv, p, hz⟩ := I1.tuple hq
  refine wpAny_pyIter_tuple (show s1.heap.IsTuple a its.toArray from p) ?_
  refine ⟨s1.heap.objs.size, [s1.heap.objs.size], _, _, H1, rfl, I1.kept (t' := s1.toks) fun b o e => xad _ e, turn_tuple a _, ⟨_, xaz _ rfl, rfl, rfl⟩, fun b hb => ?_, q⟩
  have e : b = s1.heap.objs.size := by simpa using hb
  subst e
  exact I1.fpOk (xai _) (I1.hok.fresh (xai _))
theorem range_it {pins : List (Addr × Obj)} {Z : St} {H : Hp} {s : Shared} {R : It -> Hp -> Prop} {E : Value -> Shared -> Prop} {lo hi : Int} {t u v : Tok} {tk : Nat} (I : Inv X pins Z H s) (h1 : -(2 ^ 62) <= lo) (h2 : lo < 2 ^ 62) (h3 : -(2 ^ 62) <= hi) (h4 : hi < 2 ^ 62)
    (q : R (Itr lo (hi - lo).toNat) H) : wpAny (model X.prog X.w) X.A (pyIter (.ref s.heap.objs.size)) (PIE X pins Z tg R) E { s with heap := s.heap.push { cls := .type "range", data := .fields #[.int lo t, .int hi u, .int 1 v] }, toks := tk } := by
  refine wpAny_pyIter_range (IsRange.new ..) (small_one h1 h2 h3 h4) ?_
  have I1 : Inv X pins Z H { s with heap := s.heap.push { cls := .type "range", data := .fields #[.int lo t, .int hi u, .int 1 v] }, toks := tk } := I.kept fun b o e => xad _ e
  refine ⟨(s.heap.push { cls := .type "range", data := .fields #[.int lo t, .int hi u, .int 1 v] }).objs.size, [(s.heap.push { cls := .type "range", data := .fields #[.int lo t, .int hi u, .int 1 v] }).objs.size], _, _, H, rfl,
    I1.kept (t' := tk) fun b o e => xad _ e, turn_range _ lo (hi - lo).toNat, ?_, fun b hb => ?_, q⟩
  · have e1 : lo + ((0 : Nat) : Int) * 1 = lo := by simp
    have e2 : (((hi - lo).toNat : Nat) : Int) - ((0 : Nat) : Int) = Builtin.Range.rangeSize lo hi 1 := by rw [rangeSize_one]; split <;> omega
    show IsRangeIter _ _ (lo + ((0 : Nat) : Int) * 1) ((((hi - lo).toNat : Nat) : Int) - ((0 : Nat) : Int)) 1
    rw [e1, e2]
    exact xaz _ rfl
  · have e : b = (s.heap.push { cls := .type "range", data := .fields #[.int lo t, .int hi u, .int 1 v] }).objs.size := by simpa using hb
    subst e
    exact I1.fpOk (xai _) (I1.hok.fresh (xai _))
def iRng1 (ta : TA) : TI := fun Z H R => ta Z H fun vs H1 => ∃ j : Int, vs = [.int j] /\ -(2 ^ 62) <= j /\ j < 2 ^ 62 /\ R (Itr 0 j.toNat) H1
theorem pi_range1 {a : Expr} {ta : TA} {p pos : Pos} (hg : Gl X "range") (hm : X.mg "range" = none) (ha : PA X [a] ta) (hs : starEach [a] X.env = [(false, eval a X.env)] := by rfl) : PI X tg (.Call (.Name "range" p) [a] [] pos) (iRng1 ta) := by
  intro pins s Z H R I h
  refine Call_ (ld_blt I hg hm boot_range (PyProof.Rows.callWith_type1 (thn (ha pos pins s Z H _ I h) fun us s1 ⟨vs, H1, I1, r1, q1⟩ => ?_) hs rfl))
  obtain ⟨j, e, q1, q2, q⟩ := q1
  subst e
  cases r1 with
  | cons r rr =>
    cases rr
    obtain ⟨t, rfl⟩ := r
    exact call_range_1 (range_it I1 (by omega) (by omega) q1 q2 (by simpa using q))
def tFor (wi : TI) (g : TG) (tb : TS) : TS := fun D Z H => wi Z H fun J H1 => ∃ W : Nat -> Nat -> St -> Hp -> Prop, (∃ m, W 0 m Z H1) /\ ∀ i m Z H, W i m Z H ->
  (J.stop i H /\ D.nx Z H) \/ (J.go i H /\ ∃ N : St -> Hp -> Prop, (∀ Z' H', N Z' H' -> ∃ m', m' < m /\ W (i + 1) m' Z' H') /\ ∀ x H', J.yld i H x H' -> g x Z H' fun Z2 H2 => tb { D with nx := N, ct := N, bk := D.nx } Z2 H2)
def pinsAt (fp : List Addr) (h : Heap) : List (Addr × Obj) := fp.filterMap fun b => (h.get? b).map fun o => (b, o)
theorem mem_pinsAt {fp : List Addr} {h : Heap} {b : Addr} {o : Obj} (hb : b ∈ fp) (e : h.get? b = some o) : (b, o) ∈ pinsAt fp h := xbn.mpr ⟨b, hb, by rw [e]; rfl⟩
theorem of_pinsAt {fp : List Addr} {h : Heap} {p : Addr × Obj} (hp : p ∈ pinsAt fp h) : p.1 ∈ fp /\ h.get? p.1 = some p.2 := by
  obtain ⟨b, hb, e⟩ := xbn.mp hp
  cases q : h.get? b with
  | none => rw [q] at e; cases e
  | some o =>
    rw [q] at e
    have e' : (b, o) = p := Option.some.inj e
    subst e'
    exact ⟨hb, q⟩
theorem Inv.pinned {pins : List (Addr × Obj)} {Z : St} {H : Hp} {s : Shared} {fp : List Addr} (I : Inv X pins Z H s) (hf : ∀ b ∈ fp, FpOk X pins H b) (ho : ∀ b ∈ fp, ∃ o, s.heap.get? b = some o /\ ∀ v, o.data ≠ .cell v) : Inv X (pins ++ pinsAt fp s.heap) Z H s :=
  I.pins_of fun p hp => (xbe.mp hp).elim (fun z => I.pin p (xa4 _ z)) fun z => by
    obtain ⟨hb, e⟩ := of_pinsAt z
    obtain ⟨f0, f1, f2, _⟩ := hf p.1 hb
    obtain ⟨o, e', d⟩ := ho p.1 hb
    rw [e] at e'; cases e'
    exact ⟨e, f0, f1, f2, d⟩
theorem Inv.unpinned {pins pl : List (Addr × Obj)} {Z : St} {H : Hp} {s : Shared} (I : Inv X (pins ++ pl) Z H s) : Inv X pins Z H s := I.pins_of fun p hp => I.pin p (xa4 _ (List.mem_append_left _ hp))
theorem ps_for {iter : Expr} {body : List Stmt} {wi : TI} {g : TG} {tb : TS} {pos : Pos} (hp : PassesOwn (model X.prog X.w) X.A X.env X.xe) (hc : X.calm = true) (hi : PI X tg iter wi) (hg : PG X tg g) (hb : PSs X body tb)
    (hs : ∀ x, foldedSetIterable iter X.env x = pure x := by intro _; rfl) : PS X (.For tg iter body [] pos) (tFor wi g tb) := by
  intro pins s Z H D I h
  refine wpAny_For (thn (hi pins s Z H _ I h) fun v s1 h1 => thn h1 fun itv s2 h2 => ?_) hs
  obtain ⟨it, fp, tn, J, H2, e, I2, T, st2, f2, W, ⟨m0, w0⟩, turn⟩ := h2
  subst e
  have stat : ∀ {H' : Hp}, (∀ b ∈ fp, H' b = none) -> ∀ b ∈ fp, FpOk X pins H' b := fun hn b hb => ⟨hn b hb, (f2 b hb).2⟩
  refine codeAny_forLoop_any (fun n s' => ∃ i Z' H', Inv X pins Z' H' s' /\ tn i s'.heap /\ (∀ b ∈ fp, H' b = none) /\ W i n Z' H') ?_ m0 ⟨0, Z, H2, I2, st2, fun b hb => (f2 b hb).1, w0⟩
  rintro n s3 ⟨i, Z3, H3, I3, st3, fr3, w3⟩
  rcases turn i n Z3 H3 w3 with ⟨stop, qn⟩ | ⟨go, N, hN, step⟩
  · refine wpAny_passesOwn hp (thn (T.done X rfl rfl rfl hc i pins s3 Z3 H3 X.xe I3 (stat fr3) st3 stop) fun r s4 ⟨hr, I4⟩ => ?_)
    subst hr
    exact wpAny_execs_nil ⟨Z3, H3, I4, qn⟩
  · refine wpAny_passesOwn hp (thn (T.item X rfl rfl rfl hc i pins s3 Z3 H3 X.xe I3 (stat fr3) st3 go) fun r s4 ⟨u, hr, h4⟩ => ?_)
    subst hr
    refine wpAny_passesOwn hp (thn h4 fun _ s5 ⟨x, H5, I5, r5, y5, st5, fr5⟩ => ?_)
    have I5' := I5.pinned (stat fr5) (T.obj _ _ st5)
    refine wpAny_passesOwn hp (thn (hg _ s5 Z3 H5 x u _ I5' r5 (step x H5 y5)) fun _ s6 ⟨Z6, H6, I6, q6⟩ => ?_)
    refine wpAny_passesOwn hp (thn (hb _ s6 Z6 H6 _ I6 q6) fun f s7 q7 => ?_)
    have again : ∀ {Z7 : St} {H7 : Hp}, Inv X (pins ++ pinsAt fp s5.heap) Z7 H7 s7 -> N Z7 H7 -> ∃ m, m < n /\ ∃ i Z' H', Inv X pins Z' H' s7 /\ tn i s7.heap /\ (∀ b ∈ fp, H' b = none) /\ W i m Z' H' := fun {Z7 H7} I7 n7 => by
      obtain ⟨m', hm, w7⟩ := hN Z7 H7 n7
      refine ⟨m', hm, i + 1, Z7, H7, I7.unpinned, T.keep _ _ _ st5 fun b hb o e => (I7.pin (b, o) (xa4 _ (xa4 _ (mem_pinsAt hb e)))).1, fun b hb => ?_, w7⟩
      obtain ⟨o, e, d⟩ := T.obj _ _ st5 b hb
      exact (I7.pin (b, o) (xa4 _ (xa4 _ (mem_pinsAt hb e)))).2.1
    cases f with
    | next => obtain ⟨Z7, H7, I7, n7⟩ := q7; exact again I7 n7
    | cont => obtain ⟨Z7, H7, I7, n7⟩ := q7; exact again I7 n7
    | brk => obtain ⟨Z7, H7, I7, q7⟩ := q7; exact ⟨Z7, H7, I7.unpinned, q7⟩
    | ret v => obtain ⟨x7, Z7, H7, I7, r7, q7⟩ := q7; exact ⟨x7, Z7, H7, I7.unpinned, r7, q7⟩
end
end L2
namespace L2
open PySem.Spec PyProof.Rows
abbrev R2 := V -> V -> Hp -> VK -> Prop
def OpR (X : Cx) (f : Value -> Value -> Sem Value) (r : R2) : Prop :=
  ∀ (pins : List (Addr × Obj)) (s : Shared) (Z : St) (H : Hp) (x y : V) (v u : Value) (Q : VK), Inv X pins Z H s -> RelV x v -> RelV y u -> r x y H Q ->
    wpAny (model X.prog X.w) X.A (f v u) (EP X pins Z Q) X.xe s
def UnR (X : Cx) (f : Value -> Sem Value) (r : V -> Hp -> VK -> Prop) : Prop :=
  ∀ (pins : List (Addr × Obj)) (s : Shared) (Z : St) (H : Hp) (x : V) (v : Value) (Q : VK), Inv X pins Z H s -> RelV x v -> r x H Q ->
    wpAny (model X.prog X.w) X.A (f v) (EP X pins Z Q) X.xe s
def CallR (X : Cx) (f : Value) (r : List V -> Hp -> VK -> Prop) : Prop :=
  ∀ (pins : List (Addr × Obj)) (s : Shared) (Z : St) (H : Hp) (xs : List V) (us : List Value) (Q : VK), Inv X pins Z H s -> Vals xs us -> r xs H Q ->
    wpAny (model X.prog X.w) X.A (call f us) (EP X pins Z Q) X.xe s
def tOp (r : R2) (ta tb : TE) : TE := fun Z H Q => ta Z H fun x H1 => tb Z H1 fun y H2 => r x y H2 Q
def tUn (r : V -> Hp -> VK -> Prop) (ta : TE) : TE := fun Z H Q => ta Z H fun x H1 => r x H1 Q
def rI (C : Int -> Int -> Prop) (g : Int -> Int -> V) : R2 := fun x y H Q => ∃ i j, x = .int i /\ y = .int j /\ C i j /\ Q (g i j) H
def rI0 (g : Int -> Int -> V) : R2 := fun x y H Q => ∃ i j, x = .int i /\ y = .int j /\ Q (g i j) H
def rU (g : Int -> V) : V -> Hp -> VK -> Prop := fun x H Q => ∃ i, x = .int i /\ Q (g i) H
section
variable {X : Cx} {a b c : Expr} {ta tb tc : TE} {pos : Pos}
theorem binT (ha : PE X a ta) (hb : PE X b tb) {pins : List (Addr × Obj)} {s : Shared} {Z : St} {H : Hp} {R : V -> V -> Hp -> Prop} (I : Inv X pins Z H s)
    (h : ta Z H fun x H1 => tb Z H1 fun y H2 => R x y H2) {Q : Value -> Shared -> Prop} {f : Value -> Value -> Sem Value}
    (hf : ∀ v u s2 x y H2, Inv X pins Z H2 s2 -> RelV x v -> RelV y u -> R x y H2 -> wpAny (model X.prog X.w) X.A (f v u) Q X.xe s2) :
    wpAny (model X.prog X.w) X.A (eval a X.env) (fun v s₁ => wpAny (model X.prog X.w) X.A (eval b X.env) (fun u s₂ => wpAny (model X.prog X.w) X.A (f v u) Q X.xe s₂) X.xe s₁) X.xe s := by
  refine thn (ha pins s Z H _ I h) fun v s1 ⟨x, H1, I1, r1, q1⟩ => ?_
  refine thn (hb pins s1 Z H1 _ I1 q1) fun u s2 ⟨y, H2, I2, r2, q2⟩ => ?_
  exact hf v u s2 x y H2 I2 r1 r2 q2
theorem pe_op {op : Operator} {r : R2} (ho : OpR X (binaryOp op) r) (ha : PE X a ta) (hb : PE X b tb) : PE X (.BinOp a op b pos) (tOp r ta tb) := by
  intro pins s Z H Q I h
  exact wpAny_BinOp (binT ha hb I h fun v u s2 x y H2 I2 rx ry q => ho pins s2 Z H2 x y v u Q I2 rx ry q)
theorem pe_un {op : UnaryOp} {r : V -> Hp -> VK -> Prop} (ho : UnR X (unaryOp op) r) (ha : PE X a ta) : PE X (.UnaryOp op a pos) (tUn r ta) := by
  intro pins s Z H Q I h
  exact UnaryOp_ (thn (ha pins s Z H _ I h) fun v s1 ⟨x, H1, I1, r1, q1⟩ => ho pins s1 Z H1 x v Q I1 r1 q1)
theorem opI {f : Value -> Value -> Sem Value} {C : Int -> Int -> Prop} {g : Int -> Int -> Int}
    (rule : ∀ (i j : Int) (t u : Tok) (s : Shared) (Q : Value -> Shared -> Prop) (E : Value -> Shared -> Prop), C i j -> Q (.int (g i j) s.toks) { s with toks := s.toks + 1 } -> wpAny (model X.prog X.w) X.A (f (.int i t) (.int j u)) Q E s) :
    OpR X f (rI C fun i j => .int (g i j)) := by
  intro pins s Z H x y v u Q I rx ry h
  obtain ⟨i, j, rfl, rfl, hc, q⟩ := h
  obtain ⟨t, rfl⟩ := rx
  obtain ⟨t', rfl⟩ := ry
  exact rule i j t t' s _ _ hc ⟨.int (g i j), H, I.tok _, ⟨_, rfl⟩, q⟩
theorem opI0 {f : Value -> Value -> Sem Value} {g : Int -> Int -> Int}
    (rule : ∀ (i j : Int) (t u : Tok) (s : Shared) (Q : Value -> Shared -> Prop) (E : Value -> Shared -> Prop), Q (.int (g i j) s.toks) { s with toks := s.toks + 1 } -> wpAny (model X.prog X.w) X.A (f (.int i t) (.int j u)) Q E s) :
    OpR X f (rI0 fun i j => .int (g i j)) := by
  intro pins s Z H x y v u Q I rx ry h
  obtain ⟨i, j, rfl, rfl, q⟩ := h
  obtain ⟨t, rfl⟩ := rx
  obtain ⟨t', rfl⟩ := ry
  exact rule i j t t' s _ _ ⟨.int (g i j), H, I.tok _, ⟨_, rfl⟩, q⟩
theorem opB0 {f : Value -> Value -> Sem Value} {g : Int -> Int -> Bool}
    (rule : ∀ (i j : Int) (t u : Tok) (s : Shared) (Q : Value -> Shared -> Prop) (E : Value -> Shared -> Prop), Q (.bool (g i j)) s -> wpAny (model X.prog X.w) X.A (f (.int i t) (.int j u)) Q E s) :
    OpR X f (rI0 fun i j => .bl (g i j)) := by
  intro pins s Z H x y v u Q I rx ry h
  obtain ⟨i, j, rfl, rfl, q⟩ := h
  obtain ⟨t, rfl⟩ := rx
  obtain ⟨t', rfl⟩ := ry
  exact rule i j t t' s _ _ ⟨.bl (g i j), H, I, rfl, q⟩
def CPow (i j : Int) : Prop := 0 <= j /\ j <= 1000000 /\ i.natAbs < 2 ^ 64
theorem op_add : OpR X (binaryOp .Add) (rI0 fun i j => .int (i + j)) := opI0 fun _ _ _ _ _ _ _ q => add_int q
theorem op_modN : OpR X (binaryOp .Mod) (rI (fun _ j => j ≠ 0) fun i j => .int (i.fmod j)) := opI fun _ _ _ _ _ _ _ hc q => mod_int' hc q
theorem op_pow : OpR X (binaryOp .Pow) (rI CPow fun i j => .int (i ^ j.toNat)) := opI fun _ _ _ _ _ _ _ hc q => pow_int_small hc.1 hc.2.1 hc.2.2 q
theorem unI {f : Value -> Sem Value} {g : Int -> Int}
    (rule : ∀ (i : Int) (t : Tok) (s : Shared) (Q : Value -> Shared -> Prop) (E : Value -> Shared -> Prop), Q (.int (g i) s.toks) { s with toks := s.toks + 1 } -> wpAny (model X.prog X.w) X.A (f (.int i t)) Q E s) :
    UnR X f (rU fun i => .int (g i)) := by
  intro pins s Z H x v Q I rx h
  obtain ⟨i, rfl, q⟩ := h
  obtain ⟨t, rfl⟩ := rx
  exact rule i t s _ _ ⟨.int (g i), H, I.tok _, ⟨_, rfl⟩, q⟩
theorem un_neg : UnR X (unaryOp .USub) (rU fun i => .int (-i)) := unI fun _ _ _ _ _ q => neg_int q
end
section
variable {X : Cx} {a b c : Expr} {ta tb tc : TE} {pos : Pos}
theorem fin_bl {pins : List (Addr × Obj)} {Z : St} {H : Hp} {s : Shared} {Q : VK} {k k' : Bool} (I : Inv X pins Z H s) (q : Q (.bl k) H) (e : k = k') : EP X pins Z Q (.bool k') s := by
  subst e
  exact ⟨.bl k, H, I, rfl, q⟩
theorem op_lt : OpR X (compareOp .Lt) (rI0 fun i j => .bl (decide (i < j))) := opB0 fun _ _ _ _ _ _ _ q => lt_int q
theorem op_le : OpR X (compareOp .LtE) (rI0 fun i j => .bl (decide (i <= j))) := opB0 fun _ _ _ _ _ _ _ q => le_int q
theorem op_gt : OpR X (compareOp .Gt) (rI0 fun i j => .bl (decide (j < i))) := opB0 fun _ _ _ _ _ _ _ q => gt_int q
theorem op_ge : OpR X (compareOp .GtE) (rI0 fun i j => .bl (decide (j <= i))) := opB0 fun _ _ _ _ _ _ _ q => ge_int q
theorem op_in_str : OpR X (compareOp .In) (fun x y H Q => ∃ i j, x = .str i /\ y = .str j /\ Q (.bl (!(Builtin.Str.occurrences j i 0 j.length 1).isEmpty)) H) := by
  intro pins s Z H x y v u Q I rx ry h
  obtain ⟨i, j, rfl, rfl, q⟩ := h
  obtain ⟨t, rfl⟩ := rx
  obtain ⟨t', rfl⟩ := ry
  exact in_str (fin_bl I q rfl)
theorem op_isN : OpR X (compareOp .Is) (fun x y H Q => y = .non /\ Q (.bl (decide (x = .non))) H) := by
  intro pins s Z H x y v u Q I rx ry h
  obtain ⟨rfl, q⟩ := h
  cases ry
  refine is_none_gen (fin_bl I q ?_)
  cases x <;> first
    | (cases rx; rfl)
    | (obtain ⟨t, rfl⟩ := rx; rfl)
theorem op_notN : OpR X (compareOp .IsNot) (fun x y H Q => y = .non /\ Q (.bl (!decide (x = .non))) H) := by
  intro pins s Z H x y v u Q I rx ry h
  obtain ⟨rfl, q⟩ := h
  cases ry
  refine isnot_none_gen (fin_bl I q ?_)
  cases x <;> first
    | (cases rx; rfl)
    | (obtain ⟨t, rfl⟩ := rx; rfl)
theorem OpR.or {f : Value -> Value -> Sem Value} {r r' : R2} (h : OpR X f r) (h' : OpR X f r') : OpR X f (fun x y H Q => r x y H Q \/ r' x y H Q) := by
  intro pins s Z H x y v u Q I rx ry q
  rcases q with q | q
  · exact h pins s Z H x y v u Q I rx ry q
  · exact h' pins s Z H x y v u Q I rx ry q
theorem pe_cmpR {op : CmpOp} {r : R2} (ho : OpR X (compareOp op) r) (ha : PE X a ta) (hb : PE X b tb) (hm : behindInMarks op b = false) : PE X (.Compare a [op] [b] pos) (tOp r ta tb) := by
  intro pins s Z H Q I h
  exact wpAny_Compare1 (binT ha hb I h fun v u s2 x y H2 I2 rx ry q => ho pins s2 Z H2 x y v u Q I2 rx ry q) hm
def tTest (t : TE) : TT := fun Z H Q => t Z H fun x H' => ∃ k, x = .bl k /\ Q k H'
theorem pt_cmpR {op : CmpOp} {r : R2} (ho : OpR X (compareOp op) r) (ha : PE X a ta) (hb : PE X b tb) (hm : behindInMarks op b = false) : PT X (.Compare a [op] [b] pos) (tTest (tOp r ta tb)) := by
  intro pins s Z H Q I h
  refine wpAny_isTrue_Compare1 (thn (ha pins s Z H _ I h) fun v s1 ⟨x, H1, I1, r1, q1⟩ => thn (hb pins s1 Z H1 _ I1 q1) fun u s2 ⟨y, H2, I2, r2, q2⟩ =>
    thn (ho pins s2 Z H2 x y v u _ I2 r1 r2 q2) fun c s3 ⟨z, H3, I3, r3, k, e, q3⟩ => ?_) hm
  subst e
  cases r3
  exact wpAny_truthy_bool ⟨H3, I3, q3⟩
def tChain (r r' : R2) (ta tb tc : TE) : TE := fun Z H Q => ta Z H fun x H1 => tb Z H1 fun y H2 => r x y H2 fun z H3 => ∃ k, z = .bl k /\
  (if k = true then tc Z H3 fun w' H4 => r' y w' H4 Q else Q (.bl false) H3)
theorem pt_chain {op op' : CmpOp} {r r' : R2} (ho : OpR X (compareOp op) r) (ho' : OpR X (compareOp op') r') (ha : PE X a ta) (hb : PE X b tb) (hc : PE X c tc)
    (hm : lastMarks [op, op'] [b, c] = false := by with_unfolding_all rfl) : PT X (.Compare a [op, op'] [b, c] pos) (tTest (tChain r r' ta tb tc)) := by
  intro pins s Z H Q I h
  refine isTrue_chain (thn (ha pins s Z H _ I h) fun v s1 ⟨x, H1, I1, r1, q1⟩ => test_link (thn (hb pins s1 Z H1 _ I1 q1) fun u s2 ⟨y, H2, I2, r2, q2⟩ =>
    thn (ho pins s2 Z H2 x y v u _ I2 r1 r2 q2) fun d s3 ⟨z, H3, I3, r3, k, e, q3⟩ => ?_)) hm
  subst e
  cases r3
  refine wpAny_truthy_bool ?_
  cases k with
  | false =>
    obtain ⟨k', e', q'⟩ := q3
    cases e'
    exact ite_ff ⟨H3, I3, q'⟩
  | true =>
    refine ite_tt (test_last (thn (hc pins s3 Z H3 _ I3 q3) fun w' s4 ⟨z', H4, I4, r4, q4⟩ => thn (ho' pins s4 Z H4 y z' u w' _ I4 r2 r4 q4) fun d' s5 ⟨z2, H5, I5, r5, k2, e2, q5⟩ => ?_))
    subst e2
    cases r5
    exact wpAny_truthy_bool ⟨H5, I5, q5⟩
theorem line63 : (sizeLine : Nat) < 2 ^ 63 := by rw [sizeLine_eq]; decide
theorem op_add_str : OpR X (binaryOp .Add) (fun x y H Q => ∃ i j, x = .str i /\ y = .str j /\ i.length + j.length <= sizeLine /\ Q (.str (i ++ j)) H) := by
  intro pins s Z H x y v u Q I rx ry h
  obtain ⟨i, j, rfl, rfl, hz, q⟩ := h
  obtain ⟨t, rfl⟩ := rx
  obtain ⟨t', rfl⟩ := ry
  exact add_str (fun t' tk => ⟨.str (i ++ j), H, I.tok _, ⟨_, rfl⟩, q⟩) hz
theorem vals1 {x : V} {us : List Value} (r : Vals [x] us) : ∃ u, us = [u] /\ RelV x u := by
  cases r with
  | cons r1 r2 => cases r2; exact ⟨_, rfl, r1⟩
theorem vals2 {x y : V} {us : List Value} (r : Vals [x, y] us) : ∃ u w', us = [u, w'] /\ RelV x u /\ RelV y w' := by
  cases r with
  | cons r1 r2 =>
    cases r2 with
    | cons r3 r4 => cases r4; exact ⟨_, _, rfl, r1, r3⟩
theorem call_abs : CallR X (.builtin "abs") (fun xs H Q => ∃ i, xs = [.int i] /\ Q (.int (if i < 0 then -i else i)) H) := by
  intro pins s Z H xs us Q I r h
  obtain ⟨i, rfl, q⟩ := h
  obtain ⟨u, rfl, t, rfl⟩ := vals1 r
  exact call_abs_int fun u tk => ⟨.int (if i < 0 then -i else i), H, I.tok _, ⟨_, rfl⟩, q⟩
theorem call_max2 (hc : X.calm = true) : CallR X (.builtin "max") (fun xs H Q => ∃ i j, xs = [.int i, .int j] /\ Q (.int (if j > i then j else i)) H) := by
  intro pins s Z H xs us Q I r h
  obtain ⟨i, j, rfl, q⟩ := h
  obtain ⟨u, w', rfl, ⟨t, rfl⟩, ⟨t', rfl⟩⟩ := vals2 r
  refine max_two_ints (I.ok.hd hc) fun h' tk k => ⟨_, H, I.kept k, ?_, q⟩
  by_cases hj : j > i
  · rw [if_pos hj, if_pos hj]; exact ⟨_, rfl⟩
  · rw [if_neg hj, if_neg hj]; exact ⟨_, rfl⟩
end
end L2
namespace L2
open PySem.Spec PyProof.Rows
section
variable {prog : Program} {w : World} {A : Around} {E : Value -> Shared -> Prop} {s : Shared} {K : xFg} {x dx C f : Addr} {mA : Str -> Option Value} {name : Str} {v : Value}
end
section
variable {P : Program} {w : World} {H H' : Hp} {h h' : Heap} {a C dx : Addr} {fs fs' : List (Str × V)}
end
section
variable {X : Cx} {pins : List (Addr × Obj)} {Z : St} {H : Hp} {s : Shared} {a C dx : Addr} {fs : List (Str × V)} {f : Str} {v : V} {A : Around} {E : Value -> Shared -> Prop}
end
section
variable {X : Cx} {o e value : Expr} {f : Str} {pos pos' tpos : Pos} {ta tv : TE}
end
section
variable {X : Cx} {pins : List (Addr × Obj)} {Z : St} {H : Hp} {s : Shared} {A : Around} {E : Value -> Shared -> Prop} {Q : Value -> Shared -> Prop} {c : Value} {b : Bool}
end
end L2
namespace L2
open PySem.Spec PyProof.Rows
structure Room (k : Nat) (A : Around) : Prop where
  hd : A.handled = none
  dp : A.depth + 3 * k + 5 < recursionLimit
  un : A.units + 16 * k + 200 < cLine
theorem Room.mono {j k : Nat} {A : Around} (r : Room k A) (h : j <= k) : Room j A := ⟨r.hd, by have := r.dp; omega, by have := r.un; omega⟩
theorem Room.deeper {k : Nat} {A : Around} (r : Room (k + 1) A) (env : Env) : Room k (A.deeper env) :=
  ⟨r.hd, by have := r.dp; show A.depth + 1 + 3 * k + 5 < _; omega, by have := r.un; show A.units + 3 + 16 * k + 200 < _; omega⟩
theorem Room.depth {k : Nat} {A : Around} (r : Room k A) : A.depth < recursionLimit := by have := r.dp; omega
def tNil : TA := fun _ H Q => Q [] H
def tCons (ta : TE) (tr : TA) : TA := fun Z H Q => ta Z H fun x H1 => tr Z H1 fun xs H2 => Q (x :: xs) H2
section
variable {X : Cx} {e : Expr} {es : List Expr} {te : TE} {t : TA} {pos : Pos}
theorem pa_nil : PA X [] tNil := fun _ _ _ _ H Q I h => Calls.spliced_nil ⟨[], H, I, .nil, h⟩
theorem pa_cons (ha : PE X e te) (hr : PA X es t) (hs : starEach (e :: es) X.env = (false, eval e X.env) :: starEach es X.env := by rfl) : PA X (e :: es) (tCons te t) := by
  intro pos pins s Z H Q I h
  rw [hs]
  show wpAny _ _ (spliced ((false, eval e X.env) :: backTo pos (starEach es X.env))) _ _ s
  refine Calls.spliced_cons (thn (ha pins s Z H _ I h) fun u s1 ⟨x, H1, I1, r1, q1⟩ => ?_)
  exact thn (hr pos pins s1 Z H1 _ I1 q1) fun us s2 ⟨xs, H2, I2, r2, q2⟩ => ⟨x :: xs, H2, I2, .cons r1 r2, q2⟩
def tTup (t : TA) : TE := fun Z H Q => t Z H fun xs H1 => xs.length <= sizeLine /\ ∀ p, H1 p = none -> Q (.ref p) (upd H1 p (.tup xs))
def tLst (t : TA) : TE := fun Z H Q => t Z H fun xs H1 => xs.length <= sizeLine /\ ∀ p, H1 p = none -> Q (.ref p) (upd H1 p (.lst xs))
theorem pe_tup {x1} (h : PA X es t) : PE X (.Tuple es x1 pos) (tTup t) := by
  intro pins s Z H Q I hq
  refine wpAny_Tuple_spliced (thn (h pos pins s Z H _ I hq) fun us s1 ⟨xs, H1, I1, r, z, q⟩ => ⟨by rw [<- r.length]; exact z, ?_⟩)
  have hf : H1 s1.heap.objs.size = none := I1.hok.fresh (xai _)
  refine ⟨.ref s1.heap.objs.size, upd H1 s1.heap.objs.size (.tup xs), I1.laid (t' := s1.toks) (fun b u e => xad _ e) (xai _) ?_, rfl, q _ hf⟩
  exact ⟨z, us, r, ⟨_, xaz _ rfl, rfl, _, rfl⟩⟩
theorem pe_lst (h : PA X es t) : PE X (.List es pos) (tLst t) := by
  intro pins s Z H Q I hq
  refine wpAny_List_spliced (thn (h pos pins s Z H _ I hq) fun us s1 ⟨xs, H1, I1, r, z, q⟩ => ⟨by rw [<- r.length]; exact z, ?_⟩)
  have hf : H1 s1.heap.objs.size = none := I1.hok.fresh (xai _)
  refine ⟨.ref s1.heap.objs.size, upd H1 s1.heap.objs.size (.lst xs), I1.laid (t' := s1.toks) (fun b u e => xad _ e) (xai _) ?_, rfl, q _ hf⟩
  exact ⟨z, us, 0, r, xaz _ rfl⟩
end
abbrev Sp := List V -> Hp -> VK -> XK -> Prop
abbrev CXT := List Env -> Hp -> Shared -> XK -> Value -> Shared -> Prop
structure Env0 (P : Program) (w : World) (K : xFg) (mg : Str -> Option Value) (base : Heap) (A : Around) (outer : List Env) (s : Shared) (H : Hp) : Prop where
  frames : A.frames = some outer
  mod : Mod K mg base
  bs : ∀ b o, base.get? b = some o -> s.heap.get? b = some o /\ H b = none
  bsz : base.objs.size <= s.heap.objs.size
  funs : s.heap.FunFrames base outer
  frf : ∀ b ∈ frs outer, H b = none
  hok : HOk P w H s.heap
  bare : AllBare s.gens
def CE (outer : List Env) (P : Program) (w : World) (H : Hp) (s : Shared) (Q : VK) (u : Value) (s' : Shared) : Prop :=
  ∃ v H', s'.os = s.os /\ AllBare s'.gens /\ Un (frs outer) [] H H' s.heap s'.heap /\ HOk P w H' s'.heap /\ RelV v u /\ Q v H'
def CR (CX : CXT) (outer : List Env) (P : Program) (w : World) (H : Hp) (s : Shared) (Q : VK) (E : XK) (r : Result) (s' : Shared) : Prop :=
  match r with
  | .ok (.ret u) => CE outer P w H s Q u s'
  | .ok _ => False
  | .error e => CX outer H s E e s'
structure FnOk (P : Program) (w : World) (K : xFg) (mg : Str -> Option Value) (base : Heap) (CX : CXT) (k : Nat) (f : Addr) (fd : FuncData) (ps : List Str) (sp : Sp) : Prop where
  len : ∀ vs H Q E, sp vs H Q E -> vs.length = ps.length
  run : ∀ (A : Around) (outer : List Env) (s : Shared) (H : Hp) (args : Args) (us : List Value) (vs : List V) (Q : VK) (E : XK), Room k A -> Env0 P w K mg base A outer s H -> BindsTo s fd args (ps.zip us) -> Vals vs us -> sp vs H Q E ->
    codeAny (model P w) A (.call (.ref f) args) (CR CX outer P w H s Q E) s
theorem FnOk.mono {P : Program} {w : World} {K : xFg} {mg : Str -> Option Value} {base : Heap} {CX : CXT} {j k : Nat} {f : Addr} {fd : FuncData} {ps : List Str} {sp : Sp} (F : FnOk P w K mg base CX j f fd ps sp) (h : j <= k) :
    FnOk P w K mg base CX k f fd ps sp := ⟨F.len, fun A outer s H args us vs Q E hr => F.run A outer s H args us vs Q E (hr.mono h)⟩
theorem FnOk.imp {P : Program} {w : World} {K : xFg} {mg : Str -> Option Value} {base : Heap} {CX : CXT} {k : Nat} {f : Addr} {fd : FuncData} {ps : List Str} {sp sp' : Sp} (F : FnOk P w K mg base CX k f fd ps sp)
    (h : ∀ vs H Q E, sp' vs H Q E -> sp vs H Q E) : FnOk P w K mg base CX k f fd ps sp' :=
  ⟨fun vs H Q E q => F.len vs H Q E (h _ _ _ _ q), fun A outer s H args us vs Q E hr he hb hv hs => F.run A outer s H args us vs Q E hr he hb hv (h _ _ _ _ hs)⟩
section
variable {X : Cx} {pins : List (Addr × Obj)} {Z : St} {H : Hp} {s s' : Shared}
theorem Inv.env0 (I : Inv X pins Z H s) : Env0 X.prog X.w X.K X.mg X.base X.A X.stack s H :=
  ⟨I.ok.frames, I.ok.mod, I.bs, xa5 I.ok.bsz I.sz, I.stack, I.stkFree, I.hok, I.bare⟩
theorem Inv.after {Q : VK} {u : Value} (I : Inv X pins Z H s) (h : CE X.stack X.prog X.w H s Q u s') : EP X pins Z Q u s' := by
  obtain ⟨v, H', os, bare, un, hok, r, q⟩ := h
  obtain ⟨hh, g, d, t, os'⟩ := s'
  obtain rfl : os' = s.os := os
  exact ⟨v, H', I.call (h' := hh) (g' := g) (d' := d) (t' := t) (ch := []) un hok bare (fun b z => absurd z (by simp)), r, q⟩
end
def tCall (sp : Sp) (dvs : List V) (E : XK) (t : TA) : TE := fun Z H Q => t Z H fun vs H1 => sp (vs ++ dvs) H1 Q E
def Binds (K : xFg) (fd : FuncData) (ps : List Str) (ds : List Value) : Prop :=
  ∀ (s : Shared) (us : List Value), K.In s.heap -> (us ++ ds).length = ps.length -> BindsTo s fd ⟨us, []⟩ (ps.zip (us ++ ds))
theorem Binds.all {K : xFg} {fd : FuncData} {ps : List Str} (h : ∀ us : List Value, us.length = ps.length -> bindArgs fd ⟨us, []⟩ = pure (ps.zip us)) : Binds K fd ps [] := fun s us _ hl => by
  rw [xcw] at hl ⊢
  exact .of_eq (h us hl)
def Passes (CX : CXT) (X : Cx) (E : XK) : Prop := ∀ (pins : List (Addr × Obj)) (Z : St) (H : Hp) (s : Shared) (e : Value) (s' : Shared), Inv X pins Z H s -> CX X.stack H s E e s' -> X.xe e s'
section
variable {X : Cx} {CX : CXT} {k : Nat} {f C : Addr} {fd : FuncData} {ps : List Str} {sp : Sp} {dvs : List V} {ds : List Value} {E : XK} {x m : Str} {p pos apos : Pos} {e o : Expr} {es : List Expr} {ta : TE} {t : TA}
theorem run_fn {pins : List (Addr × Obj)} {Z : St} {H : Hp} {s : Shared} {Q : VK} {us : List Value} {vs : List V} (F : FnOk X.prog X.w X.K X.mg X.base CX k f fd ps sp) (hr : Room k X.A) (hb : Binds X.K fd ps ds) (hd : Vals dvs ds) (hx : Passes CX X E)
    (I : Inv X pins Z H s) (r : Vals vs us) (h : sp (vs ++ dvs) H Q E) : wpAny (model X.prog X.w) X.A (call (.ref f) us) (EP X pins Z Q) X.xe s := by
  have r2 : Vals (vs ++ dvs) (us ++ ds) := r.append hd
  have hl : (us ++ ds).length = ps.length := by rw [<- r2.length]; exact F.len _ _ _ _ h
  refine wpAny_call (codeAny_mono (F.run X.A X.stack s H ⟨us, []⟩ (us ++ ds) (vs ++ dvs) Q E hr I.env0 (hb s us I.kIn hl) r2 h) fun r s' hq => ?_)
  cases r with
  | error e => exact hx pins Z H s e s' I hq
  | ok fl =>
    cases fl with
    | ret u => exact I.after hq
    | next => exact False.elim hq
    | brk => exact False.elim hq
    | cont => exact False.elim hq
theorem pe_call (F : FnOk X.prog X.w X.K X.mg X.base CX k f fd ps sp) (hr : Room k X.A) (hg : Gl X x) (hm : X.mg x = some (.ref f)) (hk : PySem.W.keepIn X.K (.ref f) = true) (hb : Binds X.K fd ps ds) (hd : Vals dvs ds) (hx : Passes CX X E)
    (ha : PA X (e :: es) t) (hdb : (x == ("__debug__" : Str)) = false := by decide) (he : starEach (e :: es) X.env = (false, eval e X.env) :: starEach es X.env := by rfl) (hpl : (backTo pos (starEach es X.env)).any (·.1) = false := by rfl) :
    PE X (.Call (.Name x p) (e :: es) [] pos) (tCall sp dvs E t) := by
  intro pins s Z H Q I h
  refine wpAny_Call_Name_kw (ld_glob I hg hm ?_ hdb)
  refine PySem.W.callWith_K (h₀ := X.base) I.ok.mod.kin hk (thn (ha pos pins s Z H _ I h) fun us s1 ⟨vs, H1, I1, r, q⟩ => ⟨I1.kIn, ?_⟩) he hpl
  exact run_fn F hr hb hd hx I1 r q
theorem pe_call0 (F : FnOk X.prog X.w X.K X.mg X.base CX k f fd ps sp) (hr : Room k X.A) (hg : Gl X x) (hm : X.mg x = some (.ref f)) (hk : PySem.W.keepIn X.K (.ref f) = true) (hb : Binds X.K fd ps ds) (hd : Vals dvs ds) (hx : Passes CX X E)
    (hdb : (x == ("__debug__" : Str)) = false := by decide) : PE X (.Call (.Name x p) [] [] pos) (tCall sp dvs E tNil) := by
  intro pins s Z H Q I h
  refine wpAny_Call_Name_kw (ld_glob I hg hm ?_ hdb)
  exact PySem.W.callWith_K0 I.kIn hk (run_fn (us := []) F hr hb hd hx I .nil h)
end
section
variable {X : Cx} {CX : CXT} {k : Nat} {f C : Addr} {fd : FuncData} {ps ks : List Str} {sp : Sp} {E : XK} {x m : Str} {p pos apos kpos : Pos} {e o : Expr} {es : List Expr} {kws : List Keyword} {te ta : TE} {t tk : TA} {nm : Option Str}
variable {g : List Value -> List Value -> List Value} {gV : List V -> List V -> List V}
end
structure FnScope (N P : List Str) (sc : Scope) : Prop where
  kind : sc.kind = .function
  co : sc.isCoroutine = false
  gen : sc.isGenerator = false
  nd : N.Nodup
  pre : N.take P.length = P
  par : ∀ x ∈ P, sc.names.lookup x = some .local \/ sc.names.lookup x = some .cell
  nofree : ∀ y ∈ sc.names, y.2 ≠ .free
theorem bindL_out {kindOf : Str -> Option NameKind} {x : Str} : ∀ {binds : List (Str × Value)} {m : Str -> Option Value}, (∀ v, (x, v) ∉ binds) -> bindL kindOf binds m x = m x
  | [], _, _ => rfl
  | (n, v) :: r, m, h => by
    unfold bindL
    rw [bindL_out fun w hw => h w (xaf _ hw)]
    split
    · have : x ≠ n := by rintro rfl; exact h v xam
      simp [this]
    · rfl
theorem bindC_out {kindOf : Str -> Option NameKind} {x : Str} : ∀ {binds : List (Str × Value)} {m : Str -> Option Value}, (∀ v, (x, v) ∉ binds) -> bindC kindOf binds m x = m x
  | [], _, _ => rfl
  | (n, v) :: r, m, h => by
    unfold bindC
    rw [bindC_out fun w hw => h w (xaf _ hw)]
    split
    · rfl
    · have : x ≠ n := by rintro rfl; exact h v xam
      simp [this]
theorem bindL_get {kindOf : Str -> Option NameKind} {x : Str} {v : Value} : ∀ {P : List Str} {vs : List Value} {i : Nat} {m : Str -> Option Value}, P.Nodup -> P[i]? = some x -> vs[i]? = some v -> kindOf x = some .local ->
    bindL kindOf (P.zip vs) m x = some v
  | [], _, _, _, _, h, _, _ => by simp at h
  | _ :: _, [], _, _, _, _, h, _ => by simp at h
  | p :: P, w :: vs, 0, m, nd, h1, h2, hk => by
    simp at h1 h2; subst h1; subst h2
    show bindL kindOf ((p, w) :: P.zip vs) m p = _
    unfold bindL
    rw [bindL_out fun v hv => (xb8.mp nd).1 (xcx hv).1, if_pos hk]
    simp
  | p :: P, w :: vs, i + 1, m, nd, h1, h2, hk => by
    show bindL kindOf ((p, w) :: P.zip vs) m x = _
    unfold bindL
    exact bindL_get (i := i) (xb8.mp nd).2 (by simpa using h1) (by simpa using h2) hk
theorem bindC_get {kindOf : Str -> Option NameKind} {x : Str} {v : Value} : ∀ {P : List Str} {vs : List Value} {i : Nat} {m : Str -> Option Value}, P.Nodup -> P[i]? = some x -> vs[i]? = some v -> kindOf x ≠ some .local ->
    bindC kindOf (P.zip vs) m x = some v
  | [], _, _, _, _, h, _, _ => by simp at h
  | _ :: _, [], _, _, _, _, h, _ => by simp at h
  | p :: P, w :: vs, 0, m, nd, h1, h2, hk => by
    simp at h1 h2; subst h1; subst h2
    show bindC kindOf ((p, w) :: P.zip vs) m p = _
    unfold bindC
    rw [bindC_out fun v hv => (xb8.mp nd).1 (xcx hv).1, if_neg hk]
    simp
  | p :: P, w :: vs, i + 1, m, nd, h1, h2, hk => by
    show bindC kindOf ((p, w) :: P.zip vs) m x = _
    unfold bindC
    exact bindC_get (i := i) (xb8.mp nd).2 (by simpa using h1) (by simpa using h2) hk
def start (N : List Str) (vs : List V) : St := vs.map some ++ List.replicate (N.length - vs.length) none
def cxOf (CX : CXT) (P : Program) (w : World) (K : xFg) (mg : Str -> Option Value) (base : Heap) (N : List Str) (qual : Str) (scope : Scope) (f : Addr) (cd : Value) (A : Around) (outer : List Env) (s : Shared) (H : Hp) (E : XK) : Cx where
  prog := P
  w := w
  K := K
  mg := mg
  base := base
  A := A.deeper (envOfC qual scope s.heap.objs.size f cd)
  N := N
  s₀ := s
  H₀ := H
  env := envOfC qual scope s.heap.objs.size f cd
  outer := outer
  stack := envOfC qual scope s.heap.objs.size f cd :: outer
  ex := []
  calm := true
  fn := fun _ => true
  pn := []
  xe := fun e s' => wpAny (model P w) (A.deeper (envOfC qual scope s.heap.objs.size f cd)) (leaving (envOfC qual scope s.heap.objs.size f cd) e) (fun _ s'' => CX outer H s E e s'') (fun e' s'' => CX outer H s E e' s'') s'
theorem cell_has {sc : Scope} {n : Nat} {x : Str} (h : sc.names.lookup x = some .cell) : ∃ c, (cellsFrom n sc.names []).lookup x = some c := by
  have q := PySem.W.cellsFrom_some sc.names n [] (.inl h)
  exact xba.mp q
theorem inv_start {CX : CXT} {P : Program} {w : World} {K : xFg} {mg : Str -> Option Value} {base : Heap} {N ps : List Str} {qual : Str} {scope : Scope} {f : Addr} {cd : Value} {A : Around} {outer : List Env} {s s1 : Shared} {H : Hp} {E : XK} {us : List Value} {vs : List V}
    (S : FnScope N ps scope) (hd : A.handled = none) (e0 : Env0 P w K mg base A outer s H) (hl : vs.length = ps.length) (r : Vals vs us)
    (x : InCallC s s.heap.objs.size (bindL (envOfC qual scope s.heap.objs.size f cd).kindOf (ps.zip us) fun _ => none) (cellsFrom (s.heap.objs.size + 1) scope.names []) (bindC (envOfC qual scope s.heap.objs.size f cd).kindOf (ps.zip us) fun _ => none) s1) :
    Inv (cxOf CX P w K mg base N qual scope f cd A outer s H E) [] (start N vs) H s1 := by
  have hpl : ps.length <= N.length := by have := congrArg List.length S.pre; rw [xa6] at this; omega
  obtain ⟨h1, tk, rfl, hk⟩ := x.done
  have noA : ∀ b : Addr, b ∉ (cxOf CX P w K mg base N qual scope f cd A outer s H E).ex := fun b z => absurd (show b ∈ ([] : List Addr) from z) (by simp)
  refine ⟨⟨e0.mod, S.kind, rfl, rfl, xai _, fun y z c h1 h2 => ?_, fun y hy => ?_, fun y c _ h => ?_, fun _ => hd, Around.frames_deeper e0.frames, .inr ⟨rfl, rfl⟩, fun b z => absurd z (noA b), e0.bs, e0.bsz, fun b _ _ => noA b, fun b z => absurd z (noA b), e0.funs, e0.frf⟩,
    rfl, e0.bare, Un.kept hk, ⟨_, x.toInCall.ns, fun i y v h1 h2 h3 => ?_⟩, fun y c h => ⟨_, x.cell y c h⟩, e0.hok.fresh (xai _), fun y c h => ?_, fun p hp => absurd (show p ∈ ([] : List (Addr × Obj)) from hp) (by simp), e0.hok.kept hk, ?_⟩
  · exact name_of_addr x.apart (PySem.mem_of_lookup h1) (PySem.mem_of_lookup h2)
  · have hy : scope.names.lookup y = some .cell \/ scope.names.lookup y = some .free := hy
    rcases hy with hy | hy
    · exact cell_has hy
    · exact absurd rfl (S.nofree _ (PySem.mem_of_lookup hy))
  · exact xcd (x.above y c (PySem.mem_of_lookup h))
  · have hi : i < vs.length := by
      unfold start at h2
      by_cases hi : i < vs.length
      · exact hi
      · rw [xb5 (by simpa using hi)] at h2
        rw [xck] at h2
        split at h2 <;> cases h2
    have ha : vs[i]? = some v := by
      unfold start at h2
      rw [xbx (by simpa using hi), xbt] at h2
      cases e : vs[i]? with
      | none => rw [e] at h2; cases h2
      | some a => rw [e] at h2; cases h2; rfl
    obtain ⟨u, hu, rv⟩ := r.get ha
    have hp : ps[i]? = some y := by
      rw [<- S.pre, List.getElem?_take_of_lt (by omega)]; exact h1
    have ndP : ps.Nodup := by rw [<- S.pre]; exact S.nd.sublist (List.take_sublist _ _)
    refine ⟨u, rv, ?_⟩
    rcases S.par y (xbc hp) with k | k
    · exact .inl ⟨k, bindL_get ndP hp hu k⟩
    · obtain ⟨c, e⟩ := cell_has (n := s.heap.objs.size + 1) k
      refine .inr ⟨.inl k, c, e, ?_⟩
      have q := x.cell y c e
      rw [bindC_get ndP hp hu (by show scope.names.lookup y ≠ _; rw [k]; decide)] at q
      exact q
  · exact e0.hok.fresh (xcd (x.above y c (PySem.mem_of_lookup h)))
  · unfold start
    show _ = N.length
    rw [xbv, xab, xcr]
    omega
theorem fn_of {CX : CXT} {P : Program} {w : World} {K : xFg} {mg : Str -> Option Value} {base : Heap} {k : Nat} {f : Addr} {name qual : Str} {params : Arguments} {body : List Stmt} {scope : Scope} {dV kV doc pm cdv ct oc : Value} {an od : Option Addr}
    {osl : Array (Option Value)} {N ps : List Str} {sp : Sp} (lk : K.lookup f = some ⟨oc, od, .func (PySem.W.fnOf name qual params body scope dV kV doc pm an cdv ct), osl⟩) (hcd : PySem.W.codeIn K cdv qual = true) (S : FnScope N ps scope)
    (len : ∀ vs H Q E, sp vs H Q E -> vs.length = ps.length)
    (hbody : ∀ (A : Around) (outer : List Env) (s : Shared) (H : Hp) (vs : List V) (Q : VK) (E : XK), Room k (A.deeper (envOfC qual scope s.heap.objs.size f cdv)) -> sp vs H Q E ->
      ∃ t, PSs (cxOf CX P w K mg base N qual scope f cdv A outer s H E) body t /\ t { nx := fun _ H' => Q .non H', rt := Q } (start N vs) H) :
    FnOk P w K mg base CX (k + 1) f (PySem.W.fnOf name qual params body scope dV kV doc pm an cdv ct) ps sp := by
  refine ⟨len, fun A outer s H args us vs Q E hr e0 hb r hsp => ?_⟩
  have hl := len _ _ _ _ hsp
  have KX : K.In s.heap := e0.mod.kin.keeps fun b o e => (e0.bs b o e).1
  have lim : s.heap.NoLimit := e0.mod.nolimit.keeps fun b o e => (e0.bs b o e).1
  have hkind : ∀ y ∈ ps.zip us, scope.names.lookup y.1 = some .local \/ (scope.names.lookup y.1 = some .cell /\ ((cellsFrom (s.heap.objs.size + 1) scope.names []).lookup y.1).isSome = true) := fun ⟨n, v⟩ hy => by
    rcases S.par n (xcx hy).1 with q | q
    · exact .inl q
    · exact .inr ⟨q, PySem.W.cellsFrom_some _ _ _ (.inl q)⟩
  refine codeAny_call_function hr.depth (KX _ _ lk) rfl S.co S.gen rfl (PySem.W.codeRec_of KX hcd) (hb _ _ _ _ ?_)
  refine wpAny_newFunctionEnv_cells S.kind hkind fun env he s1 x => ?_
  subst he
  refine ⟨lim.keeps x.toInCall.keep, codeAny_func ?_⟩
  obtain ⟨t, ht, hq⟩ := hbody A outer s H vs Q E (hr.deeper _) hsp
  have I : Inv (cxOf CX P w K mg base N qual scope f cdv A outer s H E) [] (start N vs) H s1 := inv_start S hr.hd e0 hl r x
  refine wpAny_mono (ht [] s1 (start N vs) H _ I hq) (fun fl s' hs => ?_) fun e s' hs => hs
  have fin : ∀ {Z' : St} {H' : Hp} {v : V} {u : Value}, Inv (cxOf CX P w K mg base N qual scope f cdv A outer s H E) [] Z' H' s' -> RelV v u -> Q v H' -> CE outer P w H s Q u s' :=
    fun {Z' H' v u} J rv q => ⟨v, H', J.os, J.bare, J.base, J.hok, rv, q⟩
  cases fl with
  | ret u =>
    obtain ⟨v, Z', H', J, rv, q⟩ := hs
    exact fin J rv q
  | next =>
    obtain ⟨Z', H', J, q⟩ := hs
    exact fin (v := V.non) (u := Value.none) J rfl q
  | brk =>
    obtain ⟨_, _, _, q⟩ := hs
    exact False.elim q
  | cont =>
    obtain ⟨_, _, _, q⟩ := hs
    exact False.elim q
end L2
namespace L2
open PySem.Spec PyProof.Rows
section
variable {X : Cx} {x : Str} {p pos : Pos} {e : Expr} {es : List Expr} {t : TA} {id T : String} {r : List V -> Hp -> VK -> Prop}
def tCB (r : List V -> Hp -> VK -> Prop) (t : TA) : TE := fun Z H Q => t Z H fun vs H1 => r vs H1 Q
theorem pe_callB (hc : CallR X (.builtin id) r) (hg : Gl X x) (hm : X.mg x = none) (hv : bootBuiltins x = some (.builtin id)) (ha : PA X (e :: es) t) (hn : x ≠ "__name__" := by decide) (hdb : (x == ("__debug__" : Str)) = false := by decide)
    (he : starEach (e :: es) X.env = (false, eval e X.env) :: starEach es X.env := by rfl) (hpl : (backTo pos (starEach es X.env)).any (·.1) = false := by rfl) : PE X (.Call (.Name x p) (e :: es) [] pos) (tCB r t) := by
  intro pins s Z H Q I h
  refine wpAny_Call_Name_kw (ld_blt I hg hm hv ?_ hn hdb)
  exact PyProof.Rows.callWith_builtin1 (thn (ha pos pins s Z H _ I h) fun us s1 ⟨vs, H1, I1, r1, q1⟩ => hc pins s1 Z H1 vs us Q I1 r1 q1) he hpl
theorem pe_callTy (hc : CallR X (.type T) r) (hg : Gl X x) (hm : X.mg x = none) (hv : bootBuiltins x = some (.type T)) (ha : PA X (e :: es) t) (hn : x ≠ "__name__" := by decide) (hdb : (x == ("__debug__" : Str)) = false := by decide)
    (he : starEach (e :: es) X.env = (false, eval e X.env) :: starEach es X.env := by rfl) (hpl : (backTo pos (starEach es X.env)).any (·.1) = false := by rfl) : PE X (.Call (.Name x p) (e :: es) [] pos) (tCB r t) := by
  intro pins s Z H Q I h
  refine wpAny_Call_Name_kw (ld_blt I hg hm hv ?_ hn hdb)
  exact PyProof.Rows.callWith_type1 (thn (ha pos pins s Z H _ I h) fun us s1 ⟨vs, H1, I1, r1, q1⟩ => hc pins s1 Z H1 vs us Q I1 r1 q1) he hpl
end
end L2
namespace HT
open PyProof.Rows
section
open PySem.SeqAt
open PySem.AutoSeq1 (wpAny_loadPart')
open PySem.MeetsSeq PySem.MeetsSeq2 PySem.MeetsSeq3
end
section
variable {prog : Program} {w : World} {A : Around} {E : Value -> Shared -> Prop} {s : Shared}
theorem cat_tup {t b : Addr} {vs ws : List Value} {Q : Value -> Shared -> Prop} (ht : IsTup s.heap t vs.toArray) (hb : IsTup s.heap b ws.toArray) (hv : vs ≠ [])
    (h1 : ws = [] -> Q (.ref t) s) (h2 : ws ≠ [] -> Q (.ref s.heap.objs.size) { s with heap := s.heap.push { cls := .type "tuple", data := .seq (vs ++ ws).toArray } })
    (hsz : vs.length + ws.length <= sizeLine) : wpAny (model prog w) A (binaryOp .Add (.ref t) (.ref b)) Q E s := by
  obtain ⟨⟨cls, dd, data, sl⟩, ho, hc, n, hd⟩ := id ht
  obtain ⟨⟨cls2, dd2, data2, sl2⟩, ho2, hc2, n2, hd2⟩ := id hb
  simp only at hc hd hc2 hd2
  subst hc hd hc2 hd2
  have e : vs.toArray ++ ws.toArray = (vs ++ ws).toArray := by simp
  by_cases hw : ws = []
  · exact concat_meets ⟨_, ho, rfl⟩ ⟨_, ho2, rfl⟩ noFill_tuple_add seq_tuple_add PySem.F.slot_tuple_add PySem.F.entry_tuple_add (PySem.F.args_tuple_add_2 _ _)
      (tuple_addW1 t b vs.toArray ws.toArray n n2 dd dd2 sl sl2 (by simpa using hv) (by simp [hw])) ⟨ho, ho2, h1 hw⟩
  · refine concat_meets ⟨_, ho, rfl⟩ ⟨_, ho2, rfl⟩ noFill_tuple_add seq_tuple_add PySem.F.slot_tuple_add PySem.F.entry_tuple_add (PySem.F.args_tuple_add_2 _ _)
      (tuple_addW2 t b vs.toArray ws.toArray n n2 dd dd2 sl sl2 (by simpa using hv) (by simpa using hw) (by rw [xah, xah]; exact hsz)) ⟨ho, ho2, ?_⟩
    rw [e]
    exact h2 hw
def sIx (n d : Nat) : Option Int -> Nat
  | none => d
  | some v => if v < 0 then (v + (n : Int)).toNat else min v.toNat n
theorem sIx_none (n d : Nat) : sIx n d none = d := rfl
theorem sIx_nat (n d k : Nat) : sIx n d (some (k : Int)) = min k n := by
  show (if (k : Int) < 0 then ((k : Int) + (n : Int)).toNat else min (k : Int).toNat n) = min k n
  rw [if_neg (by omega), Int.toNat_natCast]
theorem sIx_le (n d : Nat) (hd : d <= n) (o : Option Int) : sIx n d o <= n := by
  cases o with
  | none => exact hd
  | some v =>
    show (if v < 0 then (v + (n : Int)).toNat else min v.toNat n) <= n
    by_cases hv : v < 0
    · rw [if_pos hv]; omega
    · rw [if_neg hv]; exact Nat.min_le_right _ _
theorem clip_eq (v : Int) (n d : Nat) : (if v < 0 then max (v + (n : Int)) 0 else min v (n : Int)) = ((sIx n d (some v) : Nat) : Int) := by
  show (if v < 0 then max (v + (n : Int)) 0 else min v (n : Int)) = (((if v < 0 then (v + (n : Int)).toNat else min v.toNat n) : Nat) : Int)
  by_cases hv : v < 0
  · simp only [if_pos hv]; omega
  · simp only [if_neg hv]; omega
theorem adjust_gen (lo hi : Option Int) (n : Nat) : Builtin.Slice.sliceAdjust lo hi 1 (n : Int) = (((sIx n 0 lo : Nat) : Int), ((sIx n n hi : Nat) : Int)) := by
  have h1 : ¬ ((1 : Int) < 0) := by omega
  unfold Builtin.Slice.sliceAdjust
  simp only [h1, if_false]
  refine xao ?_ ?_
  · cases lo with
    | none => rfl
    | some v => exact clip_eq v n 0
  · cases hi with
    | none => rfl
    | some v => exact clip_eq v n n
theorem places_gen (i j : Nat) : Builtin.Slice.slicePlaces (i : Int) (j : Int) 1 = j - i := by
  unfold Builtin.Slice.slicePlaces
  have h1 : (1 : Int) > 0 := by omega
  simp only [h1, if_true, Int.ediv_one]
  split <;> omega
theorem slicePart_ {v : Value} {o : Option Int} {Q : Option Int -> Shared -> Prop} (p : IsPart v o) (h : Q o s) : wpAny (model prog w) A (Builtin.Slice.slicePartIndex v) Q E s := by
  cases p with
  | none => exact slicePart_none h
  | int i t => exact slicePart_int h
theorem sliceApplied_gen {sl : Addr} {vl vu : Value} {lo hi : Option Int} {n : Nat} {Q : Int × Int × Nat -> Shared -> Prop} (hs : s.heap.IsSliceOf sl vl vu .none) (pl : IsPart vl lo) (pu : IsPart vu hi)
    (h : Q (((sIx n 0 lo : Nat) : Int), 1, sIx n n hi - sIx n 0 lo) s) : wpAny (model prog w) A (Builtin.Slice.sliceApplied (.ref sl) (pure (n : Int))) Q E s := by
  obtain ⟨os, hos, hcs, hds⟩ := id hs
  unfold Builtin.Slice.sliceApplied Builtin.Slice.sliceFields
  refine wpAny_bind (wpAny_bind (wpAny_field hos hds (x := vl) rfl (wpAny_bind (wpAny_field hos hds (x := vu) rfl (wpAny_bind (wpAny_field hos hds (x := .none) rfl (wpAny_pure ?_)))))))
  refine wpAny_bind (slicePart_none ?_)
  show wpAny _ _ (if ((1 : Int) == 0) = true then _ else _) _ _ s
  rw [if_neg (by decide)]
  refine wpAny_bind (slicePart_ pl (wpAny_bind (slicePart_ pu (wpAny_bind (wpAny_pure ?_)))))
  show wpAny _ _ (match Builtin.Slice.sliceAdjust lo hi 1 (n : Int) with | (lo, hi) => pure (lo, (1 : Int), Builtin.Slice.slicePlaces lo hi 1)) _ _ s
  rw [adjust_gen lo hi n]
  show wpAny _ _ (pure (((sIx n 0 lo : Nat) : Int), (1 : Int), Builtin.Slice.slicePlaces ((sIx n 0 lo : Nat) : Int) ((sIx n n hi : Nat) : Int) 1)) _ _ s
  rw [places_gen]
  exact wpAny_pure h
theorem pick_gen (xs : Array Value) (i k : Nat) : ((List.range k).filterMap fun (m : Nat) => xs[((i : Int) + (m : Int) * 1).toNat]?).toArray = ((xs.toList.drop i).take k).toArray := by
  have e : (fun (m : Nat) => xs[((i : Int) + (m : Int) * 1).toNat]?) = fun m => xs[i + m]? := by
    funext m
    have : ((i : Int) + (m : Int) * 1).toNat = i + m := by omega
    rw [this]
  rw [e]
  have := pick_run xs i k
  rw [List.filterMap_map] at this
  have e2 : ((fun x => xs[x]?) ∘ fun x => i + x) = fun m => xs[i + m]? := rfl
  rw [e2] at this
  rw [this]
theorem getItem_tuple_cut {t sl : Addr} {items : Array Value} {vl vu : Value} {lo hi : Option Int} {Q : Value -> Shared -> Prop} (ht : IsTup s.heap t items) (hs : s.heap.IsSliceOf sl vl vu .none) (pl : IsPart vl lo) (pu : IsPart vu hi)
    (hw : ¬ (sIx items.size 0 lo = 0 /\ sIx items.size items.size hi = items.size))
    (h : Q (.ref s.heap.objs.size) { s with heap := s.heap.push { cls := .type "tuple", data := .seq ((items.toList.drop (sIx items.size 0 lo)).take (sIx items.size items.size hi - sIx items.size 0 lo)).toArray } })
    (hsz : items.size <= sizeLine) : wpAny (model prog w) A (getItem (.ref t) (.ref sl)) Q E s := by
  have htake : sizeOk (.seq ((items.toList.drop (sIx items.size 0 lo)).take (sIx items.size items.size hi - sIx items.size 0 lo)).toArray) := by
    show ((items.toList.drop (sIx items.size 0 lo)).take (sIx items.size items.size hi - sIx items.size 0 lo)).toArray.size <= sizeLine
    rw [xah, xa6, xby, xar]
    omega
  have hj : sIx items.size items.size hi <= items.size := sIx_le _ _ (xai _) hi
  obtain ⟨os, hos, hcs, hds⟩ := id hs
  have hTs : s.TypeIs (.ref sl) "slice" := ⟨os, hos, hcs⟩
  unfold getItem
  try with_reducible refine wpAny_holding ?_
  first | refine wpAny_bind (wpAny_pure ?_) | skip
  refine wpAny_bind (wpAny_sequenceKey ht.typeIs (by decide) ?_)
  refine wpAny_bind (wpAny_callSpecial?_slot (name := Str.ofString "__getitem__") ht.typeIs PyProof.Rows.slot_tuple_getitem
    (wpAny_call_entry PyProof.Rows.slot_tuple_getitem ht.typeIs entry_tuple_getitem ?_ (args_tuple_getitem _ _)))
  show wpAny _ _ (Builtin.Tuple.tupleItemsOf (.ref t) >>= _) _ _ s
  refine wpAny_bind (tupleItemsOf_ ht ?_)
  refine wpAny_bind (wpAny_typeOf hTs ?_)
  rw [if_pos (by decide)]
  refine wpAny_bind (sliceApplied_gen hs pl pu ?_)
  have hno : ¬ ((((sIx items.size 0 lo : Nat) : Int) == 0 && (1 : Int) == 1 && (sIx items.size items.size hi - sIx items.size 0 lo) == items.size) = true) := by
    intro q
    rw [xat, xat] at q
    have q1 : ((sIx items.size 0 lo : Nat) : Int) = 0 := eq_of_beq q.1.1
    have q2 : sIx items.size items.size hi - sIx items.size 0 lo = items.size := eq_of_beq q.2
    exact hw ⟨by omega, by omega⟩
  show wpAny _ _ (if (((sIx items.size 0 lo : Nat) : Int) == 0 && (1 : Int) == 1 && (sIx items.size items.size hi - sIx items.size 0 lo) == items.size) = true then _ else _) _ _ s
  rw [if_neg hno, pick_gen]
  first
    | exact wpAny_bind (m := Builtin.Tuple.tupleExact _) (wpAny_newObj_type (wpAny_pure ⟨_, rfl, wpAny_pure h⟩) htake)
    | exact wpAny_bind (m := Builtin.Tuple.tupleExact _) (wpAny_newObj_type (wpAny_bind (wpAny_pure (wpAny_pure ⟨_, rfl, wpAny_pure h⟩))) htake)
    | exact wpAny_bind (wpAny_bind (m := Builtin.Tuple.tupleExact _) (wpAny_newObj_type (wpAny_pure (wpAny_pure ⟨_, rfl, wpAny_pure h⟩)) htake))
    | exact wpAny_bind (wpAny_bind (m := Builtin.Tuple.tupleExact _) (wpAny_newObj_type (wpAny_pure ⟨_, rfl, wpAny_pure h⟩) htake))
end
end HT
namespace L2
open PySem.Spec PyProof.Rows
abbrev TO := St -> Hp -> (Option Int -> Hp -> Prop) -> Prop
def PO (X : Cx) (e : Option Expr) (t : TO) : Prop :=
  ∀ (pins : List (Addr × Obj)) (s : Shared) (Z : St) (H : Hp) (Q : Option Int -> Hp -> Prop), Inv X pins Z H s -> t Z H Q ->
    wpAny (model X.prog X.w) X.A (evalPart e X.env) (fun u s' => ∃ o H', Inv X pins Z H' s' /\ IsPart u o /\ Q o H') X.xe s
def tNoPart : TO := fun _ H Q => Q none H
def tPart (t : TE) : TO := fun Z H Q => t Z H fun x H1 => ∃ i, x = .int i /\ Q (some i) H1
section
variable {X : Cx} {e : Expr} {te : TE} {lo hi : Option Expr} {tl th : TO} {pos p2 : Pos}
theorem po_none : PO X none tNoPart := by
  intro pins s Z H Q I h
  rw [evalPart_none]
  exact wpAny_pure ⟨none, H, I, .none, h⟩
theorem po_some (h : PE X e te) : PO X (some e) (tPart te) := by
  intro pins s Z H Q I hw
  rw [evalPart_some]
  refine thn (h pins s Z H _ I hw) fun u s1 ⟨x, H1, I1, r1, q1⟩ => ?_
  obtain ⟨i, rfl, q⟩ := q1
  obtain ⟨t, rfl⟩ := r1
  exact ⟨some i, H1, I1, .int i t, q⟩
def SlR (X : Cx) (r : V -> Option Int -> Option Int -> Hp -> VK -> Prop) : Prop :=
  ∀ (pins : List (Addr × Obj)) (s : Shared) (Z : St) (H : Hp) (x : V) (v vl vu : Value) (lo hi : Option Int) (sl : Addr) (Q : VK), Inv X pins Z H s -> RelV x v -> s.heap.IsSliceOf sl vl vu .none -> IsPart vl lo -> IsPart vu hi -> r x lo hi H Q ->
    ∃ T id, typeLookup (.type T) "__getitem__" = pure (some (.builtin id)) /\ s.TypeIs v T /\ wpAny (model X.prog X.w) X.A (getItem v (.ref sl)) (EP X pins Z Q) X.xe s
theorem SlR.or {r r' : V -> Option Int -> Option Int -> Hp -> VK -> Prop} (h : SlR X r) (h' : SlR X r') : SlR X (fun x lo hi H Q => r x lo hi H Q \/ r' x lo hi H Q) := by
  intro pins s Z H x v vl vu lo hi sl Q I rx hs pl pu q
  rcases q with q | q
  · exact h pins s Z H x v vl vu lo hi sl Q I rx hs pl pu q
  · exact h' pins s Z H x v vl vu lo hi sl Q I rx hs pl pu q
def tSl (r : V -> Option Int -> Option Int -> Hp -> VK -> Prop) (te : TE) (tl th : TO) : TE := fun Z H Q => te Z H fun x H1 => tl Z H1 fun l H2 => th Z H2 fun u H3 => r x l u H3 Q
theorem pe_slice {r : V -> Option Int -> Option Int -> Hp -> VK -> Prop} (hr : SlR X r) (he : PE X e te) (hl : PO X lo tl) (hu : PO X hi th) : PE X (.Subscript e (.Slice lo hi none p2) pos) (tSl r te tl th) := by
  intro pins s Z H Q I h
  refine Subscript_ (thn (he pins s Z H _ I h) fun v s1 ⟨x, H1, I1, r1, q1⟩ => ?_)
  refine wpAny_Slice (thn (hl pins s1 Z H1 _ I1 q1) fun vl s2 ⟨l, H2, I2, pl, q2⟩ => thn (hu pins s2 Z H2 _ I2 q2) fun vu s3 ⟨u, H3, I3, pu, q3⟩ => ?_)
  rw [evalPart_none]
  refine wpAny_pure ?_
  have I4 : Inv X pins Z H3 { s3 with heap := s3.heap.push { cls := .type "slice", data := .fields #[vl, vu, .none] } } := I3.kept (t' := s3.toks) fun b ob q => xad _ q
  obtain ⟨T, id, hT, ht, hg⟩ := hr pins { s3 with heap := s3.heap.push { cls := .type "slice", data := .fields #[vl, vu, .none] } } Z H3 x v vl vu l u s3.heap.objs.size Q I4 r1 (Heap.IsSliceOf.new ..) pl pu q3
  show wpAny (model X.prog X.w) X.A (subscriptTail e (.Slice lo hi none p2) v (.ref s3.heap.objs.size)) (EP X pins Z Q) X.xe { s3 with heap := s3.heap.push { cls := .type "slice", data := .fields #[vl, vu, .none] } }
  exact tail_any (ops := [.ref s3.heap.objs.size, v]) ht hT hg (by with_unfolding_all rfl)
def cutV (xs : List V) (lo hi : Option Int) : List V := (xs.drop (HT.sIx xs.length 0 lo)).take (HT.sIx xs.length xs.length hi - HT.sIx xs.length 0 lo)
theorem cutV_length (xs : List V) (lo hi : Option Int) : (cutV xs lo hi).length <= xs.length := by
  unfold cutV
  rw [xa6, xby]
  omega
def rSlT (K : xFg) : V -> Option Int -> Option Int -> Hp -> VK -> Prop := fun x lo hi H Q => ∃ a xs, x = .ref a /\ SqT K H a xs /\
  ¬ (HT.sIx xs.length 0 lo = 0 /\ HT.sIx xs.length xs.length hi = xs.length) /\ ∀ p, H p = none -> Q (.ref p) (upd H p (.tup (cutV xs lo hi)))
theorem sl_tup : SlR X (rSlT X.K) := by
  intro pins s Z H x v vl vu lo hi sl Q I rx hs pl pu h
  obtain ⟨a, xs, rfl, hx, hw, q⟩ := h
  cases rx
  obtain ⟨its, r, ht, hz⟩ := I.tuple hx
  have hlen : its.toArray.size = xs.length := by rw [xah]; exact r.length.symm
  refine ⟨"tuple", _, PyProof.Rows.slot_tuple_getitem.lookup, ht.typeIs, ?_⟩
  refine HT.getItem_tuple_cut ht hs pl pu (by rw [hlen]; exact hw) ?_ (by rw [hlen]; exact hz)
  rw [hlen]
  refine ⟨.ref s.heap.objs.size, _, I.laid (t' := s.toks) (o := .tup (cutV xs lo hi)) (fun b ob q => xad _ q) (xai _) ?_, rfl, q _ (I.hok.fresh (xai _))⟩
  exact ⟨xa5 (cutV_length xs lo hi) hz, _, (r.drop (HT.sIx xs.length 0 lo)).take (HT.sIx xs.length xs.length hi - HT.sIx xs.length 0 lo), IsTup.new _ _⟩
def rCatT (K : xFg) : R2 := fun x y H Q => ∃ a b xs ys, x = .ref a /\ y = .ref b /\ SqT K H a xs /\ SqT K H b ys /\ xs ≠ [] /\ xs.length + ys.length <= sizeLine /\
  (ys = [] -> Q (.ref a) H) /\ (ys ≠ [] -> ∀ p, H p = none -> Q (.ref p) (upd H p (.tup (xs ++ ys))))
theorem Vals.nil_iff {xs : List V} {us : List Value} (r : Vals xs us) : us = [] ↔ xs = [] := by
  cases r with
  | nil => simp
  | cons _ _ => simp
theorem op_catT : OpR X (binaryOp .Add) (rCatT X.K) := by
  intro pins s Z H x y v u Q I rx ry h
  obtain ⟨a, b, xs, ys, rfl, rfl, ha, hb, hx, hz, q1, q2⟩ := h
  cases rx
  cases ry
  obtain ⟨its, r1, p1, _⟩ := I.tuple ha
  obtain ⟨its2, r2, p2, _⟩ := I.tuple hb
  refine HT.cat_tup p1 p2 (fun z => hx (r1.nil_iff.mp z)) (fun z => ⟨.ref a, H, I, rfl, q1 (r2.nil_iff.mp z)⟩) (fun z => ?_) (by rw [<- r1.length, <- r2.length]; exact hz)
  refine ⟨.ref s.heap.objs.size, _, I.laid (t' := s.toks) (o := .tup (xs ++ ys)) (fun b ob q => xad _ q) (xai _) ?_, rfl, q2 (fun w => z (r2.nil_iff.mpr w)) _ (I.hok.fresh (xai _))⟩
  exact ⟨by rw [xbv]; exact hz, _, r1.append r2, IsTup.new _ _⟩
end
end L2
namespace L2
open PySem.Spec PyProof.Rows
def ixN (n : Nat) (i : Int) : Option Nat := if 0 <= i then (if i < n then some i.toNat else none) else if -(n : Int) <= i then some (i + n).toNat else none
def atI {α : Type} (xs : List α) (i : Int) : Option α := (ixN xs.length i).bind fun j => xs[j]?
theorem ixN_seq {n : Nat} {i : Int} {j : Nat} (h : ixN n i = some j) : seqIndex? i n = some j /\ j < n /\ -(n : Int) <= i /\ i < n := by
  unfold ixN at h
  by_cases h0 : 0 <= i
  · rw [if_pos h0] at h
    by_cases h1 : i < n
    · rw [if_pos h1] at h
      have e : i.toNat = j := Option.some.inj h
      exact ⟨by rw [seqIndex_of h0 h1, e], by omega, by omega, h1⟩
    · rw [if_neg h1] at h; cases h
  · rw [if_neg h0] at h
    by_cases h1 : -(n : Int) <= i
    · rw [if_pos h1] at h
      have e : (i + n).toNat = j := Option.some.inj h
      exact ⟨by rw [seqIndex_neg (by omega) h1, e], by omega, h1, by omega⟩
    · rw [if_neg h1] at h; cases h
theorem atI_get {α : Type} {xs : List α} {i : Int} {v : α} (h : atI xs i = some v) : ∃ j, seqIndex? i xs.length = some j /\ xs[j]? = some v /\ j < xs.length /\ -(xs.length : Int) <= i /\ i < xs.length := by
  unfold atI at h
  cases e : ixN xs.length i with
  | none => rw [e] at h; cases h
  | some j =>
    rw [e] at h
    obtain ⟨h1, h2, h3, h4⟩ := ixN_seq e
    exact ⟨j, h1, h, h2, h3, h4⟩
theorem atI_nat {α : Type} {xs : List α} {j : Nat} {v : α} (h : xs[j]? = some v) : atI xs (j : Int) = some v := by
  have hj : j < xs.length := (xae.mp h).1
  have e : ixN xs.length (j : Int) = some j := by
    unfold ixN
    rw [if_pos (by omega), if_pos (by omega)]; simp
  unfold atI; rw [e]; exact h
theorem atI_last {α : Type} (xs : List α) (v : α) : atI (xs ++ [v]) (-1) = some v := by
  have hl : (xs ++ [v]).length = xs.length + 1 := by simp
  have e : ixN (xs ++ [v]).length (-1) = some xs.length := by
    unfold ixN
    rw [hl, if_neg (by decide), if_pos (by omega)]
    congr 1
    omega
  unfold atI
  rw [e]
  show (xs ++ [v])[xs.length]? = some v
  simp
def PlainIx (b : Expr) : Prop := ∀ o i, subscripted b false o i = operate [o, i] (getItem o i)
def IxR (X : Cx) (r : R2) : Prop :=
  ∀ (value slice : Expr) (pins : List (Addr × Obj)) (s : Shared) (Z : St) (H : Hp) (x y : V) (v u : Value) (Q : VK), Inv X pins Z H s -> RelV x v -> RelV y u -> r x y H Q ->
    subscripted slice false v u = operate [v, u] (getItem v u) -> wpAny (model X.prog X.w) X.A (subscriptTail value slice v u) (EP X pins Z Q) X.xe s
def MtR (X : Cx) (id : String) (r : V -> List V -> Hp -> VK -> Prop) : Prop :=
  ∀ (pins : List (Addr × Obj)) (s : Shared) (Z : St) (H : Hp) (x : V) (xs : List V) (v : Value) (us : List Value) (Q : VK), Inv X pins Z H s -> RelV x v -> Vals xs us -> r x xs H Q ->
    wpAny (model X.prog X.w) X.A (call (.builtin id) (v :: us)) (EP X pins Z Q) X.xe s
section
variable {X : Cx} {a b : Expr} {ta tb : TE} {pos : Pos}
theorem IxR.or {r r' : R2} (h : IxR X r) (h' : IxR X r') : IxR X (fun x y H Q => r x y H Q \/ r' x y H Q) := by
  intro value slice pins s Z H x y v u Q I rx ry q hs
  rcases q with q | q
  · exact h value slice pins s Z H x y v u Q I rx ry q hs
  · exact h' value slice pins s Z H x y v u Q I rx ry q hs
theorem pe_ix {r : R2} (hr : IxR X r) (ha : PE X a ta) (hb : PE X b tb) (hs : PlainIx b) : PE X (.Subscript a b pos) (tOp r ta tb) := by
  intro pins s Z H Q I h
  exact Subscript_ (binT ha hb I h fun v u s2 x y H2 I2 rx ry q => hr a b pins s2 Z H2 x y v u Q I2 rx ry q (hs _ _))
def rIxL (K : xFg) : R2 := fun x y H Q => ∃ p xs i v, x = .ref p /\ y = .int i /\ SqL K H p xs /\ atI xs i = some v /\ Q v H
def rIxT (K : xFg) : R2 := fun x y H Q => ∃ p xs i v, x = .ref p /\ y = .int i /\ SqT K H p xs /\ atI xs i = some v /\ Q v H
theorem ix_list : IxR X (rIxL X.K) := by
  intro value slice pins s Z H x y v u Q I rx ry h hs
  obtain ⟨p, xs, i, z, rfl, rfl, hq, he, q⟩ := h
  cases rx
  obtain ⟨t, rfl⟩ := ry
  obtain ⟨its, r, pl, hz⟩ := I.list hq
  obtain ⟨j, h1, h2, h3, h4, h5⟩ := atI_get he
  obtain ⟨w, ew, rw'⟩ := r.get h2
  have hl := r.length
  have hn := line63
  have fin : EP X pins Z Q w s := ⟨z, H, I, rw', q⟩
  by_cases h0 : 0 <= i
  · have hj : i.toNat = j := by
      rw [seqIndex_of h0 h5] at h1
      exact Option.some.inj h1
    exact item_listR pl.isList h0 (by omega) (by rw [hj]; simpa using ew) fin hs
  · have hj : (i + (its.toArray.size : Int)).toNat = j := by
      rw [seqIndex_neg (by omega) h4] at h1
      rw [xah, <- hl]
      exact Option.some.inj h1
    exact subscriptTail_builtinR (x := w) pl.isList.typeIs slot_list_getitem.lookup
      (wpAny_getItem_list_neg (Q := fun r s' => r = w /\ EP X pins Z Q r s') pl.isList (by omega) (by rw [xah] <;> omega) (by omega) (by rw [hj]; simpa using ew) ⟨rfl, fin⟩) hs
theorem ix_tup : IxR X (rIxT X.K) := by
  intro value slice pins s Z H x y v u Q I rx ry h hs
  obtain ⟨p, xs, i, z, rfl, rfl, hq, he, q⟩ := h
  cases rx
  obtain ⟨t, rfl⟩ := ry
  obtain ⟨its, r, pl, hz⟩ := I.tuple hq
  obtain ⟨j, h1, h2, h3, h4, h5⟩ := atI_get he
  obtain ⟨w, ew, rw'⟩ := r.get h2
  have hl := r.length
  have hn := line63
  have fin : EP X pins Z Q w s := ⟨z, H, I, rw', q⟩
  exact subscriptTail_builtinR (x := w) pl.typeIs slot_tuple_getitem.lookup
    (getItem_tuple (j := j) (Q := fun r s' => r = w /\ EP X pins Z Q r s') pl (by omega) (by omega) (by rw [xah, <- hl]; exact h1) (by simpa using ew) ⟨rfl, fin⟩) hs
theorem slice_bounds (lo hi : Option Int) (n : Nat) : (sliceBounds lo hi none n).1 = ((HT.sIx n 0 lo : Nat) : Int) /\ (sliceBounds lo hi none n).2.1 = ((HT.sIx n n hi : Nat) : Int) /\ (sliceBounds lo hi none n).2.2 = 1 := by
  refine ⟨?_, ?_, rfl⟩
  · cases lo with
    | none => simp [sliceBounds, HT.sIx]
    | some i =>
      simp only [sliceBounds, HT.sIx, Option.getD_none, show (1 : Int) > 0 by decide, if_true]
      by_cases h : i < 0
      · simp only [h, if_true] <;> omega
      · simp only [h, if_false] <;> omega
  · cases hi with
    | none => simp [sliceBounds, HT.sIx]
    | some i =>
      simp only [sliceBounds, HT.sIx, Option.getD_none, show (1 : Int) > 0 by decide, if_true]
      by_cases h : i < 0
      · simp only [h, if_true] <;> omega
      · simp only [h, if_false] <;> omega
theorem slicePick_cut (its : List Value) (lo hi : Option Int) : slicePick its.toArray lo hi none = ((its.drop (HT.sIx its.length 0 lo)).take (HT.sIx its.length its.length hi - HT.sIx its.length 0 lo)).toArray := by
  obtain ⟨h1, h2, h3⟩ := slice_bounds lo hi its.toArray.size
  unfold slicePick
  rw [h1, h2, h3]
  simp only [sliceRange_one, pick_run, xah] <;> rfl
def rSlL (K : xFg) : V -> Option Int -> Option Int -> Hp -> VK -> Prop := fun x lo hi H Q => ∃ a xs, x = .ref a /\ SqL K H a xs /\ ∀ p, H p = none -> Q (.ref p) (upd H p (.lst (cutV xs lo hi)))
theorem sl_list : SlR X (rSlL X.K) := by
  intro pins s Z H x v vl vu lo hi sl Q I rx hs pl pu h
  obtain ⟨a, xs, rfl, hx, q⟩ := h
  cases rx
  obtain ⟨its, r, ht, hz⟩ := I.list hx
  have hlen := r.length
  refine ⟨"list", _, slot_list_getitem.lookup, ht.isList.typeIs, ?_⟩
  refine wpAny_getItem_list_slice ht.isList hs pl pu .none (by simp) ?_ (by rw [xah] <;> omega)
  rw [slicePick_cut, <- hlen]
  refine ⟨.ref s.heap.objs.size, _, I.laid (t' := s.toks) (o := .lst (cutV xs lo hi)) (fun b ob q => xad _ q) (xai _) ?_, rfl, q _ (I.hok.fresh (xai _))⟩
  exact ⟨xa5 (cutV_length xs lo hi) hz, _, 0, (r.drop (HT.sIx xs.length 0 lo)).take (HT.sIx xs.length xs.length hi - HT.sIx xs.length 0 lo), xaz _ rfl⟩
def flatV : V -> Bool
  | .non => true
  | .bl _ => true
  | .int _ => true
  | .str _ => true
  | _ => false
def eqV : V -> V -> Bool
  | .non, .non => true
  | .bl a, .bl b => a == b
  | .bl a, .int b => (if a then 1 else 0) == b
  | .int a, .bl b => a == (if b then 1 else 0)
  | .int a, .int b => a == b
  | .str a, .str b => a == b
  | _, _ => false
theorem eqAt_V {A : Around} {s : Shared} {y x : V} {u v : Value} (ry : RelV y u) (rx : RelV x v) (fy : flatV y = true) (fx : flatV x = true) : SeqAt.EqAt A s u v (eqV y x) := by
  cases y with
  | non =>
    cases ry
    cases x with
    | non => cases rx; exact SeqAt.EqAt.same _
    | bl b => cases rx; exact SeqAt.EqAt.none_bool b
    | int b => obtain ⟨t, rfl⟩ := rx; exact SeqAt.EqAt.none_int b t
    | str b => obtain ⟨t, rfl⟩ := rx; exact SeqAt.EqAt.none_str b t
    | _ => exact absurd (show false = true from fx) xaw
  | bl a =>
    cases ry
    cases x with
    | non => cases rx; exact SeqAt.EqAt.bool_none a
    | bl b => cases rx; exact SeqAt.EqAt.bool_bool a b
    | int b => obtain ⟨t, rfl⟩ := rx; exact SeqAt.EqAt.bool_int a b t
    | str b => obtain ⟨t, rfl⟩ := rx; exact SeqAt.EqAt.bool_str a b t
    | _ => exact absurd (show false = true from fx) xaw
  | int a =>
    obtain ⟨t', rfl⟩ := ry
    cases x with
    | non => cases rx; exact SeqAt.EqAt.int_none a t'
    | bl b => cases rx; exact SeqAt.EqAt.int_bool a t' b
    | int b => obtain ⟨t, rfl⟩ := rx; exact SeqAt.EqAt.int_int a t' b t
    | str b => obtain ⟨t, rfl⟩ := rx; exact SeqAt.EqAt.int_str a t' b t
    | _ => exact absurd (show false = true from fx) xaw
  | str a =>
    obtain ⟨t', rfl⟩ := ry
    cases x with
    | non => cases rx; exact SeqAt.EqAt.str_none a t'
    | bl b => cases rx; exact SeqAt.EqAt.str_bool a t' b
    | int b => obtain ⟨t, rfl⟩ := rx; exact SeqAt.EqAt.str_int a t' b t
    | str b => obtain ⟨t, rfl⟩ := rx; exact SeqAt.EqAt.str_str a t' b t
    | _ => exact absurd (show false = true from fx) xaw
  | _ => exact absurd (show false = true from fy) xaw
theorem op_notIn_str : OpR X (compareOp .NotIn) (fun x y H Q => ∃ i j, x = .str i /\ y = .str j /\ Q (.bl (!(!(Builtin.Str.occurrences j i 0 j.length 1).isEmpty))) H) := by
  intro pins s Z H x y v u Q I rx ry h
  obtain ⟨i, j, rfl, rfl, q⟩ := h
  obtain ⟨t, rfl⟩ := rx
  obtain ⟨t', rfl⟩ := ry
  exact notIn_str ⟨.bl _, H, I, rfl, q⟩
theorem call_len_seq : CallR X (.builtin "len") (fun xs H Q => ∃ p ys, xs = [.ref p] /\ (SqL X.K H p ys \/ SqT X.K H p ys) /\ Q (.int ys.length) H) := by
  intro pins s Z H xs us Q I r h
  obtain ⟨p, ys, rfl, hq, q⟩ := h
  obtain ⟨u, rfl, rx⟩ := vals1 r
  cases rx
  have hn := line63
  rcases hq with hq | hq
  · obtain ⟨its, r', pl, hz⟩ := I.list hq
    have hlen := r'.length
    exact Calls.call_len_list pl.isList (by simp only [xah] <;> omega) ⟨.int ys.length, H, I.tok _, ⟨s.toks + 1, by rw [xah, hlen]⟩, q⟩
  · obtain ⟨its, r', pl, hz⟩ := I.tuple hq
    have hlen := r'.length
    exact len_tuple pl (by simp only [xah] <;> omega) ⟨.int ys.length, H, I.tok _, ⟨s.toks + 1, by rw [xah, hlen]⟩, q⟩
theorem call_len_str : CallR X (.builtin "len") (fun xs H Q => ∃ z, xs = [.str z] /\ z.length <= sizeLine /\ Q (.int z.length) H) := by
  intro pins s Z H xs us Q I r h
  obtain ⟨z, rfl, hz, q⟩ := h
  obtain ⟨u, rfl, t, rfl⟩ := vals1 r
  have hn := line63
  exact len_str (by omega) ⟨.int z.length, H, I.tok _, ⟨_, rfl⟩, q⟩
theorem CallR.or {f : Value} {r r' : List V -> Hp -> VK -> Prop} (h : CallR X f r) (h' : CallR X f r') : CallR X f (fun xs H Q => r xs H Q \/ r' xs H Q) := by
  intro pins s Z H xs us Q I rs q
  rcases q with q | q
  · exact h pins s Z H xs us Q I rs q
  · exact h' pins s Z H xs us Q I rs q
theorem call_list_of : CallR X (.type "list") (fun xs H Q => ∃ p ys, xs = [.ref p] /\ (SqL X.K H p ys \/ SqT X.K H p ys) /\ ∀ l, H l = none -> Q (.ref l) (upd H l (.lst ys))) := by
  intro pins s Z H xs us Q I r h
  obtain ⟨p, ys, rfl, hq, q⟩ := h
  obtain ⟨u, rfl, rx⟩ := vals1 r
  cases rx
  have fin : ∀ (its : List Value), Vals ys its -> ys.length <= sizeLine -> ∀ (h' : Heap) (c' : Nat), (∀ b o', s.heap.get? b = some o' -> h'.get? b = some o') ->
      h'.get? s.heap.objs.size = some { cls := .type "list", dict := none, data := .seq its.toArray c', slots := #[] } -> EP X pins Z Q (.ref s.heap.objs.size) { s with heap := h' } := fun its r' hz h' c' kp e =>
    ⟨.ref s.heap.objs.size, _, I.laid (t' := s.toks) kp (xai _) (show ObjOk X.prog X.w _ h' _ (.lst ys) from ⟨hz, its, c', r', e⟩), rfl, q _ (I.hok.fresh (xai _))⟩
  rcases hq with hq | hq
  · obtain ⟨its, r', pl, hz⟩ := I.list hq
    have hlen := r'.length
    obtain ⟨o, ho, hc, n, hd⟩ := pl.isList
    exact call_list_seq p (.inl rfl) ho hc hd (fun h' c' kp e => fin its r' hz h' c' kp e) (by simp only [xah] <;> omega)
  · obtain ⟨its, r', pl, hz⟩ := I.tuple hq
    have hlen := r'.length
    obtain ⟨o, ho, hc, n, hd⟩ := pl
    exact call_list_seq p (.inr rfl) ho hc hd (fun h' c' kp e => fin its r' hz h' c' kp e) (by simp only [xah] <;> omega)
def tyV (K : xFg) (T : String) (x : V) (H : Hp) : Prop := match x with
  | .str _ => T = "str"
  | .int _ => T = "int"
  | .ref p => (T = "list" /\ ∃ xs, SqL K H p xs) \/ (T = "tuple" /\ ∃ o, K.lookup p = some o /\ o.cls = .type "tuple" /\ o.dict = none) \/
      (T = "dict" /\ ((∃ kvs, H p = some (.dK kvs)) \/ ∃ kvs, H p = some (.dT kvs))) \/ (T = "set" /\ ∃ S n, H p = some (.set S n))
  | _ => False
theorem tyV_is {pins : List (Addr × Obj)} {Z : St} {H : Hp} {s : Shared} {T : String} {x : V} {v : Value} (I : Inv X pins Z H s) (r : RelV x v) (ty : tyV X.K T x H) :
    s.TypeIs v T /\ ∀ a, v = .ref a -> ∃ ob, s.heap.get? a = some ob /\ ob.dict = none := by
  cases x with
  | str z =>
    obtain ⟨t, rfl⟩ := r
    cases (show T = "str" from ty)
    exact ⟨typeIs_str s z t, fun _ e => nomatch e⟩
  | int i =>
    obtain ⟨t, rfl⟩ := r
    cases (show T = "int" from ty)
    exact ⟨typeIs_int s i t, fun _ e => nomatch e⟩
  | ref p =>
    cases r
    rcases ty with ⟨rfl, xs, hq⟩ | ⟨rfl, o, hk, hc, hd⟩ | ⟨rfl, hk⟩ | ⟨rfl, S, n, hk⟩
    · obtain ⟨its, _, pl, _⟩ := I.list hq
      refine ⟨pl.isList.typeIs, fun a e => ?_⟩
      cases e
      obtain ⟨o, n, e, c, hd, _⟩ := pl
      exact ⟨o, e, hd⟩
    · refine ⟨⟨o, I.kIn p o hk, hc⟩, fun a e => ?_⟩
      cases e
      exact ⟨o, I.kIn _ o hk, hd⟩
    · have z : ∃ o, s.heap.get? p = some o /\ o.ExactDict := by
        rcases hk with ⟨kvs, hk⟩ | ⟨kvs, hk⟩
        · obtain ⟨_, _, _, _, o, _, _, e, ex, _⟩ := I.hok p _ hk
          exact ⟨o, e, ex⟩
        · obtain ⟨_, _, _, _, o, _, _, e, ex, _⟩ := I.hok p _ hk
          exact ⟨o, e, ex⟩
      obtain ⟨o, e, ex⟩ := z
      refine ⟨⟨o, e, ex.1⟩, fun a e2 => ?_⟩
      cases e2
      exact ⟨o, e, ex.2.1⟩
    · obtain ⟨o, _, _, _, e, ex, _⟩ := I.hok p _ hk
      refine ⟨⟨o, e, ex.1⟩, fun a e2 => ?_⟩
      cases e2
      exact ⟨o, e, ex.2.1⟩
  | _ => exact False.elim ty
def tBM (K : xFg) (T : String) (r : V -> List V -> Hp -> VK -> Prop) (to : TE) (t : TA) : TE := fun Z H Q => to Z H fun x H1 => tyV K T x H1 /\ t Z H1 fun xs H2 => r x xs H2 Q
variable {o e : Expr} {es : List Expr} {to : TE} {t : TA} {name : Str} {apos cpos : Pos} {T id : String} {r : V -> List V -> Hp -> VK -> Prop}
theorem pe_bm (pa : PlainAttrs T) (slot : Slot T name id) (hty : typeOf (.builtin id) = pure (.type "method_descriptor")) (hm : MtR X id r) (ho : PE X o to) (ha : PA X (e :: es) t)
    (hbase : attributeBase o name X.env (eval o X.env) = eval o X.env := by rfl)
    (hfew : ((backTo cpos (starEach (e :: es) X.env)).all (fun x => !x.1) && (backToKw cpos (keywordEach [] X.env)).all (fun x => x.1.isSome)
      && decide ((e :: es).length + ([] : List Keyword).length + (if ([] : List Keyword).isEmpty then 0 else 1) < 30)) = true := by rfl)
    (hline : (apos.endLine == cpos.line) = true := by rfl) (hs : starEach (e :: es) X.env = (false, eval e X.env) :: starEach es X.env := by rfl) (hplain : (backTo cpos (starEach es X.env)).any (·.1) = false := by rfl) :
    PE X (.Call (.Attribute o name apos) (e :: es) [] cpos) (tBM X.K T r to t) := by
  intro pins s Z H Q I h
  refine wpAny_Call_method_late hbase hfew hline rfl (thn (ho pins s Z H _ I h) fun v s1 ⟨x, H1, I1, r1, ty, q1⟩ => ?_)
  obtain ⟨h1, h2⟩ := tyV_is I1 r1 ty
  refine ⟨T, id, pa, slot, hty, h1, h2, ?_⟩
  have hA := ha cpos pins s1 Z H1 _ I1 q1
  rw [hs] at hA ⊢
  refine Calls.callWith_builtin (by show (false || (backTo cpos (starEach es X.env)).any (·.1)) = false; rw [hplain] <;> rfl) (Calls.evalArgs_plain ?_)
  exact thn hA fun us s2 ⟨vs, H2, I2, r2, q2⟩ => hm pins s2 Z H2 x vs v us Q I2 r1 r2 q2
end
end L2
namespace L2
open PySem.Spec PyProof.Rows
def MtM (X : Cx) (id : String) (r : V -> List V -> Hp -> VK -> Prop) : Prop :=
  ∀ (pins : List (Addr × Obj)) (s : Shared) (Z : St) (H : Hp) (x : V) (xs : List V) (v : Value) (us : List Value) (Q : VK), Inv X pins Z H s -> RelV x v -> Vals xs us -> r x xs H Q ->
    wpAny (model X.prog X.w) X.A (call (.builtin id) (v :: us)) (EP X pins Z Q) X.xe s
theorem Vals.one : ∀ {x : V} {us : List Value}, Vals [x] us -> ∃ u, us = [u] /\ RelV x u
  | _, _, .cons r .nil => ⟨_, rfl, r⟩
section
variable {X : Cx} {pins : List (Addr × Obj)} {Z : St} {H : Hp} {s : Shared} {l b : Addr} {xs ys zs : List V}
theorem Inv.lset {its its' : List Value} {n : Nat} {f : Array Value -> Array Value} {t' : Nat} (I : Inv X pins Z H s) (hH : H l = some (.lst xs))
    (e : s.heap.get? l = some { cls := .type "list", data := .seq its.toArray n }) (hf : f its.toArray = its'.toArray) (hv : Vals ys its') (hz : ys.length <= sizeLine) :
    Inv X pins Z (upd H l (.lst ys)) { s with heap := s.heap.update l (Obj.mapSeq f), toks := t' } := by
  have q := PySem.IsL.update e f
  rw [hf] at q
  refine I.write (x := l) (e := l) (by rw [hH]; exact trivial) (.inl rfl) (fun b' u hb hu => (xbf s.heap (Obj.mapSeq f) (xas hb)).trans hu) ⟨_, q⟩ ?_
  exact ⟨hz, its', _, hv, q⟩
theorem Inv.lnew {its : List Value} {t' : Nat} (I : Inv X pins Z H s) (hv : Vals ys its) (hz : ys.length <= sizeLine) :
    Inv X pins Z (upd H s.heap.objs.size (.lst ys)) { s with heap := s.heap.push { cls := .type "list", data := .seq its.toArray }, toks := t' } :=
  I.laid (fun _ _ q => xad _ q) (xai _) ⟨hz, its, 0, hv, xaz _ rfl⟩
theorem Inv.fresh (I : Inv X pins Z H s) : H s.heap.objs.size = none := I.hok.fresh (xai _)
theorem Inv.lstM (I : Inv X pins Z H s) (hH : H l = some (.lst xs)) : xs.length <= sizeLine /\ ∃ (its : List Value) (n : Nat), Vals xs its /\ xs.length = its.length /\ s.heap.get? l = some { cls := .type "list", data := .seq its.toArray n } := by
  obtain ⟨z, its, n, r, e⟩ := I.hok l _ hH
  exact ⟨z, its, n, r, r.length, e⟩
end
section
variable {X : Cx}
def rAppend : V -> List V -> Hp -> VK -> Prop := fun x vs H Q => ∃ l xs y, x = .ref l /\ vs = [y] /\ H l = some (.lst xs) /\ xs.length < sizeLine /\ Q .non (upd H l (.lst (xs ++ [y])))
theorem mt_append : MtM X "list.append" rAppend := by
  intro pins s Z H x vs v us Q I rx rv h
  obtain ⟨l, xs, y, rfl, rfl, hH, hz, q⟩ := h
  cases rx
  obtain ⟨u, rfl, ru⟩ := rv.one
  obtain ⟨z, its, n, r, hl, e⟩ := I.lstM hH
  refine call_meets F.slot_list_append ⟨_, e, rfl⟩ F.entry_list_append (F.args_list_append_2 _ _) (PySem.list_append l its.toArray n u (by rw [xah]; omega)) ⟨e, ?_⟩
  refine ⟨.non, _, I.lset (its' := its ++ [u]) hH e (by simp) (r.append (.cons ru .nil)) ?_, rfl, q⟩
  rw [xbv, List.length_singleton]
  omega
end
section
variable {prog : Program} {w : World} {A : Around} {E : Value -> Shared -> Prop} {s : Shared}
end
section
variable {X : Cx}
end
end L2
namespace Att
open PySem.W PySem.Calls PyProof.Rows
theorem ints_of_wellAll {P : Params} {h : Heap} : ∀ (ns : List Int) (vs : List Value), WellAll P h vs (ns.map WData.int) -> IntsAre vs ns := by
  intro ns
  induction ns with
  | nil =>
    intro vs w
    rw [List.map_nil] at w
    cases w
    exact .nil
  | cons n ns ih =>
    intro vs w
    rw [xa9] at w
    cases w with
    | cons a b =>
      cases a
      exact .cons _ _ (ih _ b)
theorem script_of {l : OpenLaw} {n : Nat} (hn : l.most = some n) {P : Params} {h : Heap} {args : List WData} {vals : List Value}
    (hpre : l.row.toRowW.claim.pre args = true) (hwl : WellAll P h vals args) :
    ∃ a vs ns, vals = [Value.ref a] /\ args = [WData.list (ns.map WData.int)] /\ h.get? a = some { cls := .type "list", data := .seq vs.toArray } /\ IntsAre vs ns /\ ns.length <= n := by
  have hsh : WShape.hasAll [] args [.list .int] = true := (pre_splitW hpre).1
  have hc : l.pre.holds [] { args := args } = true := (pre_splitW hpre).2
  obtain ⟨d, r, rfl, h1, h2⟩ := hasAllW_cons hsh
  obtain rfl := hasAllW_nil h2
  obtain ⟨xs, rfl, h3⟩ := hasW_list h1
  obtain ⟨ns, rfl⟩ := items_int h3
  have hlen : ns.length <= n := by
    unfold OpenLaw.pre at hc
    have h4 : (WTm.not (.lt (.lit (.int (n : Int))) (.len (.arg 0)))).holds [] { args := [.list (ns.map .int)] } = true := by
      have h4 := (holds_andW hc).1
      rw [hn] at h4
      exact h4
    have h5 := condW_of h4 (w_not (w_lt w_lit (w_len_list (w_arg rfl))))
    rw [xab] at h5
    refine xb3 fun q => ?_
    have q' : (n : Int) < ((ns.length : Nat) : Int) := by omega
    first
      | (rw [decide_eq_true q'] at h5; exact absurd h5 (by decide))
      | (simp at h5; omega)
  cases hwl with
  | cons w1 w2 =>
    cases w2
    cases w1 with
    | list ho hall => exact ⟨_, _, ns, rfl, rfl, ho, ints_of_wellAll ns _ hall, hlen⟩
theorem post_true (l : OpenLaw) (args : List WData) : l.row.toRowW.claim.post args (.bool true) args = true :=
  postW_of (r := l.row.toRowW) (X := (true == true))
    (show WShape.has [] (.bool true) .bool = true by first | rfl | decide | simp [WShape.has, WShape.arms, WShape.armsAll])
    (show (WTm.eq .res (.lit (.bool true))).value [] { args := args, res := some (.bool true), after := args } = some (.bool (true == true)) from w_eq_bool (w_res rfl) w_lit) rfl
theorem attach_call {l : OpenLaw} {n : Nat} {q : Program} {loose : List Str} {XP : (Str -> Option Value) -> Heap -> Prop} {YP : World -> Heap -> Prop} {d : DefRec}
    (hn : l.most = some n) (hdf : d.params.defaults = [])
    (call : ∀ (w : World) (s₀ s₁ : Shared) (mg mb : Str -> Option Value) (fa : Addr) (o : Obj) (pm cd doc : Value) (a : Addr) (vs : List Value) (ns : List Int),
      Ground q loose [] XP w s₀ mg mb s₁.heap -> YP w s₁.heap ->
      s₁.heap.get? fa = some o -> o.data = .func (docDef d.name d.params d.body d.scope pm cd doc) -> s₁.heap.CodeRec cd d.name -> mg d.name = some (.ref fa) ->
      s₁.heap.get? a = some { cls := .type "list", data := .seq vs.toArray } -> IntsAre vs ns -> ns.length <= n -> s₁.gens = #[] ->
      codeAny (model l.prog w) callerA (.call (.ref fa) ⟨[.ref a], []⟩) (fun r s' => r = .ok (.ret (.bool true)) /\ OldK s₁.heap s'.heap /\ s'.os = s₁.os /\ AllBare s'.gens) s₁) :
    WalkO q loose XP YP l.row.toRowW d [] (fun f vs => PySem.call f vs) := by
  intro w s₀ s₁ mg mb G Y fa o pm cd doc dV kV ho hd hcd hD hmg hg args vals as hpre hlay hrd hwl hlo
  obtain rfl : dV = .none := Dflts.none hD hdf
  obtain rfl : kV = .none := Dflts.noKw hD
  obtain ⟨a, vs, ns, rfl, rfl, hobj, hints, hlen⟩ := script_of hn hpre hwl
  refine enter_call (codeAny_mono (call w s₀ s₁ mg mb fa o pm cd doc a vs ns G Y ho (fd_plain hd) hcd hmg hobj hints hlen hg) fun r s' hq => ?_)
  obtain ⟨rfl, h2, h3, h4⟩ := hq
  exact ⟨.inl ⟨.bool true, .bool true, [], rfl, fun _ => rfl, .bool true, post_true l _, fun _ => ⟨List.Pairwise.nil, fun _ hm => (nomatch hm)⟩⟩, h2, h3, h4⟩
section
variable {prog : Program} {w : World} {A : Around} {E : Value -> Shared -> Prop} {s : Shared} {K : Frag}
end
end Att
namespace L2
open PySem.Spec PyProof.Rows
theorem vals_ints : ∀ {vs : List Value} {ns : List Int}, IntsAre vs ns -> Vals (ns.map V.int) vs
  | _, _, .nil => .nil
  | _, _, .cons n t h => .cons ⟨t, rfl⟩ (vals_ints h)
def Only (H : Hp) : Prop := ∀ b, H b = none \/ ∃ o xs, H b = some (.frz o (.lst xs))
theorem law_call {P : Program} {w : World} {K : xFg} {mg mb : Str -> Option Value} {CX : CXT} {k : Nat} {fa a : Addr} {fd : FuncData} {x : Str} {sp : Sp} {s₁ : Shared} {vs : List Value} {ns : List Int}
    (KX : K.In s₁.heap) (hns : s₁.heap.Ns mainGlobals mg) (hb : s₁.heap.Ns builtinsNs mb) (hbb : ∀ x : Str, x ≠ "__name__" -> mb x = bootBuiltins x) (hlim : s₁.heap.NoLimit) (hg : s₁.gens = #[])
    (ha : s₁.heap.get? a = some { cls := .type "list", data := .seq vs.toArray }) (hi : IntsAre vs ns) (hl : ns.length <= sizeLine) (hr : Room k callerA)
    (F : ∀ base : Heap, K.In base -> base.Ns mainGlobals mg -> FnOk P w K mg base CX k fa fd [x] sp) (hbind : ∀ (s : Shared) (u : Value), BindsTo s fd ⟨[u], []⟩ [(x, u)])
    (hsp : ∀ H : Hp, Only H -> SqL K H a (ns.map V.int) -> sp [.ref a] H (fun v _ => v = .bl true) fun _ _ _ => False)
    (hCX : ∀ H e s', CX [] H s₁ (fun _ _ _ => False) e s' -> False) :
    codeAny (model P w) callerA (.call (.ref fa) ⟨[.ref a], []⟩) (fun r s' => r = .ok (.ret (.bool true)) /\ OldK s₁.heap s'.heap /\ s'.os = s₁.os /\ AllBare s'.gens) s₁ := by
  have rv := vals_ints hi
  have lenV := hi.length
  have core : ∀ H : Hp, Only H -> SqL K H a (ns.map V.int) -> HOk P w H s₁.heap -> (∀ b, H b ≠ none -> b = a) -> (H a ≠ none -> K.lookup a = none) ->
      codeAny (model P w) callerA (.call (.ref fa) ⟨[.ref a], []⟩) (fun r s' => r = .ok (.ret (.bool true)) /\ OldK s₁.heap s'.heap /\ s'.os = s₁.os /\ AllBare s'.gens) s₁ := by
    intro H hO hS hok hA hK
    have base_of : ∀ {b : Addr} {o : Obj}, s₁.heap.get? b = some o -> H b = none -> (hidT s₁.heap H).get? b = some o := fun e n => hidT_get e n
    have noA : ∀ {b : Addr} {o : Obj} {es : Array DictEntry} {ep : Nat}, s₁.heap.get? b = some o -> o.data = .dict es ep -> H b = none := fun {b o es ep} e d => by
      cases q : H b with
      | none => rfl
      | some u =>
        have e' : b = a := hA b (by rw [q]; simp)
        subst e'
        rw [ha] at e; cases e
        have d' : Data.seq vs.toArray _ = Data.dict es ep := d
        cases d'
    have nsK : ∀ {b : Addr} {m : Str -> Option Value}, s₁.heap.Ns b m -> (hidT s₁.heap H).Ns b m := fun {b m} ⟨o, es, ep, e, d, r⟩ => ⟨o, es, ep, base_of e (noA e d), d, r⟩
    have hKb : K.In (hidT s₁.heap H) := fun b o e => base_of (KX b o e) (by
      cases q : H b with
      | none => rfl
      | some u =>
        have e' : b = a := hA b (by rw [q]; simp)
        subst e'
        rw [hK (by rw [q]; simp)] at e; cases e)
    have hM : Mod K mg (hidT s₁.heap H) := ⟨hKb, nsK hns, ⟨mb, nsK hb, hbb⟩, let ⟨mc, h1, h2⟩ := hlim; ⟨mc, nsK h1, h2⟩⟩
    have e0 : Env0 P w K mg (hidT s₁.heap H) callerA [] s₁ H := ⟨rfl, hM, fun b o e => of_hidT e, Nat.le_of_eq (hidT_size _ _), trivial, fun b hb => absurd (show b ∈ ([] : List Addr) from hb) (by simp), hok, .of_eq hg⟩
    refine codeAny_mono ((F _ hKb (nsK hns)).run callerA [] s₁ H ⟨[.ref a], []⟩ [.ref a] [.ref a] _ _ hr e0 (hbind s₁ (.ref a)) (.cons rfl .nil) (hsp H hO hS)) fun r s' h => ?_
    cases r with
    | error e => exact (hCX H e s' h).elim
    | ok fl =>
      cases fl with
      | next => exact False.elim h
      | brk => exact False.elim h
      | cont => exact False.elim h
      | ret u =>
        obtain ⟨v, H', os, bare, un, hok', r', q⟩ := h
        have q' : v = .bl true := q
        subst q'
        obtain rfl : u = Value.bool true := r'
        refine ⟨rfl, OldK.of_keep fun b o e => ?_, os, bare⟩
        cases q : H b with
        | none => exact un.keep b o e q (by intro z; exact absurd (show b ∈ ([] : List Addr) from z) (by simp)) (by simp)
        | some u =>
          rcases hO b with z | ⟨ob, xs, z⟩
          · rw [q] at z; cases z
          · have z2 := un.frzs b ob _ z
            obtain ⟨e1, _⟩ := hok b _ z
            obtain ⟨e2, _⟩ := hok' b _ z2
            rw [e] at e1; cases e1
            exact e2
  cases hk : K.lookup a with
  | some o =>
    have e := KX a o hk
    rw [ha] at e
    cases e
    refine core (fun _ => none) (fun _ => .inl rfl) (.inr ⟨_, vs.toArray, _, hk, rfl, rfl, rfl, by rw [xah, lenV]; exact hl, by simpa using rv⟩) (fun b u z => by have z' : (none : Option HO) = some u := z; cases z') (fun b z => absurd rfl z) fun z => absurd rfl z
  | none =>
    refine core (fun b => if b = a then some (.frz { cls := .type "list", data := .seq vs.toArray } (.lst (ns.map V.int))) else none) (fun b => ?_) (.inl (.inr ⟨{ cls := .type "list", data := .seq vs.toArray }, if_pos rfl⟩)) (fun b u z => ?_) (fun b z => ?_) fun _ => hk
    · by_cases hb : b = a
      · exact .inr ⟨_, _, if_pos hb⟩
      · exact .inl (if_neg hb)
    · by_cases hb : b = a
      · have z' := (if_pos hb).symm.trans z
        cases z'
        subst hb
        exact ⟨ha, by rw [xab]; exact hl, vs, _, rv, ha⟩
      · have z' := (if_neg hb).symm.trans z
        cases z'
    · by_cases hb : b = a
      · exact hb
      · exact absurd (if_neg hb) z
end L2
namespace L2
open PySem.Spec PyProof.Rows
theorem walk_of {l : PySem.W.OpenLaw} {n k : Nat} {q : Program} {loose : List Str} {XP : (Str -> Option Value) -> Heap -> Prop} {YP : World -> Heap -> Prop} {d : DefRec} {K : Params -> xFg} {CX : World -> CXT} {sp : World -> Sp} {x : Str}
    (hn : l.most = some n) (hn2 : n <= sizeLine) (hdf : d.params.defaults = []) (hr : Room k callerA)
    (hY : ∀ (w : World) (h : Heap), YP w h -> (K w.params).In h)
    (F : ∀ (w : World) (mg : Str -> Option Value) (fa : Addr) (h : Heap), (K w.params).In h -> h.Ns mainGlobals mg -> mg d.name = some (.ref fa) ->
      ∃ fd : FuncData, (∀ (s : Shared) (u : Value), BindsTo s fd ⟨[u], []⟩ [(x, u)]) /\
        ∀ base : Heap, (K w.params).In base -> base.Ns mainGlobals mg -> FnOk l.prog w (K w.params) mg base (CX w) k fa fd [x] (sp w))
    (hsp : ∀ (w : World) (H : Hp) (a : Addr) (ns : List Int), ns.length <= n -> Only H -> SqL (K w.params) H a (ns.map V.int) -> sp w [.ref a] H (fun v _ => v = .bl true) fun _ _ _ => False)
    (hCX : ∀ (w : World) (H : Hp) (s : Shared) (e : Value) (s' : Shared), CX w [] H s (fun _ _ _ => False) e s' -> False) :
    PySem.W.WalkO q loose XP YP l.row.toRowW d [] (fun f vs => PySem.call f vs) := by
  refine Att.attach_call hn hdf fun w s₀ s₁ mg mb fa o pm cd doc a vs ns G Y ho hd hcd hmg hobj hints hlen hg => ?_
  have KX := hY w _ Y
  obtain ⟨fd, hb, hF⟩ := F w mg fa _ KX G.T.g hmg
  exact law_call KX G.T.g G.T.b G.T.builtins G.T.nolimit hg hobj hints (xa5 hlen hn2) hr hF hb (fun H hO hS => hsp w H a ns hlen hO hS) fun H e s' => hCX w H s₁ e s'
end L2
namespace L2
open PySem.Spec PyProof.Rows
def defArgs (s : Stmt) : Arguments := match s with
  | .FunctionDef _ a _ _ _ _ _ _ _ _ => a
  | _ => { posonlyargs := [], args := [], vararg := none, kwonlyargs := [], kw_defaults := [], kwarg := none, defaults := [] }
def defBody (s : Stmt) : List Stmt := match s with
  | .FunctionDef _ _ b _ _ _ _ _ _ _ => b
  | _ => []
def defScope (s : Stmt) : Scope := match s with
  | .FunctionDef _ _ _ _ _ _ sc _ _ _ => sc
  | _ => { kind := .function, names := [], isGenerator := false, isCoroutine := false }
abbrev E0 : XK := fun _ _ _ => False
structure Fun (K : xFg) (x qual : Str) (st : Stmt) (f : Addr) (fd : FuncData) : Prop where
  ex : ∃ (oc : Value) (od : Option Addr) (kV doc pm : Value) (an : Option Addr) (cdv ct : Value) (osl : Array (Option Value)),
    fd = PySem.W.fnOf x qual (defArgs st) (defBody st) (defScope st) .none kV doc pm an cdv ct /\ K.lookup f = some ⟨oc, od, .func fd, osl⟩ /\ PySem.W.codeIn K cdv qual = true
  kp : PySem.W.keepIn K (.ref f) = true
section
variable {P : Program} {w : World} {K : xFg} {mg : Str -> Option Value} {base : Heap}
theorem Fun.binds {x qual : Str} {st : Stmt} {f : Addr} {fd : FuncData} {ps : List Str} (F : Fun K x qual st f fd)
    (h : ∀ (kV doc pm : Value) (an : Option Addr) (cdv ct : Value) (us : List Value), us.length = ps.length -> bindArgs (PySem.W.fnOf x qual (defArgs st) (defBody st) (defScope st) .none kV doc pm an cdv ct) ⟨us, []⟩ = pure (ps.zip us)) : Binds K fd ps [] := by
  obtain ⟨oc, od, kV, doc, pm, an, cdv, ct, osl, rfl, lk, hcd⟩ := F.ex
  exact .all (h kV doc pm an cdv ct)
theorem fun_mk {x qual : Str} {st : Stmt} {f : Addr} {oc : Value} {od an : Option Addr} {osl : Array (Option Value)} {kV doc pm cdv ct : Value} (l : K.lookup f = some ⟨oc, od, .func (PySem.W.fnOf x qual (defArgs st) (defBody st) (defScope st) .none kV doc pm an cdv ct), osl⟩)
    (c : PySem.W.codeIn K cdv qual = true) (k : PySem.W.keepIn K (.ref f) = true) : Fun K x qual st f (PySem.W.fnOf x qual (defArgs st) (defBody st) (defScope st) .none kV doc pm an cdv ct) := ⟨⟨oc, od, kV, doc, pm, an, cdv, ct, osl, rfl, l, c⟩, k⟩
end
theorem small1000 {n : Nat} (h : n <= 1000) : n < sizeLine := xbo h (by decide)
section
variable {X : Cx}
theorem pv (i : Nat) {x : Str} {pos : Pos} (hN : X.N[i]? = some x := by rfl) (hv : Vis X.env.scope x := by first | exact Or.inl rfl | exact Or.inr (Or.inl rfl) | exact Or.inr (Or.inr rfl)) (hd : (x == ("__debug__" : Str)) = false := by decide)
    (hcd : (x == ("__classdict__" : Str)) = false := by decide) : PE X (.Name x pos) (tVar i) := pe_var hN hv hd hcd
end
theorem iteF {A B : Prop} (h : B) : if false = true then A else B := by
  rw [if_neg xaw]
  exact h
theorem iteT {A B : Prop} (h : A) : if true = true then A else B := by
  rw [if_pos rfl]
  exact h
def Same (H H' : Hp) : Prop := ∀ b o, H b = some o -> H' b = some o
theorem Same.refl (H : Hp) : Same H H := fun _ _ h => h
theorem Same.trans {H H1 H2 : Hp} (a : Same H H1) (b : Same H1 H2) : Same H H2 := fun c o h => b c o (a c o h)
theorem Same.free {H H' : Hp} (e : Same H H') {l : Addr} (h : H' l = Option.none) : H l = Option.none := by
  cases q : H l with
  | none => rfl
  | some o =>
    rw [e l o q] at h
    cases h
theorem Same.seq {K : xFg} {H H' : Hp} {a : Addr} {xs : List V} (e : Same H H') (h : SqL K H a xs) : SqL K H' a xs := by
  rcases h with (h | ⟨o, h⟩) | h
  · exact .inl (.inl (e _ _ h))
  · exact .inl (.inr ⟨o, e _ _ h⟩)
  · exact .inr h
end L2
end
namespace L2
open PySem.Spec PyProof.Rows
theorem forIn_fold {α β : Type} (g : β -> α -> β) : ∀ {l : List α} {f : α -> β -> Sem (ForInStep β)} (c : β), (∀ x ∈ l, ∀ c, f x c = pure (.yield (g c x))) -> forIn l c f = pure (l.foldl g c)
  | [], _, _, _ => rfl
  | x :: l, f, c, h => by
    rw [List.forIn_cons, h x xam c, pure_bind]
    exact forIn_fold g (g c x) fun y hy => h y (xaf _ hy)
def closStep (env : Env) (cs : List (Str × Addr)) (x : Str × NameKind) : List (Str × Addr) :=
  if (x.2 == NameKind.free) = true then (x.1, (env.cells.lookup x.1).getD 0) :: cs else cs
def clos (env : Env) (names : List (Str × NameKind)) : List (Str × Addr) := names.foldl (closStep env) []
theorem clos_eq {env : Env} {scope : Scope} (h : ∀ x ∈ scope.names, x.2 = .free -> ∃ c, env.cells.lookup x.1 = some c) : closureFor scope env = pure (clos env scope.names) := by
  simp only [closureFor]
  rw [forIn_fold (closStep env) [] (fun x hx c => by
    obtain ⟨n, k⟩ := x
    by_cases hk : k = .free
    · obtain ⟨a, e⟩ := h (n, k) hx hk
      have e' : env.cells.lookup n = some a := e
      subst hk
      simp [closStep, cellOf, e']
    · have hb : (k == NameKind.free) = false := by simpa using hk
      simp [closStep, hb])]
  rfl
theorem clos_sub {env : Env} : ∀ (l : List (Str × NameKind)) (acc : List (Str × Addr)), (∀ x ∈ l, x.2 = .free -> ∃ c, env.cells.lookup x.1 = some c) -> (∀ y c, acc.lookup y = some c -> env.cells.lookup y = some c) ->
    ∀ y c, (l.foldl (closStep env) acc).lookup y = some c -> env.cells.lookup y = some c
  | [], acc, _, ha, y, c, e => ha y c e
  | x :: l, acc, h, ha, y, c, e => by
    refine clos_sub l (closStep env acc x) (fun z hz => h z (xaf _ hz)) (fun z d q => ?_) y c e
    unfold closStep at q
    split at q
    · rename_i hk
      obtain ⟨a, ea⟩ := h x xam (by simpa using hk)
      rw [xbu] at q
      cases hz : z == x.1 with
      | true =>
        rw [hz] at q
        rw [ea] at q
        have : z = x.1 := by simpa using hz
        rw [this, ea]; simpa using q
      | false => rw [hz] at q; exact ha z d q
    · exact ha z d q
theorem clos_some {env : Env} : ∀ (l : List (Str × NameKind)) (acc : List (Str × Addr)) (y : Str), ((∃ c, acc.lookup y = some c) \/ (y, NameKind.free) ∈ l) -> ∃ c, (l.foldl (closStep env) acc).lookup y = some c
  | [], acc, y, h => by
    rcases h with h | h
    · exact h
    · exact absurd h (by simp)
  | x :: l, acc, y, h => by
    refine clos_some l (closStep env acc x) y ?_
    rcases h with ⟨c, h⟩ | h
    · left
      unfold closStep
      split
      · rw [xbu]
        cases hz : y == x.1 with
        | true => exact ⟨_, rfl⟩
        | false => exact ⟨c, h⟩
      · exact ⟨c, h⟩
    · rcases xap.mp h with e | h
      · left
        subst e
        unfold closStep
        rw [if_pos (by rfl), xbu]
        simp
      · exact .inr h
theorem relabel_kind {scope : Scope} {env : Env} : ∀ {names : List (Str × NameKind)} {x : Str} {k : NameKind},
    (names.map fun (n, k) => if (k == NameKind.free && env.scope.kind == .function && env.kindOf n == some .cell) then (n, NameKind.cell) else (n, k)).lookup x = some k ->
    names.lookup x = some k \/ (k = .cell /\ names.lookup x = some .free)
  | [], _, _, h => by simp at h
  | (n, k') :: r, x, k, h => by
    change List.lookup x ((if (k' == NameKind.free && env.scope.kind == .function && env.kindOf n == some .cell) = true then (n, NameKind.cell) else (n, k')) :: _) = some k at h
    by_cases hc : (k' == NameKind.free && env.scope.kind == .function && env.kindOf n == some .cell) = true
    · rw [if_pos hc, xbu] at h
      rw [xbu]
      cases hx : x == n with
      | true =>
        rw [hx] at h
        have hk : k' = .free := by
          simp only [xat, beq_iff_eq] at hc
          exact hc.1.1
        subst hk
        have h' : NameKind.cell = k := by simpa using h
        exact .inr ⟨h'.symm, rfl⟩
      | false => rw [hx] at h; exact relabel_kind (scope := scope) h
    · rw [if_neg hc, xbu] at h
      rw [xbu]
      cases hx : x == n with
      | true => rw [hx] at h; exact .inl h
      | false => rw [hx] at h; exact relabel_kind (scope := scope) h
def nyOk (k : Nat) (NY N : List Str) (sc : Scope) : Bool :=
  NY.length == k + N.length && ((NY.drop k).zip N).all fun p => (sc.names.lookup p.1).isNone || (p.1 == p.2 && sc.names.lookup p.1 != some .local)
structure LC (X : Cx) (k : Nat) (scope : Scope) (NY : List Str) : Prop where
  cells : ∀ y ∈ scope.names, y.2 ≠ .cell
  kind : scope.kind = .function
  names : ∀ y ∈ scope.names, y.2 = .local -> scope.names.lookup y.1 = some .local
  free : ∀ y ∈ scope.names, y.2 = .free -> X.env.kindOf y.1 = some .cell \/ X.env.kindOf y.1 = some .free
  ny : nyOk k NY X.N scope = true
  nd : NY.Nodup
def lcOk (k : Nat) (N : List Str) (sc0 scope : Scope) (NY : List Str) : Bool :=
  (scope.names.all fun y => y.2 != .cell) && (scope.kind == .function) && (scope.names.all fun y => y.2 != .local || scope.names.lookup y.1 == some .local) &&
  (scope.names.all fun y => y.2 != .free || sc0.names.lookup y.1 == some .cell || sc0.names.lookup y.1 == some .free) && nyOk k NY N scope && decide NY.Nodup
theorem LC.of {X : Cx} {k : Nat} {N NY : List Str} {sc0 scope : Scope} (hN : X.N = N) (hs : X.env.scope = sc0) (h : lcOk k N sc0 scope NY = true) : LC X k scope NY := by
  unfold lcOk at h
  simp only [xat, xa0, Bool.or_eq_true, bne_iff_ne, beq_iff_eq, ne_eq] at h
  obtain ⟨⟨⟨⟨⟨h1, h2⟩, h3⟩, h4⟩, h5⟩, h6⟩ := h
  refine ⟨h1, h2, fun y hy e => ?_, fun y hy e => ?_, by rw [hN]; exact h5, of_decide_eq_true h6⟩
  · rcases h3 y hy with z | z
    · exact absurd e z
    · exact z
  · show X.env.scope.names.lookup y.1 = _ \/ X.env.scope.names.lookup y.1 = _
    rw [hs]
    rcases h4 y hy with (z | z) | z
    · exact absurd e z
    · exact .inl z
    · exact .inr z
def lcCx (X : Cx) (scope : Scope) (NY : List Str) (s₀ : Shared) (H₀ : Hp) (C : Addr) (ex : List Addr) : Cx :=
  { X with N := NY, s₀ := s₀, H₀ := H₀, env := compEnvC scope (clos X.env scope.names) C X.env, outer := X.stack, ex := ex, fn := fun _ => false, pn := [], xe := fun _ _ => False }
def PTs (X : Cx) (cs : List Expr) (t : TT) : Prop :=
  ∀ (pins : List (Addr × Obj)) (s : Shared) (Z : St) (H : Hp) (Q : Bool -> Hp -> Prop), Inv X pins Z H s -> t Z H Q ->
    wpAny (model X.prog X.w) X.A (forIn cs true fun c r => if r = true then do let ok <- isTrue c X.env (eval c X.env); pure (ForInStep.yield ok) else pure (ForInStep.yield r)) (TP X pins Z Q) X.xe s
def tTrue : TT := fun _ H Q => Q true H
theorem pts_nil {X : Cx} : PTs X [] tTrue := fun _ _ _ H _ I h => wpAny_tests_nil ⟨H, I, h⟩
theorem pts_one {X : Cx} {c : Expr} {t : TT} (hc : PT X c t) : PTs X [c] t := fun pins s Z H Q I h => wpAny_tests_one (hc pins s Z H Q I h)
def SubSt (Z Z2 : St) : Prop := Z2.length = Z.length /\ ∀ (j : Nat) (v : V), Z[j]? = some (some v) -> Z2[j]? = some (some v)
def tLC (k : Nat) (wi : TI) (g : TG) (tc : TT) (te : TE) : TE := fun Z H Q => wi Z H fun J H1 => ∃ W : Nat -> Nat -> List V -> Hp -> Prop, (∃ m, W 0 m [] H1) /\ ∀ i m ys H, W i m ys H -> ys.length < sizeLine /\
  ((J.stop i H /\ ∀ D, H D = none -> Q (.ref D) (upd H D (.lst ys))) \/
   (J.go i H /\ ∃ N : List V -> Hp -> Prop, (∀ ys' H', N ys' H' -> ∃ m', m' < m /\ W (i + 1) m' ys' H') /\
     ∀ v H', J.yld i H v H' -> g v (List.replicate k none ++ Z) H' fun Z2 H2 => SubSt (List.replicate k none ++ Z) Z2 /\
       tc Z2 H2 fun b H3 => if b = true then te Z2 H3 fun y H4 => N (ys ++ [y]) H4 else N ys H3))
theorem thnF {α : Type} {t : Sem α} {Q Q' : α -> Shared -> Prop} {M : Model} {A : Around} {E : Value -> Shared -> Prop} {s : Shared} (h : wpAny M A t Q (fun _ _ => False) s) (hQ : ∀ a s, Q a s -> Q' a s) : wpAny M A t Q' E s :=
  wpAny_mono h hQ fun _ _ z => False.elim z
section
variable {prog : Program} {w : World} {A : Around} {R : Result -> Shared -> Prop} {s : Shared}
theorem compLoop_own {elt tg iter : Expr} {ifs : List Expr} {scope : Scope} {pos : Pos} {it acc : Value} {env : Env} (W : Nat -> Shared -> Prop)
    (turn : ∀ n s, W n s -> ∀ E', wpAny (model prog w) A (pyNext it) (fun r s1 => match r with
      | none => R (.ok .next) s1
      | some v => wpAny (model prog w) A (letOwnedTupleGo tg it v) (fun _ s2 => wpAny (model prog w) A (assign tg env v) (fun _ s3 =>
          wpAny (model prog w) A (forIn ifs true fun c r => if r = true then do let ok <- isTrue c env (eval c env); pure (ForInStep.yield ok) else pure (ForInStep.yield r)) (fun ok s4 =>
            if ok = true then wpAny (model prog w) A (eval elt env) (fun x s5 => wpAny (model prog w) A (call (.builtin "list.append") [acc, x]) (fun _ s6 => ∃ m, m < n /\ W m s6) E' s5) E' s4
            else ∃ m, m < n /\ W m s4) E' s3) E' s2) E' s1) E' s)
    (n : Nat) (h : W n s) : codeAny (model prog w) A (.compLoop (.ListComp elt [⟨tg, iter, ifs, 0⟩] scope pos) 0 it acc env) R s := by
  refine codeAny_loop rfl W (fun n s hW => ?_) n h
  show wpAny _ A ((compTurn (.ListComp elt [⟨tg, iter, ifs, 0⟩] scope pos) 0 it acc env).onRaise (fun x => do noteFrame x env; theTreesLotGoes x)) _ _ s
  refine wpAny_noted ?_
  rw [compTurn_list]
  refine wpAny_bind (wpAny_standAt (wpAny_bind (thn (turn n s hW _) fun r s1 h1 => ?_)))
  cases r with
  | none => exact wpAny_pure h1
  | some v =>
    refine wpAny_bind (thn h1 fun _ s2 h2 => wpAny_bind (thn h2 fun _ s3 h3 => wpAny_bind (thn h3 fun ok s4 h4 => ?_)))
    cases ok with
    | false => exact wpAny_pure ⟨rfl, h4⟩
    | true => exact wpAny_bind (wpAny_bind (thn h4 fun x s5 h5 => wpAny_bind (thn h5 fun _ s6 h6 => wpAny_pure (wpAny_pure ⟨rfl, h6⟩))))
end
section
variable {X : Cx} {pins : List (Addr × Obj)} {Z : St} {H2 : Hp} {s2 : Shared} {scope : Scope} {NY : List Str} {k : Nat} {C D : Addr} {fp : List Addr}
theorem lc_ok (I2 : Inv X pins Z H2 s2) (lc : LC X k scope NY) (hf : ∀ b ∈ fp, FpOk X pins H2 b) (hfl : ∀ b ∈ fp, b < s2.heap.objs.size) (hC : s2.heap.objs.size <= C) : (lcCx X scope NY s2 H2 C fp).Ok := by
  have hfree : ∀ x ∈ scope.names, x.2 = .free -> ∃ c, X.env.cells.lookup x.1 = some c := fun x hx e => I2.ok.has x.1 (lc.free x hx e)
  have sub : ∀ x c, (clos X.env scope.names).lookup x = some c -> X.env.cells.lookup x = some c := clos_sub scope.names [] hfree (fun y c e => by simp at e)
  refine ⟨I2.ok.mod, ?_, I2.ok.glob, I2.ok.blt, hC, fun x y c e1 e2 => I2.ok.inj x y c (sub x c e1) (sub y c e2), fun x hx => ?_, fun x c z => absurd z (by show ¬ (false = true); decide), I2.ok.hd, I2.ok.frames, .inl rfl, fun b hb => ⟨xax (xaj (hfl b hb) hC), fun x c e => (hf b hb).2.2.2.2.1 x c (sub x c e)⟩,
    I2.bs, xa5 I2.ok.bsz I2.sz, fun b o e hb => ?_, fun b hb z => ?_, I2.stack, I2.stkFree⟩
  · show (relabel scope X.env).kind = .function
    exact lc.kind
  · have hx : (relabel scope X.env).names.lookup x = some .cell \/ (relabel scope X.env).names.lookup x = some .free := hx
    have key : scope.names.lookup x = some .free := by
      rcases hx with hx | hx
      · rcases relabel_kind (scope := scope) hx with z | ⟨_, z⟩
        · exact absurd rfl (lc.cells _ (PySem.mem_of_lookup z))
        · exact z
      · rcases relabel_kind (scope := scope) hx with z | ⟨_, z⟩
        · exact z
        · exact z
    exact clos_some scope.names [] x (.inr (PySem.mem_of_lookup key))
  · have q : b ∈ X.ex \/ X.s₀.heap.objs.size <= b := (hf b hb).2.2.2.1
    rcases q with q | q
    · exact I2.ok.noex b o e q
    · exact absurd (xaj (xag e) (xa5 I2.ok.bsz q)) (xbl _)
  · rcases xap.mp (I2.stkSub b z) with e | e
    · exact (hf b hb).2.1 e
    · exact (hf b hb).2.2.1 e
theorem lc_start {h1 : Heap} {tk : Nat} {m : Str -> Option Value} {oD : Obj} (I2 : Inv X pins Z H2 s2) (lc : LC X k scope NY) (hf : ∀ b ∈ fp, FpOk X pins H2 b) (hfl : ∀ b ∈ fp, b < s2.heap.objs.size) (hC : s2.heap.objs.size <= C) (hD : s2.heap.objs.size <= D) (hDC : D ≠ C)
    (old : ∀ b o, s2.heap.get? b = some o -> h1.get? b = some o) (hn : h1.Ns C m) (ho : h1.get? D = some oD) (hoD : ∀ v, oD.data ≠ .cell v) :
    Inv (lcCx X scope NY s2 H2 C fp) [(D, oD)] (List.replicate k none ++ Z) H2 { s2 with heap := h1, toks := tk } := by
  have hfree : ∀ x ∈ scope.names, x.2 = .free -> ∃ c, X.env.cells.lookup x.1 = some c := fun x hx e => I2.ok.has x.1 (lc.free x hx e)
  have sub : ∀ x c, (clos X.env scope.names).lookup x = some c -> X.env.cells.lookup x = some c := clos_sub scope.names [] hfree (fun y c e => by simp at e)
  have hny := lc.ny
  unfold nyOk at hny
  simp only [xat, beq_iff_eq, xa0, Bool.or_eq_true, bne_iff_ne, ne_eq] at hny
  obtain ⟨hlen, hz⟩ := hny
  refine ⟨lc_ok I2 lc hf hfl hC, rfl, I2.bare, Un.kept old, ⟨m, hn, fun i x v e1 e2 e3 => ?_⟩, fun x c e => ?_, I2.hok.fresh hC, fun x c e => I2.freeC x c (sub x c e), fun p hp => ?_, I2.hok.kept old, ?_⟩
  · have e1 : NY[i]? = some x := e1
    have hik : k <= i := by
      refine xb3 fun z => ?_
      rw [xbx (by simpa using z), xck, if_pos z] at e2
      cases e2
    rw [xb5 (by simpa using hik), xcr] at e2
    have hi2 : i - k < X.N.length := by
      rw [<- I2.len]; exact (xae.mp e2).1
    obtain ⟨y, ey⟩ : ∃ y, X.N[i - k]? = some y := ⟨_, xan hi2⟩
    have em : (x, y) ∈ (NY.drop k).zip X.N := by
      refine xbc (i := i - k) ?_
      rw [List.getElem?_zip_eq_some]
      refine ⟨?_, ey⟩
      rw [List.getElem?_drop, show k + (i - k) = i by omega]; exact e1
    have e3 : Vis (relabel scope X.env) x := e3
    have kf : scope.names.lookup x = some .free := by
      have kk : ∃ q, scope.names.lookup x = some q := by
        rcases e3 with z | z | z <;> rcases relabel_kind (scope := scope) z with z | ⟨_, z⟩ <;> exact ⟨_, z⟩
      have zz := hz (x, y) em
      have nl : scope.names.lookup x ≠ some .local := by
        rcases zz with zz | zz
        · obtain ⟨q, hq⟩ := kk
          have zz : (scope.names.lookup x).isNone = true := zz
          rw [hq] at zz; cases zz
        · exact zz.2
      rcases e3 with z | z | z <;> rcases relabel_kind (scope := scope) z with z | ⟨_, z⟩
      · exact absurd z nl
      · exact z
      · exact absurd rfl (lc.cells _ (PySem.mem_of_lookup z))
      · exact z
      · exact z
      · exact z
    have exy : x = y := by
      rcases hz (x, y) em with zz | zz
      · have zz : (scope.names.lookup x).isNone = true := zz
        rw [kf] at zz; cases zz
      · exact zz.1
    subst exy
    obtain ⟨mX, hnX, hlX⟩ := I2.loc
    have hk := lc.free (x, .free) (PySem.mem_of_lookup kf) rfl
    have hk : X.env.kindOf x = some .cell \/ X.env.kindOf x = some .free := hk
    obtain ⟨u, ru, lu⟩ := hlX (i - k) x v ey e2 (.inr hk)
    refine ⟨u, ru, ?_⟩
    rcases lu with ⟨z, _⟩ | ⟨_, c, hc, hcell⟩
    · rcases hk with q | q <;> rw [q] at z <;> cases z
    · obtain ⟨c', hc'⟩ := clos_some (env := X.env) scope.names [] x (.inr (PySem.mem_of_lookup kf))
      have : c' = c := by
        have q := sub x c' hc'
        rw [hc] at q; exact (Option.some.inj q).symm
      subst this
      refine .inr ⟨?_, c', hc', hcell.keeps old⟩
      show (relabel scope X.env).names.lookup x = some .cell \/ (relabel scope X.env).names.lookup x = some .free
      rcases e3 with z | z
      · rcases relabel_kind (scope := scope) z with z | ⟨z, _⟩
        · rw [kf] at z; cases z
        · cases z
      · exact z
  · obtain ⟨v, z⟩ := I2.cell x c (sub x c e)
    exact ⟨v, z.keeps old⟩
  · have e : p = (D, oD) := by simpa [lcCx] using hp
    subst e
    refine ⟨ho, I2.hok.fresh hD, hDC, fun z => ?_, hoD⟩
    have z : D ∈ frs X.stack := z
    rcases xap.mp (I2.stkSub D z) with q | q
    · exact absurd (xaj I2.lt hD) (by rw [q]; exact xbl _)
    · exact I2.nofs hD q
  · show (List.replicate k none ++ Z).length = NY.length
    rw [hlen, xbv, xcr, I2.len]
theorem lc_out {H4 : Hp} {s4 : Shared} {Z' : St} {ys : List V} {us : List Value} (I2 : Inv X pins Z H2 s2) (hf : ∀ b ∈ fp, FpOk X pins H2 b) (hC : s2.heap.objs.size <= C) (hD : s2.heap.objs.size <= D)
    (I4 : Inv (lcCx X scope NY s2 H2 C fp) [(D, LCg.lst us)] Z' H4 s4) (rv : Vals ys us) (hz : ys.length <= sizeLine) : Inv X pins Z (upd H4 D (.lst ys)) s4 := by
  obtain ⟨pD, nD, neD, nfD, dD⟩ := I4.pin (D, LCg.lst us) (by simp)
  have u0 : Un (frs X.stack) fp H2 H4 s2.heap s4.heap := I4.base
  have neb : ∀ b o, s2.heap.get? b = some o -> b ≠ D := fun b o e => xax (xaj (xag e) hD)
  have hok : HOk X.prog X.w (upd H4 D (.lst ys)) s4.heap := fun b u e => by
    by_cases hb : b = D
    · subst hb
      rw [upd_same] at e; cases e
      exact ⟨hz, us, us.length, rv, pD⟩
    · rw [upd_ne hb] at e
      exact (I4.hok b u e).stay (fun _ _ _ q => q) (fun c q => by rw [upd_ne (ne_of_none q nD)]; exact q) fun c xs q => by rw [upd_ne (ne_of_none q nD)]; exact q
  refine I2.call' (ch := fp) I4.os ⟨u0.keep, u0.slot, fun b o e n hx => ?_, u0.there, fun b xs q => ?_, fun b o u q => ?_, fun b ps q => ?_⟩ hok I4.bare fun b hb => ⟨(hf b hb).2.2.2.1, (hf b hb).2.1, (hf b hb).2.2.2.2.1, (hf b hb).2.2.2.2.2⟩
  · rw [upd_ne (neb b o e)]; exact u0.free b o e n hx
  · have z := u0.tups b xs q
    rw [upd_ne (ne_of_none z nD)]; exact z
  · have z := u0.frzs b o u q
    rw [upd_ne (ne_of_none z nD)]; exact z
  · obtain ⟨more, z⟩ := u0.tbls b ps q
    exact ⟨more, by rw [upd_ne (ne_of_none z nD)]; exact z⟩
end
theorem lc_run {X : Cx} {tg elt iter : Expr} {ifs : List Expr} {scope : Scope} {pos : Pos} {NY : List Str} {k : Nat} {g : TG} {tc : TT} {te : TE} (hc : X.calm = true) (lc : LC X k scope NY)
    (hb : ∀ (s₀ : Shared) (H₀ : Hp) (C : Addr) (ex : List Addr), NY.Nodup -> PG (lcCx X scope NY s₀ H₀ C ex) tg g /\ PTs (lcCx X scope NY s₀ H₀ C ex) ifs tc /\ PE (lcCx X scope NY s₀ H₀ C ex) elt te)
    {pins : List (Addr × Obj)} {Z : St} {H2 : Hp} {s2 : Shared} {it : Addr} {fp : List Addr} {tn : Nat -> Heap -> Prop} {J : It} {RR : Value -> Addr -> Result -> Shared -> Prop} {E : Value -> Shared -> Prop} {Fin : List V -> Hp -> Prop}
    (I2 : Inv X pins Z H2 s2) (T : Turn X.prog X.w X.K tg J fp it tn) (st2 : tn 0 s2.heap) (f2 : ∀ b ∈ fp, FpOk X pins H2 b) {W : Nat -> Nat -> List V -> Hp -> Prop} {m0 : Nat} (w0 : W 0 m0 [] H2)
    (turn : ∀ i m ys H, W i m ys H -> ys.length < sizeLine /\ ((J.stop i H /\ Fin ys H) \/ (J.go i H /\ ∃ N : List V -> Hp -> Prop, (∀ ys' H', N ys' H' -> ∃ m', m' < m /\ W (i + 1) m' ys' H') /\
      ∀ v H', J.yld i H v H' -> g v (List.replicate k none ++ Z) H' fun Z2 H2 => SubSt (List.replicate k none ++ Z) Z2 /\ tc Z2 H2 fun b H3 => if b = true then te Z2 H3 fun y H4 => N (ys ++ [y]) H4 else N ys H3)))
    (fin : ∀ (C D : Addr) (H4 : Hp) (s4 : Shared) (ys : List V) (m : Str -> Option Value), s2.heap.objs.size <= C -> H4 D = none -> H4 C = none -> D ≠ C -> s4.heap.Ns C m -> Inv X pins Z (upd H4 D (.lst ys)) s4 -> Fin ys H4 -> RR (.ref D) C (.ok .next) s4) :
    wpAny (model X.prog X.w) X.A (newList []) (fun acc s3 => wpAny (model X.prog X.w) X.A (newFunctionEnv scope X.env.globals (clos X.env scope.names) [] X.env.qual none .none (some X.env)) (fun cenv s4 =>
      codeAny (model X.prog X.w) X.A (.compStart (.ListComp elt [⟨tg, iter, ifs, 0⟩] scope pos) 0 (.ref it) acc { cenv with scope := relabel scope X.env }) (RR acc cenv.locals) s4) E s3) E s2 := by
  refine wpAny_newObj_type (wpAny_newFunctionEnv lc.cells (by intro y hy; simp at hy) (fun h1 hns1 hsb1 => ?_) lc.kind)
  dsimp only at hns1 hsb1 ⊢
  generalize hG : s2.heap.push { cls := .type "list", dict := none, data := .seq ([] : List Value).toArray } = G at hns1 hsb1 ⊢
  have hC : G.objs.size = s2.heap.objs.size + 1 := by rw [<- hG, xc2]
  have hCle : s2.heap.objs.size <= G.objs.size := by omega
  have hDC : s2.heap.objs.size ≠ G.objs.size := by omega
  have hfl : ∀ b ∈ fp, b < s2.heap.objs.size := fun b hb => by obtain ⟨o, e, _⟩ := T.obj 0 _ st2 b hb; exact xag e
  have old : ∀ b o, s2.heap.get? b = some o -> h1.get? b = some o := fun b o e => by
    have lt := xag e
    refine hsb1.extBut b o (xax (xaj lt hCle)) (xad _ ?_)
    rw [<- hG]; exact xad _ e
  have hacc : h1.get? s2.heap.objs.size = some (LCg.lst []) := by
    refine hsb1.extBut _ _ hDC (xad _ ?_)
    rw [<- hG]; exact xaz _ rfl
  have dl : ∀ (us : List Value) v, (LCg.lst us).data ≠ .cell v := fun us v z => by
    have z' : Data.seq us.toArray us.length = Data.cell v := z
    cases z'
  have I3 := lc_start (h1 := h1) (tk := s2.toks + ([] : List (Str × Value)).length) I2 lc f2 hfl hCle (xai _) hDC old hns1 hacc (dl [])
  have fpY : ∀ {us : List Value} {H' : Hp}, (∀ b ∈ fp, H' b = none) -> ∀ b ∈ fp, FpOk (lcCx X scope NY s2 H2 G.objs.size fp) [(s2.heap.objs.size, LCg.lst us)] H' b := fun {us H'} hn b hb => by
    have lt := hfl b hb
    have okY := I3.ok
    refine ⟨hn b hb, (okY.exf b hb).1, okY.exfs b hb, .inl hb, (okY.exf b hb).2, fun p hp => ?_⟩
    have e : p = (s2.heap.objs.size, LCg.lst us) := by simpa [lcCx] using hp
    subst e
    exact xce lt
  obtain ⟨hg, ht, he⟩ := hb s2 H2 G.objs.size fp lc.nd
  have loop : ∀ s3 : Shared, s3 = { s2 with heap := h1, toks := s2.toks + ([] : List (Str × Value)).length } ->
      codeAny (model X.prog X.w) X.A (.compLoop (.ListComp elt [⟨tg, iter, ifs, 0⟩] scope pos) 0 (.ref it) (.ref s2.heap.objs.size) (compEnvC scope (clos X.env scope.names) G.objs.size X.env)) (RR (.ref s2.heap.objs.size) G.objs.size) s3 := by
    rintro s3 rfl
    refine compLoop_own (fun n s' => ∃ i H' ys us, Inv (lcCx X scope NY s2 H2 G.objs.size fp) [(s2.heap.objs.size, LCg.lst us)] (List.replicate k none ++ Z) H' s' /\ Vals ys us /\ tn i s'.heap /\ (∀ b ∈ fp, H' b = none) /\ W i n ys H') ?_ m0
      ⟨0, H2, [], [], I3, .nil, T.keep _ _ _ st2 fun b _ o e => old b o e, fun b hb => (f2 b hb).1, w0⟩
    rintro n s3 ⟨i, H3, ys, us, I3, rv, st3, fr3, w3⟩ E'
    obtain ⟨hsz, hturn⟩ := turn i n ys H3 w3
    rcases hturn with ⟨stop, qn⟩ | ⟨go, N, hN, step⟩
    · refine thn (T.done (lcCx X scope NY s2 H2 G.objs.size fp) rfl rfl rfl hc i _ s3 _ H3 E' I3 (fpY fr3) st3 stop) fun r s4 ⟨hr, I4⟩ => ?_
      subst hr
      obtain ⟨m4, hn4, _⟩ := I4.loc
      exact fin _ _ H3 s4 ys m4 hCle (I4.pin (s2.heap.objs.size, LCg.lst us) (by simp)).2.1 I4.free hDC hn4 (lc_out I2 f2 hCle (xai _) I4 rv (xcd hsz)) qn
    · refine thn (T.item (lcCx X scope NY s2 H2 G.objs.size fp) rfl rfl rfl hc i _ s3 _ H3 E' I3 (fpY fr3) st3 go) fun r s4 ⟨u, hr, h4⟩ => ?_
      subst hr
      refine thn h4 fun _ s5 ⟨x, H5, I5, r5, y5, st5, fr5⟩ => ?_
      have I5' := I5.pinned (fpY fr5) (T.obj _ _ st5)
      refine thnF (hg _ s5 _ H5 x u _ I5' r5 (step x H5 y5)) fun _ s6 ⟨Z6, H6, I6, sub6, q6⟩ => ?_
      have keep : ∀ {Z7 : St} {H7 : Hp} {s7 : Shared}, Inv (lcCx X scope NY s2 H2 G.objs.size fp) ([(s2.heap.objs.size, LCg.lst us)] ++ pinsAt fp s5.heap) Z7 H7 s7 -> tn (i + 1) s7.heap /\ (∀ b ∈ fp, H7 b = none) := fun {Z7 H7 s7} I7 => by
        refine ⟨T.keep _ _ _ st5 fun b hb o e => (I7.pin (b, o) (xa4 _ (xa4 _ (mem_pinsAt hb e)))).1, fun b hb => ?_⟩
        obtain ⟨o, e, d⟩ := T.obj _ _ st5 b hb
        exact (I7.pin (b, o) (xa4 _ (xa4 _ (mem_pinsAt hb e)))).2.1
      refine thnF (ht _ s6 Z6 H6 _ I6 q6) fun ok s7 ⟨H7, I7, q7⟩ => ?_
      cases ok with
      | false =>
        rw [if_neg xaw] at q7 ⊢
        obtain ⟨m', hm, w7⟩ := hN _ _ q7
        obtain ⟨k1, k2⟩ := keep I7
        exact ⟨m', hm, i + 1, H7, ys, us, (I7.weak (by rw [I7.len, I5.len]) sub6.2).unpinned, rv, k1, k2, w7⟩
      | true =>
        rw [if_pos rfl] at q7 ⊢
        refine thnF (he _ s7 Z6 H7 _ I7 q7) fun y s8 ⟨v, H8, I8, r8, q8⟩ => ?_
        obtain ⟨m', hm, w8⟩ := hN _ _ q8
        obtain ⟨k1, k2⟩ := keep I8
        obtain ⟨pD, nD, neD, nfD, dD⟩ := I8.pin (s2.heap.objs.size, LCg.lst us) (by simp)
        have hul : us.toArray.size <= sizeLine := by rw [xah, <- rv.length]; exact xcd hsz
        refine append_at pD (fun h9 sb9 hD9 => ?_) hul
        have I8' : Inv (lcCx X scope NY s2 H2 G.objs.size fp) [] (List.replicate k none ++ Z) H8 s8 := (I8.weak (by rw [I8.len, I5.len]) sub6.2).pins_of fun p hp => absurd hp (by simp)
        have hDfp : s2.heap.objs.size ∉ fp := fun z => xbl _ (hfl _ z)
        have I9 : Inv (lcCx X scope NY s2 H2 G.objs.size fp) [] (List.replicate k none ++ Z) H8 { s8 with heap := h9 } :=
          I8'.turned (t' := s8.toks) (it := s2.heap.objs.size) (fun b o hb e => (sb9.2 b hb).trans e) nD neD (.inr (xai _)) (fun x c e z => by
            obtain ⟨v', o', e1, e2⟩ := I8.cell x c e
            rw [z, pD] at e1
            have e1' : LCg.lst us = o' := Option.some.inj e1
            rw [<- e1'] at e2
            exact dl us v' e2) (fun p hp => absurd hp (by simp [lcCx]))
        refine ⟨m', hm, i + 1, H8, ys ++ [v], us ++ [y], I9.pins_of fun p hp => ?_, rv.append (.cons r8 .nil), T.keep _ _ _ k1 fun b hb o e => (sb9.2 b fun z => hDfp (z ▸ hb)).trans e, k2, w8⟩
        have e : p = (s2.heap.objs.size, LCg.lst (us ++ [y])) := by simpa using hp
        subst e
        exact ⟨hD9.trans (congrArg some (LCg.lst_snoc us y)), nD, neD, nfD, dl _⟩
  exact codeAny_compStart_list (loop _ rfl) (T.self _ 0 _ _ _ (T.keep _ _ _ st2 fun b _ o e => old b o e) (loop _ rfl))
section
variable {X : Cx} {tg elt iter : Expr} {ifs : List Expr} {scope : Scope} {pos : Pos} {NY : List Str} {k : Nat} {wi : TI} {g : TG} {tc : TT} {te : TE}
theorem pe_lc (hc : X.calm = true) (lc : LC X k scope NY) (hi : PI X tg iter wi)
    (hb : ∀ (s₀ : Shared) (H₀ : Hp) (C : Addr) (ex : List Addr), NY.Nodup -> PG (lcCx X scope NY s₀ H₀ C ex) tg g /\ PTs (lcCx X scope NY s₀ H₀ C ex) ifs tc /\ PE (lcCx X scope NY s₀ H₀ C ex) elt te)
    (hs : ∀ x, foldedSetIterable iter X.env x = pure x := by intro _; rfl) : PE X (.ListComp elt [⟨tg, iter, ifs, 0⟩] scope pos) (tLC k wi g tc te) := by
  intro pins s Z H Q I h
  rw [eval_ListComp]
  refine wpAny_comprehension_free (use := none) rfl hs (clos_eq fun x hx e => I.ok.has x.1 (lc.free x hx e)) lc.kind lc.names (thn (hi pins s Z H _ I h) fun v s1 h1 => thn h1 fun itv s2 h2 => ?_)
  obtain ⟨it, fp, tn, J, H2, e, I2, T, st2, f2, W, ⟨m0, w0⟩, turn⟩ := h2
  subst e
  refine lc_run (RR := fun acc C => compPost (model X.prog X.w) X.A X.xe none (EP X pins Z Q) acc C) hc lc hb I2 T st2 f2 w0 turn fun C D H4 s4 ys m hC nD nC hDC hn I4 q => ?_
  refine ⟨m, hn, fun h' sb => ?_⟩
  have hCn : upd H4 D (.lst ys) C = none := by rw [upd_ne (xas hDC)]; exact nC
  obtain ⟨f0, f1, f2', f3, f4, f5⟩ := I2.fpOk (H' := upd H4 D (.lst ys)) hC hCn
  exact ⟨.ref D, _, I4.turned (t' := s4.toks) (fun b o hb e => (sb.2 b hb).trans e) f0 f1 f3 f4 f5, rfl, q D nD⟩
theorem ps_lc {i : Nat} {y : Str} {py spos : Pos} (hc : X.calm = true) (hN : X.N.Nodup) (hi' : X.N[i]? = some y) (hy : X.env.kindOf y = some .local) (lc : LC X k scope NY) (hi : PI X tg iter wi)
    (hb : ∀ (s₀ : Shared) (H₀ : Hp) (C : Addr) (ex : List Addr), NY.Nodup -> PG (lcCx X scope NY s₀ H₀ C ex) tg g /\ PTs (lcCx X scope NY s₀ H₀ C ex) ifs tc /\ PE (lcCx X scope NY s₀ H₀ C ex) elt te)
    (hsw : swapsWith (.ListComp elt [⟨tg, iter, ifs, 0⟩] scope pos) (some (.Name y py)) spos.line X.env = pure true := by rfl)
    (hs : ∀ x, foldedSetIterable iter X.env x = pure x := by intro _; rfl) : PS X (.Assign [.Name y py] (.ListComp elt [⟨tg, iter, ifs, 0⟩] scope pos) spos) (tAsg (tLC k wi g tc te) (gName i)) := by
  intro pins s Z H D0 I h
  rw [exec_Assign_Name_used _ _ _ _ hsw]
  refine wpAny_bind (wpAny_standAt (wpAny_bind ?_))
  show wpAny _ X.A (do let _ <- comprehension (.ListComp elt [⟨tg, iter, ifs, 0⟩] scope pos) scope X.env _ (newList []) false (eval iter X.env) (some (assign (.Name y py) X.env))) _ _ s
  refine wpAny_bind (thn (wpAny_comprehension_free (use := some (assign (.Name y py) X.env)) (Q := fun _ s' => SP X pins D0 .next s') rfl hs (clos_eq fun x hx e => I.ok.has x.1 (lc.free x hx e)) lc.kind lc.names
    (thn (hi pins s Z H _ I h) fun v s1 h1 => thn h1 fun itv s2 h2 => ?_)) fun _ s' q => wpAny_pure (wpAny_pure q))
  obtain ⟨it, fp, tn, J, H2, e, I2, T, st2, f2, W, ⟨m0, w0⟩, turn⟩ := h2
  subst e
  refine lc_run (RR := fun acc C => compPost (model X.prog X.w) X.A X.xe (some (assign (.Name y py) X.env)) (fun _ s' => SP X pins D0 .next s') acc C) hc lc hb I2 T st2 f2 w0 turn fun C D H4 s4 ys m hC nD nC hDC hn I4 q => ?_
  have hCn : upd H4 D (.lst ys) C = none := by rw [upd_ne (xas hDC)]; exact nC
  obtain ⟨f0, f1, f2', f3, f4, f5⟩ := I2.fpOk (H' := upd H4 D (.lst ys)) hC hCn
  obtain ⟨oC, es, ep, eC, dC, rC⟩ := id hn
  have I5 : Inv X (pins ++ [(C, oC)]) Z (upd H4 D (.lst ys)) s4 := I4.pins_of fun p hp => by
    rcases xbe.mp hp with z | z
    · exact I4.pin p (xa4 _ z)
    · have e : p = (C, oC) := by simpa using z
      subst e
      exact ⟨eC, hCn, f1, f2', fun v z => by rw [show (C, oC).2.data = oC.data from rfl, dC] at z; cases z⟩
  show wpAny _ X.A (assign (.Name y py) X.env (.ref D)) _ _ _
  refine wpAny_assign_Name (store_ok (v := .ref D) I5 hN hi' (.inl hy) rfl (fun s5 I6 => ?_) (.inr hy))
  refine ⟨m, ⟨oC, es, ep, (I6.pin (C, oC) (by simp)).1, dC, rC⟩, fun h' sb => ?_⟩
  exact ⟨_, _, I6.unpinned.turned (t' := s5.toks) (fun b o hb e => (sb.2 b hb).trans e) f0 f1 f3 f4 f5, q D nD⟩
end
section
variable {K : xFg} {k : Nat} {g : TG} {tc : TT} {te : TE} {Z : St} {H : Hp} {Fin : List V -> Hp -> Prop}
end
end L2
namespace L2
open PySem.Spec PyProof.Rows
theorem log2_lt_of {n k : Nat} (hk : 0 < k) (h : n < 2 ^ k) : n.log2 < k := by
  rcases Nat.eq_zero_or_pos n with h0 | hp
  · rw [h0]; simpa using hk
  · exact (Nat.log2_lt (xce hp)).mpr h
section
variable {X : Cx}
theorem op_is_bl : OpR X (compareOp .Is) (fun x y H Q => ∃ a b, x = .bl a /\ y = .bl b /\ Q (.bl (a == b)) H) := by
  intro pins s Z H x y v u Q I rx ry h
  obtain ⟨a, b, rfl, rfl, q⟩ := h
  cases rx
  cases ry
  exact is_bool (fin_bl I q rfl)
theorem op_isnot_bl : OpR X (compareOp .IsNot) (fun x y H Q => ∃ a b, x = .bl a /\ y = .bl b /\ Q (.bl (a != b)) H) := by
  intro pins s Z H x y v u Q I rx ry h
  obtain ⟨a, b, rfl, rfl, q⟩ := h
  cases rx
  cases ry
  exact isnot_bool (fin_bl I q rfl)
def gLst (K : xFg) (n : Nat) (t : TGs) : TG := fun v Z H Q => ∃ a xs, v = .ref a /\ SqL K H a xs /\ xs.length = n /\ t xs Z H Q
theorem pg_lst {es : List Expr} {k : Nat} {t : TGs} {n : Nat} {pos : Pos} (hc : X.calm = true) (h : PGs X es t)
    (hn : (assignEach es X.env).length = n := by rfl) (hst : (assignEach es X.env).findIdx? (·.1) = none := by rfl) : PG X (.Tuple es k pos) (gLst X.K n t) := by
  intro pins s Z H v u Q I r hw
  obtain ⟨a, xs, e1, hq, hl, hw⟩ := hw
  subst e1
  cases r
  obtain ⟨its, rv, pl, hz⟩ := I.list hq
  have hsz : (assignEach es X.env).length = its.toArray.size := by simp [hn, <- hl, rv.length]
  rw [assign_Tuple]
  refine wpAny_bind (wpAny_standAt ?_)
  unfold unpack
  rw [hsz, hst]
  refine wpAny_bind (wpAny_holding (PySem.W.kun_itemsOf (I.ok.hd hc) pl.isList fun h' hx => ?_))
  have I1 : Inv X pins Z H { s with heap := h' } := I.kept (t' := s.toks) fun b o e => hx b o (xax (xag e)) e
  exact h pins _ Z H xs _ Q I1 (by simpa using rv) hw
end
end L2
namespace Mth
theorem gcd_step (m n : Nat) : Nat.gcd n (m % n) = Nat.gcd m n := by
  rw [Nat.gcd_comm n (m % n), <- Nat.gcd_rec n m, Nat.gcd_comm]
structure Parts (s x y z x' y' z' : Int) : Prop where
  ne : s ≠ 0
  x : x = s * x'
  y : y = s * y'
  z : z = s * z'
theorem fdiv_of {s x x' : Int} (h : s ≠ 0) (e : x = s * x') : x.fdiv s = x' := by
  rw [e]; exact Int.mul_fdiv_cancel_left x' h
theorem abs_le_of {s x x' : Int} (h : s ≠ 0) (e : x = s * x') : x'.natAbs <= x.natAbs := by
  rw [e, xci]
  exact Nat.le_mul_of_pos_left _ (by omega)
theorem gcd3_parts (x y z : Int) (h : ¬ (x = 0 /\ y = 0 /\ z = 0)) : ∃ x' y' z', Parts ((Nat.gcd (Nat.gcd x.natAbs y.natAbs) z.natAbs : Nat) : Int) x y z x' y' z' := by
  have d1 : (Nat.gcd (Nat.gcd x.natAbs y.natAbs) z.natAbs) ∣ x.natAbs := Nat.dvd_trans (xcp _ _) (xcp _ _)
  have d2 : (Nat.gcd (Nat.gcd x.natAbs y.natAbs) z.natAbs) ∣ y.natAbs := Nat.dvd_trans (xcp _ _) (Nat.gcd_dvd_right _ _)
  have d3 : (Nat.gcd (Nat.gcd x.natAbs y.natAbs) z.natAbs) ∣ z.natAbs := Nat.gcd_dvd_right _ _
  have n0 : Nat.gcd (Nat.gcd x.natAbs y.natAbs) z.natAbs ≠ 0 := by
    intro e
    rw [e] at d1 d2 d3
    exact h ⟨by have := xcl d1; omega, by have := xcl d2; omega, by have := xcl d3; omega⟩
  have c1 : ((Nat.gcd (Nat.gcd x.natAbs y.natAbs) z.natAbs : Nat) : Int) ∣ x := xcs.mp (by rw [xcf]; exact d1)
  have c2 : ((Nat.gcd (Nat.gcd x.natAbs y.natAbs) z.natAbs : Nat) : Int) ∣ y := xcs.mp (by rw [xcf]; exact d2)
  have c3 : ((Nat.gcd (Nat.gcd x.natAbs y.natAbs) z.natAbs : Nat) : Int) ∣ z := xcs.mp (by rw [xcf]; exact d3)
  obtain ⟨x', e1⟩ := c1
  obtain ⟨y', e2⟩ := c2
  obtain ⟨z', e3⟩ := c3
  exact ⟨x', y', z', by omega, e1, e2, e3⟩
theorem Parts.neg {s x y z x' y' z' : Int} (p : Parts s x y z x' y' z') : Parts (0 - s) x y z (-x') (-y') (-z') := by
  refine ⟨by have := p.ne; omega, ?_, ?_, ?_⟩
  · rw [p.x, xcy, Int.neg_mul_neg]
  · rw [p.y, xcy, Int.neg_mul_neg]
  · rw [p.z, xcy, Int.neg_mul_neg]
theorem gcd_le_of {a b B : Nat} (ha : a <= B) (hb : b <= B) : Nat.gcd a b <= B := by
  rcases Nat.eq_zero_or_pos a with h | h
  · rw [h, Nat.gcd_zero_left]; exact hb
  · exact xa5 (Nat.gcd_le_left b h) ha
end Mth
namespace L2
open PySem.Spec PyProof.Rows
theorem same_new {H : Hp} {p : Addr} (h : H p = none) (o : HO) : Same H (upd H p o) := fun b u q => by rw [upd_ne (ne_of_none q h)]; exact q
theorem Same.tup {K : xFg} {H H' : Hp} {a : Addr} {xs : List V} (e : Same H H') (h : SqT K H a xs) : SqT K H' a xs := by
  rcases h with (h | ⟨o, h⟩) | h
  · exact .inl (.inl (e _ _ h))
  · exact .inl (.inr ⟨o, e _ _ h⟩)
  · exact .inr h
theorem small {n : Nat} (h : n <= 1000) : n <= sizeLine := xcd (small1000 h)
section
variable {X : Cx}
end
section
variable {K : xFg} {a : Addr} {xs : List V} {H : Hp}
theorem lgo (h : SqL K H a xs) : (Itl K a).stop xs.length H /\ ∀ i, i < xs.length -> (Itl K a).go i H /\ ∀ v H', (Itl K a).yld i H v H' -> H' = H /\ xs[i]? = some v :=
  ⟨⟨xs, h, xai _⟩, fun i hi => ⟨⟨xs, xs[i], h, by simp [hi]⟩, fun v H' y => ⟨y.1, y.2 xs h⟩⟩⟩
theorem tgo (h : SqT K H a xs) : (Itt K a).stop xs.length H /\ ∀ i, i < xs.length -> (Itt K a).go i H /\ ∀ v H', (Itt K a).yld i H v H' -> H' = H /\ xs[i]? = some v :=
  ⟨⟨xs, h, xai _⟩, fun i hi => ⟨⟨xs, xs[i], h, by simp [hi]⟩, fun v H' y => ⟨y.1, y.2 xs h⟩⟩⟩
end
end L2
namespace L2
open PySem.Spec PyProof.Rows
structure Fly (B : Heap) (l : List Env) (x : Addr) (cls : Value) (dct : Option Addr) (fl : Value) (h : Heap) : Prop where
  stays : B.StaysIn h
  new : B.get? x = none
  frames : h.FunFrames B l
  obj : ∃ ox vs T oT ts, h.get? x = some ox /\ ox.cls = cls /\ ox.dict = dct /\ ox.data = .fields vs /\ vs[1]? = some (.ref T) /\ B.get? T = none /\ T ≠ x /\ h.get? T = some oT /\ oT.data = .fields ts /\ ts[3]? = some fl
theorem dict_mapF (o : Obj) (f : Array Value -> Array Value) : (o.mapFields f).dict = o.dict := by
  obtain ⟨c, d, dt, sl⟩ := o; cases dt <;> rfl
section
variable {M : Model} {A : Around} {E : Value -> Shared -> Prop} {s : Shared} {B : Heap} {env : Env} {outer : List Env} {L x : Addr} {Q : Unit -> Shared -> Prop}
theorem other_rec {h : Heap} {y : Addr} {oy : Obj} {ws : Array Value} (ey : h.get? y = some oy) (dy : oy.data = .fields ws) {b : Addr} {o : Obj} (eb : h.get? b = some o) (nf : ∀ us, o.data ≠ .fields us) : b ≠ y := fun z => by
  rw [z, ey] at eb
  have z' : oy = o := Option.some.inj eb
  rw [<- z'] at nf
  exact nf ws dy
theorem fly_entry {ox : Obj} {vs : Array Value} {head : Value} {hadNext : Bool} (hfr : A.frames = some (env :: outer)) (hl : s.heap.FunFrames B (env :: outer)) (hf : env.frame = some L)
    (ex : s.heap.get? x = some ox) (hB : B.StaysIn s.heap) (nx : B.get? x = none) (dx : ox.data = .fields vs) (sz : 1 < vs.size)
    (k : ∀ h', Fly B (env :: outer) x ox.cls ox.dict (rawInt L) h' -> s.heap.UpToSlots h' -> Q () { s with heap := h' }) :
    wpAny M A (do let a <- frameOf env; let pl <- entryPlaceOf L hadNext; let b <- EntryCells.newEntry head a .none (rawInt L) .none pl; setField (.ref x) 1 b) Q E s := by
  have nfr : x ∉ (env :: outer).filterMap (·.frame) := fun hm => by
    obtain ⟨_, o, ho, nf⟩ := hl.mem hm
    exact other_rec ex dx ho nf rfl
  refine wpAny_bind (wpAny_frameOf_fun hfr hl hf fun g1 so => wpAny_bind (wpAny_entryPlaceOf fun pl hpl => ?_))
  unfold EntryCells.newEntry newFields
  refine wpAny_bind (wpAny_newObj_type ?_ (hpl.sizeOk5 _ _ _ _ _))
  have ex1 : g1.get? x = some ox := (so.2.1 x nfr).trans ex
  have B1 : B.StaysIn g1 := fun b o eb => (so.2.1 b fun hm => by rw [(hl.mem hm).1] at eb; cases eb).trans (hB b o eb)
  generalize eo : ({ cls := .type "traceback", dict := none, data := .fields ([head, .ref L, .none, rawInt L, .none] ++ (if pl.isEmpty then List.replicate 6 Value.none else pl)).toArray } : Obj) = ob
  have ex2 := xad (h := g1) ob ex1
  refine wpAny_setField ex2 dx sz (k _ ?_ ?_)
  · have Tx : g1.objs.size ≠ x := xce (xag ex1)
    have d3 := Obj.data_mapFields dx (·.setIfInBounds 1 (Value.ref g1.objs.size))
    have e3 := xcu (Obj.mapFields (·.setIfInBounds 1 (Value.ref g1.objs.size))) ex2 (Obj.isFreed_of_fields d3)
    have freeOb : ob.isFreed = false := by rw [<- eo]; rfl
    have T3 := (xbf (g1.push ob) (Obj.mapFields (·.setIfInBounds 1 (Value.ref g1.objs.size))) (xas Tx)).trans (xaz g1 freeOb)
    refine ⟨fun b o eb => ?_, nx, hl.of_keeps fun b o eb nf => ?_, _, _, g1.objs.size, ob, _, e3, Obj.cls_mapFields _ _, dict_mapF _ _, d3, by simp [sz], B1.fresh, Tx, T3, by rw [<- eo], ?_⟩
    · rw [xbf _ _ (fun z => by rw [<- z, nx] at eb; cases eb)]
      exact xad _ (B1 b o eb)
    · obtain ⟨sl, q⟩ := so.2.2 b o eb
      refine ⟨{ o with slots := sl }, ?_, rfl⟩
      rw [xbf _ _ (xas (other_rec ex dx eb nf))]
      exact xad _ q
    · rcases hpl with rfl | ⟨_, _, _, _, _, _, _, rfl⟩ <;> simp
  · intro b o eb nf
    obtain ⟨sl, q⟩ := so.2.2 b o eb
    refine ⟨sl, ?_⟩
    rw [xbf _ _ (xas (other_rec ex dx eb nf))]
    exact xad _ q
theorem fly_first {ox : Obj} {vs : Array Value} (hfr : A.frames = some (env :: outer)) (hl : s.heap.FunFrames B (env :: outer)) (hf : env.frame = some L)
    (ex : s.heap.get? x = some ox) (hB : B.StaysIn s.heap) (nx : B.get? x = none) (dx : ox.data = .fields vs) (v1 : vs[1]? = some .none)
    (k : ∀ h', Fly B (env :: outer) x ox.cls ox.dict (rawInt L) h' -> s.heap.UpToSlots h' -> Q () { s with heap := h' }) : wpAny M A (noteFrame (.ref x) env) Q E s := by
  unfold noteFrame
  simp only [hf]
  refine wpAny_bind (wpAny_field ex dx v1 ?_)
  rw [if_neg (show ¬ ((Value.none != Value.none) = true) by decide)]
  exact fly_entry hfr hl hf ex hB nx dx (xa3.mp v1).1 k
theorem fly_next {cls : Value} {dct : Option Addr} (hfr : A.frames = some (env :: outer)) (hf : env.frame = some L) (F : Fly B (env :: outer) x cls dct .none s.heap)
    (k : ∀ h', Fly B (env :: outer) x cls dct (rawInt L) h' -> s.heap.UpToSlots h' -> Q () { s with heap := h' }) : wpAny M A (noteFrame (.ref x) env) Q E s := by
  obtain ⟨ox, vs, T, oT, ts, ex, hc, hd, dx, v1, nT, Tx, eT, dT, t3⟩ := F.obj
  subst hc hd
  unfold noteFrame
  simp only [hf]
  refine wpAny_bind (wpAny_field ex dx v1 ?_)
  rw [if_pos (show (Value.ref T != Value.none) = true by simp)]
  refine wpAny_bind (wpAny_field eT dT t3 ?_)
  rw [if_neg (show ¬ ((Value.none == rawInt L) = true) by simp [rawInt])]
  refine wpAny_bind (wpAny_setField eT dT (xa3.mp t3).1 ?_)
  have oth : ∀ b, b ≠ T -> (s.heap.update T (Obj.mapFields (·.setIfInBounds 3 Value.none))).get? b = s.heap.get? b := fun b hb => xbf _ _ (xas hb)
  have up : s.heap.UpToSlots (s.heap.update T (Obj.mapFields (·.setIfInBounds 3 Value.none))) := fun b o eb nf => ⟨o.slots, (oth b (other_rec eT dT eb nf)).trans eb⟩
  refine fly_entry hfr (F.frames.of_keeps fun b o eb nf => ⟨o, (oth b (other_rec eT dT eb nf)).trans eb, rfl⟩) hf ((oth x (xas Tx)).trans ex) (fun b o eb => (oth b fun z => by rw [z, nT] at eb; cases eb).trans (F.stays b o eb)) F.new dx
    (xa3.mp v1).1 fun h' f u => k h' f (up.trans u)
theorem fly_land {l : List Env} {cls fl : Value} {dct : Option Addr} (F : Fly B l x cls dct fl s.heap)
    (k : ∀ h', Fly B l x cls dct .none h' -> s.heap.UpToSlots h' -> Q () { s with heap := h' }) : wpAny M A (setFlight (.ref x) none) Q E s := by
  obtain ⟨ox, vs, T, oT, ts, ex, hc, hd, dx, v1, nT, Tx, eT, dT, t3⟩ := F.obj
  have sz : 3 < ts.size := (xa3.mp t3).1
  unfold setFlight
  refine wpAny_bind (wpAny_field ex dx v1 ?_)
  rw [if_pos (show (Value.ref T != Value.none) = true by simp)]
  have oth : ∀ b, b ≠ T -> (s.heap.update T (Obj.mapFields (·.setIfInBounds 3 ((none : Option Addr).elim Value.none fun f => rawInt f)))).get? b = s.heap.get? b := fun b hb => xbf _ _ (xas hb)
  refine wpAny_setField eT dT sz (k _ ⟨fun b o eb => (oth b fun z => by rw [z, nT] at eb; cases eb).trans (F.stays b o eb), F.new, F.frames.of_keeps fun b o eb nf => ⟨o, (oth b (other_rec eT dT eb nf)).trans eb, rfl⟩,
    ox, vs, T, _, _, (oth x (xas Tx)).trans ex, hc, hd, dx, v1, nT, Tx, xcu _ eT (Obj.isFreed_of_fields (Obj.data_mapFields dT _)), Obj.data_mapFields dT _, by simp [sz]⟩
    fun b o eb nf => ⟨o.slots, (oth b (other_rec eT dT eb nf)).trans eb⟩)
theorem Fly.out {cls : Value} {dct : Option Addr} {fl : Value} {h : Heap} (F : Fly B (env :: outer) x cls dct fl h) : Fly B outer x cls dct fl h := ⟨F.stays, F.new, F.frames.2.2, F.obj⟩
end
end L2
namespace L2
open PySem.Spec PyProof.Rows
theorem ObjOk.there {P : Program} {w : World} {H : Hp} {h : Heap} {a : Addr} {o : HO} (x : ObjOk P w H h a o) : ∃ ob, h.get? a = some ob := by
  cases o with
  | lst xs => obtain ⟨_, _, _, _, e⟩ := x; exact ⟨_, e⟩
  | tup xs => obtain ⟨_, _, _, ob, e, _⟩ := x; exact ⟨ob, e⟩
  | dK kvs => obtain ⟨_, _, _, _, o, _, _, e, _⟩ := x; exact ⟨o, e⟩
  | dT kvs => obtain ⟨_, _, _, _, o, _, _, e, _⟩ := x; exact ⟨o, e⟩
  | set S n => obtain ⟨o, _, _, _, e, _⟩ := x; exact ⟨o, e⟩
  | ins C dx fs => obtain ⟨_, _, _, e, _⟩ := x; exact ⟨_, e⟩
  | own y => exact x
  | xd fs => obtain ⟨_, ⟨o, _, _, e, _⟩, _⟩ := x; exact ⟨o, e⟩
  | rng lo hi => obtain ⟨_, _, _, e⟩ := x; exact ⟨_, e⟩
  | frz ob u => obtain ⟨e, _⟩ := x; exact ⟨_, e⟩
  | tbl ps => exact ⟨_, (show h.get? a = some _ from x)⟩
  | met f y => exact ⟨_, (show h.get? a = some _ from x)⟩
  | ext φ => exact x.2.1
structure InB (B : Heap) (fs : List Addr) (h0 : Heap) (H' : Hp) (h' : Heap) : Prop where
  old : ∀ b o, h0.get? b = some o -> b ∉ fs -> ∀ o', h'.get? b = some o' -> B.get? b = some o'
  trk : ∀ b u, H' b = some u -> ∀ o', h'.get? b = some o' -> B.get? b = some o'
def CXe (P : Program) (w : World) : CXT := fun outer H s E e s' => ∃ (x C : Addr) (dct : Option Addr) (H' : Hp) (B : Heap), e = .ref x /\ s'.os = s.os /\ AllBare s'.gens /\ Un (frs outer) [] H H' s.heap s'.heap /\ HOk P w H' s'.heap /\
  Fly B outer x (.ref C) dct .none s'.heap /\ InB B (frs outer) s.heap H' s'.heap /\ H' x = none /\ E (.ref C) dct H'
section
variable {X : Cx} {pins : List (Addr × Obj)} {Z : St} {H H' : Hp} {s s' : Shared} {x C : Addr} {B : Heap} {E : XK} {dct : Option Addr} {M : Model} {EE : Value -> Shared -> Prop}
theorem frs_cons {env : Env} {outer : List Env} {L : Addr} (hf : env.frame = some L) : frs (env :: outer) = L :: frs outer := by
  unfold frs; rw [xb7, hf]
theorem leave_made {h' : Heap} {args : List Value} {tk : Nat} (I : Inv X pins Z H s) (hst : X.stack = X.env :: X.outer) (hf : X.env.frame = some X.env.locals) (hex : X.ex = []) (m : Heap.MadeExcOf s.heap h' x (.ref C) args) (hE : E (.ref C) none H) :
    wpAny M X.A (leaving X.env (.ref x)) (fun _ s2 => CXe X.prog X.w X.outer X.H₀ X.s₀ E (.ref x) s2) EE { s with heap := h', toks := tk } := by
  have stk := I.stack
  have hfr : X.A.frames = some (X.env :: X.outer) := by rw [<- hst]; exact I.ok.frames
  rw [hst] at stk
  have fc : frs (X.env :: X.outer) = X.env.locals :: X.fs := frs_cons hf
  have hin : ∀ env ∈ (X.env :: X.outer), ∀ b, env.frame = some b -> b ∈ frs (X.env :: X.outer) := fun env he b hb => xbn.mpr ⟨env, he, hb⟩
  generalize eB : PySem.W.hideAll s.heap (frs (X.env :: X.outer)) = B
  have inB : ∀ b o, s.heap.get? b = some o -> b ∉ frs (X.env :: X.outer) -> B.get? b = some o := fun b o e n => by rw [<- eB]; exact PySem.W.hideAll_get _ e n
  have ofB : ∀ b o, B.get? b = some o -> s.heap.get? b = some o := fun b o e => by rw [<- eB] at e; exact PySem.W.of_hideAll _ e
  have fl0 : s.heap.FunFrames B (X.env :: X.outer) := by rw [<- eB]; exact PySem.W.funFrames_hide stk hin
  have nx : B.get? x = none := by
    cases q : B.get? x with
    | none => rfl
    | some o => have := ofB x o q; rw [m.new] at this; cases this
  obtain ⟨t, et, _, _⟩ := m.there
  have tfree : ∀ b u, H b = some u -> b ∉ frs (X.env :: X.outer) := fun b u e hb => by
    have := I.stkFree b (by rw [hst]; exact hb)
    rw [e] at this; cases this
  have hHx : H x = none := by
    cases q : H x with
    | none => rfl
    | some u =>
      obtain ⟨ob, e⟩ := (I.hok x u q).there
      rw [m.new] at e; cases e
  unfold leaving
  refine wpAny_bind (fly_first (s := { s with heap := h', toks := tk }) hfr (fl0.of_keeps fun b o e _ => ⟨o, m.keeps b o e, rfl⟩) hf et (fun b o e => m.keeps b o (ofB b o e)) nx rfl rfl fun h1 F1 u1 => fly_land F1 fun h2 F2 u2 => ?_)
  have up : s.heap.UpToSlots h2 := (Heap.UpToSlots.of_keeps m.keeps).trans (u1.trans u2)
  have keep2 : ∀ b o, s.heap.get? b = some o -> b ∉ frs (X.env :: X.outer) -> h2.get? b = some o := fun b o e n => F2.stays b o (inB b o e n)
  have below : ∀ b o, X.s₀.heap.get? b = some o -> b ∉ X.fs -> b ∉ frs (X.env :: X.outer) := fun b o e nb hb => by
    rw [fc] at hb
    rcases xap.mp hb with z | z
    · exact absurd (xaj (xag e) I.ok.above) (by rw [z]; exact xbl _)
    · exact nb z
  have noex : ∀ b, b ∉ X.ex := fun b z => by rw [hex] at z; cases z
  have slot2 : ∀ b o, s.heap.get? b = some o -> b ∈ X.fs -> ∃ sl, h2.get? b = some { o with slots := sl } := fun b o e hb => by
    obtain ⟨_, o1, e1, nf⟩ := stk.mem (b := b) (by show b ∈ frs (X.env :: X.outer); rw [fc]; exact xaf _ hb)
    rw [e] at e1; cases e1
    exact up b o e nf
  refine ⟨x, C, none, H, B, rfl, I.os, I.bare, ⟨fun b o e n hb _ => keep2 b o (I.base.keep b o e n hb (noex b)) (below b o e hb), fun b o e n hb _ => ?_, fun b o e n _ => I.base.free b o e n (noex b), fun b o e _ => ?_, I.base.tups, I.base.frzs, I.base.tbls⟩,
    fun b u e => (I.hok b u e).stay (fun c v hc q => keep2 c v q ?_) (fun _ q => q) fun _ _ q => q, F2.out, ⟨fun b o e nb o' e' => ?_, fun b u e o' e' => ?_⟩, hHx, hE⟩
  · obtain ⟨sl, e1⟩ := I.base.slot b o e n hb (noex b)
    obtain ⟨sl2, e2⟩ := slot2 b _ e1 hb
    exact ⟨sl2, e2⟩
  · obtain ⟨o1, e1⟩ := I.base.there b o e (noex b)
    by_cases hb : b ∈ X.fs
    · obtain ⟨sl2, e2⟩ := slot2 b _ e1 hb
      exact ⟨_, e2⟩
    · exact ⟨o1, keep2 b o1 e1 (below b o e hb)⟩
  · rcases hc with z | z
    · rw [z]; exact tfree b u e
    · exact tfree c _ z
  · obtain ⟨o1, e1⟩ := I.base.there b o e (noex b)
    have q := inB b o1 e1 (below b o e nb)
    rw [F2.stays b o1 q] at e'
    cases e'; exact q
  · obtain ⟨o1, e1⟩ := (I.hok b u e).there
    have q := inB b o1 e1 (tfree b u e)
    rw [F2.stays b o1 q] at e'
    cases e'; exact q
theorem leave_on {e : Value} (I : Inv X pins Z H s) (hst : X.stack = X.env :: X.outer) (hf : X.env.frame = some X.env.locals) (hex : X.ex = []) (h : CXe X.prog X.w X.stack H s E e s') :
    wpAny M X.A (leaving X.env e) (fun _ s2 => CXe X.prog X.w X.outer X.H₀ X.s₀ E e s2) EE s' := by
  obtain ⟨x, C, dct, H', B, rfl, ho, hg, un, hok, F, ib, nx, hE⟩ := h
  have stk := I.stack
  have hfr : X.A.frames = some (X.env :: X.outer) := by rw [<- hst]; exact I.ok.frames
  rw [hst] at stk F ib un
  have fc : frs (X.env :: X.outer) = X.env.locals :: X.fs := frs_cons hf
  unfold leaving
  refine wpAny_bind (fly_next hfr hf F fun h1 F1 u1 => fly_land F1 fun h2 F2 u2 => ?_)
  have up : s'.heap.UpToSlots h2 := u1.trans u2
  have below : ∀ b o, X.s₀.heap.get? b = some o -> b ∉ X.fs -> b ∉ frs (X.env :: X.outer) := fun b o e nb hb => by
    rw [fc] at hb
    rcases xap.mp hb with z | z
    · exact absurd (xaj (xag e) I.ok.above) (by rw [z]; exact xbl _)
    · exact nb z
  have inFs : ∀ b, b ∈ X.fs -> b ∈ frs (X.env :: X.outer) := fun b hb => by rw [fc]; exact xaf _ hb
  have noex : ∀ b, b ∉ X.ex := fun b z => by rw [hex] at z; cases z
  have no0 : ∀ b : Addr, b ∉ ([] : List Addr) := fun b => by simp
  have slot2 : ∀ b o, s.heap.get? b = some o -> H b = none -> b ∈ X.fs -> ∃ sl, h2.get? b = some { o with slots := sl } := fun b o e n hb => by
    obtain ⟨_, o1, e1, nf⟩ := stk.mem (b := b) (inFs b hb)
    rw [e] at e1; cases e1
    obtain ⟨sl, e2⟩ := un.slot b o e n (inFs b hb) (no0 b)
    obtain ⟨sl2, e3⟩ := up b _ e2 nf
    exact ⟨sl2, e3⟩
  have free1 : ∀ b o, X.s₀.heap.get? b = some o -> X.H₀ b = none -> H b = none := fun b o e n => I.base.free b o e n (noex b)
  refine ⟨x, C, dct, H', B, rfl, ho.trans I.os, hg, ⟨fun b o e n hb _ => ?_, fun b o e n hb _ => ?_, fun b o e n _ => ?_, fun b o e _ => ?_, fun b xs q => un.tups b xs (I.base.tups b xs q), fun b o u q => un.frzs b o u (I.base.frzs b o u q), fun b ps q => ?_⟩,
    fun b u e => (hok b u e).stay (fun c v hc q => F2.stays c v ?_) (fun _ q => q) fun _ _ q => q, F2.out, ⟨fun b o e nb o' e' => ?_, fun b u e o' e' => ?_⟩, nx, hE⟩
  · have e1 := I.base.keep b o e n hb (noex b)
    have e2 := un.keep b o e1 (free1 b o e n) (below b o e hb) (no0 b)
    exact F2.stays b o (ib.old b o e1 (below b o e hb) o e2)
  · obtain ⟨sl, e1⟩ := I.base.slot b o e n hb (noex b)
    obtain ⟨sl2, e2⟩ := slot2 b _ e1 (free1 b o e n) hb
    exact ⟨sl2, e2⟩
  · obtain ⟨o1, e1⟩ := I.base.there b o e (noex b)
    exact un.free b o1 e1 (free1 b o e n) (no0 b)
  · obtain ⟨o1, e1⟩ := I.base.there b o e (noex b)
    obtain ⟨o2, e2⟩ := un.there b o1 e1 (no0 b)
    by_cases hb : b ∈ X.fs
    · have n : H b = none := I.stkFree b (by rw [hst]; exact inFs b hb)
      obtain ⟨sl2, e3⟩ := slot2 b _ e1 n hb
      exact ⟨_, e3⟩
    · exact ⟨o2, F2.stays b o2 (ib.old b o1 e1 (below b o e hb) o2 e2)⟩
  · obtain ⟨m1, e1⟩ := I.base.tbls b ps q
    obtain ⟨m2, e2⟩ := un.tbls b _ e1
    exact ⟨m1 ++ m2, by rw [e2, Array.append_assoc]⟩
  · rcases hc with z | z
    · subst z; exact ib.trk c u e v q
    · exact ib.trk c _ z v q
  · obtain ⟨o1, e1⟩ := I.base.there b o e (noex b)
    obtain ⟨o2, e2⟩ := un.there b o1 e1 (no0 b)
    have q := ib.old b o1 e1 (below b o e nb) o2 e2
    rw [F2.stays b o2 q] at e'
    cases e'; exact q
  · obtain ⟨o1, e1⟩ := (hok b u e).there
    have q := ib.trk b u e o1 e1
    rw [F2.stays b o1 q] at e'
    cases e'; exact q
def excO (x C : Addr) (dct : Option Addr) : HO := .ext fun h => ∃ o, h.get? x = some o /\ o.cls = .ref C /\ o.dict = dct /\ PySem.W.notCls o = true
end
end L2
namespace L2
open PySem.Spec PyProof.Rows PySem.W
section
variable {prog : Program} {w : World} {A : Around} {E : Value -> Shared -> Prop} {s : Shared} {K : Frag} {x D : Addr} {ox : Obj} {od : Option Obj} {name : Str} {tk : Tok}
theorem exc_check {M : Model} {nameV : Value} {Q : Unit -> Shared -> Prop} (X : K.In s.heap) (I : InstAt s.heap x ox D od) (hb : mroIn K D (.type "BaseException") = some true) (hq : Q () s) :
    wpAny M A (checkBuiltinCall "BaseException.__getattribute__" ⟨[.ref x, nameV], []⟩) Q E s := by
  have hk : builtinKind "BaseException.__getattribute__" = some .slot := by decide +kernel
  have hsp : splitId "BaseException.__getattribute__" = some ("BaseException", "__getattribute__") := by decide +kernel
  have ha := F.args_bexc_ga (.ref x) nameV
  obtain ⟨hh, g, d, t, os⟩ := s
  have L0 : Looks M hh (isInstance (.ref x) (.type "BaseException")) true := (I.type (M := M)).andThen (looks_mroIn X hb)
  simp only [checkBuiltinCall, hk, hsp]
  refine wpAny_bind (L0.at ?_)
  repeat (any_goals (first | assumption | wp_step))
theorem exc_ga {R : Result -> Shared -> Prop} {g a : Value} (X : K.In s.heap) (I : InstAt s.heap x ox D od) (hb : mroIn K D (.type "BaseException") = some true) (hf : findObj K D od name = some (.bind g a))
    (h : wpAny (model prog w) A.in1 (call g [a, .ref x, .ref D]) (fun v s' => R (.ok (.ret v)) s') (fun e s' => R (.error e) s') s) :
    codeAny (model prog w) A (.call (.builtin "BaseException.__getattribute__") ⟨[.ref x, .str name tk], []⟩) R s := by
  refine codeAny_call_builtin F.attr_ValueError.ga.plain F.entry_bexc_ga (exc_check X I hb ?_)
  obtain ⟨hh, gg, d, t, os⟩ := s
  have L0 := I.type (M := model prog w)
  have L1 := looks_find (M := model prog w) X I hf
  unfold Builtin.«object.__getattribute__»
  refine wpAny_bind (wpAny_of_eq (a := (Value.ref x, [Value.str name tk])) rfl ?_)
  refine wpAny_bind (wpAny_of_eq (a := name) rfl ?_)
  refine wpAny_bind (L0.at (wpAny_bind (L1.at ?_)))
  show wpAny _ _ (do ret (<- holding [a] (call g [a, Value.ref x, Value.ref D]))) _ _ _
  exact wpAny_bind (wpAny_holding (wpAny_mono h (fun v s' q => wpAny_pure q) fun e s' q => q))
theorem findObj_bind {a g : Value} (hc : (clsIn K D).isSome = true) (ha : findIn K (.ref D) name = some (some a)) (hg : specialIn K a "__get__" = some (some g)) (ht : takesIn K a = some true) : findObj K D od name = some (.bind g a) := by
  obtain ⟨cd, hc⟩ := xba.mp hc
  unfold findObj
  rw [hc, Option.bind_some, ha, Option.bind_some]
  simp [hg, ht]
structure ExcC (K : Frag) (D : Addr) : Prop where
  cls : (clsIn K D).isSome = true
  ga : findIn K (.ref D) "__getattribute__" = some (some (.builtin "BaseException.__getattribute__"))
  gh : findIn K (.ref D) "__getattr__" = some none
  base : mroIn K D (.type "BaseException") = some true
  obj : mroIn K D (.type "object") = some true
  ca : findIn K (.ref D) "__class__" = some (some (.builtin "object.__class__"))
  cg : specialIn K (.builtin "object.__class__") "__get__" = some (some (.builtin "getset_descriptor.__get__"))
  ct : takesIn K (.builtin "object.__class__") = some true
theorem exc_class {Q : Option Value -> Shared -> Prop} (c : ExcC K D) (X : K.In s.heap) (I : InstAt s.heap x ox D od) (h : Q (some (.ref D)) { s with toks := s.toks + 1 }) :
    wpAny (model prog w) A (getAttr? (.ref x) "__class__") Q E s := by
  obtain ⟨hh, gg, d, t, os⟩ := s
  have L0 := I.type (M := model prog w)
  have L1 := looks_findIn (M := model prog w) X c.ga
  have L2 := looks_findIn (M := model prog w) X c.gh
  have hf : findObj K D od "__class__" = some (.bind (.builtin "getset_descriptor.__get__") (.builtin "object.__class__")) := findObj_bind c.cls c.ca c.cg c.ct
  have hx1 : (onTheHeap (Value.ref D) && Value.builtin "BaseException.__getattribute__" == Value.builtin "object.__getattribute__") = false := by
    rw [show (Value.builtin "BaseException.__getattribute__" == Value.builtin "object.__getattribute__") = false by decide +kernel]; rfl
  unfold getAttr? getAttrBy? getAttrBy
  refine wpAny_bind (wpAny_mkText (wpAny_bind (wpAny_attempt (wpAny_holding (wpAny_bind (L0.at (wpAny_bind (L1.at ?_))))))))
  dsimp only
  rw [hx1, if_neg xaw]
  unfold getAttrByItsOwn
  refine wpAny_bind ?_
  show wpAny _ _ (typeLookup (.ref D) "__getattr__") _ _ _
  refine L2.at ?_
  refine wpAny_bind (wpAny_attempt (wpAny_holding ?_))
  show wpAny _ _ (boundAndCalled (.builtin "BaseException.__getattribute__") (.ref x) (.str "__class__" t)) _ _ _
  unfold boundAndCalled
  refine wpAny_bind (wpAny_of_eq (F.attr_ValueError.ga.bind (.ref x)) ?_)
  refine wpAny_call (exc_ga X I c.base hf ?_)
  refine wpAny_call (class_get X I c.obj ?_)
  exact handed_on rfl (wpAny_pure h)
theorem kitx_exc (c : ExcC K D) : KitX K (.ref x) (.ref D) (fun h => ∃ ox od, InstAt h x ox D od) where
  ty := fun _ _ _ ⟨_, _, I⟩ => I.type
  it := fun _ _ X _ => by
    obtain ⟨cdD, hcD⟩ := xba.mp c.cls
    unfold clsIn at hcD
    split at hcD
    · rename_i c' d' cd' sl' ho
      intro A' Q' E' s' k q
      unfold isType loadHead
      exact wpAny_bind (wpAny_loadPart (k _ _ (X _ _ ho)) (wpAny_pure q))
    · cases hcD
  ne := fun h tp dd its n sl X htp => by
    obtain ⟨cdD, hcD⟩ := xba.mp c.cls
    refine Bool.eq_false_iff.mpr fun q => ?_
    have e : D = tp := Value.ref.inj (beq_iff_eq.mp q)
    subst e
    unfold clsIn at hcD
    split at hcD
    · rename_i c' d' cd' sl' ho
      have z := (X _ _ ho).symm.trans htp
      cases z
    · cases hcD
  ca := fun X ⟨_, _, I⟩ k => exc_class c X I k
end
end L2
namespace L2
open PySem.Spec PyProof.Rows
section
variable {P : Program} {w : World} {K : xFg} {mg : Str -> Option Value} {base : Heap}
theorem Fun.okX {CX : CXT} {x qual : Str} {st : Stmt} {f : Addr} {fd : FuncData} {N ps : List Str} {k : Nat} {sp : Sp} (F : Fun K x qual st f fd) (S : FnScope N ps (defScope st)) (len : ∀ vs H Q E, sp vs H Q E -> vs.length = ps.length)
    (hbody : ∀ (cdv : Value) (A : Around) (outer : List Env) (s : Shared) (H : Hp) (vs : List V) (Q : VK) (E : XK), Room k (A.deeper (envOfC qual (defScope st) s.heap.objs.size f cdv)) -> sp vs H Q E ->
      ∃ t, PSs (cxOf CX P w K mg base N qual (defScope st) f cdv A outer s H E) (defBody st) t /\ t { nx := fun _ H' => Q .non H', rt := Q } (start N vs) H) : FnOk P w K mg base CX (k + 1) f fd ps sp := by
  obtain ⟨oc, od, kV, doc, pm, an, cdv, ct, osl, rfl, lk, hcd⟩ := F.ex
  exact fn_of lk hcd S len fun A outer s H vs Q E hr hsp => hbody cdv A outer s H vs Q E hr hsp
theorem passE {N : List Str} {qual : Str} {scope : Scope} {f : Addr} {cdv : Value} {A : Around} {outer : List Env} {s : Shared} {H : Hp} {E : XK} : Passes (CXe P w) (cxOf (CXe P w) P w K mg base N qual scope f cdv A outer s H E) E :=
  fun pins Z H1 s1 e s' I h => leave_on (X := cxOf (CXe P w) P w K mg base N qual scope f cdv A outer s H E) I rfl rfl rfl h
theorem passN {X : Cx} : Passes (CXe P w) X E0 := fun _ _ _ _ _ _ _ h => by
  obtain ⟨_, _, _, _, _, _, _, _, _, _, _, _, _, z⟩ := h
  exact z.elim
end
theorem exc_obj {K : xFg} {h : Heap} {C : Addr} {bmB : List Value} {newId : String} (X : K.In h) (q : PySem.W.excIn K C bmB newId = true) :
    ∃ bm N nm qn bs hdct sn sub ab col dd k0 k1 k2 k3 k5 mN, h.get? C = some (excClassObj nm qn C N bs bm hdct sn sub ab col dd k0 k1 k2 k3 k5 newId) /\ h.Ns N mN /\ mN "__init__" = none /\ OwnTail h bmB bm := by
  unfold PySem.W.excIn at q
  split at q
  · rename_i dd cd sl lk
    split at q
    · rename_i C' bm k0 k1 k2 k3 nn k5 hm hs
      simp only [xat, beq_iff_eq, Bool.not_eq_true'] at q
      obtain ⟨⟨⟨⟨⟨rfl, rfl⟩, hdel⟩, ht⟩, hok⟩, hni⟩ := q
      obtain ⟨nm, bs, mro, ns, qn, hd, sn, sub, ab, col, del⟩ := cd
      dsimp only at hm hdel hok hni
      subst hm hdel
      obtain rfl : sl = #[k0, k1, k2, k3, some (.builtin nn), k5] := by
        obtain ⟨l⟩ := sl
        simp only at hs
        rw [hs]
      exact ⟨bm, ns, nm, qn, bs, hd, sn, sub, ab, col, dd, k0, k1, k2, k3, k5, _, X _ _ lk, .of_isNs (PySem.W.isNs_of_in X hok), PySem.W.nsMap_none_of_in X hok hni, PySem.W.tail_of_in X ht⟩
    · cases q
  · cases q
def tRaise (C : Addr) (ta : TA) (E : XK) : TS := fun _ Z H => ta Z H fun vs H1 => vs.length <= sizeLine /\ E (.ref C) none H1
section
variable {P : Program} {w : World} {K : xFg} {mg : Str -> Option Value} {base : Heap} {N : List Str} {qual : Str} {scope : Scope} {f : Addr} {cdv : Value} {A : Around} {outer : List Env} {s0 : Shared} {H0 : Hp} {E : XK}
theorem ps_raise {x : Str} {C : Addr} {e0 : Expr} {rest : List Expr} {np cpos pos : Pos} {ta : TA} (q : PySem.W.excIn K C [.type "ValueError", .type "Exception", .type "BaseException", .type "object"] "ValueError.__new__" = true)
    (hg : Gl (cxOf (CXe P w) P w K mg base N qual scope f cdv A outer s0 H0 E) x) (hm : mg x = some (.ref C)) (ha : PA (cxOf (CXe P w) P w K mg base N qual scope f cdv A outer s0 H0 E) (e0 :: rest) ta)
    (hdb : (x == ("__debug__" : Str)) = false := by decide)
    (he : starEach (e0 :: rest) (envOfC qual scope s0.heap.objs.size f cdv) = (false, eval e0 (envOfC qual scope s0.heap.objs.size f cdv)) :: starEach rest (envOfC qual scope s0.heap.objs.size f cdv) := by rfl)
    (hpl : (backTo cpos (starEach rest (envOfC qual scope s0.heap.objs.size f cdv))).any (·.1) = false := by rfl) :
    PS (cxOf (CXe P w) P w K mg base N qual scope f cdv A outer s0 H0 E) (.Raise (some (.Call (.Name x np) (e0 :: rest) [] cpos)) none pos) (tRaise C ta E) := by
  intro pins s Z H D I h
  obtain ⟨bm, Nn, nm, qn, bs, hdct, sn, sub, ab, col, dd, k0, k1, k2, k3, k5, mN, hC, hN, hni, T⟩ := exc_obj I.mod.kin q
  refine wpAny_Raise_call_subT (C := C) (nm := nm) (q := qn) (N := Nn) (bs := bs) (bm := bm) (hdct := hdct) (sn := sn) (sub := sub) (ab := ab) (col := col) (dd := dd) (k0 := k0) (k1 := k1) (k2 := k2) (k3 := k3) (k5 := k5)
    PySem.F.excBase_ValueError (mN := mN) (T.hasType PySem.F.excBase_ValueError.hasBase) (I.ok.hd rfl) (by
      show (backTo cpos (starEach (e0 :: rest) (envOfC qual scope s0.heap.objs.size f cdv))).any (·.1) = false
      rw [he]; show (false || (backTo cpos (starEach rest (envOfC qual scope s0.heap.objs.size f cdv))).any (·.1)) = false; rw [hpl]; rfl) hni (ld_glob I hg hm ⟨rfl, ?_⟩ hdb)
  have ha' := ha cpos pins s Z H _ I h
  show wpAny _ _ (evalArgs (.ref C) true (backTo cpos (starEach (e0 :: rest) (envOfC qual scope s0.heap.objs.size f cdv))) []) _ _ _
  change wpAny _ _ (spliced (backTo cpos (starEach (e0 :: rest) (envOfC qual scope s0.heap.objs.size f cdv)))) _ _ _ at ha'
  rw [he] at ha' ⊢
  refine Calls.evalArgs_plain (thn ha' fun us s2 ⟨vs, H1, I1, r, hz, hE⟩ => ?_)
  have hl : us.length <= sizeLine := by rw [<- r.length]; exact hz
  exact ⟨rfl, hl, I1.bk _ _ hC, hN.keeps I1.bk, T.keeps I1.bk, fun h' e m => leave_made (tk := s2.toks) I1 rfl rfl rfl m hE⟩
end
end L2
namespace L2
open PySem.Spec PyProof.Rows
def XP (X : Cx) (CX : CXT) (pins : List (Addr × Obj)) (Z : St) (E : XK) (e : Value) (s' : Shared) : Prop := ∃ s1 H1, Inv X pins Z H1 s1 /\ CX X.stack H1 s1 E e s'
section
variable {X : Cx} {CX : CXT} {k : Nat} {f : Addr} {fd : FuncData} {ps : List Str} {sp : Sp} {dvs : List V} {ds : List Value} {x : Str} {p pos : Pos} {e : Expr} {es : List Expr} {t : TA}
end
section
variable {X : Cx} {pins : List (Addr × Obj)} {Z : St} {H : Hp} {s : Shared} {x : Addr}
end
theorem call_isiX {X : Cx} : CallR X (.builtin "isinstance") (fun xs H Q => ∃ (a C : Addr) (c : V) (cv : Value) (b : Bool), xs = [.ref a, c] /\ H a = some (excO a C none) /\ ((∃ D, c = .ref D /\ cv = .ref D) \/ ∃ T, c = .ty T /\ cv = .type T) /\ ExcC X.K C /\ PySem.W.kitOne X.K (.ref C) cv = some b /\ Q (.bl b) H) := by
  intro pins s Z H xs us Q I r h
  obtain ⟨a, C, c, cv, b, rfl, ha, hc, ec, hk, q⟩ := h
  obtain ⟨u, w', rfl, ru, rw'⟩ := vals2 r
  obtain rfl : u = Value.ref a := ru
  have e : w' = cv := by
    rcases hc with ⟨D, rfl, rfl⟩ | ⟨T, rfl, rfl⟩
    · exact rw'
    · exact rw'
  subst e
  obtain ⟨⟨o, e1, e2, e3, e4⟩, _, _⟩ := I.hok a _ ha
  have hI : PySem.W.InstAt s.heap a o C none := ⟨e1, e2, e4, by rw [e3]; trivial⟩
  exact PySem.W.kia_one (kitx_exc ec) I.kIn ⟨o, none, hI⟩ hk (fun z => nomatch z) fun tk => ⟨.bl b, H, I.tok tk, rfl, q⟩
end L2
namespace L2
open PySem.Spec PyProof.Rows
section
variable {X : Cx}
theorem all_range (bs : List Bool) : (List.range bs.length).all (fun i => bs.getD i false) = bs.all id := by
  rw [xb9]
  simp only [xa0, xa2, id]
  constructor
  · intro h b hb
    obtain ⟨i, hi, rfl⟩ := List.mem_iff_getElem.mp hb
    have q := h i hi
    simpa [List.getD, hi] using q
  · intro h i hi
    have q := h _ (xbz hi)
    simpa [List.getD, hi] using q
theorem bools_at {bs : List Bool} {its : List Value} (r : Vals (bs.map V.bl) its) {i : Nat} {v : Value} (h : its.toArray[i]? = some v) : v = .bool (bs.getD i false) := by
  have hl := r.length
  rw [xab] at hl
  have hi : i < bs.length := by
    rw [hl]
    have : its[i]? = some v := by simpa using h
    exact (xae.mp this).1
  obtain ⟨u, hu, ru⟩ := r.get (i := i) (x := .bl bs[i]) (by simp [hi])
  have e : its[i]? = some v := by simpa using h
  rw [hu] at e
  cases e
  rw [show v = .bool bs[i] from ru]
  simp [List.getD, hi]
theorem call_all (hc : X.calm = true) : CallR X (.builtin "all") (fun xs H Q => ∃ (p : Addr) (bs : List Bool), xs = [.ref p] /\ SqL X.K H p (bs.map V.bl) /\ Q (.bl (bs.all id)) H) := by
  intro pins s Z H xs us Q I r h
  obtain ⟨p, bs, rfl, hq, q⟩ := h
  obtain ⟨u, rfl, e⟩ := vals1 r
  cases e
  obtain ⟨its, rv, pl, hz⟩ := I.list hq
  have hl : its.toArray.size = bs.length := by rw [xah, <- rv.length, xab]
  have hlt : p < s.heap.objs.size := by obtain ⟨o, e, _⟩ := pl.isList; exact xag e
  refine call_all_walk (wpAny_pyIter_list pl.isList ⟨_, _, _, _, _, _, fun i => bs.getD i false, rfl, Walks.list (A := X.A.in1) (I.ok.hd hc) s.heap.objs.size p (xax hlt) its.toArray, ⟨⟨_, xaz _ rfl, rfl, rfl⟩, pl.isList.push _⟩, fun i v s' Q' E' hv hQ => ?_, fun h' tk k => ?_⟩)
  · rw [bools_at rv hv]; exact wpAny_truthy_bool hQ
  · refine ⟨.bl (bs.all id), H, I.kept fun b o e => k b o (fun z => xax (xag e) (by simpa using z)) (xad _ e), ?_, q⟩
    rw [hl, all_range]; rfl
end
end L2
namespace Mth
def lastNZ (x y z : Int) : Int := if z ≠ 0 then z else if y ≠ 0 then y else x
def g3 (x y z : Int) : Nat := Nat.gcd (Nat.gcd x.natAbs y.natAbs) z.natAbs
def lowS (x y z : Int) : Int := if lastNZ x y z < 0 then 0 - ((g3 x y z : Nat) : Int) else ((g3 x y z : Nat) : Int)
abbrev NZ (x y z : Int) : Prop := ¬ (x = 0 /\ y = 0 /\ z = 0)
theorem low_parts {x y z : Int} (h : NZ x y z) : Parts (lowS x y z) x y z (x.fdiv (lowS x y z)) (y.fdiv (lowS x y z)) (z.fdiv (lowS x y z)) := by
  obtain ⟨x', y', z', p⟩ := gcd3_parts x y z h
  have key : ∃ x' y' z', Parts (lowS x y z) x y z x' y' z' := by
    unfold lowS
    by_cases c : lastNZ x y z < 0
    · rw [if_pos c]; exact ⟨-x', -y', -z', p.neg⟩
    · rw [if_neg c]; exact ⟨x', y', z', p⟩
  obtain ⟨x', y', z', p⟩ := key
  rw [fdiv_of p.ne p.x, fdiv_of p.ne p.y, fdiv_of p.ne p.z]
  exact p
theorem Parts.nz {s x y z x' y' z' : Int} (p : Parts s x y z x' y' z') (h : NZ x y z) : NZ x' y' z' := fun q => h (by rw [p.x, p.y, p.z, q.1, q.2.1, q.2.2]; simp)
theorem g3_ne {x y z : Int} (h : NZ x y z) : g3 x y z ≠ 0 := by
  unfold g3
  intro e
  have e1 := Nat.eq_zero_of_gcd_eq_zero_left e
  have e2 := Nat.eq_zero_of_gcd_eq_zero_right e
  have e3 := Nat.eq_zero_of_gcd_eq_zero_left e1
  have e4 := Nat.eq_zero_of_gcd_eq_zero_right e1
  exact h ⟨by omega, by omega, by omega⟩
theorem lowS_abs (x y z : Int) : (lowS x y z).natAbs = g3 x y z := by
  unfold lowS
  split <;> omega
theorem g3_mul (s x y z : Int) : g3 (s * x) (s * y) (s * z) = s.natAbs * g3 x y z := by
  unfold g3
  rw [xci, xci, xci, Nat.gcd_mul_left, Nat.gcd_mul_left]
theorem lastNZ_mul {s : Int} (hs : s ≠ 0) (x y z : Int) : lastNZ (s * x) (s * y) (s * z) = s * lastNZ x y z := by
  unfold lastNZ
  by_cases hz : z = 0
  · subst hz
    by_cases hy : y = 0
    · subst hy; simp
    · have : s * y ≠ 0 := fun e => by rcases xay.mp e with q | q <;> contradiction
      simp [hy, this]
  · have : s * z ≠ 0 := fun e => by rcases xay.mp e with q | q <;> contradiction
    simp [hz, this]
theorem lastNZ_ne {x y z : Int} (h : NZ x y z) : lastNZ x y z ≠ 0 := by
  unfold lastNZ
  by_cases hz : z = 0
  · by_cases hy : y = 0
    · have : x ≠ 0 := fun e => h ⟨e, hy, hz⟩
      simp [hz, hy, this]
    · simp [hz, hy]
  · simp [hz]
theorem low_form {x y z x' y' z' : Int} (h : NZ x y z) (p : Parts (lowS x y z) x y z x' y' z') : lowS x' y' z' = 1 := by
  have hg : g3 x y z = (lowS x y z).natAbs * g3 x' y' z' := by
    have e := g3_mul (lowS x y z) x' y' z'
    rw [<- p.x, <- p.y, <- p.z] at e
    exact e
  rw [lowS_abs] at hg
  have n0 := g3_ne h
  have g1 : g3 x' y' z' = 1 := by
    have : g3 x y z * 1 = g3 x y z * g3 x' y' z' := by rw [Nat.mul_one]; exact hg
    exact (Nat.eq_of_mul_eq_mul_left (Nat.pos_of_ne_zero n0) this).symm
  have hl : lastNZ x y z = lowS x y z * lastNZ x' y' z' := by
    have e := lastNZ_mul p.ne x' y' z'
    rw [<- p.x, <- p.y, <- p.z] at e
    exact e
  have ln := lastNZ_ne (p.nz h)
  have lp : 0 < lastNZ x' y' z' := by
    by_cases c : lastNZ x y z < 0
    · have es : lowS x y z < 0 := by unfold lowS; rw [if_pos c]; omega
      rcases (show 0 < lastNZ x' y' z' \/ lastNZ x' y' z' <= 0 by omega) with q | q
      · exact q
      · have q' : lastNZ x' y' z' < 0 := by omega
        have := Int.mul_pos_of_neg_of_neg es q'
        rw [<- hl] at this; omega
    · have es : 0 < lowS x y z := by unfold lowS; rw [if_neg c]; omega
      rcases (show 0 < lastNZ x' y' z' \/ lastNZ x' y' z' <= 0 by omega) with q | q
      · exact q
      · have q' : lastNZ x' y' z' < 0 := by omega
        have := Int.mul_neg_of_pos_of_neg es q'
        rw [<- hl] at this; omega
  unfold lowS
  rw [if_neg (by omega), g1]; rfl
theorem fdiv_one (x : Int) : x.fdiv 1 = x := by
  rw [Int.fdiv_eq_ediv_of_nonneg _ (by decide)]; exact Int.ediv_one x
theorem g3_le {x y z : Int} {B : Nat} (hx : x.natAbs <= B) (hy : y.natAbs <= B) (hz : z.natAbs <= B) : g3 x y z <= B := gcd_le_of (gcd_le_of hx hy) hz
theorem lowS_le {x y z : Int} {B : Nat} (hx : x.natAbs <= B) (hy : y.natAbs <= B) (hz : z.natAbs <= B) : (lowS x y z).natAbs <= B := by rw [lowS_abs]; exact g3_le hx hy hz
end Mth
namespace Mth
abbrev P3 := Int × Int × Int
def dot (p q : P3) : Int := p.1 * q.1 + p.2.1 * q.2.1 + p.2.2 * q.2.2
def crs (p q : P3) : P3 := (p.2.1 * q.2.2 - p.2.2 * q.2.1, p.2.2 * q.1 - p.1 * q.2.2, p.1 * q.2.1 - p.2.1 * q.1)
abbrev Nz (p : P3) : Prop := NZ p.1 p.2.1 p.2.2
abbrev sOf (p : P3) : Int := lowS p.1 p.2.1 p.2.2
def low (p : P3) : P3 := (p.1.fdiv (sOf p), p.2.1.fdiv (sOf p), p.2.2.fdiv (sOf p))
structure Nrm (p : P3) : Prop where
  nz : Nz p
  one : sOf p = 1
theorem low_eq {p : P3} (h : Nz p) : sOf p ≠ 0 /\ p.1 = sOf p * (low p).1 /\ p.2.1 = sOf p * (low p).2.1 /\ p.2.2 = sOf p * (low p).2.2 :=
  ⟨(low_parts h).ne, (low_parts h).x, (low_parts h).y, (low_parts h).z⟩
theorem low_nrm {p : P3} (h : Nz p) : Nrm (low p) := ⟨(low_parts h).nz h, low_form h (low_parts h)⟩
theorem Nrm.low {p : P3} (h : Nrm p) : Mth.low p = p := by
  unfold Mth.low; rw [h.one, fdiv_one, fdiv_one, fdiv_one]
theorem dot_low {p q : P3} (h : Nz q) : dot p (low q) = 0 ↔ dot p q = 0 := by
  obtain ⟨h0, h1, h2, h3⟩ := low_eq h
  have e : dot p q = sOf q * dot p (low q) := by unfold dot; grind
  rw [e, xay]
  exact ⟨.inr, fun z => z.resolve_left h0⟩
theorem low_abs {p : P3} (h : Nz p) : (low p).1.natAbs <= p.1.natAbs /\ (low p).2.1.natAbs <= p.2.1.natAbs /\ (low p).2.2.natAbs <= p.2.2.natAbs := by
  obtain ⟨h0, h1, h2, h3⟩ := low_eq h
  exact ⟨abs_le_of h0 h1, abs_le_of h0 h2, abs_le_of h0 h3⟩
theorem Nrm.last {p : P3} (h : Nrm p) : 0 < lastNZ p.1 p.2.1 p.2.2 /\ g3 p.1 p.2.1 p.2.2 = 1 := by
  have h1 := h.one
  have h2 := lastNZ_ne h.nz
  unfold sOf lowS at h1
  split at h1 <;> constructor <;> omega
theorem cross_zero {p q : P3} (hp : Nz p) (hq : Nz q) (h : crs p q = (0, 0, 0)) :
    lastNZ q.1 q.2.1 q.2.2 * p.1 = lastNZ p.1 p.2.1 p.2.2 * q.1 /\ lastNZ q.1 q.2.1 q.2.2 * p.2.1 = lastNZ p.1 p.2.1 p.2.2 * q.2.1 /\ lastNZ q.1 q.2.1 q.2.2 * p.2.2 = lastNZ p.1 p.2.1 p.2.2 * q.2.2 := by
  obtain ⟨a, b, c⟩ := p
  obtain ⟨x, y, z⟩ := q
  simp only [crs, Prod.mk.injEq] at h
  obtain ⟨h1, h2, h3⟩ := h
  simp only [Nz, NZ] at hp hq
  unfold lastNZ
  simp only
  by_cases hc : c = 0
  · subst hc
    by_cases hz : z = 0
    · subst hz
      by_cases hb : b = 0
      · subst hb
        by_cases hy : y = 0
        · subst hy; grind
        · have : a = 0 := by
            have := h3
            simp at this
            exact (xay.mp this).resolve_right hy
          exact absurd ⟨this, rfl, rfl⟩ hp
      · by_cases hy : y = 0
        · subst hy
          have : x = 0 := by
            have := h3
            simp at this
            exact (xay.mp this).resolve_left hb
          exact absurd ⟨this, rfl, rfl⟩ hq
        · simp only [ne_eq, not_true_eq_false, if_false, hb, hy, not_false_eq_true, if_true]
          grind
    · have hb : b = 0 := by
        have := h1
        simp at this
        exact (xay.mp this).resolve_right hz
      have ha : a = 0 := by
        have := h2
        simp at this
        exact (xay.mp this).resolve_right hz
      exact absurd ⟨ha, hb, rfl⟩ hp
  · by_cases hz : z = 0
    · subst hz
      have hy : y = 0 := by
        have := h1
        simp at this
        exact (xay.mp this).resolve_left hc
      have hx : x = 0 := by
        have := h2
        simp at this
        exact (xay.mp this).resolve_left hc
      exact absurd ⟨hx, hy, rfl⟩ hq
    · simp only [ne_eq, hc, hz, not_false_eq_true, if_true]
      grind
theorem cross_ne {p q : P3} (hp : Nrm p) (hq : Nrm q) (h : p ≠ q) : Nz (crs p q) := by
  intro hz
  apply h
  obtain ⟨e1, e2, e3⟩ := cross_zero hp.nz hq.nz (xao hz.1 (xao hz.2.1 hz.2.2))
  obtain ⟨sp, gp⟩ := hp.last
  obtain ⟨sq, gq⟩ := hq.last
  have g1 := g3_mul (lastNZ q.1 q.2.1 q.2.2) p.1 p.2.1 p.2.2
  have g2 := g3_mul (lastNZ p.1 p.2.1 p.2.2) q.1 q.2.1 q.2.2
  rw [e1, e2, e3, g2, gp, gq] at g1
  have e : lastNZ q.1 q.2.1 q.2.2 = lastNZ p.1 p.2.1 p.2.2 := by omega
  rw [e] at e1 e2 e3
  have ne : lastNZ p.1 p.2.1 p.2.2 ≠ 0 := by omega
  exact xao (xcb ne e1) (xao (xcb ne e2) (xcb ne e3))
def Col (ps : List P3) : Prop := ∀ p ∈ ps, ∀ q ∈ ps, ∀ r ∈ ps, dot p (crs q r) = 0
theorem on_line {L p q r : P3} (hL : Nz L) (hp : dot p L = 0) (hq : dot q L = 0) (hr : dot r L = 0) : dot p (crs q r) = 0 := by
  have e1 : dot p (crs q r) * L.1 = 0 := by unfold dot crs at *; grind
  have e2 : dot p (crs q r) * L.2.1 = 0 := by unfold dot crs at *; grind
  have e3 : dot p (crs q r) * L.2.2 = 0 := by unfold dot crs at *; grind
  by_cases h : dot p (crs q r) = 0
  · exact h
  · exact absurd ⟨(xay.mp e1).resolve_left h, (xay.mp e2).resolve_left h, (xay.mp e3).resolve_left h⟩ hL
theorem Col.iff {ps : List P3} {p0 o : P3} (h0 : p0 ∈ ps) (ho : o ∈ ps) (hL : Nz (crs p0 o)) : Col ps ↔ ∀ p ∈ ps, dot p (crs p0 o) = 0 :=
  ⟨fun c p hp => c p hp p0 h0 o ho, fun c p hp q hq r hr => on_line hL (c p hp) (c q hq) (c r hr)⟩
theorem Col.same {ps : List P3} {p0 : P3} (h : ∀ p ∈ ps, p = p0) : Col ps := fun p hp q hq r hr => by
  rw [h p hp, h q hq, h r hr]; unfold dot crs; grind
end Mth
namespace Mth
abbrev M3 := P3 × P3 × P3
def mul (m : M3) (p : P3) : P3 := (dot m.1 p, dot m.2.1 p, dot m.2.2 p)
def cof (m : M3) : M3 := (crs m.2.1 m.2.2, crs m.2.2 m.1, crs m.1 m.2.1)
def det (m : M3) : Int := dot m.1 (crs m.2.1 m.2.2)
theorem lagrange (a b p q : P3) : dot a p * dot b q - dot b p * dot a q = dot (crs a b) (crs p q) := by unfold dot crs; grind
theorem crs_mul (m : M3) (p q : P3) : crs (mul m p) (mul m q) = mul (cof m) (crs p q) := by
  have h1 := lagrange m.2.1 m.2.2 p q
  have h2 := lagrange m.2.2 m.1 p q
  have h3 := lagrange m.1 m.2.1 p q
  exact xao h1 (xao h2 h3)
theorem det_x (m : M3) (p : P3) : det m * p.1 = dot m.1 p * (crs m.2.1 m.2.2).1 + dot m.2.1 p * (crs m.2.2 m.1).1 + dot m.2.2 p * (crs m.1 m.2.1).1 := by unfold det dot crs; grind
theorem det_y (m : M3) (p : P3) : det m * p.2.1 = dot m.1 p * (crs m.2.1 m.2.2).2.1 + dot m.2.1 p * (crs m.2.2 m.1).2.1 + dot m.2.2 p * (crs m.1 m.2.1).2.1 := by unfold det dot crs; grind
theorem det_z (m : M3) (p : P3) : det m * p.2.2 = dot m.1 p * (crs m.2.1 m.2.2).2.2 + dot m.2.1 p * (crs m.2.2 m.1).2.2 + dot m.2.2 p * (crs m.1 m.2.1).2.2 := by unfold det dot crs; grind
theorem cof_x (m : M3) (p : P3) : det m * p.1 = dot (crs m.2.1 m.2.2) p * m.1.1 + dot (crs m.2.2 m.1) p * m.2.1.1 + dot (crs m.1 m.2.1) p * m.2.2.1 := by unfold det dot crs; grind
theorem cof_y (m : M3) (p : P3) : det m * p.2.1 = dot (crs m.2.1 m.2.2) p * m.1.2.1 + dot (crs m.2.2 m.1) p * m.2.1.2.1 + dot (crs m.1 m.2.1) p * m.2.2.2.1 := by unfold det dot crs; grind
theorem cof_z (m : M3) (p : P3) : det m * p.2.2 = dot (crs m.2.1 m.2.2) p * m.1.2.2 + dot (crs m.2.2 m.1) p * m.2.1.2.2 + dot (crs m.1 m.2.1) p * m.2.2.2.2 := by unfold det dot crs; grind
theorem zero_of {a b : Int} (h : a ≠ 0) (e : a * b = 0) : b = 0 := (xay.mp e).resolve_left h
theorem mul_nz {m : M3} {p : P3} (h : det m ≠ 0) (hp : Nz p) : Nz (mul m p) := by
  rintro ⟨h1, h2, h3⟩
  have h1 : dot m.1 p = 0 := h1
  have h2 : dot m.2.1 p = 0 := h2
  have h3 : dot m.2.2 p = 0 := h3
  exact hp ⟨zero_of h (by rw [det_x, h1, h2, h3]; simp), zero_of h (by rw [det_y, h1, h2, h3]; simp), zero_of h (by rw [det_z, h1, h2, h3]; simp)⟩
theorem cof_nz {m : M3} {p : P3} (h : det m ≠ 0) (hp : Nz p) : Nz (mul (cof m) p) := by
  rintro ⟨h1, h2, h3⟩
  have h1 : dot (crs m.2.1 m.2.2) p = 0 := h1
  have h2 : dot (crs m.2.2 m.1) p = 0 := h2
  have h3 : dot (crs m.1 m.2.1) p = 0 := h3
  exact hp ⟨zero_of h (by rw [cof_x, h1, h2, h3]; simp), zero_of h (by rw [cof_y, h1, h2, h3]; simp), zero_of h (by rw [cof_z, h1, h2, h3]; simp)⟩
def tms (s : Int) (p : P3) : P3 := (s * p.1, s * p.2.1, s * p.2.2)
theorem low_tms {p : P3} (h : Nz p) : p = tms (sOf p) (low p) := by
  obtain ⟨_, h1, h2, h3⟩ := low_eq h
  exact xao h1 (xao h2 h3)
theorem crs_tms (s t : Int) (p q : P3) : crs (tms s p) (tms t q) = tms (s * t) (crs p q) := by
  unfold crs tms; exact xao (by grind) (xao (by grind) (by grind))
theorem tms_zero {s : Int} {p : P3} (hs : s ≠ 0) (h : tms s p = (0, 0, 0)) : p = (0, 0, 0) := by
  unfold tms at h
  simp only [Prod.mk.injEq] at h
  exact xao (zero_of hs h.1) (xao (zero_of hs h.2.1) (zero_of hs h.2.2))
theorem nz_ne {p : P3} (h : Nz p) : p ≠ (0, 0, 0) := fun e => h (by rw [e]; exact ⟨rfl, rfl, rfl⟩)
theorem ne_nz {p : P3} (h : p ≠ (0, 0, 0)) : Nz p := fun ⟨a, b, c⟩ => h (xao a (xao b c))
theorem tms_nz {s : Int} {p : P3} (hs : s ≠ 0) (h : Nz p) : Nz (tms s p) := ne_nz fun e => nz_ne h (tms_zero hs e)
theorem mul_ne {a b : Int} (ha : a ≠ 0) (hb : b ≠ 0) : a * b ≠ 0 := fun e => by rcases xay.mp e with q | q <;> contradiction
theorem low_par {u v : P3} (hu : Nz u) (hv : Nz v) (h : crs u v = (0, 0, 0)) : low u = low v := by
  refine xa8 fun hne => ?_
  have hz := cross_ne (low_nrm hu) (low_nrm hv) hne
  have e := h
  rw [low_tms hu, low_tms hv, crs_tms] at e
  exact nz_ne hz (tms_zero (mul_ne (low_eq hu).1 (low_eq hv).1) e)
theorem par_low {u v : P3} (hu : Nz u) (hv : Nz v) (h : low u = low v) : crs u v = (0, 0, 0) := by
  rw [low_tms hu, low_tms hv, crs_tms, h]
  unfold tms crs
  exact xao (by grind) (xao (by grind) (by grind))
theorem low_tms_eq {s : Int} {p : P3} (hs : s ≠ 0) (h : Nz p) : low (tms s p) = low p := low_par (tms_nz hs h) h (by unfold crs tms; exact xao (by grind) (xao (by grind) (by grind)))
end Mth
namespace Mth
def gcdL (ns : List Int) : Nat := ns.foldl (fun g n => Nat.gcd g n.natAbs) 0
def firstNZ : List Int -> Int
  | [] => 0
  | n :: ns => if n = 0 then firstNZ ns else n
def sgnL (ns : List Int) : Int := if firstNZ ns < 0 then -((gcdL ns : Nat) : Int) else ((gcdL ns : Nat) : Int)
def lowL (ns : List Int) : List Int := ns.map fun n => n.fdiv (sgnL ns)
theorem foldg_dvd : ∀ (ns : List Int) (g : Nat), (ns.foldl (fun g n => Nat.gcd g n.natAbs) g ∣ g) /\ ∀ n ∈ ns, ns.foldl (fun g n => Nat.gcd g n.natAbs) g ∣ n.natAbs
  | [], g => ⟨Nat.dvd_refl _, fun n h => by cases h⟩
  | m :: ns, g => by
    obtain ⟨h1, h2⟩ := foldg_dvd ns (Nat.gcd g m.natAbs)
    refine ⟨Nat.dvd_trans h1 (xcp _ _), fun n hn => ?_⟩
    rcases xap.mp hn with rfl | hn
    · exact Nat.dvd_trans h1 (Nat.gcd_dvd_right _ _)
    · exact h2 n hn
theorem firstNZ_mul {c : Int} (hc : c ≠ 0) : ∀ ns : List Int, firstNZ (ns.map (c * ·)) = c * firstNZ ns
  | [] => by simp [firstNZ]
  | n :: ns => by
    rw [xa9]
    unfold firstNZ
    by_cases h : n = 0
    · subst h; simp [firstNZ_mul hc ns]
    · rw [if_neg h, if_neg (mul_ne hc h)]
theorem firstNZ_mem : ∀ {ns : List Int}, firstNZ ns ≠ 0 -> firstNZ ns ∈ ns
  | [], h => absurd rfl h
  | n :: ns, h => by
    unfold firstNZ at h ⊢
    by_cases e : n = 0
    · rw [if_pos e] at h ⊢; exact xaf _ (firstNZ_mem h)
    · rw [if_neg e]; exact xam
theorem firstNZ_of : ∀ {ns : List Int} {n : Int}, n ∈ ns -> n ≠ 0 -> firstNZ ns ≠ 0
  | m :: ns, n, h, hn => by
    unfold firstNZ
    by_cases e : m = 0
    · rw [if_pos e]
      rcases xap.mp h with rfl | h
      · exact absurd e hn
      · exact firstNZ_of h hn
    · rw [if_neg e]; exact e
theorem gcdL_dvd {ns : List Int} {n : Int} (h : n ∈ ns) : ((gcdL ns : Nat) : Int) ∣ n := Int.ofNat_dvd_left.mpr ((foldg_dvd ns 0).2 n h)
theorem gcdL_ne {ns : List Int} (h : firstNZ ns ≠ 0) : gcdL ns ≠ 0 := fun e => h (by
  have := gcdL_dvd (firstNZ_mem h)
  rw [e] at this
  obtain ⟨k, hk⟩ := this
  rw [hk]; simp)
theorem sgnL_ne {ns : List Int} (h : firstNZ ns ≠ 0) : sgnL ns ≠ 0 := by
  have := gcdL_ne h
  unfold sgnL; split <;> omega
theorem sgnL_dvd {ns : List Int} {n : Int} (h : n ∈ ns) : sgnL ns ∣ n := by
  unfold sgnL; split
  · exact Int.neg_dvd.mpr (gcdL_dvd h)
  · exact gcdL_dvd h
theorem lowL_parts {ns : List Int} (h : firstNZ ns ≠ 0) {n : Int} (hn : n ∈ ns) : n = sgnL ns * n.fdiv (sgnL ns) := by
  obtain ⟨k, hk⟩ := sgnL_dvd hn
  rw [fdiv_of (sgnL_ne h) hk]; exact hk
end Mth
namespace Mth
theorem tms_nz' {s : Int} {p : P3} (h : Nz (tms s p)) : Nz p := ne_nz fun e => nz_ne h (by rw [e]; unfold tms; simp)
theorem dot_comm (p q : P3) : dot p q = dot q p := by unfold dot; grind
end Mth
namespace Mth
def det3 (x y z : P3) : Int := dot x (crs y z)
theorem dot_cof (m : M3) (x v : P3) : dot (mul m x) (mul (cof m) v) = det m * dot x v := by
  obtain ⟨a, b, c⟩ := m
  have h1 := cof_x (a, b, c) v
  have h2 := cof_y (a, b, c) v
  have h3 := cof_z (a, b, c) v
  have e : dot (mul (a, b, c) x) (mul (cof (a, b, c)) v) = x.1 * (dot (crs b c) v * a.1 + dot (crs c a) v * b.1 + dot (crs a b) v * c.1) + x.2.1 * (dot (crs b c) v * a.2.1 + dot (crs c a) v * b.2.1 + dot (crs a b) v * c.2.1) + x.2.2 * (dot (crs b c) v * a.2.2 + dot (crs c a) v * b.2.2 + dot (crs a b) v * c.2.2) := by
    show dot (dot a x, dot b x, dot c x) (dot (crs b c) v, dot (crs c a) v, dot (crs a b) v) = _
    generalize dot (crs b c) v = p
    generalize dot (crs c a) v = q
    generalize dot (crs a b) v = r
    unfold dot; grind
  rw [e, <- h1, <- h2, <- h3]
  unfold dot; grind
theorem det3_mul (m : M3) (x y z : P3) : det3 (mul m x) (mul m y) (mul m z) = det m * det3 x y z := by
  unfold det3
  rw [crs_mul, dot_cof]
theorem det3_tms (a b c : Int) (x y z : P3) : det3 (tms a x) (tms b y) (tms c z) = a * b * c * det3 x y z := by
  unfold det3
  rw [crs_tms]
  unfold dot tms; grind
end Mth
namespace Mth
theorem crs_self (p : P3) : crs p p = (0, 0, 0) := by unfold crs; exact xao (by grind) (xao (by grind) (by grind))
theorem dot_crsL (p q : P3) : dot p (crs p q) = 0 := by unfold dot crs; grind
end Mth
namespace Mth
def C3 (x y z : P3) : Prop := det3 x y z = 0
theorem d3_12 (x y z : P3) : det3 y x z = - det3 x y z := by unfold det3 dot crs; grind
theorem d3_23 (x y z : P3) : det3 x z y = - det3 x y z := by unfold det3 dot crs; grind
theorem C3.s12 {x y z : P3} (h : C3 x y z) : C3 y x z := by unfold C3 at *; rw [d3_12, h]; rfl
theorem C3.s23 {x y z : P3} (h : C3 x y z) : C3 x z y := by unfold C3 at *; rw [d3_23, h]; rfl
theorem C3.rot {x y z : P3} (h : C3 x y z) : C3 z x y := h.s23.s12
theorem C3.aab (x y : P3) : C3 x x y := by unfold C3 det3 dot crs; grind
theorem C3.aba (x y : P3) : C3 x y x := (C3.aab x y).s23
theorem C3.baa (x y : P3) : C3 y x x := (C3.aba x y).s12
end Mth
namespace Mth
abbrev P6 := P3 × P3
def qv (q : P6) (p : P3) : Int := q.1.1 * p.1 * p.1 + q.1.2.1 * p.2.1 * p.2.1 + q.1.2.2 * p.2.2 * p.2.2 + q.2.1 * p.1 * p.2.1 + q.2.2.1 * p.1 * p.2.2 + q.2.2.2 * p.2.1 * p.2.2
def bl (q : P6) (p r : P3) : Int := 2 * q.1.1 * p.1 * r.1 + 2 * q.1.2.1 * p.2.1 * r.2.1 + 2 * q.1.2.2 * p.2.2 * r.2.2 + q.2.1 * (p.1 * r.2.1 + p.2.1 * r.1) + q.2.2.1 * (p.1 * r.2.2 + p.2.2 * r.1) + q.2.2.2 * (p.2.1 * r.2.2 + p.2.2 * r.2.1)
def flat6 (q : P6) : List Int := [q.1.1, q.1.2.1, q.1.2.2, q.2.1, q.2.2.1, q.2.2.2]
def prd (l m : P3) : P6 := ((l.1 * m.1, l.2.1 * m.2.1, l.2.2 * m.2.2), (l.1 * m.2.1 + l.2.1 * m.1, l.1 * m.2.2 + l.2.2 * m.1, l.2.1 * m.2.2 + l.2.2 * m.2.1))
def comb (x y : Int) (q r : P6) : P6 := ((x * q.1.1 - y * r.1.1, x * q.1.2.1 - y * r.1.2.1, x * q.1.2.2 - y * r.1.2.2), (x * q.2.1 - y * r.2.1, x * q.2.2.1 - y * r.2.2.1, x * q.2.2.2 - y * r.2.2.2))
theorem qv_prd (l m p : P3) : qv (prd l m) p = dot l p * dot m p := by unfold qv prd dot; grind
theorem qv_comb (x y : Int) (q r : P6) (p : P3) : qv (comb x y q r) p = x * qv q p - y * qv r p := by unfold qv comb; grind
theorem qv_tms (q : P6) (s : Int) (p : P3) : qv q (tms s p) = s * s * qv q p := by unfold qv tms; grind
def lin3 (x y z : Int) (a b c : P3) : P3 := (x * a.1 + y * b.1 + z * c.1, x * a.2.1 + y * b.2.1 + z * c.2.1, x * a.2.2 + y * b.2.2 + z * c.2.2)
theorem qv_lin (q : P6) (x y z : Int) (a b c : P3) : qv q (lin3 x y z a b c) = x * x * qv q a + y * y * qv q b + z * z * qv q c + x * y * bl q a b + x * z * bl q a c + y * z * bl q b c := by
  unfold qv bl lin3; grind
theorem lin_tms (a b c p : P3) : lin3 (det3 p b c) (det3 a p c) (det3 a b p) a b c = tms (det3 a b c) p := by
  unfold lin3 tms det3 dot crs; exact xao (by grind) (xao (by grind) (by grind))
def mx (a b c p : P3) : P3 := (det3 p b c * det3 a p c, det3 p b c * det3 a b p, det3 a p c * det3 a b p)
def ub (q : P6) (a b c : P3) : P3 := (bl q a b, bl q a c, bl q b c)
theorem qv_by {q : P6} {a b c : P3} (ha : qv q a = 0) (hb : qv q b = 0) (hc : qv q c = 0) (p : P3) : det3 a b c * det3 a b c * qv q p = dot (mx a b c p) (ub q a b c) := by
  have e := qv_lin q (det3 p b c) (det3 a p c) (det3 a b p) a b c
  rw [lin_tms, qv_tms, ha, hb, hc] at e
  rw [e]; unfold dot mx ub; grind
theorem pluck (a b c d e : P3) : det3 d b c * det3 a e c - det3 a d c * det3 e b c = det3 a b c * det3 d e c := by
  unfold det3 dot crs; grind
def Nz6 (q : P6) : Prop := firstNZ (flat6 q) ≠ 0
theorem nz6_mem {q : P6} (h : Nz6 q) : ∃ x ∈ flat6 q, x ≠ 0 := ⟨_, firstNZ_mem h, h⟩
theorem qv_zero {q : P6} (h : ∀ p, qv q p = 0) : ∀ x ∈ flat6 q, x = 0 := by
  have a1 := h (1, 0, 0)
  have a2 := h (0, 1, 0)
  have a3 := h (0, 0, 1)
  have a4 := h (1, 1, 0)
  have a5 := h (1, 0, 1)
  have a6 := h (0, 1, 1)
  unfold qv at a1 a2 a3 a4 a5 a6
  simp only [xbq, Int.mul_one, Int.add_zero, Int.zero_add] at a1 a2 a3 a4 a5 a6
  intro x hx
  simp only [flat6, xap, xa7, or_false] at hx
  rcases hx with rfl | rfl | rfl | rfl | rfl | rfl <;> omega
theorem nz6_of {q : P6} {p : P3} (h : qv q p ≠ 0) : Nz6 q := fun e => by
  have z : ∀ x ∈ flat6 q, x = 0 := fun x hx => by
    refine xa8 fun hne => ?_
    exact firstNZ_of hx hne e
  have a1 := z q.1.1 (by simp [flat6])
  have a2 := z q.1.2.1 (by simp [flat6])
  have a3 := z q.1.2.2 (by simp [flat6])
  have a4 := z q.2.1 (by simp [flat6])
  have a5 := z q.2.2.1 (by simp [flat6])
  have a6 := z q.2.2.2 (by simp [flat6])
  exact h (by unfold qv; rw [a1, a2, a3, a4, a5, a6]; simp)
theorem lowL_sgn {ns : List Int} (h : firstNZ ns ≠ 0) : ns = (lowL ns).map (sgnL ns * ·) := by
  unfold lowL
  rw [xch]
  conv => lhs; rw [<- List.map_id ns]
  exact List.map_congr_left fun n hn => lowL_parts h hn
theorem lowL_nz {ns : List Int} (h : firstNZ ns ≠ 0) : firstNZ (lowL ns) ≠ 0 := fun e => by
  have e2 := firstNZ_mul (sgnL_ne h) (lowL ns)
  rw [<- lowL_sgn h, e, xbq] at e2
  exact h e2
def low6 (q : P6) : P6 := ((q.1.1.fdiv (sgnL (flat6 q)), q.1.2.1.fdiv (sgnL (flat6 q)), q.1.2.2.fdiv (sgnL (flat6 q))), (q.2.1.fdiv (sgnL (flat6 q)), q.2.2.1.fdiv (sgnL (flat6 q)), q.2.2.2.fdiv (sgnL (flat6 q))))
theorem qv_low {q : P6} (h : Nz6 q) (p : P3) : qv q p = sgnL (flat6 q) * qv (low6 q) p := by
  have m : ∀ x ∈ flat6 q, x = sgnL (flat6 q) * x.fdiv (sgnL (flat6 q)) := fun x hx => lowL_parts h hx
  have a1 := m q.1.1 (by simp [flat6])
  have a2 := m q.1.2.1 (by simp [flat6])
  have a3 := m q.1.2.2 (by simp [flat6])
  have a4 := m q.2.1 (by simp [flat6])
  have a5 := m q.2.2.1 (by simp [flat6])
  have a6 := m q.2.2.2 (by simp [flat6])
  have e : qv q p = qv ((sgnL (flat6 q) * (low6 q).1.1, sgnL (flat6 q) * (low6 q).1.2.1, sgnL (flat6 q) * (low6 q).1.2.2), (sgnL (flat6 q) * (low6 q).2.1, sgnL (flat6 q) * (low6 q).2.2.1, sgnL (flat6 q) * (low6 q).2.2.2)) p := by
    congr 1
    exact xao (xao a1 (xao a2 a3)) (xao a4 (xao a5 a6))
  rw [e]
  generalize sgnL (flat6 q) = s
  generalize low6 q = r
  unfold qv; grind
theorem qv_low_zero {q : P6} (h : Nz6 q) {p : P3} : qv (low6 q) p = 0 ↔ qv q p = 0 := by
  rw [qv_low h p]
  constructor
  · intro e; rw [e, xbq]
  · intro e; exact zero_of (sgnL_ne h) e
def bowP (a b c d e : P3) : P6 := comb (dot (low (crs a c)) e * dot (low (crs b d)) e) (dot (low (crs a b)) e * dot (low (crs c d)) e) (prd (low (crs a b)) (low (crs c d))) (prd (low (crs a c)) (low (crs b d)))
theorem qv_bow (a b c d e p : P3) : qv (bowP a b c d e) p = dot (low (crs a c)) e * dot (low (crs b d)) e * (dot (low (crs a b)) p * dot (low (crs c d)) p) - dot (low (crs a b)) e * dot (low (crs c d)) e * (dot (low (crs a c)) p * dot (low (crs b d)) p) := by
  unfold bowP; rw [qv_comb, qv_prd, qv_prd]
structure G5 (a b c d e : P3) : Prop where
  abc : ¬ C3 a b c
  abd : ¬ C3 a b d
  abe : ¬ C3 a b e
  acd : ¬ C3 a c d
  ace : ¬ C3 a c e
  ade : ¬ C3 a d e
  bcd : ¬ C3 b c d
  bce : ¬ C3 b c e
  bde : ¬ C3 b d e
  cde : ¬ C3 c d e
theorem nz_of_det {a b c : P3} (h : ¬ C3 a b c) : Nz (crs a b) := fun ⟨z1, z2, z3⟩ => h (by
  refine C3.rot (C3.rot (?_ : C3 c a b))
  show dot c (crs a b) = 0
  unfold dot; rw [z1, z2, z3]; simp)
theorem ldot {a b p : P3} (h : Nz (crs a b)) : dot (low (crs a b)) p = 0 ↔ C3 p a b := by
  rw [dot_comm, dot_low h]; rfl
theorem bow_nz {a b c d e : P3} (g : G5 a b c d e) : Nz6 (bowP a b c d e) := by
  have zab := nz_of_det g.abc
  have zac := nz_of_det (fun h => g.abc (C3.s23 h) : ¬ C3 a c b)
  have zcd := nz_of_det g.cde
  have zbd := nz_of_det g.bde
  refine nz6_of (p := lin3 1 1 0 a b c) ?_
  rw [qv_bow]
  have ld : ∀ l : P3, dot l (lin3 1 1 0 a b c) = dot l a + dot l b := fun l => by unfold dot lin3; grind
  have z1 : dot (low (crs a b)) a = 0 := (ldot zab).mpr (C3.aab _ _)
  have z2 : dot (low (crs a b)) b = 0 := (ldot zab).mpr (C3.aba _ _)
  have z3 : dot (low (crs a c)) a = 0 := (ldot zac).mpr (C3.aab _ _)
  have z4 : dot (low (crs b d)) b = 0 := (ldot zbd).mpr (C3.aab _ _)
  have y1 : dot (low (crs a c)) b ≠ 0 := fun z => g.abc (C3.s12 ((ldot zac).mp z))
  have y2 : dot (low (crs b d)) a ≠ 0 := fun z => g.abd ((ldot zbd).mp z)
  have y3 : dot (low (crs a b)) e ≠ 0 := fun z => g.abe (C3.rot (C3.rot ((ldot zab).mp z)))
  have y4 : dot (low (crs c d)) e ≠ 0 := fun z => g.cde (C3.rot (C3.rot ((ldot zcd).mp z)))
  rw [ld, ld, ld, ld, z1, z2, z3, z4]
  intro h
  have : dot (low (crs a b)) e * dot (low (crs c d)) e * (dot (low (crs a c)) b * dot (low (crs b d)) a) = 0 := by
    simp only [Int.add_zero, Int.zero_add, Int.zero_mul, xbq, xcy] at h
    omega
  exact mul_ne (mul_ne y3 y4) (mul_ne y1 y2) this
theorem bow_at {a b c d e : P3} (g : G5 a b c d e) : qv (bowP a b c d e) a = 0 /\ qv (bowP a b c d e) b = 0 /\ qv (bowP a b c d e) c = 0 /\ qv (bowP a b c d e) d = 0 /\ qv (bowP a b c d e) e = 0 := by
  have zab := nz_of_det g.abc
  have zac := nz_of_det (fun h => g.abc (C3.s23 h) : ¬ C3 a c b)
  have zcd := nz_of_det g.cde
  have zbd := nz_of_det g.bde
  have z1 : dot (low (crs a b)) a = 0 := (ldot zab).mpr (C3.aab _ _)
  have z2 : dot (low (crs a b)) b = 0 := (ldot zab).mpr (C3.aba _ _)
  have z3 : dot (low (crs a c)) a = 0 := (ldot zac).mpr (C3.aab _ _)
  have z4 : dot (low (crs a c)) c = 0 := (ldot zac).mpr (C3.aba _ _)
  have z5 : dot (low (crs c d)) c = 0 := (ldot zcd).mpr (C3.aab _ _)
  have z6 : dot (low (crs c d)) d = 0 := (ldot zcd).mpr (C3.aba _ _)
  have z7 : dot (low (crs b d)) b = 0 := (ldot zbd).mpr (C3.aab _ _)
  have z8 : dot (low (crs b d)) d = 0 := (ldot zbd).mpr (C3.aba _ _)
  refine ⟨?_, ?_, ?_, ?_, ?_⟩ <;> rw [qv_bow]
  · rw [z1, z3]; simp
  · rw [z2, z7]; simp
  · rw [z5, z4]; simp
  · rw [z6, z8]; simp
  · rw [Int.mul_comm (dot (low (crs a b)) e * dot (low (crs c d)) e)]; omega
end Mth
namespace Mth
theorem bl_self (q : P6) (x : P3) : bl q x x = 2 * qv q x := by unfold bl qv; grind
theorem bl_comm (q : P6) (x y : P3) : bl q x y = bl q y x := by unfold bl; grind
theorem bl_lin (q : P6) (w x y z : Int) (a b c p : P3) : bl q (lin3 x y z a b c) p = x * bl q a p + y * bl q b p + z * bl q c p := by unfold bl lin3; grind
theorem bl_tms (q : P6) (s : Int) (x p : P3) : bl q (tms s x) p = s * bl q x p := by unfold bl tms; grind
theorem ub_nz {q : P6} {a b c d e : P3} (g : G5 a b c d e) (hq : Nz6 q) (qa : qv q a = 0) (qb : qv q b = 0) (qc : qv q c = 0) (qd : qv q d = 0) (qe : qv q e = 0) : bl q a b ≠ 0 := by
  intro h0
  have D0 : det3 a b c ≠ 0 := g.abc
  have k1 := qv_by qa qb qc d
  have k2 := qv_by qa qb qc e
  rw [qd, xbq] at k1
  rw [qe, xbq] at k2
  have zd : det3 a b d ≠ 0 := g.abd
  have ze : det3 a b e ≠ 0 := g.abe
  have m1 : det3 d b c * bl q a c + det3 a d c * bl q b c = 0 := by
    refine zero_of zd ?_
    unfold dot mx ub at k1; simp only [h0] at k1; rw [k1]; grind
  have m2 : det3 e b c * bl q a c + det3 a e c * bl q b c = 0 := by
    refine zero_of ze ?_
    unfold dot mx ub at k2; simp only [h0] at k2; rw [k2]; grind
  have pl := pluck a b c d e
  have nz : det3 a b c * det3 d e c ≠ 0 := mul_ne D0 (fun h => g.cde (C3.rot h))
  have e1 : bl q a c = 0 := by
    refine zero_of nz ?_
    rw [<- pl]
    have x1 : det3 a e c * (det3 d b c * bl q a c + det3 a d c * bl q b c) = 0 := by rw [m1]; simp
    have x2 : det3 a d c * (det3 e b c * bl q a c + det3 a e c * bl q b c) = 0 := by rw [m2]; simp
    grind
  have e2 : bl q b c = 0 := by
    refine zero_of nz ?_
    rw [<- pl]
    have x1 : det3 e b c * (det3 d b c * bl q a c + det3 a d c * bl q b c) = 0 := by rw [m1]; simp
    have x2 : det3 d b c * (det3 e b c * bl q a c + det3 a e c * bl q b c) = 0 := by rw [m2]; simp
    grind
  obtain ⟨x, hx, hx0⟩ := nz6_mem hq
  refine hx0 (qv_zero (fun p => ?_) x hx)
  have k := qv_by qa qb qc p
  have : dot (mx a b c p) (ub q a b c) = 0 := by unfold dot ub; rw [h0, e1, e2]; simp
  rw [this] at k
  exact zero_of (mul_ne D0 D0) k
structure On5 (q : P6) (a b c d e : P3) : Prop where
  g : G5 a b c d e
  nz : Nz6 q
  a : qv q a = 0
  b : qv q b = 0
  c : qv q c = 0
  d : qv q d = 0
  e : qv q e = 0
theorem G5.rot3 {a b c d e : P3} (g : G5 a b c d e) : G5 b c a d e := ⟨fun h => g.abc h.rot, g.bcd, g.bce, fun h => g.abd h.s12, fun h => g.abe h.s12, g.bde, fun h => g.acd h.s12, fun h => g.ace h.s12, g.cde, g.ade⟩
theorem On5.rot3 {q : P6} {a b c d e : P3} (o : On5 q a b c d e) : On5 q b c a d e := ⟨o.g.rot3, o.nz, o.b, o.c, o.a, o.d, o.e⟩
theorem On5.ab {q : P6} {a b c d e : P3} (o : On5 q a b c d e) : bl q a b ≠ 0 := ub_nz o.g o.nz o.a o.b o.c o.d o.e
theorem On5.bc {q : P6} {a b c d e : P3} (o : On5 q a b c d e) : bl q b c ≠ 0 := o.rot3.ab
theorem On5.ac {q : P6} {a b c d e : P3} (o : On5 q a b c d e) : bl q a c ≠ 0 := by rw [bl_comm]; exact o.rot3.rot3.ab
theorem On5.by3 {q : P6} {a b c d e : P3} (o : On5 q a b c d e) (x : P3) :
    det3 a b c * bl q x a = det3 a x c * bl q a b + det3 a b x * bl q a c /\ det3 a b c * bl q x b = det3 x b c * bl q a b + det3 a b x * bl q b c /\ det3 a b c * bl q x c = det3 x b c * bl q a c + det3 a x c * bl q b c := by
  have h := fun p => bl_lin q 0 (det3 x b c) (det3 a x c) (det3 a b x) a b c p
  simp only [lin_tms, bl_tms] at h
  have ha := h a
  have hb := h b
  have hc := h c
  rw [bl_self, o.a] at ha
  rw [bl_self, o.b] at hb
  rw [bl_self, o.c] at hc
  rw [bl_comm q b a, bl_comm q c a] at ha
  rw [bl_comm q c b] at hb
  refine ⟨?_, ?_, ?_⟩ <;> omega
theorem On5.touch {q : P6} {a b c d e : P3} (o : On5 q a b c d e) {x : P3} (h0 : bl q a x = 0) (hq : qv q x = 0) : crs a x = (0, 0, 0) := by
  obtain ⟨h1, _, _⟩ := o.by3 x
  rw [bl_comm, h0, xbq] at h1
  have k := qv_by o.a o.b o.c x
  rw [hq, xbq] at k
  have n1 := o.ab
  have n2 := o.ac
  have n3 := o.bc
  have D0 : det3 a b c ≠ 0 := o.g.abc
  have z : det3 a x c * det3 a b x = 0 := by
    refine zero_of n3 ?_
    unfold dot mx ub at k
    simp only at k
    generalize det3 x b c = x1 at *
    generalize det3 a x c = x2 at *
    generalize det3 a b x = x3 at *
    have y1 : x1 * (x2 * bl q a b + x3 * bl q a c) = 0 := by rw [<- h1]; simp
    grind
  have e2 : det3 a x c = 0 /\ det3 a b x = 0 := by
    rcases xay.mp z with z | z
    · rw [z] at h1; exact ⟨z, zero_of n2 (by rw [Int.mul_comm]; omega)⟩
    · rw [z] at h1; exact ⟨zero_of n1 (by rw [Int.mul_comm]; omega), z⟩
  have l := lin_tms a b c x
  rw [e2.1, e2.2] at l
  refine tms_zero D0 ?_
  have : tms (det3 a b c) (crs a x) = crs a (tms (det3 a b c) x) := by unfold tms crs; exact xao (by grind) (xao (by grind) (by grind))
  rw [this, <- l]
  unfold lin3 crs; exact xao (by grind) (xao (by grind) (by grind))
theorem crs_split (A B M : P3) : crs (crs A B) M = lin3 (dot A M) (- dot B M) 0 B A A := by
  unfold crs lin3 dot; exact xao (by grind) (xao (by grind) (by grind))
theorem crs_split2 (L b c : P3) : crs L (crs b c) = lin3 (dot L c) (- dot L b) 0 b c c := by
  unfold crs lin3 dot; exact xao (by grind) (xao (by grind) (by grind))
def q0 (a b c d e x : P3) : Int := det3 e a c * det3 e b d * (det3 x a b * det3 x c d) - det3 e a b * det3 e c d * (det3 x a c * det3 x b d)
def b0 (a b c d e p : P3) : Int := det3 e a c * det3 e b d * (det3 p a b * det3 a c d) - det3 e a b * det3 e c d * (det3 p a c * det3 a b d)
def x6 (a c d p : P3) : P3 := crs (crs a p) (crs c d)
def x7 (a b d e : P3) : P3 := crs (crs a b) (crs d e)
def x8 (a b c d e p : P3) : P3 := crs (crs (x6 a c d p) (x7 a b d e)) (crs b c)
def x9 (a b c d e p : P3) : P3 := crs (crs a p) (crs e (x8 a b c d e p))
theorem d67 (u v s r : Int) (c d e x : P3) : dot (crs (lin3 v (-u) 0 c d d) (lin3 s (-r) 0 d e e)) x = v * s * det3 x c d - v * r * det3 x c e + u * r * det3 x d e := by
  unfold dot crs lin3 det3 dot crs; grind
theorem d8 (β γ : Int) (b c e x : P3) : dot x (crs e (lin3 β (-γ) 0 b c c)) = β * det3 x e b - γ * det3 x e c := by
  unfold dot crs lin3 det3 dot crs; grind
theorem x6_eq (a c d p : P3) : x6 a c d p = lin3 (det3 d a p) (- det3 c a p) 0 c d d := by
  unfold x6; rw [crs_split2, dot_comm (crs a p), dot_comm (crs a p)]; rfl
theorem x7_eq (a b d e : P3) : x7 a b d e = lin3 (det3 e a b) (- det3 d a b) 0 d e e := by
  unfold x7; rw [crs_split2, dot_comm (crs a b), dot_comm (crs a b)]; rfl
def be (a b c d e p : P3) : Int := det3 d a p * det3 e a b * det3 c c d - det3 d a p * det3 d a b * det3 c c e + det3 c a p * det3 d a b * det3 c d e
def ga (a b c d e p : P3) : Int := det3 d a p * det3 e a b * det3 b c d - det3 d a p * det3 d a b * det3 b c e + det3 c a p * det3 d a b * det3 b d e
theorem x8_eq (a b c d e p : P3) : x8 a b c d e p = lin3 (be a b c d e p) (- ga a b c d e p) 0 b c c := by
  unfold x8; rw [crs_split2, x6_eq, x7_eq, d67, d67]; rfl
theorem co1 (c d e x y : P3) : det3 c d e * det3 c x y = det3 c x e * det3 c d y - det3 c d x * det3 c y e := by unfold det3 dot crs; grind
theorem co2 (c d e x y : P3) : det3 c d e * det3 d x y = det3 c d x * det3 y d e - det3 x d e * det3 c d y := by unfold det3 dot crs; grind
theorem co3 (c d e x y : P3) : det3 c d e * det3 e x y = det3 x d e * det3 c y e - det3 c x e * det3 y d e := by unfold det3 dot crs; grind
theorem co123 (c d e x y z : P3) : det3 c d e * det3 x y z = det3 x d e * det3 c y z + det3 c x e * det3 d y z + det3 c d x * det3 e y z := by unfold det3 dot crs; grind
theorem rot3 (x y z : P3) : det3 x y z = det3 y z x := by unfold det3 dot crs; grind
theorem rule_p (a b c d e p : P3) (hD : det3 c d e ≠ 0) : be a b c d e p * det3 p e b - ga a b c d e p * det3 p e c = - q0 a b c d e p := by
  have k1 : det3 c c d = 0 := C3.aab _ _
  have k2 : det3 c c e = 0 := C3.aab _ _
  have u := co1 c d e a p
  have v := co2 c d e a p
  have s := co3 c d e a b
  have r := co2 c d e a b
  have w := co3 c d e b p
  have t1 := co1 c d e p a
  have t2 := co2 c d e p b
  have t3 := co123 c d e p a b
  have t4 := co1 c d e a b
  have f1 : det3 p e b = det3 e b p := rot3 _ _ _
  have f2 : det3 p e c = det3 c p e := (rot3 _ _ _).symm
  have f3 : det3 b c d = det3 c d b := rot3 _ _ _
  have f4 : det3 b c e = - det3 c b e := d3_12 _ _ _
  have f5 : det3 e a c = - det3 c a e := by unfold det3 dot crs; grind
  have f6 : det3 e b d = det3 b d e := rot3 _ _ _
  have f7 : det3 p c d = det3 c d p := rot3 _ _ _
  have f8 : det3 e c d = det3 c d e := rot3 _ _ _
  have f9 : det3 p a c = det3 c p a := (rot3 _ _ _).symm
  have f10 : det3 p b d = det3 d p b := (rot3 _ _ _).symm
  unfold be ga q0
  rw [k1, k2, f1, f2, f3, f4, f5, f6, f7, f8, f9, f10]
  generalize det3 c a p = U at *
  generalize det3 d a p = V at *
  generalize det3 e a b = S at *
  generalize det3 d a b = Rr at *
  generalize det3 e b p = W at *
  generalize det3 c p a = T1 at *
  generalize det3 d p b = T2 at *
  generalize det3 p a b = T3 at *
  generalize det3 c a b = T4 at *
  generalize det3 c d e = Dd at *
  generalize det3 c a e = a2 at *
  generalize det3 c d a = a3 at *
  generalize det3 a d e = a1 at *
  generalize det3 c b e = b2 at *
  generalize det3 c d b = b3 at *
  generalize det3 b d e = b1 at *
  generalize det3 c p e = p2 at *
  generalize det3 c d p = p3 at *
  generalize det3 p d e = p1 at *
  have n3 := mul_ne (mul_ne hD hD) hD
  have fin : Dd * Dd * Dd * ((V * S * 0 - V * Rr * 0 + U * Rr * Dd) * W - (V * S * b3 - V * Rr * -b2 + U * Rr * b1) * p2 + (-a2 * b1 * (T3 * p3) - S * Dd * (T1 * T2))) = 0 := by
    have e1 : Dd * Dd * Dd * ((V * S * 0 - V * Rr * 0 + U * Rr * Dd) * W - (V * S * b3 - V * Rr * -b2 + U * Rr * b1) * p2 + (-a2 * b1 * (T3 * p3) - S * Dd * (T1 * T2)))
      = Dd * ((Dd * U) * (Dd * Rr) * (Dd * W) - ((Dd * V) * (Dd * S) * b3 + (Dd * V) * (Dd * Rr) * b2 + (Dd * U) * (Dd * Rr) * b1) * p2 - a2 * b1 * (p1 * (Dd * T4) + p2 * (Dd * Rr) + p3 * (Dd * S)) * p3 - (Dd * S) * (Dd * T1) * (Dd * T2)) + Dd * Dd * a2 * b1 * p3 * (p1 * T4 + p2 * Rr + p3 * S - Dd * T3) := by grind
    rw [e1, u, v, s, r, w, t1, t2, t4, t3]
    grind
  have := zero_of n3 fin
  omega
theorem rule_a (a b c d e p : P3) (hD : det3 c d e ≠ 0) : be a b c d e p * det3 a e b - ga a b c d e p * det3 a e c = - b0 a b c d e p := by
  have k1 : det3 c c d = 0 := C3.aab _ _
  have k2 : det3 c c e = 0 := C3.aab _ _
  have u := co1 c d e a p
  have v := co2 c d e a p
  have s := co3 c d e a b
  have r := co2 c d e a b
  have w := co3 c d e b a
  have t3 := co123 c d e p a b
  have t4 := co1 c d e a b
  have f1 : det3 a e b = - det3 e a b := d3_12 _ _ _
  have f2 : det3 a e c = det3 c a e := (rot3 _ _ _).symm
  have f3 : det3 b c d = det3 c d b := rot3 _ _ _
  have f4 : det3 b c e = - det3 c b e := d3_12 _ _ _
  have f5 : det3 e a c = - det3 c a e := by unfold det3 dot crs; grind
  have f6 : det3 e b d = det3 b d e := rot3 _ _ _
  have f7 : det3 a c d = det3 c d a := rot3 _ _ _
  have f8 : det3 e c d = det3 c d e := rot3 _ _ _
  have f9 : det3 p a c = - det3 c a p := by unfold det3 dot crs; grind
  have f10 : det3 a b d = det3 d a b := (rot3 _ _ _).symm
  unfold be ga b0
  rw [k1, k2, f1, f2, f3, f4, f5, f6, f7, f8, f9, f10]
  generalize det3 c a p = U at *
  generalize det3 d a p = V at *
  generalize det3 e a b = S at *
  generalize det3 d a b = Rr at *
  generalize det3 p a b = T3 at *
  generalize det3 c a b = T4 at *
  generalize det3 c d e = Dd at *
  generalize det3 c a e = a2 at *
  generalize det3 c d a = a3 at *
  generalize det3 a d e = a1 at *
  generalize det3 c b e = b2 at *
  generalize det3 c d b = b3 at *
  generalize det3 b d e = b1 at *
  generalize det3 c p e = p2 at *
  generalize det3 c d p = p3 at *
  generalize det3 p d e = p1 at *
  have n3 := mul_ne (mul_ne hD hD) hD
  have fin : Dd * Dd * Dd * ((V * S * 0 - V * Rr * 0 + U * Rr * Dd) * -S - (V * S * b3 - V * Rr * -b2 + U * Rr * b1) * a2 + (-a2 * b1 * (T3 * a3) - S * Dd * (-U * Rr))) = 0 := by
    have e1 : Dd * Dd * Dd * ((V * S * 0 - V * Rr * 0 + U * Rr * Dd) * -S - (V * S * b3 - V * Rr * -b2 + U * Rr * b1) * a2 + (-a2 * b1 * (T3 * a3) - S * Dd * (-U * Rr)))
      = Dd * (- ((Dd * V) * (Dd * S) * b3 + (Dd * V) * (Dd * Rr) * b2 + (Dd * U) * (Dd * Rr) * b1) * a2 - a2 * b1 * (p1 * (Dd * T4) + p2 * (Dd * Rr) + p3 * (Dd * S)) * a3) + Dd * Dd * a2 * b1 * a3 * (p1 * T4 + p2 * Rr + p3 * S - Dd * T3) := by grind
    rw [e1, u, v, s, r, t4, t3]
    grind
  have := zero_of n3 fin
  omega
theorem pascal (a b c d e p : P3) (hD : det3 c d e ≠ 0) : x9 a b c d e p = lin3 (q0 a b c d e p) (- b0 a b c d e p) 0 a p p := by
  unfold x9
  rw [crs_split, x8_eq, d8, d8, rule_p a b c d e p hD, rule_a a b c d e p hD]
  unfold lin3; exact xao (by grind) (xao (by grind) (by grind))
end Mth
namespace Mth
theorem crs_nz {x l m : P3} (h1 : dot x l = 0) (h2 : dot x m ≠ 0) (hl : Nz l) : Nz (crs l m) := ne_nz fun e => by
  have k : crs x (crs l m) = lin3 (dot x m) (- dot x l) 0 l m m := crs_split2 x l m
  rw [e, h1] at k
  refine nz_ne hl (tms_zero h2 ?_)
  have z : crs x (0, 0, 0) = (0, 0, 0) := by unfold crs; simp
  rw [z] at k
  rw [k]; unfold tms lin3; simp
theorem low_ne {u v : P3} (hu : Nz u) (hv : Nz v) (h : Nz (crs u v)) : low u ≠ low v := fun e => nz_ne h (par_low hu hv e)
theorem low_crs {u v : P3} (hu : Nz u) (hv : Nz v) (h : Nz (crs u v)) : Nz (crs (low u) (low v)) /\ low (crs (low u) (low v)) = low (crs u v) := by
  have e : crs u v = tms (sOf u * sOf v) (crs (low u) (low v)) := by
    conv => lhs; rw [low_tms hu, low_tms hv]
    exact crs_tms _ _ _ _
  rw [e] at h
  have z := tms_nz' h
  exact ⟨z, by rw [e, low_tms_eq (mul_ne (low_eq hu).1 (low_eq hv).1) z]⟩
theorem det_by {a b : P3} (h : Nz (crs a b)) (x : P3) : det3 x a b = sOf (crs a b) * dot (low (crs a b)) x := by
  have e := low_tms h
  show dot x (crs a b) = _
  conv => lhs; rw [e]
  generalize sOf (crs a b) = s
  generalize low (crs a b) = l
  unfold dot tms; grind
theorem q0_bow {a b c d e : P3} (g : G5 a b c d e) : ∃ k, k ≠ 0 /\ ∀ x, q0 a b c d e x = k * qv (bowP a b c d e) x := by
  have zab := nz_of_det g.abc
  have zac := nz_of_det (fun h => g.abc (C3.s23 h) : ¬ C3 a c b)
  have zcd := nz_of_det g.cde
  have zbd := nz_of_det g.bde
  refine ⟨sOf (crs a c) * sOf (crs b d) * (sOf (crs a b) * sOf (crs c d)), mul_ne (mul_ne (low_eq zac).1 (low_eq zbd).1) (mul_ne (low_eq zab).1 (low_eq zcd).1), fun x => ?_⟩
  unfold q0
  rw [qv_bow, det_by zac e, det_by zbd e, det_by zab x, det_by zcd x, det_by zab e, det_by zcd e, det_by zac x, det_by zbd x]
  grind
theorem q0_add (a b c d e p : P3) : q0 a b c d e (lin3 1 1 0 a p p) = q0 a b c d e p + b0 a b c d e p := by
  have l : ∀ y z : P3, det3 (lin3 1 1 0 a p p) y z = det3 a y z + det3 p y z := fun y z => by unfold det3 lin3 dot; grind
  have z1 : det3 a a b = 0 := C3.aab _ _
  have z2 : det3 a a c = 0 := C3.aab _ _
  unfold q0 b0
  rw [l, l, l, l, z1, z2]
  grind
def meet (q : P6) (a p : P3) : P3 := lin3 (qv q p) (- bl q a p) 0 a p p
theorem x9_meet {a b c d e : P3} (g : G5 a b c d e) (p : P3) : ∃ k, k ≠ 0 /\ x9 a b c d e p = tms k (meet (low6 (bowP a b c d e)) a p) := by
  obtain ⟨k, hk, h⟩ := q0_bow g
  have zn := bow_nz g
  have hq : ∀ x, q0 a b c d e x = k * sgnL (flat6 (bowP a b c d e)) * qv (low6 (bowP a b c d e)) x := fun x => by rw [h x, qv_low zn x, Int.mul_assoc]
  have ks := mul_ne hk (sgnL_ne zn)
  generalize k * sgnL (flat6 (bowP a b c d e)) = K at hq ks
  have qa : qv (low6 (bowP a b c d e)) a = 0 := (qv_low_zero zn).mpr (bow_at g).1
  refine ⟨K, ks, ?_⟩
  have hb : b0 a b c d e p = K * bl (low6 (bowP a b c d e)) a p := by
    have e1 := q0_add a b c d e p
    rw [hq, hq, qv_lin, qa] at e1
    generalize b0 a b c d e p = u at *
    generalize bl (low6 (bowP a b c d e)) a p = w at *
    generalize qv (low6 (bowP a b c d e)) p = v at *
    grind
  rw [pascal a b c d e p g.cde, hq, hb]
  unfold meet lin3 tms; exact xao (by grind) (xao (by grind) (by grind))
theorem On5.meet_nz {q : P6} {a b c d e : P3} (o : On5 q a b c d e) {p : P3} (h : Nz (crs a p)) : Nz (meet q a p) := ne_nz fun z => by
  have e1 : crs a (meet q a p) = tms (- bl q a p) (crs a p) := by unfold meet lin3 tms crs; exact xao (by grind) (xao (by grind) (by grind))
  have e2 : crs (meet q a p) p = tms (qv q p) (crs a p) := by unfold meet lin3 tms crs; exact xao (by grind) (xao (by grind) (by grind))
  have z1 : crs a (0, 0, 0) = (0, 0, 0) := by unfold crs; simp
  have z2 : crs (0, 0, 0) p = (0, 0, 0) := by unfold crs; simp
  rw [z, z1] at e1
  rw [z, z2] at e2
  have b1 : bl q a p = 0 := xa8 fun n => nz_ne h (tms_zero (s := - bl q a p) (by omega) e1.symm)
  have q1 : qv q p = 0 := xa8 fun n => nz_ne h (tms_zero n e2.symm)
  exact nz_ne h (o.touch b1 q1)
theorem meet_det (q : P6) (a p : P3) : det3 a p (meet q a p) = 0 := by
  unfold meet det3 lin3 dot crs; grind
theorem bow_on5 {a b c d e : P3} (g : G5 a b c d e) : On5 (low6 (bowP a b c d e)) a b c d e := by
  have zn := bow_nz g
  obtain ⟨a0, a1, a2, a3, a4⟩ := bow_at g
  exact ⟨g, lowL_nz zn, (qv_low_zero zn).mpr a0, (qv_low_zero zn).mpr a1, (qv_low_zero zn).mpr a2, (qv_low_zero zn).mpr a3, (qv_low_zero zn).mpr a4⟩
structure Draw (a b c d e p : P3) : Prop where
  l : Nz (crs a p)
  cd : Nz (crs c d)
  ab : Nz (crs a b)
  de : Nz (crs d e)
  bc : Nz (crs b c)
  n6 : Nz (x6 a c d p)
  n7 : Nz (x7 a b d e)
  l67 : Nz (crs (x6 a c d p) (x7 a b d e))
  n8 : Nz (x8 a b c d e p)
  l48 : Nz (crs e (x8 a b c d e p))
  n9 : Nz (x9 a b c d e p)
theorem draws {a b c d e p : P3} (g : G5 a b c d e) (h : Nz (crs a p)) : Draw a b c d e p := by
  have cd : Nz (crs c d) := nz_of_det g.cde
  have ab : Nz (crs a b) := nz_of_det g.abc
  have de : Nz (crs d e) := nz_of_det (fun h => g.ade h.rot : ¬ C3 d e a)
  have bc : Nz (crs b c) := nz_of_det g.bcd
  have n6 : Nz (x6 a c d p) := crs_nz (x := a) (dot_crsL a p) g.acd h
  have n7 : Nz (x7 a b d e) := crs_nz (x := a) (dot_crsL a b) g.ade ab
  have on1 : ∀ u v : P3, dot v (crs u v) = 0 := fun u v => by unfold dot crs; grind
  have on2 : ∀ u v : P3, dot (crs u v) v = 0 := fun u v => by unfold dot crs; grind
  have l67 : Nz (crs (x6 a c d p) (x7 a b d e)) := by
    refine crs_nz (x := crs c d) (by rw [dot_comm]; exact on2 _ _) ?_ n6
    have : dot (crs c d) (x7 a b d e) = - (det3 d a b * det3 e c d) := by rw [x7_eq]; unfold det3 lin3 dot crs; grind
    rw [this]
    have := mul_ne (show det3 d a b ≠ 0 from fun h => g.abd (C3.rot (C3.rot h))) (show det3 e c d ≠ 0 from fun h => g.cde (C3.rot (C3.rot h)))
    omega
  have n8 : Nz (x8 a b c d e p) := by
    refine crs_nz (x := x7 a b d e) (on1 _ _) ?_ l67
    have : dot (x7 a b d e) (crs b c) = - (det3 b d e * det3 a b c) := by unfold x7; rw [crs_split]; unfold det3 lin3 dot crs; grind
    rw [this]
    have := mul_ne (show det3 b d e ≠ 0 from g.bde) (show det3 a b c ≠ 0 from g.abc)
    omega
  have l48 : Nz (crs e (x8 a b c d e p)) := by
    have hh : Nz (crs (x8 a b c d e p) e) := crs_nz (x := crs b c) (by rw [dot_comm]; exact on2 _ _) (by rw [dot_comm]; exact (show det3 e b c ≠ 0 from fun h => g.bce (C3.rot (C3.rot h)))) n8
    refine ne_nz fun z => nz_ne hh ?_
    have : crs (x8 a b c d e p) e = tms (-1) (crs e (x8 a b c d e p)) := by unfold crs tms; exact xao (by grind) (xao (by grind) (by grind))
    rw [this, z]; unfold tms; simp
  obtain ⟨k, hk, e9⟩ := x9_meet g p
  exact ⟨h, cd, ab, de, bc, n6, n7, l67, n8, l48, by rw [e9]; exact tms_nz hk ((bow_on5 g).meet_nz h)⟩
theorem Draw.low9 {a b c d e p : P3} (g : G5 a b c d e) (D : Draw a b c d e p) : low (x9 a b c d e p) = low (meet (low6 (bowP a b c d e)) a p) := by
  obtain ⟨k, hk, e9⟩ := x9_meet g p
  have := D.n9
  rw [e9] at this ⊢
  rw [low_tms_eq hk (tms_nz' this)]
end Mth
namespace SetT
open PySem.SetTable
theorem range_le : ∀ (n : Nat) (l : List Nat), (∀ j, j < n -> j ∈ l) -> n <= l.length
  | 0, _, _ => xcm _
  | n + 1, l, h => by
    have hn : n ∈ l := h n (xcq _)
    have := range_le n (l.erase n) fun j hj => (List.mem_erase_of_ne (by omega)).mpr (h j (by omega))
    rw [List.length_erase_of_mem hn] at this
    have : 0 < l.length := List.length_pos_of_mem hn
    omega
theorem no_has (j : Nat) : has #[] j = false := rfl
theorem slot_cases {t : SetTable} (hd : t.dummies = #[]) (j : Nat) : t.slot j = .empty \/ ∃ i, t.slot j = .live i /\ t.place[i]? = some j := by
  unfold slot
  simp only
  by_cases h : (t.place[below t.place j]? == some j) = true
  · rw [if_pos h]
    exact .inr ⟨_, rfl, eq_of_beq h⟩
  · rw [if_neg h, hd, no_has]
    exact .inl rfl
theorem some_empty {t : SetTable} (hd : t.dummies = #[]) {n : Nat} (hn : t.place.size < n) : ∃ j, j < n /\ t.slot j = .empty := by
  refine xa8 fun h => ?_
  have : n <= t.place.toList.length := range_le n _ fun j hj => by
    rcases slot_cases hd j with e | ⟨i, _, hi⟩
    · exact absurd ⟨j, hj, e⟩ h
    · rw [<- xav] at hi
      exact xbc hi
  rw [xar] at this
  omega
def iter (t : SetTable) : Nat -> Probe -> Probe
  | 0, p => p
  | k + 1, p => iter t k (t.advance p)
theorem iter_add (t : SetTable) : ∀ (a b : Nat) (p : Probe), iter t (a + b) p = iter t b (iter t a p)
  | 0, b, p => by rw [xbk]; rfl
  | a + 1, b, p => by rw [Nat.succ_add]; exact iter_add t a b (t.advance p)
theorem adv_dummy (t : SetTable) (p : Probe) : (t.advance p).dummy = p.dummy := by
  unfold advance; split <;> rfl
def start (mask i perturb : Nat) : Probe := { j := i, more := runEnd mask i - i, i, perturb, dummy := none }
theorem run_more (mask i : Nat) : runEnd mask i - i <= 9 := by unfold runEnd; split <;> omega
theorem run_to {t : SetTable} : ∀ (m : Nat) (p : Probe), p.more = m -> p.dummy = none -> iter t (m + 1) p = start t.mask (leap t.mask p.i p.perturb).1 (leap t.mask p.i p.perturb).2
  | 0, p, hm, hd => by
    show t.advance p = _
    unfold advance start
    rw [if_neg (by omega), hd]
  | m + 1, p, hm, hd => by
    show iter t (m + 1) (t.advance p) = _
    have e : t.advance p = { p with j := p.j + 1, more := p.more - 1 } := by unfold advance; rw [if_pos (by omega)]
    rw [e]
    exact run_to m { p with j := p.j + 1, more := p.more - 1 } (by show p.more - 1 = m; omega) hd
def starts (mask : Nat) : Nat -> Nat × Nat -> Nat × Nat
  | 0, s => s
  | n + 1, s => starts mask n (leap mask s.1 s.2)
theorem starts_succ (mask : Nat) : ∀ (n : Nat) (s : Nat × Nat), starts mask (n + 1) s = leap mask (starts mask n s).1 (starts mask n s).2
  | 0, _ => rfl
  | n + 1, s => starts_succ mask n (leap mask s.1 s.2)
theorem reach_start {t : SetTable} : ∀ (n : Nat) (s : Nat × Nat), ∃ k, k <= 10 * n /\ iter t k (start t.mask s.1 s.2) = start t.mask (starts t.mask n s).1 (starts t.mask n s).2
  | 0, s => ⟨0, xai _, rfl⟩
  | n + 1, s => by
    obtain ⟨k, hk, e⟩ := reach_start n (leap t.mask s.1 s.2)
    have hr := run_to (t := t) _ (start t.mask s.1 s.2) rfl rfl
    refine ⟨(runEnd t.mask s.1 - s.1 + 1) + k, ?_, ?_⟩
    · have := run_more t.mask s.1; omega
    · rw [iter_add]
      have hr : iter t (runEnd t.mask s.1 - s.1 + 1) (start t.mask s.1 s.2) = start t.mask (leap t.mask s.1 s.2).1 (leap t.mask s.1 s.2).2 := hr
      rw [hr]; exact e
theorem starts_perturb (mask : Nat) : ∀ (n : Nat) (s : Nat × Nat), (starts mask n s).2 = s.2 / 32 ^ n
  | 0, s => by simp [starts]
  | n + 1, s => by
    rw [starts_succ]
    show (starts mask n s).2 / 32 = _
    rw [starts_perturb mask n s, Nat.div_div_eq_div_mul, <- Nat.pow_succ]
def five (mask : Nat) : Nat -> Nat -> Nat
  | 0, i => i
  | n + 1, i => five mask n ((i * 5 + 1) % (mask + 1))
theorem starts_five (mask : Nat) : ∀ (n i : Nat), starts mask n (i, 0) = (five mask n i, 0)
  | 0, i => rfl
  | n + 1, i => by
    show starts mask n (leap mask i 0) = _
    have : leap mask i 0 = ((i * 5 + 1) % (mask + 1), 0) := by unfold leap; simp
    rw [this, starts_five mask n]; rfl
theorem starts_add (mask : Nat) : ∀ (a b : Nat) (s : Nat × Nat), starts mask (a + b) s = starts mask b (starts mask a s)
  | 0, b, s => by rw [xbk]; rfl
  | a + 1, b, s => by rw [Nat.succ_add]; exact starts_add mask a b (leap mask s.1 s.2)
theorem all7 : (List.range 8).all (fun i => (List.range 8).all fun j => (List.range 8).any fun n => five 7 n i == j) = true := by decide +kernel
theorem all31 : (List.range 32).all (fun i => (List.range 32).all fun j => (List.range 32).any fun n => five 31 n i == j) = true := by decide +kernel
theorem five_all {mask : Nat} (hm : mask = 7 \/ mask = 31) {i j : Nat} (hi : i <= mask) (hj : j <= mask) : ∃ n, n <= mask /\ five mask n i = j := by
  rcases hm with rfl | rfl
  · have h := xa0.mp (xa0.mp all7 i (xa2.mpr (by omega))) j (xa2.mpr (by omega))
    obtain ⟨n, h1, h2⟩ := List.any_eq_true.mp h
    exact ⟨n, by have := xa2.mp h1; omega, eq_of_beq h2⟩
  · have h := xa0.mp (xa0.mp all31 i (xa2.mpr (by omega))) j (xa2.mpr (by omega))
    obtain ⟨n, h1, h2⟩ := List.any_eq_true.mp h
    exact ⟨n, by have := xa2.mp h1; omega, eq_of_beq h2⟩
theorem starts_lt {mask : Nat} (n : Nat) {s : Nat × Nat} (hs : s.1 <= mask) : (starts mask n s).1 <= mask := by
  cases n with
  | zero => exact hs
  | succ n =>
    rw [starts_succ]
    show (_ % (mask + 1)) <= mask
    have := xcj ((starts mask n s).1 * 5 + 1 + (starts mask n s).2 / 32) (show 0 < mask + 1 by omega)
    omega
theorem starts_all {mask : Nat} (hm : mask = 7 \/ mask = 31) {s : Nat × Nat} (hs : s.1 <= mask) (hb : s.2 < 2 ^ 64) {j : Nat} (hj : j <= mask) : ∃ n, n <= mask + 13 /\ (starts mask n s).1 = j := by
  have e : (starts mask 13 s).2 = 0 := by rw [starts_perturb]; exact Nat.div_eq_of_lt (xaj hb (by decide))
  obtain ⟨n, h1, h2⟩ := five_all hm (starts_lt 13 hs) hj
  refine ⟨13 + n, by omega, ?_⟩
  rw [starts_add]
  have : starts mask 13 s = ((starts mask 13 s).1, 0) := xao rfl e
  rw [this, starts_five]; exact h2
theorem bits_lt (h : Int) : bits h < 2 ^ 64 := by
  unfold bits
  have h1 := xbr h (show (2 ^ 64 : Int) ≠ 0 by decide)
  have h2 := xbw h (show (0 : Int) < 2 ^ 64 by decide)
  omega
theorem meets_empty {t : SetTable} (hd : t.dummies = #[]) (hm : t.mask = 7 \/ t.mask = 31) (hs : t.place.size <= t.mask) (h : Int) : ∃ k, k < 10 * turns t.mask /\ t.slot (iter t k (t.probeStart h)).j = .empty := by
  obtain ⟨j, hj, he⟩ := some_empty hd (n := t.mask + 1) (by omega)
  have hi : bits h % (t.mask + 1) <= t.mask := by have := xcj (bits h) (show 0 < t.mask + 1 by omega); omega
  obtain ⟨n, h1, h2⟩ := starts_all hm (s := (bits h % (t.mask + 1), bits h)) hi (bits_lt h) (show j <= t.mask by omega)
  obtain ⟨k, hk, e⟩ := reach_start (t := t) n (bits h % (t.mask + 1), bits h)
  refine ⟨k, by unfold turns; omega, ?_⟩
  have e : iter t k (t.probeStart h) = _ := e
  rw [e]
  show t.slot (starts t.mask n (bits h % (t.mask + 1), bits h)).1 = .empty
  rw [h2]; exact he
theorem fm_all {α β : Type} (f : α -> Option β) : ∀ l : List α, (∀ a ∈ l, (f a).isSome = true) -> (l.filterMap f).length = l.length
  | [], _ => rfl
  | a :: l, h => by
    obtain ⟨b, hb⟩ := xba.mp (h a xam)
    rw [xa1 hb, xaq, xaq, fm_all f l fun x hx => h x (xaf _ hx)]
theorem fm_pair {β : Type} (f : Nat -> Option β) : ∀ l : List Nat, (l.filterMap fun j => (f j).map (j, ·)).length = (l.filterMap f).length
  | [] => rfl
  | a :: l => by
    cases h : f a with
    | none => rw [xbb (by rw [h]; rfl), xbb h, fm_pair f l]
    | some b => rw [xa1 (by rw [h]; rfl), xa1 h, xaq, xaq, fm_pair f l]
theorem fm_congr {β : Type} {f g : Nat -> Option β} : ∀ l : List Nat, (∀ x ∈ l, g x = f x) -> l.filterMap g = l.filterMap f
  | [], _ => rfl
  | a :: l, h => by
    have ih := fm_congr l fun x hx => h x (xaf _ hx)
    have ha := h a xam
    cases e : f a with
    | none => rw [xbb e, xbb (by rw [ha]; exact e), ih]
    | some b => rw [xa1 e, xa1 (by rw [ha]; exact e), ih]
theorem fm_put {β : Type} {f g : Nat -> Option β} {j : Nat} (hj : f j = none) (hg : (g j).isSome = true) (ho : ∀ i, i ≠ j -> g i = f i) : ∀ l : List Nat, l.Nodup -> j ∈ l -> (l.filterMap g).length = (l.filterMap f).length + 1
  | a :: l, hn, hm => by
    rw [xb8] at hn
    by_cases e : a = j
    · subst e
      obtain ⟨b, hb⟩ := xba.mp hg
      have same : l.filterMap g = l.filterMap f := fm_congr l fun x hx => ho x fun z => hn.1 (z ▸ hx)
      rw [xa1 hb, xbb hj, xaq, same]
    · have hm' : j ∈ l := (xap.mp hm).elim (fun z => absurd z.symm e) id
      have ih := fm_put hj hg ho l hn.2 hm'
      cases h : f a with
      | none => rw [xbb h, xbb (by rw [ho a e]; exact h), ih]
      | some b => rw [xa1 h, xa1 (by rw [ho a e]; exact h), xaq, xaq, ih]
def cnt (n : Nat) (owner : Array (Option Nat)) : Nat := ((List.range n).filterMap fun j => owner.getD j none).length
theorem cnt_none {n : Nat} {owner : Array (Option Nat)} (h : cnt n owner < n) : ∃ j, j < n /\ owner.getD j none = none := by
  refine xa8 fun q => ?_
  have : cnt n owner = (List.range n).length := fm_all _ _ fun j hj => by
    cases e : owner.getD j none with
    | none => exact absurd ⟨j, xa2.mp hj, e⟩ q
    | some b => rfl
  rw [List.length_range] at this
  omega
theorem getD_in {owner : Array (Option Nat)} {j : Nat} (h : j < owner.size) (a b : Option Nat) : owner.getD j a = owner.getD j b := by
  rw [xau, xau, xbd h]; rfl
theorem free_ok {mask : Nat} {owner : Array (Option Nat)} : ∀ (n fuel i perturb : Nat), (owner.getD (starts mask n (i, perturb)).1 (some 0)).isNone = true -> n < fuel -> ∃ j, SetTable.layClean.free mask owner fuel i perturb = some j /\ (owner.getD j (some 0)).isNone = true := by
  intro n
  induction n with
  | zero =>
    intro fuel i perturb h hf
    obtain ⟨f, rfl⟩ : ∃ f, fuel = f + 1 := ⟨fuel - 1, by omega⟩
    unfold SetTable.layClean.free
    cases hx : (List.range (runEnd mask i + 1 - i)).find? fun k => (owner.getD (i + k) (some 0)).isNone with
    | some k => exact ⟨i + k, rfl, List.find?_some (p := fun k => (owner.getD (i + k) (some 0)).isNone) hx⟩
    | none =>
      have := List.find?_eq_none.mp hx 0 (xa2.mpr (by unfold runEnd; split <;> omega))
      exact absurd h this
  | succ n ih =>
    intro fuel i perturb h hf
    obtain ⟨f, rfl⟩ : ∃ f, fuel = f + 1 := ⟨fuel - 1, by omega⟩
    unfold SetTable.layClean.free
    cases hx : (List.range (runEnd mask i + 1 - i)).find? fun k => (owner.getD (i + k) (some 0)).isNone with
    | some k => exact ⟨i + k, rfl, List.find?_some (p := fun k => (owner.getD (i + k) (some 0)).isNone) hx⟩
    | none => exact ih f _ _ h (by omega)
theorem fold_ok {mask : Nat} (hm : mask = 7 \/ mask = 31) : ∀ (hs : List Int) (owner : Array (Option Nat)) (k : Nat), owner.size = mask + 1 -> cnt (mask + 1) owner = k -> (∀ j v, owner.getD j none = some v -> v < k) -> k + hs.length <= mask + 1 ->
    ∃ owner', hs.foldl (fun acc h => do
      let (owner, k) <- acc
      let j <- SetTable.layClean.free mask owner (turns mask) (bits h % (mask + 1)) (bits h)
      pure (owner.setIfInBounds j (some k), k + 1)) (some (owner, k)) = some (owner', k + hs.length) /\ cnt (mask + 1) owner' = k + hs.length /\ ∀ j v, owner'.getD j none = some v -> v < k + hs.length
  | [], owner, k, _, h2, h3, _ => ⟨owner, rfl, h2, h3⟩
  | h :: hs, owner, k, h1, h2, h3, h4 => by
    rw [xaq] at h4 ⊢
    obtain ⟨j, hj, he⟩ := cnt_none (n := mask + 1) (owner := owner) (by omega)
    have hi : bits h % (mask + 1) <= mask := by have := xcj (bits h) (show 0 < mask + 1 by omega); omega
    obtain ⟨n, q1, q2⟩ := starts_all hm (s := (bits h % (mask + 1), bits h)) hi (bits_lt h) (show j <= mask by omega)
    obtain ⟨j', f1, f2⟩ := free_ok (mask := mask) (owner := owner) n (turns mask) (bits h % (mask + 1)) (bits h) (by rw [q2, getD_in (by omega) (some 0) none, he]; rfl) (by unfold turns; omega)
    have hj' : j' < owner.size := by
      refine xa8 fun z => ?_
      rw [xau, Array.getElem?_eq_none (by omega)] at f2
      cases f2
    have hn : owner.getD j' none = none := by
      rw [getD_in hj' none (some 0)]
      exact Option.isNone_iff_eq_none.mp f2
    have hset : ∀ i, (owner.setIfInBounds j' (some k)).getD i none = if i = j' then some k else owner.getD i none := by
      intro i
      rw [xau, xau, Array.getElem?_setIfInBounds]
      by_cases e : i = j'
      · subst e; rw [if_pos rfl, if_pos rfl, if_pos hj']; rfl
      · rw [if_neg (xas e), if_neg e]
    obtain ⟨o', g1, g2, g3⟩ := fold_ok hm hs (owner.setIfInBounds j' (some k)) (k + 1) (by rw [Array.size_setIfInBounds]; exact h1) (by
      unfold cnt
      rw [fm_put (f := fun j => owner.getD j none) (j := j') hn (by rw [hset, if_pos rfl]; rfl) (fun i hi => by rw [hset, if_neg hi]) _ List.nodup_range (xa2.mpr (by omega))]
      rw [<- h2]; rfl) (by
      intro i v hv
      rw [hset] at hv
      by_cases e : i = j'
      · rw [if_pos e] at hv; cases hv; omega
      · rw [if_neg e] at hv; have := h3 i v hv; omega) (by omega)
    refine ⟨o', ?_, by rw [g2]; omega, fun i v hv => by have := g3 i v hv; omega⟩
    rw [List.foldl_cons]
    have e1 : (do
      let (owner, k) <- some (owner, k)
      let j <- SetTable.layClean.free mask owner (turns mask) (bits h % (mask + 1)) (bits h)
      pure (owner.setIfInBounds j (some k), k + 1)) = some (owner.setIfInBounds j' (some k), k + 1) := by
      show (SetTable.layClean.free mask owner (turns mask) (bits h % (mask + 1)) (bits h)).bind _ = _
      rw [f1]; rfl
    rw [e1, g1]
    congr 2
    omega
theorem relaid_ok (t : SetTable) (hashes : Array Int) {n : Nat} (hn : hashes.size = n) (h : n <= 32) : ∃ t' order, t.relaid hashes 20 = some (t', order) /\ t'.mask = 31 /\ t'.dummies = #[] /\ t'.place.size = n /\ order.size = n /\ ∀ k ∈ order.toList, k < n := by
  have e0 : sizeAbove 20 - 1 = 31 := by decide
  obtain ⟨o, g1, g2, g3⟩ := fold_ok (mask := 31) (.inr rfl) hashes.toList (Array.replicate 32 none) 0 (by simp) (by decide) (by
    intro j v hv
    rw [xau, Array.getElem?_replicate] at hv
    split at hv <;> cases hv) (by rw [xar]; omega)
  rw [xbk, xar, hn] at g2
  have hl : layClean 31 hashes = some o := by
    unfold layClean
    rw [<- Array.foldl_toList, g1]; rfl
  unfold relaid
  rw [e0]
  unfold laid
  rw [hl]
  refine ⟨_, _, rfl, rfl, rfl, ?_, ?_, ?_⟩
  · show (List.toArray _).size = n
    rw [xah, xab, fm_pair, <- g2]; rfl
  · show (List.toArray _).size = n
    rw [xah, xab, fm_pair, <- g2]; rfl
  · intro k hk
    rw [xc1] at hk
    obtain ⟨⟨j, v⟩, hm, rfl⟩ := xbh.mp hk
    obtain ⟨i, hi, hv⟩ := xbn.mp hm
    cases hx : o.getD i none with
    | none => rw [hx] at hv; cases hv
    | some u =>
      rw [hx] at hv
      have hv : some (i, u) = some (j, v) := hv
      cases hv
      have := g3 _ _ hx
      rw [xbk, xar, hn] at this
      exact this
end SetT
namespace SetT
open PySem.SetTable
theorem run_j {t : SetTable} : ∀ (k : Nat) (p : Probe), k <= p.more -> (iter t k p).j = p.j + k
  | 0, p, _ => rfl
  | k + 1, p, h => by
    show (iter t k (t.advance p)).j = _
    have e : t.advance p = { p with j := p.j + 1, more := p.more - 1 } := by unfold advance; rw [if_pos (by omega)]
    rw [e, run_j k _ (by show k <= p.more - 1; omega)]
    show p.j + 1 + k = _
    omega
theorem run_le (mask i : Nat) (h : i <= mask) : i + (runEnd mask i - i) <= mask := by unfold runEnd; split <;> omega
theorem iter_le {t : SetTable} : ∀ (k : Nat) (p : Probe), p.j + p.more <= t.mask -> (iter t k p).j <= t.mask
  | 0, p, h => by show p.j <= _; omega
  | k + 1, p, h => by
    show (iter t k (t.advance p)).j <= _
    refine iter_le k _ ?_
    unfold advance
    split
    · show p.j + 1 + (p.more - 1) <= _; omega
    · refine run_le _ _ ?_
      show (_ % (t.mask + 1)) <= t.mask
      have := xcj (p.i * 5 + 1 + p.perturb / 32) (show 0 < t.mask + 1 by omega)
      omega
theorem free_first {t : SetTable} {owner : Array (Option Nat)} : ∀ (fuel i perturb j : Nat), SetTable.layClean.free t.mask owner fuel i perturb = some j ->
    ∃ m, m < 10 * fuel /\ (iter t m (start t.mask i perturb)).j = j /\ (owner.getD j (some 0)).isNone = true /\ ∀ m', m' < m -> (owner.getD (iter t m' (start t.mask i perturb)).j (some 0)).isNone = false := by
  intro fuel
  induction fuel with
  | zero => intro i perturb j h; cases h
  | succ f ih =>
    intro i perturb j h
    unfold SetTable.layClean.free at h
    have hr := run_more t.mask i
    have jk : ∀ k, k <= runEnd t.mask i - i -> (iter t k (start t.mask i perturb)).j = i + k := fun k hk => run_j k (start t.mask i perturb) hk
    cases hx : (List.range (runEnd t.mask i + 1 - i)).find? fun k => (owner.getD (i + k) (some 0)).isNone with
    | some k =>
      rw [hx] at h
      have h : some (i + k) = some j := h
      cases h
      have hp : (owner.getD (i + k) (some 0)).isNone = true := List.find?_some (p := fun k => (owner.getD (i + k) (some 0)).isNone) hx
      obtain ⟨_, as, bs, e, nb⟩ := List.find?_eq_some_iff_append.mp hx
      have hk : k < runEnd t.mask i + 1 - i := by
        have := List.mem_of_find?_eq_some hx
        exact xa2.mp this
      have re : i <= runEnd t.mask i := by unfold runEnd; split <;> omega
      refine ⟨k, by omega, jk k (by omega), hp, fun m' hm => ?_⟩
      rw [jk m' (by omega)]
      have : m' ∈ as := by
        have e2 : (as ++ k :: bs)[m']? = some m' := by rw [<- e, List.getElem?_range (by omega)]
        have ek : as.length = k := by
          have e3 : (as ++ k :: bs)[as.length]? = some k := by rw [xb5 (xai _), Nat.sub_self]; rfl
          rw [<- e, List.getElem?_range] at e3
          · exact Option.some.inj e3
          · have := congrArg List.length e
            rw [List.length_range, xbv, xaq] at this
            omega
        rw [xbx (by omega)] at e2
        exact xbc e2
      simpa using nb m' this
    | none =>
      rw [hx] at h
      have h : SetTable.layClean.free t.mask owner f (leap t.mask i perturb).1 (leap t.mask i perturb).2 = some j := h
      obtain ⟨m, m1, m2, m3, m4⟩ := ih _ _ j h
      have rt : iter t (runEnd t.mask i - i + 1) (start t.mask i perturb) = start t.mask (leap t.mask i perturb).1 (leap t.mask i perturb).2 := run_to (t := t) _ (start t.mask i perturb) rfl rfl
      have no := List.find?_eq_none.mp hx
      have re : i <= runEnd t.mask i := by unfold runEnd; split <;> omega
      refine ⟨(runEnd t.mask i - i + 1) + m, by omega, by rw [iter_add, rt]; exact m2, m3, fun m' hm => ?_⟩
      by_cases hc : m' <= runEnd t.mask i - i
      · rw [jk m' hc]
        exact Bool.eq_false_iff.mpr (no m' (xa2.mpr (by omega)))
      · obtain ⟨u, rfl⟩ : ∃ u, m' = (runEnd t.mask i - i + 1) + u := ⟨m' - (runEnd t.mask i - i + 1), by omega⟩
        rw [iter_add, rt]
        exact m4 u (by omega)
def Laid (t : SetTable) (owner : Array (Option Nat)) (hf : Nat -> Int) (k : Nat) : Prop :=
  ∀ c, c < k -> ∃ j, j <= t.mask /\ owner.getD j none = some c /\ ∃ m, m < 10 * turns t.mask /\ (iter t m (t.probeStart (hf c))).j = j /\ ∀ m', m' < m -> (owner.getD (iter t m' (t.probeStart (hf c))).j none).isSome = true
theorem start_le {t : SetTable} (h : Int) (m : Nat) : (iter t m (t.probeStart h)).j <= t.mask := by
  refine iter_le m _ ?_
  show bits h % (t.mask + 1) + (runEnd t.mask (bits h % (t.mask + 1)) - bits h % (t.mask + 1)) <= t.mask
  refine run_le _ _ ?_
  have := xcj (bits h) (show 0 < t.mask + 1 by omega)
  omega
theorem fold_laid {t : SetTable} (hf : Nat -> Int) : ∀ (hs : List Int) (owner owner' : Array (Option Nat)) (k k' : Nat), owner.size = t.mask + 1 -> (∀ i, i < hs.length -> hs[i]? = some (hf (k + i))) -> Laid t owner hf k ->
    hs.foldl (fun acc h => do
      let (owner, k) <- acc
      let j <- SetTable.layClean.free t.mask owner (turns t.mask) (bits h % (t.mask + 1)) (bits h)
      pure (owner.setIfInBounds j (some k), k + 1)) (some (owner, k)) = some (owner', k') -> owner'.size = t.mask + 1 /\ Laid t owner' hf (k + hs.length)
  | [], owner, owner', k, k', h1, _, h3, e => by
    have e : some (owner, k) = some (owner', k') := e
    cases e
    exact ⟨h1, h3⟩
  | h :: hs, owner, owner', k, k', h1, h2, h3, e => by
    rw [List.foldl_cons] at e
    have hh : hf k = h := by have := h2 0 (by simp); simpa using this.symm
    cases hfr : SetTable.layClean.free t.mask owner (turns t.mask) (bits h % (t.mask + 1)) (bits h) with
    | none =>
      exfalso
      have e1 : (do
        let (owner, k) <- some (owner, k)
        let j <- SetTable.layClean.free t.mask owner (turns t.mask) (bits h % (t.mask + 1)) (bits h)
        pure (owner.setIfInBounds j (some k), k + 1)) = (none : Option (Array (Option Nat) × Nat)) := by
        show (SetTable.layClean.free t.mask owner (turns t.mask) (bits h % (t.mask + 1)) (bits h)).bind _ = _
        rw [hfr]; rfl
      rw [e1] at e
      have nn : ∀ l : List Int, l.foldl (fun acc h => do
        let (owner, k) <- acc
        let j <- SetTable.layClean.free t.mask owner (turns t.mask) (bits h % (t.mask + 1)) (bits h)
        pure (owner.setIfInBounds j (some k), k + 1)) (none : Option (Array (Option Nat) × Nat)) = none := by
        intro l
        induction l with
        | nil => rfl
        | cons a l ih => rw [List.foldl_cons]; exact ih
      rw [nn] at e
      cases e
    | some j' =>
      have e1 : (do
        let (owner, k) <- some (owner, k)
        let j <- SetTable.layClean.free t.mask owner (turns t.mask) (bits h % (t.mask + 1)) (bits h)
        pure (owner.setIfInBounds j (some k), k + 1)) = some (owner.setIfInBounds j' (some k), k + 1) := by
        show (SetTable.layClean.free t.mask owner (turns t.mask) (bits h % (t.mask + 1)) (bits h)).bind _ = _
        rw [hfr]; rfl
      rw [e1] at e
      obtain ⟨m, m1, m2, m3, m4⟩ := free_first (t := t) _ _ _ _ hfr
      have m2 : (iter t m (t.probeStart h)).j = j' := m2
      have m4 : ∀ m', m' < m -> (owner.getD (iter t m' (t.probeStart h)).j (some 0)).isNone = false := m4
      have jl : j' <= t.mask := by rw [<- m2]; exact start_le h m
      have hn : owner.getD j' none = none := by
        rw [getD_in (by omega) none (some 0)]
        exact Option.isNone_iff_eq_none.mp m3
      have hset : ∀ i, (owner.setIfInBounds j' (some k)).getD i none = if i = j' then some k else owner.getD i none := by
        intro i
        rw [xau, xau, Array.getElem?_setIfInBounds]
        by_cases e : i = j'
        · subst e; rw [if_pos rfl, if_pos rfl, if_pos (by omega)]; rfl
        · rw [if_neg (xas e), if_neg e]
      have keep : ∀ i, (owner.getD i none).isSome = true -> ((owner.setIfInBounds j' (some k)).getD i none).isSome = true := fun i hi => by
        rw [hset]; split
        · rfl
        · exact hi
      have L2 : Laid t (owner.setIfInBounds j' (some k)) hf (k + 1) := by
        intro c hc
        by_cases ec : c = k
        · subst ec
          refine ⟨j', jl, by rw [hset, if_pos rfl], m, m1, by rw [hh]; exact m2, fun m' hm => ?_⟩
          rw [hh]
          refine keep _ ?_
          have := m4 m' hm
          rw [getD_in (by have := start_le (t := t) h m'; omega) none (some 0)]
          cases hx : owner.getD (iter t m' (t.probeStart h)).j (some 0) with
          | none => rw [hx] at this; cases this
          | some _ => rfl
        · obtain ⟨j, j1, j2, m, n1, n2, n3⟩ := h3 c (by omega)
          refine ⟨j, j1, ?_, m, n1, n2, fun m' hm => keep _ (n3 m' hm)⟩
          rw [hset, if_neg (fun z => by rw [z, hn] at j2; cases j2)]
          exact j2
      have := fold_laid hf hs _ owner' (k + 1) k' (by rw [Array.size_setIfInBounds]; exact h1) (fun i hi => by
        have := h2 (i + 1) (by simp; omega)
        rw [xb1] at this
        rw [this, show k + (i + 1) = k + 1 + i by omega]) L2 e
      rw [xaq, show k + (hs.length + 1) = k + 1 + hs.length by omega]
      exact this
theorem fm_get {α β : Type} (f : α -> Option β) : ∀ (l : List α), (∀ a ∈ l, (f a).isSome = true) -> ∀ i : Nat, (l.filterMap f)[i]? = (l[i]?).bind f
  | [], _, i => by simp
  | a :: l, h, i => by
    obtain ⟨b, hb⟩ := xba.mp (h a xam)
    rw [xa1 hb]
    cases i with
    | zero => simp [hb]
    | succ i => rw [xb1, xb1]; exact fm_get f l (fun x hx => h x (xaf _ hx)) i
theorem srt_fm {β : Type} (f : Nat -> Option β) : ∀ l : List Nat, l.Pairwise (· < ·) -> ((l.filterMap fun j => (f j).map (j, ·)).map (·.1)).Pairwise (· < ·)
  | [], _ => List.Pairwise.nil
  | a :: l, h => by
    rw [List.pairwise_cons] at h
    cases e : f a with
    | none => rw [xbb (by rw [e]; rfl)]; exact srt_fm f l h.2
    | some b =>
      rw [xa1 (b := (a, b)) (by rw [e]; rfl), xa9, List.pairwise_cons]
      refine ⟨fun x hx => ?_, srt_fm f l h.2⟩
      obtain ⟨⟨j, v⟩, hm, rfl⟩ := xbh.mp hx
      obtain ⟨i, hi, hv⟩ := xbn.mp hm
      cases hx : f i with
      | none => rw [hx] at hv; cases hv
      | some u =>
        rw [hx] at hv
        have hv : some (i, u) = some (j, v) := hv
        cases hv
        exact h.1 _ hi
theorem mem_fm {β : Type} {f : Nat -> Option β} {l : List Nat} {j : Nat} {b : β} (hj : j ∈ l) (hb : f j = some b) : (j, b) ∈ l.filterMap fun j => (f j).map (j, ·) := xbn.mpr ⟨j, hj, by rw [hb]; rfl⟩
end SetT
namespace DL
open L2
inductive D where
  | non | bl (b : Bool) | int (i : Int) | str (x : Str) | ty (n : String) | cls (c : Str)
  | tup (xs : List D) | lst (xs : List D) | dct (ks : List Key) (vs : List D) | exc (c : Str) (as : List D)
instance : Inhabited D := ⟨.non⟩
inductive R (α : Type) where
  | ok (a : α) | err (e : D) | bad
def R.bind {α β : Type} : R α -> (α -> R β) -> R β
  | .ok a, k => k a
  | .err e, _ => .err e
  | .bad, _ => .bad
def RW {α : Type} (r : R α) (Q : α -> Prop) (E : D -> Prop) : Prop := match r with
  | .ok a => Q a
  | .err e => E e
  | .bad => False
theorem RW.mono {α : Type} {r : R α} {Q Q' : α -> Prop} {E E' : D -> Prop} (h : RW r Q E) (hq : ∀ a, r = .ok a -> Q a -> Q' a) (he : ∀ e, E e -> E' e) : RW r Q' E' := by
  cases r with
  | ok a => exact hq a rfl h
  | err e => exact he e h
  | bad => exact h
theorem RW.of_bind {α β : Type} {r : R α} {k : α -> R β} {Q : β -> Prop} {E : D -> Prop} (h : RW (r.bind k) Q E) : RW r (fun a => RW (k a) Q E) E := by
  cases r with
  | ok a => exact h
  | err e => exact h
  | bad => exact h
def clsNames : List Str := ["ChalkError", "NoPlace", "Same", "NoFloor", "Endless", "NoDeed", "NoText", "NoName", "TooMany", "NoChange", "NoFrame", "NoValue", "Unlike", "NoRatio", "NoBow", "NoRow"]
def subX (c d : Str) : Option Bool := bif clsNames.contains c && clsNames.contains d then some (c == d || d == "ChalkError") else none
structure XcOk (K : xFg) (mg : Str -> Option Value) (c : Str) (C : Addr) : Prop where
  here : mg c = some (.ref C)
  exc : ExcC K C
  isi : ∀ d Dd b, subX c d = some b -> mg d = some (.ref Dd) -> PySem.W.kitOne K (.ref C) (.ref Dd) = some b
  val : PySem.W.kitOne K (.ref C) (.type "ValueError") = some true
  ctc : ∀ d Dd, subX c d = some true -> mg d = some (.ref Dd) -> PySem.W.exmOne K (.ref C) (.ref Dd) = some true
def DctOk (G : Hp) (dct : Option Addr) (vs : List V) : Prop := (dct = none /\ vs = []) \/ ∃ dx v, dct = some dx /\ vs = [v] /\ G dx = some (.xd [("at", v)])
mutual
def Rep (K : xFg) (mg : Str -> Option Value) (G : Hp) : D -> V -> Prop
  | .non, v => v = .non
  | .bl b, v => v = .bl b
  | .int i, v => v = .int i
  | .str x, v => v = .str x
  | .ty n, v => v = .ty n
  | .cls c, v => ∃ C, v = .ref C /\ mg c = some (.ref C)
  | .tup ds, v => ∃ a vs, v = .ref a /\ SqT K G a vs /\ Reps K mg G ds vs
  | .lst ds, v => ∃ a vs, v = .ref a /\ SqL K G a vs /\ Reps K mg G ds vs
  | .dct ks ds, v => ∃ a vs, v = .ref a /\ Rd G a (.dK (ks.zip vs)) /\ ks.length = vs.length /\ Reps K mg G ds vs
  | .exc c as, v => ∃ x C dct vs, v = .ref x /\ G x = some (excO x C dct) /\ XcOk K mg c C /\ DctOk G dct vs /\ Reps K mg G as vs
def Reps (K : xFg) (mg : Str -> Option Value) (G : Hp) : List D -> List V -> Prop
  | [], vs => vs = []
  | d :: ds, vs => ∃ v r, vs = v :: r /\ Rep K mg G d v /\ Reps K mg G ds r
end
def ExcR (K : xFg) (mg : Str -> Option Value) (G : Hp) (e : D) (C : Addr) (dct : Option Addr) : Prop := ∃ c as vs, e = .exc c as /\ XcOk K mg c C /\ DctOk G dct vs /\ Reps K mg G as vs
section
variable {K : xFg} {mg : Str -> Option Value} {G G' H H' : Hp}
theorem Same.sqT {a : Addr} {xs : List V} (e : Same G G') (h : SqT K G a xs) : SqT K G' a xs := e.tup h
theorem Same.rd {a : Addr} {u : HO} (e : Same G G') (h : Rd G a u) : Rd G' a u := by
  rcases h with h | ⟨o, h⟩
  · exact .inl (e _ _ h)
  · exact .inr ⟨o, e _ _ h⟩
theorem DctOk.mono {dct : Option Addr} {vs : List V} (e : Same G G') (h : DctOk G dct vs) : DctOk G' dct vs := by
  rcases h with h | ⟨dx, v, h1, h2, h3⟩
  · exact .inl h
  · exact .inr ⟨dx, v, h1, h2, e _ _ h3⟩
mutual
theorem Rep.mono (e : Same G G') : ∀ {d : D} {v : V}, Rep K mg G d v -> Rep K mg G' d v
  | .non, _, h => h
  | .bl _, _, h => h
  | .int _, _, h => h
  | .str _, _, h => h
  | .ty _, _, h => h
  | .cls _, _, h => h
  | .tup _, _, ⟨a, vs, h1, h2, h3⟩ => ⟨a, vs, h1, Same.sqT e h2, Reps.mono e h3⟩
  | .lst _, _, ⟨a, vs, h1, h2, h3⟩ => ⟨a, vs, h1, e.seq h2, Reps.mono e h3⟩
  | .dct _ _, _, ⟨a, vs, h1, h2, h3, h4⟩ => ⟨a, vs, h1, Same.rd e h2, h3, Reps.mono e h4⟩
  | .exc _ _, _, ⟨x, C, dct, vs, h1, h2, h3, h4, h5⟩ => ⟨x, C, dct, vs, h1, e _ _ h2, h3, h4.mono e, Reps.mono e h5⟩
theorem Reps.mono (e : Same G G') : ∀ {ds : List D} {vs : List V}, Reps K mg G ds vs -> Reps K mg G' ds vs
  | [], _, h => h
  | _ :: _, _, ⟨v, r, h1, h2, h3⟩ => ⟨v, r, h1, Rep.mono e h2, Reps.mono e h3⟩
end
theorem Reps.length : ∀ {ds : List D} {vs : List V}, Reps K mg G ds vs -> ds.length = vs.length
  | [], _, h => by cases h; rfl
  | _ :: _, _, ⟨v, r, h1, _, h3⟩ => by cases h1; rw [xaq, xaq, Reps.length h3]
theorem Reps.nil : Reps K mg G [] [] := rfl
theorem Reps.cons {d : D} {v : V} {ds : List D} {vs : List V} (h : Rep K mg G d v) (t : Reps K mg G ds vs) : Reps K mg G (d :: ds) (v :: vs) := ⟨v, vs, rfl, h, t⟩
theorem Reps.append : ∀ {ds es : List D} {vs ws : List V}, Reps K mg G ds vs -> Reps K mg G es ws -> Reps K mg G (ds ++ es) (vs ++ ws)
  | [], _, _, _, h, t => by cases h; exact t
  | _ :: _, _, _, _, ⟨v, r, h1, h2, h3⟩, t => by cases h1; exact ⟨v, r ++ _, rfl, h2, h3.append t⟩
theorem Reps.get : ∀ {ds : List D} {vs : List V} {i : Nat} {d : D}, Reps K mg G ds vs -> ds[i]? = some d -> ∃ v, vs[i]? = some v /\ Rep K mg G d v
  | [], _, _, _, _, e => by simp at e
  | _ :: _, _, 0, _, ⟨v, r, h1, h2, _⟩, e => by simp at e; subst e; subst h1; exact ⟨v, rfl, h2⟩
  | _ :: ds, _, i + 1, d, ⟨v, r, h1, _, h3⟩, e => by
    subst h1
    obtain ⟨w, e1, e2⟩ := Reps.get (i := i) (d := d) h3 (by simpa using e)
    exact ⟨w, by simpa using e1, e2⟩
theorem Reps.drop : ∀ {ds : List D} {vs : List V} (n : Nat), Reps K mg G ds vs -> Reps K mg G (ds.drop n) (vs.drop n)
  | _, _, 0, h => h
  | [], _, _ + 1, h => by cases h; exact rfl
  | _ :: _, _, n + 1, ⟨_, _, h1, _, h3⟩ => by subst h1; exact h3.drop n
theorem Reps.take : ∀ {ds : List D} {vs : List V} (n : Nat), Reps K mg G ds vs -> Reps K mg G (ds.take n) (vs.take n)
  | _, _, 0, h => by simp only [List.take_zero]; exact rfl
  | [], _, _ + 1, h => by cases h; exact rfl
  | _ :: _, _, n + 1, ⟨v, _, h1, h2, h3⟩ => by subst h1; exact ⟨v, _, rfl, h2, h3.take n⟩
theorem Reps.ints (ns : List Int) : Reps K mg G (ns.map D.int) (ns.map V.int) := by
  induction ns with
  | nil => exact rfl
  | cons n r ih => exact ⟨_, _, rfl, rfl, ih⟩
theorem Reps.of_ints : ∀ {ns : List Int} {vs : List V}, Reps K mg G (ns.map D.int) vs -> vs = ns.map V.int
  | [], _, h => h
  | _ :: _, _, ⟨_, _, h1, h2, h3⟩ => by subst h1; cases h2; rw [Reps.of_ints h3]; rfl
theorem Reps.of_bools : ∀ {bs : List Bool} {vs : List V}, Reps K mg G (bs.map D.bl) vs -> vs = bs.map V.bl
  | [], _, h => h
  | _ :: _, _, ⟨_, _, h1, h2, h3⟩ => by subst h1; cases h2; rw [Reps.of_bools h3]; rfl
theorem Reps.at {ds : List D} {vs : List V} {i : Int} {d : D} (h : Reps K mg G ds vs) (e : atI ds i = some d) : ∃ v, atI vs i = some v /\ Rep K mg G d v := by
  unfold atI at e ⊢
  rw [h.length] at e
  cases q : ixN vs.length i with
  | none => rw [q] at e; cases e
  | some j => rw [q] at e; exact h.get e
structure Step (G H G' H' : Hp) : Prop where
  g : Same G G'
  h : Same H H'
  e : Same G' H'
  c : ∀ a o, H a = some o -> G a = none -> G' a = none
theorem Step.refl (e : Same G H) : Step G H G H := ⟨Same.refl _, Same.refl _, e, fun _ _ _ h => h⟩
theorem Step.trans {G1 H1 : Hp} (a : Step G H G1 H1) (b : Step G1 H1 G' H') : Step G H G' H' :=
  ⟨a.g.trans b.g, a.h.trans b.h, b.e, fun x o p q => b.c x o (a.h x o p) (a.c x o p q)⟩
theorem same_upd {p : Addr} {o : HO} (h : H p = none) : Same H (upd H p o) := same_new h o
theorem Step.pub {p : Addr} {o : HO} (e : Same G H) (h : H p = none) : Step G H (upd G p o) (upd H p o) := by
  refine ⟨same_upd (e.free h), same_upd h, fun b u q => ?_, fun a u p1 q1 => ?_⟩
  · by_cases hb : b = p
    · subst hb; rw [upd_same] at q ⊢; exact q
    · rw [upd_ne hb] at q ⊢; exact e b u q
  · have hb : a ≠ p := ne_of_none p1 h
    rw [upd_ne hb]; exact q1
theorem Step.hid {p : Addr} {o : HO} (e : Same G H) (h : H p = none) : Step G H G (upd H p o) :=
  ⟨Same.refl _, same_upd h, e.trans (same_upd h), fun _ _ _ q => q⟩
theorem Step.heap (e : Same G H) (h : Same H H') : Step G H G H' := ⟨Same.refl _, h, e.trans h, fun _ _ _ q => q⟩
end
abbrev DSt := List (Option D)
structure Ok0 (K : xFg) (mg : Str -> Option Value) (Zd : DSt) (Z : St) (G H : Hp) : Prop where
  ext : Same G H
  len : Zd.length = Z.length
  val : ∀ (i : Nat) (d : D), Zd[i]? = some (some d) -> ∃ v, Z[i]? = some (some v) /\ Rep K mg G d v
section
variable {K : xFg} {mg : Str -> Option Value} {G G' H H' : Hp} {Zd : DSt} {Z : St}
theorem Ok0.step (o : Ok0 K mg Zd Z G H) (s : Step G H G' H') : Ok0 K mg Zd Z G' H' :=
  ⟨s.e, o.len, fun i d q => let ⟨v, h1, h2⟩ := o.val i d q; ⟨v, h1, h2.mono s.g⟩⟩
theorem Ok0.set {i : Nat} {d : D} {v : V} (o : Ok0 K mg Zd Z G H) (h : Rep K mg G d v) : Ok0 K mg (Zd.set i (some d)) (Z.set i (some v)) G H := by
  refine ⟨o.ext, by simp [o.len], fun j e q => ?_⟩
  by_cases hj : j = i
  · subst hj
    have hl : j < Zd.length := by have := (xae.mp q).1; simpa using this
    rw [xal hl] at q
    cases q
    exact ⟨v, by rw [xal (by rw [<- o.len]; exact hl)], h⟩
  · rw [xaa (xas hj)] at q ⊢
    exact o.val j e q
theorem Ok0.cons {x : Option D} {y : Option V} (o : Ok0 K mg Zd Z G H) (h : ∀ d, x = some d -> ∃ v, y = some v /\ Rep K mg G d v) : Ok0 K mg (x :: Zd) (y :: Z) G H := by
  refine ⟨o.ext, by simp [o.len], fun j e q => ?_⟩
  cases j with
  | zero =>
    have q' : x = some e := by simpa using q
    obtain ⟨v, h1, h2⟩ := h e q'
    exact ⟨v, by simp [h1], h2⟩
  | succ j => exact o.val j e (by simpa using q)
theorem Ok0.nones (o : Ok0 K mg Zd Z G H) : ∀ k : Nat, Ok0 K mg (List.replicate k none ++ Zd) (List.replicate k none ++ Z) G H
  | 0 => o
  | k + 1 => (Ok0.nones o k).cons (x := none) (y := none) (fun d e => by cases e)
end
section
variable (K : xFg) (mg : Str -> Option Value) (E : XK)
def After (Q : VK) (G H : Hp) (d : D) : Prop := ∀ v G' H', Step G H G' H' -> Rep K mg G' d v -> Q v H'
def AfterT (Q : Bool -> Hp -> Prop) (G H : Hp) (b : Bool) : Prop := ∀ G' H', Step G H G' H' -> Q b H'
def AfterA (Q : List V -> Hp -> Prop) (G H : Hp) (ds : List D) : Prop := ∀ vs G' H', Step G H G' H' -> Reps K mg G' ds vs -> Q vs H'
def AfterF (Q : VK) (G H : Hp) (ds : List D) : Prop := ∀ a vs G' H', Step G H G' H' -> H a = none -> H' a = some (.lst vs) -> G' a = none -> Reps K mg G' ds vs -> Q (.ref a) H'
def AfterX (G H : Hp) (e : D) : Prop := ∀ G' H' C dct, Step G H G' H' -> ExcR K mg G' e C dct -> E (.ref C) dct H'
def tE (f : DSt -> R D) : TE := fun Z H Q => ∃ G Zd, Ok0 K mg Zd Z G H /\ RW (f Zd) (After K mg Q G H) (AfterX K mg E G H)
def tT (f : DSt -> R Bool) : TT := fun Z H Q => ∃ G Zd, Ok0 K mg Zd Z G H /\ RW (f Zd) (AfterT Q G H) (AfterX K mg E G H)
def tAr (f : DSt -> R (List D)) : TA := fun Z H Q => ∃ G Zd, Ok0 K mg Zd Z G H /\ RW (f Zd) (AfterA K mg Q G H) (AfterX K mg E G H)
def tFr (f : DSt -> R (List D)) : TE := fun Z H Q => ∃ G Zd, Ok0 K mg Zd Z G H /\ RW (f Zd) (AfterF K mg Q G H) (AfterX K mg E G H)
end
def DE (X : Cx) (E : XK) (e : Expr) (f : DSt -> R D) : Prop := PE X e (tE X.K X.mg E f)
def DT (X : Cx) (E : XK) (e : Expr) (f : DSt -> R Bool) : Prop := PT X e (tT X.K X.mg E f)
def DW (X : Cx) (E : XK) (e : Expr) (f : DSt -> R Bool) : Prop := PW X e (tT X.K X.mg E f)
def DA (X : Cx) (E : XK) (es : List Expr) (f : DSt -> R (List D)) : Prop := PA X es (tAr X.K X.mg E f)
def DF (X : Cx) (E : XK) (e : Expr) (f : DSt -> R (List D)) : Prop := PE X e (tFr X.K X.mg E f)
section
variable {X : Cx} {E : XK} {K : xFg} {mg : Str -> Option Value} {G G1 H H1 : Hp}
theorem PE.mono' {e : Expr} {t t' : TE} (h : PE X e t) (m : ∀ Z H Q, t' Z H Q -> t Z H Q) : PE X e t' := fun pins s Z H Q I q => h pins s Z H Q I (m Z H Q q)
theorem PT.mono' {e : Expr} {t t' : TT} (h : PT X e t) (m : ∀ Z H Q, t' Z H Q -> t Z H Q) : PT X e t' := fun pins s Z H Q I q => h pins s Z H Q I (m Z H Q q)
theorem PW.mono' {e : Expr} {t t' : TT} (h : PW X e t) (m : ∀ Z H Q, t' Z H Q -> t Z H Q) : PW X e t' := fun wh pins s Z H Q I q => h wh pins s Z H Q I (m Z H Q q)
theorem PA.mono' {es : List Expr} {t t' : TA} (h : PA X es t) (m : ∀ Z H Q, t' Z H Q -> t Z H Q) : PA X es t' := fun pos pins s Z H Q I q => h pos pins s Z H Q I (m Z H Q q)
theorem PS.mono' {st : Stmt} {t t' : TS} (h : PS X st t) (m : ∀ D Z H, t' D Z H -> t D Z H) : PS X st t' := fun pins s Z H D I q => h pins s Z H D I (m D Z H q)
theorem PSs.mono' {st : List Stmt} {t t' : TS} (h : PSs X st t) (m : ∀ D Z H, t' D Z H -> t D Z H) : PSs X st t' := fun pins s Z H D I q => h pins s Z H D I (m D Z H q)
theorem After.step {Q : VK} {d : D} (h : After K mg Q G H d) (s : Step G H G1 H1) : After K mg Q G1 H1 d := fun v G' H' s' r => h v G' H' (s.trans s') r
theorem AfterX.step {e : D} (h : AfterX K mg E G H e) (s : Step G H G1 H1) : AfterX K mg E G1 H1 e := fun G' H' C dct s' r => h G' H' C dct (s.trans s') r
theorem AfterT.step {Q : Bool -> Hp -> Prop} {b : Bool} (h : AfterT Q G H b) (s : Step G H G1 H1) : AfterT Q G1 H1 b := fun G' H' s' => h G' H' (s.trans s')
theorem AfterF.step {Q : VK} {ds : List D} (h : AfterF K mg Q G H ds) (s : Step G H G1 H1) : AfterF K mg Q G1 H1 ds := fun a vs G' H' s' n e g r => h a vs G' H' (s.trans s') (s.h.free n) e g r
theorem After.now {Q : VK} {d : D} {v : V} (h : After K mg Q G H d) (e : Same G H) (r : Rep K mg G d v) : Q v H := h v G H (.refl e) r
theorem DF.de {e : Expr} {f : DSt -> R (List D)} (h : DF X E e f) : DE X E e (fun Z => (f Z).bind fun ds => .ok (.lst ds)) := by
  refine PE.mono' h fun Z H Q ⟨G, Zd, ok, q⟩ => ⟨G, Zd, ok, q.of_bind.mono (fun ds _ q => ?_) fun _ z => z⟩
  intro a vs G' H' s n e g r
  have q' : After X.K X.mg Q G H (.lst ds) := q
  have sg : Same G' (upd G' a (.lst vs)) := same_upd g
  refine q' (.ref a) (upd G' a (.lst vs)) H' ⟨s.g.trans sg, s.h, fun b u p => ?_, fun b u p1 p2 => ?_⟩ ⟨a, vs, rfl, SqL.of upd_same, r.mono sg⟩
  · by_cases hb : b = a
    · subst hb; rw [upd_same] at p; cases p; exact e
    · rw [upd_ne hb] at p; exact s.e b u p
  · have hb : b ≠ a := ne_of_none p1 n
    rw [upd_ne hb]; exact s.c b u p1 p2
def eVar (i : Nat) : DSt -> R D := fun Z => match Z[i]? with
  | some (some d) => .ok d
  | _ => .bad
theorem de_var (i : Nat) {x : Str} {pos : Pos} (hN : X.N[i]? = some x := by rfl) (hv : Vis X.env.scope x := by first | exact Or.inl rfl | exact Or.inr (Or.inl rfl) | exact Or.inr (Or.inr rfl)) (hd : (x == ("__debug__" : Str)) = false := by decide)
    (hcd : (x == ("__classdict__" : Str)) = false := by decide) : DE X E (.Name x pos) (eVar i) := by
  refine PE.mono' (pv i hN hv hd hcd) fun Z H Q ⟨G, Zd, ok, q⟩ => ?_
  unfold eVar at q
  split at q
  · rename_i d e
    obtain ⟨v, h1, h2⟩ := ok.val i d e
    exact ⟨v, h1, After.now q ok.ext h2⟩
  · exact q.elim
def eC (d : D) : DSt -> R D := fun _ => .ok d
theorem de_int {i j pos} : DE X E (.Constant (.int i) j pos) (eC (.int i)) := PE.mono' pe_int fun _ _ _ ⟨_, _, ok, q⟩ => After.now q ok.ext rfl
theorem de_bl {b j pos} : DE X E (.Constant (.bool b) j pos) (eC (.bl b)) := PE.mono' pe_bl fun _ _ _ ⟨_, _, ok, q⟩ => After.now q ok.ext rfl
theorem de_non {j pos} : DE X E (.Constant .none j pos) (eC .non) := PE.mono' pe_non fun _ _ _ ⟨_, _, ok, q⟩ => After.now q ok.ext rfl
theorem de_str {x j pos} : DE X E (.Constant (.str x) j pos) (eC (.str x)) := PE.mono' pe_str fun _ _ _ ⟨_, _, ok, q⟩ => After.now q ok.ext rfl
theorem de_glob {x : Str} {d : D} {v : V} {u : Value} {pos : Pos} (hm : X.mg x = some u) (r : RelV v u) (rp : ∀ G, Rep X.K X.mg G d v) (hg : Gl X x := by rfl) (hd : (x == ("__debug__" : Str)) = false := by decide) : DE X E (.Name x pos) (eC d) :=
  PE.mono' (pe_glob hg hm r hd) fun _ _ _ ⟨_, _, ok, q⟩ => After.now q ok.ext (rp _)
theorem de_ty {x : Str} {n : String} {pos : Pos} (hm : X.mg x = none) (hv : bootBuiltins x = some (.type n) := by rfl) (hg : Gl X x := by rfl) (hn : x ≠ "__name__" := by decide) (hd : (x == ("__debug__" : Str)) = false := by decide) : DE X E (.Name x pos) (eC (.ty n)) :=
  PE.mono' (pe_bltn hg hm hv (v := .ty n) rfl hn hd) fun _ _ _ ⟨_, _, ok, q⟩ => After.now q ok.ext rfl
def eBad {α : Type} : DSt -> R α := fun _ => .bad
def OpD (K : xFg) (mg : Str -> Option Value) (r : R2) (g : D -> D -> R D) : Prop :=
  ∀ (G H : Hp) (a b : D) (x y : V) (Q : VK), Same G H -> Rep K mg G a x -> Rep K mg G b y -> RW (g a b) (After K mg Q G H) (fun _ => False) -> r x y H Q
def eOp (g : D -> D -> R D) (fa fb : DSt -> R D) : DSt -> R D := fun Z => (fa Z).bind fun x => (fb Z).bind fun y => g x y
theorem tE_then {f : DSt -> R D} {α : Type} {k : D -> R α} {Z : St} {H : Hp} {Q : VK} {P : Hp -> Hp -> α -> Prop} {G : Hp} {Zd : DSt}
    (ok : Ok0 K mg Zd Z G H) (q : RW ((f Zd).bind k) (P G H) (AfterX K mg E G H))
    (h : ∀ d v G' H', Step G H G' H' -> Ok0 K mg Zd Z G' H' -> Rep K mg G' d v -> RW (k d) (P G H) (AfterX K mg E G' H') -> Q v H') : tE K mg E f Z H Q :=
  ⟨G, Zd, ok, q.of_bind.mono (fun d _ q v G' H' s r => h d v G' H' s (ok.step s) r (q.mono (fun _ _ z => z) fun e z => z.step s)) fun _ z => z⟩
theorem noX {α : Type} {r : R α} {Q : α -> Prop} {E' : D -> Prop} (hr : ∀ e, r ≠ .err e) (h : RW r Q E') : RW r Q (fun _ => False) := by
  cases r with
  | ok a => exact h
  | err e => exact absurd rfl (hr e)
  | bad => exact h
def NoErr (g : D -> D -> R D) : Prop := ∀ a b e, g a b ≠ .err e
theorem tOp_of {r : R2} {g : D -> D -> R D} (hd : OpD X.K X.mg r g) (hn : NoErr g) {fa fb : DSt -> R D} {Z : St} {H : Hp} {Q : VK} (h : tE X.K X.mg E (eOp g fa fb) Z H Q) : tOp r (tE X.K X.mg E fa) (tE X.K X.mg E fb) Z H Q := by
  obtain ⟨G, Zd, ok, q⟩ := h
  refine tE_then (P := After X.K X.mg Q) ok q fun a x G1 H1 s1 ok1 r1 q1 => ?_
  refine tE_then (P := fun _ _ => After X.K X.mg Q G H) ok1 q1 fun b y G2 H2 s2 ok2 r2 q2 => ?_
  exact hd G2 H2 a b x y Q ok2.ext (r1.mono s2.g) r2 (noX (hn a b) (q2.mono (fun _ _ z => z.step (s1.trans s2)) fun _ z => z))
variable {a b c : Expr} {fa fb fc : DSt -> R D} {pos : Pos}
theorem de_op {op : Operator} {r : R2} {g : D -> D -> R D} (ho : OpR X (binaryOp op) r) (hd : OpD X.K X.mg r g) (hn : NoErr g) (ha : DE X E a fa) (hb : DE X E b fb) : DE X E (.BinOp a op b pos) (eOp g fa fb) :=
  PE.mono' (pe_op ho ha hb) fun _ _ _ h => tOp_of hd hn h
theorem de_cmp {op : CmpOp} {r : R2} {g : D -> D -> R D} (ho : OpR X (compareOp op) r) (hd : OpD X.K X.mg r g) (hn : NoErr g) (ha : DE X E a fa) (hb : DE X E b fb) (hm : behindInMarks op b = false := by first | exact nobehind _ (by decide) (by decide) | rfl) : DE X E (.Compare a [op] [b] pos) (eOp g fa fb) :=
  PE.mono' (pe_cmpR ho ha hb hm) fun _ _ _ h => tOp_of hd hn h
def asB : D -> R Bool
  | .bl b => .ok b
  | _ => .bad
def eTest (f : DSt -> R D) : DSt -> R Bool := fun Z => (f Z).bind asB
theorem tTest_of {t : TE} {f : DSt -> R D} (h : ∀ Z H Q, tE X.K X.mg E f Z H Q -> t Z H Q) {Z : St} {H : Hp} {Q : Bool -> Hp -> Prop} (q : tT X.K X.mg E (eTest f) Z H Q) : tTest t Z H Q := by
  obtain ⟨G, Zd, ok, q⟩ := q
  refine h Z H _ ⟨G, Zd, ok, q.of_bind.mono (fun d _ q v G' H' s r => ?_) fun _ z => z⟩
  cases d with
  | bl k => cases r; exact ⟨k, rfl, (show AfterT Q G H k from q) G' H' s⟩
  | _ => exact (show False from q).elim
theorem dt_cmp {op : CmpOp} {r : R2} {g : D -> D -> R D} (ho : OpR X (compareOp op) r) (hd : OpD X.K X.mg r g) (hn : NoErr g) (ha : DE X E a fa) (hb : DE X E b fb) (hm : behindInMarks op b = false := by first | exact nobehind _ (by decide) (by decide) | rfl) : DT X E (.Compare a [op] [b] pos) (eTest (eOp g fa fb)) :=
  PT.mono' (pt_cmpR ho ha hb hm) fun _ _ _ q => tTest_of (fun _ _ _ h => tOp_of hd hn h) q
def eChain (g g' : D -> D -> R D) (fa fb fc : DSt -> R D) : DSt -> R D := fun Z => (fa Z).bind fun x => (fb Z).bind fun y => (g x y).bind fun z => (asB z).bind fun k => bif k then (fc Z).bind fun w => g' y w else .ok (.bl false)
theorem tChain_of {r r' : R2} {g g' : D -> D -> R D} (hd : OpD X.K X.mg r g) (hn : NoErr g) (hd' : OpD X.K X.mg r' g') (hn' : NoErr g') {Z : St} {H : Hp} {Q : VK} (h : tE X.K X.mg E (eChain g g' fa fb fc) Z H Q) :
    tChain r r' (tE X.K X.mg E fa) (tE X.K X.mg E fb) (tE X.K X.mg E fc) Z H Q := by
  obtain ⟨G, Zd, ok, q⟩ := h
  refine tE_then (P := After X.K X.mg Q) ok q fun a x G1 H1 s1 ok1 r1 q1 => ?_
  refine tE_then (P := fun _ _ => After X.K X.mg Q G H) ok1 q1 fun b y G2 H2 s2 ok2 r2 q2 => ?_
  refine hd G2 H2 a b x y _ ok2.ext (r1.mono s2.g) r2 ?_
  have s12 := s1.trans s2
  cases ez : g a b with
  | bad => rw [ez] at q2; exact q2.elim
  | err e => exact absurd ez (hn a b e)
  | ok z =>
    rw [ez] at q2
    intro v G3 H3 s3 r3
    cases z with
    | bl k =>
      cases r3
      have ok3 := ok2.step s3
      have s13 := s12.trans s3
      refine ⟨k, rfl, ?_⟩
      cases k with
      | false =>
        rw [if_neg xaw]
        have q3 : After X.K X.mg Q G H (.bl false) := q2
        exact q3 _ G3 H3 s13 rfl
      | true =>
        rw [if_pos rfl]
        have q3 : RW ((fc Zd).bind fun w => g' b w) (After X.K X.mg Q G H) (AfterX X.K X.mg E G2 H2) := q2
        refine tE_then (k := fun w => g' b w) (P := fun _ _ => After X.K X.mg Q G H) ok3 (q3.mono (fun _ _ z => z) fun _ z => z.step s3) fun c w G4 H4 s4 ok4 r4 q4 => ?_
        exact hd' G4 H4 b c y w Q ok4.ext (r2.mono (s3.g.trans s4.g)) r4 (noX (hn' b c) (q4.mono (fun _ _ z => z.step (s13.trans s4)) fun _ z => z))
    | _ => exact (show False from q2).elim
theorem dt_chain {op op' : CmpOp} {r r' : R2} {g g' : D -> D -> R D} (ho : OpR X (compareOp op) r) (hd : OpD X.K X.mg r g) (hn : NoErr g) (ho' : OpR X (compareOp op') r') (hd' : OpD X.K X.mg r' g') (hn' : NoErr g') (ha : DE X E a fa) (hb : DE X E b fb) (hc : DE X E c fc)
    (hm : lastMarks [op, op'] [b, c] = false := by with_unfolding_all rfl) : DT X E (.Compare a [op, op'] [b, c] pos) (eTest (eChain g g' fa fb fc)) :=
  PT.mono' (pt_chain ho ho' ha hb hc hm) fun _ _ _ q => tTest_of (fun _ _ _ h => tChain_of hd hn hd' hn' h) q
theorem dt_val {e : Expr} {f : DSt -> R D} (h : DE X E e f) (he : ∀ whole, isTrue e X.env whole = (do let v <- whole; standAt e.pos; holding [v] (truthy v)) := by intro _; rfl) : DT X E e (eTest f) :=
  PT.mono' (pt_val h he) fun Z H Q q => tTest_of (t := tE X.K X.mg E f) (fun _ _ _ h => h) q
theorem DW.dt {e : Expr} {f : DSt -> R Bool} (h : DW X E e f) : DT X E e f := h _
variable {rest : List Expr} {ga gb : DSt -> R Bool}
def eAnd (fa fb : DSt -> R Bool) : DSt -> R Bool := fun Z => (fa Z).bind fun k => bif k then fb Z else .ok false
def eOr (fa fb : DSt -> R Bool) : DSt -> R Bool := fun Z => (fa Z).bind fun k => bif k then .ok true else fb Z
def eNot (fa : DSt -> R Bool) : DSt -> R Bool := fun Z => (fa Z).bind fun k => .ok (!k)
theorem tT_then {f : DSt -> R Bool} {α : Type} {k : Bool -> R α} {Z : St} {H : Hp} {Q : Bool -> Hp -> Prop} {P : α -> Prop} {G : Hp} {Zd : DSt}
    (ok : Ok0 K mg Zd Z G H) (q : RW ((f Zd).bind k) P (AfterX K mg E G H))
    (h : ∀ b G' H', Step G H G' H' -> Ok0 K mg Zd Z G' H' -> RW (k b) P (AfterX K mg E G' H') -> Q b H') : tT K mg E f Z H Q :=
  ⟨G, Zd, ok, q.of_bind.mono (fun d _ q G' H' s => h d G' H' s (ok.step s) (q.mono (fun _ _ z => z) fun e z => z.step s)) fun _ z => z⟩
theorem dw_and1 (ha : DT X E a ga) : DW X E (.BoolOp .And [a] pos) ga := pw_and1 ha
theorem dw_or1 (ha : DT X E a ga) : DW X E (.BoolOp .Or [a] pos) ga := pw_or1 ha
theorem dw_and (ha : DT X E a ga) (hb : DW X E (.BoolOp .And (b :: rest) pos) gb) : DW X E (.BoolOp .And (a :: b :: rest) pos) (eAnd ga gb) := by
  refine PW.mono' (pw_and ha hb) fun Z H Q ⟨G, Zd, ok, q⟩ => ?_
  refine tT_then ok q fun k G' H' s ok' q' => ?_
  cases k with
  | true => rw [if_pos rfl]; exact ⟨G', Zd, ok', q'.mono (fun _ _ z => z.step s) fun _ z => z⟩
  | false => rw [if_neg xaw]; exact (show AfterT Q G H false from q') G' H' s
theorem dw_or (ha : DT X E a ga) (hb : DW X E (.BoolOp .Or (b :: rest) pos) gb) : DW X E (.BoolOp .Or (a :: b :: rest) pos) (eOr ga gb) := by
  refine PW.mono' (pw_or ha hb) fun Z H Q ⟨G, Zd, ok, q⟩ => ?_
  refine tT_then ok q fun k G' H' s ok' q' => ?_
  cases k with
  | true => rw [if_pos rfl]; exact (show AfterT Q G H true from q') G' H' s
  | false => rw [if_neg xaw]; exact ⟨G', Zd, ok', q'.mono (fun _ _ z => z.step s) fun _ z => z⟩
theorem dt_not (ha : DT X E a ga) : DT X E (.UnaryOp .Not a pos) (eNot ga) := by
  refine PT.mono' (pt_not ha) fun Z H Q ⟨G, Zd, ok, q⟩ => ?_
  exact tT_then ok q fun k G' H' s _ q' => (show AfterT Q G H (!k) from q') G' H' s
def vAnd (fa fb : DSt -> R D) : DSt -> R D := fun Z => (fa Z).bind fun x => (asB x).bind fun k => bif k then fb Z else .ok (.bl false)
def vOr (fa fb : DSt -> R D) : DSt -> R D := fun Z => (fa Z).bind fun x => (asB x).bind fun k => bif k then .ok (.bl true) else fb Z
def vNot (fa : DSt -> R D) : DSt -> R D := fun Z => (fa Z).bind fun x => (asB x).bind fun k => .ok (.bl !k)
theorem de_one {op} {f : DSt -> R D} (h : DE X E a f) : DE X E (.BoolOp op [a] pos) f := pe_one h
theorem de_and (ha : DE X E a fa) (hb : DE X E (.BoolOp .And (b :: rest) pos) fb) : DE X E (.BoolOp .And (a :: b :: rest) pos) (vAnd fa fb) := by
  refine PE.mono' (pe_and ha hb) fun Z H Q ⟨G, Zd, ok, q⟩ => ?_
  refine tE_then (P := After X.K X.mg Q) ok q fun d v G' H' s ok' r q' => ?_
  cases d with
  | bl k =>
    cases r
    refine ⟨k, rfl, ?_⟩
    cases k with
    | true => rw [if_pos rfl]; exact ⟨G', Zd, ok', q'.mono (fun _ _ z => z.step s) fun _ z => z⟩
    | false => rw [if_neg xaw]; exact (show After X.K X.mg Q G H (.bl false) from q') _ G' H' s rfl
  | _ => exact (show False from q').elim
theorem de_not (ha : DE X E a fa) : DE X E (.UnaryOp .Not a pos) (vNot fa) := by
  refine PE.mono' (pe_not ha) fun Z H Q ⟨G, Zd, ok, q⟩ => ?_
  refine tE_then (P := After X.K X.mg Q) ok q fun d v G' H' s ok' r q' => ?_
  cases d with
  | bl k => cases r; exact ⟨k, rfl, (show After X.K X.mg Q G H (.bl !k) from q') _ G' H' s rfl⟩
  | _ => exact (show False from q').elim
def eIf (c : DSt -> R Bool) (fa fb : DSt -> R D) : DSt -> R D := fun Z => (c Z).bind fun k => bif k then fa Z else fb Z
def UnD (K : xFg) (mg : Str -> Option Value) (r : V -> Hp -> VK -> Prop) (g : D -> R D) : Prop :=
  ∀ (G H : Hp) (a : D) (x : V) (Q : VK), Same G H -> Rep K mg G a x -> RW (g a) (After K mg Q G H) (fun _ => False) -> r x H Q
def eUn (g : D -> R D) (fa : DSt -> R D) : DSt -> R D := fun Z => (fa Z).bind g
theorem de_un {op : UnaryOp} {r : V -> Hp -> VK -> Prop} {g : D -> R D} (ho : UnR X (unaryOp op) r) (hd : UnD X.K X.mg r g) (hn : ∀ a e, g a ≠ .err e) (ha : DE X E a fa) : DE X E (.UnaryOp op a pos) (eUn g fa) := by
  refine PE.mono' (pe_un ho ha) fun Z H Q ⟨G, Zd, ok, q⟩ => ?_
  refine tE_then (P := After X.K X.mg Q) ok q fun d v G' H' s ok' r q' => ?_
  exact hd G' H' d v Q ok'.ext r (noX (hn d) (q'.mono (fun _ _ z => z.step s) fun _ z => z))
def aNil : DSt -> R (List D) := fun _ => .ok []
def aCons (fa : DSt -> R D) (fs : DSt -> R (List D)) : DSt -> R (List D) := fun Z => (fa Z).bind fun x => (fs Z).bind fun xs => .ok (x :: xs)
variable {es : List Expr} {fs : DSt -> R (List D)}
theorem da_nil : DA X E [] aNil := PA.mono' pa_nil fun Z H Q ⟨G, Zd, ok, q⟩ => (show AfterA X.K X.mg Q G H [] from q) [] G H (.refl ok.ext) Reps.nil
theorem da_cons (ha : DE X E a fa) (hr : DA X E es fs) (hs : starEach (a :: es) X.env = (false, eval a X.env) :: starEach es X.env := by rfl) : DA X E (a :: es) (aCons fa fs) := by
  refine PA.mono' (pa_cons ha hr hs) fun Z H Q ⟨G, Zd, ok, q⟩ => ?_
  refine tE_then (P := AfterA X.K X.mg Q) ok q fun d v G' H' s ok' r q' => ?_
  refine ⟨G', Zd, ok', q'.of_bind.mono (fun ds _ z vs G2 H2 s2 r2 => ?_) fun _ z => z⟩
  exact (show AfterA X.K X.mg Q G H (d :: ds) from z) _ G2 H2 (s.trans s2) (Reps.cons (r.mono s2.g) r2)
def few (n : Nat) : Bool := decide (n <= 1000)
theorem few_le {n : Nat} (h : few n = true) : n <= sizeLine := small (of_decide_eq_true h)
def eTup (fs : DSt -> R (List D)) : DSt -> R D := fun Z => (fs Z).bind fun ds => bif few ds.length then .ok (.tup ds) else .bad
theorem tA_then {α : Type} {k : List D -> R α} {Z : St} {H : Hp} {Q : List V -> Hp -> Prop} {P : α -> Prop} {G : Hp} {Zd : DSt}
    (ok : Ok0 K mg Zd Z G H) (q : RW ((fs Zd).bind k) P (AfterX K mg E G H))
    (h : ∀ ds vs G' H', Step G H G' H' -> Ok0 K mg Zd Z G' H' -> Reps K mg G' ds vs -> RW (k ds) P (AfterX K mg E G' H') -> Q vs H') : tAr K mg E fs Z H Q :=
  ⟨G, Zd, ok, q.of_bind.mono (fun ds _ q vs G' H' s r => h ds vs G' H' s (ok.step s) r (q.mono (fun _ _ z => z) fun e z => z.step s)) fun _ z => z⟩
theorem de_tup {x1} (h : DA X E es fs) : DE X E (.Tuple es x1 pos) (eTup fs) := by
  refine PE.mono' (pe_tup h) fun Z H Q ⟨G, Zd, ok, q⟩ => ?_
  refine tA_then (P := After X.K X.mg Q G H) ok q fun ds vs G' H' s ok' r q' => ?_
  cases hf : few ds.length with
  | false => rw [hf] at q'; exact (show False from q').elim
  | true =>
    rw [hf] at q'
    have q2 : After X.K X.mg Q G H (.tup ds) := q'
    refine ⟨by rw [<- r.length]; exact few_le hf, fun p hp => ?_⟩
    have s2 : Step G' H' (upd G' p (.tup vs)) (upd H' p (.tup vs)) := .pub ok'.ext hp
    exact q2 _ _ _ (s.trans s2) ⟨p, vs, rfl, SqT.of upd_same, r.mono s2.g⟩
def eLst (fs : DSt -> R (List D)) : DSt -> R (List D) := fun Z => (fs Z).bind fun ds => bif few ds.length then .ok ds else .bad
theorem df_lst (h : DA X E es fs) : DF X E (.List es pos) (eLst fs) := by
  refine PE.mono' (pe_lst h) fun Z H Q ⟨G, Zd, ok, q⟩ => ?_
  refine tA_then (P := AfterF X.K X.mg Q G H) ok q fun ds vs G' H' s ok' r q' => ?_
  cases hf : few ds.length with
  | false => rw [hf] at q'; exact (show False from q').elim
  | true =>
    rw [hf] at q'
    have q2 : AfterF X.K X.mg Q G H ds := q'
    refine ⟨by rw [<- r.length]; exact few_le hf, fun p hp => ?_⟩
    exact q2 p vs G' _ (s.trans (.hid ok'.ext hp)) (s.h.free hp) upd_same (ok'.ext.free hp) r
def gIx : D -> D -> R D
  | .tup xs, .int i => match atI xs i with
    | some d => .ok d
    | none => .bad
  | .lst xs, .int i => match atI xs i with
    | some d => .ok d
    | none => .bad
  | _, _ => .bad
theorem nx_ix : NoErr gIx := by
  intro a b e h
  cases a <;> cases b <;> simp only [gIx] at h <;> first | exact absurd h (by simp) | (split at h <;> cases h)
theorem od_ix : OpD K mg (fun x y H Q => rIxL K x y H Q \/ rIxT K x y H Q) gIx := by
  intro G H a b x y Q e ra rb q
  cases b with
  | int i =>
    cases rb
    cases a with
    | lst xs =>
      obtain ⟨p, vs, rfl, h1, h2⟩ := ra
      cases ed : atI xs i with
      | none => simp only [gIx, ed] at q; exact q.elim
      | some d =>
        simp only [gIx, ed] at q
        obtain ⟨v, h3, h4⟩ := h2.at ed
        exact .inl ⟨p, vs, i, v, rfl, rfl, e.seq h1, h3, After.now q e h4⟩
    | tup xs =>
      obtain ⟨p, vs, rfl, h1, h2⟩ := ra
      cases ed : atI xs i with
      | none => simp only [gIx, ed] at q; exact q.elim
      | some d =>
        simp only [gIx, ed] at q
        obtain ⟨v, h3, h4⟩ := h2.at ed
        exact .inr ⟨p, vs, i, v, rfl, rfl, Same.sqT e h1, h3, After.now q e h4⟩
    | _ => exact (show False from q).elim
  | _ => cases a <;> exact (show False from q).elim
theorem de_ix (ha : DE X E a fa) (hb : DE X E b fb) (hs : PlainIx b := by intro _ _; rfl) : DE X E (.Subscript a b pos) (eOp gIx fa fb) :=
  PE.mono' (pe_ix (ix_list.or ix_tup) ha hb hs) fun _ _ _ h => tOp_of od_ix nx_ix h
end
def spD (K : xFg) (mg : Str -> Option Value) (m : List D -> R D) : Sp := fun vs H Q E => ∃ G ds, Same G H /\ Reps K mg G ds vs /\ RW (m ds) (After K mg Q G H) (AfterX K mg E G H)
structure FnAt (P : Program) (w : World) (K : xFg) (mg : Str -> Option Value) (base : Heap) (k : Nat) (x : Str) (m : List D -> R D) : Prop where
  ex : ∃ (f : Addr) (fd : FuncData) (ps : List Str), FnOk P w K mg base (CXe P w) k f fd ps (spD K mg m) /\ mg x = some (.ref f) /\ PySem.W.keepIn K (.ref f) = true /\ Binds K fd ps []
theorem FnAt.mono {P : Program} {w : World} {K : xFg} {mg : Str -> Option Value} {base : Heap} {j k : Nat} {x : Str} {m : List D -> R D} (F : FnAt P w K mg base j x m) (h : j <= k) : FnAt P w K mg base k x m := by
  obtain ⟨f, fd, ps, h1, h2⟩ := F.ex
  exact ⟨f, fd, ps, h1.mono h, h2⟩
structure XC (X : Cx) (E : XK) (k : Nat) : Prop where
  calm : X.calm = true
  room : Room k X.A
  pass : Passes (CXe X.prog X.w) X E
def eCall (m : List D -> R D) (fs : DSt -> R (List D)) : DSt -> R D := fun Z => (fs Z).bind m
def CallD (K : xFg) (mg : Str -> Option Value) (r : List V -> Hp -> VK -> Prop) (g : List D -> R D) : Prop :=
  ∀ (G H : Hp) (ds : List D) (vs : List V) (Q : VK), Same G H -> Reps K mg G ds vs -> RW (g ds) (After K mg Q G H) (fun _ => False) -> r vs H Q
def R.noerr {α : Type} : R α -> R α
  | .ok a => .ok a
  | _ => .bad
def eBlt (g : List D -> R D) (fs : DSt -> R (List D)) : DSt -> R D := fun Z => (fs Z).bind fun ds => (g ds).noerr
theorem noerr_ok {α : Type} {r : R α} {Q : α -> Prop} {E' : D -> Prop} (h : RW r.noerr Q E') : ∃ a, r = .ok a /\ Q a := by
  cases r with
  | ok a => exact ⟨a, rfl, h⟩
  | err e => exact (show False from h).elim
  | bad => exact (show False from h).elim
section
variable {X : Cx} {E : XK} {k : Nat} {x : Str} {m : List D -> R D} {p pos : Pos} {e : Expr} {es : List Expr} {fs : DSt -> R (List D)}
theorem de_call (C : XC X E k) (F : FnAt X.prog X.w X.K X.mg X.base k x m) (ha : DA X E (e :: es) fs) (hg : Gl X x := by rfl) (hdb : (x == ("__debug__" : Str)) = false := by decide)
    (he : starEach (e :: es) X.env = (false, eval e X.env) :: starEach es X.env := by rfl) (hpl : (backTo pos (starEach es X.env)).any (·.1) = false := by rfl) : DE X E (.Call (.Name x p) (e :: es) [] pos) (eCall m fs) := by
  obtain ⟨f, fd, ps, h1, h2, h3, h4⟩ := F.ex
  refine PE.mono' (pe_call h1 C.room hg h2 h3 h4 .nil C.pass ha hdb he hpl) fun Z H Q ⟨G, Zd, ok, q⟩ => ?_
  refine ⟨G, Zd, ok, q.of_bind.mono (fun ds hds z vs G' H' s r => ?_) fun _ z => z⟩
  show spD X.K X.mg m (vs ++ []) H' Q E
  rw [xcw]
  exact ⟨G', ds, s.e, r, z.mono (fun _ _ z => z.step s) fun _ z => z.step s⟩
theorem de_call0 (C : XC X E k) (F : FnAt X.prog X.w X.K X.mg X.base k x m) (hg : Gl X x := by rfl) (hdb : (x == ("__debug__" : Str)) = false := by decide) : DE X E (.Call (.Name x p) [] [] pos) (eCall m aNil) := by
  obtain ⟨f, fd, ps, h1, h2, h3, h4⟩ := F.ex
  refine PE.mono' (pe_call0 h1 C.room hg h2 h3 h4 .nil C.pass hdb) fun Z H Q ⟨G, Zd, ok, q⟩ => ?_
  exact ⟨G, [], ok.ext, Reps.nil, q⟩
theorem de_blt {id : String} {r : List V -> Hp -> VK -> Prop} {g : List D -> R D} (hc : CallR X (.builtin id) r) (hd : CallD X.K X.mg r g) (hm : X.mg x = none) (hv : bootBuiltins x = some (.builtin id)) (ha : DA X E (e :: es) fs) (hg : Gl X x := by rfl) (hn : x ≠ "__name__" := by decide) (hdb : (x == ("__debug__" : Str)) = false := by decide)
    (he : starEach (e :: es) X.env = (false, eval e X.env) :: starEach es X.env := by rfl) (hpl : (backTo pos (starEach es X.env)).any (·.1) = false := by rfl) : DE X E (.Call (.Name x p) (e :: es) [] pos) (eBlt g fs) := by
  refine PE.mono' (pe_callB hc hg hm hv ha hn hdb he hpl) fun Z H Q ⟨G, Zd, ok, q⟩ => ?_
  refine ⟨G, Zd, ok, q.of_bind.mono (fun ds _ z vs G' H' s r => ?_) fun _ z => z⟩
  obtain ⟨d, e1, z⟩ := noerr_ok z
  exact hd G' H' ds vs Q s.e r (by rw [e1]; exact z.step s)
end
def setAll {α : Type} : List (Option α) -> List Nat -> List α -> List (Option α)
  | Z, k :: ks, v :: vs => setAll (Z.set k (some v)) ks vs
  | Z, _, _ => Z
theorem setAll_len {α : Type} : ∀ (ks : List Nat) (Z : List (Option α)) (vs : List α), (setAll Z ks vs).length = Z.length
  | [], _, _ => by unfold setAll; rfl
  | _ :: _, _, [] => by unfold setAll; rfl
  | _ :: ks, Z, _ :: vs => by unfold setAll; rw [setAll_len ks]; simp
theorem setAll_ne {α : Type} {j : Nat} : ∀ (ks : List Nat) (Z : List (Option α)) (vs : List α), j ∉ ks -> (setAll Z ks vs)[j]? = Z[j]?
  | [], _, _, _ => by unfold setAll; rfl
  | _ :: _, _, [], _ => by unfold setAll; rfl
  | k :: ks, Z, _ :: vs, h => by
    unfold setAll
    rw [setAll_ne ks _ vs fun z => h (xaf _ z), xaa (fun z => h (by rw [<- z]; exact xam))]
def tG (K : xFg) (mg : Str -> Option Value) (ks : List Nat) (gp : D -> R (List D)) : TG := fun v Z H Q => ∃ G d, Same G H /\ Rep K mg G d v /\ RW (gp d) (fun us => ∀ ws, Reps K mg G us ws -> Q (setAll Z ks ws) H) (fun _ => False)
def DG (X : Cx) (tg : Expr) (ks : List Nat) (gp : D -> R (List D)) : Prop := PG X tg (tG X.K X.mg ks gp)
def gpOne : D -> R (List D) := fun d => .ok [d]
def gpSeq (n : Nat) : D -> R (List D)
  | .tup ds => bif ds.length == n then .ok ds else .bad
  | .lst ds => bif ds.length == n then .ok ds else .bad
  | _ => .bad
section
variable {X : Cx} {pos : Pos}
theorem PG.mono' {tg : Expr} {t t' : TG} (h : PG X tg t) (m : ∀ v Z H Q, t' v Z H Q -> t v Z H Q) : PG X tg t' := fun pins s Z H v u Q I r q => h pins s Z H v u Q I r (m v Z H Q q)
theorem PG.or {tg : Expr} {t t' : TG} (h : PG X tg t) (h' : PG X tg t') : PG X tg (fun v Z H Q => t v Z H Q \/ t' v Z H Q) := fun pins s Z H v u Q I r q => by
  rcases q with q | q
  · exact h pins s Z H v u Q I r q
  · exact h' pins s Z H v u Q I r q
theorem dg_name (i : Nat) {x : Str} (hN : X.N.Nodup) (hi : X.N[i]? = some x := by rfl) (hx : Loc X.env.scope x := by first | exact Or.inl rfl | exact Or.inr rfl) (hf : X.fn x = true \/ X.env.scope.names.lookup x = some .local := by first | exact .inl rfl | exact .inr rfl | assumption) : DG X (.Name x pos) [i] gpOne :=
  PG.mono' (pg_name hN hi hx hf) fun v Z H Q ⟨G, d, e, r, q⟩ => by
    have q' := (show ∀ ws, Reps X.K X.mg G [d] ws -> Q (setAll Z [i] ws) H from q) [v] (Reps.cons r Reps.nil)
    exact q'
def gNames : List Nat -> TGs
  | [] => gNil
  | i :: r => gCons (gName i) (gNames r)
theorem gNames_of : ∀ (ks : List Nat) (vs : List V) (Z : St) (H : Hp) (Q : St -> Hp -> Prop), vs.length = ks.length -> Q (setAll Z ks vs) H -> gNames ks vs Z H Q
  | [], [], _, _, _, _, q => ⟨rfl, q⟩
  | i :: r, v :: vs, Z, H, Q, hl, q => ⟨v, vs, rfl, gNames_of r vs _ H Q (by simpa using hl) q⟩
theorem dg_seq {es : List Expr} {k : Nat} (ks : List Nat) (n : Nat) (hc : X.calm = true) (h : PGs X es (gNames ks)) (hk : ks.length = n := by rfl)
    (hn : (assignEach es X.env).length = n := by rfl) (hst : (assignEach es X.env).findIdx? (·.1) = none := by rfl) : DG X (.Tuple es k pos) ks (gpSeq n) := by
  refine PG.mono' (PG.or (pg_tup hc h hn hst) (pg_lst hc h hn hst)) fun v Z H Q ⟨G, d, e, r, q⟩ => ?_
  cases d with
  | tup ds =>
    obtain ⟨a, vs, rfl, h1, h2⟩ := r
    by_cases hd : ds.length = n
    · have q' : ∀ ws, Reps X.K X.mg G ds ws -> Q (setAll Z ks ws) H := by
        simp only [gpSeq, hd, beq_self_eq_true, cond_true] at q; exact q
      exact .inl ⟨a, vs, rfl, Same.sqT e h1, by rw [<- h2.length]; exact hd, gNames_of ks vs Z H Q (by rw [<- h2.length, hd, hk]) (q' vs h2)⟩
    · have : (ds.length == n) = false := by simpa using hd
      simp only [gpSeq, this, cond_false] at q; exact q.elim
  | lst ds =>
    obtain ⟨a, vs, rfl, h1, h2⟩ := r
    by_cases hd : ds.length = n
    · have q' : ∀ ws, Reps X.K X.mg G ds ws -> Q (setAll Z ks ws) H := by
        simp only [gpSeq, hd, beq_self_eq_true, cond_true] at q; exact q
      exact .inr ⟨a, vs, rfl, e.seq h1, by rw [<- h2.length]; exact hd, gNames_of ks vs Z H Q (by rw [<- h2.length, hd, hk]) (q' vs h2)⟩
    · have : (ds.length == n) = false := by simpa using hd
      simp only [gpSeq, this, cond_false] at q; exact q.elim
  | _ => exact (show False from q).elim
end
theorem Ok0.setAll {K : xFg} {mg : Str -> Option Value} {G H : Hp} : ∀ {ks : List Nat} {us : List D} {ws : List V} {Zd : DSt} {Z : St}, Ok0 K mg Zd Z G H -> Reps K mg G us ws -> Ok0 K mg (setAll Zd ks us) (setAll Z ks ws) G H
  | [], _, _, _, _, o, _ => by unfold DL.setAll; exact o
  | _ :: _, [], _, _, _, o, h => by cases h; unfold DL.setAll; exact o
  | k :: ks, _ :: _, _, _, _, o, ⟨v, r, h1, h2, h3⟩ => by subst h1; unfold DL.setAll; exact Ok0.setAll (o.set h2) h3
structure IterD (K : xFg) (mg : Str -> Option Value) (J : It) (G : Hp) (ds : List D) : Prop where
  stop : ∀ H, Same G H -> J.stop ds.length H
  turn : ∀ (H : Hp) (i : Nat) (d : D), Same G H -> ds[i]? = some d -> J.go i H /\ ∀ x H', J.yld i H x H' -> ∀ G1, Same G G1 -> Same G1 H -> ∃ G2, Step G1 H G2 H' /\ Rep K mg G2 d x
def tI (K : xFg) (mg : Str -> Option Value) (E : XK) (f : DSt -> R (List D)) : TI := fun Z H R => ∃ G Zd, Ok0 K mg Zd Z G H /\ RW (f Zd) (fun ds => ∀ J G' H', Step G H G' H' -> IterD K mg J G' ds -> R J H') (AfterX K mg E G H)
def DI (X : Cx) (E : XK) (tg iter : Expr) (f : DSt -> R (List D)) : Prop := PI X tg iter (tI X.K X.mg E f)
section
variable {X : Cx} {E : XK} {tg : Expr}
theorem PI.mono' {iter : Expr} {t t' : TI} (h : PI X tg iter t) (m : ∀ Z H R, t' Z H R -> t Z H R) : PI X tg iter t' := fun pins s Z H R I q => h pins s Z H R I (m Z H R q)
theorem IterD.list {K : xFg} {mg : Str -> Option Value} {G : Hp} {a : Addr} {vs : List V} {ds : List D} (h : SqL K G a vs) (r : Reps K mg G ds vs) : IterD K mg (Itl K a) G ds := by
  refine ⟨fun H e => by rw [r.length]; exact (lgo (e.seq h)).1, fun H i d e hd => ?_⟩
  have hi : i < vs.length := by rw [<- r.length]; exact (xae.mp hd).1
  obtain ⟨g1, g2⟩ := (lgo (e.seq h)).2 i hi
  refine ⟨g1, fun x H' y G1 e1 e2 => ?_⟩
  obtain ⟨rfl, hx⟩ := g2 x H' y
  obtain ⟨v, h1, h2⟩ := r.get hd
  rw [hx] at h1; cases h1
  exact ⟨G1, .refl e2, h2.mono e1⟩
theorem IterD.tup {K : xFg} {mg : Str -> Option Value} {G : Hp} {a : Addr} {vs : List V} {ds : List D} (h : SqT K G a vs) (r : Reps K mg G ds vs) : IterD K mg (Itt K a) G ds := by
  refine ⟨fun H e => by rw [r.length]; exact (tgo (Same.sqT e h)).1, fun H i d e hd => ?_⟩
  have hi : i < vs.length := by rw [<- r.length]; exact (xae.mp hd).1
  obtain ⟨g1, g2⟩ := (tgo (Same.sqT e h)).2 i hi
  refine ⟨g1, fun x H' y G1 e1 e2 => ?_⟩
  obtain ⟨rfl, hx⟩ := g2 x H' y
  obtain ⟨v, h1, h2⟩ := r.get hd
  rw [hx] at h1; cases h1
  exact ⟨G1, .refl e2, h2.mono e1⟩
def rngD (lo : Int) (n : Nat) : List D := (List.range n).map fun (i : Nat) => D.int (lo + (i : Int))
theorem IterD.rng {K : xFg} {mg : Str -> Option Value} {G : Hp} (lo : Int) (n : Nat) : IterD K mg (Itr lo n) G (rngD lo n) := by
  have hl : (rngD lo n).length = n := by simp [rngD]
  refine ⟨fun H e => by rw [hl]; exact xai _, fun H i d e hd => ?_⟩
  have hi : i < n := by have := (xae.mp hd).1; omega
  refine ⟨hi, fun x H' y G1 e1 e2 => ?_⟩
  obtain ⟨rfl, rfl⟩ := y
  have : d = .int (lo + (i : Int)) := by simp [rngD, hi] at hd; exact hd.symm
  subst this
  exact ⟨G1, .refl e2, rfl⟩
def asSeq : D -> R (List D)
  | .tup ds => .ok ds
  | .lst ds => .ok ds
  | _ => .bad
def iSeq (f : DSt -> R D) : DSt -> R (List D) := fun Z => (f Z).bind asSeq
theorem di_seq {l : Expr} {f : DSt -> R D} (hl : DE X E l f) : DI X E tg l (iSeq f) := by
  have hL : PI X tg l (iList X.K (tE X.K X.mg E f)) := pi_list hl
  have hT : PI X tg l (iTup X.K (tE X.K X.mg E f)) := pi_tup hl
  intro pins s Z H R I ⟨G, Zd, ok, q⟩
  cases hf : f Zd with
  | bad => unfold iSeq at q; rw [hf] at q; exact (show False from q).elim
  | err e =>
    unfold iSeq at q; rw [hf] at q
    refine hL pins s Z H R I ⟨G, Zd, ok, ?_⟩
    rw [hf]; exact q
  | ok d =>
    unfold iSeq at q; rw [hf] at q
    cases d with
    | lst ds =>
      have q' : ∀ J G' H', Step G H G' H' -> IterD X.K X.mg J G' ds -> R J H' := q
      refine hL pins s Z H R I ⟨G, Zd, ok, ?_⟩
      rw [hf]
      rintro v G' H' st ⟨a, vs, rfl, h1, h2⟩
      exact ⟨a, rfl, ⟨vs, st.e.seq h1⟩, q' _ G' H' st (.list h1 h2)⟩
    | tup ds =>
      have q' : ∀ J G' H', Step G H G' H' -> IterD X.K X.mg J G' ds -> R J H' := q
      refine hT pins s Z H R I ⟨G, Zd, ok, ?_⟩
      rw [hf]
      rintro v G' H' st ⟨a, vs, rfl, h1, h2⟩
      exact ⟨a, rfl, ⟨vs, Same.sqT st.e h1⟩, q' _ G' H' st (.tup h1 h2)⟩
    | _ => exact (show False from q).elim
def rOk (i : Int) : Bool := Nat.blt i.natAbs 1073741824
theorem rOk_is {i : Int} (h : rOk i = true) : -(2 ^ 30) <= i /\ i < 2 ^ 30 := by
  unfold rOk at h
  rw [Nat.blt_eq] at h
  omega
def rng1 : List D -> R (List D)
  | [.int j] => bif rOk j then .ok (rngD 0 j.toNat) else .bad
  | _ => .bad
def rng2 : List D -> R (List D)
  | [.int i, .int j] => bif rOk i && rOk j then .ok (rngD i (j - i).toNat) else .bad
  | _ => .bad
def iArgs (g : List D -> R (List D)) (fs : DSt -> R (List D)) : DSt -> R (List D) := fun Z => (fs Z).bind g
variable {fs : DSt -> R (List D)} {a b c : Expr} {p pos : Pos}
theorem di_range1 (hm : X.mg "range" = none) (ha : DA X E [a] fs) (hg : Gl X "range" := by rfl) (hs : starEach [a] X.env = [(false, eval a X.env)] := by rfl) : DI X E tg (.Call (.Name "range" p) [a] [] pos) (iArgs rng1 fs) := by
  refine PI.mono' (pi_range1 hg hm ha hs) fun Z H R ⟨G, Zd, ok, q⟩ => ?_
  refine ⟨G, Zd, ok, q.of_bind.mono (fun ds _ z vs G' H' s r => ?_) fun _ z => z⟩
  match ds, z, r with
  | [.int j], z, r =>
    obtain rfl := Reps.of_ints (ns := [j]) r
    cases hj : rOk j with
    | false => simp only [rng1, hj, cond_false] at z; exact z.elim
    | true =>
      simp only [rng1, hj, cond_true] at z
      have := rOk_is hj
      exact ⟨j, rfl, by omega, by omega, z _ G' H' s (.rng 0 _)⟩
end
def lcD (ks : List Nat) (gp : D -> R (List D)) (c : DSt -> R Bool) (e : DSt -> R D) (Z : DSt) : List D -> R (List D)
  | [] => .ok []
  | d :: ds => (gp d).bind fun us => (c (setAll Z ks us)).bind fun k => bif k then (e (setAll Z ks us)).bind fun y => (lcD ks gp c e Z ds).bind fun ys => .ok (y :: ys) else lcD ks gp c e Z ds
def most (n : Nat) : Bool := decide (n < sizeLine)
def eLC (k : Nat) (ks : List Nat) (fi : DSt -> R (List D)) (gp : D -> R (List D)) (c : DSt -> R Bool) (e : DSt -> R D) : DSt -> R (List D) := fun Z => (fi Z).bind fun ds => bif most ds.length then (lcD ks gp c e (List.replicate k none ++ Z) ds).noerr else .bad
def eTrue : DSt -> R Bool := fun _ => .ok true
def DTs (X : Cx) (E : XK) (cs : List Expr) (f : DSt -> R Bool) : Prop := PTs X cs (tT X.K X.mg E f)
theorem PTs.mono' {X : Cx} {cs : List Expr} {t t' : TT} (h : PTs X cs t) (m : ∀ Z H Q, t' Z H Q -> t Z H Q) : PTs X cs t' := fun pins s Z H Q I q => h pins s Z H Q I (m Z H Q q)
theorem dts_nil {X : Cx} {E : XK} : DTs X E [] eTrue := PTs.mono' pts_nil fun Z H Q ⟨G, Zd, ok, q⟩ => (show AfterT Q G H true from q) G H (.refl ok.ext)
theorem dts_one {X : Cx} {E : XK} {c : Expr} {f : DSt -> R Bool} (h : DT X E c f) : DTs X E [c] f := pts_one h
theorem RW.ok_of {α : Type} {r : R α} {a : α} {Q : α -> Prop} {E : D -> Prop} (e : r = .ok a) (h : Q a) : RW r Q E := by rw [e]; exact h
theorem bind_ok {α β : Type} {r : R α} {k : α -> R β} {b : β} (h : r.bind k = .ok b) : ∃ a, r = .ok a /\ k a = .ok b := by
  cases r with
  | ok a => exact ⟨a, rfl, h⟩
  | err e => cases h
  | bad => cases h
section
variable {X : Cx} {E : XK} {tg elt iter : Expr} {ifs : List Expr} {scope : Scope} {pos : Pos} {NY : List Str} {k : Nat} {ks : List Nat} {fi : DSt -> R (List D)} {gp : D -> R (List D)} {fc : DSt -> R Bool} {fe : DSt -> R D}
theorem subSt_setAll {k : Nat} {ks : List Nat} {Z : St} (h : ks.all (fun i => decide (i < k)) = true) (ws : List V) : SubSt (List.replicate k none ++ Z) (setAll (List.replicate k none ++ Z) ks ws) := by
  refine ⟨setAll_len _ _ _, fun j v e => ?_⟩
  rw [setAll_ne _ _ _ fun hj => ?_]
  · exact e
  · have hk : j < k := of_decide_eq_true (xa0.mp h j hj)
    rw [xbx (by simpa using hk), xck, if_pos hk] at e
    cases e
theorem tLC_of {te : TE} {tc : TT} (hk : ks.all (fun i => decide (i < k)) = true) {Z : St} {H : Hp} {Q : VK}
    (h : tFr X.K X.mg E (eLC k ks fi gp fc fe) Z H Q) : tLC k (tI X.K X.mg E fi) (tG X.K X.mg ks gp) (tT X.K X.mg E0 fc) (tE X.K X.mg E0 fe) Z H Q := by
  obtain ⟨G, Zd, ok, q⟩ := h
  refine ⟨G, Zd, ok, q.of_bind.mono (fun ds _ z J G1 H1 s1 it => ?_) fun _ z => z⟩
  cases hm : most ds.length with
  | false => rw [hm] at z; exact (show False from z).elim
  | true =>
    rw [hm] at z
    obtain ⟨tot, ht, z⟩ := noerr_ok (show RW (lcD ks gp fc fe (List.replicate k none ++ Zd) ds).noerr _ _ from z)
    have hlt : ds.length < sizeLine := of_decide_eq_true hm
    have ok1 := ok.step s1
    refine ⟨fun i m ys H' => m = ds.length - i /\ i <= ds.length /\ ∃ G' yd rest, Step G1 H1 G' H' /\ Reps X.K X.mg G' yd ys /\ yd.length <= i /\ lcD ks gp fc fe (List.replicate k none ++ Zd) (ds.drop i) = .ok rest /\ tot = yd ++ rest,
      ⟨ds.length, by simp, xcm _, G1, [], tot, .refl ok1.ext, Reps.nil, xcm _, ht, rfl⟩, ?_⟩
    rintro i m ys H' ⟨rfl, hi, G', yd, rest, s, r, hyl, hr, rfl⟩
    refine ⟨by rw [<- r.length]; omega, ?_⟩
    by_cases hlt2 : i < ds.length
    · right
      obtain ⟨d, hd⟩ : ∃ d, ds[i]? = some d := ⟨ds[i], by simp [hlt2]⟩
      obtain ⟨g1, g2⟩ := it.turn H' i d (s.g.trans s.e) hd
      have hdrop : ds.drop i = d :: ds.drop (i + 1) := by
        rw [List.drop_eq_getElem_cons hlt2]
        congr 1
        exact Option.some.inj ((xan hlt2).symm.trans hd)
      rw [hdrop] at hr
      refine ⟨g1, fun ys' H'' => ∃ G' yd rest, Step G1 H1 G' H'' /\ Reps X.K X.mg G' yd ys' /\ yd.length <= i + 1 /\ lcD ks gp fc fe (List.replicate k none ++ Zd) (ds.drop (i + 1)) = .ok rest /\ _ = yd ++ rest, fun ys' H'' h => ⟨ds.length - (i + 1), by omega, rfl, hlt2, h⟩, fun v H'' hy => ?_⟩
      obtain ⟨G2, s2, rv⟩ := g2 v H'' hy G' s.g s.e
      unfold lcD at hr
      obtain ⟨us, e1, hr⟩ := bind_ok hr
      obtain ⟨kk, e2, hr⟩ := bind_ok hr
      have s12 := s.trans s2
      have okN : Ok0 X.K X.mg (List.replicate k none ++ Zd) (List.replicate k none ++ Z) G2 H'' := (ok1.step s12).nones k
      refine ⟨G2, d, s2.e, rv, RW.ok_of e1 fun ws rws => ⟨subSt_setAll hk ws, ?_⟩⟩
      have okS := okN.setAll (ks := ks) rws
      refine ⟨G2, _, okS, RW.ok_of e2 fun G3 H3 s3 => ?_⟩
      cases kk with
      | false =>
        rw [if_neg xaw]
        exact ⟨G3, yd, rest, s12.trans s3, r.mono (s2.g.trans s3.g), by omega, hr, rfl⟩
      | true =>
        rw [if_pos rfl]
        obtain ⟨y, e3, hr⟩ := bind_ok (show (fe (setAll (List.replicate k none ++ Zd) ks us)).bind _ = _ from hr)
        obtain ⟨ys2, e4, hr⟩ := bind_ok hr
        cases hr
        refine ⟨G3, _, okS.step s3, RW.ok_of e3 fun w G4 H4 s4 r4 => ?_⟩
        exact ⟨G4, yd ++ [y], ys2, (s12.trans s3).trans s4, (r.mono ((s2.g.trans s3.g).trans s4.g)).append (Reps.cons r4 Reps.nil), by simp; omega, e4, by simp⟩
    · left
      have hi2 : i = ds.length := by omega
      subst hi2
      refine ⟨it.stop H' (s.g.trans s.e), fun Dd hD => ?_⟩
      rw [List.drop_length] at hr
      have hre : rest = [] := by unfold lcD at hr; cases hr; rfl
      subst hre
      rw [xcw] at z
      have st := (s1.trans s)
      exact z Dd ys G' _ (st.trans (.hid st.e hD)) (st.h.free hD) upd_same (st.e.free hD) r
theorem df_lc (C : X.calm = true) (lc : LC X k scope NY) (hk : ks.all (fun i => decide (i < k)) = true) (hi : DI X E tg iter fi)
    (hb : ∀ (s₀ : Shared) (H₀ : Hp) (C : Addr) (ex : List Addr), NY.Nodup -> DG (lcCx X scope NY s₀ H₀ C ex) tg ks gp /\ DTs (lcCx X scope NY s₀ H₀ C ex) E0 ifs fc /\ DE (lcCx X scope NY s₀ H₀ C ex) E0 elt fe)
    (hs : ∀ x, foldedSetIterable iter X.env x = pure x := by intro _; rfl) : DF X E (.ListComp elt [⟨tg, iter, ifs, 0⟩] scope pos) (eLC k ks fi gp fc fe) :=
  PE.mono' (pe_lc (g := tG X.K X.mg ks gp) (tc := tT X.K X.mg E0 fc) (te := tE X.K X.mg E0 fe) C lc hi (fun s0 H0 Ca ex nd => hb s0 H0 Ca ex nd) hs) fun _ _ _ h => tLC_of (te := tE X.K X.mg E0 fe) (tc := tT X.K X.mg E0 fc) hk h
end
end DL
namespace DL
open L2
mutual
def imm : D -> Bool
  | .lst _ => false
  | .dct _ _ => false
  | .tup ds => imms ds
  | .exc _ as => imms as
  | .non => true
  | .bl _ => true
  | .int _ => true
  | .str _ => true
  | .ty _ => true
  | .cls _ => true
def imms : List D -> Bool
  | [] => true
  | d :: ds => imm d && imms ds
end
def SameT (G G' : Hp) : Prop := ∀ a o, G a = some o -> (∀ xs, o ≠ .lst xs) -> G' a = some o
section
variable {K : xFg} {mg : Str -> Option Value} {G G' H H' H0 : Hp}
theorem SameT.sqT {a : Addr} {xs : List V} (e : SameT G G') (h : SqT K G a xs) : SqT K G' a xs := by
  rcases h with (h | ⟨o, h⟩) | h
  · exact .inl (.inl (e _ _ h fun xs z => by cases z))
  · exact .inl (.inr ⟨o, e _ _ h fun xs z => by cases z⟩)
  · exact .inr h
mutual
theorem Rep.imm (e : SameT G G') : ∀ {d : D} {v : V}, imm d = true -> Rep K mg G d v -> Rep K mg G' d v
  | .non, _, _, h => h
  | .bl _, _, _, h => h
  | .int _, _, _, h => h
  | .str _, _, _, h => h
  | .ty _, _, _, h => h
  | .cls _, _, _, h => h
  | .tup _, _, i, ⟨a, vs, h1, h2, h3⟩ => ⟨a, vs, h1, e.sqT h2, Reps.imm e (by unfold DL.imm at i; exact i) h3⟩
  | .lst _, _, i, _ => by unfold DL.imm at i; cases i
  | .dct _ _, _, i, _ => by unfold DL.imm at i; cases i
  | .exc _ _, _, i, ⟨x, C, dct, vs, h1, h2, h3, h4, h5⟩ => ⟨x, C, dct, vs, h1, e _ _ h2 fun xs z => (by unfold excO at z; cases z), h3, by
      rcases h4 with h | ⟨dx, v, q1, q2, q3⟩
      · exact .inl h
      · exact .inr ⟨dx, v, q1, q2, e _ _ q3 fun xs z => by cases z⟩, Reps.imm e (by unfold DL.imm at i; exact i) h5⟩
theorem Reps.imm (e : SameT G G') : ∀ {ds : List D} {vs : List V}, imms ds = true -> Reps K mg G ds vs -> Reps K mg G' ds vs
  | [], _, _, h => h
  | _ :: _, _, i, ⟨v, r, h1, h2, h3⟩ => by
    unfold imms at i
    rw [xat] at i
    exact ⟨v, r, h1, Rep.imm e i.1 h2, Reps.imm e i.2 h3⟩
end
end
structure Ok (K : xFg) (mg : Str -> Option Value) (H0 : Hp) (own : List Nat) (Zd : DSt) (Z : St) (G H : Hp) : Prop where
  ext : Same G H
  len : Zd.length = Z.length
  val : ∀ (i : Nat) (d : D), i ∉ own -> Zd[i]? = some (some d) -> ∃ v, Z[i]? = some (some v) /\ Rep K mg G d v
  mine : ∀ (i : Nat) (d : D), i ∈ own -> Zd[i]? = some (some d) -> ∃ a ds vs, Z[i]? = some (some (.ref a)) /\ d = .lst ds /\ H a = some (.lst vs) /\ G a = none /\ H0 a = none /\ Reps K mg G ds vs
  dj : ∀ (i j : Nat) (a : Addr) (d d' : D), i ∈ own -> j ∈ own -> Zd[i]? = some (some d) -> Zd[j]? = some (some d') -> Z[i]? = some (some (.ref a)) -> Z[j]? = some (some (.ref a)) -> i = j
def maskF (own : List Nat) : Nat -> DSt -> DSt
  | _, [] => []
  | i, d :: ds => (bif own.contains i then none else d) :: maskF own (i + 1) ds
def mask (own : List Nat) (Z : DSt) : DSt := maskF own 0 Z
theorem maskF_get {own : List Nat} : ∀ (Z : DSt) (k i : Nat) (d : D), (maskF own k Z)[i]? = some (some d) -> k + i ∉ own /\ Z[i]? = some (some d)
  | [], _, _, _, h => by unfold maskF at h; simp at h
  | x :: Z, k, 0, d, h => by
    unfold maskF at h
    simp only [List.getElem?_cons_zero, Option.some.injEq] at h
    cases hc : own.contains k with
    | true => rw [hc] at h; cases h
    | false =>
      rw [hc] at h
      have h' : x = some d := h
      subst h'
      exact ⟨by simpa using hc, rfl⟩
  | x :: Z, k, i + 1, d, h => by
    unfold maskF at h
    have := maskF_get Z (k + 1) i d (by simpa using h)
    rw [show k + (i + 1) = k + 1 + i by omega]
    exact ⟨this.1, by simpa using this.2⟩
theorem maskF_len {own : List Nat} : ∀ (Z : DSt) (k : Nat), (maskF own k Z).length = Z.length
  | [], _ => rfl
  | _ :: Z, k => by unfold maskF; simp [maskF_len Z]
def OwnAt (own : List Nat) (Zd : DSt) (Z : St) (b : Addr) : Prop := ∃ i d, i ∈ own /\ Zd[i]? = some (some d) /\ Z[i]? = some (some (.ref b))
open Classical in
noncomputable def pubG (own : List Nat) (Zd : DSt) (Z : St) (G H : Hp) : Hp := fun b => if OwnAt own Zd Z b then H b else G b
open Classical in
noncomputable def hideG (own : List Nat) (Zd : DSt) (Z : St) (G : Hp) : Hp := fun b => if OwnAt own Zd Z b then none else G b
section
variable {K : xFg} {mg : Str -> Option Value} {G G' G0 H H' H0 : Hp} {own : List Nat} {Zd : DSt} {Z : St}
theorem Ok.masked (o : Ok K mg H0 own Zd Z G H) : Ok0 K mg (mask own Zd) Z G H :=
  ⟨o.ext, by unfold mask; rw [maskF_len]; exact o.len, fun i d h => by
    have := maskF_get Zd 0 i d h
    rw [xbk] at this
    exact o.val i d this.1 this.2⟩
theorem Ok.zero (o : Ok0 K mg Zd Z G H) : Ok K mg H0 [] Zd Z G H :=
  ⟨o.ext, o.len, fun i d _ h => o.val i d h, fun i d h => absurd h (by simp), fun i j a d d' h => absurd h (by simp)⟩
theorem Ok.step (o : Ok K mg H0 own Zd Z G H) (s : Step G H G' H') : Ok K mg H0 own Zd Z G' H' :=
  ⟨s.e, o.len, fun i d hi h => let ⟨v, h1, h2⟩ := o.val i d hi h; ⟨v, h1, h2.mono s.g⟩, fun i d hi h => by
    obtain ⟨a, ds, vs, h1, h2, h3, h4, h5, h6⟩ := o.mine i d hi h
    exact ⟨a, ds, vs, h1, h2, s.h _ _ h3, s.c _ _ h3 h4, h5, h6.mono s.g⟩, o.dj⟩
theorem Ok.notOwn (o : Ok K mg H0 own Zd Z G H) {b : Addr} {u : HO} (h : G b = some u) : ¬ OwnAt own Zd Z b := by
  rintro ⟨i, d, h1, h2, h3⟩
  obtain ⟨a, ds, vs, q1, q2, q3, q4, _⟩ := o.mine i d h1 h2
  rw [q1] at h3
  cases h3
  rw [q4] at h; cases h
theorem Ok.ownLst (o : Ok K mg H0 own Zd Z G H) {b : Addr} (h : OwnAt own Zd Z b) : (∃ vs, H b = some (.lst vs)) /\ G b = none /\ H0 b = none := by
  obtain ⟨i, d, h1, h2, h3⟩ := h
  obtain ⟨a, ds, vs, q1, q2, q3, q4, q5, _⟩ := o.mine i d h1 h2
  rw [q1] at h3
  cases h3
  exact ⟨⟨vs, q3⟩, q4, q5⟩
theorem Ok.pub (o : Ok K mg H0 own Zd Z G H) : Ok0 K mg Zd Z (pubG own Zd Z G H) H /\ Same G (pubG own Zd Z G H) := by
  have sg : Same G (pubG own Zd Z G H) := fun b u h => by unfold pubG; rw [if_neg (o.notOwn h)]; exact h
  refine ⟨⟨fun b u h => ?_, o.len, fun i d h => ?_⟩, sg⟩
  · unfold pubG at h
    split at h
    · exact h
    · exact o.ext b u h
  · by_cases hi : i ∈ own
    · obtain ⟨a, ds, vs, q1, rfl, q3, q4, q5, q6⟩ := o.mine i d hi h
      refine ⟨_, q1, a, vs, rfl, SqL.of ?_, q6.mono sg⟩
      unfold pubG
      rw [if_pos ⟨i, _, hi, h, q1⟩]; exact q3
    · obtain ⟨v, h1, h2⟩ := o.val i d hi h
      exact ⟨v, h1, h2.mono sg⟩
theorem Ok.pubStep (o : Ok K mg H0 own Zd Z G H) (s0 : Step G0 H0 G H) : Step G0 H0 (pubG own Zd Z G H) H := by
  refine ⟨s0.g.trans o.pub.2, s0.h, o.pub.1.ext, fun b u h1 h2 => ?_⟩
  unfold pubG
  rw [if_neg fun z => by rw [(o.ownLst z).2.2] at h1; cases h1]
  exact s0.c b u h1 h2
theorem Ok.drop (o : Ok K mg H0 own Zd Z G H) (s : Same H H') : Ok K mg H0 own Zd Z G H' :=
  o.step (.heap o.ext s)
theorem Ok.hide (o : Ok K mg H0 own Zd Z G H) (s : Step (pubG own Zd Z G H) H G' H') : Step G H (hideG own Zd Z G') H' /\ SameT G' (hideG own Zd Z G') := by
  refine ⟨⟨fun b u h => ?_, s.h, fun b u h => ?_, fun b u h1 h2 => ?_⟩, fun b u h1 h2 => ?_⟩
  · unfold hideG
    rw [if_neg (o.notOwn h)]
    exact s.g b u (o.pub.2 b u h)
  · unfold hideG at h
    split at h
    · cases h
    · exact s.e b u h
  · unfold hideG
    split
    · rfl
    · rename_i n
      refine s.c b u h1 ?_
      unfold pubG
      rw [if_neg n]; exact h2
  · unfold hideG
    rw [if_neg fun z => ?_]
    · exact h1
    · obtain ⟨⟨vs, q⟩, _⟩ := o.ownLst z
      have : pubG own Zd Z G H b = some (.lst vs) := by unfold pubG; rw [if_pos z]; exact q
      have := s.g b _ this
      rw [h1] at this; cases this
      exact h2 vs rfl
theorem get_set_self {α : Type} {l : List (Option α)} {i : Nat} {x d : α} (h : (l.set i (some x))[i]? = some (some d)) : d = x /\ i < l.length := by
  have hl : i < l.length := by have := (xae.mp h).1; simpa using this
  rw [xal hl] at h
  cases h
  exact ⟨rfl, hl⟩
theorem Ok.set {i : Nat} {d : D} {v : V} (o : Ok K mg H0 own Zd Z G H) (hi : i ∉ own) (h : Rep K mg G d v) : Ok K mg H0 own (Zd.set i (some d)) (Z.set i (some v)) G H := by
  have ne : ∀ {j : Nat}, j ∈ own -> j ≠ i := fun hj z => hi (z ▸ hj)
  refine ⟨o.ext, by simp [o.len], fun j e hj q => ?_, fun j e hj q => ?_, fun j k a d1 d2 h1 h2 h3 h4 h5 h6 => ?_⟩
  · by_cases hji : j = i
    · subst hji
      obtain ⟨rfl, hl⟩ := get_set_self q
      exact ⟨v, by rw [xal (by rw [<- o.len]; exact hl)], h⟩
    · rw [xaa (xas hji)] at q ⊢
      exact o.val j e hj q
  · rw [xaa (xas (ne hj))] at q ⊢
    exact o.mine j e hj q
  · rw [xaa (xas (ne h1))] at h3 h5
    rw [xaa (xas (ne h2))] at h4 h6
    exact o.dj j k a d1 d2 h1 h2 h3 h4 h5 h6
theorem Ok.setAll : ∀ {ks : List Nat} {us : List D} {ws : List V} {Zd : DSt} {Z : St}, Ok K mg H0 own Zd Z G H -> (∀ k ∈ ks, k ∉ own) -> Reps K mg G us ws -> Ok K mg H0 own (DL.setAll Zd ks us) (DL.setAll Z ks ws) G H
  | [], _, _, _, _, o, _, _ => by unfold DL.setAll; exact o
  | _ :: _, [], _, _, _, o, _, h => by cases h; unfold DL.setAll; exact o
  | k :: ks, _ :: _, _, _, _, o, hk, ⟨v, r, h1, h2, h3⟩ => by
    subst h1; unfold DL.setAll
    exact Ok.setAll (o.set (hk k xam) h2) (fun j hj => hk j (xaf _ hj)) h3
theorem Ok.new {i : Nat} {ds : List D} {vs : List V} {a : Addr} {own' : List Nat} (o : Ok K mg H0 own Zd Z G H) (s : Step G H G' H') (n : H a = none) (e : H' a = some (.lst vs)) (g : G' a = none) (n0 : H0 a = none) (r : Reps K mg G' ds vs)
    (hown : ∀ j, j ∈ own' ↔ j = i \/ j ∈ own) : Ok K mg H0 own' (Zd.set i (some (.lst ds))) (Z.set i (some (.ref a))) G' H' := by
  have o' := o.step s
  have away : ∀ {j : Nat} {d : D}, j ∈ own -> j ≠ i -> Zd[j]? = some (some d) -> Z[j]? = some (some (.ref a)) -> False := fun {j d} hj _ hd hs => by
    obtain ⟨b, _, _, q1, _, q3, _⟩ := o.mine j d hj hd
    rw [q1] at hs; cases hs
    rw [n] at q3; cases q3
  refine ⟨o'.ext, by simp [o.len], fun j d hj q => ?_, fun j d hj q => ?_, fun j k b d1 d2 h1 h2 h3 h4 h5 h6 => ?_⟩
  · have hji : j ≠ i := fun z => hj ((hown j).mpr (.inl z))
    rw [xaa (xas hji)] at q ⊢
    exact o'.val j d (fun z => hj ((hown j).mpr (.inr z))) q
  · by_cases hji : j = i
    · subst hji
      obtain ⟨rfl, hl⟩ := get_set_self q
      exact ⟨a, ds, vs, by rw [xal (by rw [<- o.len]; exact hl)], rfl, e, g, n0, r⟩
    · rw [xaa (xas hji)] at q ⊢
      exact o'.mine j d (((hown j).mp hj).resolve_left hji) q
  · by_cases hji : j = i
    · by_cases hki : k = i
      · rw [hji, hki]
      · subst hji
        obtain ⟨rfl, hl⟩ := get_set_self h3
        rw [xal (by rw [<- o.len]; exact hl)] at h5
        cases h5
        rw [xaa (xas hki)] at h4 h6
        exact (away (((hown k).mp h2).resolve_left hki) hki h4 h6).elim
    · by_cases hki : k = i
      · subst hki
        obtain ⟨rfl, hl⟩ := get_set_self h4
        rw [xal (by rw [<- o.len]; exact hl)] at h6
        cases h6
        rw [xaa (xas hji)] at h3 h5
        exact (away (((hown j).mp h1).resolve_left hji) hji h3 h5).elim
      · rw [xaa (xas hji)] at h3 h5
        rw [xaa (xas hki)] at h4 h6
        exact o.dj j k b d1 d2 (((hown j).mp h1).resolve_left hji) (((hown k).mp h2).resolve_left hki) h3 h4 h5 h6
theorem Ok.write {i : Nat} {d : D} {ds : List D} {vs : List V} {a : Addr} (o : Ok K mg H0 own Zd Z G H) (hi : i ∈ own) (hd : Zd[i]? = some (some d)) (ha : Z[i]? = some (some (.ref a))) (r : Reps K mg G ds vs) :
    Ok K mg H0 own (Zd.set i (some (.lst ds))) Z G (upd H a (.lst vs)) := by
  obtain ⟨b, ds0, vs0, q1, q2, q3, q4, q5, q6⟩ := o.mine i d hi hd
  rw [ha] at q1; cases q1
  have hl : i < Zd.length := (xae.mp hd).1
  refine ⟨fun b u h => ?_, by simp [o.len], fun j e hj q => ?_, fun j e hj q => ?_, fun j k b d1 d2 h1 h2 h3 h4 h5 h6 => ?_⟩
  · rw [upd_ne (ne_of_none h q4)]; exact o.ext b u h
  · have hji : j ≠ i := fun z => hj (z ▸ hi)
    rw [xaa (xas hji)] at q
    exact o.val j e hj q
  · by_cases hji : j = i
    · subst hji
      obtain ⟨rfl, _⟩ := get_set_self q
      exact ⟨a, ds, vs, ha, rfl, upd_same, q4, q5, r⟩
    · rw [xaa (xas hji)] at q
      obtain ⟨c, es, ws, p1, p2, p3, p4⟩ := o.mine j e hj q
      have hc : c ≠ a := fun z => by subst z; exact hji (o.dj j i c e d hj hi q hd p1 ha)
      exact ⟨c, es, ws, p1, p2, by rw [upd_ne hc]; exact p3, p4⟩
  · have back : ∀ {j : Nat} {e : D}, (Zd.set i (some (.lst ds)))[j]? = some (some e) -> ∃ e', Zd[j]? = some (some e') := fun {j e} q => by
      by_cases hji : j = i
      · exact ⟨d, hji ▸ hd⟩
      · rw [xaa (xas hji)] at q; exact ⟨e, q⟩
    obtain ⟨e1, h3⟩ := back h3
    obtain ⟨e2, h4⟩ := back h4
    exact o.dj j k b e1 e2 h1 h2 h3 h4 h5 h6
theorem Step.write {a : Addr} {o u : HO} (s0 : Step G0 H0 G H) (n : H0 a = none) (g : G a = none) : Step G0 H0 G (upd H a u) :=
  ⟨s0.g, fun b v h => by rw [upd_ne (ne_of_none h n)]; exact s0.h b v h, fun b v h => by rw [upd_ne (ne_of_none h g)]; exact s0.e b v h, s0.c⟩
theorem Ok.release {i : Nat} {own' : List Nat} (o : Ok K mg H0 own Zd Z G H) (s0 : Step G0 H0 G H) (hi : i ∈ own) (hown : ∀ j, j ∈ own' ↔ j ≠ i /\ j ∈ own) : ∃ G', Ok K mg H0 own' Zd Z G' H /\ Step G0 H0 G' H /\ Same G G' := by
  by_cases hb : ∃ d, Zd[i]? = some (some d)
  · obtain ⟨d, hd⟩ := hb
    obtain ⟨a, ds, vs, q1, rfl, q3, q4, q5, q6⟩ := o.mine i d hi hd
    have sg : Same G (upd G a (.lst vs)) := same_upd q4
    have eh : Same (upd G a (.lst vs)) H := fun b u h => by
      by_cases hb : b = a
      · subst hb; rw [upd_same] at h; cases h; exact q3
      · rw [upd_ne hb] at h; exact o.ext b u h
    refine ⟨upd G a (.lst vs), ⟨eh, o.len, fun j e hj q => ?_, fun j e hj q => ?_, fun j k b d1 d2 h1 h2 h3 h4 h5 h6 => ?_⟩, ⟨s0.g.trans sg, s0.h, eh, fun b u h1 h2 => ?_⟩, sg⟩
    · by_cases hji : j = i
      · subst hji
        rw [hd] at q; cases q
        exact ⟨_, q1, a, vs, rfl, SqL.of upd_same, q6.mono sg⟩
      · obtain ⟨v, h1, h2⟩ := o.val j e (fun z => hj ((hown j).mpr ⟨hji, z⟩)) q
        exact ⟨v, h1, h2.mono sg⟩
    · obtain ⟨hji, hj'⟩ := (hown j).mp hj
      obtain ⟨c, es, ws, p1, p2, p3, p4, p5, p6⟩ := o.mine j e hj' q
      have hc : c ≠ a := fun z => by subst z; exact hji (o.dj j i c e _ hj' hi q hd p1 q1)
      exact ⟨c, es, ws, p1, p2, p3, by rw [upd_ne hc]; exact p4, p5, p6.mono sg⟩
    · exact o.dj j k b d1 d2 ((hown j).mp h1).2 ((hown k).mp h2).2 h3 h4 h5 h6
    · rw [upd_ne (ne_of_none h1 q5)]; exact s0.c b u h1 h2
  · refine ⟨G, ⟨o.ext, o.len, fun j e hj q => ?_, fun j e hj q => o.mine j e ((hown j).mp hj).2 q, fun j k b d1 d2 h1 h2 => o.dj j k b d1 d2 ((hown j).mp h1).2 ((hown k).mp h2).2⟩, s0, Same.refl _⟩
    have hji : j ≠ i := fun z => hb ⟨e, z ▸ q⟩
    exact o.val j e (fun z => hj ((hown j).mpr ⟨hji, z⟩)) q
end
inductive Out where
  | nx (Z : DSt) | rt (d : D) | bk (Z : DSt) | ct (Z : DSt) | rf (ds : List D)
section
variable (K : xFg) (mg : Str -> Option Value) (E : XK)
def OutW (G0 H0 : Hp) (own' ol : List Nat) (Dn : Ends) (G : Hp) : Out -> Prop
  | .nx Zd' => ∀ Z' G' H', Ok K mg H0 own' Zd' Z' G' H' -> Step G0 H0 G' H' -> Same G G' -> Dn.nx Z' H'
  | .bk Zd' => ∀ Z' G' H', Ok K mg H0 ol Zd' Z' G' H' -> Step G0 H0 G' H' -> Same G G' -> Dn.bk Z' H'
  | .ct Zd' => ∀ Z' G' H', Ok K mg H0 ol Zd' Z' G' H' -> Step G0 H0 G' H' -> Same G G' -> Dn.ct Z' H'
  | .rt d => ∀ v G' H', Step G0 H0 G' H' -> Rep K mg G' d v -> Dn.rt v H'
  | .rf ds => ∀ a vs G' H', Step G0 H0 G' H' -> H0 a = none -> H' a = some (.lst vs) -> G' a = none -> Reps K mg G' ds vs -> Dn.rt (.ref a) H'
def tS (G0 H0 : Hp) (own own' ol : List Nat) (f : DSt -> R Out) : TS := fun Dn Z H => ∃ G Zd, Ok K mg H0 own Zd Z G H /\ Step G0 H0 G H /\ RW (f Zd) (OutW K mg G0 H0 own' ol Dn G) (AfterX K mg E G0 H0)
end
theorem OutW.shift {K : xFg} {mg : Str -> Option Value} {G0 H0 G G' : Hp} {own' ol : List Nat} {Dn : Ends} (s : Same G G') {o : Out} (h : OutW K mg G0 H0 own' ol Dn G o) : OutW K mg G0 H0 own' ol Dn G' o := by
  cases o with
  | nx _ => exact fun a b c d e f => h a b c d e (s.trans f)
  | bk _ => exact fun a b c d e f => h a b c d e (s.trans f)
  | ct _ => exact fun a b c d e f => h a b c d e (s.trans f)
  | rt _ => exact h
  | rf _ => exact h
def DS (X : Cx) (E : XK) (own own' ol : List Nat) (st : Stmt) (f : DSt -> R Out) : Prop := ∀ G0, PS X st (tS X.K X.mg E G0 X.H₀ own own' ol f)
def DSs (X : Cx) (E : XK) (own own' ol : List Nat) (st : List Stmt) (f : DSt -> R Out) : Prop := ∀ G0, PSs X st (tS X.K X.mg E G0 X.H₀ own own' ol f)
def sSeq (f g : DSt -> R Out) : DSt -> R Out := fun Z => (f Z).bind fun o => match o with
  | .nx Z' => g Z'
  | o => .ok o
def sNext : DSt -> R Out := fun Z => .ok (.nx Z)
section
variable {X : Cx} {E : XK} {own own1 own2 own' ol : List Nat} {st : Stmt} {rest : List Stmt} {f g : DSt -> R Out} {pos : Pos}
theorem dss_nil : DSs X E own own ol [] sNext := fun G0 => PSs.mono' pss_nil fun Dn Z H ⟨G, Zd, ok, s0, q⟩ => (show OutW X.K X.mg G0 X.H₀ own ol Dn G (.nx Zd) from q) Z G H ok s0 (Same.refl _)
theorem dss_cons (h1 : DS X E own own1 ol st f) (h2 : DSs X E own1 own2 ol rest g) : DSs X E own own2 ol (st :: rest) (sSeq f g) := fun G0 => PSs.mono' (pss_cons (h1 G0) (h2 G0)) fun Dn Z H ⟨G, Zd, ok, s0, q⟩ => by
  refine ⟨G, Zd, ok, s0, q.of_bind.mono (fun o _ z => ?_) fun _ z => z⟩
  cases o with
  | nx Z1 =>
    intro Z' G' H' ok' s' e'
    exact ⟨G', Z1, ok', s', (show RW (g Z1) _ _ from z).mono (fun o _ z => z.shift e') fun _ z => z⟩
  | rt d => exact z
  | rf d => exact z
  | bk d => exact z
  | ct d => exact z
theorem dss_one (h1 : DS X E own own1 ol st f) : DSs X E own own1 ol [st] f := fun G0 => pss_one (h1 G0)
theorem dss_rel (i : Nat) (hi : own.contains i = true) (ho : own' = own.filter fun j => j != i) (h : DSs X E own' own2 ol rest g) : DSs X E own own2 ol rest g := fun G0 => PSs.mono' (h G0) fun Dn Z H ⟨G, Zd, ok, s0, q⟩ => by
  obtain ⟨G', ok', s', e'⟩ := ok.release (i := i) (own' := own') s0 (by simpa using hi) fun j => by subst ho; simp [and_comm]
  exact ⟨G', Zd, ok', s', q.mono (fun o _ z => z.shift e') fun _ z => z⟩
theorem ds_bad : DS X E own own' ol st eBad := fun G0 => PS.mono' ps_never fun Dn Z H ⟨G, Zd, ok, s0, q⟩ => q
def sRet (fe : DSt -> R D) : DSt -> R Out := fun Z => (fe Z).bind fun d => .ok (.rt d)
theorem ds_ret {e : Expr} {fe : DSt -> R D} (h : DE X E e fe) : DS X E own own' ol (.Return (some e) pos) (sRet fe) := fun G0 => PS.mono' (ps_ret h) fun Dn Z H ⟨G, Zd, ok, s0, q⟩ => by
  have s1 := ok.pubStep s0
  exact ⟨_, Zd, ok.pub.1, q.of_bind.mono (fun d _ z v G' H' s r => (show OutW X.K X.mg G0 X.H₀ own' ol Dn G (.rt d) from z) v G' H' (s1.trans s) r) fun _ z => z.step s1⟩
def sIf (c : DSt -> R Bool) (f g : DSt -> R Out) : DSt -> R Out := fun Z => (c Z).bind fun k => bif k then f Z else g Z
theorem ds_if {c : Expr} {a b : List Stmt} {fc : DSt -> R Bool} (hc : DT X E c fc) (ha : DSs X E own own' ol a f) (hb : DSs X E own own' ol b g) : DS X E own own' ol (.If c a b pos) (sIf fc f g) := fun G0 =>
  PS.mono' (ps_if hc (ha G0) (hb G0)) fun Dn Z H ⟨G, Zd, ok, s0, q⟩ => by
  have s1 := ok.pubStep s0
  refine ⟨_, Zd, ok.pub.1, q.of_bind.mono (fun k _ z G' H' s => ?_) fun _ z => z.step s1⟩
  have ok' := ok.drop s.h
  have s' : Step G0 X.H₀ G H' := s0.trans (.heap ok.ext s.h)
  cases k with
  | true => exact iteT ⟨G, Zd, ok', s', z⟩
  | false => exact iteF ⟨G, Zd, ok', s', z⟩
def sExpr (fe : DSt -> R D) : DSt -> R Out := fun Z => (fe Z).bind fun _ => .ok (.nx Z)
theorem ds_expr {e : Expr} {fe : DSt -> R D} (h : DE X E e fe) (hs : swapsWith e none pos.line X.env = pure false := by rfl) : DS X E own own ol (.Expr e pos) (sExpr fe) := fun G0 => PS.mono' (ps_expr h hs) fun Dn Z H ⟨G, Zd, ok, s0, q⟩ => by
  have s1 := ok.pubStep s0
  refine ⟨_, Zd, ok.pub.1, q.of_bind.mono (fun d _ z v G' H' s r => ?_) fun _ z => z.step s1⟩
  exact (show OutW X.K X.mg G0 X.H₀ own ol Dn G (.nx Zd) from z) Z G H' (ok.drop s.h) (s0.trans (.heap ok.ext s.h)) (Same.refl _)
def sSet (own : List Nat) (i : Nat) (fe : DSt -> R D) : DSt -> R Out := fun Z => (fe (mask own Z)).bind fun d => .ok (.nx (Z.set i (some d)))
def sSet0 (i : Nat) (fe : DSt -> R D) : DSt -> R Out := fun Z => (fe Z).bind fun d => .ok (.nx (Z.set i (some d)))
def sSetP (i : Nat) (fe : DSt -> R D) : DSt -> R Out := fun Z => (fe Z).bind fun d => bif imm d then .ok (.nx (Z.set i (some d))) else .bad
theorem mem_of {own : List Nat} {i : Nat} (h : own.contains i = false) : i ∉ own := by simpa using h
theorem mask_nil (Z : DSt) : mask [] Z = Z := by
  have : ∀ (Z : DSt) (k : Nat), maskF [] k Z = Z := fun Z => by
    induction Z with
    | nil => intro k; rfl
    | cons d ds ih => intro k; unfold maskF; rw [ih]; rfl
  exact this Z 0
theorem asgV {te : TE} {fe : DSt -> R D} {i : Nat} {G0 : Hp} (h : ∀ Z H Q, tE X.K X.mg E fe Z H Q -> te Z H Q) (ho : own.contains i = false) {Dn : Ends} {Z : St} {H : Hp} (q : tS X.K X.mg E G0 X.H₀ own own ol (sSet own i fe) Dn Z H) : tAsg te (gName i) Dn Z H := by
  obtain ⟨G, Zd, ok, s0, q⟩ := q
  refine h Z H _ ⟨G, mask own Zd, ok.masked, q.of_bind.mono (fun d _ z v G' H' s r => ?_) fun _ z => z.step s0⟩
  exact (show OutW X.K X.mg G0 X.H₀ own ol Dn G (.nx (Zd.set i (some d))) from z) _ G' H' ((ok.step s).set (mem_of ho) r) (s0.trans s) s.g
theorem asgP {te : TE} {fe : DSt -> R D} {i : Nat} {G0 : Hp} (h : ∀ Z H Q, tE X.K X.mg E fe Z H Q -> te Z H Q) (ho : own.contains i = false) {Dn : Ends} {Z : St} {H : Hp} (q : tS X.K X.mg E G0 X.H₀ own own ol (sSetP i fe) Dn Z H) : tAsg te (gName i) Dn Z H := by
  obtain ⟨G, Zd, ok, s0, q⟩ := q
  have s1 := ok.pubStep s0
  refine h Z H _ ⟨_, Zd, ok.pub.1, q.of_bind.mono (fun d _ z v G' H' s r => ?_) fun _ z => z.step s1⟩
  cases hd : imm d with
  | false => rw [hd] at z; exact (show False from z).elim
  | true =>
    rw [hd] at z
    obtain ⟨st, sT⟩ := ok.hide s
    exact (show OutW X.K X.mg G0 X.H₀ own ol Dn G (.nx (Zd.set i (some d))) from z) _ _ H' ((ok.step st).set (mem_of ho) (r.imm sT hd)) (s0.trans st) st.g
def sNew (own : List Nat) (i : Nat) (fe : DSt -> R (List D)) : DSt -> R Out := fun Z => (fe (mask own Z)).bind fun ds => .ok (.nx (Z.set i (some (.lst ds))))
def sNewP (i : Nat) (fe : DSt -> R (List D)) : DSt -> R Out := fun Z => (fe Z).bind fun ds => bif imms ds then .ok (.nx (Z.set i (some (.lst ds)))) else .bad
def ownWith (own : List Nat) (i : Nat) : List Nat := if own.contains i then own else i :: own
theorem mem_ownWith {own : List Nat} {i j : Nat} : j ∈ ownWith own i ↔ j = i \/ j ∈ own := by
  unfold ownWith
  split
  · rename_i h
    have hi : i ∈ own := by simpa using h
    exact ⟨.inr, fun h => h.elim (fun e => e ▸ hi) id⟩
  · simp
theorem asgN {te : TE} {fe : DSt -> R (List D)} {i : Nat} {G0 : Hp} (h : ∀ Z H Q, tFr X.K X.mg E fe Z H Q -> te Z H Q) {Dn : Ends} {Z : St} {H : Hp} (q : tS X.K X.mg E G0 X.H₀ own (ownWith own i) ol (sNew own i fe) Dn Z H) : tAsg te (gName i) Dn Z H := by
  obtain ⟨G, Zd, ok, s0, q⟩ := q
  refine h Z H _ ⟨G, mask own Zd, ok.masked, q.of_bind.mono (fun ds _ z a vs G' H' s n e g r => ?_) fun _ z => z.step s0⟩
  exact (show OutW X.K X.mg G0 X.H₀ (ownWith own i) ol Dn G (.nx (Zd.set i (some (.lst ds)))) from z) _ G' H' (ok.new s n e g (s0.h.free n) r fun j => mem_ownWith) (s0.trans s) s.g
theorem asgNP {te : TE} {fe : DSt -> R (List D)} {i : Nat} {G0 : Hp} (h : ∀ Z H Q, tFr X.K X.mg E fe Z H Q -> te Z H Q) {Dn : Ends} {Z : St} {H : Hp} (q : tS X.K X.mg E G0 X.H₀ own (ownWith own i) ol (sNewP i fe) Dn Z H) : tAsg te (gName i) Dn Z H := by
  obtain ⟨G, Zd, ok, s0, q⟩ := q
  have s1 := ok.pubStep s0
  refine h Z H _ ⟨_, Zd, ok.pub.1, q.of_bind.mono (fun ds _ z a vs G' H' s n e g r => ?_) fun _ z => z.step s1⟩
  cases hd : imms ds with
  | false => rw [hd] at z; exact (show False from z).elim
  | true =>
    rw [hd] at z
    obtain ⟨st, sT⟩ := ok.hide s
    have g' : hideG own Zd Z G' a = none := by unfold hideG; split <;> first | rfl | exact g
    exact (show OutW X.K X.mg G0 X.H₀ (ownWith own i) ol Dn G (.nx (Zd.set i (some (.lst ds)))) from z) _ _ H' (ok.new st n e g' (s0.h.free n) (r.imm sT hd) fun j => mem_ownWith) (s0.trans st) st.g
variable {i : Nat} {x : Str} {e : Expr} {pos' : Pos} {fe : DSt -> R D} {fl : DSt -> R (List D)}
theorem ds_set (i : Nat) (hN : X.N.Nodup) (he : DE X E e fe) (ho : own.contains i = false := by rfl) (hi : X.N[i]? = some x := by rfl) (hx : Loc X.env.scope x := by first | exact Or.inl rfl | exact Or.inr rfl) (hs : swapsWith e (some (.Name x pos')) pos.line X.env = pure false := by rfl)
    (hf : X.fn x = true \/ X.env.scope.names.lookup x = some .local := by first | exact .inl rfl | exact .inr rfl | assumption) : DS X E own own ol (.Assign [.Name x pos'] e pos) (sSet own i fe) := fun G0 =>
  PS.mono' (ps_set hN hi hx he hs hf) fun Dn Z H q => asgV (fun _ _ _ z => z) ho q
theorem ds_set0 (i : Nat) (hN : X.N.Nodup) (he : DE X E e fe) (hi : X.N[i]? = some x := by rfl) (hx : Loc X.env.scope x := by first | exact Or.inl rfl | exact Or.inr rfl) (hs : swapsWith e (some (.Name x pos')) pos.line X.env = pure false := by rfl)
    (hf : X.fn x = true \/ X.env.scope.names.lookup x = some .local := by first | exact .inl rfl | exact .inr rfl | assumption) : DS X E [] [] ol (.Assign [.Name x pos'] e pos) (sSet0 i fe) := fun G0 => by
  have : sSet0 i fe = sSet [] i fe := by funext Z; unfold sSet0 sSet; rw [mask_nil]
  rw [this]
  exact PS.mono' (ps_set hN hi hx he hs hf) fun Dn Z H q => asgV (fun _ _ _ z => z) rfl q
theorem ds_setP (i : Nat) (hN : X.N.Nodup) (he : DE X E e fe) (ho : own.contains i = false := by rfl) (hi : X.N[i]? = some x := by rfl) (hx : Loc X.env.scope x := by first | exact Or.inl rfl | exact Or.inr rfl) (hs : swapsWith e (some (.Name x pos')) pos.line X.env = pure false := by rfl)
    (hf : X.fn x = true \/ X.env.scope.names.lookup x = some .local := by first | exact .inl rfl | exact .inr rfl | assumption) : DS X E own own ol (.Assign [.Name x pos'] e pos) (sSetP i fe) := fun G0 =>
  PS.mono' (ps_set hN hi hx he hs hf) fun Dn Z H q => asgP (fun _ _ _ z => z) ho q
theorem ds_new (i : Nat) (hN : X.N.Nodup) (he : DF X E e fl) (hw : own' = ownWith own i := by rfl) (hi : X.N[i]? = some x := by rfl) (hx : Loc X.env.scope x := by first | exact Or.inl rfl | exact Or.inr rfl) (hs : swapsWith e (some (.Name x pos')) pos.line X.env = pure false := by rfl)
    (hf : X.fn x = true \/ X.env.scope.names.lookup x = some .local := by first | exact .inl rfl | exact .inr rfl | assumption) : DS X E own own' ol (.Assign [.Name x pos'] e pos) (sNew own i fl) := fun G0 => by
  subst hw; exact PS.mono' (ps_set hN hi hx he hs hf) fun Dn Z H q => asgN (fun _ _ _ z => z) q
theorem ds_newP (i : Nat) (hN : X.N.Nodup) (he : DF X E e fl) (hw : own' = ownWith own i := by rfl) (hi : X.N[i]? = some x := by rfl) (hx : Loc X.env.scope x := by first | exact Or.inl rfl | exact Or.inr rfl) (hs : swapsWith e (some (.Name x pos')) pos.line X.env = pure false := by rfl)
    (hf : X.fn x = true \/ X.env.scope.names.lookup x = some .local := by first | exact .inl rfl | exact .inr rfl | assumption) : DS X E own own' ol (.Assign [.Name x pos'] e pos) (sNewP i fl) := fun G0 => by
  subst hw; exact PS.mono' (ps_set hN hi hx he hs hf) fun Dn Z H q => asgNP (fun _ _ _ z => z) q
theorem tFr_tE {te : TE} (h : ∀ Z H Q, tFr X.K X.mg E fl Z H Q -> te Z H Q) : ∀ Z H Q, tE X.K X.mg E (fun Z => (fl Z).bind fun ds => .ok (.lst ds)) Z H Q -> te Z H Q := fun Z H Q ⟨G, Zd, ok, q⟩ => by
  refine h Z H Q ⟨G, Zd, ok, q.of_bind.mono (fun ds _ q => ?_) fun _ z => z⟩
  intro a vs G' H' s n e g r
  have q' : After X.K X.mg Q G H (.lst ds) := q
  have sg : Same G' (upd G' a (.lst vs)) := same_upd g
  refine q' (.ref a) (upd G' a (.lst vs)) H' ⟨s.g.trans sg, s.h, fun b u p => ?_, fun b u p1 p2 => ?_⟩ ⟨a, vs, rfl, SqL.of upd_same, r.mono sg⟩
  · by_cases hb : b = a
    · subst hb; rw [upd_same] at p; cases p; exact e
    · rw [upd_ne hb] at p; exact s.e b u p
  · have hb : b ≠ a := ne_of_none p1 n
    rw [upd_ne hb]; exact s.c b u p1 p2
def vLst (fl : DSt -> R (List D)) : DSt -> R D := fun Z => (fl Z).bind fun ds => .ok (.lst ds)
theorem DF.val (h : DF X E e fl) : DE X E e (vLst fl) := h.de
variable {tg elt iter : Expr} {ifs : List Expr} {scope : Scope} {NY : List Str} {k : Nat} {ks : List Nat} {fi : DSt -> R (List D)} {gp : D -> R (List D)} {fc : DSt -> R Bool} {lpos : Pos}
theorem ps_lcD (i : Nat) (C : X.calm = true) (hN : X.N.Nodup) (hi' : X.N[i]? = some x) (hy : X.env.kindOf x = some .local) (lc : LC X k scope NY) (hi : DI X E tg iter fi)
    (hb : ∀ (s₀ : Shared) (H₀ : Hp) (C : Addr) (ex : List Addr), NY.Nodup -> DG (lcCx X scope NY s₀ H₀ C ex) tg ks gp /\ DTs (lcCx X scope NY s₀ H₀ C ex) E0 ifs fc /\ DE (lcCx X scope NY s₀ H₀ C ex) E0 elt fe)
    (hsw : swapsWith (.ListComp elt [⟨tg, iter, ifs, 0⟩] scope lpos) (some (.Name x pos')) pos.line X.env = pure true)
    (hs : ∀ x, foldedSetIterable iter X.env x = pure x) : PS X (.Assign [.Name x pos'] (.ListComp elt [⟨tg, iter, ifs, 0⟩] scope lpos) pos) (tAsg (tLC k (tI X.K X.mg E fi) (tG X.K X.mg ks gp) (tT X.K X.mg E0 fc) (tE X.K X.mg E0 fe)) (gName i)) :=
  ps_lc (g := tG X.K X.mg ks gp) (tc := tT X.K X.mg E0 fc) (te := tE X.K X.mg E0 fe) C hN hi' hy lc hi (fun s0 H0 Ca ex nd => hb s0 H0 Ca ex nd) hsw hs
theorem ds_setLC (i : Nat) (C : X.calm = true) (hN : X.N.Nodup) (lc : LC X k scope NY) (hk : ks.all (fun i => decide (i < k)) = true) (hi : DI X E tg iter fi)
    (hb : ∀ (s₀ : Shared) (H₀ : Hp) (C : Addr) (ex : List Addr), NY.Nodup -> DG (lcCx X scope NY s₀ H₀ C ex) tg ks gp /\ DTs (lcCx X scope NY s₀ H₀ C ex) E0 ifs fc /\ DE (lcCx X scope NY s₀ H₀ C ex) E0 elt fe)
    (ho : own.contains i = false := by rfl) (hi' : X.N[i]? = some x := by rfl) (hy : X.env.kindOf x = some .local := by rfl)
    (hsw : swapsWith (.ListComp elt [⟨tg, iter, ifs, 0⟩] scope lpos) (some (.Name x pos')) pos.line X.env = pure true := by rfl)
    (hs : ∀ x, foldedSetIterable iter X.env x = pure x := by intro _; rfl) : DS X E own own ol (.Assign [.Name x pos'] (.ListComp elt [⟨tg, iter, ifs, 0⟩] scope lpos) pos) (sSet own i (vLst (eLC k ks fi gp fc fe))) := fun G0 =>
  PS.mono' (ps_lcD i C hN hi' hy lc hi hb hsw hs) fun Dn Z H q => asgV (tFr_tE fun _ _ _ h => tLC_of (te := tE X.K X.mg E0 fe) (tc := tT X.K X.mg E0 fc) hk h) ho q
def sAsg (own : List Nat) (ks : List Nat) (gp : D -> R (List D)) (fe : DSt -> R D) : DSt -> R Out := fun Z => (fe (mask own Z)).bind fun d => (gp d).noerr.bind fun us => .ok (.nx (setAll Z ks us))
theorem ds_asg (he : DE X E e fe) (hg : DG X tg ks gp) (ho : ks.all (fun i => !own.contains i) = true := by rfl) (hs : swapsWithSole [tg] e pos.line X.env = pure false := by rfl) (hw : swappedStores [tg] e X.env = pure none := by rfl)
    (h1 : (assignEach [tg] X.env).map (·.2) = [assign tg X.env] := by rfl) : DS X E own own ol (.Assign [tg] e pos) (sAsg own ks gp fe) := fun G0 => PS.mono' (ps_asg he hg hs hw h1) fun Dn Z H ⟨G, Zd, ok, s0, q⟩ => by
  refine ⟨G, mask own Zd, ok.masked, q.of_bind.mono (fun d _ z v G' H' s r => ?_) fun _ z => z.step s0⟩
  obtain ⟨us, e1, z⟩ := noerr_ok z.of_bind
  refine ⟨G', d, s.e, r, RW.ok_of e1 fun ws rw' => ?_⟩
  refine (show OutW X.K X.mg G0 X.H₀ own ol Dn G (.nx (setAll Zd ks us)) from z) _ G' H' ((ok.step s).setAll (fun k hk => ?_) rw') (s0.trans s) s.g
  simpa using xa0.mp ho k hk
def sPar (own : List Nat) (i j : Nat) (fs : DSt -> R (List D)) : DSt -> R Out := fun Z => (fs (mask own Z)).bind fun ds => match ds with
  | [a, b] => .ok (.nx ((Z.set i (some a)).set j (some b)))
  | _ => .bad
theorem ds_par (i j : Nat) {x y : Str} {a b : Expr} {fs : DSt -> R (List D)} {px py pt : Pos} {kt k2 pt2} (hc : X.calm = true) (hN : X.N.Nodup) (ha : DA X E [a, b] fs) (hij : i ≠ j := by decide) (ho : (own.contains i || own.contains j) = false := by rfl) (hi : X.N[i]? = some x := by rfl) (hj : X.N[j]? = some y := by rfl)
    (hx : X.env.scope.names.lookup x = some .local := by rfl) (hy : X.env.scope.names.lookup y = some .local := by rfl)
    (hw : swappedStores [.Tuple [.Name x px, .Name y py] kt pt] (.Tuple [a, b] k2 pt2) X.env = pure (some [x, y]) := by rfl)
    (hs : swapsWithSole [.Tuple [.Name x px, .Name y py] kt pt] (.Tuple [a, b] k2 pt2) pos.line X.env = pure false := by rfl) : DS X E own own ol (.Assign [.Tuple [.Name x px, .Name y py] kt pt] (.Tuple [a, b] k2 pt2) pos) (sPar own i j fs) := fun G0 =>
  PS.mono' (ps_par hc hN hi hj hij hx hy ha hw hs) fun Dn Z H ⟨G, Zd, ok, s0, q⟩ => by
  refine ⟨G, mask own Zd, ok.masked, q.of_bind.mono (fun ds _ z vs G' H' s r => ?_) fun _ z => z.step s0⟩
  rw [Bool.or_eq_false_iff] at ho
  match ds, z, r with
  | [a, b], z, ⟨v, _, e1, r1, ⟨w, _, e2, r2, r3⟩⟩ =>
    subst e1; subst e2; cases r3
    exact ⟨v, w, rfl, (show OutW X.K X.mg G0 X.H₀ own ol Dn G (.nx ((Zd.set i (some a)).set j (some b))) from z) _ G' H' (((ok.step s).set (mem_of ho.1) r1).set (mem_of ho.2) r2) (s0.trans s) s.g⟩
def lstAt (Z : DSt) (i : Nat) : R (List D) := match Z[i]? with
  | some (some (.lst ds)) => .ok ds
  | _ => .bad
def sApp (own : List Nat) (i : Nat) (fe : DSt -> R D) : DSt -> R Out := fun Z => (lstAt Z i).bind fun ds => (fe (mask own Z)).bind fun d => bif most ds.length then .ok (.nx (Z.set i (some (.lst (ds ++ [d]))))) else .bad
def sAppP (i : Nat) (fe : DSt -> R D) : DSt -> R Out := fun Z => (lstAt Z i).bind fun ds => (fe Z).bind fun d => bif most ds.length && imm d then .ok (.nx (Z.set i (some (.lst (ds ++ [d]))))) else .bad
theorem lstAt_ok {Z : DSt} {i : Nat} {ds : List D} (h : lstAt Z i = .ok ds) : Z[i]? = some (some (.lst ds)) := by
  unfold lstAt at h
  split at h
  · cases h; assumption
  · cases h
theorem lstAt_ne {Z : DSt} {i : Nat} {e : D} : lstAt Z i ≠ .err e := by
  unfold lstAt
  split <;> simp
theorem ds_app (i : Nat) {apos cpos : Pos} {np : Pos} (he : DE X E e fe) (ho : own.contains i = true := by rfl) (hN : X.N[i]? = some x := by rfl) (hv : Vis X.env.scope x := by first | exact Or.inl rfl | exact Or.inr (Or.inl rfl) | exact Or.inr (Or.inr rfl)) (hd : (x == ("__debug__" : Str)) = false := by decide)
    (hcd : (x == ("__classdict__" : Str)) = false := by decide)
    (hbase : attributeBase (.Name x np) "append" X.env (eval (.Name x np) X.env) = eval (.Name x np) X.env := by rfl)
    (hfew : ((backTo cpos (starEach [e] X.env)).all (fun x => !x.1) && (backToKw cpos (keywordEach [] X.env)).all (fun x => x.1.isSome) && decide ([e].length + ([] : List Keyword).length + (if ([] : List Keyword).isEmpty then 0 else 1) < 30)) = true := by rfl)
    (hline : (apos.endLine == cpos.line) = true := by rfl) (hs : starEach [e] X.env = (false, eval e X.env) :: starEach [] X.env := by rfl) (hplain : (backTo cpos (starEach [] X.env)).any (·.1) = false := by rfl)
    (hsw : swapsWith (.Call (.Attribute (.Name x np) "append" apos) [e] [] cpos) none pos.line X.env = pure false := by rfl) :
    DS X E own own ol (.Expr (.Call (.Attribute (.Name x np) "append" apos) [e] [] cpos) pos) (sApp own i fe) := fun G0 =>
  PS.mono' (ps_expr (pe_bm PySem.F.plainAttrs_list PySem.F.slot_list_append PySem.F.type_list_append mt_append (pv i hN hv hd hcd) (da_cons he da_nil hs) hbase hfew hline hs hplain) hsw) fun Dn Z H ⟨G, Zd, ok, s0, q⟩ => by
  have q1 := q.of_bind
  cases hL : lstAt Zd i with
  | bad => rw [hL] at q1; exact q1.elim
  | err e => exact absurd hL lstAt_ne
  | ok ds =>
    rw [hL] at q1
    have q2 : RW ((fe (mask own Zd)).bind fun d => bif most ds.length then R.ok (.nx (Zd.set i (some (.lst (ds ++ [d]))))) else .bad) (OutW X.K X.mg G0 X.H₀ own ol Dn G) (AfterX X.K X.mg E G0 X.H₀) := q1
    have hd := lstAt_ok hL
    have hi : i ∈ own := by simpa using ho
    obtain ⟨a, ds', vs, p1, p2, p3, p4, p5, p6⟩ := ok.mine i _ hi hd
    cases p2
    refine ⟨_, p1, .inl ⟨rfl, _, SqL.of p3⟩, ?_⟩
    refine ⟨G, mask own Zd, ok.masked, (show RW ((aCons fe aNil) (mask own Zd)) _ _ from ?_)⟩
    unfold aCons
    have q3 := q2.of_bind
    cases hf : fe (mask own Zd) with
    | bad => rw [hf] at q3; exact q3.elim
    | err e => rw [hf] at q3; exact (show AfterX X.K X.mg E G0 X.H₀ e from q3).step s0
    | ok d =>
      rw [hf] at q3
      rintro ws G' H' s ⟨v, _, e1, r1, r2⟩
      subst e1
      cases r2
      cases hm : most ds.length with
      | false => rw [hm] at q3; exact (show False from q3).elim
      | true =>
        rw [hm] at q3
        have hlt : ds.length < sizeLine := of_decide_eq_true hm
        have ok' := ok.step s
        refine ⟨a, vs, v, rfl, rfl, s.h _ _ p3, by rw [<- p6.length]; exact hlt, ?_⟩
        exact (show OutW X.K X.mg G0 X.H₀ own ol Dn G (.nx (Zd.set i (some (.lst (ds ++ [d]))))) from q3) Z G' _ (ok'.write hi hd p1 ((p6.mono s.g).append (Reps.cons r1 Reps.nil))) ((s0.trans s).write (o := .lst vs) p5 (s.c _ _ p3 p4)) s.g
end
def forL (ks : List Nat) (gp : D -> R (List D)) (fb : DSt -> R Out) : List D -> DSt -> R Out
  | [], Z => .ok (.nx Z)
  | d :: ds, Z => (gp d).noerr.bind fun us => (fb (setAll Z ks us)).bind fun o => match o with
    | .nx Z' => forL ks gp fb ds Z'
    | .ct Z' => forL ks gp fb ds Z'
    | .bk Z' => .ok (.nx Z')
    | .rt d => .ok (.rt d)
    | .rf d => .ok (.rf d)
def sFor (own ks : List Nat) (gp : D -> R (List D)) (fi : DSt -> R (List D)) (fb : DSt -> R Out) : DSt -> R Out := fun Z => (fi (mask own Z)).bind fun ds => forL ks gp fb ds Z
structure XL (X : Cx) : Prop where
  own : PassesOwn (model X.prog X.w) X.A X.env X.xe
section
variable {X : Cx} {E : XK} {own ol ks : List Nat} {tg iter : Expr} {body : List Stmt} {gp : D -> R (List D)} {fi : DSt -> R (List D)} {fb : DSt -> R Out} {pos : Pos}
theorem ds_for (L : XL X) (hc : X.calm = true) (hi : DI X E tg iter fi) (hg : DG X tg ks gp) (hb : DSs X E own own own body fb) (ho : ks.all (fun i => !own.contains i) = true := by rfl) (hs : ∀ x, foldedSetIterable iter X.env x = pure x := by intro _; rfl) :
    DS X E own own ol (.For tg iter body [] pos) (sFor own ks gp fi fb) := fun G0 => PS.mono' (ps_for L.own hc hi hg (hb G0) hs) fun Dn Z H ⟨G, Zd, ok, s0, q⟩ => by
  refine ⟨G, mask own Zd, ok.masked, q.of_bind.mono (fun ds _ z J G1 H1 s1 it => ?_) fun _ z => z.step s0⟩
  have hko : ∀ k ∈ ks, k ∉ own := fun k hk => by simpa using xa0.mp ho k hk
  refine ⟨fun i m Z' H' => m = ds.length - i /\ i <= ds.length /\ ∃ G' Zd', Ok X.K X.mg X.H₀ own Zd' Z' G' H' /\ Same G1 G' /\ Step G0 X.H₀ G' H' /\ RW (forL ks gp fb (ds.drop i) Zd') (OutW X.K X.mg G0 X.H₀ own ol Dn G1) (AfterX X.K X.mg E G0 X.H₀),
    ⟨ds.length, by simp, xcm _, G1, Zd, ok.step s1, Same.refl _, s0.trans s1, z.mono (fun _ _ z => z.shift s1.g) fun _ z => z⟩, ?_⟩
  rintro i m Z' H' ⟨rfl, hi, G', Zd', ok', e', s', w⟩
  by_cases hlt : i < ds.length
  · right
    obtain ⟨d, hd⟩ : ∃ d, ds[i]? = some d := ⟨ds[i], by simp [hlt]⟩
    obtain ⟨g1, g2⟩ := it.turn H' i d (e'.trans ok'.ext) hd
    have hdrop : ds.drop i = d :: ds.drop (i + 1) := by
      rw [List.drop_eq_getElem_cons hlt]
      congr 1
      exact Option.some.inj ((xan hlt).symm.trans hd)
    rw [hdrop] at w
    refine ⟨g1, fun Z2 H2 => i + 1 <= ds.length /\ ∃ G' Zd', Ok X.K X.mg X.H₀ own Zd' Z2 G' H2 /\ Same G1 G' /\ Step G0 X.H₀ G' H2 /\ RW (forL ks gp fb (ds.drop (i + 1)) Zd') (OutW X.K X.mg G0 X.H₀ own ol Dn G1) (AfterX X.K X.mg E G0 X.H₀),
      fun Z2 H2 ⟨h1, h2⟩ => ⟨ds.length - (i + 1), by omega, rfl, h1, h2⟩, fun x H2 hy => ?_⟩
    obtain ⟨G2, s2, r2⟩ := g2 x H2 hy G' e' ok'.ext
    unfold forL at w
    obtain ⟨us, e1, w⟩ := noerr_ok w.of_bind
    refine ⟨G2, d, s2.e, r2, RW.ok_of e1 fun ws rws => ?_⟩
    have ok2 := (ok'.step s2).setAll hko rws
    refine ⟨G2, _, ok2, s'.trans s2, w.of_bind.mono (fun o _ z => ?_) fun _ z => z⟩
    cases o with
    | nx Z3 => exact fun Z4 G4 H4 ok4 s4 e4 => ⟨hlt, G4, Z3, ok4, (e'.trans s2.g).trans e4, s4, z⟩
    | ct Z3 => exact fun Z4 G4 H4 ok4 s4 e4 => ⟨hlt, G4, Z3, ok4, (e'.trans s2.g).trans e4, s4, z⟩
    | bk Z3 => exact fun Z4 G4 H4 ok4 s4 e4 => (show OutW X.K X.mg G0 X.H₀ own ol Dn G1 (.nx Z3) from z) Z4 G4 H4 ok4 s4 ((e'.trans s2.g).trans e4)
    | rt d => exact z
    | rf d => exact z
  · left
    have hi2 : i = ds.length := by omega
    subst hi2
    rw [List.drop_length] at w
    refine ⟨it.stop H' (e'.trans ok'.ext), ?_⟩
    unfold forL at w
    exact (show OutW X.K X.mg G0 X.H₀ own ol Dn G1 (.nx Zd') from w) Z' G' H' ok' s' e'
def whileN (c : DSt -> R Bool) (fb : DSt -> R Out) : Nat -> DSt -> R Out
  | 0, _ => .bad
  | n + 1, Z => (c Z).bind fun k => bif k then (fb Z).bind fun o => match o with
      | .nx Z' => whileN c fb n Z'
      | .ct Z' => whileN c fb n Z'
      | .bk Z' => .ok (.nx Z')
      | .rt d => .ok (.rt d)
      | .rf d => .ok (.rf d)
    else .ok (.nx Z)
open Classical in
noncomputable def sWhile (c : DSt -> R Bool) (fb : DSt -> R Out) : DSt -> R Out := fun Z => if h : ∃ n, whileN c fb n Z ≠ .bad then whileN c fb (Classical.choose h) Z else .bad
theorem whileN_more {c : DSt -> R Bool} {fb : DSt -> R Out} : ∀ (n : Nat) (Z : DSt) (r : R Out), whileN c fb n Z = r -> r ≠ .bad -> ∀ k, whileN c fb (n + k) Z = r
  | 0, Z, r, h, hr, k => absurd h.symm hr
  | n + 1, Z, r, h, hr, k => by
    rw [show n + 1 + k = (n + k) + 1 by omega]
    unfold whileN at h ⊢
    cases hc : c Z with
    | bad => rw [hc] at h; exact absurd h.symm hr
    | err e => rw [hc] at h; exact h
    | ok b =>
      rw [hc] at h
      cases b with
      | false => exact h
      | true =>
        have h' : (fb Z).bind (fun o => match o with
          | .nx Z' => whileN c fb n Z'
          | .ct Z' => whileN c fb n Z'
          | .bk Z' => .ok (.nx Z')
          | .rt d => .ok (.rt d)
          | .rf d => .ok (.rf d)) = r := h
        show (fb Z).bind (fun o => match o with
          | .nx Z' => whileN c fb (n + k) Z'
          | .ct Z' => whileN c fb (n + k) Z'
          | .bk Z' => .ok (.nx Z')
          | .rt d => .ok (.rt d)
          | .rf d => .ok (.rf d)) = r
        cases hf : fb Z with
        | bad => rw [hf] at h'; exact absurd h'.symm hr
        | err e => rw [hf] at h'; exact h'
        | ok o =>
          rw [hf] at h'
          cases o with
          | nx Z' => exact whileN_more n Z' r h' hr k
          | ct Z' => exact whileN_more n Z' r h' hr k
          | bk Z' => exact h'
          | rt d => exact h'
          | rf d => exact h'
theorem sWhile_eq {c : DSt -> R Bool} {fb : DSt -> R Out} {n : Nat} {Z : DSt} {r : R Out} (h : whileN c fb n Z = r) (hr : r ≠ .bad) : sWhile c fb Z = r := by
  unfold sWhile
  have hx : ∃ n, whileN c fb n Z ≠ .bad := ⟨n, by rw [h]; exact hr⟩
  rw [dif_pos hx]
  have h1 := Classical.choose_spec hx
  have a := whileN_more _ Z _ rfl h1 n
  have b := whileN_more _ Z _ h hr (Classical.choose hx)
  rw [Nat.add_comm] at b
  rw [<- a, b]
theorem sWhile_step (c : DSt -> R Bool) (fb : DSt -> R Out) (Z : DSt) : sWhile c fb Z = (c Z).bind fun k => bif k then (fb Z).bind fun o => match o with
      | .nx Z' => sWhile c fb Z'
      | .ct Z' => sWhile c fb Z'
      | .bk Z' => .ok (.nx Z')
      | .rt d => .ok (.rt d)
      | .rf d => .ok (.rf d)
    else .ok (.nx Z) := by
  cases hc : c Z with
  | bad =>
    unfold sWhile
    rw [dif_neg]
    · rfl
    · rintro ⟨n, h⟩
      cases n with
      | zero => exact h rfl
      | succ n => unfold whileN at h; rw [hc] at h; exact h rfl
  | err e => exact sWhile_eq (n := 1) (by unfold whileN; rw [hc]; rfl) (by simp [R.bind])
  | ok b =>
    cases b with
    | false => exact sWhile_eq (n := 1) (by unfold whileN; rw [hc]; rfl) (by simp [R.bind])
    | true =>
      show sWhile c fb Z = (fb Z).bind _
      cases hf : fb Z with
      | bad =>
        unfold sWhile
        rw [dif_neg]
        · rfl
        · rintro ⟨n, h⟩
          cases n with
          | zero => exact h rfl
          | succ n => unfold whileN at h; rw [hc] at h; simp only [R.bind, cond_true] at h; rw [hf] at h; exact h rfl
      | err e => exact sWhile_eq (n := 1) (by unfold whileN; rw [hc]; show (fb Z).bind _ = _; rw [hf]; rfl) (by simp [R.bind])
      | ok o =>
        have go : ∀ Z', (∀ n, whileN c fb (n + 1) Z = whileN c fb n Z') -> sWhile c fb Z = sWhile c fb Z' := fun Z' hn => by
          by_cases hx : ∃ n, whileN c fb n Z' ≠ .bad
          · obtain ⟨n, h⟩ := hx
            rw [sWhile_eq (n := n) rfl h, sWhile_eq (n := n + 1) (hn n) h]
          · have : sWhile c fb Z' = .bad := by unfold sWhile; rw [dif_neg hx]
            rw [this]
            unfold sWhile
            rw [dif_neg]
            rintro ⟨n, h⟩
            cases n with
            | zero => exact h rfl
            | succ n => rw [hn n] at h; exact hx ⟨n, h⟩
        cases o with
        | nx Z' => exact go Z' fun n => by unfold whileN; rw [hc]; show (fb Z).bind _ = _; rw [hf]; cases n <;> rfl
        | ct Z' => exact go Z' fun n => by unfold whileN; rw [hc]; show (fb Z).bind _ = _; rw [hf]; cases n <;> rfl
        | bk Z' => exact sWhile_eq (n := 1) (by unfold whileN; rw [hc]; show (fb Z).bind _ = _; rw [hf]; rfl) (by simp [R.bind])
        | rt d => exact sWhile_eq (n := 1) (by unfold whileN; rw [hc]; show (fb Z).bind _ = _; rw [hf]; rfl) (by simp [R.bind])
        | rf d => exact sWhile_eq (n := 1) (by unfold whileN; rw [hc]; show (fb Z).bind _ = _; rw [hf]; rfl) (by simp [R.bind])
theorem ds_while {c : Expr} {fc : DSt -> R Bool} (L : XL X) (hc : DT X E c fc) (hb : DSs X E own own own body fb) : DS X E own own ol (.While c body [] pos) (sWhile fc fb) := fun G0 => PS.mono' (ps_while L.own hc (hb G0)) fun Dn Z H ⟨G, Zd, ok, s0, q⟩ => by
  have hx : ∃ n, whileN fc fb n Zd ≠ .bad := by
    by_cases hx : ∃ n, whileN fc fb n Zd ≠ .bad
    · exact hx
    · unfold sWhile at q; rw [dif_neg hx] at q; exact (show False from q).elim
  obtain ⟨n, hn⟩ := hx
  rw [sWhile_eq rfl hn] at q
  refine ⟨fun m Z' H' => ∃ G' Zd', Ok X.K X.mg X.H₀ own Zd' Z' G' H' /\ Same G G' /\ Step G0 X.H₀ G' H' /\ RW (whileN fc fb m Zd') (OutW X.K X.mg G0 X.H₀ own ol Dn G) (AfterX X.K X.mg E G0 X.H₀), ⟨n, G, Zd, ok, Same.refl _, s0, q⟩, ?_⟩
  rintro m Z1 H1 ⟨G1, Zd1, ok1, e1, s1, w⟩
  cases m with
  | zero => exact (show False from w).elim
  | succ m =>
    unfold whileN at w
    have sp := ok1.pubStep s1
    refine ⟨_, Zd1, ok1.pub.1, w.of_bind.mono (fun k _ z G' H' s => ?_) fun _ z => z.step sp⟩
    have ok' := ok1.drop s.h
    have s' : Step G0 X.H₀ G1 H' := s1.trans (.heap ok1.ext s.h)
    cases k with
    | true =>
      refine iteT ?_
      refine ⟨fun Z2 H2 => ∃ G' Zd', Ok X.K X.mg X.H₀ own Zd' Z2 G' H2 /\ Same G G' /\ Step G0 X.H₀ G' H2 /\ RW (whileN fc fb m Zd') (OutW X.K X.mg G0 X.H₀ own ol Dn G) (AfterX X.K X.mg E G0 X.H₀), fun Z2 H2 h => ⟨m, xcq _, h⟩, ?_⟩
      refine ⟨G1, Zd1, ok', s', (show RW ((fb Zd1).bind _) _ _ from z).of_bind.mono (fun o _ z => ?_) fun _ z => z⟩
      cases o with
      | nx Z3 => exact fun Z4 G4 H4 ok4 s4 e4 => ⟨G4, Z3, ok4, e1.trans e4, s4, z⟩
      | ct Z3 => exact fun Z4 G4 H4 ok4 s4 e4 => ⟨G4, Z3, ok4, e1.trans e4, s4, z⟩
      | bk Z3 => exact fun Z4 G4 H4 ok4 s4 e4 => (show OutW X.K X.mg G0 X.H₀ own ol Dn G (.nx Z3) from z) Z4 G4 H4 ok4 s4 (e1.trans e4)
      | rt d => exact z
      | rf d => exact z
    | false =>
      refine iteF ?_
      exact (show OutW X.K X.mg G0 X.H₀ own ol Dn G (.nx Zd1) from z) Z1 G1 H' ok' s' e1
end
def startD (n : Nat) (ds : List D) : DSt := ds.map some ++ List.replicate (n - ds.length) none
def fin : R Out -> R D
  | .ok (.rt d) => .ok d
  | .ok (.rf ds) => .ok (.lst ds)
  | .ok (.nx _) => .ok .non
  | .ok _ => .bad
  | .err e => .err e
  | .bad => .bad
def fnM (n nN : Nat) (body : DSt -> R Out) : List D -> R D := fun ds => bif ds.length == n then fin (body (startD nN ds)) else .bad
theorem Reps.startOk {K : xFg} {mg : Str -> Option Value} {G H : Hp} (e : Same G H) : ∀ {ds : List D} {vs : List V} (k : Nat), Reps K mg G ds vs -> Ok0 K mg (ds.map some ++ List.replicate k none) (vs.map some ++ List.replicate k none) G H
  | [], _, k, h => by
    cases h
    have := Ok0.nones (K := K) (mg := mg) (G := G) (H := H) (Zd := []) (Z := []) ⟨e, rfl, fun i d q => by simp at q⟩ k
    simpa using this
  | d :: ds, _, k, ⟨v, r, h1, h2, h3⟩ => by
    subst h1
    exact (Reps.startOk e k h3).cons (x := some d) (y := some v) fun d' q => by cases q; exact ⟨v, rfl, h2⟩
section
variable {P : Program} {w : World} {K : xFg} {mg : Str -> Option Value} {base : Heap}
theorem FnAt.mk' {x qual : Str} {st : Stmt} {f : Addr} {fd : FuncData} {N ps : List Str} {k n nN : Nat} {own' : List Nat} {body : DSt -> R Out} (F : Fun K x qual st f fd) (S : FnScope N ps (defScope st)) (hm : mg x = some (.ref f)) (b : Binds K fd ps [])
    (hn : ps.length = n) (hN : N.length = nN)
    (hb : ∀ (X : Cx) (E : XK), (∃ cdv A outer s H, X = cxOf (CXe P w) P w K mg base N qual (defScope st) f cdv A outer s H E) -> XC X E k -> XL X -> DSs X E [] own' [] (defBody st) body) : FnAt P w K mg base (k + 1) x (fnM n nN body) := by
  refine ⟨f, fd, ps, F.okX S (fun vs H Q E h => ?_) (fun cdv A outer s H vs Q E hr hsp => ?_), hm, F.kp, b⟩
  · obtain ⟨G, ds, e, r, q⟩ := h
    by_cases hd : ds.length = n
    · rw [<- r.length, hd, hn]
    · have : (ds.length == n) = false := by simpa using hd
      unfold fnM at q
      rw [this] at q
      exact (show False from q).elim
  · obtain ⟨G, ds, e, r, q⟩ := hsp
    have hd : ds.length = n := by
      by_cases hd : ds.length = n
      · exact hd
      · have : (ds.length == n) = false := by simpa using hd
        unfold fnM at q
        rw [this] at q
        exact (show False from q).elim
    unfold fnM at q
    rw [show (ds.length == n) = true by simpa using hd] at q
    have q' : RW (fin (body (startD nN ds))) (After K mg Q G H) (AfterX K mg E G H) := q
    refine ⟨_, hb _ E ⟨cdv, A, outer, s, H, rfl⟩ ⟨rfl, hr, passE⟩ ⟨PassesOwn.leaving⟩ G, G, startD nN ds, ?_, .refl e, ?_⟩
    · have := Reps.startOk e (N.length - vs.length) r
      unfold L2.start startD
      rw [<- hN, r.length]
      exact .zero this
    · cases hbd : body (startD nN ds) with
      | bad => rw [hbd] at q'; exact q'
      | err e => rw [hbd] at q'; exact q'
      | ok o =>
        rw [hbd] at q'
        cases o with
        | rt d => exact fun v G' H' s r => (show After K mg Q G H d from q') v G' H' s r
        | rf es =>
          intro a vs G' H' s n e g r
          have q2 : After K mg Q G H (.lst es) := q'
          have sg : Same G' (upd G' a (.lst vs)) := same_upd g
          refine q2 (.ref a) (upd G' a (.lst vs)) H' ⟨s.g.trans sg, s.h, fun b u p => ?_, fun b u p1 p2 => ?_⟩ ⟨a, vs, rfl, SqL.of upd_same, r.mono sg⟩
          · by_cases hb : b = a
            · subst hb; rw [upd_same] at p; cases p; exact e
            · rw [upd_ne hb] at p; exact s.e b u p
          · have hb : b ≠ a := ne_of_none p1 n
            rw [upd_ne hb]; exact s.c b u p1 p2
        | nx Z => exact fun Z' G' H' ok s _ => (show After K mg Q G H .non from q') .non G' H' s rfl
        | bk Z => exact (show False from q').elim
        | ct Z => exact (show False from q').elim
end
theorem XC.lc {X : Cx} {E : XK} {k : Nat} (C : XC X E k) (scope : Scope) (NY : List Str) (s0 : Shared) (H0 : Hp) (Ca : Addr) (ex : List Addr) : XC (lcCx X scope NY s0 H0 Ca ex) E0 k := ⟨C.calm, C.room, passN⟩
end DL
namespace DL
open L2
mutual
def eqD : D -> D -> Bool
  | .non, .non => true
  | .bl a, .bl b => a == b
  | .int a, .int b => a == b
  | .str a, .str b => a == b
  | .bl a, .int b => (if a then (1 : Int) else 0) == b
  | .int a, .bl b => a == (if b then (1 : Int) else 0)
  | .tup xs, .tup ys => eqDs xs ys
  | .lst xs, .lst ys => eqDs xs ys
  | _, _ => false
def eqDs : List D -> List D -> Bool
  | [], [] => true
  | x :: xs, y :: ys => eqD x y && eqDs xs ys
  | _, _ => false
end
def datN : Nat -> D -> Bool
  | _, .non => true
  | _, .bl _ => true
  | _, .int _ => true
  | _, .str _ => true
  | n + 1, .tup xs => xs.all (datN n)
  | n + 1, .lst xs => xs.all (datN n)
  | _, _ => false
theorem eqDs_range : ∀ (xs ys : List D), ((List.range (min xs.length ys.length)).all (fun j => eqD (xs.getD j .non) (ys.getD j .non)) && xs.length == ys.length) = eqDs xs ys
  | [], [] => by unfold eqDs; rfl
  | [], _ :: _ => by unfold eqDs; simp
  | _ :: _, [] => by unfold eqDs; simp
  | x :: xs, y :: ys => by
    unfold eqDs
    rw [<- eqDs_range xs ys]
    simp only [xaq, Nat.succ_min_succ, List.range_succ_eq_map, List.all_cons, List.getD_cons_zero, List.all_map, Bool.and_assoc]
    congr 2
    rw [xb9]; simp
theorem eqD_refl : ∀ (n : Nat) (d : D), datN n d = true -> eqD d d = true := by
  intro n
  induction n with
  | zero => intro d h; cases d <;> first | (simp [datN] at h; done) | (unfold eqD; simp; done)
  | succ n ih =>
    have hl : ∀ xs : List D, xs.all (datN n) = true -> eqDs xs xs = true := fun xs => by
      induction xs with
      | nil => intro _; unfold eqDs; rfl
      | cons x xs ihx =>
        intro h
        rw [List.all_cons, xat] at h
        unfold eqDs
        rw [ih x h.1, ihx h.2]; rfl
    intro d h
    cases d with
    | tup xs => unfold eqD; exact hl xs (by unfold datN at h; exact h)
    | lst xs => unfold eqD; exact hl xs (by unfold datN at h; exact h)
    | _ => first | (simp [datN] at h; done) | (unfold eqD; simp; done)
def vOf : D -> Option V
  | .non => some .non
  | .bl b => some (.bl b)
  | .int i => some (.int i)
  | .str x => some (.str x)
  | _ => none
theorem rep_vOf {K : xFg} {mg : Str -> Option Value} {G : Hp} {d : D} {v x : V} (h : vOf d = some v) (r : Rep K mg G d x) : x = v /\ flatV v = true := by
  cases d <;> first | (simp [vOf] at h; done) | (simp only [vOf, Option.some.injEq] at h; subst h; simp only [Rep] at r; exact ⟨r, rfl⟩)
theorem eqD_flat {d d' : D} {v v' : V} (h : vOf d = some v) (h' : vOf d' = some v') : eqD d d' = eqV v v' := by
  cases d <;> first | (simp [vOf] at h; done) | (simp only [vOf, Option.some.injEq] at h; subst h; cases d' <;> first | (simp [vOf] at h'; done) | (simp only [vOf, Option.some.injEq] at h'; subst h'; unfold eqD eqV; first | rfl | simp))
theorem vOf_inj {d d' : D} {v : V} (h : vOf d = some v) (h' : vOf d' = some v) : d = d' := by
  cases d <;> first | (simp [vOf] at h; done) | (simp only [vOf, Option.some.injEq] at h; subst h; cases d' <;> first | (simp [vOf] at h'; done) | (simp only [vOf, Option.some.injEq] at h'; cases h'; rfl))
theorem dat_cases {n : Nat} {d : D} (h : datN n d = true) : (∃ v, vOf d = some v) \/ (∃ m xs, n = m + 1 /\ d = .tup xs /\ xs.all (datN m) = true) \/ (∃ m xs, n = m + 1 /\ d = .lst xs /\ xs.all (datN m) = true) := by
  cases d with
  | tup xs => cases n with
    | zero => simp [datN] at h
    | succ m => exact .inr (.inl ⟨m, xs, rfl, rfl, by unfold datN at h; exact h⟩)
  | lst xs => cases n with
    | zero => simp [datN] at h
    | succ m => exact .inr (.inr ⟨m, xs, rfl, rfl, by unfold datN at h; exact h⟩)
  | non => exact .inl ⟨_, rfl⟩
  | bl b => exact .inl ⟨_, rfl⟩
  | int i => exact .inl ⟨_, rfl⟩
  | str x => exact .inl ⟨_, rfl⟩
  | _ => simp [datN] at h
section
variable {X : Cx} {pins : List (Addr × Obj)} {Z : St} {G H : Hp} {s : Shared}
theorem not_both (I : Inv X pins Z H s) {a : Addr} {xs ys : List V} (h1 : SqT X.K H a xs) (h2 : SqL X.K H a ys) : False := by
  obtain ⟨_, _, ⟨o, e, c, _⟩, _⟩ := I.tuple h1
  obtain ⟨_, _, ⟨o', _, e', c', _⟩, _⟩ := I.list h2
  rw [e] at e'; cases e'
  rw [c] at c'
  exact absurd c' (by simp)
theorem flat_noref {v : V} {a : Addr} (h : flatV v = true) : v ≠ .ref a := by rintro rfl; cases h
theorem rep_inj (I : Inv X pins Z H s) (e : Same G H) : ∀ (n : Nat) {d d' : D} {v : V}, datN n d = true -> datN n d' = true -> Rep X.K X.mg G d v -> Rep X.K X.mg G d' v -> d = d' := by
  intro n
  induction n with
  | zero =>
    intro d d' v h h' r r'
    rcases dat_cases h with ⟨w, hw⟩ | ⟨_, _, z, _⟩ | ⟨_, _, z, _⟩ <;> try omega
    rcases dat_cases h' with ⟨w', hw'⟩ | ⟨_, _, z, _⟩ | ⟨_, _, z, _⟩ <;> try omega
    have e1 := (rep_vOf hw r).1
    have e2 := (rep_vOf hw' r').1
    rw [<- e1] at hw; rw [<- e2] at hw'
    exact vOf_inj hw hw'
  | succ n ih =>
    have hl : ∀ (xs ys : List D) (vs : List V), xs.all (datN n) = true -> ys.all (datN n) = true -> Reps X.K X.mg G xs vs -> Reps X.K X.mg G ys vs -> xs = ys := by
      intro xs
      induction xs with
      | nil =>
        intro ys vs _ _ r r'
        cases r
        cases ys with
        | nil => rfl
        | cons y ys => obtain ⟨_, _, z, _⟩ := r'; cases z
      | cons x xs ihx =>
        intro ys vs h h' r r'
        obtain ⟨v, t, rfl, r1, r2⟩ := r
        cases ys with
        | nil => cases r'
        | cons y ys =>
          obtain ⟨v', t', z, r1', r2'⟩ := r'
          cases z
          rw [List.all_cons, xat] at h h'
          rw [ih h.1 h'.1 r1 r1', ihx ys _ h.2 h'.2 r2 r2']
    intro d d' v h h' r r'
    rcases dat_cases h with ⟨w, hw⟩ | ⟨m, xs, hm, rfl, hx⟩ | ⟨m, xs, hm, rfl, hx⟩
    · rcases dat_cases h' with ⟨w', hw'⟩ | ⟨m', ys, hm', rfl, hy⟩ | ⟨m', ys, hm', rfl, hy⟩
      · have e1 := (rep_vOf hw r).1
        have e2 := (rep_vOf hw' r').1
        rw [<- e1] at hw; rw [<- e2] at hw'
        exact vOf_inj hw hw'
      · obtain ⟨e1, e2⟩ := rep_vOf hw r
        obtain ⟨a, vs, z, _⟩ := r'
        exact absurd (e1.symm.trans z) (flat_noref e2)
      · obtain ⟨e1, e2⟩ := rep_vOf hw r
        obtain ⟨a, vs, z, _⟩ := r'
        exact absurd (e1.symm.trans z) (flat_noref e2)
    · obtain rfl : n = m := by omega
      obtain ⟨a, vs, rfl, q1, q2⟩ := r
      rcases dat_cases h' with ⟨w', hw'⟩ | ⟨m', ys, hm', rfl, hy⟩ | ⟨m', ys, hm', rfl, hy⟩
      · obtain ⟨e1, e2⟩ := rep_vOf hw' r'
        exact absurd e1.symm (flat_noref e2)
      · obtain rfl : n = m' := by omega
        obtain ⟨a', vs', z, q1', q2'⟩ := r'
        cases z
        have := I.tuple_inj (Same.sqT e q1) (Same.sqT e q1')
        subst this
        rw [hl xs ys _ hx hy q2 q2']
      · obtain ⟨a', vs', z, q1', q2'⟩ := r'
        cases z
        exact (not_both I (Same.sqT e q1) (e.seq q1')).elim
    · obtain rfl : n = m := by omega
      obtain ⟨a, vs, rfl, q1, q2⟩ := r
      rcases dat_cases h' with ⟨w', hw'⟩ | ⟨m', ys, hm', rfl, hy⟩ | ⟨m', ys, hm', rfl, hy⟩
      · obtain ⟨e1, e2⟩ := rep_vOf hw' r'
        exact absurd e1.symm (flat_noref e2)
      · obtain ⟨a', vs', z, q1', q2'⟩ := r'
        cases z
        exact (not_both I (Same.sqT e q1') (e.seq q1)).elim
      · obtain rfl : n = m' := by omega
        obtain ⟨a', vs', z, q1', q2'⟩ := r'
        cases z
        have := I.list_inj (e.seq q1) (e.seq q1')
        subst this
        rw [hl xs ys _ hx hy q2 q2']
theorem atArr {α : Type} {us : List α} {j : Nat} (h : j < us.toArray.size) : us.toArray[j] = us[j]'(by simpa using h) := by simp
theorem getD_of {α : Type} {xs : List α} {d : α} {j : Nat} (h : j < xs.length) : xs.getD j d = xs[j] := by simp [List.getD, h]
open SeqAt in
theorem items_at {A : Around} {n : Nat} (ih : ∀ {d d' : D} {x x' : V} {u u' : Value}, datN n d = true -> datN n d' = true -> Rep X.K X.mg G d x -> RelV x u -> Rep X.K X.mg G d' x' -> RelV x' u' -> EqAt A s u u' (eqD d d'))
    {xs ys : List D} {vs ws : List V} {us us' : List Value} (h : xs.all (datN n) = true) (h' : ys.all (datN n) = true) (r : Reps X.K X.mg G xs vs) (q : Vals vs us) (r' : Reps X.K X.mg G ys ws) (q' : Vals ws us') :
    ∀ j (h1 : j < us.toArray.size) (h2 : j < us'.toArray.size), EqAt A s us.toArray[j] us'.toArray[j] (eqD (xs.getD j .non) (ys.getD j .non)) := by
  intro j h1 h2
  have l1 : j < vs.length := by rw [q.length]; simpa using h1
  have l2 : j < ws.length := by rw [q'.length]; simpa using h2
  have l3 : j < xs.length := by rw [r.length]; exact l1
  have l4 : j < ys.length := by rw [r'.length]; exact l2
  obtain ⟨v, e1, e2⟩ := r.get (i := j) (d := xs[j]) (by simp [l3])
  obtain ⟨w, e3, e4⟩ := r'.get (i := j) (d := ys[j]) (by simp [l4])
  obtain ⟨u, e5, e6⟩ := q.get e1
  obtain ⟨u', e7, e8⟩ := q'.get e3
  have z1 : us.toArray[j] = u := by rw [atArr h1]; exact (xae.mp e5).2
  have z2 : us'.toArray[j] = u' := by rw [atArr h2]; exact (xae.mp e7).2
  rw [z1, z2, getD_of l3, getD_of l4]
  exact ih (xa0.mp h _ (xbz l3)) (xa0.mp h' _ (xbz l4)) e2 e6 e4 e8
theorem in1_units (A : Around) : A.in1.units = A.units + 1 := rfl
open SeqAt in
theorem rcAt_V {A : Around} {x x' : V} {u u' : Value} (q : RelV x u) (q' : RelV x' u') (f : flatV x = true) (f' : flatV x' = true) : RcAt A s u u' (eqV x x') /\ RcNeAt A s u u' (!eqV x x') := by
  cases x with
  | non =>
    cases (show u = Value.none from q)
    cases x' with
    | non => cases (show u' = Value.none from q'); exact ⟨RcAt.none_none, RcNeAt.none_none⟩
    | bl b => cases (show u' = Value.bool b from q'); exact ⟨RcAt.none_bool b, RcNeAt.none_bool b⟩
    | int b => obtain ⟨tb, rfl⟩ := (show ∃ t, u' = Value.int b t from q'); exact ⟨RcAt.none_int b tb, RcNeAt.none_int b tb⟩
    | str b => obtain ⟨tb, rfl⟩ := (show ∃ t, u' = Value.str b t from q'); exact ⟨RcAt.none_str b tb, RcNeAt.none_str b tb⟩
    | _ => cases f'
  | bl a =>
    cases (show u = Value.bool a from q)
    cases x' with
    | non => cases (show u' = Value.none from q'); exact ⟨RcAt.bool_none a, RcNeAt.bool_none a⟩
    | bl b => cases (show u' = Value.bool b from q'); exact ⟨RcAt.bool_bool a b, RcNeAt.bool_bool a b⟩
    | int b => obtain ⟨tb, rfl⟩ := (show ∃ t, u' = Value.int b t from q'); exact ⟨RcAt.bool_int a b tb, RcNeAt.bool_int a b tb⟩
    | str b => obtain ⟨tb, rfl⟩ := (show ∃ t, u' = Value.str b t from q'); exact ⟨RcAt.bool_str a b tb, RcNeAt.bool_str a b tb⟩
    | _ => cases f'
  | int a =>
    obtain ⟨ta, rfl⟩ := (show ∃ t, u = Value.int a t from q)
    cases x' with
    | non => cases (show u' = Value.none from q'); exact ⟨RcAt.int_none a ta, RcNeAt.int_none a ta⟩
    | bl b => cases (show u' = Value.bool b from q'); exact ⟨RcAt.int_bool a ta b, RcNeAt.int_bool a ta b⟩
    | int b => obtain ⟨tb, rfl⟩ := (show ∃ t, u' = Value.int b t from q'); exact ⟨RcAt.int_int a ta b tb, RcNeAt.int_int a ta b tb⟩
    | str b => obtain ⟨tb, rfl⟩ := (show ∃ t, u' = Value.str b t from q'); exact ⟨RcAt.int_str a ta b tb, RcNeAt.int_str a ta b tb⟩
    | _ => cases f'
  | str a =>
    obtain ⟨ta, rfl⟩ := (show ∃ t, u = Value.str a t from q)
    cases x' with
    | non => cases (show u' = Value.none from q'); exact ⟨RcAt.str_none a ta, RcNeAt.str_none a ta⟩
    | bl b => cases (show u' = Value.bool b from q'); exact ⟨RcAt.str_bool a ta b, RcNeAt.str_bool a ta b⟩
    | int b => obtain ⟨tb, rfl⟩ := (show ∃ t, u' = Value.int b t from q'); exact ⟨RcAt.str_int a ta b tb, RcNeAt.str_int a ta b tb⟩
    | str b => obtain ⟨tb, rfl⟩ := (show ∃ t, u' = Value.str b t from q'); exact ⟨RcAt.str_str a ta b tb, RcNeAt.str_str a ta b tb⟩
    | _ => cases f'
  | _ => cases f
open SeqAt in
theorem eqAt_flatSeq {A : Around} {x : V} {u : Value} {b : Addr} {items : Array Value} (fx : flatV x = true) (q : RelV x u) (hA : A.units < cLine) (h : s.heap.IsTuple b items \/ s.heap.IsList b items) : EqAt A s u (.ref b) false /\ EqAt A s (.ref b) u false /\ RcAt A s u (.ref b) false /\ RcAt A s (.ref b) u false /\ RcNeAt A s u (.ref b) true /\ RcNeAt A s (.ref b) u true := by
  cases x with
  | non =>
    obtain rfl : u = Value.none := q
    rcases h with h | h
    · exact ⟨EqAt.none_tuple h hA, EqAt.tuple_none h hA, RcAt.none_tuple h hA, RcAt.tuple_none h hA, RcNeAt.none_tuple h hA, RcNeAt.tuple_none h hA⟩
    · exact ⟨EqAt.none_list h hA, EqAt.list_none h hA, RcAt.none_list h hA, RcAt.list_none h hA, RcNeAt.none_list h hA, RcNeAt.list_none h hA⟩
  | bl a =>
    obtain rfl : u = Value.bool a := q
    rcases h with h | h
    · exact ⟨EqAt.bool_tuple _ h hA, EqAt.tuple_bool _ h hA, RcAt.bool_tuple _ h hA, RcAt.tuple_bool _ h hA, RcNeAt.bool_tuple _ h hA, RcNeAt.tuple_bool _ h hA⟩
    · exact ⟨EqAt.bool_list _ h hA, EqAt.list_bool _ h hA, RcAt.bool_list _ h hA, RcAt.list_bool _ h hA, RcNeAt.bool_list _ h hA, RcNeAt.list_bool _ h hA⟩
  | int a =>
    obtain ⟨t, rfl⟩ : ∃ t, u = Value.int a t := q
    rcases h with h | h
    · exact ⟨EqAt.int_tuple _ _ h hA, EqAt.tuple_int _ _ h hA, RcAt.int_tuple _ _ h hA, RcAt.tuple_int _ _ h hA, RcNeAt.int_tuple _ _ h hA, RcNeAt.tuple_int _ _ h hA⟩
    · exact ⟨EqAt.int_list _ _ h hA, EqAt.list_int _ _ h hA, RcAt.int_list _ _ h hA, RcAt.list_int _ _ h hA, RcNeAt.int_list _ _ h hA, RcNeAt.list_int _ _ h hA⟩
  | str a =>
    obtain ⟨t, rfl⟩ : ∃ t, u = Value.str a t := q
    rcases h with h | h
    · exact ⟨EqAt.str_tuple _ _ h hA, EqAt.tuple_str _ _ h hA, RcAt.str_tuple _ _ h hA, RcAt.tuple_str _ _ h hA, RcNeAt.str_tuple _ _ h hA, RcNeAt.tuple_str _ _ h hA⟩
    · exact ⟨EqAt.str_list _ _ h hA, EqAt.list_str _ _ h hA, RcAt.str_list _ _ h hA, RcAt.list_str _ _ h hA, RcNeAt.str_list _ _ h hA, RcNeAt.list_str _ _ h hA⟩
  | _ => cases fx
theorem eqD_seqs {xs ys : List D} : eqD (.tup xs) (.tup ys) = eqDs xs ys /\ eqD (.lst xs) (.lst ys) = eqDs xs ys /\ eqD (.tup xs) (.lst ys) = false /\ eqD (.lst xs) (.tup ys) = false := by
  refine ⟨?_, ?_, ?_, ?_⟩ <;> (unfold eqD; rfl)
theorem eqD_flatSeq {d : D} {v : V} {ys : List D} (h : vOf d = some v) : eqD d (.tup ys) = false /\ eqD d (.lst ys) = false /\ eqD (.tup ys) d = false /\ eqD (.lst ys) d = false := by
  cases d <;> first | (simp [vOf] at h; done) | (refine ⟨?_, ?_, ?_, ?_⟩ <;> (unfold eqD; rfl))
set_option maxHeartbeats 4000000 in
open SeqAt in
theorem eqAt_D (I : Inv X pins Z H s) (e : Same G H) : ∀ (n : Nat) {A : Around} {d d' : D} {x x' : V} {u u' : Value}, A.units + n < cLine -> datN n d = true -> datN n d' = true -> Rep X.K X.mg G d x -> RelV x u -> Rep X.K X.mg G d' x' -> RelV x' u' ->
    EqAt A s u u' (eqD d d') /\ RcAt A s u u' (eqD d d') /\ RcNeAt A s u u' (!eqD d d') := by
  have ff : ∀ {A : Around} {d d' : D} {v v' x x' : V} {u u' : Value}, vOf d = some v -> vOf d' = some v' -> Rep X.K X.mg G d x -> RelV x u -> Rep X.K X.mg G d' x' -> RelV x' u' -> EqAt A s u u' (eqD d d') /\ RcAt A s u u' (eqD d d') /\ RcNeAt A s u u' (!eqD d d') := by
    intro A d d' v v' x x' u u' hv hv' r q r' q'
    obtain ⟨rfl, f1⟩ := rep_vOf hv r
    obtain ⟨rfl, f2⟩ := rep_vOf hv' r'
    rw [eqD_flat hv hv']
    exact ⟨eqAt_V q q' f1 f2, rcAt_V q q' f1 f2⟩
  have seq : ∀ {d : D} {m : Nat} {xs : List D} {x : V} {u : Value}, d = .tup xs \/ d = .lst xs -> Rep X.K X.mg G d x -> RelV x u -> ∃ b items, u = .ref b /\ (s.heap.IsTuple b items \/ s.heap.IsList b items) := by
    intro d m xs x u hd r q
    rcases hd with rfl | rfl
    · obtain ⟨a, vs, rfl, q1, q2⟩ := r
      obtain ⟨us, v1, t1, _⟩ := I.tuple (Same.sqT e q1)
      exact ⟨a, _, q, .inl t1⟩
    · obtain ⟨a, vs, rfl, q1, q2⟩ := r
      obtain ⟨us, v1, t1, _⟩ := I.list (e.seq q1)
      exact ⟨a, _, q, .inr t1.isList⟩
  intro n
  induction n with
  | zero =>
    intro A d d' x x' u u' hu h h' r q r' q'
    rcases dat_cases h with ⟨w, hw⟩ | ⟨_, _, z, _⟩ | ⟨_, _, z, _⟩ <;> try omega
    rcases dat_cases h' with ⟨w', hw'⟩ | ⟨_, _, z, _⟩ | ⟨_, _, z, _⟩ <;> try omega
    exact ff hw hw' r q r' q'
  | succ n ih =>
    intro A d d' x x' u u' hu h h' r q r' q'
    have hA : A.units < cLine := by omega
    have ih' : ∀ {d d' : D} {x x' : V} {u u' : Value}, datN n d = true -> datN n d' = true -> Rep X.K X.mg G d x -> RelV x u -> Rep X.K X.mg G d' x' -> RelV x' u' -> EqAt A.in1 s u u' (eqD d d') :=
      fun a b c d e f => (ih (A := A.in1) (by rw [in1_units]; omega) a b c d e f).1
    rcases dat_cases h with ⟨w, hw⟩ | ⟨m, xs, hm, rfl, hx⟩ | ⟨m, xs, hm, rfl, hx⟩
    · rcases dat_cases h' with ⟨w', hw'⟩ | ⟨m', ys, hm', rfl, hy⟩ | ⟨m', ys, hm', rfl, hy⟩
      · exact ff hw hw' r q r' q'
      · obtain ⟨rfl, f1⟩ := rep_vOf hw r
        obtain ⟨b, items, rfl, hb⟩ := seq (m := m') (.inl rfl) r' q'
        obtain ⟨z1, _, z3, _, z5, _⟩ := eqAt_flatSeq f1 q hA hb
        rw [(eqD_flatSeq hw).1]; exact ⟨z1, z3, z5⟩
      · obtain ⟨rfl, f1⟩ := rep_vOf hw r
        obtain ⟨b, items, rfl, hb⟩ := seq (m := m') (.inr rfl) r' q'
        obtain ⟨z1, _, z3, _, z5, _⟩ := eqAt_flatSeq f1 q hA hb
        rw [(eqD_flatSeq hw).2.1]; exact ⟨z1, z3, z5⟩
    · obtain rfl : n = m := by omega
      rcases dat_cases h' with ⟨w', hw'⟩ | ⟨m', ys, hm', rfl, hy⟩ | ⟨m', ys, hm', rfl, hy⟩
      · obtain ⟨rfl, f1⟩ := rep_vOf hw' r'
        obtain ⟨b, items, rfl, hb⟩ := seq (m := n) (.inl rfl) r q
        obtain ⟨_, z2, _, z4, _, z6⟩ := eqAt_flatSeq f1 q' hA hb
        rw [(eqD_flatSeq hw').2.2.1]; exact ⟨z2, z4, z6⟩
      · obtain rfl : n = m' := by omega
        have hr := r; have hr' := r'
        obtain ⟨a, vs, rfl, q1, q2⟩ := r
        obtain rfl : u = Value.ref a := q
        obtain ⟨us, v1, t1, _⟩ := I.tuple (Same.sqT e q1)
        obtain ⟨b, ws, rfl, q1', q2'⟩ := r'
        obtain rfl : u' = Value.ref b := q'
        obtain ⟨us', v1', t1', _⟩ := I.tuple (Same.sqT e q1')
        have t1 : s.heap.IsTuple a us.toArray := t1
        have t1' : s.heap.IsTuple b us'.toArray := t1'
        have z := RcAt.tuples t1 t1' hA (items_at ih' hx hy q2 v1 q2' v1')
        have zn := RcNeAt.tuples t1 t1' hA (items_at ih' hx hy q2 v1 q2' v1')
        have hz : ((List.range (min us.toArray.size us'.toArray.size)).all (fun j => eqD (xs.getD j .non) (ys.getD j .non)) && us.toArray.size == us'.toArray.size) = eqD (.tup xs) (.tup ys) := by
          rw [eqD_seqs.1, <- eqDs_range]
          simp only [xah, <- v1.length, <- v1'.length, <- q2.length, <- q2'.length]
        rw [hz] at z zn
        refine ⟨?_, z, zn⟩
        by_cases hab : a = b
        · subst hab
          have ed := rep_inj I e (n + 1) h h' hr hr'
          rw [ed, eqD_refl _ _ h']; exact EqAt.same _
        · exact EqAt.of_refs hab z
      · obtain ⟨a, vs, rfl, q1, q2⟩ := r
        obtain rfl : u = Value.ref a := q
        obtain ⟨us, v1, t1, _⟩ := I.tuple (Same.sqT e q1)
        obtain ⟨b, ws, rfl, q1', q2'⟩ := r'
        obtain rfl : u' = Value.ref b := q'
        obtain ⟨us', v1', t1', _⟩ := I.list (e.seq q1')
        have t1 : s.heap.IsTuple a us.toArray := t1
        rw [eqD_seqs.2.2.1]
        exact ⟨EqAt.tuple_list t1 t1'.isList hA, RcAt.tuple_list t1 t1'.isList hA, RcNeAt.tuple_list t1 t1'.isList hA⟩
    · obtain rfl : n = m := by omega
      rcases dat_cases h' with ⟨w', hw'⟩ | ⟨m', ys, hm', rfl, hy⟩ | ⟨m', ys, hm', rfl, hy⟩
      · obtain ⟨rfl, f1⟩ := rep_vOf hw' r'
        obtain ⟨b, items, rfl, hb⟩ := seq (m := n) (.inr rfl) r q
        obtain ⟨_, z2, _, z4, _, z6⟩ := eqAt_flatSeq f1 q' hA hb
        rw [(eqD_flatSeq hw').2.2.2]; exact ⟨z2, z4, z6⟩
      · obtain ⟨a, vs, rfl, q1, q2⟩ := r
        obtain rfl : u = Value.ref a := q
        obtain ⟨us, v1, t1, _⟩ := I.list (e.seq q1)
        obtain ⟨b, ws, rfl, q1', q2'⟩ := r'
        obtain rfl : u' = Value.ref b := q'
        obtain ⟨us', v1', t1', _⟩ := I.tuple (Same.sqT e q1')
        have t1' : s.heap.IsTuple b us'.toArray := t1'
        rw [eqD_seqs.2.2.2]
        exact ⟨EqAt.list_tuple t1.isList t1' hA, RcAt.list_tuple t1.isList t1' hA, RcNeAt.list_tuple t1.isList t1' hA⟩
      · obtain rfl : n = m' := by omega
        have hr := r; have hr' := r'
        obtain ⟨a, vs, rfl, q1, q2⟩ := r
        obtain rfl : u = Value.ref a := q
        obtain ⟨us, v1, t1, _⟩ := I.list (e.seq q1)
        obtain ⟨b, ws, rfl, q1', q2'⟩ := r'
        obtain rfl : u' = Value.ref b := q'
        obtain ⟨us', v1', t1', _⟩ := I.list (e.seq q1')
        have both : RcAt A s (.ref a) (.ref b) (eqD (.lst xs) (.lst ys)) /\ RcNeAt A s (.ref a) (.ref b) (!eqD (.lst xs) (.lst ys)) := by
          by_cases hl : us.toArray.size = us'.toArray.size
          · have z := RcAt.lists t1.isList t1'.isList hl hA (items_at ih' hx hy q2 v1 q2' v1')
            have zn := RcNeAt.lists t1.isList t1'.isList hl hA (items_at ih' hx hy q2 v1 q2' v1')
            have hz : (List.range us.toArray.size).all (fun j => eqD (xs.getD j .non) (ys.getD j .non)) = eqD (.lst xs) (.lst ys) := by
              have hl' : xs.length = ys.length := by rw [q2.length, q2'.length, v1.length, v1'.length]; simpa using hl
              rw [eqD_seqs.2.1, <- eqDs_range, hl', Nat.min_self, xah, <- v1.length, <- q2.length, hl']
              simp
            rw [hz] at z zn
            exact ⟨z, zn⟩
          · have z := RcAt.lists_lengths t1.isList t1'.isList (by simpa using hl) hA
            have zn := RcNeAt.lists_lengths t1.isList t1'.isList (by simpa using hl) hA
            have hz : eqD (.lst xs) (.lst ys) = false := by
              have hl' : ¬ xs.length = ys.length := by rw [q2.length, q2'.length, v1.length, v1'.length]; simpa using hl
              rw [eqD_seqs.2.1, <- eqDs_range]
              simp [hl']
            rw [hz]
            exact ⟨z, zn⟩
        refine ⟨?_, both⟩
        by_cases hab : a = b
        · subst hab
          have ed := rep_inj I e (n + 1) h h' hr hr'
          rw [ed, eqD_refl _ _ h']; exact EqAt.same _
        · exact EqAt.of_refs hab both.1
end
end DL
namespace DL
open L2 PyProof.Rows
def B (n : Nat) (i : Int) : Prop := i.natAbs < 2 ^ n
theorem B.mono {m n : Nat} {i : Int} (h : B m i) (l : m <= n) : B n i := xaj h (Nat.pow_le_pow_right (by decide) l)
theorem B.mul {m n : Nat} {i j : Int} (a : B m i) (b : B n j) : B (m + n) (i * j) := by
  unfold B at *
  rw [xci, Nat.pow_add]
  exact Nat.mul_lt_mul'' a b
theorem B.add {m n : Nat} {i j : Int} (a : B m i) (b : B n j) : B (max m n + 1) (i + j) := by
  have a' := a.mono (Nat.le_max_left m n)
  have b' := b.mono (Nat.le_max_right m n)
  unfold B at *
  rw [Nat.pow_succ]
  omega
theorem B.sub {m n : Nat} {i j : Int} (a : B m i) (b : B n j) : B (max m n + 1) (i - j) := by
  have a' := a.mono (Nat.le_max_left m n)
  have b' := b.mono (Nat.le_max_right m n)
  unfold B at *
  rw [Nat.pow_succ]
  omega
theorem B.of {n : Nat} {i : Int} {k : Nat} (h : i.natAbs <= k) (hk : k < 2 ^ n := by decide +kernel) : B n i := xbo h hk
theorem B.log {n : Nat} {i : Int} (h : B n i) (hn : 0 < n) : i.natAbs.log2 < n := log2_lt_of hn h
def mulB (i : Int) : Bool := decide (i.natAbs.log2 < 60000000)
theorem mulB_of {n : Nat} {i : Int} (h : B n i) (hn : n <= 60000000 := by decide) : mulB i = true := by
  refine decide_eq_true ?_
  cases n with
  | zero =>
    have : i.natAbs = 0 := by unfold B at h; omega
    rw [this]; decide
  | succ k => exact xaj (h.log (Nat.succ_pos _)) hn
theorem mulB_ok {i j : Int} (a : mulB i = true) (b : mulB j = true) : IntMulOk i j := by
  have h1 : i.natAbs.log2 < 60000000 := of_decide_eq_true a
  have h2 : j.natAbs.log2 < 60000000 := of_decide_eq_true b
  have bits : ∀ k : Int, k.natAbs.log2 < 60000000 -> Builtin.Int.intBits k <= 60000000 := fun k h => by
    unfold Builtin.Int.intBits
    split
    · exact xcm _
    · omega
  have b1 := bits i h1
  have b2 := bits j h2
  unfold IntMulOk
  intro z
  simp only [xat, decide_eq_true_eq, Builtin.Int.intTooBig] at z
  have e := z.2
  have l : (bitsLine : Int) = 134217728 := by decide
  rw [l] at e
  omega
def divB (i : Int) : Bool := decide (i ≠ 0 /\ i.natAbs.log2 < 9000)
theorem divB_of {n : Nat} {i : Int} (h : B n i) (h0 : i ≠ 0) (hn : n <= 9000 := by decide) : divB i = true := by
  refine decide_eq_true ⟨h0, ?_⟩
  cases n with
  | zero =>
    have : i.natAbs = 0 := by unfold B at h; omega
    omega
  | succ k => exact xaj (h.log (Nat.succ_pos _)) hn
def powB (i j : Int) : Bool := decide (0 <= j /\ j <= 1000000 /\ i.natAbs < 2 ^ 64)
section
variable {X : Cx} {K : xFg} {mg : Str -> Option Value}
def gI (C : Int -> Int -> Bool) (h : Int -> Int -> Int) : D -> D -> R D
  | .int i, .int j => bif C i j then .ok (.int (h i j)) else .bad
  | _, _ => .bad
def gB (h : Int -> Int -> Bool) : D -> D -> R D
  | .int i, .int j => .ok (.bl (h i j))
  | _, _ => .bad
theorem nx_I {C : Int -> Int -> Bool} {h : Int -> Int -> Int} : NoErr (gI C h) := by
  intro a b e
  cases a <;> cases b <;> simp only [gI] <;> first | (intro z; cases z) | (intro z; revert z; cases C _ _ <;> simp [cond])
theorem nx_B {h : Int -> Int -> Bool} : NoErr (gB h) := by
  intro a b e
  cases a <;> cases b <;> simp only [gB] <;> (intro z; cases z)
theorem od_I {C : Int -> Int -> Bool} {C' : Int -> Int -> Prop} {h : Int -> Int -> Int} (hc : ∀ i j, C i j = true -> C' i j) : OpD K mg (rI C' fun i j => .int (h i j)) (gI C h) := by
  intro G H a b x y Q e ra rb q
  cases a with
  | int i => cases b with
    | int j =>
      cases ra; cases rb
      cases hC : C i j with
      | false => simp only [gI, hC, cond_false] at q; exact q.elim
      | true =>
        simp only [gI, hC, cond_true] at q
        exact ⟨i, j, rfl, rfl, hc i j hC, After.now q e rfl⟩
    | _ => exact (show False from q).elim
  | _ => exact (show False from q).elim
theorem od_B {h : Int -> Int -> Bool} : OpD K mg (rI0 fun i j => .bl (h i j)) (gB h) := by
  intro G H a b x y Q e ra rb q
  cases a with
  | int i => cases b with
    | int j => cases ra; cases rb; exact ⟨i, j, rfl, rfl, After.now q e rfl⟩
    | _ => exact (show False from q).elim
  | _ => exact (show False from q).elim
theorem op_mulD : OpR X (binaryOp .Mult) (rI (fun i j => mulB i = true /\ mulB j = true) fun i j => .int (i * j)) := opI fun _ _ _ _ _ _ _ hc q => mul_int q (mulB_ok hc.1 hc.2)
theorem op_fdivD : OpR X (binaryOp .FloorDiv) (rI (fun _ j => divB j = true) fun i j => .int (i.fdiv j)) := opI fun i j _ _ _ _ _ hc q => by
  have h := of_decide_eq_true (p := j ≠ 0 /\ j.natAbs.log2 < 9000) hc
  exact floordiv_int h.1 q (.inl (PyProof.noPylong_of_log2 h.2))
def rCatL (K : xFg) : R2 := fun x y H Q => ∃ l b xs zs, x = .ref l /\ y = .ref b /\ SqL K H l xs /\ SqL K H b zs /\ xs.length + zs.length <= sizeLine /\ ∀ p, H p = none -> Q (.ref p) (upd H p (.lst (xs ++ zs)))
theorem op_catL : OpR X (binaryOp .Add) (rCatL X.K) := by
  intro pins s Z H x y v u Q I rx ry h
  obtain ⟨l, b, xs, zs, rfl, rfl, hH, hB, hz, q⟩ := h
  cases rx
  cases ry
  obtain ⟨its, r, pl, _⟩ := I.list hH
  obtain ⟨its2, r2, pl2, _⟩ := I.list hB
  obtain ⟨⟨cls, dd, data, sl⟩, ho, hc, n, hd⟩ := id pl.isList
  obtain ⟨⟨cls2, dd2, data2, sl2⟩, ho2, hc2, n2, hd2⟩ := id pl2.isList
  simp only at hc hd hc2 hd2
  subst hc hd hc2 hd2
  refine concat_meets ⟨_, ho, rfl⟩ ⟨_, ho2, rfl⟩ noFill_list_add seq_list_add PySem.F.slot_list_add PySem.F.entry_list_add (PySem.F.args_list_add_2 _ _) (list_addW l b its.toArray its2.toArray n n2 dd dd2 sl sl2 (by rw [xah, xah, <- r.length, <- r2.length]; exact hz)) ⟨ho, ho2, ?_⟩
  have ea : its.toArray ++ its2.toArray = (its ++ its2).toArray := by simp
  rw [ea]
  exact ⟨.ref _, _, I.lnew (t' := s.toks) (r.append r2) (by rw [xbv]; exact hz), rfl, q _ I.fresh⟩
def le24 (n : Nat) : Bool := decide (n <= sizeLine)
def gAdd : D -> D -> R D
  | .int i, .int j => .ok (.int (i + j))
  | .str x, .str y => bif le24 (x.length + y.length) then .ok (.str (x ++ y)) else .bad
  | .lst xs, .lst ys => bif le24 (xs.length + ys.length) then .ok (.lst (xs ++ ys)) else .bad
  | .tup xs, .tup ys => bif le24 (xs.length + ys.length) && !xs.isEmpty then .ok (.tup (xs ++ ys)) else .bad
  | _, _ => .bad
theorem nx_add : NoErr gAdd := by
  intro a b e
  cases a <;> cases b <;> simp only [gAdd] <;> first | (intro z; cases z; done) | (generalize le24 _ = k; cases k <;> simp [cond] <;> (try (generalize List.isEmpty _ = k2; cases k2 <;> simp)))
abbrev rAddD (K : xFg) : R2 := fun x y H Q => rI0 (fun i j => .int (i + j)) x y H Q \/ ((∃ i j, x = .str i /\ y = .str j /\ i.length + j.length <= sizeLine /\ Q (.str (i ++ j)) H) \/ (rCatL K x y H Q \/ rCatT K x y H Q))
theorem od_add : OpD K mg (rAddD K) gAdd := by
  intro G H a b x y Q e ra rb q
  cases a with
  | int i => cases b with
    | int j => cases ra; cases rb; exact .inl ⟨i, j, rfl, rfl, After.now q e rfl⟩
    | _ => exact (show False from q).elim
  | str i => cases b with
    | str j =>
      cases ra; cases rb
      cases hC : le24 (i.length + j.length) with
      | false => simp only [gAdd, hC, cond_false] at q; exact q.elim
      | true =>
        simp only [gAdd, hC, cond_true] at q
        exact .inr (.inl ⟨i, j, rfl, rfl, of_decide_eq_true hC, After.now q e rfl⟩)
    | _ => exact (show False from q).elim
  | lst xs => cases b with
    | lst ys =>
      obtain ⟨p, vs, rfl, h1, h2⟩ := ra
      obtain ⟨p', ws, rfl, h1', h2'⟩ := rb
      cases hC : le24 (xs.length + ys.length) with
      | false => simp only [gAdd, hC, cond_false] at q; exact q.elim
      | true =>
        simp only [gAdd, hC, cond_true] at q
        refine .inr (.inr (.inl ⟨p, p', vs, ws, rfl, rfl, e.seq h1, e.seq h1', by rw [<- h2.length, <- h2'.length]; exact of_decide_eq_true hC, fun l hl => ?_⟩))
        have s := Step.pub (o := .lst (vs ++ ws)) e hl
        exact (show After K mg Q G H (.lst (xs ++ ys)) from q) _ _ _ s ⟨l, _, rfl, SqL.of upd_same, (h2.append h2').mono s.g⟩
    | _ => exact (show False from q).elim
  | tup xs => cases b with
    | tup ys =>
      obtain ⟨p, vs, rfl, h1, h2⟩ := ra
      obtain ⟨p', ws, rfl, h1', h2'⟩ := rb
      cases hC : (le24 (xs.length + ys.length) && !xs.isEmpty) with
      | false => simp only [gAdd, hC, cond_false] at q; exact q.elim
      | true =>
        simp only [gAdd, hC, cond_true] at q
        rw [xat] at hC
        have q' : After K mg Q G H (.tup (xs ++ ys)) := q
        refine .inr (.inr (.inr ⟨p, p', vs, ws, rfl, rfl, Same.sqT e h1, Same.sqT e h1', fun z => ?_, by rw [<- h2.length, <- h2'.length]; exact of_decide_eq_true hC.1, fun z => ?_, fun z l hl => ?_⟩))
        · subst z
          have := h2.length
          have hx : xs = [] := List.length_eq_zero_iff.mp this
          subst hx; simp at hC
        · subst z
          have := h2'.length
          have hy : ys = [] := List.length_eq_zero_iff.mp this
          subst hy
          rw [xcw] at q'
          exact q'.now e ⟨p, vs, rfl, h1, h2⟩
        · have s := Step.pub (o := .tup (vs ++ ws)) e hl
          exact q' _ _ _ s ⟨l, _, rfl, SqT.of upd_same, (h2.append h2').mono s.g⟩
    | _ => exact (show False from q).elim
  | _ => exact (show False from q).elim
abbrev gSub : D -> D -> R D := gI (fun _ _ => true) fun i j => i - j
abbrev gMul : D -> D -> R D := gI (fun i j => mulB i && mulB j) fun i j => i * j
abbrev gFdiv : D -> D -> R D := gI (fun _ j => divB j) fun i j => i.fdiv j
abbrev gMod : D -> D -> R D := gI (fun _ j => decide (j ≠ 0)) fun i j => i.fmod j
abbrev gPow : D -> D -> R D := gI powB fun i j => i ^ j.toNat
abbrev gShr : D -> D -> R D := gI (fun _ j => decide (0 <= j)) fun i j => i / 2 ^ j.toNat
variable {E : XK} {a b c : Expr} {fa fb fc : DSt -> R D} {pos : Pos}
theorem de_add (ha : DE X E a fa) (hb : DE X E b fb) : DE X E (.BinOp a .Add b pos) (eOp gAdd fa fb) := de_op (op_add.or (op_add_str.or (op_catL.or op_catT))) od_add nx_add ha hb
theorem de_sub (ha : DE X E a fa) (hb : DE X E b fb) : DE X E (.BinOp a .Sub b pos) (eOp gSub fa fb) :=
  de_op (r := rI (fun _ _ => True) fun i j => .int (i - j)) (opI fun _ _ _ _ _ _ _ _ q => sub_int q) (od_I fun _ _ _ => trivial) nx_I ha hb
theorem de_mul (ha : DE X E a fa) (hb : DE X E b fb) : DE X E (.BinOp a .Mult b pos) (eOp gMul fa fb) := de_op op_mulD (od_I fun i j h => by simpa using h) nx_I ha hb
theorem de_fdiv (ha : DE X E a fa) (hb : DE X E b fb) : DE X E (.BinOp a .FloorDiv b pos) (eOp gFdiv fa fb) := de_op op_fdivD (od_I fun i j h => h) nx_I ha hb
theorem de_mod (ha : DE X E a fa) (hb : DE X E b fb) : DE X E (.BinOp a .Mod b pos) (eOp gMod fa fb) := de_op op_modN (od_I fun i j h => of_decide_eq_true h) nx_I ha hb
theorem de_pow (ha : DE X E a fa) (hb : DE X E b fb) : DE X E (.BinOp a .Pow b pos) (eOp gPow fa fb) := de_op op_pow (od_I fun i j h => of_decide_eq_true (p := 0 <= j /\ j <= 1000000 /\ i.natAbs < 2 ^ 64) h) nx_I ha hb
def gNeg : D -> R D
  | .int i => .ok (.int (-i))
  | _ => .bad
theorem de_neg (ha : DE X E a fa) : DE X E (.UnaryOp .USub a pos) (eUn gNeg fa) := by
  refine de_un un_neg (fun G H d x Q e r q => ?_) (fun d e => ?_) ha
  · cases d with
    | int i => cases r; exact ⟨i, rfl, After.now q e rfl⟩
    | _ => exact (show False from q).elim
  · cases d <;> simp [gNeg]
structure CmpF (X : Cx) (op : CmpOp) (g : D -> D -> R D) : Prop where
  ex : ∃ r, OpR X (compareOp op) r /\ OpD X.K X.mg r g /\ NoErr g
abbrev gLt : D -> D -> R D := gB fun i j => decide (i < j)
abbrev gLe : D -> D -> R D := gB fun i j => decide (i <= j)
abbrev gGt : D -> D -> R D := gB fun i j => decide (j < i)
abbrev gGe : D -> D -> R D := gB fun i j => decide (j <= i)
theorem cf_lt : CmpF X .Lt gLt := ⟨_, op_lt, od_B, nx_B⟩
theorem cf_le : CmpF X .LtE gLe := ⟨_, op_le, od_B, nx_B⟩
theorem cf_gt : CmpF X .Gt gGt := ⟨_, op_gt, od_B, nx_B⟩
theorem cf_ge : CmpF X .GtE gGe := ⟨_, op_ge, od_B, nx_B⟩
def cmp2 (a b : D) : Bool := datN 9 a && datN 9 b
def gEq (a b : D) : R D := bif cmp2 a b then .ok (.bl (eqD a b)) else .bad
def gNe (a b : D) : R D := bif cmp2 a b then .ok (.bl (!eqD a b)) else .bad
def rEqD (K : xFg) (mg : Str -> Option Value) (neg : Bool) : R2 := fun x y H Q => ∃ G d d', Same G H /\ Rep K mg G d x /\ Rep K mg G d' y /\ cmp2 d d' = true /\ Q (.bl (bif neg then !eqD d d' else eqD d d')) H
theorem op_eqD {k : Nat} (r : Room k X.A) : OpR X (compareOp .Eq) (rEqD X.K X.mg false) := by
  intro pins s Z H x y v u Q I rx ry h
  obtain ⟨G, d, d', e, r1, r2, c, q⟩ := h
  unfold cmp2 at c
  rw [xat] at c
  have hu : X.A.units + 9 < cLine := by have := r.un; omega
  exact (eqAt_D I e 9 hu c.1 c.2 r1 rx r2 ry).2.1 _ _ _ _ ⟨.bl _, H, I, rfl, q⟩
theorem op_neD {k : Nat} (r : Room k X.A) : OpR X (compareOp .NotEq) (rEqD X.K X.mg true) := by
  intro pins s Z H x y v u Q I rx ry h
  obtain ⟨G, d, d', e, r1, r2, c, q⟩ := h
  unfold cmp2 at c
  rw [xat] at c
  have hu : X.A.units + 9 < cLine := by have := r.un; omega
  exact (eqAt_D I e 9 hu c.1 c.2 r1 rx r2 ry).2.2 _ _ _ _ ⟨.bl _, H, I, rfl, q⟩
theorem cf_eq {k : Nat} (C : XC X E k) : CmpF X .Eq gEq := ⟨_, op_eqD C.room, fun G H a b x y Q e ra rb q => by
  unfold gEq at q
  cases hc : cmp2 a b with
  | false => rw [hc] at q; exact q.elim
  | true => rw [hc] at q; exact ⟨G, a, b, e, ra, rb, hc, After.now q e rfl⟩, fun a b e => by unfold gEq; cases cmp2 a b <;> simp [cond]⟩
theorem cf_ne {k : Nat} (C : XC X E k) : CmpF X .NotEq gNe := ⟨_, op_neD C.room, fun G H a b x y Q e ra rb q => by
  unfold gNe at q
  cases hc : cmp2 a b with
  | false => rw [hc] at q; exact q.elim
  | true => rw [hc] at q; exact ⟨G, a, b, e, ra, rb, hc, After.now q e rfl⟩, fun a b e => by unfold gNe; cases cmp2 a b <;> simp [cond]⟩
def isNon : D -> Bool
  | .non => true
  | _ => false
def gIs : D -> D -> R D
  | d, .non => .ok (.bl (isNon d))
  | .bl a, .bl b => .ok (.bl (a == b))
  | _, _ => .bad
def gIsn : D -> D -> R D
  | d, .non => .ok (.bl (!isNon d))
  | .bl a, .bl b => .ok (.bl (a != b))
  | _, _ => .bad
theorem rep_isNon {G : Hp} {d : D} {x : V} (r : Rep K mg G d x) : decide (x = .non) = isNon d := by
  have nr : ∀ a : Addr, decide (V.ref a = V.non) = false := fun a => by simp
  cases d with
  | non => cases r; rfl
  | bl b => cases r; rfl
  | int i => cases r; rfl
  | str y => cases r; rfl
  | ty n => cases r; rfl
  | cls c => obtain ⟨C, rfl, _⟩ := r; exact nr _
  | tup xs => obtain ⟨a, vs, rfl, _⟩ := r; exact nr _
  | lst xs => obtain ⟨a, vs, rfl, _⟩ := r; exact nr _
  | dct ks xs => obtain ⟨a, vs, rfl, _⟩ := r; exact nr _
  | exc c as => obtain ⟨a, C, dct, vs, rfl, _⟩ := r; exact nr _
theorem cf_is : CmpF X .Is gIs := ⟨_, op_isN.or op_is_bl, fun G H a b x y Q e ra rb q => by
  cases b with
  | non => cases rb; exact .inl ⟨rfl, by rw [rep_isNon ra]; cases a <;> exact After.now q e rfl⟩
  | bl k => cases a with
    | bl k' => cases ra; cases rb; exact .inr ⟨k', k, rfl, rfl, After.now q e rfl⟩
    | _ => exact (show False from q).elim
  | _ => cases a <;> exact (show False from q).elim, fun a b e => by cases a <;> cases b <;> simp [gIs]⟩
theorem cf_isn : CmpF X .IsNot gIsn := ⟨_, op_notN.or op_isnot_bl, fun G H a b x y Q e ra rb q => by
  cases b with
  | non => cases rb; exact .inl ⟨rfl, by rw [rep_isNon ra]; cases a <;> exact After.now q e rfl⟩
  | bl k => cases a with
    | bl k' => cases ra; cases rb; exact .inr ⟨k', k, rfl, rfl, After.now q e rfl⟩
    | _ => exact (show False from q).elim
  | _ => cases a <;> exact (show False from q).elim, fun a b e => by cases a <;> cases b <;> simp [gIsn]⟩
theorem de_cmp1 {op : CmpOp} {g : D -> D -> R D} (cf : CmpF X op g) (ha : DE X E a fa) (hb : DE X E b fb) (hm : behindInMarks op b = false := by first | exact nobehind _ (by decide) (by decide) | rfl) : DE X E (.Compare a [op] [b] pos) (eOp g fa fb) := by
  obtain ⟨r, h1, h2, h3⟩ := cf.ex
  exact de_cmp h1 h2 h3 ha hb hm
theorem dt_cmp1 {op : CmpOp} {g : D -> D -> R D} (cf : CmpF X op g) (ha : DE X E a fa) (hb : DE X E b fb) (hm : behindInMarks op b = false := by first | exact nobehind _ (by decide) (by decide) | rfl) : DT X E (.Compare a [op] [b] pos) (eTest (eOp g fa fb)) := by
  obtain ⟨r, h1, h2, h3⟩ := cf.ex
  exact dt_cmp h1 h2 h3 ha hb hm
theorem dt_chain2 {op op' : CmpOp} {g g' : D -> D -> R D} (cf : CmpF X op g) (cf' : CmpF X op' g') (ha : DE X E a fa) (hb : DE X E b fb) (hc : DE X E c fc) (hm : lastMarks [op, op'] [b, c] = false := by with_unfolding_all rfl) : DT X E (.Compare a [op, op'] [b, c] pos) (eTest (eChain g g' fa fb fc)) := by
  obtain ⟨r, h1, h2, h3⟩ := cf.ex
  obtain ⟨r', h1', h2', h3'⟩ := cf'.ex
  exact dt_chain h1 h2 h3 h1' h2' h3' ha hb hc hm
end
end DL
namespace DL
open L2 PyProof.Rows
section
variable {X : Cx} {E : XK} {K : xFg} {mg : Str -> Option Value} {G H : Hp}
theorem boot_all : bootBuiltins "all" = some (.builtin "all") := by rfl
theorem boot_isi : bootBuiltins "isinstance" = some (.builtin "isinstance") := by rfl
theorem bt_int : bootBuiltins "int" = some (.type "int") := by rfl
theorem bt_bool : bootBuiltins "bool" = some (.type "bool") := by rfl
theorem bt_str : bootBuiltins "str" = some (.type "str") := by rfl
theorem bt_tuple : bootBuiltins "tuple" = some (.type "tuple") := by rfl
theorem bt_list : bootBuiltins "list" = some (.type "list") := by rfl
theorem Reps.one {d : D} {vs : List V} (h : Reps K mg G [d] vs) : ∃ v, vs = [v] /\ Rep K mg G d v := by
  obtain ⟨v, r, rfl, h2, h3⟩ := h
  cases h3
  exact ⟨v, rfl, h2⟩
theorem Reps.two {d d' : D} {vs : List V} (h : Reps K mg G [d, d'] vs) : ∃ v w, vs = [v, w] /\ Rep K mg G d v /\ Rep K mg G d' w := by
  obtain ⟨v, r, rfl, h2, h3⟩ := h
  obtain ⟨w, rfl, h4⟩ := h3.one
  exact ⟨v, w, rfl, h2, h4⟩
def g1 {α : Type} (g : D -> R α) : List D -> R α
  | [d] => g d
  | _ => .bad
def g2 {α : Type} (g : D -> D -> R α) : List D -> R α
  | [d, e] => g d e
  | _ => .bad
theorem cd1 {r : List V -> Hp -> VK -> Prop} {g : D -> R D} (h : ∀ (G H : Hp) (d : D) (v : V) (Q : VK), Same G H -> Rep K mg G d v -> RW (g d) (After K mg Q G H) (fun _ => False) -> r [v] H Q) : CallD K mg r (g1 g) := by
  intro G H ds vs Q e rp q
  match ds, rp, q with
  | [], rp, q => exact (show False from q).elim
  | [d], rp, q => obtain ⟨v, rfl, h1⟩ := rp.one; exact h G H d v Q e h1 q
  | _ :: _ :: _, rp, q => exact (show False from q).elim
theorem cd2 {r : List V -> Hp -> VK -> Prop} {g : D -> D -> R D} (h : ∀ (G H : Hp) (d d' : D) (v v' : V) (Q : VK), Same G H -> Rep K mg G d v -> Rep K mg G d' v' -> RW (g d d') (After K mg Q G H) (fun _ => False) -> r [v, v'] H Q) : CallD K mg r (g2 g) := by
  intro G H ds vs Q e rp q
  match ds, rp, q with
  | [], rp, q => exact (show False from q).elim
  | [d], rp, q => exact (show False from q).elim
  | [d, d'], rp, q => obtain ⟨v, w, rfl, h1, h2⟩ := rp.two; exact h G H d d' v w Q e h1 h2 q
  | _ :: _ :: _ :: _, rp, q => exact (show False from q).elim
variable {x : Str} {p pos : Pos} {e : Expr} {es : List Expr} {fs : DSt -> R (List D)}
def len1 : D -> R D
  | .lst xs => .ok (.int xs.length)
  | .tup xs => .ok (.int xs.length)
  | .str y => bif le24 y.length then .ok (.int y.length) else .bad
  | _ => .bad
abbrev gLen := g1 len1
theorem cd_len : CallD K mg (fun xs H Q => (∃ p ys, xs = [.ref p] /\ (SqL K H p ys \/ SqT K H p ys) /\ Q (.int ys.length) H) \/ (∃ z, xs = [.str z] /\ z.length <= sizeLine /\ Q (.int z.length) H)) gLen := cd1 fun G H d v Q e r q => by
  cases d with
  | lst xs =>
    obtain ⟨a, vs, rfl, h1, h2⟩ := r
    exact .inl ⟨a, vs, rfl, .inl (e.seq h1), by rw [<- h2.length]; exact After.now q e rfl⟩
  | tup xs =>
    obtain ⟨a, vs, rfl, h1, h2⟩ := r
    exact .inl ⟨a, vs, rfl, .inr (Same.sqT e h1), by rw [<- h2.length]; exact After.now q e rfl⟩
  | str y =>
    cases r
    cases hC : le24 y.length with
    | false => simp only [len1, hC, cond_false] at q; exact q.elim
    | true => simp only [len1, hC, cond_true] at q; exact .inr ⟨y, rfl, of_decide_eq_true hC, After.now q e rfl⟩
  | _ => exact (show False from q).elim
theorem de_len (hm : X.mg "len" = none) (ha : DA X E (e :: es) fs) (hg : Gl X "len" := by rfl) (he : starEach (e :: es) X.env = (false, eval e X.env) :: starEach es X.env := by rfl) (hpl : (backTo pos (starEach es X.env)).any (·.1) = false := by rfl) : DE X E (.Call (.Name "len" p) (e :: es) [] pos) (eBlt gLen fs) :=
  de_blt (call_len_seq.or call_len_str) cd_len hm PySem.boot_len ha hg (by decide) (by decide) he hpl
def abs1 : D -> R D
  | .int i => .ok (.int (i.natAbs : Int))
  | _ => .bad
abbrev gAbs := g1 abs1
theorem cd_abs : CallD K mg (fun xs H Q => ∃ i, xs = [.int i] /\ Q (.int (if i < 0 then -i else i)) H) gAbs := cd1 fun G H d v Q e r q => by
  cases d with
  | int i =>
    cases r
    have ea : (if i < 0 then -i else i) = (i.natAbs : Int) := by split <;> omega
    exact ⟨i, rfl, by rw [ea]; exact After.now q e rfl⟩
  | _ => exact (show False from q).elim
theorem de_abs (hm : X.mg "abs" = none) (ha : DA X E (e :: es) fs) (hg : Gl X "abs" := by rfl) (he : starEach (e :: es) X.env = (false, eval e X.env) :: starEach es X.env := by rfl) (hpl : (backTo pos (starEach es X.env)).any (·.1) = false := by rfl) : DE X E (.Call (.Name "abs" p) (e :: es) [] pos) (eBlt gAbs fs) :=
  de_blt call_abs cd_abs hm PyProof.Rows.boot_abs ha hg (by decide) (by decide) he hpl
def min2 : D -> D -> R D
  | .int i, .int j => .ok (.int (min i j))
  | _, _ => .bad
def max2 : D -> D -> R D
  | .int i, .int j => .ok (.int (max i j))
  | _, _ => .bad
abbrev gMin := g2 min2
abbrev gMax := g2 max2
theorem cd_max : CallD K mg (fun xs H Q => ∃ i j, xs = [.int i, .int j] /\ Q (.int (if j > i then j else i)) H) gMax := cd2 fun G H d d' v v' Q e r r' q => by
  cases d with
  | int i => cases d' with
    | int j =>
      cases r; cases r'
      have ea : (if j > i then j else i) = max i j := by split <;> omega
      exact ⟨i, j, rfl, by rw [ea]; exact After.now q e rfl⟩
    | _ => exact (show False from q).elim
  | _ => exact (show False from q).elim
theorem de_max (hc : X.calm = true) (hm : X.mg "max" = none) (ha : DA X E (e :: es) fs) (hg : Gl X "max" := by rfl) (he : starEach (e :: es) X.env = (false, eval e X.env) :: starEach es X.env := by rfl) (hpl : (backTo pos (starEach es X.env)).any (·.1) = false := by rfl) : DE X E (.Call (.Name "max" p) (e :: es) [] pos) (eBlt gMax fs) :=
  de_blt (call_max2 hc) cd_max hm PyProof.Rows.boot_max ha hg (by decide) (by decide) he hpl
def intsOf : List D -> Option (List Int)
  | [] => some []
  | .int i :: r => (intsOf r).map (i :: ·)
  | _ => none
def blsOf : List D -> Option (List Bool)
  | [] => some []
  | .bl b :: r => (blsOf r).map (b :: ·)
  | _ => none
theorem intsOf_is : ∀ {ds : List D} {ns : List Int}, intsOf ds = some ns -> ds = ns.map D.int
  | [], ns, h => by simp only [intsOf, Option.some.injEq] at h; subst h; rfl
  | .int i :: r, ns, h => by
    simp only [intsOf, xcn] at h
    obtain ⟨ms, h1, rfl⟩ := h
    rw [intsOf_is h1]; rfl
theorem blsOf_is : ∀ {ds : List D} {bs : List Bool}, blsOf ds = some bs -> ds = bs.map D.bl
  | [], ns, h => by simp only [blsOf, Option.some.injEq] at h; subst h; rfl
  | .bl i :: r, ns, h => by
    simp only [blsOf, xcn] at h
    obtain ⟨ms, h1, rfl⟩ := h
    rw [blsOf_is h1]; rfl
theorem blsOf_map : ∀ bs : List Bool, blsOf (bs.map D.bl) = some bs
  | [] => rfl
  | n :: r => by rw [xa9]; unfold blsOf; rw [blsOf_map r]; rfl
def sum1 : D -> R D
  | .lst xs => match intsOf xs with
    | some ns => .ok (.int ns.sum)
    | none => .bad
  | _ => .bad
def all1 : D -> R D
  | .lst xs => match blsOf xs with
    | some bs => .ok (.bl (bs.all id))
    | none => .bad
  | _ => .bad
abbrev gAll := g1 all1
theorem cd_all : CallD K mg (fun xs H Q => ∃ (p : Addr) (bs : List Bool), xs = [.ref p] /\ SqL K H p (bs.map V.bl) /\ Q (.bl (bs.all id)) H) gAll := cd1 fun G H d v Q e r q => by
  cases d with
  | lst xs =>
    obtain ⟨a, vs, rfl, h1, h2⟩ := r
    cases hn : blsOf xs with
    | none => simp only [all1, hn] at q; exact q.elim
    | some ns =>
      simp only [all1, hn] at q
      rw [blsOf_is hn] at h2
      rw [Reps.of_bools h2] at h1
      exact ⟨a, ns, rfl, e.seq h1, After.now q e rfl⟩
  | _ => exact (show False from q).elim
theorem de_all (hc : X.calm = true) (hm : X.mg "all" = none) (ha : DA X E (e :: es) fs) (hg : Gl X "all" := by rfl) (he : starEach (e :: es) X.env = (false, eval e X.env) :: starEach es X.env := by rfl) (hpl : (backTo pos (starEach es X.env)).any (·.1) = false := by rfl) : DE X E (.Call (.Name "all" p) (e :: es) [] pos) (eBlt gAll fs) :=
  de_blt (call_all hc) cd_all hm boot_all ha hg (by decide) (by decide) he hpl
def int1 : D -> R D
  | .int i => .ok (.int i)
  | .bl b => .ok (.int (if b then 1 else 0))
  | _ => .bad
abbrev gInt := g1 int1
def tuple1 : D -> R D
  | .lst xs => .ok (.tup xs)
  | .tup xs => .ok (.tup xs)
  | _ => .bad
def eBltF (g : List D -> R (List D)) (fs : DSt -> R (List D)) : DSt -> R (List D) := fun Z => (fs Z).bind fun ds => (g ds).noerr
def CallF (K : xFg) (mg : Str -> Option Value) (r : List V -> Hp -> VK -> Prop) (g : List D -> R (List D)) : Prop :=
  ∀ (G H : Hp) (ds : List D) (vs : List V) (Q : VK), Same G H -> Reps K mg G ds vs -> RW (g ds) (AfterF K mg Q G H) (fun _ => False) -> r vs H Q
theorem df_bty {T : String} {r : List V -> Hp -> VK -> Prop} {g : List D -> R (List D)} (hc : CallR X (.type T) r) (hd : CallF X.K X.mg r g) (hm : X.mg x = none) (ha : DA X E (e :: es) fs) (hv : bootBuiltins x = some (.type T) := by rfl) (hg : Gl X x := by rfl) (hn : x ≠ "__name__" := by decide) (hdb : (x == ("__debug__" : Str)) = false := by decide)
    (he : starEach (e :: es) X.env = (false, eval e X.env) :: starEach es X.env := by rfl) (hpl : (backTo pos (starEach es X.env)).any (·.1) = false := by rfl) : DF X E (.Call (.Name x p) (e :: es) [] pos) (eBltF g fs) := by
  refine PE.mono' (pe_callTy hc hg hm hv ha hn hdb he hpl) fun Z H Q ⟨G, Zd, ok, q⟩ => ?_
  refine ⟨G, Zd, ok, q.of_bind.mono (fun ds _ z vs G' H' s r => ?_) fun _ z => z⟩
  obtain ⟨d, e1, z⟩ := noerr_ok z
  exact hd G' H' ds vs Q s.e r (by rw [e1]; exact z.step s)
def list1 : D -> R (List D)
  | .lst xs => .ok xs
  | .tup xs => .ok xs
  | _ => .bad
abbrev gList := g1 list1
theorem cd_list : CallF K mg (fun xs H Q => ∃ p ys, xs = [.ref p] /\ (SqL K H p ys \/ SqT K H p ys) /\ ∀ l, H l = none -> Q (.ref l) (upd H l (.lst ys))) gList := by
  intro G H ds vs Q e rp q
  have go : ∀ xs vs, Reps K mg G xs vs -> AfterF K mg Q G H xs -> ∀ l, H l = none -> Q (.ref l) (upd H l (.lst vs)) := fun xs vs h z l hl => z l vs G _ (.hid e hl) hl upd_same (e.free hl) h
  match ds, rp, q with
  | [], rp, q => exact (show False from q).elim
  | [d], rp, q =>
    obtain ⟨v, rfl, r⟩ := rp.one
    cases d with
    | lst xs => obtain ⟨a, vs, rfl, h1, h2⟩ := r; exact ⟨a, vs, rfl, .inl (e.seq h1), go xs vs h2 q⟩
    | tup xs => obtain ⟨a, vs, rfl, h1, h2⟩ := r; exact ⟨a, vs, rfl, .inr (Same.sqT e h1), go xs vs h2 q⟩
    | _ => exact (show False from q).elim
  | _ :: _ :: _, rp, q => exact (show False from q).elim
theorem df_list (hm : X.mg "list" = none) (ha : DA X E (e :: es) fs) (hg : Gl X "list" := by rfl) (he : starEach (e :: es) X.env = (false, eval e X.env) :: starEach es X.env := by rfl) (hpl : (backTo pos (starEach es X.env)).any (·.1) = false := by rfl) : DF X E (.Call (.Name "list" p) (e :: es) [] pos) (eBltF gList fs) :=
  df_bty call_list_of cd_list hm ha bt_list hg (by decide) (by decide) he hpl
def tyName : D -> Option String
  | .non => some "NoneType"
  | .bl _ => some "bool"
  | .int _ => some "int"
  | .str _ => some "str"
  | .tup _ => some "tuple"
  | .lst _ => some "list"
  | .dct _ _ => some "dict"
  | _ => none
def tyOk (T : String) : Bool := ["int", "bool", "str", "tuple", "list", "dict"].contains T
def subT (t T : String) : Bool := t == T || (t == "bool" && T == "int")
theorem kit_ty (t T : String) (ht : ["NoneType", "bool", "int", "str", "tuple", "list", "dict"].contains t = true) (hT : tyOk T = true) : PySem.W.kitOne K (.type t) (.type T) = some (subT t T) := by
  simp only [List.contains_eq_mem, xap, xa7, or_false, decide_eq_true_eq] at ht
  simp only [tyOk, List.contains_eq_mem, xap, xa7, or_false, decide_eq_true_eq] at hT
  rcases ht with rfl | rfl | rfl | rfl | rfl | rfl | rfl <;> rcases hT with rfl | rfl | rfl | rfl | rfl | rfl <;> rfl
end
end DL
namespace DL
open L2 PyProof.Rows
section
variable {X : Cx} {E : XK} {K : xFg} {mg : Str -> Option Value} {G H : Hp}
variable {x : Str} {p pos : Pos} {e : Expr} {es : List Expr} {fs : DSt -> R (List D)}
def rIsi (K : xFg) (mg : Str -> Option Value) : List V -> Hp -> VK -> Prop := fun xs H Q => ∃ G d T v b, xs = [v, .ty T] /\ Same G H /\ Rep K mg G d v /\ (∃ t, tyName d = some t /\ tyOk T = true /\ b = subT t T) /\ Q (.bl b) H
theorem call_isiD : CallR X (.builtin "isinstance") (rIsi X.K X.mg) := by
  intro pins s Z H xs us Q I r h
  obtain ⟨G, d, T, v, b, rfl, e, rp, ⟨t, ht, hT, rfl⟩, q⟩ := h
  obtain ⟨u, w', rfl, ru, rw'⟩ := vals2 r
  cases (show w' = Value.type T from rw')
  have fin : ∀ tk, EP X pins Z Q (.bool (subT t T)) { s with toks := tk } := fun tk => ⟨.bl _, H, I.tok tk, rfl, q⟩
  cases d with
  | non => cases ht; cases rp; cases (show u = Value.none from ru); exact PySem.W.kia_one PySem.W.kitx_none I.kIn True.intro (kit_ty _ _ rfl hT) (fun z => nomatch z) fin
  | bl y => cases ht; cases rp; cases (show u = Value.bool y from ru); exact PySem.W.kia_one PySem.W.kitx_bool I.kIn True.intro (kit_ty _ _ rfl hT) (fun z => nomatch z) fin
  | int i => cases ht; cases rp; obtain ⟨tk, rfl⟩ := (show ∃ tk, u = Value.int i tk from ru); exact PySem.W.kia_one PySem.W.kitx_int I.kIn True.intro (kit_ty _ _ rfl hT) (fun z => nomatch z) fin
  | str y => cases ht; cases rp; obtain ⟨tk, rfl⟩ := (show ∃ tk, u = Value.str y tk from ru); exact PySem.W.kia_one PySem.W.kitx_str I.kIn True.intro (kit_ty _ _ rfl hT) (fun z => nomatch z) fin
  | tup ds =>
    cases ht
    obtain ⟨a, vs, rfl, h1, h2⟩ := rp
    cases (show u = Value.ref a from ru)
    obtain ⟨_, _, ⟨o, h3, h4, _⟩, _⟩ := I.tuple (Same.sqT e h1)
    exact PySem.W.kia_one PySem.W.kitx_tuple I.kIn ⟨o, h3, h4⟩ (kit_ty _ _ rfl hT) (fun z => nomatch z) fin
  | lst ds =>
    cases ht
    obtain ⟨a, vs, rfl, h1, h2⟩ := rp
    cases (show u = Value.ref a from ru)
    obtain ⟨_, _, ⟨o, n, h3, h4, _⟩, _⟩ := I.list (e.seq h1)
    exact PySem.W.kia_one PySem.W.kitx_list I.kIn ⟨o, h3, h4⟩ (kit_ty _ _ rfl hT) (fun z => nomatch z) fin
  | dct ks ds =>
    cases ht
    obtain ⟨a, vs, rfl, h1, _⟩ := rp
    cases (show u = Value.ref a from ru)
    obtain ⟨_, _, _, _, p⟩ := (show ObjOk X.prog X.w H s.heap a (.dK (ks.zip vs)) from (Same.rd e h1).ok I.hok)
    obtain ⟨o, es, ep, h3, h4, _⟩ := p
    exact PySem.W.kia_one PySem.W.kitx_dict I.kIn ⟨o, h3, h4.1⟩ (kit_ty _ _ rfl hT) (fun z => nomatch z) fin
  | _ => cases ht
abbrev rIsiX (K : xFg) : List V -> Hp -> VK -> Prop := fun xs H Q => ∃ (a C : Addr) (c : V) (cv : Value) (b : Bool), xs = [.ref a, c] /\ H a = some (excO a C none) /\ ((∃ D, c = .ref D /\ cv = .ref D) \/ ∃ T, c = .ty T /\ cv = .type T) /\ ExcC K C /\ PySem.W.kitOne K (.ref C) cv = some b /\ Q (.bl b) H
def isi3 : D -> D -> R D
  | d, .ty T => match tyName d with
    | some t => bif tyOk T then .ok (.bl (subT t T)) else .bad
    | none => match d with
      | .exc _ [] => bif T == "ValueError" then .ok (.bl true) else .bad
      | _ => .bad
  | .exc c [], .cls d => match subX c d with
    | some b => .ok (.bl b)
    | none => .bad
  | _, _ => .bad
theorem cd_isi : CallD K mg (fun xs H Q => rIsi K mg xs H Q \/ rIsiX K xs H Q) (g2 isi3) := cd2 fun G H d d' v v' Q e r r' q => by
  have exc : ∀ {c as}, d = .exc c as -> as = [] -> ∃ a C, v = .ref a /\ H a = some (excO a C none) /\ XcOk K mg c C := fun {c as} hd ha => by
    subst hd; subst ha
    obtain ⟨a, C, dct, vs, rfl, h2, h3, h4, h5⟩ := r
    cases h5
    rcases h4 with ⟨rfl, _⟩ | ⟨dx, w, _, z, _⟩
    · exact ⟨a, C, rfl, e _ _ h2, h3⟩
    · cases z
  cases d' with
  | ty T =>
    cases r'
    cases ht : tyName d with
    | some t =>
      cases hT : tyOk T with
      | false => simp only [isi3, ht, hT, cond_false] at q; exact q.elim
      | true => simp only [isi3, ht, hT, cond_true] at q; exact .inl ⟨G, d, T, v, _, rfl, e, r, ⟨t, ht, hT, rfl⟩, After.now q e rfl⟩
    | none =>
      cases d with
      | exc c as =>
        cases as with
        | nil =>
          cases hT : T == "ValueError" with
          | false => simp only [isi3, ht, hT, cond_false] at q; exact q.elim
          | true =>
            simp only [isi3, ht, hT, cond_true] at q
            obtain ⟨a, C, rfl, h1, h2⟩ := exc rfl rfl
            have := eq_of_beq hT
            subst this
            exact .inr ⟨a, C, _, _, true, rfl, h1, .inr ⟨_, rfl, rfl⟩, h2.exc, h2.val, After.now q e rfl⟩
        | cons b bs => simp only [isi3, ht] at q; exact q.elim
      | _ => simp only [isi3, ht] at q; exact q.elim
  | cls c' =>
    cases d with
    | exc c as =>
      cases as with
      | nil =>
        obtain ⟨Dd, rfl, hD⟩ := r'
        cases hs : subX c c' with
        | none => simp only [isi3, hs] at q; exact q.elim
        | some b =>
          simp only [isi3, hs] at q
          obtain ⟨a, C, rfl, h1, h2⟩ := exc rfl rfl
          exact .inr ⟨a, C, _, _, b, rfl, h1, .inl ⟨Dd, rfl, rfl⟩, h2.exc, h2.isi c' Dd b hs hD, After.now q e rfl⟩
      | cons b bs => exact (show False from q).elim
    | _ => exact (show False from q).elim
  | _ => cases d <;> first | exact (show False from q).elim | (rename_i as; cases as <;> exact (show False from q).elim)
theorem de_isi (hm : X.mg "isinstance" = none) (ha : DA X E (e :: es) fs) (hg : Gl X "isinstance" := by rfl) (he : starEach (e :: es) X.env = (false, eval e X.env) :: starEach es X.env := by rfl) (hpl : (backTo pos (starEach es X.env)).any (·.1) = false := by rfl) : DE X E (.Call (.Name "isinstance" p) (e :: es) [] pos) (eBlt (g2 isi3) fs) :=
  de_blt (call_isiD.or call_isiX) cd_isi hm boot_isi ha hg (by decide) (by decide) he hpl
def tO (K : xFg) (mg : Str -> Option Value) (E : XK) (f : DSt -> R (Option Int)) : TO := fun Z H Q => ∃ G Zd, Ok0 K mg Zd Z G H /\ RW (f Zd) (fun o => ∀ G' H', Step G H G' H' -> Q o H') (AfterX K mg E G H)
def DO (X : Cx) (E : XK) (e : Option Expr) (f : DSt -> R (Option Int)) : Prop := PO X e (tO X.K X.mg E f)
def oNone : DSt -> R (Option Int) := fun _ => .ok none
def asI : D -> R (Option Int)
  | .int i => .ok (some i)
  | _ => .bad
def oSome (f : DSt -> R D) : DSt -> R (Option Int) := fun Z => (f Z).bind asI
theorem PO.mono' {e : Option Expr} {t t' : TO} (h : PO X e t) (m : ∀ Z H Q, t' Z H Q -> t Z H Q) : PO X e t' := fun pins s Z H Q I q => h pins s Z H Q I (m Z H Q q)
theorem do_none : DO X E none oNone := PO.mono' po_none fun Z H Q ⟨G, Zd, ok, q⟩ => (show ∀ G' H', Step G H G' H' -> Q none H' from q) G H (.refl ok.ext)
theorem do_some {f : DSt -> R D} (h : DE X E e f) : DO X E (some e) (oSome f) := PO.mono' (po_some h) fun Z H Q ⟨G, Zd, ok, q⟩ => ⟨G, Zd, ok, q.of_bind.mono (fun d _ z v G' H' s r => by
  cases d with
  | int i => cases r; exact ⟨i, rfl, (show ∀ G' H', Step G H G' H' -> Q (some i) H' from z) G' H' s⟩
  | _ => exact (show False from z).elim) fun _ z => z⟩
def cutD {α : Type} (xs : List α) (lo hi : Option Int) : List α := (xs.drop (HT.sIx xs.length 0 lo)).take (HT.sIx xs.length xs.length hi - HT.sIx xs.length 0 lo)
def isWhole {α : Type} (xs : List α) (lo hi : Option Int) : Bool := decide (HT.sIx xs.length 0 lo = 0 /\ HT.sIx xs.length xs.length hi = xs.length)
def gSl : D -> Option Int -> Option Int -> R D
  | .lst xs, lo, hi => .ok (.lst (cutD xs lo hi))
  | .tup xs, lo, hi => bif isWhole xs lo hi then .bad else .ok (.tup (cutD xs lo hi))
  | _, _, _ => .bad
def eSl (fe : DSt -> R D) (fl fh : DSt -> R (Option Int)) : DSt -> R D := fun Z => (fe Z).bind fun d => (fl Z).bind fun lo => (fh Z).bind fun hi => gSl d lo hi
theorem Reps.cut {ds : List D} {vs : List V} (h : Reps K mg G ds vs) (lo hi : Option Int) : Reps K mg G (cutD ds lo hi) (cutV vs lo hi) := by
  unfold cutD cutV
  rw [h.length]
  exact (h.drop _).take _
theorem de_sl {fe : DSt -> R D} {lo hi : Option Expr} {fl fh : DSt -> R (Option Int)} {p2 : Pos} (he : DE X E e fe) (hl : DO X E lo fl) (hh : DO X E hi fh) : DE X E (.Subscript e (.Slice lo hi none p2) pos) (eSl fe fl fh) := by
  refine PE.mono' (pe_slice (sl_list.or sl_tup) he hl hh) fun Z H Q ⟨G, Zd, ok, q⟩ => ?_
  refine tE_then (P := After X.K X.mg Q) ok q fun d v G1 H1 s1 ok1 r1 q1 => ?_
  refine ⟨G1, Zd, ok1, q1.of_bind.mono (fun l _ q2 G2 H2 s2 => ?_) fun _ z => z⟩
  refine ⟨G2, Zd, ok1.step s2, q2.of_bind.mono (fun u _ q3 G3 H3 s3 => ?_) fun _ z => z.step s2⟩
  have s := (s1.trans s2).trans s3
  have r3 := r1.mono (s2.g.trans s3.g)
  cases d with
  | lst xs =>
    obtain ⟨a, vs, rfl, h1, h2⟩ := r3
    refine .inl ⟨a, vs, rfl, s3.e.seq h1, fun pp hp => ?_⟩
    have sp := Step.pub (o := .lst (cutV vs l u)) s3.e hp
    exact (show After X.K X.mg Q G H (.lst (cutD xs l u)) from q3) _ _ _ (s.trans sp) ⟨pp, _, rfl, SqL.of upd_same, (h2.cut l u).mono sp.g⟩
  | tup xs =>
    obtain ⟨a, vs, rfl, h1, h2⟩ := r3
    cases hw : isWhole xs l u with
    | true => simp only [gSl, hw, cond_true] at q3; exact q3.elim
    | false =>
      simp only [gSl, hw, cond_false] at q3
      refine .inr ⟨a, vs, rfl, Same.sqT s3.e h1, by rw [<- h2.length]; exact of_decide_eq_false hw, fun pp hp => ?_⟩
      have sp := Step.pub (o := .tup (cutV vs l u)) s3.e hp
      exact (show After X.K X.mg Q G H (.tup (cutD xs l u)) from q3) _ _ _ (s.trans sp) ⟨pp, _, rfl, SqT.of upd_same, (h2.cut l u).mono sp.g⟩
  | _ => exact (show False from q3).elim
end
def sRaise (c : Str) (fs : DSt -> R (List D)) : DSt -> R Out := fun Z => (fs Z).bind fun ds => bif few ds.length then .err (.exc c []) else .bad
section
variable {P : Program} {w : World} {K : xFg} {mg : Str -> Option Value} {base : Heap} {N : List Str} {qual : Str} {scope : Scope} {f : Addr} {cdv : Value} {A : Around} {outer : List Env} {s0 : Shared} {H0 : Hp} {E : XK} {own own' ol : List Nat}
theorem ds_raise {x : Str} {C : Addr} {e0 : Expr} {rest : List Expr} {np cpos pos : Pos} {fs : DSt -> R (List D)} (q : PySem.W.excIn K C [.type "ValueError", .type "Exception", .type "BaseException", .type "object"] "ValueError.__new__" = true) (hx : XcOk K mg x C)
    (ha : DA (cxOf (CXe P w) P w K mg base N qual scope f cdv A outer s0 H0 E) E (e0 :: rest) fs) (hg : Gl (cxOf (CXe P w) P w K mg base N qual scope f cdv A outer s0 H0 E) x := by rfl)
    (hdb : (x == ("__debug__" : Str)) = false := by decide)
    (he : starEach (e0 :: rest) (envOfC qual scope s0.heap.objs.size f cdv) = (false, eval e0 (envOfC qual scope s0.heap.objs.size f cdv)) :: starEach rest (envOfC qual scope s0.heap.objs.size f cdv) := by rfl)
    (hpl : (backTo cpos (starEach rest (envOfC qual scope s0.heap.objs.size f cdv))).any (·.1) = false := by rfl) :
    DS (cxOf (CXe P w) P w K mg base N qual scope f cdv A outer s0 H0 E) E own own' ol (.Raise (some (.Call (.Name x np) (e0 :: rest) [] cpos)) none pos) (sRaise x fs) := fun G0 =>
  PS.mono' (ps_raise q hg hx.here ha hdb he hpl) fun Dn Z H ⟨G, Zd, ok, s1, z⟩ => by
  have sp := ok.pubStep s1
  refine ⟨_, Zd, ok.pub.1, z.of_bind.mono (fun ds _ z vs G' H' s r => ?_) fun _ z => z.step sp⟩
  cases hf : few ds.length with
  | false => rw [hf] at z; exact (show False from z).elim
  | true =>
    rw [hf] at z
    refine ⟨by rw [<- r.length]; exact few_le hf, ?_⟩
    exact (show AfterX K mg E G0 H0 (.exc x []) from z) G' H' C none (sp.trans s) ⟨x, [], [], rfl, hx, .inl ⟨rfl, rfl⟩, Reps.nil⟩
end
def sRaise1 (c : Str) : DSt -> R Out := fun _ => .err (.exc c [])
theorem ds_raise1 {P : Program} {w : World} {K : xFg} {mg : Str -> Option Value} {base : Heap} {N : List Str} {qual : Str} {scope : Scope} {f : Addr} {cdv : Value} {A : Around} {outer : List Env} {s0 : Shared} {H0 : Hp} {E : XK} {own own' ol : List Nat} {x t : Str} {C : Addr} {np cpos pos tp : Pos} {j} (q : PySem.W.excIn K C [.type "ValueError", .type "Exception", .type "BaseException", .type "object"] "ValueError.__new__" = true) (hx : XcOk K mg x C)
    (hg : Gl (cxOf (CXe P w) P w K mg base N qual scope f cdv A outer s0 H0 E) x := by rfl) (hdb : (x == ("__debug__" : Str)) = false := by decide) :
    DS (cxOf (CXe P w) P w K mg base N qual scope f cdv A outer s0 H0 E) E own own' ol (.Raise (some (.Call (.Name x np) [.Constant (.str t) j tp] [] cpos)) none pos) (sRaise1 x) :=
  ds_raise (fs := aCons (eC (.str t)) aNil) q hx (da_cons de_str da_nil) hg hdb
section
variable (K : xFg) (mg : Str -> Option Value)
end
section
variable {X : Cx} {ol : List Nat} {k : Nat} {x y : Str} {m : List D -> R D} {p pos cpos npos : Pos} {e : Expr} {es : List Expr} {fs : DSt -> R (List D)} {f g : DSt -> R Out}
def xCallD (m : List D -> R D) (fs : DSt -> R (List D)) : DSt -> R D := fun Z => (fs Z).noerr.bind m
def sTry (i : Nat) (c : Str) (body hnd : DSt -> R Out) : DSt -> R Out := fun Z => match body Z with
  | .ok o => .ok o
  | .err (.exc cc as) => bif subX cc c == some true then (hnd (Z.set i (some (.exc cc as)))).noerr.bind fun o => match o with
      | .nx Z' => .ok (.nx (Z'.set i none))
      | _ => .bad
    else .bad
  | _ => .bad
end
end DL
namespace DL
open L2 PyProof.Rows
theorem fnM_go {n nN : Nat} {b : DSt -> R Out} {ds : List D} {Z : DSt} (hl : ds.length = n) (hs : startD nN ds = Z) : fnM n nN b ds = fin (b Z) := by
  subst hl; subst hs; unfold fnM; rw [beq_self_eq_true]; rfl
theorem de_k {X : Cx} {E : XK} {x : Str} {d : D} {pos : Pos} (h : ∃ u v, X.mg x = some u /\ RelV v u /\ ∀ G, Rep X.K X.mg G d v) (hg : Gl X x := by rfl) (hd : (x == ("__debug__" : Str)) = false := by decide) : DE X E (.Name x pos) (eC d) := by
  obtain ⟨u, v, h1, h2, h3⟩ := h
  exact de_glob h1 h2 h3 hg hd
section
variable {K : xFg} {mg : Str -> Option Value}
def subB (c d : Str) : Bool := c == d || d == "ChalkError"
def XcRow (K : xFg) (mg : Str -> Option Value) (C : Addr) (d : Str) (b : Bool) : Prop :=
  (∀ D, mg d = some (.ref D) -> PySem.W.kitOne K (.ref C) (.ref D) = some b) /\ (b = true -> ∀ D, mg d = some (.ref D) -> PySem.W.exmOne K (.ref C) (.ref D) = some true)
theorem XcOk.mk' {c : Str} {C : Addr} (here : mg c = some (.ref C)) (exc : ExcC K C) (val : PySem.W.kitOne K (.ref C) (.type "ValueError") = some true) (rows : ∀ d ∈ clsNames, XcRow K mg C d (subB c d)) : XcOk K mg c C := by
  have sub : ∀ d b, subX c d = some b -> d ∈ clsNames /\ b = subB c d := fun d b h => by
    unfold subX at h
    cases hc : (clsNames.contains c && clsNames.contains d) with
    | false => rw [hc] at h; cases h
    | true =>
      rw [hc] at h
      have h' : some (c == d || d == "ChalkError") = some b := h
      rw [xat] at hc
      exact ⟨by simpa using hc.2, by cases h'; rfl⟩
  refine ⟨here, exc, fun d Dd b h hd => ?_, val, fun d Dd h hd => ?_⟩
  · obtain ⟨h1, rfl⟩ := sub d b h
    exact (rows d h1).1 Dd hd
  · obtain ⟨h1, h2⟩ := sub d true h
    exact (rows d h1).2 h2.symm Dd hd
theorem xcRows {c : Str} {C : Addr} (r0 : XcRow K mg C "ChalkError" (subB c "ChalkError")) (r1 : XcRow K mg C "NoPlace" (subB c "NoPlace")) (r2 : XcRow K mg C "Same" (subB c "Same")) (r3 : XcRow K mg C "NoFloor" (subB c "NoFloor")) (r4 : XcRow K mg C "Endless" (subB c "Endless"))
    (r5 : XcRow K mg C "NoDeed" (subB c "NoDeed")) (r6 : XcRow K mg C "NoText" (subB c "NoText")) (r7 : XcRow K mg C "NoName" (subB c "NoName")) (r8 : XcRow K mg C "TooMany" (subB c "TooMany")) (r9 : XcRow K mg C "NoChange" (subB c "NoChange")) (r10 : XcRow K mg C "NoFrame" (subB c "NoFrame"))
    (r11 : XcRow K mg C "NoValue" (subB c "NoValue")) (r12 : XcRow K mg C "Unlike" (subB c "Unlike")) (r13 : XcRow K mg C "NoRatio" (subB c "NoRatio")) (r14 : XcRow K mg C "NoBow" (subB c "NoBow")) (r15 : XcRow K mg C "NoRow" (subB c "NoRow")) : ∀ d ∈ clsNames, XcRow K mg C d (subB c d) := by
  intro d hd
  simp only [clsNames, xap, xa7, or_false] at hd
  rcases hd with rfl | rfl | rfl | rfl | rfl | rfl | rfl | rfl | rfl | rfl | rfl | rfl | rfl | rfl | rfl | rfl <;> assumption
theorem XcRow.of {C D0 : Addr} {d : Str} {b : Bool} (h : mg d = some (.ref D0)) (t : PySem.W.kitOne K (.ref C) (.ref D0) = some b) (u : b = true -> PySem.W.exmOne K (.ref C) (.ref D0) = some true) : XcRow K mg C d b :=
  ⟨fun D hD => by rw [h] at hD; cases hD; exact t, fun hb D hD => by rw [h] at hD; cases hD; exact u hb⟩
theorem XcRow.no {C : Addr} {d : Str} {b : Bool} (h : mg d = none) : XcRow K mg C d b := ⟨fun D hD => (by rw [h] at hD; cases hD), fun _ D hD => (by rw [h] at hD; cases hD)⟩
end
section
variable {P : Program} {w : World} {K : xFg} {mg : Str -> Option Value} {base : Heap}
theorem fnOk_mk {x qual : Str} {st : Stmt} {f : Addr} {fd : FuncData} {N ps : List Str} {k n nN : Nat} {own' : List Nat} {body : DSt -> R Out} (F : Fun K x qual st f fd) (S : FnScope N ps (defScope st))
    (hn : ps.length = n) (hN : N.length = nN)
    (hb : ∀ (X : Cx) (E : XK), (∃ cdv A outer s H, X = cxOf (CXe P w) P w K mg base N qual (defScope st) f cdv A outer s H E) -> XC X E k -> XL X -> DSs X E [] own' [] (defBody st) body) : FnOk P w K mg base (CXe P w) (k + 1) f fd ps (spD K mg (fnM n nN body)) := by
  refine F.okX S (fun vs H Q E h => ?_) (fun cdv A outer s H vs Q E hr hsp => ?_)
  · obtain ⟨G, ds, e, r, q⟩ := h
    by_cases hd : ds.length = n
    · rw [<- r.length, hd, hn]
    · have : (ds.length == n) = false := by simpa using hd
      unfold fnM at q
      rw [this] at q
      exact (show False from q).elim
  · obtain ⟨G, ds, e, r, q⟩ := hsp
    have hd : ds.length = n := by
      by_cases hd : ds.length = n
      · exact hd
      · have : (ds.length == n) = false := by simpa using hd
        unfold fnM at q
        rw [this] at q
        exact (show False from q).elim
    unfold fnM at q
    rw [show (ds.length == n) = true by simpa using hd] at q
    have q' : RW (fin (body (startD nN ds))) (After K mg Q G H) (AfterX K mg E G H) := q
    refine ⟨_, hb _ E ⟨cdv, A, outer, s, H, rfl⟩ ⟨rfl, hr, passE⟩ ⟨PassesOwn.leaving⟩ G, G, startD nN ds, ?_, .refl e, ?_⟩
    · have := Reps.startOk e (N.length - vs.length) r
      unfold L2.start startD
      rw [<- hN, r.length]
      exact .zero this
    · cases hbd : body (startD nN ds) with
      | bad => rw [hbd] at q'; exact q'
      | err e => rw [hbd] at q'; exact q'
      | ok o =>
        rw [hbd] at q'
        cases o with
        | rt d => exact fun v G' H' s r => (show After K mg Q G H d from q') v G' H' s r
        | rf es =>
          intro a vs G' H' s n e g r
          have q2 : After K mg Q G H (.lst es) := q'
          have sg : Same G' (upd G' a (.lst vs)) := same_upd g
          refine q2 (.ref a) (upd G' a (.lst vs)) H' ⟨s.g.trans sg, s.h, fun b u p => ?_, fun b u p1 p2 => ?_⟩ ⟨a, vs, rfl, SqL.of upd_same, r.mono sg⟩
          · by_cases hb : b = a
            · subst hb; rw [upd_same] at p; cases p; exact e
            · rw [upd_ne hb] at p; exact s.e b u p
          · have hb : b ≠ a := ne_of_none p1 n
            rw [upd_ne hb]; exact s.c b u p1 p2
        | nx Z => exact fun Z' G' H' ok s _ => (show After K mg Q G H .non from q') .non G' H' s rfl
        | bk Z => exact (show False from q').elim
        | ct Z => exact (show False from q').elim
def spLaw (K : xFg) : Sp := fun vs H Q _ => ∃ (a : Addr) (ns : List Int), vs = [.ref a] /\ SqL K H a (ns.map V.int) /\ ns.length <= 63 /\ ∀ H', Q (.bl true) H'
theorem law_of {k : Nat} {f : Addr} {fd : FuncData} {m : List D -> R D} (F : FnOk P w K mg base (CXe P w) k f fd ["_law_script"] (spD K mg m)) (hm : ∀ ns : List Int, ns.length <= 63 -> m [.lst (ns.map .int)] = .ok (.bl true)) :
    FnOk P w K mg base (CXe P w) k f fd ["_law_script"] (spLaw K) := F.imp fun vs H Q E h => by
  obtain ⟨a, ns, rfl, hS, hl, q⟩ := h
  refine ⟨H, [.lst (ns.map .int)], Same.refl _, Reps.cons ⟨a, _, rfl, hS, Reps.ints ns⟩ Reps.nil, RW.ok_of (hm ns hl) fun v G' H' s r => ?_⟩
  cases r; exact q H'
end
theorem walkD {l : PySem.W.OpenLaw} {q : Program} {loose : List Str} {XP : (Str -> Option Value) -> Heap -> Prop} {YP : World -> Heap -> Prop} {d : DefRec} {K : Params -> xFg} (k : Nat) (hr : Room k callerA) (hn : l.most = some 63) (hdf : d.params.defaults = [])
    (hY : ∀ (w : World) (h : Heap), YP w h -> (K w.params).In h)
    (F : ∀ (w : World) (mg : Str -> Option Value) (fa : Addr) (h : Heap), (K w.params).In h -> h.Ns mainGlobals mg -> mg d.name = some (.ref fa) ->
      ∃ fd : FuncData, (∀ (s : Shared) (u : Value), BindsTo s fd ⟨[u], []⟩ [("_law_script", u)]) /\ ∀ base : Heap, (K w.params).In base -> base.Ns mainGlobals mg -> FnOk l.prog w (K w.params) mg base (CXe l.prog w) k fa fd ["_law_script"] (spLaw (K w.params))) :
    PySem.W.WalkO q loose XP YP l.row.toRowW d [] (fun f vs => PySem.call f vs) :=
  L2.walk_of (n := 63) (k := k) (x := "_law_script") (CX := fun w => CXe l.prog w) (sp := fun w => spLaw (K w.params)) hn (by decide) hdf hr hY F (fun _ _ a ns hl _ hS => ⟨a, ns, rfl, hS, hl, fun _ => rfl⟩) fun w H s e s' z => by
    obtain ⟨_, _, _, _, _, _, _, _, _, _, _, _, _, z⟩ := z
    exact z.elim
end DL
namespace DL
open L2
def seqK (r : R Out) (g : DSt -> R Out) : R Out := r.bind fun o => match o with
  | .nx Z' => g Z'
  | o => .ok o
theorem sSeq_def (f g : DSt -> R Out) (Z : DSt) : sSeq f g Z = seqK (f Z) g := rfl
theorem seqK_nx (Z : DSt) (g : DSt -> R Out) : seqK (.ok (.nx Z)) g = g Z := rfl
theorem seqK_rt (d : D) (g : DSt -> R Out) : seqK (.ok (.rt d)) g = .ok (.rt d) := rfl
theorem seqK_bk (Z : DSt) (g : DSt -> R Out) : seqK (.ok (.bk Z)) g = .ok (.bk Z) := rfl
theorem seqK_ct (Z : DSt) (g : DSt -> R Out) : seqK (.ok (.ct Z)) g = .ok (.ct Z) := rfl
theorem seqK_err (e : D) (g : DSt -> R Out) : seqK (.err e) g = .err e := rfl
theorem sNext_def (Z : DSt) : sNext Z = .ok (.nx Z) := rfl
theorem eVar_zero (d : D) (Z : DSt) : eVar 0 (some d :: Z) = .ok d := rfl
theorem eVar_succ (n : Nat) (x : Option D) (Z : DSt) : eVar (n + 1) (x :: Z) = eVar n Z := rfl
theorem eC_def (d : D) (Z : DSt) : eC d Z = .ok d := rfl
def opK (g : D -> D -> R D) (a b : R D) : R D := a.bind fun x => b.bind fun y => g x y
theorem eOp_def (g : D -> D -> R D) (fa fb : DSt -> R D) (Z : DSt) : eOp g fa fb Z = opK g (fa Z) (fb Z) := rfl
theorem opK_ok (g : D -> D -> R D) (x y : D) : opK g (.ok x) (.ok y) = g x y := rfl
def unK (g : D -> R D) (a : R D) : R D := a.bind g
theorem eUn_def (g : D -> R D) (fa : DSt -> R D) (Z : DSt) : eUn g fa Z = unK g (fa Z) := rfl
theorem unK_ok (g : D -> R D) (x : D) : unK g (.ok x) = g x := rfl
def callK (m : List D -> R D) (a : R (List D)) : R D := a.bind m
theorem eCall_def (m : List D -> R D) (fs : DSt -> R (List D)) (Z : DSt) : eCall m fs Z = callK m (fs Z) := rfl
theorem callK_ok (m : List D -> R D) (ds : List D) : callK m (.ok ds) = m ds := rfl
theorem callK_err (m : List D -> R D) (e : D) : callK m (.err e) = .err e := rfl
def xcallK (m : List D -> R D) (a : R (List D)) : R D := a.noerr.bind m
theorem xCallD_def (m : List D -> R D) (fs : DSt -> R (List D)) (Z : DSt) : xCallD m fs Z = xcallK m (fs Z) := rfl
theorem xcallK_ok (m : List D -> R D) (ds : List D) : xcallK m (.ok ds) = m ds := rfl
def bltK (g : List D -> R D) (a : R (List D)) : R D := a.bind fun ds => (g ds).noerr
theorem eBlt_def (g : List D -> R D) (fs : DSt -> R (List D)) (Z : DSt) : eBlt g fs Z = bltK g (fs Z) := rfl
theorem bltK_ok (g : List D -> R D) (ds : List D) : bltK g (.ok ds) = (g ds).noerr := rfl
def bltFK (g : List D -> R (List D)) (a : R (List D)) : R (List D) := a.bind fun ds => (g ds).noerr
theorem eBltF_def (g : List D -> R (List D)) (fs : DSt -> R (List D)) (Z : DSt) : eBltF g fs Z = bltFK g (fs Z) := rfl
theorem bltFK_ok (g : List D -> R (List D)) (ds : List D) : bltFK g (.ok ds) = (g ds).noerr := rfl
theorem noerr_okk {α : Type} (a : α) : (R.ok a).noerr = .ok a := rfl
theorem aNil_def (Z : DSt) : aNil Z = .ok [] := rfl
def consK (a : R D) (b : R (List D)) : R (List D) := a.bind fun x => b.bind fun xs => .ok (x :: xs)
theorem aCons_def (fa : DSt -> R D) (fs : DSt -> R (List D)) (Z : DSt) : aCons fa fs Z = consK (fa Z) (fs Z) := rfl
theorem consK_ok (x : D) (xs : List D) : consK (.ok x) (.ok xs) = .ok (x :: xs) := rfl
theorem consK_err (e : D) (b : R (List D)) : consK (.err e) b = .err e := rfl
def tupK (a : R (List D)) : R D := a.bind fun ds => bif few ds.length then .ok (.tup ds) else .bad
theorem eTup_def (fs : DSt -> R (List D)) (Z : DSt) : eTup fs Z = tupK (fs Z) := rfl
theorem tupK_0 : tupK (.ok []) = .ok (.tup []) := rfl
theorem tupK_1 (a : D) : tupK (.ok [a]) = .ok (.tup [a]) := rfl
theorem tupK_2 (a b : D) : tupK (.ok [a, b]) = .ok (.tup [a, b]) := rfl
theorem tupK_3 (a b c : D) : tupK (.ok [a, b, c]) = .ok (.tup [a, b, c]) := rfl
theorem tupK_4 (a b c d : D) : tupK (.ok [a, b, c, d]) = .ok (.tup [a, b, c, d]) := rfl
theorem tupK_5 (a b c d e : D) : tupK (.ok [a, b, c, d, e]) = .ok (.tup [a, b, c, d, e]) := rfl
theorem tupK_6 (a b c d e f : D) : tupK (.ok [a, b, c, d, e, f]) = .ok (.tup [a, b, c, d, e, f]) := rfl
theorem tupK_9 (a b c d e f g h i : D) : tupK (.ok [a, b, c, d, e, f, g, h, i]) = .ok (.tup [a, b, c, d, e, f, g, h, i]) := rfl
def lstK (a : R (List D)) : R (List D) := a.bind fun ds => bif few ds.length then .ok ds else .bad
theorem eLst_def (fs : DSt -> R (List D)) (Z : DSt) : eLst fs Z = lstK (fs Z) := rfl
theorem lstK_0 : lstK (.ok []) = .ok [] := rfl
theorem lstK_1 (a : D) : lstK (.ok [a]) = .ok [a] := rfl
theorem lstK_2 (a b : D) : lstK (.ok [a, b]) = .ok [a, b] := rfl
theorem lstK_3 (a b c : D) : lstK (.ok [a, b, c]) = .ok [a, b, c] := rfl
theorem lstK_4 (a b c d : D) : lstK (.ok [a, b, c, d]) = .ok [a, b, c, d] := rfl
theorem lstK_5 (a b c d e : D) : lstK (.ok [a, b, c, d, e]) = .ok [a, b, c, d, e] := rfl
theorem lstK_6 (a b c d e f : D) : lstK (.ok [a, b, c, d, e, f]) = .ok [a, b, c, d, e, f] := rfl
def vlstK (a : R (List D)) : R D := a.bind fun ds => .ok (.lst ds)
theorem vLst_def (fl : DSt -> R (List D)) (Z : DSt) : vLst fl Z = vlstK (fl Z) := rfl
theorem vlstK_ok (ds : List D) : vlstK (.ok ds) = .ok (.lst ds) := rfl
def testK (a : R D) : R Bool := a.bind asB
theorem eTest_def (f : DSt -> R D) (Z : DSt) : eTest f Z = testK (f Z) := rfl
theorem testK_bl (b : Bool) : testK (.ok (.bl b)) = .ok b := rfl
def andK (a : R Bool) (fb : DSt -> R Bool) (Z : DSt) : R Bool := a.bind fun k => bif k then fb Z else .ok false
theorem eAnd_def (fa fb : DSt -> R Bool) (Z : DSt) : eAnd fa fb Z = andK (fa Z) fb Z := rfl
theorem andK_t (fb : DSt -> R Bool) (Z : DSt) : andK (.ok true) fb Z = fb Z := rfl
theorem andK_f (fb : DSt -> R Bool) (Z : DSt) : andK (.ok false) fb Z = .ok false := rfl
def orK (a : R Bool) (fb : DSt -> R Bool) (Z : DSt) : R Bool := a.bind fun k => bif k then .ok true else fb Z
theorem eOr_def (fa fb : DSt -> R Bool) (Z : DSt) : eOr fa fb Z = orK (fa Z) fb Z := rfl
theorem orK_t (fb : DSt -> R Bool) (Z : DSt) : orK (.ok true) fb Z = .ok true := rfl
theorem orK_f (fb : DSt -> R Bool) (Z : DSt) : orK (.ok false) fb Z = fb Z := rfl
def notK (a : R Bool) : R Bool := a.bind fun k => .ok (!k)
theorem eNot_def (fa : DSt -> R Bool) (Z : DSt) : eNot fa Z = notK (fa Z) := rfl
theorem notK_ok (b : Bool) : notK (.ok b) = .ok (!b) := rfl
def vandK (a : R D) (fb : DSt -> R D) (Z : DSt) : R D := a.bind fun x => (asB x).bind fun k => bif k then fb Z else .ok (.bl false)
theorem vAnd_def (fa fb : DSt -> R D) (Z : DSt) : vAnd fa fb Z = vandK (fa Z) fb Z := rfl
theorem vandK_t (fb : DSt -> R D) (Z : DSt) : vandK (.ok (.bl true)) fb Z = fb Z := rfl
theorem vandK_f (fb : DSt -> R D) (Z : DSt) : vandK (.ok (.bl false)) fb Z = .ok (.bl false) := rfl
def vorK (a : R D) (fb : DSt -> R D) (Z : DSt) : R D := a.bind fun x => (asB x).bind fun k => bif k then .ok (.bl true) else fb Z
theorem vOr_def (fa fb : DSt -> R D) (Z : DSt) : vOr fa fb Z = vorK (fa Z) fb Z := rfl
theorem vorK_t (fb : DSt -> R D) (Z : DSt) : vorK (.ok (.bl true)) fb Z = .ok (.bl true) := rfl
theorem vorK_f (fb : DSt -> R D) (Z : DSt) : vorK (.ok (.bl false)) fb Z = fb Z := rfl
def vnotK (a : R D) : R D := a.bind fun x => (asB x).bind fun k => .ok (.bl !k)
theorem vNot_def (fa : DSt -> R D) (Z : DSt) : vNot fa Z = vnotK (fa Z) := rfl
theorem vnotK_ok (b : Bool) : vnotK (.ok (.bl b)) = .ok (.bl !b) := rfl
def eifK (c : R Bool) (fa fb : DSt -> R D) (Z : DSt) : R D := c.bind fun k => bif k then fa Z else fb Z
theorem eIf_def (c : DSt -> R Bool) (fa fb : DSt -> R D) (Z : DSt) : eIf c fa fb Z = eifK (c Z) fa fb Z := rfl
theorem eifK_t (fa fb : DSt -> R D) (Z : DSt) : eifK (.ok true) fa fb Z = fa Z := rfl
theorem eifK_f (fa fb : DSt -> R D) (Z : DSt) : eifK (.ok false) fa fb Z = fb Z := rfl
def ifK (c : R Bool) (f g : DSt -> R Out) (Z : DSt) : R Out := c.bind fun k => bif k then f Z else g Z
theorem sIf_def (c : DSt -> R Bool) (f g : DSt -> R Out) (Z : DSt) : sIf c f g Z = ifK (c Z) f g Z := rfl
theorem ifK_t (f g : DSt -> R Out) (Z : DSt) : ifK (.ok true) f g Z = f Z := rfl
theorem ifK_f (f g : DSt -> R Out) (Z : DSt) : ifK (.ok false) f g Z = g Z := rfl
def chainS (g g' : D -> D -> R D) (a b c : R D) : R D := a.bind fun x => b.bind fun y => (g x y).bind fun z => (asB z).bind fun k => bif k then c.bind fun w => g' y w else .ok (.bl false)
theorem eChain_def (g g' : D -> D -> R D) (fa fb fc : DSt -> R D) (Z : DSt) : eChain g g' fa fb fc Z = chainS g g' (fa Z) (fb Z) (fc Z) := rfl
theorem chain_ints (p q : Int -> Int -> Bool) (i j k : Int) : chainS (gB p) (gB q) (.ok (.int i)) (.ok (.int j)) (.ok (.int k)) = .ok (.bl (p i j && q j k)) := by
  show (bif p i j then R.ok (D.bl (q j k)) else R.ok (D.bl false)) = _
  cases p i j <;> rfl
def appK (i : Nat) (l : R (List D)) (a : R D) (Z : DSt) : R Out := l.bind fun ds => a.bind fun d => bif most ds.length then .ok (.nx (Z.set i (some (.lst (ds ++ [d]))))) else .bad
theorem sApp_def (own : List Nat) (i : Nat) (fe : DSt -> R D) (Z : DSt) : sApp own i fe Z = appK i (lstAt Z i) (fe (mask own Z)) Z := rfl
theorem most_of' {n : Nat} (h : n <= 1000000) : most n = true := decide_eq_true (xbo h (by decide))
theorem appK_ok (i : Nat) (ds : List D) (d : D) (Z : DSt) (h : ds.length <= 1000000) : appK i (.ok ds) (.ok d) Z = .ok (.nx (Z.set i (some (.lst (ds ++ [d]))))) := by
  show (bif most ds.length then _ else _) = _
  rw [most_of' h]; rfl
def appPK (i : Nat) (l : R (List D)) (a : R D) (Z : DSt) : R Out := l.bind fun ds => a.bind fun d => bif most ds.length && imm d then .ok (.nx (Z.set i (some (.lst (ds ++ [d]))))) else .bad
theorem sAppP_def (i : Nat) (fe : DSt -> R D) (Z : DSt) : sAppP i fe Z = appPK i (lstAt Z i) (fe Z) Z := rfl
theorem appPK_ok (i : Nat) (ds : List D) (d : D) (Z : DSt) (h : ds.length <= 1000000) (h' : imm d = true) : appPK i (.ok ds) (.ok d) Z = .ok (.nx (Z.set i (some (.lst (ds ++ [d]))))) := by
  show (bif most ds.length && imm d then _ else _) = _
  rw [most_of' h, h']; rfl
theorem lstAt_zero (ds : List D) (Z : DSt) : lstAt (some (.lst ds) :: Z) 0 = .ok ds := rfl
theorem lstAt_succ (x : Option D) (Z : DSt) (n : Nat) : lstAt (x :: Z) (n + 1) = lstAt Z n := rfl
theorem mulB_le {i : Int} (h1 : -(10 ^ 100) <= i) (h2 : i <= 10 ^ 100) : mulB i = true := mulB_of (n := 400) (B.of (k := 10 ^ 100) (by omega))
theorem divB_le {i : Int} (h1 : -(10 ^ 100) <= i) (h2 : i <= 10 ^ 100) (h : i ≠ 0) : divB i = true := divB_of (n := 400) (B.of (k := 10 ^ 100) (by omega)) h
def retK (a : R D) : R Out := a.bind fun d => .ok (.rt d)
theorem sRet_def (fe : DSt -> R D) (Z : DSt) : sRet fe Z = retK (fe Z) := rfl
theorem retK_ok (d : D) : retK (.ok d) = .ok (.rt d) := rfl
theorem retK_err (e : D) : retK (.err e) = .err e := rfl
def exprK (a : R D) (Z : DSt) : R Out := a.bind fun _ => .ok (.nx Z)
theorem sExpr_def (fe : DSt -> R D) (Z : DSt) : sExpr fe Z = exprK (fe Z) Z := rfl
theorem exprK_ok (d : D) (Z : DSt) : exprK (.ok d) Z = .ok (.nx Z) := rfl
theorem exprK_err (e : D) (Z : DSt) : exprK (.err e) Z = .err e := rfl
def setK (i : Nat) (a : R D) (Z : DSt) : R Out := a.bind fun d => .ok (.nx (Z.set i (some d)))
theorem sSet0_def (i : Nat) (fe : DSt -> R D) (Z : DSt) : sSet0 i fe Z = setK i (fe Z) Z := rfl
theorem sSet_def (own : List Nat) (i : Nat) (fe : DSt -> R D) (Z : DSt) : sSet own i fe Z = setK i (fe (mask own Z)) Z := rfl
theorem setK_ok (i : Nat) (d : D) (Z : DSt) : setK i (.ok d) Z = .ok (.nx (Z.set i (some d))) := rfl
theorem setK_err (i : Nat) (e : D) (Z : DSt) : setK i (.err e) Z = .err e := rfl
def setPK (i : Nat) (a : R D) (Z : DSt) : R Out := a.bind fun d => bif imm d then .ok (.nx (Z.set i (some d))) else .bad
theorem sSetP_def (i : Nat) (fe : DSt -> R D) (Z : DSt) : sSetP i fe Z = setPK i (fe Z) Z := rfl
theorem setPK_ok (i : Nat) (d : D) (Z : DSt) (h : imm d = true) : setPK i (.ok d) Z = .ok (.nx (Z.set i (some d))) := by
  show (bif imm d then _ else _) = _
  rw [h]; rfl
def newK (i : Nat) (a : R (List D)) (Z : DSt) : R Out := a.bind fun ds => .ok (.nx (Z.set i (some (.lst ds))))
theorem sNew_def (own : List Nat) (i : Nat) (fe : DSt -> R (List D)) (Z : DSt) : sNew own i fe Z = newK i (fe (mask own Z)) Z := rfl
theorem newK_ok (i : Nat) (ds : List D) (Z : DSt) : newK i (.ok ds) Z = .ok (.nx (Z.set i (some (.lst ds)))) := rfl
def asgK (ks : List Nat) (gp : D -> R (List D)) (a : R D) (Z : DSt) : R Out := a.bind fun d => (gp d).noerr.bind fun us => .ok (.nx (setAll Z ks us))
theorem sAsg_def (own ks : List Nat) (gp : D -> R (List D)) (fe : DSt -> R D) (Z : DSt) : sAsg own ks gp fe Z = asgK ks gp (fe (mask own Z)) Z := rfl
theorem asgK_2t (i j : Nat) (a b : D) (Z : DSt) : asgK [i, j] (gpSeq 2) (.ok (.tup [a, b])) Z = .ok (.nx ((Z.set i (some a)).set j (some b))) := rfl
theorem asgK_2l (i j : Nat) (a b : D) (Z : DSt) : asgK [i, j] (gpSeq 2) (.ok (.lst [a, b])) Z = .ok (.nx ((Z.set i (some a)).set j (some b))) := rfl
theorem asgK_3t (i j k : Nat) (a b c : D) (Z : DSt) : asgK [i, j, k] (gpSeq 3) (.ok (.tup [a, b, c])) Z = .ok (.nx (((Z.set i (some a)).set j (some b)).set k (some c))) := rfl
theorem asgK_3l (i j k : Nat) (a b c : D) (Z : DSt) : asgK [i, j, k] (gpSeq 3) (.ok (.lst [a, b, c])) Z = .ok (.nx (((Z.set i (some a)).set j (some b)).set k (some c))) := rfl
def parK (i j : Nat) (a : R (List D)) (Z : DSt) : R Out := a.bind fun ds => match ds with
  | [a, b] => .ok (.nx ((Z.set i (some a)).set j (some b)))
  | _ => .bad
theorem sPar_def (own : List Nat) (i j : Nat) (fs : DSt -> R (List D)) (Z : DSt) : sPar own i j fs Z = parK i j (fs (mask own Z)) Z := rfl
theorem parK_ok (i j : Nat) (a b : D) (Z : DSt) : parK i j (.ok [a, b]) Z = .ok (.nx ((Z.set i (some a)).set j (some b))) := rfl
def raiseK (c : Str) (a : R (List D)) : R Out := a.bind fun ds => bif few ds.length then .err (.exc c []) else .bad
theorem sRaise_def (c : Str) (fs : DSt -> R (List D)) (Z : DSt) : sRaise c fs Z = raiseK c (fs Z) := rfl
theorem raiseK_1 (c : Str) (a : D) : raiseK c (.ok [a]) = .err (.exc c []) := rfl
theorem sRaise1_def (c : Str) (Z : DSt) : sRaise1 c Z = .err (.exc c []) := rfl
def tryK (i : Nat) (c : Str) (r : R Out) (hnd : DSt -> R Out) (Z : DSt) : R Out := match r with
  | .ok o => .ok o
  | .err (.exc cc as) => bif subX cc c == some true then (hnd (Z.set i (some (.exc cc as)))).noerr.bind fun o => match o with
      | .nx Z' => .ok (.nx (Z'.set i none))
      | _ => .bad
    else .bad
  | _ => .bad
theorem sTry_def (i : Nat) (c : Str) (body hnd : DSt -> R Out) (Z : DSt) : sTry i c body hnd Z = tryK i c (body Z) hnd Z := rfl
theorem tryK_ok (i : Nat) (c : Str) (o : Out) (hnd : DSt -> R Out) (Z : DSt) : tryK i c (.ok o) hnd Z = .ok o := rfl
def handK (i : Nat) (r : R Out) : R Out := r.noerr.bind fun o => match o with
  | .nx Z' => .ok (.nx (Z'.set i none))
  | _ => .bad
theorem handK_nx (i : Nat) (Z : DSt) : handK i (.ok (.nx Z)) = .ok (.nx (Z.set i none)) := rfl
theorem fin_rt (d : D) : fin (.ok (.rt d)) = .ok d := rfl
theorem fin_nx (Z : DSt) : fin (.ok (.nx Z)) = .ok .non := rfl
theorem fin_err (e : D) : fin (.err e) = .err e := rfl
theorem gAdd_ii (i j : Int) : gAdd (.int i) (.int j) = .ok (.int (i + j)) := rfl
theorem gSub_ii (i j : Int) : gSub (.int i) (.int j) = .ok (.int (i - j)) := rfl
theorem gMul_ii (i j : Int) (hi : mulB i = true) (hj : mulB j = true) : gMul (.int i) (.int j) = .ok (.int (i * j)) := by
  show (bif mulB i && mulB j then _ else _) = _
  rw [hi, hj]; rfl
theorem gFdiv_pos (i j : Int) (h : divB j = true) (h0 : 0 < j) : gFdiv (.int i) (.int j) = .ok (.int (i / j)) := by
  show (bif divB j then R.ok (D.int (i.fdiv j)) else .bad) = _
  rw [h, Int.fdiv_eq_ediv_of_nonneg _ (Int.le_of_lt h0)]; rfl
theorem gFdiv_ii (i j : Int) (h : divB j = true) : gFdiv (.int i) (.int j) = .ok (.int (i.fdiv j)) := by
  show (bif divB j then _ else _) = _
  rw [h]; rfl
theorem gMod_pos (i j : Int) (h0 : 0 < j) : gMod (.int i) (.int j) = .ok (.int (i % j)) := by
  have : decide (j ≠ 0) = true := decide_eq_true (by omega)
  show (bif decide (j ≠ 0) then R.ok (D.int (i.fmod j)) else .bad) = _
  rw [this, Int.fmod_eq_emod_of_nonneg _ (Int.le_of_lt h0)]; rfl
theorem gPow_ii (i j : Int) (h : powB i j = true) : gPow (.int i) (.int j) = .ok (.int (i ^ j.toNat)) := by
  show (bif powB i j then _ else _) = _
  rw [h]; rfl
theorem gShr_ii (i j : Int) (h : 0 <= j) : gShr (.int i) (.int j) = .ok (.int (i / 2 ^ j.toNat)) := by
  show (bif decide (0 <= j) then _ else _) = _
  rw [decide_eq_true h]; rfl
theorem gNeg_i (i : Int) : gNeg (.int i) = .ok (.int (-i)) := rfl
theorem gLt_ii (i j : Int) : gLt (.int i) (.int j) = .ok (.bl (decide (i < j))) := rfl
theorem gLe_ii (i j : Int) : gLe (.int i) (.int j) = .ok (.bl (decide (i <= j))) := rfl
theorem gGt_ii (i j : Int) : gGt (.int i) (.int j) = .ok (.bl (decide (j < i))) := rfl
theorem gGe_ii (i j : Int) : gGe (.int i) (.int j) = .ok (.bl (decide (j <= i))) := rfl
theorem gEq_of {a b : D} (h : cmp2 a b = true) : gEq a b = .ok (.bl (eqD a b)) := by unfold gEq; rw [h]; rfl
theorem gNe_of {a b : D} (h : cmp2 a b = true) : gNe a b = .ok (.bl (!eqD a b)) := by unfold gNe; rw [h]; rfl
theorem eqD_ii (i j : Int) : eqD (.int i) (.int j) = decide (i = j) := by unfold eqD; rfl
theorem gEq_ii (i j : Int) : gEq (.int i) (.int j) = .ok (.bl (decide (i = j))) := by rw [gEq_of rfl, eqD_ii]
theorem gNe_ii (i j : Int) : gNe (.int i) (.int j) = .ok (.bl (!decide (i = j))) := by rw [gNe_of rfl, eqD_ii]
theorem gEq_bb (i j : Bool) : gEq (.bl i) (.bl j) = .ok (.bl (i == j)) := by rw [gEq_of rfl]; unfold eqD; rfl
theorem gNe_bb (i j : Bool) : gNe (.bl i) (.bl j) = .ok (.bl (!(i == j))) := by rw [gNe_of rfl]; unfold eqD; rfl
abbrev t3 (x y z : Int) : D := .tup [.int x, .int y, .int z]
abbrev l3 (x y z : Int) : D := .lst [.int x, .int y, .int z]
theorem eqDs_ints : ∀ (ns ms : List Int), eqDs (ns.map D.int) (ms.map D.int) = decide (ns = ms)
  | [], [] => by unfold eqDs; rfl
  | [], _ :: _ => by unfold eqDs; rfl
  | _ :: _, [] => by unfold eqDs; rfl
  | n :: ns, m :: ms => by
    show eqDs (D.int n :: ns.map D.int) (D.int m :: ms.map D.int) = _
    unfold eqDs
    rw [eqDs_ints ns ms, eqD_ii, xb9]
    simp
theorem eqD_t3 (a b c x y z : Int) : eqD (t3 a b c) (t3 x y z) = decide (a = x /\ b = y /\ c = z) := by
  have := eqDs_ints [a, b, c] [x, y, z]
  unfold eqD
  rw [show ([D.int a, .int b, .int c] : List D) = [a, b, c].map D.int from rfl, show ([D.int x, .int y, .int z] : List D) = [x, y, z].map D.int from rfl, this, xb9]
  simp
theorem eqD_l3 (a b c x y z : Int) : eqD (l3 a b c) (l3 x y z) = decide (a = x /\ b = y /\ c = z) := by
  have := eqD_t3 a b c x y z
  unfold eqD at this ⊢
  exact this
theorem gEq_t3 (a b c x y z : Int) : gEq (t3 a b c) (t3 x y z) = .ok (.bl (decide (a = x /\ b = y /\ c = z))) := by rw [gEq_of rfl, eqD_t3]
theorem gNe_t3 (a b c x y z : Int) : gNe (t3 a b c) (t3 x y z) = .ok (.bl (!decide (a = x /\ b = y /\ c = z))) := by rw [gNe_of rfl, eqD_t3]
theorem gEq_l3 (a b c x y z : Int) : gEq (l3 a b c) (l3 x y z) = .ok (.bl (decide (a = x /\ b = y /\ c = z))) := by rw [gEq_of rfl, eqD_l3]
theorem gIs_bb (a b : Bool) : gIs (.bl a) (.bl b) = .ok (.bl (a == b)) := rfl
theorem gIsn_bb (a b : Bool) : gIsn (.bl a) (.bl b) = .ok (.bl (a != b)) := rfl
theorem gIs_non (d : D) : gIs d .non = .ok (.bl (isNon d)) := by cases d <;> rfl
theorem gIsn_non (d : D) : gIsn d .non = .ok (.bl (!isNon d)) := by cases d <;> rfl
theorem gIx_t3_0 (a b c : D) : gIx (.tup [a, b, c]) (.int 0) = .ok a := rfl
theorem gIx_t3_1 (a b c : D) : gIx (.tup [a, b, c]) (.int 1) = .ok b := rfl
theorem gIx_t3_2 (a b c : D) : gIx (.tup [a, b, c]) (.int 2) = .ok c := rfl
theorem gIx_l3_0 (a b c : D) : gIx (.lst [a, b, c]) (.int 0) = .ok a := rfl
theorem gIx_l3_1 (a b c : D) : gIx (.lst [a, b, c]) (.int 1) = .ok b := rfl
theorem gIx_l3_2 (a b c : D) : gIx (.lst [a, b, c]) (.int 2) = .ok c := rfl
theorem gIx_nat {xs : List D} {j : Nat} {d : D} (h : xs[j]? = some d) : gIx (.lst xs) (.int (j : Int)) = .ok d := by
  show (match atI xs (j : Int) with | some d => R.ok d | none => .bad) = _
  rw [atI_nat h]
theorem gIx_last (xs : List D) (d : D) : gIx (.lst (xs ++ [d])) (.int (-1)) = .ok d := by
  show (match atI (xs ++ [d]) (-1) with | some d => R.ok d | none => .bad) = _
  rw [atI_last]
theorem gLen_l (xs : List D) : gLen [.lst xs] = .ok (.int xs.length) := rfl
theorem gLen_t0 : gLen [.tup []] = .ok (.int 0) := rfl
theorem gLen_t1 (a : D) : gLen [.tup [a]] = .ok (.int 1) := rfl
theorem gLen_t2 (a b : D) : gLen [.tup [a, b]] = .ok (.int 2) := rfl
theorem gLen_t3 (a b c : D) : gLen [.tup [a, b, c]] = .ok (.int 3) := rfl
theorem gLen_t4 (a b c d : D) : gLen [.tup [a, b, c, d]] = .ok (.int 4) := rfl
theorem gAbs_i (i : Int) : gAbs [.int i] = .ok (.int (i.natAbs : Int)) := rfl
theorem gMin_ii (i j : Int) : gMin [.int i, .int j] = .ok (.int (min i j)) := rfl
theorem gMax_ii (i j : Int) : gMax [.int i, .int j] = .ok (.int (max i j)) := rfl
theorem gInt_b (b : Bool) : gInt [.bl b] = .ok (.int (if b then 1 else 0)) := rfl
theorem isi_int_int (i : Int) : g2 isi3 [.int i, .ty "int"] = .ok (.bl true) := rfl
theorem isi_int_bool (i : Int) : g2 isi3 [.int i, .ty "bool"] = .ok (.bl false) := rfl
theorem isi_bl_bool (i : Bool) : g2 isi3 [.bl i, .ty "bool"] = .ok (.bl true) := rfl
theorem isi_bl_int (i : Bool) : g2 isi3 [.bl i, .ty "int"] = .ok (.bl true) := rfl
theorem isi_tup_tup (xs : List D) : g2 isi3 [.tup xs, .ty "tuple"] = .ok (.bl true) := rfl
theorem isi_lst_lst (xs : List D) : g2 isi3 [.lst xs, .ty "list"] = .ok (.bl true) := rfl
theorem isi_lst_tup (xs : List D) : g2 isi3 [.lst xs, .ty "tuple"] = .ok (.bl false) := rfl
theorem isi_tup_lst (xs : List D) : g2 isi3 [.tup xs, .ty "list"] = .ok (.bl false) := rfl
theorem isi_excV (c : Str) : g2 isi3 [.exc c [], .ty "ValueError"] = .ok (.bl true) := rfl
theorem rng1_i (j : Int) (h : rOk j = true) : rng1 [.int j] = .ok (rngD 0 j.toNat) := by
  show (bif rOk j then _ else _) = _
  rw [h]; rfl
theorem rng2_ii (i j : Int) (h : rOk i = true) (h' : rOk j = true) : rng2 [.int i, .int j] = .ok (rngD i (j - i).toNat) := by
  show (bif rOk i && rOk j then _ else _) = _
  rw [h, h']; rfl
theorem rOk_of {i : Int} (h : -1000000000 <= i) (h' : i <= 1000000000) : rOk i = true := by
  unfold rOk
  rw [Nat.blt_eq]
  omega
def argsK (g : List D -> R (List D)) (a : R (List D)) : R (List D) := a.bind g
theorem iArgs_def (g : List D -> R (List D)) (fs : DSt -> R (List D)) (Z : DSt) : iArgs g fs Z = argsK g (fs Z) := (rfl)
theorem argsK_ok (g : List D -> R (List D)) (ds : List D) : argsK g (.ok ds) = g ds := (rfl)
def seqKi (a : R D) : R (List D) := a.bind asSeq
theorem iSeq_def (f : DSt -> R D) (Z : DSt) : iSeq f Z = seqKi (f Z) := rfl
theorem seqKi_t (xs : List D) : seqKi (.ok (.tup xs)) = .ok xs := rfl
theorem seqKi_l (xs : List D) : seqKi (.ok (.lst xs)) = .ok xs := rfl
def forK (ks : List Nat) (gp : D -> R (List D)) (fb : DSt -> R Out) (a : R (List D)) (Z : DSt) : R Out := a.bind fun ds => forL ks gp fb ds Z
theorem sFor_def (own ks : List Nat) (gp : D -> R (List D)) (fi : DSt -> R (List D)) (fb : DSt -> R Out) (Z : DSt) : sFor own ks gp fi fb Z = forK ks gp fb (fi (mask own Z)) Z := rfl
theorem forK_ok (ks : List Nat) (gp : D -> R (List D)) (fb : DSt -> R Out) (ds : List D) (Z : DSt) : forK ks gp fb (.ok ds) Z = forL ks gp fb ds Z := rfl
def turnK (r : R Out) (k : DSt -> R Out) : R Out := r.bind fun o => match o with
  | .nx Z' => k Z'
  | .ct Z' => k Z'
  | .bk Z' => .ok (.nx Z')
  | .rt d => .ok (.rt d)
  | .rf d => .ok (.rf d)
theorem turnK_nx (Z : DSt) (k : DSt -> R Out) : turnK (.ok (.nx Z)) k = k Z := rfl
theorem turnK_ct (Z : DSt) (k : DSt -> R Out) : turnK (.ok (.ct Z)) k = k Z := rfl
theorem turnK_bk (Z : DSt) (k : DSt -> R Out) : turnK (.ok (.bk Z)) k = .ok (.nx Z) := rfl
theorem turnK_rt (d : D) (k : DSt -> R Out) : turnK (.ok (.rt d)) k = .ok (.rt d) := rfl
theorem turnK_err (d : D) (k : DSt -> R Out) : turnK (.err d) k = .err d := rfl
theorem forL_nil (ks : List Nat) (gp : D -> R (List D)) (fb : DSt -> R Out) (Z : DSt) : forL ks gp fb [] Z = .ok (.nx Z) := rfl
theorem forL_one (i : Nat) (fb : DSt -> R Out) (d : D) (ds : List D) (Z : DSt) : forL [i] gpOne fb (d :: ds) Z = turnK (fb (Z.set i (some d))) (forL [i] gpOne fb ds) := by
  show (fb (Z.set i (some d))).bind _ = _
  unfold turnK
  cases fb (Z.set i (some d)) with
  | ok o => cases o <;> rfl
  | err e => rfl
  | bad => rfl
theorem forL_inv {i : Nat} {fb : DSt -> R Out} (I : DSt -> Prop) : ∀ (ds : List D), (∀ d ∈ ds, ∀ Z, I Z -> ∃ Z', (fb (Z.set i (some d)) = .ok (.nx Z') \/ fb (Z.set i (some d)) = .ok (.ct Z')) /\ I Z') -> ∀ Z, I Z -> ∃ Z', forL [i] gpOne fb ds Z = .ok (.nx Z') /\ I Z'
  | [], _, Z, h => ⟨Z, rfl, h⟩
  | d :: ds, hs, Z, h => by
    obtain ⟨Z1, h1, h2⟩ := hs d xam Z h
    obtain ⟨Z2, h3, h4⟩ := forL_inv I ds (fun d' hd => hs d' (xaf _ hd)) Z1 h2
    refine ⟨Z2, ?_, h4⟩
    rw [forL_one]
    rcases h1 with h1 | h1 <;> rw [h1]
    · exact h3
    · exact h3
theorem forL_nth {i : Nat} {fb : DSt -> R Out} (I : Nat -> DSt -> Prop) (ds : List D) (hs : ∀ (k : Nat) (d : D) (Z : DSt), ds[k]? = some d -> I k Z -> ∃ Z', (fb (Z.set i (some d)) = .ok (.nx Z') \/ fb (Z.set i (some d)) = .ok (.ct Z')) /\ I (k + 1) Z') (Z : DSt) (h : I 0 Z) : ∃ Z', forL [i] gpOne fb ds Z = .ok (.nx Z') /\ I ds.length Z' := by
  have go : ∀ (ds : List D) (n : Nat), (∀ (k : Nat) (d : D) (Z : DSt), ds[k]? = some d -> I (n + k) Z -> ∃ Z', (fb (Z.set i (some d)) = .ok (.nx Z') \/ fb (Z.set i (some d)) = .ok (.ct Z')) /\ I (n + k + 1) Z') -> ∀ Z, I n Z -> ∃ Z', forL [i] gpOne fb ds Z = .ok (.nx Z') /\ I (n + ds.length) Z' := by
    intro ds
    induction ds with
    | nil => intro n _ Z h; exact ⟨Z, rfl, h⟩
    | cons d ds ih =>
      intro n hs Z h
      obtain ⟨Z1, h1, h2⟩ := hs 0 d Z rfl h
      obtain ⟨Z2, h3, h4⟩ := ih (n + 1) (fun k d' Z hd hI => by
        have := hs (k + 1) d' Z (by simpa using hd) (by rw [show n + (k + 1) = n + 1 + k by omega]; exact hI)
        rw [show n + (k + 1) + 1 = n + 1 + k + 1 by omega] at this
        exact this) Z1 h2
      refine ⟨Z2, ?_, by rw [xaq, show n + (ds.length + 1) = n + 1 + ds.length by omega]; exact h4⟩
      rw [forL_one]
      rcases h1 with h1 | h1 <;> rw [h1]
      · exact h3
      · exact h3
  obtain ⟨Z', h1, h2⟩ := go ds 0 (fun k d Z hd hI => by
    rw [xbk] at hI ⊢
    exact hs k d Z hd hI) Z h
  exact ⟨Z', h1, by rw [xbk] at h2; exact h2⟩
theorem sWhile_t {c : DSt -> R Bool} {fb : DSt -> R Out} {Z Z' : DSt} (h : c Z = .ok true) (h' : fb Z = .ok (.nx Z')) : sWhile c fb Z = sWhile c fb Z' := by rw [sWhile_step, h]; show (fb Z).bind _ = _; rw [h']; rfl
theorem sWhile_f {c : DSt -> R Bool} {fb : DSt -> R Out} {Z : DSt} (h : c Z = .ok false) : sWhile c fb Z = .ok (.nx Z) := by rw [sWhile_step, h]; rfl
def lcK (k : Nat) (ks : List Nat) (a : R (List D)) (gp : D -> R (List D)) (c : DSt -> R Bool) (e : DSt -> R D) (Z : DSt) : R (List D) := a.bind fun ds => bif most ds.length then (lcD ks gp c e (List.replicate k none ++ Z) ds).noerr else .bad
theorem eLC_def (k : Nat) (ks : List Nat) (fi : DSt -> R (List D)) (gp : D -> R (List D)) (c : DSt -> R Bool) (e : DSt -> R D) (Z : DSt) : eLC k ks fi gp c e Z = lcK k ks (fi Z) gp c e Z := rfl
theorem most_of {n : Nat} (h : n <= 1000000) : most n = true := decide_eq_true (xbo h (by decide))
theorem lc_map {ds : List D} {e : DSt -> R D} {Z : DSt} {g : D -> D} (hl : ds.length <= 1000000) (h : ∀ d ∈ ds, e (some d :: Z) = .ok (g d)) : lcK 1 [0] (.ok ds) gpOne eTrue e Z = .ok (ds.map g) := by
  have go : ∀ ds : List D, (∀ d ∈ ds, e (some d :: Z) = .ok (g d)) -> lcD [0] gpOne eTrue e (List.replicate 1 none ++ Z) ds = .ok (ds.map g) := by
    intro ds
    induction ds with
    | nil => intro _; rfl
    | cons d ds ih =>
      intro h
      show (e (some d :: Z)).bind (fun y => (lcD [0] gpOne eTrue e (List.replicate 1 none ++ Z) ds).bind fun ys => .ok (y :: ys)) = _
      rw [h d xam, ih fun d' hd => h d' (xaf _ hd)]; rfl
  show (bif most ds.length then _ else _) = _
  rw [most_of hl, go ds h]; rfl
theorem lc_filter {ds : List D} {c : DSt -> R Bool} {e : DSt -> R D} {Z : DSt} {p : D -> Bool} {g : D -> D} (hl : ds.length <= 1000000) (hc : ∀ d ∈ ds, c (some d :: Z) = .ok (p d)) (h : ∀ d ∈ ds, p d = true -> e (some d :: Z) = .ok (g d)) :
    lcK 1 [0] (.ok ds) gpOne c e Z = .ok ((ds.filter p).map g) := by
  have go : ∀ ds : List D, (∀ d ∈ ds, c (some d :: Z) = .ok (p d)) -> (∀ d ∈ ds, p d = true -> e (some d :: Z) = .ok (g d)) -> lcD [0] gpOne c e (List.replicate 1 none ++ Z) ds = .ok ((ds.filter p).map g) := by
    intro ds
    induction ds with
    | nil => intro _ _; rfl
    | cons d ds ih =>
      intro hc h
      have ih' := ih (fun d' hd => hc d' (xaf _ hd)) fun d' hd => h d' (xaf _ hd)
      show (c (some d :: Z)).bind (fun k => bif k then (e (some d :: Z)).bind (fun y => (lcD [0] gpOne c e (List.replicate 1 none ++ Z) ds).bind fun ys => .ok (y :: ys)) else lcD [0] gpOne c e (List.replicate 1 none ++ Z) ds) = _
      rw [hc d xam, ih']
      cases hp : p d with
      | true =>
        show (e (some d :: Z)).bind _ = _
        rw [h d xam hp, List.filter_cons_of_pos hp]; rfl
      | false => rw [List.filter_cons_of_neg (by rw [hp]; exact xaw)]; rfl
  show (bif most ds.length then _ else _) = _
  rw [most_of hl, go ds hc h]; rfl
end DL
namespace DL
open L2 PyProof.Rows
section
variable {X : Cx} {E : XK} {e : Expr} {te : TE} {pos : Pos}
variable {own ol : List Nat} {x : Str} {k : Expr} {fk fe : DSt -> R D} {np tpos : Pos}
end
section
variable {X : Cx} {E : XK} {tg : Expr} {fs : DSt -> R (List D)} {a b c : Expr} {p pos : Pos}
variable {own ol ks : List Nat} {iter : Expr} {body : List Stmt} {gp : D -> R (List D)} {fi : DSt -> R (List D)} {fb : DSt -> R Out}
end
section
variable {X : Cx} {E : XK} {K : xFg} {mg : Str -> Option Value} {p pos : Pos} {e : Expr} {es : List Expr} {fs : DSt -> R (List D)}
end
end DL
namespace DL
open PySem.Spec PyProof.Rows L2
section
variable {X : Cx} {E : XK} {pos : Pos}
end
end DL
namespace DL
open L2 PyProof.Rows
section
variable {X : Cx}
end
section
variable {X : Cx} {E : XK} {own ol : List Nat} {e : Expr} {fe : DSt -> R D} {x : Str} {pos : Pos}
end
end DL
namespace DL
open L2 PyProof.Rows
def inD (d : D) (xs : List D) : Bool := xs.any fun y => eqD y d
def in2 (d : D) (xs : List D) : Bool := datN 9 d && xs.all (datN 9)
def gIn : D -> D -> R D
  | d, .lst xs => bif in2 d xs then .ok (.bl (inD d xs)) else .bad
  | d, .tup xs => bif in2 d xs then .ok (.bl (inD d xs)) else .bad
  | .str i, .str j => .ok (.bl (!(Builtin.Str.occurrences j i 0 j.length 1).isEmpty))
  | _, _ => .bad
def gNin : D -> D -> R D
  | d, .lst xs => bif in2 d xs then .ok (.bl (!inD d xs)) else .bad
  | d, .tup xs => bif in2 d xs then .ok (.bl (!inD d xs)) else .bad
  | .str i, .str j => .ok (.bl (!(!(Builtin.Str.occurrences j i 0 j.length 1).isEmpty)))
  | _, _ => .bad
section
variable {X : Cx} {E : XK}
theorem any_e {K : xFg} {mg : Str -> Option Value} {G : Hp} {d : D} (f : Value -> Bool) : ∀ {ds : List D} {vs : List V} {its : List Value}, (∀ d' v' u, d' ∈ ds -> Rep K mg G d' v' -> RelV v' u -> f u = eqD d' d) -> Reps K mg G ds vs -> Vals vs its -> its.any f = ds.any fun y => eqD y d
  | [], _, _, _, r, t => by cases r; cases t; rfl
  | d' :: ds, _, _, h, ⟨v, vs, e, r1, r2⟩, t => by
    subst e
    cases t with
    | cons q t =>
      rw [List.any_cons, List.any_cons, h d' _ _ xam r1 q, any_e f (fun d'' v'' u hd => h d'' v'' u (xaf _ hd)) r2 t]
theorem mem_of_vals {K : xFg} {mg : Str -> Option Value} {G : Hp} : ∀ {ds : List D} {vs : List V} {its : List Value}, Reps K mg G ds vs -> Vals vs its -> ∀ u ∈ its, ∃ d' v', d' ∈ ds /\ Rep K mg G d' v' /\ RelV v' u
  | [], _, _, r, t, u, hu => by cases r; cases t; cases hu
  | d' :: ds, _, _, ⟨v, vs, e, r1, r2⟩, t, u, hu => by
    subst e
    cases t with
    | cons q t =>
      rcases xap.mp hu with rfl | hu
      · exact ⟨d', v, xam, r1, q⟩
      · obtain ⟨d'', v'', h1, h2, h3⟩ := mem_of_vals r2 t u hu
        exact ⟨d'', v'', xaf _ h1, h2, h3⟩
def rInD (K : xFg) (mg : Str -> Option Value) (neg : Bool) : R2 := fun x y H Q => ∃ G d ds p vs, Same G H /\ Rep K mg G d x /\ y = .ref p /\ (SqL K G p vs \/ SqT K G p vs) /\ Reps K mg G ds vs /\ in2 d ds = true /\ Q (.bl (bif neg then !inD d ds else inD d ds)) H
open Classical in
theorem in_facts {pins : List (Addr × Obj)} {Z : L2.St} {G H : Hp} {s : Shared} (I : Inv X pins Z H s) {k : Nat} (r : Room k X.A) (e : Same G H) {d : D} {x : V} {v : Value} {ds : List D} {vs : List V} {its : List Value} (rx : Rep X.K X.mg G d x) (qx : RelV x v) (rs : Reps X.K X.mg G ds vs) (t : Vals vs its) (h : in2 d ds = true) :
    ∃ f : Value -> Bool, (∀ u ∈ its, SeqAt.EqAt X.A.in1 s u v (f u)) /\ its.any f = inD d ds := by
  unfold in2 at h
  rw [xat, xa0] at h
  obtain ⟨h1, h2⟩ := h
  have key : ∀ d' v' u, d' ∈ ds -> Rep X.K X.mg G d' v' -> RelV v' u -> decide (∃ d'' v'', d'' ∈ ds /\ Rep X.K X.mg G d'' v'' /\ RelV v'' u /\ eqD d'' d = true) = eqD d' d := by
    intro d' v' u hd r1 q1
    by_cases hq : eqD d' d = true
    · rw [hq]; exact decide_eq_true ⟨d', v', hd, r1, q1, hq⟩
    · rw [Bool.not_eq_true] at hq
      rw [hq]
      refine decide_eq_false ?_
      rintro ⟨d'', v'', hd', r2, q2, hq'⟩
      have ev := q1.inj q2
      subst ev
      have := rep_inj I e 9 (h2 _ hd) (h2 _ hd') r1 r2
      subst this
      rw [hq] at hq'; cases hq'
  refine ⟨fun u => decide (∃ d'' v'', d'' ∈ ds /\ Rep X.K X.mg G d'' v'' /\ RelV v'' u /\ eqD d'' d = true), fun u hu => ?_, any_e _ key rs t⟩
  obtain ⟨d', v', hd, r1, q1⟩ := mem_of_vals rs t u hu
  show SeqAt.EqAt X.A.in1 s u v (decide _)
  rw [key d' v' u hd r1 q1]
  exact (eqAt_D I e 9 (by rw [in1_units]; have := r.un; omega) (h2 _ hd) h1 r1 q1 rx qx).1
theorem op_inD {k : Nat} (r : Room k X.A) : OpR X (compareOp .In) (rInD X.K X.mg false) := by
  intro pins s Z H x y v u Q I rx ry h
  obtain ⟨G, d, ds, p, vs, e, r1, rfl, hq, rs, c, q⟩ := h
  cases ry
  rcases hq with hq | hq
  · obtain ⟨its, t, pl, hz⟩ := I.list (e.seq hq)
    obtain ⟨f, h1, h2⟩ := in_facts I r e r1 rx rs t c
    refine SeqAt.in_listAt f pl.isList (fun w hw => h1 w (by simpa using hw)) ⟨.bl _, H, I, rfl, ?_⟩
    rw [show its.toArray.any f = its.any f by simp, h2]; exact q
  · obtain ⟨its, t, pl, hz⟩ := I.tuple (Same.sqT e hq)
    obtain ⟨f, h1, h2⟩ := in_facts I r e r1 rx rs t c
    refine SeqAt.in_tupleAt f pl (fun w hw => h1 w (by simpa using hw)) ⟨.bl _, H, I, rfl, ?_⟩
    rw [show its.toArray.any f = its.any f by simp, h2]; exact q
theorem op_ninD {k : Nat} (r : Room k X.A) : OpR X (compareOp .NotIn) (rInD X.K X.mg true) := by
  intro pins s Z H x y v u Q I rx ry h
  obtain ⟨G, d, ds, p, vs, e, r1, rfl, hq, rs, c, q⟩ := h
  cases ry
  rcases hq with hq | hq
  · obtain ⟨its, t, pl, hz⟩ := I.list (e.seq hq)
    obtain ⟨f, h1, h2⟩ := in_facts I r e r1 rx rs t c
    refine SeqAt.notIn_listAt f pl.isList (fun w hw => h1 w (by simpa using hw)) ⟨.bl _, H, I, rfl, ?_⟩
    rw [show its.toArray.any f = its.any f by simp, h2]; exact q
  · obtain ⟨its, t, pl, hz⟩ := I.tuple (Same.sqT e hq)
    obtain ⟨f, h1, h2⟩ := in_facts I r e r1 rx rs t c
    refine SeqAt.notIn_tupleAt f pl (fun w hw => h1 w (by simpa using hw)) ⟨.bl _, H, I, rfl, ?_⟩
    rw [show its.toArray.any f = its.any f by simp, h2]; exact q
abbrev rInS (neg : Bool) : R2 := fun x y H Q => ∃ i j, x = .str i /\ y = .str j /\ Q (.bl (bif neg then !(!(Builtin.Str.occurrences j i 0 j.length 1).isEmpty) else !(Builtin.Str.occurrences j i 0 j.length 1).isEmpty)) H
theorem cf_in {k : Nat} (C : XC X E k) : CmpF X .In gIn := ⟨_, (op_inD C.room).or (op_in_str : OpR X _ (rInS false)), fun G H a b x y Q e ra rb q => by
  cases b with
  | lst xs =>
    obtain ⟨p, vs, rfl, h1, h2⟩ := rb
    cases hc : in2 a xs with
    | false => simp only [gIn, hc, cond_false] at q; exact q.elim
    | true => simp only [gIn, hc, cond_true] at q; exact .inl ⟨G, a, xs, p, vs, e, ra, rfl, .inl h1, h2, hc, After.now q e rfl⟩
  | tup xs =>
    obtain ⟨p, vs, rfl, h1, h2⟩ := rb
    cases hc : in2 a xs with
    | false => simp only [gIn, hc, cond_false] at q; exact q.elim
    | true => simp only [gIn, hc, cond_true] at q; exact .inl ⟨G, a, xs, p, vs, e, ra, rfl, .inr h1, h2, hc, After.now q e rfl⟩
  | str j => cases a with
    | str i => cases ra; cases rb; exact .inr ⟨i, j, rfl, rfl, After.now q e rfl⟩
    | _ => exact (show False from q).elim
  | _ => cases a <;> exact (show False from q).elim, fun a b e => by
    cases b with
    | lst xs => simp only [gIn]; cases in2 a xs <;> simp [cond]
    | tup xs => simp only [gIn]; cases in2 a xs <;> simp [cond]
    | _ => cases a <;> simp [gIn]⟩
theorem cf_nin {k : Nat} (C : XC X E k) : CmpF X .NotIn gNin := ⟨_, (op_ninD C.room).or (op_notIn_str : OpR X _ (rInS true)), fun G H a b x y Q e ra rb q => by
  cases b with
  | lst xs =>
    obtain ⟨p, vs, rfl, h1, h2⟩ := rb
    cases hc : in2 a xs with
    | false => simp only [gNin, hc, cond_false] at q; exact q.elim
    | true => simp only [gNin, hc, cond_true] at q; exact .inl ⟨G, a, xs, p, vs, e, ra, rfl, .inl h1, h2, hc, After.now q e rfl⟩
  | tup xs =>
    obtain ⟨p, vs, rfl, h1, h2⟩ := rb
    cases hc : in2 a xs with
    | false => simp only [gNin, hc, cond_false] at q; exact q.elim
    | true => simp only [gNin, hc, cond_true] at q; exact .inl ⟨G, a, xs, p, vs, e, ra, rfl, .inr h1, h2, hc, After.now q e rfl⟩
  | str j => cases a with
    | str i => cases ra; cases rb; exact .inr ⟨i, j, rfl, rfl, After.now q e rfl⟩
    | _ => exact (show False from q).elim
  | _ => cases a <;> exact (show False from q).elim, fun a b e => by
    cases b with
    | lst xs => simp only [gNin]; cases in2 a xs <;> simp [cond]
    | tup xs => simp only [gNin]; cases in2 a xs <;> simp [cond]
    | _ => cases a <;> simp [gNin]⟩
end
end DL
namespace DL
open L2 PyProof.Rows
section
variable {X : Cx} {E : XK} {K : xFg} {mg : Str -> Option Value} {G H : Hp}
variable {x : Str} {p pos : Pos} {e : Expr} {es : List Expr} {fs : DSt -> R (List D)}
end
end DL
namespace DL
open L2 PyProof.Rows
section
variable {X : Cx} {E : XK} {tg : Expr}
variable {a b : Expr} {fa fb : DSt -> R D} {pos : Pos}
end
end DL
namespace DL
open L2 PyProof.Rows
section
variable {prog : Program} {w : World} {A : Around} {E : Value -> Shared -> Prop} {s : Shared}
theorem items_int {ks : List Int} {vs : List Value} (h : ItemsAre (intKind prog w) ks vs) : ∀ v ∈ vs, ∃ i t, v = .int i t := by
  induction h with
  | nil => intro v hv; cases hv
  | cons q _ ih =>
    intro v hv
    rcases xap.mp hv with rfl | hv
    · cases v with
      | int i t => exact ⟨i, t, rfl⟩
      | _ => cases q
    · exact ih v hv
theorem tk_class {ks : List Int} {b : Addr} {Q : Bool -> Shared -> Prop} (hk : IsTupleKey (intKind prog w) s.heap ks b) (q : Q false s) : wpAny (model prog w) A (ofAClassStatement 8 (.ref b)) Q E s := by
  have ty := hk.typeIs
  obtain ⟨ob, its, m, g1, _, g2, g3⟩ := hk
  have hint := items_int g3
  unfold ofAClassStatement
  refine wpAny_bind (wpAny_typeOf ty ?_)
  refine wpAny_bind (wpAny_pure ?_)
  dsimp only
  rw [if_neg (by decide)]
  refine wpAny_bind (wpAny_seqItems g1 g2 ?_)
  dsimp only
  refine wpAny_bind ?_
  show wpAny _ _ (forIn its _ _) _ _ s
  rw [<- Array.forIn_toList]
  refine wpAny_forIn_list _ (fun left r s1 => r.1 = none /\ s1 = s /\ ∀ v ∈ left, ∃ i t, v = Value.int i t) _ ?_ ?_ _ _ ⟨rfl, rfl, hint⟩
  · rintro v left r s1 ⟨hr, rfl, all⟩
    obtain ⟨i, t, rfl⟩ := all v xam
    refine wpAny_bind (wpAny_pure (a := false) ?_)
    rw [if_neg (by decide)]
    exact wpAny_pure ⟨rfl, rfl, fun u hu => all u (xaf _ hu)⟩
  · rintro ⟨r1, r2⟩ s1 ⟨hr, rfl, _⟩
    simp only at hr
    subst hr
    exact wpAny_pure q
theorem tk_seen {ks : List Int} {b : Addr} {stored : List Value} {Q : Bool -> Shared -> Prop} (hk : IsTupleKey (intKind prog w) s.heap ks b) (hs : ∀ v ∈ stored, ∃ c ls, v = .ref c /\ IsTupleKey (intKind prog w) s.heap ls c) (q : Q false s) : wpAny (model prog w) A (searchCouldBeSeen (.ref b) stored) Q E s := by
  unfold searchCouldBeSeen
  refine wpAny_bind ?_
  refine wpAny_forIn_list _ (fun left r s1 => r.1 = none /\ s1 = s /\ ∀ v ∈ left, ∃ c ls, v = Value.ref c /\ IsTupleKey (intKind prog w) s.heap ls c) _ ?_ ?_ _ _ ⟨rfl, rfl, hs⟩
  · rintro v left r s1 ⟨hr, rfl, all⟩
    obtain ⟨c, ls, rfl, hc⟩ := all v xam
    have rest : ∀ u ∈ left, ∃ c ls, u = Value.ref c /\ IsTupleKey (intKind prog w) s1.heap ls c := fun u hu => all u (xaf _ hu)
    dsimp only
    by_cases hv : (b == c || carriedByValue (.ref b) && carriedByValue (.ref c)) = true
    · rw [if_pos hv]
      exact wpAny_pure ⟨rfl, rfl, rest⟩
    · rw [if_neg hv]
      refine wpAny_bind (wpAny_eqIsQuiet_tuple hk ?_)
      rw [if_neg (by decide)]
      refine wpAny_bind (wpAny_eqIsQuiet_tuple hc ?_)
      rw [if_neg (by decide)]
      refine wpAny_bind (tk_class hk ?_)
      rw [if_neg (by decide)]
      refine wpAny_bind (tk_class hc ?_)
      rw [if_neg (by decide)]
      exact wpAny_pure ⟨rfl, rfl, rest⟩
  · rintro ⟨r1, r2⟩ s1 ⟨hr, rfl, _⟩
    simp only at hr
    subst hr
    exact wpAny_pure q
theorem tk_hash {ks : List Int} {b : Addr} {Q : Bool -> Shared -> Prop} (hk : IsTupleKey (intKind prog w) s.heap ks b) (q : Q true s) : wpAny (model prog w) A (hashByValue 8 (.ref b)) Q E s := by
  have ty := hk.typeIs
  obtain ⟨ob, its, m, g1, _, g2, g3⟩ := hk
  have hint := items_int g3
  unfold hashByValue
  refine wpAny_bind (wpAny_specialOf ty PySem.F.slot_tuple_hash.lookup ?_)
  dsimp only
  refine wpAny_bind (wpAny_seqItems g1 g2 ?_)
  refine wpAny_bind ?_
  show wpAny _ _ (forIn its _ _) _ _ s
  rw [<- Array.forIn_toList]
  refine wpAny_forIn_list _ (fun left r s1 => r.1 = none /\ s1 = s /\ ∀ v ∈ left, ∃ i t, v = Value.int i t) _ ?_ ?_ _ _ ⟨rfl, rfl, hint⟩
  · rintro v left r s1 ⟨hr, rfl, all⟩
    obtain ⟨i, t, rfl⟩ := all v xam
    refine wpAny_bind (wpAny_pure (a := true) ?_)
    rw [if_neg (by decide)]
    exact wpAny_pure ⟨rfl, rfl, fun u hu => all u (xaf _ hu)⟩
  · rintro ⟨r1, r2⟩ s1 ⟨hr, rfl, _⟩
    simp only at hr
    subst hr
    exact wpAny_pure q
structure TSet (prog : Program) (w : World) (h : Heap) (a : Addr) (o : Obj) (es : Array (Int × Value)) (ep : Nat) (t : SetTable) (kss : List (List Int)) : Prop where
  get : h.get? a = some o
  ex : o.ExactSet
  dat : o.data = .set es ep t
  dm : t.dummies = #[]
  pl : t.place.size = es.size
  msk : (t.mask = 7 /\ es.size <= 4) \/ (t.mask = 31 /\ es.size <= 18)
  n : es.size = kss.length
  el : ∀ e ∈ es.toList, ∃ c ls, e.2 = .ref c /\ IsTupleKey (intKind prog w) h ls c /\ ls ∈ kss
variable {h : Heap} {a : Addr} {o : Obj} {es : Array (Int × Value)} {ep : Nat} {t : SetTable} {kss : List (List Int)}
theorem iter_dummy : ∀ (n : Nat) (p : SetTable.Probe), p.dummy = none -> (SetT.iter t n p).dummy = none
  | 0, _, hp => hp
  | n + 1, p, hp => iter_dummy n (t.advance p) (by rw [SetT.adv_dummy]; exact hp)
theorem tk_keep {h' : Heap} (sb : Heap.SameBut a h h') (g : h.get? a = some o) (dd : o.data = .set es ep t) {ls : List Int} {c : Addr} (hk : IsTupleKey (intKind prog w) h ls c) : IsTupleKey (intKind prog w) h' ls c := by
  obtain ⟨ob, its, m, g1, g2, g3, g4⟩ := hk
  have ne : c ≠ a := fun z => by
    subst z
    rw [g] at g1
    cases g1
    rw [dd] at g3
    cases g3
  exact ⟨ob, its, m, (sb.2 c ne).trans g1, g2, g3, g4⟩
theorem store_get {es' : Array (Int × Value)} {t' : SetTable} (g : h.get? a = some o) (dd : o.data = .set es ep t) : (h.update a (Obj.putSet es' t')).get? a = some { o with data := .set es' (ep + 1) t' } := by
  have := xcu (Obj.putSet es' t') g (by rw [putSet_of es' t' dd]; rfl)
  rw [putSet_of es' t' dd] at this
  exact this
theorem insertAt_size {α : Type} (xs : Array α) (p : Nat) (x : α) : (SetTable.insertAt xs p x).size = xs.size + 1 := by
  have := (SetTable.insertAt_perm xs p x).length_eq
  rw [xar, xar, Array.size_push] at this
  exact this
theorem insertAt_mem {α : Type} {xs : Array α} {p : Nat} {x y : α} (hy : y ∈ (SetTable.insertAt xs p x).toList) : y = x \/ y ∈ xs.toList := by
  have := (SetTable.insertAt_perm xs p x).mem_iff.mp hy
  rw [Array.toList_push] at this
  rcases xbe.mp this with z | z
  · exact .inr z
  · exact .inl (xbi.mp z)
end
end DL
namespace DL
open L2 PyProof.Rows
section
variable {prog : Program} {w : World} {A : Around} {h h' : Heap} {it l z : Addr} {items : Array Value}
theorem tk_move (kp : ∀ b u, b ∉ [it] -> h.get? b = some u -> h'.get? b = some u) {i : Nat} (hi : h.IsListIter it l i) {ls : List Int} {c : Addr} (hk : IsTupleKey (intKind prog w) h ls c) : IsTupleKey (intKind prog w) h' ls c := by
  obtain ⟨ob, its, m, g1, g2, g3, g4⟩ := hk
  obtain ⟨oi, e1, e2, _⟩ := hi
  have ne : c ∉ [it] := fun q => by
    rw [xbi] at q
    subst q
    rw [g1] at e1
    cases e1
    rw [g2] at e2
    exact absurd e2 (by decide)
  exact ⟨ob, its, m, kp c _ ne g1, g2, g3, g4⟩
abbrev newSetO (led : Bool) : Obj := { cls := .type "set", dict := none, data := .set #[] 0 (.fresh 0 0 led) }
end
end DL
namespace DL
open L2 PyProof.Rows
section
variable {X : Cx} {E : XK}
def setφ (a : Addr) (n : Nat) : Heap -> Prop := fun h => ∃ o es ep t, h.get? a = some o /\ o.ExactSet /\ o.data = .set es ep t /\ SetTable.fits t es.size = true /\ es.size = n
def TupsAre (K : xFg) (H : Hp) : List V -> List (List Int) -> Prop
  | [], [] => True
  | v :: vs, ks :: kss => (∃ b, v = .ref b /\ SqT K H b (ks.map V.int)) /\ TupsAre K H vs kss
  | _, _ => False
theorem TupsAre.length {K : xFg} {H : Hp} : ∀ {vs : List V} {kss : List (List Int)}, TupsAre K H vs kss -> vs.length = kss.length
  | [], [], _ => rfl
  | _ :: _, _ :: _, ⟨_, t⟩ => by rw [xaq, xaq, TupsAre.length t]
  | [], _ :: _, h => h.elim
  | _ :: _, [], h => h.elim
theorem items_of : ∀ {ks : List Int} {us : List Value}, Vals (ks.map V.int) us -> ItemsAre (intKind X.prog X.w) ks us
  | [], _, h => by cases h; exact .nil
  | k :: ks, _, h => by
    cases h with
    | cons q t =>
      obtain ⟨tk, rfl⟩ := q
      exact .cons (intKind_is _ _ _ _) (items_of t)
theorem tups_at {pins : List (Addr × Obj)} {Z : L2.St} {H : Hp} {s : Shared} (I : Inv X pins Z H s) : ∀ {vs : List V} {kss : List (List Int)} {us : List Value}, TupsAre X.K H vs kss -> Vals vs us -> ∀ j, j < us.length -> ∃ b, us[j]? = some (.ref b) /\ IsTupleKey (intKind X.prog X.w) s.heap (kss.getD j []) b
  | [], [], _, _, h, j, hj => by cases h; cases hj
  | v :: vs, ks :: kss, _, ⟨⟨b, e1, e2⟩, t⟩, h, j, hj => by
    cases h with
    | cons q r =>
      subst e1
      cases q
      cases j with
      | zero =>
        obtain ⟨its, rv, ⟨ob, g1, g2, n, g3⟩, _⟩ := I.tuple e2
        exact ⟨b, rfl, ob, its.toArray, n, g1, g2, g3, by rw [xc1]; exact items_of rv⟩
      | succ j =>
        obtain ⟨c, c1, c2⟩ := tups_at I t r j (by simpa using hj)
        exact ⟨c, c1, c2⟩
  | [], _ :: _, _, h, _, _, _ => h.elim
  | _ :: _, [], _, h, _, _, _ => h.elim
def rLenT : List V -> Hp -> VK -> Prop := fun xs H Q => ∃ (a : Addr) (n : Nat), xs = [.ref a] /\ H a = some (.ext (setφ a n)) /\ n <= 1000 /\ Q (.int n) H
theorem call_lenT : CallR X (.builtin "len") rLenT := by
  intro pins s Z H xs us Q I rs h
  obtain ⟨a, n, rfl, hq, hn, q⟩ := h
  obtain ⟨u, rfl, rx⟩ := vals1 rs
  cases rx
  obtain ⟨⟨o, es, ep, t, g1, g2, g3, g4, g5⟩, _⟩ := (show ObjOk X.prog X.w H s.heap a (.ext (setφ a n)) from I.hok a _ hq)
  exact call_len_set g1 g2 g3 g4 (by omega) ⟨.int n, H, I.tok _, ⟨s.toks + 1, by rw [g5]⟩, q⟩
def keysOf : List D -> Option (List (List Int))
  | [] => some []
  | .tup xs :: ds => match intsOf xs with
    | some ks => (keysOf ds).map (ks :: ·)
    | none => none
  | _ => none
theorem keys_tups {K : xFg} {mg : Str -> Option Value} {G : Hp} : ∀ {ds : List D} {kss : List (List Int)} {vs : List V}, keysOf ds = some kss -> Reps K mg G ds vs -> TupsAre K G vs kss
  | [], _, _, h, r => by cases h; cases r; exact True.intro
  | .tup xs :: ds, _, _, h, ⟨v, t, e1, r1, r2⟩ => by
    subst e1
    cases hi : intsOf xs with
    | none => simp [keysOf, hi] at h
    | some ks =>
      cases hd : keysOf ds with
      | none => simp [keysOf, hi, hd] at h
      | some kss' =>
        simp [keysOf, hi, hd] at h
        subst h
        obtain ⟨a, ws, rfl, q1, q2⟩ := r1
        rw [intsOf_is hi] at q2
        rw [Reps.of_ints q2] at q1
        exact ⟨⟨a, rfl, q1⟩, keys_tups hd r2⟩
  | .non :: _, _, _, h, _ => by simp [keysOf] at h
  | .bl _ :: _, _, _, h, _ => by simp [keysOf] at h
  | .int _ :: _, _, _, h, _ => by simp [keysOf] at h
  | .str _ :: _, _, _, h, _ => by simp [keysOf] at h
  | .ty _ :: _, _, _, h, _ => by simp [keysOf] at h
  | .cls _ :: _, _, _, h, _ => by simp [keysOf] at h
  | .lst _ :: _, _, _, h, _ => by simp [keysOf] at h
  | .dct _ _ :: _, _, _, h, _ => by simp [keysOf] at h
  | .exc _ _ :: _, _, _, h, _ => by simp [keysOf] at h
theorem TupsAre.mono {K : xFg} {G H : Hp} (e : Same G H) : ∀ {vs : List V} {kss : List (List Int)}, TupsAre K G vs kss -> TupsAre K H vs kss
  | [], [], _ => True.intro
  | _ :: _, _ :: _, ⟨⟨b, e1, e2⟩, t⟩ => ⟨⟨b, e1, Same.sqT e e2⟩, TupsAre.mono e t⟩
  | [], _ :: _, h => h.elim
  | _ :: _, [], h => h.elim
end
end DL
namespace L2
open PyProof.Rows
section
variable {prog : Program} {w : World} {A : Around} {E : Value -> Shared -> Prop} {s : Shared}
def tp2 (a b : Value) : Obj := { cls := .type "tuple", data := .seq #[a, b] }
end
section
variable {X : Cx} {pins : List (Addr × Obj)} {Z : St} {H : Hp} {s : Shared} {h' : Heap}
theorem Inv.turnedL {t' : Nat} {ch : List Addr} (I : Inv X pins Z H s) (k : ∀ b o, b ∉ ch -> s.heap.get? b = some o -> h'.get? b = some o) (f : ∀ b ∈ ch, FpOk X pins H b) : Inv X pins Z H { s with heap := h', toks := t' } := by
  have nit : ∀ b u, H b = some u -> b ∉ ch := fun b u e z => by rw [(f b z).1] at e; cases e
  refine I.step (g' := s.gens) (d' := s.drawn) (ch := ch) (fun b hb => ?_) (fun b o _ _ hc e _ => k b o hc e) (fun b o _ _ hc e _ => ⟨o.slots, k b o hc e⟩) (fun _ _ _ _ n => n) (fun b o hc e => ⟨o, k b o hc e⟩) (fun _ _ e => e) (fun _ _ _ e => e) (fun b ps e => ⟨#[], by rw [e]; simp⟩) (fun m hm => ?_) (fun b u e => ?_) I.bare
  · obtain ⟨_, f1, _, f3, f4, f5⟩ := f b hb
    exact ⟨f3, f1, f4, f5⟩
  · obtain ⟨o, es, ep, ho, r⟩ := hm
    exact ⟨o, es, ep, k _ o (fun z => (f _ z).2.1 rfl) ho, r⟩
  · refine (I.hok b u e).stay (fun c v hc q => k c v ?_ q) (fun _ q => q) fun _ _ q => q
    rcases hc with z | z
    · rw [z]; exact nit b u e
    · exact nit c _ z
end
end L2
namespace DL
open L2 PyProof.Rows
section
variable {X : Cx} {E : XK}
end
end DL
section
namespace L2
open PySem.Spec PyProof.Rows
variable {X : Cx}
end L2
namespace DL
open PySem.Spec PyProof.Rows L2
variable {K : xFg} {mg : Str -> Option Value} {X : Cx} {e : Expr} {es : List Expr} {p pos : Pos}
theorem vals_of_refs : ∀ l : List Addr, Vals (l.map V.ref) (l.map Value.ref)
  | [] => .nil
  | p :: l => .cons rfl (vals_of_refs l)
theorem rep_klst {G : Hp} {a : Addr} {its : Array Value} {n : Nat} {sl : Array (Option Value)} {l : List Addr} {ds : List D} (lk : K.lookup a = some ⟨.type "list", none, .seq its n, sl⟩) (h : its.toList = l.map Value.ref) (hz : l.length <= 100) (hr : Reps K mg G ds (l.map V.ref)) : Rep K mg G (.lst ds) (.ref a) := by
  refine ⟨a, _, rfl, .inr ⟨_, its, n, lk, rfl, rfl, rfl, ?_, by rw [h]; exact vals_of_refs l⟩, hr⟩
  rw [<- xar, h, xab]
  exact xa5 hz (by decide)
end DL
end
section
namespace SetT
open PySem.SetTable
theorem go_ok2 {t : SetTable} (hd : t.dummies = #[]) (hashAt : Nat -> Int) (h : Int) : ∀ (k n : Nat) (p : Probe), p.dummy = none -> t.slot (iter t k p).j = .empty -> (∀ m, m < k -> t.slot (iter t m p).j ≠ .empty) -> k < n ->
    SetTable.probe.go t hashAt h n p = some (.empty (iter t k p).j none) \/ ∃ j i m, m < k /\ SetTable.probe.go t hashAt h n p = some (.candidate j i (iter t (m + 1) p)) /\ t.slot j = .live i /\ t.place[i]? = some j := by
  intro k
  induction k with
  | zero =>
    intro n p hp he _ hn
    obtain ⟨n, rfl⟩ : ∃ m, n = m + 1 := ⟨n - 1, by omega⟩
    have he : t.slot p.j = .empty := he
    left
    unfold SetTable.probe.go
    rw [he, hp]; rfl
  | succ k ih =>
    intro n p hp he hb hn
    obtain ⟨n, rfl⟩ : ∃ m, n = m + 1 := ⟨n - 1, by omega⟩
    rcases slot_cases hd p.j with e | ⟨i, e, hi⟩
    · exact absurd e (hb 0 (by omega))
    · by_cases hh : (hashAt i == h) = true
      · refine .inr ⟨p.j, i, 0, by omega, ?_, e, hi⟩
        unfold SetTable.probe.go
        rw [e]
        simp only [hh, if_true]
        rfl
      · rcases ih n (t.advance p) (by rw [adv_dummy]; exact hp) he (fun m hm => hb (m + 1) (by omega)) (by omega) with q | ⟨j, i', m, hm, q, q2, q3⟩
        · left
          unfold SetTable.probe.go
          rw [e]
          simp only [hh, if_false]
          exact q
        · refine .inr ⟨j, i', m + 1, by omega, ?_, q2, q3⟩
          unfold SetTable.probe.go
          rw [e]
          simp only [hh, if_false]
          exact q
theorem go_there {t : SetTable} (hd : t.dummies = #[]) (hashAt : Nat -> Int) (h : Int) {i0 : Nat} (h0 : hashAt i0 = h) : ∀ (k n : Nat) (p : Probe), t.slot (iter t k p).j = .live i0 -> (∀ m, m < k -> t.slot (iter t m p).j ≠ .empty) -> k < n ->
    ∃ i m, m <= k /\ SetTable.probe.go t hashAt h n p = some (.candidate (iter t m p).j i (iter t (m + 1) p)) /\ t.slot (iter t m p).j = .live i /\ t.place[i]? = some (iter t m p).j := by
  intro k
  induction k with
  | zero =>
    intro n p he _ hn
    obtain ⟨n, rfl⟩ : ∃ m, n = m + 1 := ⟨n - 1, by omega⟩
    have he : t.slot p.j = .live i0 := he
    refine ⟨i0, 0, by omega, ?_, he, ?_⟩
    · unfold SetTable.probe.go
      rw [he]
      simp only [h0, beq_self_eq_true, if_true]
      rfl
    · rcases slot_cases hd p.j with e | ⟨i, e, hi⟩
      · rw [e] at he; cases he
      · rw [e] at he; cases he; exact hi
  | succ k ih =>
    intro n p he hb hn
    obtain ⟨n, rfl⟩ : ∃ m, n = m + 1 := ⟨n - 1, by omega⟩
    rcases slot_cases hd p.j with e | ⟨i, e, hi⟩
    · exact absurd e (hb 0 (by omega))
    · by_cases hh : (hashAt i == h) = true
      · refine ⟨i, 0, by omega, ?_, e, hi⟩
        unfold SetTable.probe.go
        rw [e]
        simp only [hh, if_true]
        rfl
      · obtain ⟨i', m, hm, q, q2, q3⟩ := ih n (t.advance p) he (fun m hm => hb (m + 1) (by omega)) (by omega)
        refine ⟨i', m + 1, by omega, ?_, q2, q3⟩
        unfold SetTable.probe.go
        rw [e]
        simp only [hh, if_false]
        exact q
theorem srt_lt {xs : Array Nat} (hs : xs.toList.Pairwise (· < ·)) {i k a b : Nat} (h : i < k) (ha : xs[i]? = some a) (hb : xs[k]? = some b) : a < b := by
  rw [<- xav] at ha hb
  obtain ⟨h1, rfl⟩ := xae.mp ha
  obtain ⟨h2, rfl⟩ := xae.mp hb
  exact xcc.mp hs i k h1 h2 h
theorem below_go {xs : Array Nat} {j : Nat} (hs : xs.toList.Pairwise (· < ·)) : ∀ (n lo hi : Nat), hi - lo <= n -> lo <= hi -> hi <= xs.size -> (∀ i v, i < lo -> xs[i]? = some v -> v < j) -> (∀ i v, hi <= i -> xs[i]? = some v -> j <= v) ->
    SetTable.below.go xs j n lo hi <= xs.size /\ (∀ i v, i < SetTable.below.go xs j n lo hi -> xs[i]? = some v -> v < j) /\ (∀ i v, SetTable.below.go xs j n lo hi <= i -> xs[i]? = some v -> j <= v) := by
  intro n
  induction n with
  | zero =>
    intro lo hi h1 h2 h3 h4 h5
    unfold SetTable.below.go
    exact ⟨by omega, h4, fun i v hi' => h5 i v (by omega)⟩
  | succ n ih =>
    intro lo hi h1 h2 h3 h4 h5
    unfold SetTable.below.go
    by_cases hl : lo < hi
    · rw [if_pos hl]
      simp only
      have hm : (lo + hi) / 2 < xs.size := by omega
      have hg : xs[(lo + hi) / 2]? = some xs[(lo + hi) / 2] := xbd hm
      have hd : xs.getD ((lo + hi) / 2) j = xs[(lo + hi) / 2] := by rw [xau, hg]; rfl
      rw [hd]
      by_cases hx : xs[(lo + hi) / 2] < j
      · rw [if_pos hx]
        refine ih _ _ (by omega) (by omega) h3 (fun i v hi' hv => ?_) h5
        by_cases e : i = (lo + hi) / 2
        · subst e; rw [hg] at hv; cases hv; exact hx
        · exact Nat.lt_trans (srt_lt hs (show i < (lo + hi) / 2 by omega) hv hg) hx
      · rw [if_neg hx]
        refine ih _ _ (by omega) (by omega) (by omega) h4 (fun i v hi' hv => ?_)
        by_cases e : i = (lo + hi) / 2
        · subst e; rw [hg] at hv; cases hv; omega
        · have := srt_lt hs (show (lo + hi) / 2 < i by omega) hg hv
          omega
    · rw [if_neg hl]
      exact ⟨by omega, h4, fun i v hi' => h5 i v (by omega)⟩
theorem below_ok {xs : Array Nat} (j : Nat) (hs : xs.toList.Pairwise (· < ·)) : below xs j <= xs.size /\ (∀ i v, i < below xs j -> xs[i]? = some v -> v < j) /\ (∀ i v, below xs j <= i -> xs[i]? = some v -> j <= v) :=
  below_go hs xs.size 0 xs.size (by omega) (by omega) (by omega) (fun i v h => absurd h (by omega)) fun i v h hv => by
    have := (xa3.mp hv).1
    omega
theorem slot_live {t : SetTable} (hs : t.place.toList.Pairwise (· < ·)) {i j : Nat} (hp : t.place[i]? = some j) : t.slot j = .live i := by
  obtain ⟨b1, b2, b3⟩ := below_ok j hs
  have e : below t.place j = i := by
    by_cases h1 : i < below t.place j
    · have := b2 i j h1 hp; omega
    · by_cases h2 : below t.place j < i
      · have hlt : below t.place j < t.place.size := by have := (xa3.mp hp).1; omega
        have hg : t.place[below t.place j]? = some t.place[below t.place j] := xbd hlt
        have := b3 _ _ (xai _) hg
        have := srt_lt hs h2 hg hp
        omega
      · omega
  unfold slot
  simp only
  rw [e, hp, if_pos (beq_self_eq_true _)]
theorem put_srt {xs : Array Nat} {j : Nat} (hs : xs.toList.Pairwise (· < ·)) (hj : ∀ i : Nat, xs[i]? ≠ some j) : (insertAt xs (below xs j) j).toList.Pairwise (· < ·) := by
  obtain ⟨b1, b2, b3⟩ := below_ok j hs
  rw [toList_insertAt, List.pairwise_append]
  refine ⟨hs.sublist (List.take_sublist _ _), List.pairwise_cons.mpr ⟨fun x hx => ?_, hs.sublist (List.drop_sublist _ _)⟩, fun x hx y hy => ?_⟩
  · obtain ⟨i, hi, rfl⟩ := xbg hx
    have e : xs[below xs j + i]? = some (xs.toList.drop (below xs j))[i] := by
      rw [<- xav, <- List.getElem?_drop, xan hi]
    have := b3 _ _ (by omega) e
    have : (xs.toList.drop (below xs j))[i] ≠ j := fun z => hj _ (by rw [e, z])
    omega
  · have hx' : x < j := by
      obtain ⟨i, hi, rfl⟩ := xbg hx
      rw [xa6] at hi
      have e : xs[i]? = some (xs.toList.take (below xs j))[i] := by
        rw [<- xav, List.getElem_take, xan]
      exact b2 _ _ (by omega) e
    rcases xap.mp hy with rfl | hy
    · exact hx'
    · obtain ⟨i, hi, rfl⟩ := xbg hy
      have e : xs[below xs j + i]? = some (xs.toList.drop (below xs j))[i] := by
        rw [<- xav, <- List.getElem?_drop, xan hi]
      have := b3 _ _ (by omega) e
      omega
theorem zip_put {α β : Type} {as : Array α} {bs : Array β} {p : Nat} {x : α} {y : β} (hl : as.size = bs.size) (hp : p <= as.size) {z : α × β} : z ∈ (insertAt as p x).toList.zip (insertAt bs p y).toList ↔ z = (x, y) \/ z ∈ as.toList.zip bs.toList := by
  rw [toList_insertAt, toList_insertAt, List.zip_append (by rw [xa6, xa6, xar, xar, hl]), List.zip_cons_cons, xbe, xap]
  have e : as.toList.zip bs.toList = (as.toList.take p).zip (bs.toList.take p) ++ (as.toList.drop p).zip (bs.toList.drop p) := by
    rw [<- List.zip_append (by rw [xa6, xa6, xar, xar, hl]), List.take_append_drop, List.take_append_drop]
  rw [e, xbe]
  constructor
  · rintro (h | h | h)
    · exact .inr (.inl h)
    · exact .inl h
    · exact .inr (.inr h)
  · rintro (h | h | h)
    · exact .inr (.inl h)
    · exact .inl h
    · exact .inr (.inr h)
theorem iter_mask {t t' : SetTable} (h : t'.mask = t.mask) : ∀ (k : Nat) (p : Probe), iter t' k p = iter t k p
  | 0, _ => rfl
  | k + 1, p => by
    show iter t' k (t'.advance p) = iter t k (t.advance p)
    have : t'.advance p = t.advance p := by unfold advance; rw [h]
    rw [this, iter_mask h k]
theorem start_mask {t t' : SetTable} (h : t'.mask = t.mask) (hh : Int) : t'.probeStart hh = t.probeStart hh := by unfold probeStart; rw [h]
theorem first_empty {t : SetTable} (p : Probe) {k : Nat} (h : t.slot (iter t k p).j = .empty) : ∃ k0, k0 <= k /\ t.slot (iter t k0 p).j = .empty /\ ∀ m, m < k0 -> t.slot (iter t m p).j ≠ .empty := by
  induction k using Nat.strongRecOn with
  | _ k ih =>
    by_cases hx : ∃ m, m < k /\ t.slot (iter t m p).j = .empty
    · obtain ⟨m, h1, h2⟩ := hx
      obtain ⟨k0, a, b, c⟩ := ih m h1 h2
      exact ⟨k0, by omega, b, c⟩
    · exact ⟨k, xai _, h, fun m hm e => hx ⟨m, hm, e⟩⟩
theorem relaid_found (t : SetTable) (hashes : Array Int) {n : Nat} (hn : hashes.size = n) (h : n <= 32) : ∃ t' order, t.relaid hashes 20 = some (t', order) /\ t'.mask = 31 /\ t'.dummies = #[] /\ t'.place.size = n /\ order.size = n /\ (∀ k ∈ order.toList, k < n) /\ t'.place.toList.Pairwise (· < ·) /\
    ∀ c, c < n -> ∃ (i j m : Nat), order[i]? = some c /\ t'.place[i]? = some j /\ m < 10 * turns t'.mask /\ (iter t' m (t'.probeStart (hashes.getD c 0))).j = j /\ ∀ m', m' < m -> t'.slot (iter t' m' (t'.probeStart (hashes.getD c 0))).j ≠ .empty := by
  obtain ⟨t', order, r1, r2, r3, r4, r5, r6⟩ := relaid_ok t hashes hn h
  refine ⟨t', order, r1, r2, r3, r4, r5, r6, ?_⟩
  have e0 : sizeAbove 20 - 1 = 31 := by decide
  unfold relaid at r1
  rw [e0] at r1
  unfold laid at r1
  cases hl : layClean 31 hashes with
  | none => rw [hl] at r1; cases r1
  | some o =>
    rw [hl] at r1
    have r1 := Option.some.inj r1
    have rt := (congrArg Prod.fst r1).symm
    have ro := (congrArg Prod.snd r1).symm
    simp only at rt ro
    have pl : t'.place = (((List.range 32).filterMap fun j => (o.getD j none).map (j, ·)).map (·.1)).toArray := by rw [rt]
    have srt : t'.place.toList.Pairwise (· < ·) := by
      rw [pl, xc1]
      exact srt_fm _ _ List.pairwise_lt_range
    refine ⟨srt, ?_⟩
    unfold layClean at hl
    rw [<- Array.foldl_toList] at hl
    obtain ⟨⟨o', k'⟩, hl1, hl2⟩ := xcn.mp hl
    have hl2 : o' = o := hl2
    subst hl2
    have m0 : ∀ P : Nat -> Prop, P 31 -> P t'.mask := fun P hP => by rw [r2]; exact hP
    obtain ⟨os, L⟩ := fold_laid (t := t') (fun c => hashes.getD c 0) hashes.toList (Array.replicate 32 none) o' 0 k' (by rw [r2]; simp) (fun i hi => by
      rw [xbk, xau, xav]
      rw [xar] at hi
      rw [xbd hi]; rfl) (fun c hc => absurd hc (by omega)) (by rw [r2]; exact hl1)
    rw [xbk, xar, hn] at L
    have tk : ∀ j, j <= t'.mask -> (o'.getD j none).isSome = true -> t'.slot j ≠ .empty := fun j hj hs => by
      obtain ⟨b, hb⟩ := xba.mp hs
      have := mem_fm (f := fun j => o'.getD j none) (l := List.range 32) (xa2.mpr (by omega)) hb
      obtain ⟨i, hi, ei⟩ := xbg this
      have : t'.place[i]? = some j := by
        rw [pl, xb2, xbt, xan hi, ei]; rfl
      rw [slot_live srt this]
      exact fun z => by cases z
    intro c hc
    obtain ⟨j, j1, j2, m, m1, m2, m3⟩ := L c hc
    have := mem_fm (f := fun j => o'.getD j none) (l := List.range 32) (xa2.mpr (by omega)) j2
    obtain ⟨i, hi, ei⟩ := xbg this
    refine ⟨i, j, m, ?_, ?_, m1, m2, fun m' hm => tk _ (start_le _ _) (m3 m' hm)⟩
    · rw [ro, xb2, xbt, xan hi, ei]; rfl
    · rw [pl, xb2, xbt, xan hi, ei]; rfl
end SetT
namespace DL
open L2 PyProof.Rows
section
variable {prog : Program} {w : World} {A : Around} {E : Value -> Shared -> Prop} {s : Shared}
structure USet (prog : Program) (w : World) (h : Heap) (a : Addr) (o : Obj) (es : Array (Int × Value)) (ep : Nat) (t : SetTable) (kss : List (List Int)) : Prop where
  get : h.get? a = some o
  ex : o.ExactSet
  dat : o.data = .set es ep t
  dm : t.dummies = #[]
  pl : t.place.size = es.size
  msk : (t.mask = 7 /\ es.size <= 4) \/ (t.mask = 31 /\ es.size <= 18)
  srt : t.place.toList.Pairwise (· < ·)
  n : es.size = kss.length
  el : ∀ e ∈ es.toList, ∃ c ls, e.2 = .ref c /\ IsTupleKey (intKind prog w) h ls c /\ ls ∈ kss
  all : ∀ ls ∈ kss, ∃ c j k, ((tupleKeyHash (intKind prog w) ls, Value.ref c), j) ∈ es.toList.zip t.place.toList /\ IsTupleKey (intKind prog w) h ls c /\ k < 10 * SetTable.turns t.mask /\ (SetT.iter t k (t.probeStart (tupleKeyHash (intKind prog w) ls))).j = j /\ ∀ m, m < k -> t.slot (SetT.iter t m (t.probeStart (tupleKeyHash (intKind prog w) ls))).j ≠ .empty
variable {h : Heap} {a : Addr} {o : Obj} {es : Array (Int × Value)} {ep : Nat} {t : SetTable} {kss : List (List Int)}
theorem USet.fits (S : USet prog w h a o es ep t kss) : t.fits es.size = true := by
  unfold SetTable.fits SetTable.fill
  rw [S.pl, S.dm, xat, decide_eq_true_eq]
  refine ⟨beq_self_eq_true _, ?_⟩
  show es.size + 0 <= t.mask
  rcases S.msk with ⟨h1, h2⟩ | ⟨h1, h2⟩ <;> omega
theorem USet.odd (S : USet prog w h a o es ep t kss) : t.gaveWay = false := by
  unfold SetTable.gaveWay
  rcases S.msk with ⟨h1, h2⟩ | ⟨h1, h2⟩ <;> rw [h1] <;> rfl
theorem tk_there {ks : List Int} {b : Addr} {Q : SetFound -> Shared -> Prop} (S : USet prog w s.heap a o es ep t kss) (hk : IsTupleKey (intKind prog w) s.heap ks b) (hu : A.units < cLine) (hh : Int) {i0 j0 : Nat} {c0 : Addr} (z1 : es[i0]? = some (hh, .ref c0)) (z2 : t.place[i0]? = some j0) (z3 : IsTupleKey (intKind prog w) s.heap ks c0) (q : Q (.there none) s) :
    ∀ (k fuel : Nat) (stand : Option SetTable.Probe), (SetT.iter t k (stand.getD (t.probeStart hh))).j = j0 -> (∀ m, m < k -> t.slot (SetT.iter t m (stand.getD (t.probeStart hh))).j ≠ .empty) -> k < 10 * SetTable.turns t.mask -> k < fuel -> wpAny (model prog w) A (setSearchFrom a (.ref b) hh true fuel stand) Q E s := by
  intro k
  induction k using Nat.strongRecOn with
  | _ k ih =>
    intro fuel stand he hb hk1 hk2
    obtain ⟨f, rfl⟩ : ∃ f, fuel = f + 1 := ⟨fuel - 1, by omega⟩
    have l0 := SetT.slot_live S.srt z2
    unfold setSearchFrom
    refine wpAny_bind (wpAny_setState_of S.get S.dat S.fits ?_)
    dsimp only
    rw [S.odd, if_neg (by decide)]
    have key2 : ∀ ha X, ha i0 = hh -> t.probe ha hh (stand.getD (t.probeStart hh)) = X -> ∃ i m, m <= k /\ X = some (.candidate (SetT.iter t m (stand.getD (t.probeStart hh))).j i (SetT.iter t (m + 1) (stand.getD (t.probeStart hh)))) /\ t.slot (SetT.iter t m (stand.getD (t.probeStart hh))).j = .live i /\ t.place[i]? = some (SetT.iter t m (stand.getD (t.probeStart hh))).j := fun ha X h0 z => by
      subst z
      exact SetT.go_there S.dm ha hh h0 k (10 * SetTable.turns t.mask) (stand.getD (t.probeStart hh)) (by rw [he]; exact l0) hb hk1
    generalize hX : t.probe _ hh (stand.getD (t.probeStart hh)) = X
    obtain ⟨i, m, hm, rfl, hl, hp⟩ := key2 _ _ (by show (Option.map (fun x => x.fst) es[i0]?).getD 0 = hh; rw [z1]; rfl) hX
    dsimp only
    have hi : i < es.size := by
      have := (xa3.mp hp).1
      rw [S.pl] at this
      exact this
    have pre : ∀ {mm : Sem SetFound}, wpAny (model prog w) A mm Q E s -> wpAny (model prog w) A (if (!t.led) = true then do
        let l <- searchCouldBeSeen (Value.ref b) (List.map (fun x => x.snd) (Array.filter (fun x => x.fst == hh) es).toList)
        if l = true then do
          unsupported "set:the-search-would-show-the-table"
          mm
        else mm
      else mm) Q E s := by
      intro mm hmm
      by_cases hled : (!t.led) = true
      · rw [if_pos hled]
        refine wpAny_bind (tk_seen hk (fun v hv => ?_) ?_)
        · obtain ⟨x, hx, rfl⟩ := xbh.mp hv
          rw [Array.toList_filter] at hx
          obtain ⟨c, ls, h1, h2, _⟩ := S.el x (xbp.mp hx).1
          exact ⟨c, ls, h1, h2⟩
        · rw [if_neg (by decide)]
          exact hmm
      · rw [if_neg hled]
        exact hmm
    refine pre ?_
    by_cases ei : i = i0
    · subst ei
      rw [z1]
      dsimp only
      refine wpAny_bind (wpAny_holding (wpAny_eqBool_tuple hu z3 hk ?_))
      rw [decide_eq_true rfl]
      refine wpAny_bind (wpAny_setState_of S.get S.dat S.fits ?_)
      dsimp only
      rw [if_pos (by decide)]
      exact wpAny_pure q
    · have hmk : m < k := by
        refine Nat.lt_of_le_of_ne hm fun z => ei ?_
        rw [z, he, l0] at hl
        cases hl; rfl
      obtain ⟨c, ls, h1, h2, h3⟩ := S.el es[i] (by rw [<- Array.getElem_toList]; exact xbz _)
      have eqn : es[i]? = some (es[i].1, Value.ref c) := by rw [xbd hi, <- h1]
      rw [eqn]
      dsimp only
      refine wpAny_bind (wpAny_holding (wpAny_eqBool_tuple hu h2 hk ?_))
      by_cases ek : ls = ks
      · rw [decide_eq_true ek]
        refine wpAny_bind (wpAny_setState_of S.get S.dat S.fits ?_)
        dsimp only
        rw [if_pos (by decide)]
        exact wpAny_pure q
      · rw [decide_eq_false ek]
        refine wpAny_bind (wpAny_setState_of S.get S.dat S.fits ?_)
        dsimp only
        rw [if_neg (by decide), show t.sameMemory t.moves t.mask = some true from by unfold SetTable.sameMemory; rw [if_pos (beq_self_eq_true _)]]
        dsimp only
        rw [if_pos rfl, hl]
        dsimp only
        rw [eqn]
        dsimp only
        refine wpAny_bind (wpAny_isSame_ref_self ?_)
        refine wpAny_bind (wpAny_pure ?_)
        rw [if_pos rfl]
        dsimp only
        rw [if_neg (by decide)]
        have e3 : ∀ n, SetT.iter t (m + 1 + n) (stand.getD (t.probeStart hh)) = SetT.iter t n (SetT.iter t (m + 1) (stand.getD (t.probeStart hh))) := fun n => SetT.iter_add t (m + 1) n _
        refine ih (k - (m + 1)) (by omega) f (some _) ?_ (fun n hn => ?_) (by omega) (by omega)
        · show (SetT.iter t (k - (m + 1)) (SetT.iter t (m + 1) (stand.getD (t.probeStart hh)))).j = j0
          rw [<- e3, show m + 1 + (k - (m + 1)) = k by omega]; exact he
        · show t.slot (SetT.iter t n (SetT.iter t (m + 1) (stand.getD (t.probeStart hh)))).j ≠ .empty
          rw [<- e3]; exact hb _ (by omega)
theorem tk_search2 {ks : List Int} {b : Addr} {Q : SetFound -> Shared -> Prop} (S : USet prog w s.heap a o es ep t kss) (hk : IsTupleKey (intKind prog w) s.heap ks b) (hu : A.units < cLine) (hne : ks ∉ kss) (hh : Int) {j0 : Nat} (q : Q (.free j0 false) s) :
    ∀ (k fuel : Nat) (stand : Option SetTable.Probe), (stand.getD (t.probeStart hh)).dummy = none -> (SetT.iter t k (stand.getD (t.probeStart hh))).j = j0 -> t.slot j0 = .empty -> (∀ m, m < k -> t.slot (SetT.iter t m (stand.getD (t.probeStart hh))).j ≠ .empty) -> k < 10 * SetTable.turns t.mask -> k < fuel -> wpAny (model prog w) A (setSearchFrom a (.ref b) hh true fuel stand) Q E s := by
  intro k
  induction k using Nat.strongRecOn with
  | _ k ih =>
    intro fuel stand hd hj he hb hk1 hk2
    obtain ⟨f, rfl⟩ : ∃ f, fuel = f + 1 := ⟨fuel - 1, by omega⟩
    unfold setSearchFrom
    refine wpAny_bind (wpAny_setState_of S.get S.dat S.fits ?_)
    dsimp only
    rw [S.odd, if_neg (by decide)]
    have key2 : ∀ ha X, t.probe ha hh (stand.getD (t.probeStart hh)) = X -> X = some (.empty j0 none) \/ ∃ j i m, m < k /\ X = some (.candidate j i (SetT.iter t (m + 1) (stand.getD (t.probeStart hh)))) /\ t.slot j = .live i /\ t.place[i]? = some j := fun ha X z => by
      subst z
      have := SetT.go_ok2 S.dm ha hh k (10 * SetTable.turns t.mask) (stand.getD (t.probeStart hh)) hd (by rw [hj]; exact he) hb hk1
      rw [hj] at this
      exact this
    generalize hX : t.probe _ hh (stand.getD (t.probeStart hh)) = X
    rcases key2 _ _ hX with rfl | ⟨j, i, m, hm, rfl, hl, hp⟩
    · exact wpAny_pure q
    · dsimp only
      have hi : i < es.size := by
        have := (xa3.mp hp).1
        rw [S.pl] at this
        exact this
      have pre : ∀ {mm : Sem SetFound}, wpAny (model prog w) A mm Q E s -> wpAny (model prog w) A (if (!t.led) = true then do
          let l <- searchCouldBeSeen (Value.ref b) (List.map (fun x => x.snd) (Array.filter (fun x => x.fst == hh) es).toList)
          if l = true then do
            unsupported "set:the-search-would-show-the-table"
            mm
          else mm
        else mm) Q E s := by
        intro mm hmm
        by_cases hled : (!t.led) = true
        · rw [if_pos hled]
          refine wpAny_bind (tk_seen hk (fun v hv => ?_) ?_)
          · obtain ⟨x, hx, rfl⟩ := xbh.mp hv
            rw [Array.toList_filter] at hx
            obtain ⟨c, ls, h1, h2, _⟩ := S.el x (xbp.mp hx).1
            exact ⟨c, ls, h1, h2⟩
          · rw [if_neg (by decide)]
            exact hmm
        · rw [if_neg hled]
          exact hmm
      refine pre ?_
      obtain ⟨c, ls, h1, h2, h3⟩ := S.el es[i] (by rw [<- Array.getElem_toList]; exact xbz _)
      have eqn : es[i]? = some (es[i].1, Value.ref c) := by rw [xbd hi, <- h1]
      rw [eqn]
      dsimp only
      refine wpAny_bind (wpAny_holding (wpAny_eqBool_tuple hu h2 hk ?_))
      rw [decide_eq_false (fun z : ls = ks => hne (z ▸ h3))]
      refine wpAny_bind (wpAny_setState_of S.get S.dat S.fits ?_)
      dsimp only
      rw [if_neg (by decide), show t.sameMemory t.moves t.mask = some true from by unfold SetTable.sameMemory; rw [if_pos (beq_self_eq_true _)]]
      dsimp only
      rw [if_pos rfl, hl]
      dsimp only
      rw [eqn]
      dsimp only
      refine wpAny_bind (wpAny_isSame_ref_self ?_)
      refine wpAny_bind (wpAny_pure ?_)
      rw [if_pos rfl]
      dsimp only
      rw [if_neg (by decide)]
      have e3 : ∀ n, SetT.iter t (m + 1 + n) (stand.getD (t.probeStart hh)) = SetT.iter t n (SetT.iter t (m + 1) (stand.getD (t.probeStart hh))) := fun n => SetT.iter_add t (m + 1) n _
      refine ih (k - (m + 1)) (by omega) f (some _) (iter_dummy _ _ hd) ?_ he (fun n hn => ?_) (by omega) (by omega)
      · show (SetT.iter t (k - (m + 1)) (SetT.iter t (m + 1) (stand.getD (t.probeStart hh)))).j = j0
        rw [<- e3, show m + 1 + (k - (m + 1)) = k by omega]; exact hj
      · show t.slot (SetT.iter t n (SetT.iter t (m + 1) (stand.getD (t.probeStart hh)))).j ≠ .empty
        rw [<- e3]; exact hb _ (by omega)
theorem tk_old {ks : List Int} {b : Addr} {Q : Bool -> Shared -> Prop} (S : USet prog w s.heap a o es ep t kss) (hk : IsTupleKey (intKind prog w) s.heap ks b) (hu : A.units < cLine) (hks : ks ∈ kss)
    (q : ∀ tk, Q false { s with toks := tk }) : wpAny (model prog w) A (setAdd a (.ref b)) Q E s := by
  unfold setAdd
  refine wpAny_holding (wpAny_bind (wpAny_pyHash_tuple hu hk ?_))
  obtain ⟨c0, j0, k, z1, z2, z3, z4, z5⟩ := S.all ks hks
  generalize tupleKeyHash (intKind prog w) ks = hh at z1 z4 z5
  unfold setAddHashed setAddHashedIn
  refine wpAny_holding (wpAny_bind (wpAny_setState_of S.get S.dat S.fits ?_))
  dsimp only
  rw [show byScan (.ref b) es = false from rfl, if_neg (by decide)]
  unfold setSearch
  obtain ⟨i0, hi, e⟩ := xbg z1
  have hi1 : i0 < es.toList.length := by rw [xcz] at hi; omega
  have hi2 : i0 < t.place.toList.length := by rw [xcz] at hi; omega
  rw [List.getElem_zip] at e
  have e1 : es[i0]? = some (hh, .ref c0) := by rw [<- xav, xan hi1]; exact congrArg some (congrArg Prod.fst e)
  have e2 : t.place[i0]? = some j0 := by rw [<- xav, xan hi2]; exact congrArg some (congrArg Prod.snd e)
  refine wpAny_bind (tk_there (s := { s with toks := s.toks + (ks.length + 1) }) S hk hu hh e1 e2 z2 ?_ k 100000 none z4 z5 z3 (by
    have : 10 * SetTable.turns t.mask <= 460 := by unfold SetTable.turns; rcases S.msk with ⟨h1, h2⟩ | ⟨h1, h2⟩ <;> omega
    omega))
  dsimp only
  exact wpAny_pure (q _)
theorem tk_new {ks : List Int} {b : Addr} {Q : Bool -> Shared -> Prop} (S : USet prog w s.heap a o es ep t kss) (hk : IsTupleKey (intKind prog w) s.heap ks b) (hu : A.units < cLine) (hne : ks ∉ kss) (hsz : kss.length <= 17)
    (q : ∀ h' o' es' ep' t' tk, Heap.SameBut a s.heap h' -> USet prog w h' a o' es' ep' t' (ks :: kss) -> Q true { s with heap := h', toks := tk }) : wpAny (model prog w) A (setAdd a (.ref b)) Q E s := by
  unfold setAdd
  refine wpAny_holding (wpAny_bind (wpAny_pyHash_tuple hu hk ?_))
  obtain ⟨hh, hhe⟩ : ∃ hh, tupleKeyHash (intKind prog w) ks = hh := ⟨_, rfl⟩
  rw [hhe]
  unfold setAddHashed setAddHashedIn
  refine wpAny_holding (wpAny_bind (wpAny_setState_of S.get S.dat S.fits ?_))
  dsimp only
  rw [show byScan (.ref b) es = false from rfl, if_neg (by decide)]
  unfold setSearch
  obtain ⟨k', k1', k2'⟩ := SetT.meets_empty S.dm (S.msk.elim (fun h => .inl h.1) fun h => .inr h.1) (by rw [S.pl]; rcases S.msk with ⟨h1, h2⟩ | ⟨h1, h2⟩ <;> omega) hh
  obtain ⟨k, kk, k2, k3⟩ := SetT.first_empty (t.probeStart hh) k2'
  have k1 : k < 10 * SetTable.turns t.mask := by omega
  obtain ⟨j, hj⟩ : ∃ j, (SetT.iter t k (t.probeStart hh)).j = j := ⟨_, rfl⟩
  rw [hj] at k2
  refine wpAny_bind (tk_search2 (s := { s with toks := s.toks + (ks.length + 1) }) (j0 := j) S hk hu hne hh ?_ k 100000 none rfl hj k2 k3 k1 (by
    have : 10 * SetTable.turns t.mask <= 460 := by unfold SetTable.turns; rcases S.msk with ⟨h1, h2⟩ | ⟨h1, h2⟩ <;> omega
    omega))
  dsimp only
  have p1 : (t.put j).1.mask = t.mask := rfl
  have p2 : (t.put j).1.dummies = #[] := by
    show (if SetTable.has t.dummies j then SetTable.eraseAt t.dummies (SetTable.below t.dummies j) else t.dummies) = #[]
    rw [S.dm, SetT.no_has]
    rfl
  have p3 : (t.put j).1.place.size = es.size + 1 := by
    show (SetTable.insertAt t.place _ j).size = _
    rw [insertAt_size, S.pl]
  have nj : ∀ i : Nat, t.place[i]? ≠ some j := fun i e => by
    have := SetT.slot_live S.srt e
    rw [k2] at this; cases this
  have p4 : (t.put j).1.place.toList.Pairwise (· < ·) := SetT.put_srt S.srt nj
  have bl := (SetT.below_ok j S.srt).1
  have p5 : ∀ z, z ∈ (SetTable.insertAt es (t.put j).snd (hh, Value.ref b)).toList.zip (t.put j).1.place.toList ↔ z = ((hh, Value.ref b), j) \/ z ∈ es.toList.zip t.place.toList := fun z => SetT.zip_put (as := es) (bs := t.place) (p := SetTable.below t.place j) S.pl.symm (by rw [<- S.pl]; exact bl)
  have fin : wpAny (model prog w) A (do
      storeSet a (SetTable.insertAt es (t.put j).snd (hh, Value.ref b)) (t.put j).fst
      if (!false && (t.put j).fst.tooFull) = true then do
        setRelay a (SetTable.grown (es.size + 1))
        pure true
      else pure true) Q E { s with toks := s.toks + (ks.length + 1) } := by
    generalize (t.put j).fst = t1 at p1 p2 p3 p4 p5
    have zz := insertAt_size es (t.put j).snd (hh, Value.ref b)
    have mm := fun y hy => insertAt_mem (xs := es) (p := (t.put j).snd) (x := (hh, Value.ref b)) (y := y) hy
    generalize SetTable.insertAt es (t.put j).snd (hh, Value.ref b) = es1 at zz mm p5
    have hn := S.n
    have h18 : es.size <= 17 := by omega
    refine wpAny_bind (wpAny_storeSet_of S.get S.dat ?_ (xa5 (show es1.size <= 1000 by omega) (by decide)))
    have g1 := store_get (es' := es1) (t' := t1) S.get S.dat
    have sb1 : Heap.SameBut a s.heap (s.heap.update a (Obj.putSet es1 t1)) := Heap.SameBut.update _ a _
    generalize s.heap.update a (Obj.putSet es1 t1) = h1 at g1 sb1
    have el1 : ∀ e ∈ es1.toList, ∃ c ls, e.2 = .ref c /\ IsTupleKey (intKind prog w) h1 ls c /\ ls ∈ ks :: kss := by
      intro e he
      rcases mm e he with rfl | he
      · exact ⟨b, ks, rfl, tk_keep sb1 S.get S.dat hk, xam⟩
      · obtain ⟨c, ls, e1, e2, e3⟩ := S.el e he
        exact ⟨c, ls, e1, tk_keep sb1 S.get S.dat e2, xaf _ e3⟩
    have fill1 : t1.fill = es.size + 1 := by
      unfold SetTable.fill
      rw [p2, p3]; rfl
    have full : t1.tooFull = decide ((es.size + 1) * 5 ≥ t.mask * 3) := by
      unfold SetTable.tooFull
      rw [fill1, p1]
    have taken : ∀ jj, t.slot jj ≠ .empty -> t1.slot jj ≠ .empty := fun jj hx => by
      rcases SetT.slot_cases S.dm jj with e | ⟨i, e, hi⟩
      · exact absurd e hx
      · have hm : jj ∈ t1.place.toList := by
          have hi1 : i < t.place.toList.length := by have := (xa3.mp hi).1; simpa using this
          have hi2 : i < es.toList.length := by have := S.pl; simp at hi1 ⊢; omega
          have : (es.toList[i], t.place.toList[i]) ∈ es.toList.zip t.place.toList := by
            rw [<- List.getElem_zip (h := by rw [xcz]; omega)]; exact xbz _
          have := (p5 _).mpr (.inr this)
          have := (xcx this).2
          rw [<- xav, xan hi1] at hi
          rw [Option.some.inj hi] at this
          exact this
        obtain ⟨i', hi', e'⟩ := xbg hm
        rw [SetT.slot_live p4 (i := i') (j := jj) (by rw [<- xav, xan hi', e'])]
        exact fun z => by cases z
    have all1 : ∀ ls ∈ ks :: kss, ∃ c j k, ((tupleKeyHash (intKind prog w) ls, Value.ref c), j) ∈ es1.toList.zip t1.place.toList /\ IsTupleKey (intKind prog w) h1 ls c /\ k < 10 * SetTable.turns t1.mask /\ (SetT.iter t1 k (t1.probeStart (tupleKeyHash (intKind prog w) ls))).j = j /\ ∀ m, m < k -> t1.slot (SetT.iter t1 m (t1.probeStart (tupleKeyHash (intKind prog w) ls))).j ≠ .empty := by
      intro ls hls
      rcases xap.mp hls with rfl | hls
      · refine ⟨b, j, k, (p5 _).mpr (.inl (by rw [hhe])), tk_keep sb1 S.get S.dat hk, by rw [p1]; exact k1, ?_, fun m hm => ?_⟩
        · rw [SetT.iter_mask p1, SetT.start_mask p1, hhe]; exact hj
        · rw [SetT.iter_mask p1, SetT.start_mask p1, hhe]; exact taken _ (k3 m hm)
      · obtain ⟨c, j', k', y1, y2, y3, y4, y5⟩ := S.all ls hls
        refine ⟨c, j', k', (p5 _).mpr (.inr y1), tk_keep sb1 S.get S.dat y2, by rw [p1]; exact y3, ?_, fun m hm => ?_⟩
        · rw [SetT.iter_mask p1, SetT.start_mask p1]; exact y4
        · rw [SetT.iter_mask p1, SetT.start_mask p1]; exact taken _ (y5 m hm)
    by_cases hf : (es.size + 1) * 5 ≥ t.mask * 3
    · have h7 : t.mask = 7 /\ es.size = 4 := by rcases S.msk with ⟨x1, x2⟩ | ⟨x1, x2⟩ <;> omega
      rw [full, decide_eq_true hf, if_pos (by decide), h7.2]
      have gr : SetTable.grown (4 + 1) = 20 := by decide
      rw [gr]
      unfold setRelay
      refine wpAny_bind (wpAny_bind (wpAny_setState_of g1 rfl ?_ ?_))
      · unfold SetTable.fits
        rw [fill1, p1, p3, zz, xat, decide_eq_true_eq]
        exact ⟨beq_self_eq_true _, by omega⟩
      · dsimp only
        obtain ⟨t2, order, r1, r2, r3, r4, r5, r6, r7, r8⟩ := SetT.relaid_found t1 (Array.map (fun x => x.fst) es1) (n := 5) (by rw [Array.size_map]; omega) (by decide)
        have some2 : ∀ k ∈ order.toList, (es1[k]?).isSome = true := fun k hk => by
          have := r6 k hk
          rw [xbd (by omega)]; rfl
        have z2 : (order.filterMap (es1[·]?)).size = 5 := by
          rw [<- xar, xco, SetT.fm_all _ _ some2, xar, r5]
        have i2 : ∀ i : Nat, (order.filterMap (es1[·]?)).toList[i]? = (order.toList[i]?).bind (es1[·]?) := fun i => by
          rw [xco]; exact SetT.fm_get _ _ some2 i
        have m2 : ∀ e ∈ (order.filterMap (es1[·]?)).toList, e ∈ es1.toList := by
          intro e he
          rw [xco] at he
          obtain ⟨k, _, hk⟩ := xbn.mp he
          rw [<- xav] at hk
          exact xbc hk
        rw [if_neg (by decide), r1]
        refine wpAny_bind (wpAny_of_eq (a := (order.filterMap (es1[·]?), t2)) ?_ ?_)
        · show (if ((order.filterMap (es1[·]?)).size != es1.size) = true then _ else _) = _
          rw [if_neg (by rw [z2, zz, h7.2]; decide)]
        · generalize order.filterMap (es1[·]?) = es2 at z2 m2 i2
          refine wpAny_storeSet_of g1 rfl ?_ (xa5 (show es2.size <= 1000 by omega) (by decide))
          have g2 := store_get (es' := es2) (t' := t2) g1 rfl
          have sb2 : Heap.SameBut a h1 (h1.update a (Obj.putSet es2 t2)) := Heap.SameBut.update _ a _
          generalize h1.update a (Obj.putSet es2 t2) = h2 at g2 sb2
          refine wpAny_pure (q h2 _ es2 (ep + 1 + 1) t2 _ (sb1.trans sb2) ⟨g2, S.ex, rfl, r3, by rw [r4, z2], .inr ⟨r2, by omega⟩, r7, by rw [z2, xaq, <- hn, h7.2], fun e he => ?_, fun ls hls => ?_⟩)
          · obtain ⟨c, ls, e1, e2, e3⟩ := el1 e (m2 e he)
            exact ⟨c, ls, e1, tk_keep sb2 g1 rfl e2, e3⟩
          · obtain ⟨c, j1, _, y1, y2, _⟩ := all1 ls hls
            obtain ⟨i0, hi, e⟩ := xbg y1
            have hi1 : i0 < es1.toList.length := by rw [xcz] at hi; omega
            rw [List.getElem_zip] at e
            have e1 : es1[i0]? = some (tupleKeyHash (intKind prog w) ls, .ref c) := by rw [<- xav, xan hi1]; exact congrArg some (congrArg Prod.fst e)
            have eh : (Array.map (fun x => x.fst) es1).getD i0 0 = tupleKeyHash (intKind prog w) ls := by
              rw [xau, Array.getElem?_map, e1]; rfl
            obtain ⟨i, j2, m, o1, o2, o3, o4, o5⟩ := r8 i0 (by rw [xar, zz, h7.2] at hi1; omega)
            rw [eh] at o4 o5
            refine ⟨c, j2, m, ?_, tk_keep sb2 g1 rfl y2, o3, o4, o5⟩
            have f1 : es2.toList[i]? = some (tupleKeyHash (intKind prog w) ls, .ref c) := by
              rw [i2, xav, o1]; exact e1
            have f2 : t2.place.toList[i]? = some j2 := by rw [xav]; exact o2
            refine xbc (i := i) ?_
            rw [List.getElem?_zip_eq_some]
            exact ⟨f1, f2⟩
    · rw [full, decide_eq_false hf, if_neg (by decide)]
      refine wpAny_pure (q h1 _ es1 (ep + 1) t1 _ sb1 ⟨g1, S.ex, rfl, p2, by rw [p3, zz], ?_, p4, by rw [zz, hn, xaq], el1, all1⟩)
      rw [p1, zz]
      rcases S.msk with ⟨x1, x2⟩ | ⟨x1, x2⟩
      · exact .inl ⟨x1, by omega⟩
      · exact .inr ⟨x1, by omega⟩
  refine wpAny_bind (wpAny_setState_of (s := { s with toks := s.toks + (ks.length + 1) }) S.get S.dat S.fits ?_)
  dsimp only
  by_cases hpl : (t.put j).fst.plain = true
  · rw [if_pos hpl]
    refine wpAny_bind (tk_hash (s := { s with toks := s.toks + (ks.length + 1) }) hk ?_)
    exact fin
  · rw [if_neg hpl]
    refine wpAny_bind (wpAny_pure ?_)
    exact fin
end
end DL
namespace DL
open L2 PyProof.Rows
section
variable {prog : Program} {w : World} {A : Around} {h h' : Heap} {it l z : Addr} {items : Array Value}
theorem USet.move (kp : ∀ b u, b ∉ [it] -> h.get? b = some u -> h'.get? b = some u) {i : Nat} (hi : h.IsListIter it l i) (hz : z ≠ it) {o : Obj} {es : Array (Int × Value)} {ep : Nat} {t : SetTable} {kss : List (List Int)} (S : USet prog w h z o es ep t kss) : USet prog w h' z o es ep t kss :=
  ⟨kp z _ (by simpa using hz) S.get, S.ex, S.dat, S.dm, S.pl, S.msk, S.srt, S.n, fun e he => by
    obtain ⟨c, ls, e1, e2, e3⟩ := S.el e he
    exact ⟨c, ls, e1, tk_move kp hi e2, e3⟩, fun ls hls => by
    obtain ⟨c, j, k, e1, e2, e3⟩ := S.all ls hls
    exact ⟨c, j, k, e1, tk_move kp hi e2, e3⟩⟩
def addK (kss : List (List Int)) (ks : List Int) : List (List Int) := if ks ∈ kss then kss else ks :: kss
def accK (keys : Nat -> List Int) : Nat -> List (List Int)
  | 0 => []
  | i + 1 => addK (accK keys i) (keys i)
theorem addK_le (kss : List (List Int)) (ks : List Int) : kss.length <= (addK kss ks).length := by unfold addK; split <;> simp
theorem accK_le (keys : Nat -> List Int) : ∀ (n i : Nat), i <= n -> (accK keys i).length <= (accK keys n).length
  | 0, i, h => by rw [show i = 0 by omega]; exact xai _
  | n + 1, i, h => by
    by_cases e : i = n + 1
    · rw [e]; exact xai _
    · exact xa5 (accK_le keys n i (by omega)) (addK_le _ _)
def SetM (prog : Program) (w : World) (h : Heap) (z : Addr) (keys : Nat -> List Int) (i : Nat) : Prop := ∃ o es ep t, USet prog w h z o es ep t (accK keys i)
theorem set_loopU {R : Result -> Shared -> Prop} (hh : A.handled = none) (hl : l ≠ it) (hz1 : z ≠ it) (hz2 : z ≠ l) (hu : A.units + 1 < cLine) (keys : Nat -> List Int) (h4 : (accK keys items.size).length <= 18) :
    ∀ (k i : Nat) (s : Shared), items.size - i = k -> i <= items.size -> (s.heap.IsListIter it l i /\ s.heap.IsList l items) -> SetM prog w s.heap z keys i -> (∀ j, j < items.size -> ∃ b, items[j]? = some (.ref b) /\ IsTupleKey (intKind prog w) s.heap (keys j) b) ->
      (∀ h2 tk, (∀ b u, b ≠ z -> b ≠ it -> s.heap.get? b = some u -> h2.get? b = some u) -> SetM prog w h2 z keys items.size -> R (.ok (.ret .none)) { s with heap := h2, toks := tk }) ->
      codeAny (model prog w) A (.builtin "set.update.loop" ⟨[.ref z, .ref it], []⟩) R s := by
  have W := Walks.list (prog := prog) (w := w) (A := A.in1) (by rw [Around.in1_handled]; exact hh) it l hl items
  intro k
  induction k with
  | zero =>
    intro i s hk hi st ⟨o, es, ep, t, S⟩ ht fin
    obtain rfl : i = items.size := by omega
    refine codeAny_builtin PyProof.Rows.F.entry_set_update_loop ?_
    rw [Around.under_plainId PyProof.Rows.F.plain_set_update_loop _]
    show wpAny _ A.in1 (pyNext (.ref it) >>= _) _ _ _
    refine wpAny_bind (W.done s _ _ st fun h2 tk kp => ?_)
    show wpAny _ A.in1 (ret Value.none) _ _ _
    exact wpAny_pure (fin h2 tk (fun b u _ b2 e => kp b u (by simpa using b2) e) ⟨o, es, ep, t, S.move kp st.1 hz1⟩)
  | succ k ih =>
    intro i s hk hi st ⟨o, es, ep, t, S⟩ ht fin
    have hlt : i < items.size := by omega
    refine codeAny_builtin PyProof.Rows.F.entry_set_update_loop ?_
    rw [Around.under_plainId PyProof.Rows.F.plain_set_update_loop _]
    show wpAny _ A.in1 (pyNext (.ref it) >>= _) _ _ _
    refine wpAny_bind (W.item i s _ _ hlt st fun v h1 tk hv st1 kp => ?_)
    obtain ⟨b, e1, e2⟩ := ht i hlt
    rw [hv] at e1
    cases e1
    have S1 := S.move (prog := prog) (w := w) kp st.1 hz1
    have ht1 : ∀ j, j < items.size -> ∃ b, items[j]? = some (.ref b) /\ IsTupleKey (intKind prog w) h1 (keys j) b := fun j hj => by
      obtain ⟨c, c1, c2⟩ := ht j hj
      exact ⟨c, c1, tk_move kp st.1 c2⟩
    show wpAny _ A.in1 (holding [Value.ref b] (setAdd z (.ref b)) >>= _) _ _ _
    have gz : z ∉ [it, l] := by
      rw [xap, xbi]
      rintro (q | q)
      · exact hz1 q
      · exact hz2 q
    by_cases hin : keys i ∈ accK keys i
    · refine wpAny_bind (wpAny_holding (tk_old (s := { s with heap := h1, toks := tk }) S1 (tk_move kp st.1 e2) (by rw [Around.in1_units]; exact hu) hin fun tk2 => ?_))
      refine wpAny_pure ⟨plainId_quiet PyProof.Rows.F.plain_set_update_loop _, ih (i + 1) _ (by omega) hlt ?_ ⟨o, es, ep, t, ?_⟩ (fun j hj => ht1 j hj) fun h3 tk3 kp3 S3 => ?_⟩
      · exact W.frame _ h1 h1 st1 fun b hb u e => e
      · show USet prog w _ z o es ep t (addK (accK keys i) (keys i))
        unfold addK
        rw [if_pos hin]
        exact S1
      · exact fin h3 tk3 (fun b u b1 b2 e => kp3 b u b1 b2 (kp b u (by simpa using b2) e)) S3
    · have l3 : (accK keys i).length <= 17 := by
        have := accK_le keys items.size (i + 1) hlt
        have e : (accK keys (i + 1)).length = (accK keys i).length + 1 := by
          show (addK (accK keys i) (keys i)).length = _
          unfold addK
          rw [if_neg hin]; rfl
        omega
      refine wpAny_bind (wpAny_holding (tk_new (s := { s with heap := h1, toks := tk }) S1 (tk_move kp st.1 e2) (by rw [Around.in1_units]; exact hu) hin l3 fun h2 o2 es2 ep2 t2 tk2 sb S2 => ?_))
      refine wpAny_pure ⟨plainId_quiet PyProof.Rows.F.plain_set_update_loop _, ih (i + 1) _ (by omega) hlt ?_ ⟨o2, es2, ep2, t2, ?_⟩ (fun j hj => ?_) fun h3 tk3 kp3 S3 => ?_⟩
      · exact W.frame _ h1 h2 st1 fun b hb u e => (sb.2 b fun q => gz (q ▸ hb)).trans e
      · show USet prog w _ z o2 es2 ep2 t2 (addK (accK keys i) (keys i))
        unfold addK
        rw [if_neg hin]
        exact S2
      · obtain ⟨c, c1, c2⟩ := ht1 j hj
        exact ⟨c, c1, tk_keep sb S1.get S1.dat c2⟩
      · exact fin h3 tk3 (fun b u b1 b2 e => kp3 b u b1 b2 ((sb.2 b b1).trans (kp b u (by simpa using b2) e))) S3
theorem setM_new {led : Bool} {keys : Nat -> List Int} (g : h.get? z = some (newSetO led)) : SetM prog w h z keys 0 :=
  ⟨_, #[], 0, .fresh 0 0 led, g, ⟨rfl, rfl, rfl⟩, rfl, rfl, rfl, .inl ⟨rfl, by decide⟩, List.Pairwise.nil, rfl, (fun e he => by cases he), (fun ls hls => by cases hls)⟩
set_option maxHeartbeats 3200000 in
theorem call_setU {E : Value -> Shared -> Prop} {s : Shared} {Q : Value -> Shared -> Prop} (hh : A.handled = none) (hl : s.heap.IsList l items) (hu : A.units + 3 < cLine) (keys : Nat -> List Int) (h4 : (accK keys items.size).length <= 18)
    (ht : ∀ j, j < items.size -> ∃ b, items[j]? = some (.ref b) /\ IsTupleKey (intKind prog w) s.heap (keys j) b)
    (q : ∀ h2 tk, SetM prog w h2 s.heap.objs.size keys items.size -> (∀ b u, s.heap.get? b = some u -> h2.get? b = some u) -> Q (.ref s.heap.objs.size) { s with heap := h2, toks := tk }) : wpAny (model prog w) A (call (.type "set") [.ref l]) Q E s := by
  obtain ⟨mr1, mr2, mr3⟩ := PySem.F.called_set.mro
  have ma := PySem.F.called_set.made
  have su := PySem.F.called_set.sub
  have no := PySem.F.called_set.notType
  have cc := PySem.F.called_set.canCreate
  have ct := PySem.F.typeCall_set_1 (.ref l)
  refine wpAny_call (codeAny_of_tree ?_)
  show wpAny _ _ (callAny (.type "set") _) _ _ _
  refine wpAny_pure ⟨Code.quiet_builtin _ (by decide +kernel), codeAny_builtin F.entry_type_call ?_⟩
  rw [Around.under_plain (weight_type_call_type "set" [.ref l] []) rfl]
  repeat (any_goals (first | assumption | wp_step))
  refine codeAny_mono (code_set_new_1 (.ref l) (E := E) (Q₁ := fun ob s1 => ∃ led : Bool, ob = .ref s.heap.objs.size /\ s1 = { s with heap := s.heap.push (newSetO led) }) fun led => ⟨led, rfl, rfl⟩) fun r s1 hr => ?_
  cases r with
  | error e => exact hr
  | ok fl =>
    cases fl with
    | ret ob =>
      obtain ⟨led, rfl, rfl⟩ := hr
      have gS : (s.heap.push (newSetO led)).get? s.heap.objs.size = some (newSetO led) := xaz _ rfl
      have tS : Shared.TypeIs { s with heap := s.heap.push (newSetO led) } (.ref s.heap.objs.size) "set" := ⟨_, gS, rfl⟩
      have il := PySem.F.called_set.init.lookup
      have ib := PySem.F.called_set.init.bind (.ref s.heap.objs.size)
      repeat (any_goals (first | assumption | wp_step))
      refine codeAny_mono (codeAny_call_builtin (R := wants (fun r s2 => r = .none /\ ∃ h2 tk, s2 = { s with heap := h2, toks := tk } /\ SetM prog w h2 s.heap.objs.size keys items.size /\ (∀ b u, s.heap.get? b = some u -> h2.get? b = some u)) E) PySem.F.called_set.init.plain PySem.F.entry_set_init (check_set_init_1 tS ?_)) fun r2 s2 hr2 => ?_
      · obtain ⟨⟨c1, c2, c3, c4⟩, gl, cl, nl, dl⟩ := hl
        simp only at cl dl
        subst cl dl
        have gl1 : (s.heap.push (newSetO led)).get? l = some { cls := .type "list", dict := c2, data := .seq items nl, slots := c4 } := xad _ gl
        have ls := PySem.F.sub_list_set
        have lf := PySem.F.sub_list_frozenset
        have nd : (Value.type "list" == Value.type "dict") = false := by decide
        have il1 : (s.heap.push (newSetO led)).IsList l items := ⟨_, gl1, rfl, nl, rfl⟩
        unfold Builtin.«set.__init__» noKeywords Builtin.Frozenset.updateFrom
        generalize hPI : pyIter = PI
        wp_walk
        subst hPI
        refine wpAny_pyIter_list il1 ?_
        refine wpAny_bind (wpAny_runValue ?_)
        have lS : l < s.heap.objs.size := xag gl
        refine set_loopU (A := A.in1.in1) (it := (s.heap.push (newSetO led)).objs.size) (l := l) (z := s.heap.objs.size) (items := items) hh ?_ ?_ ?_ hu keys h4 items.size 0 _ (by omega) (xcm _) ⟨⟨_, xaz _ rfl, rfl, rfl⟩, il1.push _⟩ (setM_new (led := led) (xad _ gS)) ?_ ?_
        · rw [xc2]; exact xax (Nat.lt_succ_of_lt lS)
        · rw [xc2]; exact xax (xcq _)
        · exact xce lS
        · intro j hj
          obtain ⟨b, b1, b2⟩ := ht j hj
          obtain ⟨ob, its, m, g1, g2, g3, g4⟩ := b2
          exact ⟨b, b1, ob, its, m, xad _ (xad _ g1), g2, g3, g4⟩
        · intro h2 tk kp S2
          show wpAny _ _ _ _ _ _
          refine wpAny_pure ?_
          show wpAny _ _ (ret Value.none) _ _ _
          refine wpAny_pure ⟨rfl, h2, tk, rfl, S2, fun b u e => ?_⟩
          have lb := xag e
          refine kp b u (xax lb) ?_ (xad _ (xad _ e))
          rw [xc2]; exact xax (Nat.lt_succ_of_lt lb)
      · cases r2 with
        | error e => exact hr2
        | ok fl2 =>
          cases fl2 with
          | ret r =>
            obtain ⟨rfl, h2, tk, rfl, S2, k2⟩ := hr2
            repeat (any_goals (first | assumption | wp_step))
            exact q _ _ S2 k2
          | _ => exact hr2.elim
    | _ => exact hr.elim
end
end DL
namespace DL
open L2 PyProof.Rows
section
variable {X : Cx} {E : XK}
def accL (kss : List (List Int)) : List (List Int) := accK (fun j => kss.getD j []) kss.length
def rSetU (K : xFg) : List V -> Hp -> VK -> Prop := fun xs H Q => ∃ (p : Addr) (ys : List V) (kss : List (List Int)), xs = [.ref p] /\ SqL K H p ys /\ TupsAre K H ys kss /\ (accL kss).length <= 18 /\ ∀ a, H a = none -> Q (.ref a) (upd H a (.ext (setφ a (accL kss).length)))
theorem call_setE {k : Nat} (hc : X.calm = true) (r : Room k X.A) : CallR X (.type "set") (rSetU X.K) := by
  intro pins s Z H xs us Q I rs h
  obtain ⟨p, ys, kss, rfl, hq, ht, h4, q⟩ := h
  obtain ⟨u, rfl, rx⟩ := vals1 rs
  cases rx
  obtain ⟨its, rv, pl, hz⟩ := I.list hq
  have hlen : its.length = kss.length := by rw [<- rv.length, ht.length]
  have hsz : its.toArray.size = kss.length := by rw [xah, hlen]
  refine call_setU (I.ok.hd hc) pl.isList (by have := r.un; omega) (fun j => kss.getD j []) (by rw [hsz]; exact h4) (fun j hj => ?_) fun h2 tk S2 kp => ?_
  · rw [xah] at hj
    obtain ⟨b, b1, b2⟩ := tups_at I ht rv j hj
    exact ⟨b, by rw [xb2]; exact b1, b2⟩
  · obtain ⟨o, es, ep, t, S⟩ := S2
    have hn : es.size = (accL kss).length := by rw [S.n, hsz]; rfl
    refine ⟨.ref s.heap.objs.size, _, I.laid (t' := tk) (h' := h2) kp (xai _) (show ObjOk X.prog X.w _ h2 _ (.ext (setφ s.heap.objs.size (accL kss).length)) from ⟨⟨o, es, ep, t, S.get, S.ex, S.dat, S.fits, hn⟩, ⟨o, S.get⟩, ?_⟩), rfl, q _ (I.hok.fresh (xai _))⟩
    rintro h1 h3 ⟨o, es, ep, t, g, r1⟩ kk
    exact ⟨o, es, ep, t, kk o g, r1⟩
def setLenU : D -> R D
  | .lst ds => match keysOf ds with
    | some kss => bif Nat.ble (accL kss).length 18 then .ok (.int (accL kss).length) else .bad
    | none => .bad
  | _ => .bad
def eSetLenU (f : DSt -> R D) : DSt -> R D := fun Z => (f Z).bind setLenU
theorem de_setlenU {k : Nat} (C : XC X E k) (hm1 : X.mg "len" = none) (hm2 : X.mg "set" = none) {e : Expr} {fe : DSt -> R D} {p1 p2 pos pos2 : Pos} (hfe : DE X E e fe) (hg1 : Gl X "len" := by rfl) (hg2 : Gl X "set" := by rfl)
    (he1 : starEach [.Call (.Name "set" p2) [e] [] pos2] X.env = (false, eval (.Call (.Name "set" p2) [e] [] pos2) X.env) :: starEach [] X.env := by rfl) (hpl1 : (backTo pos (starEach [] X.env)).any (·.1) = false := by rfl)
    (he2 : starEach [e] X.env = (false, eval e X.env) :: starEach [] X.env := by rfl) (hpl2 : (backTo pos2 (starEach [] X.env)).any (·.1) = false := by rfl) :
    DE X E (.Call (.Name "len" p1) [.Call (.Name "set" p2) [e] [] pos2] [] pos) (eSetLenU fe) := by
  refine PE.mono' (pe_callB call_lenT hg1 hm1 PySem.boot_len (pa_cons (pe_callTy (call_setE C.calm C.room) hg2 hm2 (by rfl) (da_cons hfe da_nil he2) (by decide) (by decide) he2 hpl2) pa_nil he1) (by decide) (by decide) he1 hpl1) fun Z H Q ⟨G, Zd, ok, q⟩ => ?_
  refine ⟨G, Zd, ok, (show RW ((aCons fe aNil) Zd) _ _ from ?_)⟩
  unfold aCons
  have q2 := q.of_bind
  cases hf : fe Zd with
  | bad => rw [hf] at q2; exact q2.elim
  | err x => rw [hf] at q2; exact (show AfterX X.K X.mg E G H x from q2)
  | ok d =>
    rw [hf] at q2
    have q3 : RW (setLenU d) (After X.K X.mg Q G H) (AfterX X.K X.mg E G H) := q2
    rintro ws G2 H2 s2 ⟨v, _, e1, r3, r4⟩
    subst e1
    cases r4
    cases d with
    | lst ds =>
      obtain ⟨b, vs, rfl, hb, hv⟩ := r3
      cases hs' : keysOf ds with
      | none => simp only [setLenU, hs'] at q3; exact q3.elim
      | some kss =>
        cases hC : Nat.ble (accL kss).length 18 with
        | false => simp only [setLenU, hs', hC, cond_false] at q3; exact q3.elim
        | true =>
          simp only [setLenU, hs', hC, cond_true] at q3
          rw [Nat.ble_eq] at hC
          refine ⟨b, vs, kss, rfl, s2.e.seq hb, (keys_tups hs' hv).mono s2.e, hC, fun a ha => ?_⟩
          have q4 : After X.K X.mg Q G H (.int (accL kss).length) := q3
          exact ⟨a, (accL kss).length, rfl, upd_same, by omega, q4 _ G2 _ (s2.trans (.hid s2.e ha)) rfl⟩
    | _ => exact (show False from q3).elim
end
end DL
end
namespace DL
open L2 PyProof.Rows
section
variable {K : xFg} {mg : Str -> Option Value} {G G' H H' : Hp}
end
section
variable {X : Cx} {E : XK} {k : Nat} {x : Str} {m : List D -> R (List D)} {p pos : Pos} {e : Expr} {es : List Expr} {fs : DSt -> R (List D)}
end
section
variable {P : Program} {w : World} {K : xFg} {mg : Str -> Option Value} {base : Heap}
end
section
variable {X : Cx} {E : XK} {own own' ol : List Nat} {pos p : Pos}
end
end DL
section
namespace L2
open PyProof.Rows
end L2
namespace DL
open L2 PyProof.Rows
section
variable {X : Cx} {E : XK}
end
end DL
end
namespace DL
open L2 PyProof.Rows
section
variable {X : Cx} {E : XK} {K : xFg} {mg : Str -> Option Value} {G H : Hp}
variable {x : Str} {p pos : Pos} {e : Expr} {es : List Expr} {fs : DSt -> R (List D)}
end
inductive KI | i (n : Int) (t : Tok) | s (x : Str) (t : Tok)
def KI.d : KI -> D
  | .i n _ => .int n
  | .s x _ => .str x
def KI.v : KI -> V
  | .i n _ => .int n
  | .s x _ => .str x
def KI.u : KI -> Value
  | .i n t => .int n t
  | .s x t => .str x t
section
variable {K : xFg} {mg : Str -> Option Value}
theorem vals_of_ki : ∀ l : List KI, Vals (l.map KI.v) (l.map KI.u)
  | [] => .nil
  | .i n t :: l => .cons ⟨t, rfl⟩ (vals_of_ki l)
  | .s x t :: l => .cons ⟨t, rfl⟩ (vals_of_ki l)
theorem reps_of_ki {G : Hp} : ∀ l : List KI, Reps K mg G (l.map KI.d) (l.map KI.v)
  | [] => Reps.nil
  | .i n t :: l => Reps.cons rfl (reps_of_ki l)
  | .s x t :: l => Reps.cons rfl (reps_of_ki l)
theorem rep_kmix {G : Hp} {a : Addr} {dd : Option Addr} {its : Array Value} {n : Nat} {sl : Array (Option Value)} {l : List KI} (lk : K.lookup a = some ⟨.type "tuple", dd, .seq its n, sl⟩) (h : its.toList = l.map KI.u) (hz : l.length <= 100) : Rep K mg G (.tup (l.map KI.d)) (.ref a) := by
  refine ⟨a, _, rfl, .inr ⟨_, its, n, lk, rfl, rfl, ?_, by rw [h]; exact vals_of_ki l⟩, reps_of_ki l⟩
  rw [<- xar, h, xab]
  exact xa5 hz (by decide)
end
end DL
namespace PySem
open PySem.Sem (wp)
section
variable {prog : Program} {w : World} {A : Around} {E : Value -> Shared -> Prop} {C fI : Addr} {bm vs : List Value} {oC : Obj}
end
end PySem
namespace L2
open PySem.Spec PyProof.Rows
section
open PySem.W Builtin Builtin.ObjectAttr
variable {prog : Program} {w : World} {A : Around} {R : Result -> Shared -> Prop} {s : Shared} {K : Frag} {x C : Addr}
end
section
variable {prog : Program} {w : World} {A : Around} {E : Value -> Shared -> Prop} {s : Shared} {K : xFg} {x C : Addr} {vs : Array Value} {sl : Array (Option Value)} {name : Str} {v : Value}
end
end L2
namespace L2
open PySem.Spec PyProof.Rows
section
variable {X : Cx} {pins : List (Addr × Obj)} {Z : St} {H : Hp} {s : Shared} {x C : Addr}
end
section
variable {X : Cx} {pins : List (Addr × Obj)} {Z : St} {H : Hp} {s : Shared} {x C dx : Addr} {E : XK} {M : Model} {EE : Value -> Shared -> Prop}
end
end L2
namespace L2
open PySem.Spec PyProof.Rows
section
variable {P : Program} {w : World} {K : xFg} {mg : Str -> Option Value} {base : Heap} {N : List Str} {qual : Str} {scope : Scope} {f : Addr} {cdv : Value} {A : Around} {outer : List Env} {s0 : Shared} {H0 : Hp} {E : XK}
end
end L2
namespace DL
open L2 PyProof.Rows
section
variable {P : Program} {w : World} {K : xFg} {mg : Str -> Option Value} {base : Heap} {N : List Str} {qual : Str} {scope : Scope} {f : Addr} {cdv : Value} {A : Around} {outer : List Env} {s0 : Shared} {H0 : Hp} {E : XK} {own own' ol : List Nat}
end
end DL
section
namespace L2
open PySem.Spec PyProof.Rows PySem.W
section
variable {prog : Program} {w : World} {A : Around} {E : Value -> Shared -> Prop} {s : Shared} {K : Frag} {x D : Addr} {ox : Obj} {od : Option Obj} {name : Str} {tk : Tok}
end
section
variable {X : Cx} {pins : List (Addr × Obj)} {Z : St} {H : Hp} {s : Shared}
end
end L2
namespace DL
open L2 PyProof.Rows
section
variable {X : Cx} {E : XK} {K : xFg} {mg : Str -> Option Value} {G H : Hp}
variable {x : Str} {p pos : Pos} {e : PySem.Expr} {es : List PySem.Expr} {fs : DSt -> R (List D)}
end
end DL
end
section
namespace L2
open PyProof.Rows
def Ite (K : xFg) (a : Addr) : It :=
  ⟨fun i H => ∃ xs x, SqL K H a xs /\ xs[i]? = some x,
   fun i H v H' => ∃ T x, v = .ref T /\ H T = none /\ H' = upd H T (.tup [.int i, x]) /\ ∀ xs, SqL K H a xs -> xs[i]? = some x,
   fun i H => ∃ xs, SqL K H a xs /\ xs.length <= i⟩
structure EL (e it a : Addr) (k : Nat) (h : Heap) : Prop where
  e : ∃ old, IsEnum h e it k old
  it : h.IsListIter it a k
theorem turn_enum {P : Program} {w : World} {K : xFg} {es : List Expr} {ct : Nat} {ps : Pos} {e it a : Addr} (ne : e ≠ it) : Turn P w K (.Tuple es ct ps) (Ite K a) [e, it] e (EL e it a) where
  mem := by simp
  obj := fun i h st c hc => by
    simp only [xap, xa7, or_false] at hc
    rcases hc with rfl | rfl
    · obtain ⟨old, q⟩ := st.e
      exact ⟨_, q, fun v q => by cases q⟩
    · obtain ⟨o, e, c, d⟩ := st.it
      exact ⟨o, e, fun v q => by rw [d] at q; cases q⟩
  keep := fun i h h' st k => by
    obtain ⟨old, q⟩ := st.e
    exact ⟨⟨old, k _ (by simp) _ q⟩, st.it.at fun o e => k _ (by simp) o e⟩
  item := by
    intro X hP hw hK hc i pins s Z H E I hf st hg
    subst hP hw hK
    obtain ⟨xs, x, h1, hx⟩ := hg
    obtain ⟨its, rv, p, _⟩ := I.list h1
    obtain ⟨u, hu, ru⟩ := rv.get hx
    obtain ⟨old, q0⟩ := st.e
    refine wpAny_pyNext_enum_item q0 st.it p.isList (x := u) (by simpa using hu) ne fun g Zz Zi pg sg kg => ⟨_, rfl, ?_⟩
    refine wpAny_letOwnedTupleGo_enum Zz fun g' zg sb => ?_
    obtain ⟨oi, qi, _⟩ := st.it
    have I1 : Inv X pins Z (upd H s.heap.objs.size (.tup [.int i, x])) { s with heap := s.heap.push (tp2 (.int i s.toks) u), toks := s.toks } :=
      I.laid (fun _ _ q => xad _ q) (xai _) ⟨by show 2 <= sizeLine; decide, [.int i s.toks, u], .cons ⟨s.toks, rfl⟩ (.cons ru .nil), ⟨_, xaz _ rfl, rfl, 0, rfl⟩⟩
    have fr : ∀ c ∈ [e, it], c ≠ s.heap.objs.size := fun c hc ec => by
      simp only [xap, xa7, or_false] at hc
      rcases hc with rfl | rfl
      · exact xax (xag q0) ec
      · exact xax (xag qi) ec
    have I2 : Inv X pins Z (upd H s.heap.objs.size (.tup [.int i, x])) { s with heap := g', toks := s.toks + 1 } := by
      refine Inv.turnedL (s := { s with heap := s.heap.push (tp2 (.int i s.toks) u), toks := s.toks }) (h' := g') (t' := s.toks + 1) (ch := [e, it]) I1 (fun c o hc ec => ?_) fun c hc => ?_
      · have cz : c ≠ e := fun q => hc (by simp [q])
        rcases Heap.get?_push_cases ec with ⟨rfl, rfl⟩ | ec
        · exact sb.extBut _ _ cz pg
        · exact sb.extBut _ _ cz (kg c o cz (fun q => hc (by simp [q])) ec)
      · exact ⟨by rw [upd_ne (fr c hc)]; exact (hf c hc).1, (hf c hc).2⟩
    refine ⟨.ref s.heap.objs.size, _, I2, rfl, ⟨_, x, rfl, I.fresh, rfl, fun zs hz => by rw [I.list_inj hz h1]; exact hx⟩, ⟨⟨_, by simpa using zg⟩, Zi.at fun o eo => sb.extBut _ _ ne.symm eo⟩, fun c hc => by rw [upd_ne (fr c hc)]; exact (hf c hc).1⟩
  done := by
    intro X hP hw hK hc i pins s Z H E I hf st hg
    subst hP hw hK
    obtain ⟨xs, h1, hx⟩ := hg
    obtain ⟨its, rv, p, _⟩ := I.list h1
    obtain ⟨old, q0⟩ := st.e
    have hl := rv.length
    refine wpAny_pyNext_enum_end (I.ok.hd hc) q0 st.it p.isList (by simp; omega) fun g kg => ⟨rfl, I.turnedL (t' := s.toks) (ch := [e, it]) (fun c o hc ec => ?_) hf⟩
    exact kg c o (fun q => hc (by simp [q])) ec
  self := fun A i s Q E st h => by
    obtain ⟨old, q0⟩ := st.e
    exact wpAny_pyIter_enum q0 h
end L2
namespace DL
open L2 PyProof.Rows
section
variable {X : Cx} {E : XK}
def iEnumE (K : xFg) (ta : TA) : TI := fun Z H R => ta Z H fun vs H1 => ∃ a, vs = [.ref a] /\ (∃ xs, SqL K H1 a xs) /\ R (Ite K a) H1
theorem boot_enum : bootBuiltins "enumerate" = some (.type "enumerate") := by decide +kernel
theorem pi_enum {a : Expr} {ta : TA} {p pos ps : Pos} {es : List Expr} {ct : Nat} (hg : Gl X "enumerate") (hm : X.mg "enumerate" = none) (ha : PA X [a] ta) (hs : starEach [a] X.env = [(false, eval a X.env)] := by rfl) :
    PI X (.Tuple es ct ps) (.Call (.Name "enumerate" p) [a] [] pos) (iEnumE X.K ta) := by
  intro pins s Z H R I h
  refine Call_ (ld_blt I hg hm boot_enum (PyProof.Rows.callWith_type1 (thn (ha pos pins s Z H _ I h) fun us s1 ⟨vs, H1, I1, r1, q1⟩ => ?_) hs rfl))
  obtain ⟨a, e, ⟨xs, hx⟩, q⟩ := q1
  subst e
  cases r1 with
  | cons r rr =>
    cases rr
    cases r
    obtain ⟨its, _, p1, _⟩ := I1.list hx
    refine call_enumerate_list p1.isList fun g zz zi _ kg => ?_
    have st : EL (s1.heap.objs.size + 1) s1.heap.objs.size a 0 g := ⟨⟨_, zz⟩, zi⟩
    have ne : s1.heap.objs.size + 1 ≠ s1.heap.objs.size := xce (xcq _)
    refine (turn_enum (P := X.prog) (w := X.w) (K := X.K) (es := es) (ct := ct) (ps := ps) ne).self X.A 0 { s1 with heap := g } _ _ st ?_
    refine ⟨_, [s1.heap.objs.size + 1, s1.heap.objs.size], _, _, H1, rfl, I1.kept (t' := s1.toks) kg, turn_enum ne, st, fun c hc => ?_, q⟩
    have hc : s1.heap.objs.size <= c := by
      simp only [xap, xa7, or_false] at hc
      rcases hc with rfl | rfl
      · exact Nat.le_add_right _ _
      · exact xai _
    exact I1.fpOk hc (I1.hok.fresh hc)
def enumD (k : Nat) : List D -> List D
  | [] => []
  | d :: ds => .tup [.int k, d] :: enumD (k + 1) ds
theorem enumD_len : ∀ (ds : List D) (k : Nat), (enumD k ds).length = ds.length
  | [], _ => rfl
  | _ :: ds, k => by rw [enumD, xaq, xaq, enumD_len ds]
theorem enumD_get : ∀ (ds : List D) (k i : Nat) (d : D), (enumD k ds)[i]? = some d -> ∃ x, ds[i]? = some x /\ d = .tup [.int ((k + i : Nat) : Int), x]
  | [], _, i, d, h => by cases i <;> cases h
  | y :: ds, k, 0, d, h => ⟨y, rfl, (Option.some.inj h).symm⟩
  | y :: ds, k, i + 1, d, h => by
    obtain ⟨x, h1, h2⟩ := enumD_get ds (k + 1) i d h
    exact ⟨x, h1, by rw [h2, show k + 1 + i = k + (i + 1) by omega]⟩
def iEnumerate1 : List D -> R (List D)
  | [.lst xs] => .ok (enumD 0 xs)
  | _ => .bad
theorem IterD.enum {K : xFg} {mg : Str -> Option Value} {G : Hp} {a : Addr} {vs : List V} {xs : List D} (h : SqL K G a vs) (r : Reps K mg G xs vs) : IterD K mg (Ite K a) G (enumD 0 xs) := by
  refine ⟨fun H e => ⟨vs, e.seq h, by rw [enumD_len, r.length]; exact xai _⟩, fun H i d e hd => ?_⟩
  obtain ⟨x, hx, rfl⟩ := enumD_get xs 0 i d hd
  obtain ⟨v, hv, rv⟩ := r.get hx
  refine ⟨⟨vs, v, e.seq h, hv⟩, ?_⟩
  rintro _ H' ⟨T, v', rfl, hn, rfl, q1⟩ G1 e1 e2
  have z1 := q1 _ (e.seq h)
  rw [hv] at z1; cases z1
  have st := Step.pub (o := .tup [.int i, v]) e2 hn
  exact ⟨upd G1 T (.tup [.int i, v]), st, T, [.int i, v], rfl, SqT.of upd_same, .cons (by rw [xbk]; rfl) (.cons (rv.mono (e1.trans st.g)) rfl)⟩
theorem di_enumerate1 {a : Expr} {fs : DSt -> R (List D)} {p pos ps : Pos} {es : List Expr} {ct : Nat} (hm : X.mg "enumerate" = none) (ha : DA X E [a] fs) (hg : Gl X "enumerate" := by rfl) (hs : starEach [a] X.env = [(false, eval a X.env)] := by rfl) :
    DI X E (.Tuple es ct ps) (.Call (.Name "enumerate" p) [a] [] pos) (iArgs iEnumerate1 fs) := by
  refine PI.mono' (pi_enum hg hm ha hs) fun Z H R ⟨G, Zd, ok, q⟩ => ?_
  refine ⟨G, Zd, ok, q.of_bind.mono (fun ds _ z vs G' H' s r => ?_) fun _ z => z⟩
  match ds, z, r with
  | [.lst xs], z, r =>
    obtain ⟨v, r1, rfl, ⟨a, as, rfl, h1, k1⟩, r2⟩ := r
    cases r2
    exact ⟨a, rfl, ⟨as, s.e.seq h1⟩, z _ G' H' s (.enum h1 k1)⟩
end
end DL
end
namespace DL
open L2 PyProof.Rows
section
variable {X : Cx} {E : XK} {own own' ol : List Nat} {x y : Str} {e k : Expr} {fe fx : DSt -> R D} {pos : Pos}
end
structure OkA (K : xFg) (mg : Str -> Option Value) (H0 : Hp) (own : List Nat) (x j : Nat) (Zd : DSt) (Z : L2.St) (G H : Hp) : Prop where
  ok : Ok K mg H0 own (Zd.set x none) Z G H
  no : x ∉ own
  yes : j ∈ own
  al : ∃ d a, Zd[x]? = some (some d) /\ Zd[j]? = some (some d) /\ Z[x]? = some (some (.ref a)) /\ Z[j]? = some (some (.ref a))
section
variable {K : xFg} {mg : Str -> Option Value} {G G' G0 H H' H0 : Hp} {own : List Nat} {x j : Nat} {Zd : DSt} {Z : L2.St}
theorem Ok.dropX {v : V} (o : Ok K mg H0 own Zd Z G H) (hx : x ∉ own) : Ok K mg H0 own (Zd.set x none) (Z.set x (some v)) G H := by
  have ne : ∀ {i : Nat} {d : D}, (Zd.set x none)[i]? = some (some d) -> i ≠ x := fun {i d} h z => by
    subst z
    by_cases hl : i < Zd.length
    · rw [xal hl] at h; cases h
    · rw [xcv (by simpa using xb3 hl)] at h; cases h
  have nb : ∀ {i : Nat} {d : D}, (h : (Zd.set x none)[i]? = some (some d)) -> Zd[i]? = some (some d) := fun {i d} h => by
    rw [xaa (xas (ne h))] at h; exact h
  refine ⟨o.ext, by simp [o.len], fun i d hi h => ?_, fun i d hi h => ?_, fun i k a d1 d2 h1 h2 h3 h4 h5 h6 => ?_⟩
  · rw [xaa (xas (ne h))]; exact o.val i d hi (nb h)
  · rw [xaa (xas (ne h))]; exact o.mine i d hi (nb h)
  · rw [xaa (xas (ne h3))] at h5
    rw [xaa (xas (ne h4))] at h6
    exact o.dj i k a d1 d2 h1 h2 (nb h3) (nb h4) h5 h6
theorem OkA.ne (o : OkA K mg H0 own x j Zd Z G H) : x ≠ j := fun z => o.no (z ▸ o.yes)
theorem OkA.step (o : OkA K mg H0 own x j Zd Z G H) (s : Step G H G' H') : OkA K mg H0 own x j Zd Z G' H' := ⟨o.ok.step s, o.no, o.yes, o.al⟩
theorem OkA.pub (o : OkA K mg H0 own x j Zd Z G H) : Ok0 K mg Zd Z (pubG own (Zd.set x none) Z G H) H := by
  have p := o.ok.pub.1
  obtain ⟨d0, a, e1, e2, e3, e4⟩ := o.al
  refine ⟨p.ext, by have := p.len; simpa using this, fun i d h => ?_⟩
  by_cases hx : i = x
  · subst hx
    rw [e1] at h; cases h
    obtain ⟨v, h1, h2⟩ := p.val j d0 (by rw [xaa o.ne]; exact e2)
    rw [e4] at h1; cases h1
    exact ⟨_, e3, h2⟩
  · exact p.val i d (by rw [xaa (xas hx)]; exact h)
theorem OkA.set {i : Nat} {d : D} {v : V} (o : OkA K mg H0 own x j Zd Z G H) (hi : i ∉ own) (hx : i ≠ x) (h : Rep K mg G d v) : OkA K mg H0 own x j (Zd.set i (some d)) (Z.set i (some v)) G H := by
  have hj : i ≠ j := fun z => hi (z ▸ o.yes)
  obtain ⟨d0, a, e1, e2, e3, e4⟩ := o.al
  refine ⟨by rw [List.set_comm _ _ hx]; exact o.ok.set hi h, o.no, o.yes, d0, a, ?_, ?_, ?_, ?_⟩
  · rw [xaa hx]; exact e1
  · rw [xaa hj]; exact e2
  · rw [xaa hx]; exact e3
  · rw [xaa hj]; exact e4
end
def tSA (K : xFg) (mg : Str -> Option Value) (E : XK) (G0 H0 : Hp) (own own' ol : List Nat) (x j : Nat) (f : DSt -> R Out) : TS := fun Dn Z H => ∃ G Zd, OkA K mg H0 own x j Zd Z G H /\ Step G0 H0 G H /\ RW (f Zd) (OutW K mg G0 H0 own' ol Dn G) (AfterX K mg E G0 H0)
def DSA (X : Cx) (E : XK) (own own' ol : List Nat) (x : Nat) (st : List Stmt) (f : DSt -> R Out) : Prop := ∀ j G0, PSs X st (tSA X.K X.mg E G0 X.H₀ own own' ol x j f)
def sDrop (x : Nat) (g : DSt -> R Out) : DSt -> R Out := fun Z => g (Z.set x none)
section
variable {X : Cx} {E : XK} {own own' ol : List Nat} {x : Nat} {rest : List Stmt} {f g : DSt -> R Out} {pos : Pos}
theorem dsa_end (h : DSs X E own own' ol rest g) : DSA X E own own' ol x rest (sDrop x g) := fun j G0 => PSs.mono' (h G0) fun Dn Z H ⟨G, Zd, ok, s0, q⟩ => ⟨G, Zd.set x none, ok.ok, s0, q⟩
theorem dsa_set (i : Nat) {y : Str} {e : Expr} {pos' : Pos} {fe : DSt -> R D} (hN : X.N.Nodup) (he : DE X E e fe) (h : DSA X E own own' ol x rest g) (ho : (own.contains i || i == x) = false := by rfl) (hi : X.N[i]? = some y := by rfl) (hx : Loc X.env.scope y := by first | exact Or.inl rfl | exact Or.inr rfl) (hs : swapsWith e (some (.Name y pos')) pos.line X.env = pure false := by rfl)
    (hf : X.fn y = true \/ X.env.scope.names.lookup y = some .local := by first | exact .inl rfl | exact .inr rfl | assumption) : DSA X E own own' ol x (.Assign [.Name y pos'] e pos :: rest) (sSeq (sSetP i fe) g) := fun j G0 =>
  PSs.mono' (pss_cons (ps_set hN hi hx he hs hf) (h j G0)) fun Dn Z H ⟨G, Zd, ok, s0, q⟩ => by
  rw [Bool.or_eq_false_iff] at ho
  have hix : i ≠ x := by simpa using ho.2
  have s1 := ok.ok.pubStep s0
  refine ⟨_, Zd, ok.pub, (RW.of_bind q.of_bind).mono (fun d _ z v G' H' s r => ?_) fun _ z => z.step s1⟩
  cases hd : imm d with
  | false => rw [hd] at z; exact (show False from z).elim
  | true =>
    rw [hd] at z
    obtain ⟨st, sT⟩ := ok.ok.hide s
    exact ⟨_, _, (ok.step st).set (mem_of ho.1) hix (r.imm sT hd), s0.trans st, (show RW (g (Zd.set i (some d))) _ _ from z).mono (fun o _ z => z.shift st.g) fun _ z => z⟩
end
end DL
section
namespace L2
open PySem.Spec PyProof.Rows
section
variable {prog : Program} {w : World} {A : Around} {E : Value -> Shared -> Prop} {C fI : Addr} {bm : List Value} {oC : Obj}
end
section
variable {X : Cx}
end
end L2
namespace DL
open L2 PyProof.Rows
section
variable {X : Cx} {E : XK}
end
end DL
end
section
namespace L2
open PySem.Spec PyProof.Rows
variable {X : Cx}
end L2
namespace DL
open PySem.Spec PyProof.Rows L2
variable {K : xFg} {mg : Str -> Option Value} {X : Cx} {e : Expr} {es : List Expr} {p pos : Pos}
end DL
end
namespace DL
open L2 PyProof.Rows
section
variable {K : xFg} {mg : Str -> Option Value} {G G' H H' : Hp}
end
def sSeqP (f : DSt -> R Out) (g : DSt -> R (List D × List D)) : DSt -> R (List D × List D) := fun Z => (f Z).bind fun o => match o with
  | .nx Z' => g Z'
  | _ => .bad
section
variable {X : Cx} {E : XK} {own own1 : List Nat} {st : Stmt} {rest : List Stmt} {f : DSt -> R Out} {g : DSt -> R (List D × List D)} {pos p p2 p3 : Pos} {kt : Nat}
end
section
variable {P : Program} {w : World} {K : xFg} {mg : Str -> Option Value} {base : Heap}
end
section
variable {K : xFg} {mg : Str -> Option Value} {G G' G0 H H' H0 : Hp} {x : Nat} {Zd : DSt} {Z : L2.St}
end
def sEnd (r : R Out) : R Out := r.bind fun o => match o with
  | .nx _ => .bad
  | o => .ok o
def sIfB (x : Nat) (c : DSt -> R Bool) (f g : DSt -> R Out) : DSt -> R Out := fun Z => (c Z).bind fun k => bif k then sEnd (f (Z.set x none)) else g Z
section
variable {X : Cx} {E : XK} {own1 own' ol : List Nat} {x : Nat} {rest : List Stmt} {f g : DSt -> R Out} {pos : Pos}
end
section
variable {X : Cx} {E : XK} {own' ol : List Nat} {rest : List Stmt} {g : DSt -> R Out} {pos apos cpos np kpos spos : Pos} {y : Str} {j : Option Str}
end
end DL
namespace DL
open L2 PyProof.Rows
section
variable {K : xFg} {mg : Str -> Option Value} {G G' H H' : Hp}
end
end DL
section
namespace L2
open PyProof.Rows
section
variable {prog : Program} {w : World} {A : Around} {E : Value -> Shared -> Prop} {s : Shared}
end
end L2
namespace DL
open L2 PyProof.Rows
section
variable {X : Cx} {E : XK}
end
end DL
end
namespace DL
open L2 PyProof.Rows
section
variable {P : Program} {w : World} {K : xFg} {mg : Str -> Option Value} {base : Heap} {x : Str} {st : Stmt} {f : Addr} {fd : FuncData} {N ps : List Str} {k n nN : Nat} {own' : List Nat} {body : DSt -> R Out}
structure FD (K : xFg) (x : Str) (st : Stmt) : Prop where
  ex : ∃ f fd, PySem.W.nsIn K mainGlobals x = some (some (.ref f)) /\ Fun K x x st f fd
theorem FD.mk' {oc : Value} {od an : Option Addr} {osl : Array (Option Value)} {kV doc pm cdv ct : Value} (a : PySem.W.nsIn K mainGlobals x = some (some (.ref f))) (l : K.lookup f = some ⟨oc, od, .func (PySem.W.fnOf x x (defArgs st) (defBody st) (defScope st) .none kV doc pm an cdv ct), osl⟩)
    (c : PySem.W.codeIn K cdv x = true) (k : PySem.W.keepIn K (.ref f) = true) : FD K x st := ⟨f, _, a, fun_mk l c k⟩
structure FA (K : xFg) (mg : Str -> Option Value) (x : Str) (st : Stmt) (ps : List Str) (f : Addr) (fd : FuncData) : Prop where
  F : Fun K x x st f fd
  m : mg x = some (.ref f)
  b : Binds K fd ps []
theorem FD.go {h : Heap} (d : FD K x st) (X : K.In h) (G : h.Ns mainGlobals mg) (ps : List Str)
    (b : ∀ (kV doc pm : Value) (an : Option Addr) (cdv ct : Value) (us : List Value), us.length = ps.length -> bindArgs (PySem.W.fnOf x x (defArgs st) (defBody st) (defScope st) .none kV doc pm an cdv ct) ⟨us, []⟩ = pure (ps.zip us)) : ∃ f fd, FA K mg x st ps f fd := by
  obtain ⟨f, fd, a, F⟩ := d.ex
  exact ⟨f, fd, F, xbm X G a, F.binds b⟩
abbrev XX (P : Program) (w : World) (K : xFg) (mg : Str -> Option Value) (base : Heap) (x : Str) (st : Stmt) (f : Addr) (N : List Str) (k : Nat) (D : Cx -> XK -> Prop) : Prop :=
  ∀ cdv A outer s H E, XC (cxOf (CXe P w) P w K mg base N x (defScope st) f cdv A outer s H E) E k -> XL (cxOf (CXe P w) P w K mg base N x (defScope st) f cdv A outer s H E) -> N.Nodup -> D (cxOf (CXe P w) P w K mg base N x (defScope st) f cdv A outer s H E) E
theorem FA.ok (F : FA K mg x st ps f fd) (S : FnScope N ps (defScope st)) (hn : ps.length = n) (hN : N.length = nN)
    (hb : XX P w K mg base x st f N k fun X E => DSs X E [] own' [] (defBody st) body) : FnAt P w K mg base (k + 1) x (fnM n nN body) :=
  FnAt.mk' F.F S F.m F.b hn hN fun X E hX C L => by
    obtain ⟨cdv, A, outer, s, H, rfl⟩ := hX
    exact hb cdv A outer s H E C L S.nd
end
end DL
namespace DL
open L2 PyProof.Rows
theorem PSs.either {X : Cx} {st : List Stmt} {t u : TS} (h1 : PSs X st t) (h2 : PSs X st u) : PSs X st (fun D Z H => t D Z H \/ u D Z H) := fun pins s Z H D I q => q.elim (h1 pins s Z H D I) (h2 pins s Z H D I)
def sAlias1 (x i : Nat) (g : DSt -> R Out) : DSt -> R Out := fun Z => (lstAt Z i).bind fun ds => g (Z.set x (some (.lst ds)))
def sIfA (x i : Nat) (c : DSt -> R Bool) (g : DSt -> R Out) : DSt -> R Out := fun Z => (c Z).bind fun k => bif k then (lstAt Z i).bind fun ds => g (Z.set x (some (.lst ds))) else g Z
section
variable {X : Cx} {E : XK} {own own' ol : List Nat} {x : Nat} {rest : List Stmt} {f g : DSt -> R Out} {pos : Pos}
theorem dss_alias1 (i x : Nat) {z u : Str} {np pos' : Pos} (hN : X.N.Nodup) (h : DSA X E own own' ol x rest g) (ho : (own.contains i && !own.contains x) = true := by rfl) (h1 : X.N[i]? = some u := by rfl) (h3 : X.N[x]? = some z := by rfl)
    (hz : Loc X.env.scope z := by first | exact Or.inl rfl | exact Or.inr rfl) (hv : Vis X.env.scope u := by first | exact Or.inl rfl | exact Or.inr (Or.inl rfl) | exact Or.inr (Or.inr rfl)) (hd : (u == ("__debug__" : Str)) = false := by decide) (hcd : (u == ("__classdict__" : Str)) = false := by decide)
    (hs : swapsWith (.Name u np) (some (.Name z pos')) pos.line X.env = pure false := by rfl) (hf : X.fn z = true \/ X.env.scope.names.lookup z = some .local := by first | exact .inl rfl | exact .inr rfl | assumption) :
    DSs X E own own' ol (.Assign [.Name z pos'] (.Name u np) pos :: rest) (sAlias1 x i g) := fun G0 => by
  intro pins s Z H D I q
  obtain ⟨G, Zd, ok, s0, q⟩ := q
  simp only [xat, List.contains_iff_mem, Bool.not_eq_true', <- Bool.not_eq_true] at ho
  obtain ⟨hi, hxo⟩ := ho
  have hxo : x ∉ own := hxo
  have q1 := q.of_bind
  cases hL : lstAt Zd i with
  | bad => rw [hL] at q1; exact q1.elim
  | err e => exact absurd hL lstAt_ne
  | ok ds =>
    rw [hL] at q1
    have gi := lstAt_ok hL
    obtain ⟨a, ds', vs, p1, p2, p3, p4, p5, p6⟩ := ok.mine i _ hi gi
    cases p2
    have hix : i ≠ x := fun e => hxo (e ▸ hi)
    have lx : x < Zd.length := by rw [ok.len, I.len]; exact (xae.mp h3).1
    refine pss_cons (ps_set hN h3 hz (pv i h1 hv hd hcd) hs hf) (h i G0) pins s Z H D I ?_
    refine ⟨.ref a, p1, G, Zd.set x (some (.lst ds)), ⟨?_, hxo, hi, .lst ds, a, by rw [xal lx], by rw [xaa (xas hix)]; exact gi, by rw [xal (by rw [<- ok.len]; exact lx)], by rw [xaa (xas hix)]; exact p1⟩, s0, q1⟩
    rw [List.set_set]
    exact ok.dropX hxo
theorem dsa_ifA (i : Nat) {c : Expr} {z u : Str} {np pos' pos2 : Pos} {fc : DSt -> R Bool} (hN : X.N.Nodup) (hc : DT X E c fc) (h : DSA X E own own' ol x rest g) (ho : own.contains i = true := by rfl) (h1 : X.N[i]? = some u := by rfl) (h3 : X.N[x]? = some z := by rfl)
    (hz : Loc X.env.scope z := by first | exact Or.inl rfl | exact Or.inr rfl) (hv : Vis X.env.scope u := by first | exact Or.inl rfl | exact Or.inr (Or.inl rfl) | exact Or.inr (Or.inr rfl)) (hd : (u == ("__debug__" : Str)) = false := by decide) (hcd : (u == ("__classdict__" : Str)) = false := by decide)
    (hs : swapsWith (.Name u np) (some (.Name z pos')) pos2.line X.env = pure false := by rfl) (hf : X.fn z = true \/ X.env.scope.names.lookup z = some .local := by first | exact .inl rfl | exact .inr rfl | assumption) :
    DSA X E own own' ol x (.If c [.Assign [.Name z pos'] (.Name u np) pos2] [] pos :: rest) (sIfA x i fc g) := fun j G0 =>
  PSs.mono' (pss_cons (ps_if hc (pss_one (ps_set hN h3 hz (pv i h1 hv hd hcd) hs hf)) pss_nil) (PSs.either (h j G0) (h i G0))) fun Dn Z H ⟨G, Zd, ok, s0, q⟩ => by
  have hi : i ∈ own := by simpa using ho
  have s1 := ok.ok.pubStep s0
  refine ⟨_, Zd, ok.pub, q.of_bind.mono (fun k _ z G' H' s => ?_) fun _ z => z.step s1⟩
  have s2 := Step.heap ok.ok.ext s.h
  cases k with
  | false => exact iteF (.inl ⟨G, Zd, ok.step s2, s0.trans s2, z⟩)
  | true =>
    refine iteT ?_
    have z1 := RW.of_bind (show RW ((lstAt Zd i).bind fun ds => g (Zd.set x (some (.lst ds)))) _ _ from z)
    cases hL : lstAt Zd i with
    | bad => rw [hL] at z1; exact z1.elim
    | err e => exact absurd hL lstAt_ne
    | ok ds =>
      rw [hL] at z1
      have hix : i ≠ x := fun e => ok.no (e ▸ hi)
      have gi := lstAt_ok hL
      have okk := ok.ok.step s2
      obtain ⟨d0, a0, e1, _, _, _⟩ := ok.al
      have lx : x < Zd.length := (xae.mp e1).1
      obtain ⟨a, ds', vs, p1, p2, _, _, _, _⟩ := okk.mine i (.lst ds) hi (by rw [xaa (xas hix)]; exact gi)
      refine ⟨.ref a, p1, .inr ⟨G, Zd.set x (some (.lst ds)), ⟨?_, ok.no, hi, .lst ds, a, by rw [xal lx], by rw [xaa (xas hix)]; exact gi, ?_, by rw [xaa (xas hix)]; exact p1⟩, s0.trans s2, z1⟩⟩
      · have := okk.dropX (v := .ref a) ok.no
        rw [List.set_set] at this ⊢
        exact this
      · have ll := okk.len
        rw [xc0] at ll
        rw [xal (by rw [<- ll]; exact lx)]
theorem dsa_ifR {c : Expr} {a : List Stmt} {fc : DSt -> R Bool} (hc : DT X E c fc) (ha : DSs X E own own' ol a f) (hr : DSA X E own own' ol x rest g) : DSA X E own own' ol x (.If c a [] pos :: rest) (sIfB x fc f g) := fun j G0 =>
  PSs.mono' (pss_cons (ps_if hc (ha G0) pss_nil) (hr j G0)) fun Dn Z H ⟨G, Zd, ok, s0, q⟩ => by
  have s1 := ok.ok.pubStep s0
  refine ⟨_, Zd, ok.pub, q.of_bind.mono (fun k _ z G' H' s => ?_) fun _ z => z.step s1⟩
  have s2 := Step.heap ok.ok.ext s.h
  cases k with
  | true =>
    refine iteT ⟨G, Zd.set x none, ok.ok.step s2, s0.trans s2, (RW.of_bind (show RW ((f (Zd.set x none)).bind _) _ _ from z)).mono (fun o _ z => ?_) fun _ z => z⟩
    cases o with
    | nx Z1 => exact (show False from z).elim
    | rt d => exact z
    | rf d => exact z
    | bk d => exact z
    | ct d => exact z
  | false => exact iteF ⟨G, Zd, ok.step s2, s0.trans s2, z⟩
end
section
variable {K : xFg} {mg : Str -> Option Value} {G G' H H' : Hp}
def AfterL (K : xFg) (mg : Str -> Option Value) (Q : VK) (G H : Hp) (r : List D × Int) : Prop := ∀ t a vs G' H', Step G H G' H' -> H t = none -> H a = none -> H' t = some (.tup [.ref a, .int r.2]) -> H' a = some (.lst vs) -> G' t = none -> G' a = none -> Reps K mg G' r.1 vs -> Q (.ref t) H'
def spL (K : xFg) (mg : Str -> Option Value) (m : List D -> R (List D × Int)) : Sp := fun vs H Q E => ∃ G ds, Same G H /\ Reps K mg G ds vs /\ RW (m ds) (AfterL K mg Q G H) (AfterX K mg E G H)
structure FnAtL (P : Program) (w : World) (K : xFg) (mg : Str -> Option Value) (base : Heap) (k : Nat) (x : Str) (m : List D -> R (List D × Int)) : Prop where
  ex : ∃ (f : Addr) (fd : FuncData) (ps : List Str), FnOk P w K mg base (CXe P w) k f fd ps (spL K mg m) /\ mg x = some (.ref f) /\ PySem.W.keepIn K (.ref f) = true /\ Binds K fd ps []
theorem FnAtL.mono {P : Program} {w : World} {base : Heap} {j k : Nat} {x : Str} {m : List D -> R (List D × Int)} (F : FnAtL P w K mg base j x m) (h : j <= k) : FnAtL P w K mg base k x m := by
  obtain ⟨f, fd, ps, h1, h2⟩ := F.ex
  exact ⟨f, fd, ps, h1.mono h, h2⟩
def numD (m : List D -> R (List D × Int)) : List D -> R D := fun ds => (m ds).bind fun r => .ok (.tup [.lst r.1, .int r.2])
theorem AfterL.of_after {Q : VK} {r : List D × Int} (h : After K mg Q G H (.tup [.lst r.1, .int r.2])) : AfterL K mg Q G H r := fun t a vs G' H' s n1 n2 h3 h4 g1 g2 r1 => by
  have ta : a ≠ t := fun e => by rw [e, h3] at h4; cases h4
  have e : Same G' (upd (upd G' a (.lst vs)) t (.tup [.ref a, .int r.2])) := fun c u h => by
    rw [upd_ne (ne_of_none h g1), upd_ne (ne_of_none h g2)]; exact h
  have eh : Same (upd (upd G' a (.lst vs)) t (.tup [.ref a, .int r.2])) H' := fun c u h => by
    by_cases c1 : c = t
    · subst c1; rw [upd_same] at h; cases h; exact h3
    · rw [upd_ne c1] at h
      by_cases c3 : c = a
      · subst c3; rw [upd_same] at h; cases h; exact h4
      · rw [upd_ne c3] at h; exact s.e c u h
  have ea : upd (upd G' a (.lst vs)) t (.tup [.ref a, .int r.2]) a = some (.lst vs) := by rw [upd_ne ta, upd_same]
  refine h (.ref t) _ H' ⟨s.g.trans e, s.h, eh, fun c u q1 q2 => ?_⟩ ⟨t, [.ref a, .int r.2], rfl, SqT.of upd_same, Reps.cons ⟨a, vs, rfl, SqL.of ea, r1.mono e⟩ (Reps.cons rfl Reps.nil)⟩
  rw [upd_ne (ne_of_none q1 n1), upd_ne (ne_of_none q1 n2)]; exact s.c c u q1 q2
theorem FnAtL.pub {P : Program} {w : World} {base : Heap} {k : Nat} {x : Str} {m : List D -> R (List D × Int)} (F : FnAtL P w K mg base k x m) : FnAt P w K mg base k x (numD m) := by
  obtain ⟨f, fd, ps, h1, h2⟩ := F.ex
  exact ⟨f, fd, ps, h1.imp fun vs H Q E ⟨G, ds, e, r, q⟩ => ⟨G, ds, e, r, q.of_bind.mono (fun r _ z => AfterL.of_after z) fun _ z => z⟩, h2⟩
end
def sRetL (fl : DSt -> R (List D)) (fe : DSt -> R D) : DSt -> R (List D × Int) := fun Z => (fl Z).bind fun ds => (fe Z).bind fun d => match d with
  | .int n => .ok (ds, n)
  | _ => .bad
def DSL (X : Cx) (E : XK) (st : List Stmt) (f : DSt -> R (List D × Int)) : Prop := ∀ G0, PSs X st (fun Dn Z H => ∃ G Zd, Ok X.K X.mg X.H₀ [] Zd Z G H /\ Step G0 X.H₀ G H /\ RW (f Zd) (AfterL X.K X.mg Dn.rt G0 X.H₀) (AfterX X.K X.mg E G0 X.H₀))
def fnML (n nN : Nat) (body : DSt -> R (List D × Int)) : List D -> R (List D × Int) := fun ds => bif ds.length == n then body (startD nN ds) else .bad
section
variable {X : Cx} {E : XK} {own' ol : List Nat} {x : Nat} {rest : List Stmt} {f g : DSt -> R Out} {pos p3 : Pos} {e1 e2 : Expr} {fl : DSt -> R (List D)} {fe : DSt -> R D} {kt : Nat}
theorem dsl_ret {kt} (h1 : DF X E e1 fl) (h2 : DE X E e2 fe) (hs1 : starEach [e1, e2] X.env = (false, eval e1 X.env) :: starEach [e2] X.env := by rfl) (hs2 : starEach [e2] X.env = (false, eval e2 X.env) :: starEach [] X.env := by rfl) :
    DSL X E [.Return (some (.Tuple [e1, e2] kt p3)) pos] (sRetL fl fe) := fun G0 => PSs.mono' (pss_one (ps_ret (pe_tup (pa_cons h1 (pa_cons h2 pa_nil hs2) hs1)))) fun Dn Z H ⟨G, Zd, ok, s0, q⟩ => by
  have ok0 : Ok0 X.K X.mg Zd Z G H := ⟨ok.ext, ok.len, fun i d h => ok.val i d (by simp) h⟩
  refine ⟨G, Zd, ok0, q.of_bind.mono (fun ds _ z a vs G1 H1 s1 n1 e1 g1 r1 => ?_) fun _ z => z.step s0⟩
  have ok1 : Ok0 X.K X.mg Zd Z G1 H1 := ok0.step s1
  refine ⟨G1, Zd, ok1, (RW.of_bind z).mono (fun d _ z v G2 H2 s2 r2 => ?_) fun _ z => z.step (s0.trans s1)⟩
  cases d with
  | int n =>
    cases r2
    refine ⟨(show 2 <= sizeLine by decide), fun t ht => ?_⟩
    have st := s0.trans (s1.trans s2)
    have sp := Step.hid (o := .tup [.ref a, .int n]) s2.e ht
    have ha2 : H2 a = some (.lst vs) := s2.h _ _ e1
    have na : a ≠ t := ne_of_none ha2 ht
    have ga2 : G2 a = none := s2.c _ _ e1 g1
    exact (show AfterL X.K X.mg Dn.rt G0 X.H₀ (ds, n) from z) t a vs G2 _ (st.trans sp) (st.h.free ht) (s0.h.free n1) upd_same (by rw [upd_ne na]; exact ha2) (s2.e.free ht) ga2 (r1.mono s2.g)
  | _ => exact (show False from z).elim
structure OkC (K : xFg) (mg : Str -> Option Value) (H0 : Hp) (x : Nat) (Zd : DSt) (Z : L2.St) (G H : Hp) : Prop where
  ok : Ok K mg H0 [] (Zd.set x none) Z G H
  pr : ∃ t a ds n vs, Zd[x]? = some (some (.tup [.lst ds, .int n])) /\ Z[x]? = some (some (.ref t)) /\ (H t = some (.tup [.ref a, .int n]) /\ H a = some (.lst vs)) /\ (G t = none /\ G a = none) /\ (H0 t = none /\ H0 a = none) /\ Reps K mg G ds vs
theorem OkC.step {K : xFg} {mg : Str -> Option Value} {G G' H H' H0 : Hp} {Zd : DSt} {Z : L2.St} (o : OkC K mg H0 x Zd Z G H) (s : Step G H G' H') : OkC K mg H0 x Zd Z G' H' := by
  obtain ⟨t, a, ds, n, vs, h1, h2, ⟨h3, h4⟩, ⟨g1, g2⟩, z, r⟩ := o.pr
  exact ⟨o.ok.step s, t, a, ds, n, vs, h1, h2, ⟨s.h _ _ h3, s.h _ _ h4⟩, ⟨s.c _ _ h3 g1, s.c _ _ h4 g2⟩, z, r.mono s.g⟩
theorem OkC.pub {K : xFg} {mg : Str -> Option Value} {G G0 H H0 : Hp} {Zd : DSt} {Z : L2.St} (o : OkC K mg H0 x Zd Z G H) (s0 : Step G0 H0 G H) : ∃ G1, Ok0 K mg Zd Z G1 H /\ Step G0 H0 G1 H := by
  obtain ⟨t, a, ds, n, vs, h1, h2, ⟨h3, h4⟩, ⟨g1, g2⟩, ⟨z1, z2⟩, r⟩ := o.pr
  have ta : a ≠ t := fun e => by rw [e, h3] at h4; cases h4
  have e : Same G (upd (upd G a (.lst vs)) t (.tup [.ref a, .int n])) := fun c u h => by
    rw [upd_ne (ne_of_none h g1), upd_ne (ne_of_none h g2)]; exact h
  have eh : Same (upd (upd G a (.lst vs)) t (.tup [.ref a, .int n])) H := fun c u h => by
    by_cases c1 : c = t
    · subst c1; rw [upd_same] at h; cases h; exact h3
    · rw [upd_ne c1] at h
      by_cases c3 : c = a
      · subst c3; rw [upd_same] at h; cases h; exact h4
      · rw [upd_ne c3] at h; exact o.ok.ext c u h
  have ea : upd (upd G a (.lst vs)) t (.tup [.ref a, .int n]) a = some (.lst vs) := by rw [upd_ne ta, upd_same]
  refine ⟨_, ⟨eh, by have := o.ok.len; simpa using this, fun i d h => ?_⟩, s0.g.trans e, s0.h, eh, fun c u q1 q2 => ?_⟩
  · by_cases hx : i = x
    · subst hx
      rw [h1] at h; cases h
      exact ⟨_, h2, t, [.ref a, .int n], rfl, SqT.of upd_same, Reps.cons ⟨a, vs, rfl, SqL.of ea, r.mono e⟩ (Reps.cons rfl Reps.nil)⟩
    · obtain ⟨v, q1, q2⟩ := o.ok.val i d (by simp) (by rw [xaa (xas hx)]; exact h)
      exact ⟨v, q1, q2.mono e⟩
  · rw [upd_ne (ne_of_none q1 z1), upd_ne (ne_of_none q1 z2)]; exact s0.c c u q1 q2
def DSC (X : Cx) (E : XK) (own' ol : List Nat) (x : Nat) (st : List Stmt) (f : DSt -> R Out) : Prop := ∀ G0, PSs X st (fun Dn Z H => ∃ G Zd, OkC X.K X.mg X.H₀ x Zd Z G H /\ Step G0 X.H₀ G H /\ RW (f Zd) (OutW X.K X.mg G0 X.H₀ own' ol Dn G) (AfterX X.K X.mg E G0 X.H₀))
theorem dsc_if {c : Expr} {a : List Stmt} {fc : DSt -> R Bool} (hc : DT X E c fc) (ha : DSs X E [] own' ol a f) (hr : DSC X E own' ol x rest g) : DSC X E own' ol x (.If c a [] pos :: rest) (sIfB x fc f g) := fun G0 =>
  PSs.mono' (pss_cons (ps_if hc (ha G0) pss_nil) (hr G0)) fun Dn Z H ⟨G, Zd, ok, s0, q⟩ => by
  obtain ⟨G1, ok1, s1⟩ := ok.pub s0
  refine ⟨_, Zd, ok1, q.of_bind.mono (fun k _ z G' H' s => ?_) fun _ z => z.step s1⟩
  have s2 := Step.heap ok.ok.ext s.h
  cases k with
  | true =>
    refine iteT ⟨G, Zd.set x none, ok.ok.step s2, s0.trans s2, (RW.of_bind (show RW ((f (Zd.set x none)).bind _) _ _ from z)).mono (fun o _ z => ?_) fun _ z => z⟩
    cases o with
    | nx Z1 => exact (show False from z).elim
    | rt d => exact z
    | rf d => exact z
    | bk d => exact z
    | ct d => exact z
  | false => exact iteF ⟨G, Zd, ok.step s2, s0.trans s2, z⟩
def sUnp (x y z : Nat) (g : DSt -> R Out) : DSt -> R Out := fun Z => match Z[x]? with
  | some (some (.tup [.lst ds, .int n])) => g (((Z.set x none).set y (some (.lst ds))).set z (some (.int n)))
  | _ => .bad
theorem dsc_unp (y z : Nat) {kt : Nat} {nx ny nz : Str} {px py pz pt : Pos} (hN : X.N.Nodup) (hc : X.calm = true) (h : DSs X E [y] own' ol rest g) (hd3 : (!(x == y) && !(x == z) && !(y == z)) = true := by rfl)
    (h1 : X.N[x]? = some nx := by rfl) (h2 : X.N[y]? = some ny := by rfl) (h3 : X.N[z]? = some nz := by rfl) (hv : Vis X.env.scope nx := by first | exact Or.inl rfl | exact Or.inr (Or.inl rfl) | exact Or.inr (Or.inr rfl)) (hd : (nx == ("__debug__" : Str)) = false := by decide) (hcd : (nx == ("__classdict__" : Str)) = false := by decide)
    (ly : Loc X.env.scope ny := by first | exact Or.inl rfl | exact Or.inr rfl) (lz : Loc X.env.scope nz := by first | exact Or.inl rfl | exact Or.inr rfl)
    (fy : X.fn ny = true \/ X.env.scope.names.lookup ny = some .local := by first | exact .inl rfl | exact .inr rfl | assumption) (fz : X.fn nz = true \/ X.env.scope.names.lookup nz = some .local := by first | exact .inl rfl | exact .inr rfl | assumption)
    (hn : (assignEach [.Name ny py, .Name nz pz] X.env).length = 2 := by rfl) (hst : (assignEach [.Name ny py, .Name nz pz] X.env).findIdx? (·.1) = none := by rfl)
    (ha1 : (assignEach [.Name ny py, .Name nz pz] X.env).map (·.2) = assign (.Name ny py) X.env :: (assignEach [.Name nz pz] X.env).map (·.2) := by rfl) (ha2 : (assignEach [.Name nz pz] X.env).map (·.2) = assign (.Name nz pz) X.env :: (assignEach [] X.env).map (·.2) := by rfl)
    (hs : swapsWithSole [.Tuple [.Name ny py, .Name nz pz] kt pt] (.Name nx px) pos.line X.env = pure false := by rfl) (hw : swappedStores [.Tuple [.Name ny py, .Name nz pz] kt pt] (.Name nx px) X.env = pure none := by rfl) (h5 : (assignEach [.Tuple [.Name ny py, .Name nz pz] kt pt] X.env).map (·.2) = [assign (.Tuple [.Name ny py, .Name nz pz] kt pt) X.env] := by rfl) :
    DSC X E own' ol x (.Assign [.Tuple [.Name ny py, .Name nz pz] kt pt] (.Name nx px) pos :: rest) (sUnp x y z g) := fun G0 =>
  PSs.mono' (pss_cons (ps_asg (pv x h1 hv hd hcd) (pg_tup hc (pgs_cons (pg_name hN h2 ly fy) (pgs_cons (pg_name hN h3 lz fz) pgs_nil ha2) ha1) hn hst) hs hw h5) (h G0)) fun Dn Z H ⟨G, Zd, ok, s0, q⟩ => by
  simp only [xat, Bool.not_eq_true', beq_eq_false_iff_ne] at hd3
  obtain ⟨⟨nxy, nxz⟩, nyz⟩ := hd3
  obtain ⟨t, a, ds, n, vs, e1, e2, ⟨e3, e4⟩, ⟨g1, g2⟩, ⟨z1, z2⟩, r⟩ := ok.pr
  unfold sUnp at q
  rw [e1] at q
  have q : RW (g (((Zd.set x none).set y (some (.lst ds))).set z (some (.int n)))) (OutW X.K X.mg G0 X.H₀ own' ol Dn G) (AfterX X.K X.mg E G0 X.H₀) := q
  refine ⟨.ref t, e2, t, [.ref a, .int n], rfl, SqT.of e3, rfl, .ref a, [.int n], rfl, .int n, [], rfl, rfl, ?_⟩
  refine ⟨G, _, ?_, s0, q⟩
  have ll := ok.ok.len
  have o := ok.ok
  refine ⟨o.ext, by simp only [xc0] at ll ⊢; exact ll, fun i d hi h => ?_, fun i d hi h => ?_, fun i j b d1 d2 hi hj _ _ _ _ => ?_⟩
  · have iy : i ≠ y := fun e => hi (by simp [e])
    by_cases iz : i = z
    · subst iz
      by_cases lt : i < Zd.length
      · rw [xal (by simpa using lt)] at h
        cases h
        refine ⟨.int n, ?_, rfl⟩
        rw [xal (by simp only [xc0] at ll ⊢; omega)]
      · rw [xcv (by simpa using xb3 lt)] at h; cases h
    · rw [xaa (xas iz), xaa (xas iy)] at h
      obtain ⟨v, q1, q2⟩ := o.val i d (by simp) h
      refine ⟨v, ?_, q2⟩
      rw [xaa (xas iz), xaa (xas iy)]; exact q1
  · have iy : i = y := by simpa using hi
    subst iy
    rw [xaa (xas nyz)] at h
    by_cases lt : i < Zd.length
    · rw [xal (by simpa using lt)] at h
      cases h
      refine ⟨a, ds, vs, ?_, rfl, e4, g2, z2, r⟩
      rw [xaa (xas nyz), xal (by simp only [xc0] at ll; omega)]
    · rw [xcv (by simpa using xb3 lt)] at h; cases h
  · have a1 : i = y := by simpa using hi
    have a2 : j = y := by simpa using hj
    rw [a1, a2]
def sTold (x : Nat) (m : List D -> R (List D × Int)) (g : DSt -> R Out) : DSt -> R Out := fun Z => (m []).bind fun r => g (Z.set x (some (.tup [.lst r.1, .int r.2])))
theorem dss_told (x : Nat) {y fn : Str} {k : Nat} {m : List D -> R (List D × Int)} {p cpos pos' : Pos} (hN : X.N.Nodup) (C : XC X E k) (F : FnAtL X.prog X.w X.K X.mg X.base k fn m) (h : DSC X E own' ol x rest g)
    (hg : Gl X fn := by rfl) (hdb : (fn == ("__debug__" : Str)) = false := by decide) (hi : X.N[x]? = some y := by rfl) (hx : Loc X.env.scope y := by first | exact Or.inl rfl | exact Or.inr rfl) (hs : swapsWith (.Call (.Name fn p) [] [] cpos) (some (.Name y pos')) pos.line X.env = pure false := by rfl)
    (hf : X.fn y = true \/ X.env.scope.names.lookup y = some .local := by first | exact .inl rfl | exact .inr rfl | assumption) : DSs X E [] own' ol (.Assign [.Name y pos'] (.Call (.Name fn p) [] [] cpos) pos :: rest) (sTold x m g) := fun G0 => by
  obtain ⟨f, fd, ps, h1, h2, h3, h4⟩ := F.ex
  intro pins s Z H Dn I q
  obtain ⟨G, Zd, ok, s0, q⟩ := q
  refine pss_cons (ps_set hN hi hx (pe_call0 h1 C.room hg h2 h3 h4 .nil C.pass hdb) hs hf) (h G0) pins s Z H Dn I ?_
  have lx : x < Zd.length := by rw [ok.len, I.len]; exact (xae.mp hi).1
  refine ⟨G, [], ok.ext, Reps.nil, q.of_bind.mono (fun rr _ z => ?_) fun _ z => z.step s0⟩
  intro t a vs G2 H2 s2 n1 n2 e1 e2 g1 g2 r1
  refine ⟨G2, Zd.set x (some (.tup [.lst rr.1, .int rr.2])), ⟨?_, t, a, rr.1, rr.2, vs, by rw [xal lx], by rw [xal (by rw [<- ok.len]; exact lx)], ⟨e1, e2⟩, ⟨g1, g2⟩, ⟨s0.h.free n1, s0.h.free n2⟩, r1⟩, s0.trans s2, (show RW (g (Zd.set x (some (.tup [.lst rr.1, .int rr.2])))) _ _ from z).mono (fun o _ z => z.shift s2.g) fun _ z => z⟩
  rw [List.set_set]
  exact (ok.step s2).dropX (by simp)
end
section
variable {P : Program} {w : World} {K : xFg} {mg : Str -> Option Value} {base : Heap} {x : Str} {st : Stmt} {f : Addr} {fd : FuncData} {N ps : List Str} {k n nN : Nat} {body : DSt -> R (List D × Int)}
theorem FA.okL (F : FA K mg x st ps f fd) (S : FnScope N ps (defScope st)) (hn : ps.length = n) (hN : N.length = nN)
    (hb : XX P w K mg base x st f N k fun X E => DSL X E (defBody st) body) : FnAtL P w K mg base (k + 1) x (fnML n nN body) := by
  refine ⟨f, fd, ps, F.F.okX S (fun vs H Q E h => ?_) (fun cdv A outer s H vs Q E hr hsp => ?_), F.m, F.F.kp, F.b⟩
  · obtain ⟨G, ds, e, r, q⟩ := h
    by_cases hd : ds.length = n
    · rw [<- r.length, hd, hn]
    · have : (ds.length == n) = false := by simpa using hd
      unfold fnML at q
      rw [this] at q
      exact (show False from q).elim
  · obtain ⟨G, ds, e, r, q⟩ := hsp
    have hd : ds.length = n := by
      by_cases hd : ds.length = n
      · exact hd
      · have : (ds.length == n) = false := by simpa using hd
        unfold fnML at q
        rw [this] at q
        exact (show False from q).elim
    unfold fnML at q
    rw [show (ds.length == n) = true by simpa using hd] at q
    have q' : RW (body (startD nN ds)) (AfterL K mg Q G H) (AfterX K mg E G H) := q
    refine ⟨_, hb cdv A outer s H E ⟨rfl, hr, passE⟩ ⟨PassesOwn.leaving⟩ S.nd G, G, startD nN ds, ?_, .refl e, q'⟩
    have := Reps.startOk e (N.length - vs.length) r
    unfold L2.start startD
    rw [<- hN, r.length]
    exact .zero this
end
end DL
namespace Mir
open L2 DL
noncomputable def b_is_whole : DSt -> R Out := (sRet (vAnd (eBlt (g2 isi3) (aCons (eVar 0) (aCons (eC (.ty "int")) aNil))) (vNot (eBlt (g2 isi3) (aCons (eVar 0) (aCons (eC (.ty "bool")) aNil))))))
noncomputable def m_is_whole : List D -> R D := fnM 1 1 b_is_whole
theorem m_is_whole_go (a0 : D) : m_is_whole [a0] = fin (b_is_whole [some a0]) := fnM_go (b := b_is_whole) rfl rfl
noncomputable def b_makes_place : DSt -> R Out := (sRet (vAnd (eBlt gAll (aCons (vLst (eLC 1 [0] (iSeq (eVar 0)) gpOne eTrue (eCall m_is_whole (aCons (eVar 0) aNil)))) aNil)) (eOp gNe (eVar 0) (eTup (aCons (eC (.int 0)) (aCons (eC (.int 0)) (aCons (eC (.int 0)) aNil)))))))
noncomputable def m_makes_place : List D -> R D := fnM 1 1 b_makes_place
theorem m_makes_place_go (a0 : D) : m_makes_place [a0] = fin (b_makes_place [some a0]) := fnM_go (b := b_makes_place) rfl rfl
noncomputable def b_divisor_2c : DSt -> R Bool := (eTest (eOp gNe (eVar 1) (eC (.int 0))))
noncomputable def b_divisor_2w_2 : DSt -> R Out := (sSet0 1 (eVar 2))
noncomputable def b_divisor_2w_1 : DSt -> R Out := (sSeq (sSet0 0 (eVar 1)) b_divisor_2w_2)
noncomputable def b_divisor_2w : DSt -> R Out := (sSeq (sSet0 2 (eOp gMod (eVar 0) (eVar 1))) b_divisor_2w_1)
noncomputable def b_divisor_3 : DSt -> R Out := (sRet (eVar 0))
noncomputable def b_divisor_2 : DSt -> R Out := (sSeq (sWhile b_divisor_2c b_divisor_2w) b_divisor_3)
noncomputable def b_divisor_1 : DSt -> R Out := (sSeq (sSet0 1 (eBlt gAbs (aCons (eVar 1) aNil))) b_divisor_2)
noncomputable def b_divisor : DSt -> R Out := (sSeq (sSet0 0 (eBlt gAbs (aCons (eVar 0) aNil))) b_divisor_1)
noncomputable def m_divisor : List D -> R D := fnM 2 3 b_divisor
theorem m_divisor_go (a0 : D) (a1 : D) : m_divisor [a0, a1] = fin (b_divisor [some a0, some a1, none]) := fnM_go (b := b_divisor) rfl rfl
noncomputable def b_in_form_3 : DSt -> R Out := (sRet (eTup (aCons (eOp gFdiv (eOp gIx (eVar 0) (eC (.int 0))) (eVar 1)) (aCons (eOp gFdiv (eOp gIx (eVar 0) (eC (.int 1))) (eVar 1)) (aCons (eOp gFdiv (eOp gIx (eVar 0) (eC (.int 2))) (eVar 1)) aNil)))))
noncomputable def b_in_form_2 : DSt -> R Out := (sSeq (sIf (eTest (eOp gLt (eVar 2) (eC (.int 0)))) (sSet0 1 (eUn gNeg (eVar 1))) sNext) b_in_form_3)
noncomputable def b_in_form_1 : DSt -> R Out := (sSeq (sSet0 2 (eOp gIx (vLst (eLC 1 [0] (iSeq (eVar 0)) gpOne (eTest (eOp gNe (eVar 0) (eC (.int 0)))) (eVar 0))) (eUn gNeg (eC (.int 1))))) b_in_form_2)
noncomputable def b_in_form : DSt -> R Out := (sSeq (sSet0 1 (eCall m_divisor (aCons (eCall m_divisor (aCons (eOp gIx (eVar 0) (eC (.int 0))) (aCons (eOp gIx (eVar 0) (eC (.int 1))) aNil))) (aCons (eOp gIx (eVar 0) (eC (.int 2))) aNil)))) b_in_form_1)
noncomputable def m_in_form : List D -> R D := fnM 1 3 b_in_form
theorem m_in_form_go (a0 : D) : m_in_form [a0] = fin (b_in_form [some a0, none, none]) := fnM_go (b := b_in_form) rfl rfl
noncomputable def b_is_place_2 : DSt -> R Out := (sRet (eOp gEq (eCall m_in_form (aCons (eVar 0) aNil)) (eVar 0)))
noncomputable def b_is_place_1 : DSt -> R Out := (sSeq (sIf (eNot (eTest (eCall m_makes_place (aCons (eVar 0) aNil)))) (sRet (eC (.bl false))) sNext) b_is_place_2)
noncomputable def b_is_place : DSt -> R Out := (sSeq (sIf (eOr (eNot (eTest (eBlt (g2 isi3) (aCons (eVar 0) (aCons (eC (.ty "tuple")) aNil))))) (eTest (eOp gNe (eBlt gLen (aCons (eVar 0) aNil)) (eC (.int 3))))) (sRet (eC (.bl false))) sNext) b_is_place_1)
noncomputable def m_is_place : List D -> R D := fnM 1 1 b_is_place
theorem m_is_place_go (a0 : D) : m_is_place [a0] = fin (b_is_place [some a0]) := fnM_go (b := b_is_place) rfl rfl
noncomputable def b_dot : DSt -> R Out := (sRet (eOp gAdd (eOp gAdd (eOp gMul (eOp gIx (eVar 0) (eC (.int 0))) (eOp gIx (eVar 1) (eC (.int 0)))) (eOp gMul (eOp gIx (eVar 0) (eC (.int 1))) (eOp gIx (eVar 1) (eC (.int 1))))) (eOp gMul (eOp gIx (eVar 0) (eC (.int 2))) (eOp gIx (eVar 1) (eC (.int 2))))))
noncomputable def m_dot : List D -> R D := fnM 2 2 b_dot
theorem m_dot_go (a0 : D) (a1 : D) : m_dot [a0, a1] = fin (b_dot [some a0, some a1]) := fnM_go (b := b_dot) rfl rfl
noncomputable def b_lies_v1 : DSt -> R Out := (sRet (eOp gEq (eCall m_dot (aCons (eVar 0) (aCons (eVar 1) aNil))) (eC (.int 0))))
noncomputable def m_lies_v1 : List D -> R D := fnM 2 2 b_lies_v1
theorem m_lies_v1_go (a0 : D) (a1 : D) : m_lies_v1 [a0, a1] = fin (b_lies_v1 [some a0, some a1]) := fnM_go (b := b_lies_v1) rfl rfl
noncomputable def b_cross_3 : DSt -> R Out := (sRet (eTup (aCons (eVar 2) (aCons (eVar 3) (aCons (eVar 4) aNil)))))
noncomputable def b_cross_2 : DSt -> R Out := (sSeq (sSet0 4 (eOp gSub (eOp gMul (eOp gIx (eVar 0) (eC (.int 0))) (eOp gIx (eVar 1) (eC (.int 1)))) (eOp gMul (eOp gIx (eVar 0) (eC (.int 1))) (eOp gIx (eVar 1) (eC (.int 0)))))) b_cross_3)
noncomputable def b_cross_1 : DSt -> R Out := (sSeq (sSet0 3 (eOp gSub (eOp gMul (eOp gIx (eVar 0) (eC (.int 2))) (eOp gIx (eVar 1) (eC (.int 0)))) (eOp gMul (eOp gIx (eVar 0) (eC (.int 0))) (eOp gIx (eVar 1) (eC (.int 2)))))) b_cross_2)
noncomputable def b_cross : DSt -> R Out := (sSeq (sSet0 2 (eOp gSub (eOp gMul (eOp gIx (eVar 0) (eC (.int 1))) (eOp gIx (eVar 1) (eC (.int 2)))) (eOp gMul (eOp gIx (eVar 0) (eC (.int 2))) (eOp gIx (eVar 1) (eC (.int 1)))))) b_cross_1)
noncomputable def m_cross : List D -> R D := fnM 2 5 b_cross
theorem m_cross_go (a0 : D) (a1 : D) : m_cross [a0, a1] = fin (b_cross [some a0, some a1, none, none, none]) := fnM_go (b := b_cross) rfl rfl
noncomputable def b_between_two_v2_1 : DSt -> R Out := (sRet (eCall m_in_form (aCons (eCall m_cross (aCons (eVar 0) (aCons (eVar 1) aNil))) aNil)))
noncomputable def b_between_two_v2 : DSt -> R Out := (sSeq (sIf (eTest (eOp gEq (eVar 0) (eVar 1))) eBad sNext) b_between_two_v2_1)
noncomputable def m_between_two_v2 : List D -> R D := fnM 2 2 b_between_two_v2
theorem m_between_two_v2_go (a0 : D) (a1 : D) : m_between_two_v2 [a0, a1] = fin (b_between_two_v2 [some a0, some a1]) := fnM_go (b := b_between_two_v2) rfl rfl
noncomputable def b_through_v2 : DSt -> R Out := (sRet (eCall m_between_two_v2 (aCons (eVar 0) (aCons (eVar 1) aNil))))
noncomputable def m_through_v2 : List D -> R D := fnM 2 2 b_through_v2
theorem m_through_v2_go (a0 : D) (a1 : D) : m_through_v2 [a0, a1] = fin (b_through_v2 [some a0, some a1]) := fnM_go (b := b_through_v2) rfl rfl
noncomputable def b_crossing_v2 : DSt -> R Out := (sRet (eCall m_between_two_v2 (aCons (eVar 0) (aCons (eVar 1) aNil))))
noncomputable def m_crossing_v2 : List D -> R D := fnM 2 2 b_crossing_v2
theorem m_crossing_v2_go (a0 : D) (a1 : D) : m_crossing_v2 [a0, a1] = fin (b_crossing_v2 [some a0, some a1]) := fnM_go (b := b_crossing_v2) rfl rfl
noncomputable def b_on_one_v1_3 : DSt -> R Out := (sRet (eBlt gAll (aCons (vLst (eLC 1 [0] (iSeq (eVar 1)) gpOne eTrue (eCall m_lies_v1 (aCons (eVar 0) (aCons (eVar 3) aNil))))) aNil)))
noncomputable def b_on_one_v1_2 : DSt -> R Out := (sSeq (sSet0 2 (eCall m_through_v2 (aCons (eOp gIx (eVar 0) (eC (.int 0))) (aCons (eOp gIx (eVar 1) (eC (.int 0))) aNil)))) b_on_one_v1_3)
noncomputable def b_on_one_v1_1 : DSt -> R Out := (sSeq (sIf (eTest (eOp gEq (eBlt gLen (aCons (eVar 1) aNil)) (eC (.int 0)))) (sRet (eC (.bl true))) sNext) b_on_one_v1_2)
noncomputable def b_on_one_v1 : DSt -> R Out := (sSeq (sSet [] 1 (vLst (eLC 1 [0] (iSeq (eVar 0)) gpOne (eTest (eOp gNe (eVar 0) (eOp gIx (eVar 1) (eC (.int 0))))) (eVar 0)))) b_on_one_v1_1)
noncomputable def m_on_one_v1 : List D -> R D := fnM 1 3 b_on_one_v1
theorem m_on_one_v1_go (a0 : D) : m_on_one_v1 [a0] = fin (b_on_one_v1 [some a0, none, none]) := fnM_go (b := b_on_one_v1) rfl rfl
def k_MOST_PEGS : D := .int 12
noncomputable def b_is_floor_v1_2 : DSt -> R Out := (sRet (eOp gEq (eSetLenU (eVar 0)) (eBlt gLen (aCons (eVar 0) aNil))))
noncomputable def b_is_floor_v1_1 : DSt -> R Out := (sSeq (sIf (eNot (eTest (eBlt gAll (aCons (vLst (eLC 1 [0] (iSeq (eVar 0)) gpOne eTrue (eCall m_is_place (aCons (eVar 0) aNil)))) aNil)))) (sRet (eC (.bl false))) sNext) b_is_floor_v1_2)
noncomputable def b_is_floor_v1 : DSt -> R Out := (sSeq (sIf (eOr (eNot (eTest (eBlt (g2 isi3) (aCons (eVar 0) (aCons (eC (.ty "list")) aNil))))) (eNot (eTest (eChain gLe gLe (eC (.int 1)) (eBlt gLen (aCons (eVar 0) aNil)) (eC k_MOST_PEGS))))) (sRet (eC (.bl false))) sNext) b_is_floor_v1_1)
noncomputable def m_is_floor_v1 : List D -> R D := fnM 1 1 b_is_floor_v1
theorem m_is_floor_v1_go (a0 : D) : m_is_floor_v1 [a0] = fin (b_is_floor_v1 [some a0]) := fnM_go (b := b_is_floor_v1) rfl rfl
noncomputable def b_is_deed_v1_2 : DSt -> R Out := (sRet (vAnd (eCall m_is_whole (aCons (eOp gIx (eVar 0) (eC (.int 1))) aNil)) (eCall m_is_whole (aCons (eOp gIx (eVar 0) (eC (.int 2))) aNil))))
noncomputable def b_is_deed_v1_1 : DSt -> R Out := (sSeq (sIf (eOr (eNot (eTest (eBlt (g2 isi3) (aCons (eOp gIx (eVar 0) (eC (.int 0))) (aCons (eC (.ty "str")) aNil))))) (eTest (eOp gNin (eOp gIx (eVar 0) (eC (.int 0))) (eTup (aCons (eC (.str "line")) (aCons (eC (.str "peg")) aNil)))))) (sRet (eC (.bl false))) sNext) b_is_deed_v1_2)
noncomputable def b_is_deed_v1 : DSt -> R Out := (sSeq (sIf (eOr (eNot (eTest (eBlt (g2 isi3) (aCons (eVar 0) (aCons (eC (.ty "tuple")) aNil))))) (eTest (eOp gNe (eBlt gLen (aCons (eVar 0) aNil)) (eC (.int 3))))) (sRet (eC (.bl false))) sNext) b_is_deed_v1_1)
noncomputable def m_is_deed_v1 : List D -> R D := fnM 1 1 b_is_deed_v1
theorem m_is_deed_v1_go (a0 : D) : m_is_deed_v1 [a0] = fin (b_is_deed_v1 [some a0]) := fnM_go (b := b_is_deed_v1) rfl rfl
noncomputable def b_pair_of_v1f : DSt -> R Out := (sIf (eNot (eTest (eChain gLe gLt (eC (.int 0)) (eVar 3) (eBlt gLen (aCons (eVar 0) aNil))))) eBad sNext)
noncomputable def b_pair_of_v1_4 : DSt -> R Out := (sRet (eTup (aCons (eVar 4) (aCons (eVar 5) aNil))))
noncomputable def b_pair_of_v1_3 : DSt -> R Out := (sSeq (sIf (eTest (eOp gEq (eVar 4) (eVar 5))) eBad sNext) b_pair_of_v1_4)
noncomputable def b_pair_of_v1_2 : DSt -> R Out := (sSeq (sSet0 5 (eOp gIx (eVar 0) (eOp gIx (eVar 1) (eC (.int 2))))) b_pair_of_v1_3)
noncomputable def b_pair_of_v1_1 : DSt -> R Out := (sSeq (sSet0 4 (eOp gIx (eVar 0) (eOp gIx (eVar 1) (eC (.int 1))))) b_pair_of_v1_2)
noncomputable def b_pair_of_v1 : DSt -> R Out := (sSeq (sFor [] [3] gpOne (iSeq (eTup (aCons (eOp gIx (eVar 1) (eC (.int 1))) (aCons (eOp gIx (eVar 1) (eC (.int 2))) aNil)))) b_pair_of_v1f) b_pair_of_v1_1)
noncomputable def m_pair_of_v1 : List D -> R D := fnM 3 6 b_pair_of_v1
theorem m_pair_of_v1_go (a0 : D) (a1 : D) (a2 : D) : m_pair_of_v1 [a0, a1, a2] = fin (b_pair_of_v1 [some a0, some a1, some a2, none, none, none]) := fnM_go (b := b_pair_of_v1) rfl rfl
noncomputable def b_walked_v2_2f_1t_1 : DSt -> R Out := (sApp [3, 2] 3 (eCall m_through_v2 (aCons (eOp gIx (eVar 6) (eC (.int 0))) (aCons (eOp gIx (eVar 6) (eC (.int 1))) aNil))))
noncomputable def b_walked_v2_2f_1t : DSt -> R Out := (sSeq (sSetP 6 (eCall m_pair_of_v1 (aCons (eVar 2) (aCons (eVar 5) (aCons (eVar 4) aNil))))) b_walked_v2_2f_1t_1)
noncomputable def b_walked_v2_2f_1e_1 : DSt -> R Out := (sApp [3, 2] 2 (eCall m_crossing_v2 (aCons (eOp gIx (eVar 6) (eC (.int 0))) (aCons (eOp gIx (eVar 6) (eC (.int 1))) aNil))))
noncomputable def b_walked_v2_2f_1e : DSt -> R Out := (sSeq (sSetP 6 (eCall m_pair_of_v1 (aCons (eVar 3) (aCons (eVar 5) (aCons (eVar 4) aNil))))) b_walked_v2_2f_1e_1)
noncomputable def b_walked_v2_2f_1 : DSt -> R Out := (sIf (eTest (eOp gEq (eOp gIx (eVar 5) (eC (.int 0))) (eC (.str "line")))) b_walked_v2_2f_1t b_walked_v2_2f_1e)
noncomputable def b_walked_v2_2f : DSt -> R Out := (sSeq (sIf (eNot (eTest (eCall m_is_deed_v1 (aCons (eVar 5) aNil)))) eBad sNext) b_walked_v2_2f_1)
noncomputable def b_walked_v2_3 : DSt -> R Out := (sRet (eTup (aCons (eVar 2) (aCons (eVar 3) aNil))))
noncomputable def b_walked_v2_2 : DSt -> R Out := (sSeq (sFor [3, 2] [4, 5] (gpSeq 2) (iArgs iEnumerate1 (aCons (eVar 1) aNil)) b_walked_v2_2f) b_walked_v2_3)
noncomputable def b_walked_v2_1 : DSt -> R Out := (sSeq (sNew [2] 3 (eLst aNil)) b_walked_v2_2)
noncomputable def b_walked_v2 : DSt -> R Out := (sSeq (sNew [] 2 (eBltF gList (aCons (eVar 0) aNil))) b_walked_v2_1)
noncomputable def m_walked_v2 : List D -> R D := fnM 2 7 b_walked_v2
theorem m_walked_v2_go (a0 : D) (a1 : D) : m_walked_v2 [a0, a1] = fin (b_walked_v2 [some a0, some a1, none, none, none, none, none]) := fnM_go (b := b_walked_v2) rfl rfl
noncomputable def b_has_three_on_onefff : DSt -> R Out := (sIf (eTest (eCall m_on_one_v1 (aCons (vLst (eLst (aCons (eOp gIx (eVar 0) (eVar 3)) (aCons (eOp gIx (eVar 0) (eVar 2)) (aCons (eOp gIx (eVar 0) (eVar 1)) aNil))))) aNil))) (sRet (eC (.bl true))) sNext)
noncomputable def b_has_three_on_oneff : DSt -> R Out := (sFor [] [3] gpOne (iArgs rng1 (aCons (eVar 2) aNil)) b_has_three_on_onefff)
noncomputable def b_has_three_on_onef : DSt -> R Out := (sFor [] [2] gpOne (iArgs rng1 (aCons (eVar 1) aNil)) b_has_three_on_oneff)
noncomputable def b_has_three_on_one_1 : DSt -> R Out := (sRet (eC (.bl false)))
noncomputable def b_has_three_on_one : DSt -> R Out := (sSeq (sFor [] [1] gpOne (iArgs rng1 (aCons (eBlt gLen (aCons (eVar 0) aNil)) aNil)) b_has_three_on_onef) b_has_three_on_one_1)
noncomputable def m_has_three_on_one : List D -> R D := fnM 1 4 b_has_three_on_one
theorem m_has_three_on_one_go (a0 : D) : m_has_three_on_one [a0] = fin (b_has_three_on_one [some a0, none, none, none]) := fnM_go (b := b_has_three_on_one) rfl rfl
noncomputable def b_look_at_bent : DSt -> R Out := (sIf (eOr (eNot (eTest (eCall m_is_floor_v1 (aCons (eVar 0) aNil)))) (eOr (eTest (eOp gNe (eBlt gLen (aCons (eVar 0) aNil)) (eVar 1))) (eTest (eCall m_has_three_on_one (aCons (eVar 0) aNil))))) (sRaise1 "NoBow") sNext)
noncomputable def m_look_at_bent : List D -> R D := fnM 2 2 b_look_at_bent
theorem m_look_at_bent_go (a0 : D) (a1 : D) : m_look_at_bent [a0, a1] = fin (b_look_at_bent [some a0, some a1]) := fnM_go (b := b_look_at_bent) rfl rfl
def k_PLAN : D := .lst [.tup [.str "line", .int 0, .int 5], .tup [.str "line", .int 2, .int 3], .tup [.str "peg", .int 0, .int 1], .tup [.str "line", .int 0, .int 1], .tup [.str "line", .int 3, .int 4], .tup [.str "peg", .int 2, .int 3], .tup [.str "line", .int 6, .int 7], .tup [.str "line", .int 1, .int 2], .tup [.str "peg", .int 4, .int 5], .tup [.str "line", .int 4, .int 8], .tup [.str "peg", .int 0, .int 6]]
def k_LAST : D := .int 9
noncomputable def b_again_v1_2 : DSt -> R Out := (sRet (eOp gIx (eOp gIx (eCall m_walked_v2 (aCons (eOp gAdd (eVar 0) (vLst (eLst (aCons (eVar 1) aNil)))) (aCons (vLst (eBltF gList (aCons (eC k_PLAN) aNil))) aNil))) (eC (.int 0))) (eC k_LAST)))
noncomputable def b_again_v1_1 : DSt -> R Out := (sSeq (sIf (eTest (eOp gEq (eVar 1) (eOp gIx (eVar 0) (eC (.int 0))))) eBad sNext) b_again_v1_2)
noncomputable def b_again_v1 : DSt -> R Out := (sSeq (sExpr (eCall m_look_at_bent (aCons (eVar 0) (aCons (eC (.int 5)) aNil)))) b_again_v1_1)
noncomputable def m_again_v1 : List D -> R D := fnM 2 2 b_again_v1
theorem m_again_v1_go (a0 : D) (a1 : D) : m_again_v1 [a0, a1] = fin (b_again_v1 [some a0, some a1]) := fnM_go (b := b_again_v1) rfl rfl
noncomputable def b_bow_plan : DSt -> R (List D × Int) := (sRetL (eBltF gList (aCons (eC k_PLAN) aNil)) (eC k_LAST))
noncomputable def m_bow_plan : List D -> R (List D × Int) := fnML 0 0 b_bow_plan
noncomputable def b_law_numbers_v1_3ft_1 : DSt -> R Out := (sSet [4] 3 (eOp gFdiv (eVar 3) (eOp gPow (eC (.int 10)) (eC (.int 6)))))
noncomputable def b_law_numbers_v1_3ft : DSt -> R Out := (sSeq (sApp [4] 4 (eOp gMod (eVar 3) (eOp gPow (eC (.int 10)) (eC (.int 6))))) b_law_numbers_v1_3ft_1)
noncomputable def b_law_numbers_v1_3fe_1 : DSt -> R Out := (sApp [4] 4 (eOp gMod (eOp gMul (eOp gMod (eOp gMul (eVar 6) (eVar 6)) (eC (.int 2147483629))) (eC (.int 48271))) (eC (.int 2147483647))))
noncomputable def b_law_numbers_v1_3fe : DSt -> R Out := (sSeq (sSet [4] 6 (eOp gMod (eOp gMul (eOp gMod (eOp gAdd (eOp gAdd (eVar 2) (eOp gMul (eOp gMul (eC (.int 101)) (eVar 5)) (eVar 5))) (eVar 5)) (eC (.int 2147483647))) (eC (.int 48271))) (eC (.int 2147483647)))) b_law_numbers_v1_3fe_1)
noncomputable def b_law_numbers_v1_3f : DSt -> R Out := (sIf (eAnd (eTest (eOp gGe (eVar 2) (eOp gPow (eC (.int 10)) (eC (.int 18))))) (eTest (eOp gGt (eVar 3) (eC (.int 0))))) b_law_numbers_v1_3ft b_law_numbers_v1_3fe)
noncomputable def b_law_numbers_v1_4 : DSt -> R Out := (sRet (eVar 4))
noncomputable def b_law_numbers_v1_3 : DSt -> R Out := (sSeq (sFor [4] [5] gpOne (iArgs rng1 (aCons (eVar 1) aNil)) b_law_numbers_v1_3f) b_law_numbers_v1_4)
noncomputable def b_law_numbers_v1_2 : DSt -> R Out := (sSeq (sNew [] 4 (eLst aNil)) b_law_numbers_v1_3)
noncomputable def b_law_numbers_v1_1 : DSt -> R Out := (sSeq (sSet0 3 (eVar 2)) b_law_numbers_v1_2)
noncomputable def b_law_numbers_v1 : DSt -> R Out := (sSeq (sSet0 2 (eBlt gMax (aCons (eVar 0) (aCons (eOp gSub (eUn gNeg (eC (.int 1))) (eVar 0)) aNil)))) b_law_numbers_v1_1)
noncomputable def m_law_numbers_v1 : List D -> R D := fnM 2 7 b_law_numbers_v1
theorem m_law_numbers_v1_go (a0 : D) (a1 : D) : m_law_numbers_v1 [a0, a1] = fin (b_law_numbers_v1 [some a0, some a1, none, none, none, none, none]) := fnM_go (b := b_law_numbers_v1) rfl rfl
noncomputable def b_law_whole : DSt -> R Out := (sRet (vAnd (eBlt (g2 isi3) (aCons (eVar 0) (aCons (eC (.ty "int")) aNil))) (vNot (eBlt (g2 isi3) (aCons (eVar 0) (aCons (eC (.ty "bool")) aNil))))))
noncomputable def m_law_whole : List D -> R D := fnM 1 1 b_law_whole
theorem m_law_whole_go (a0 : D) : m_law_whole [a0] = fin (b_law_whole [some a0]) := fnM_go (b := b_law_whole) rfl rfl
noncomputable def b_law_lowest_v1_1fc : DSt -> R Bool := (eTest (eOp gNe (eVar 4) (eC (.int 0))))
noncomputable def b_law_lowest_v1_1fw : DSt -> R Out := (sPar [] 3 4 (aCons (eVar 4) (aCons (eOp gMod (eVar 3) (eVar 4)) aNil)))
noncomputable def b_law_lowest_v1_1f : DSt -> R Out := (sWhile b_law_lowest_v1_1fc b_law_lowest_v1_1fw)
noncomputable def b_law_lowest_v1_4 : DSt -> R Out := (sRet (eTup (aCons (eOp gFdiv (eVar 0) (eVar 3)) (aCons (eOp gFdiv (eVar 1) (eVar 3)) (aCons (eOp gFdiv (eVar 2) (eVar 3)) aNil)))))
noncomputable def b_law_lowest_v1_3 : DSt -> R Out := (sSeq (sIf (eTest (eOp gLt (eVar 5) (eC (.int 0)))) (sSet0 3 (eOp gSub (eC (.int 0)) (eVar 3))) sNext) b_law_lowest_v1_4)
noncomputable def b_law_lowest_v1_2 : DSt -> R Out := (sSeq (sSet0 5 (eOp gIx (vLst (eLC 1 [0] (iSeq (vLst (eLst (aCons (eVar 0) (aCons (eVar 1) (aCons (eVar 2) aNil)))))) gpOne (eTest (eOp gNe (eVar 0) (eC (.int 0)))) (eVar 0))) (eUn gNeg (eC (.int 1))))) b_law_lowest_v1_3)
noncomputable def b_law_lowest_v1_1 : DSt -> R Out := (sSeq (sFor [] [4] gpOne (iSeq (vLst (eLst (aCons (eBlt gAbs (aCons (eVar 1) aNil)) (aCons (eBlt gAbs (aCons (eVar 2) aNil)) aNil))))) b_law_lowest_v1_1f) b_law_lowest_v1_2)
noncomputable def b_law_lowest_v1 : DSt -> R Out := (sSeq (sSet0 3 (eBlt gAbs (aCons (eVar 0) aNil))) b_law_lowest_v1_1)
noncomputable def m_law_lowest_v1 : List D -> R D := fnM 3 6 b_law_lowest_v1
theorem m_law_lowest_v1_go (a0 : D) (a1 : D) (a2 : D) : m_law_lowest_v1 [a0, a1, a2] = fin (b_law_lowest_v1 [some a0, some a1, some a2, none, none, none]) := fnM_go (b := b_law_lowest_v1) rfl rfl
noncomputable def b_law_place_v4_5 : DSt -> R Out := (sRet (eCall m_law_lowest_v1 (aCons (eVar 2) (aCons (eVar 3) (aCons (eVar 4) aNil)))))
noncomputable def b_law_place_v4_4 : DSt -> R Out := (sSeq (sIf (eAnd (eTest (eOp gEq (eVar 2) (eC (.int 0)))) (eAnd (eTest (eOp gEq (eVar 3) (eC (.int 0)))) (eTest (eOp gEq (eVar 4) (eC (.int 0)))))) (sSet0 4 (eC (.int 1))) sNext) b_law_place_v4_5)
noncomputable def b_law_place_v4_3 : DSt -> R Out := (sSeq (sSet0 4 (eOp gSub (eOp gMod (eOp gIx (eVar 0) (eC (.int 2))) (eOp gAdd (eOp gMul (eC (.int 2)) (eVar 1)) (eC (.int 1)))) (eVar 1))) b_law_place_v4_4)
noncomputable def b_law_place_v4_2 : DSt -> R Out := (sSeq (sSet0 3 (eOp gSub (eOp gMod (eOp gIx (eVar 0) (eC (.int 1))) (eOp gAdd (eOp gMul (eC (.int 2)) (eVar 1)) (eC (.int 1)))) (eVar 1))) b_law_place_v4_3)
noncomputable def b_law_place_v4_1 : DSt -> R Out := (sSeq (sSet0 2 (eOp gSub (eOp gMod (eOp gIx (eVar 0) (eC (.int 0))) (eOp gAdd (eOp gMul (eC (.int 2)) (eVar 1)) (eC (.int 1)))) (eVar 1))) b_law_place_v4_2)
noncomputable def b_law_place_v4 : DSt -> R Out := (sSeq (sSet0 1 (eOp gIx (vLst (eLst (aCons (eC (.int 2)) (aCons (eC (.int 5)) (aCons (eC (.int 1000)) aNil))))) (eOp gMod (eOp gIx (eVar 0) (eC (.int 3))) (eC (.int 3))))) b_law_place_v4_1)
noncomputable def m_law_place_v4 : List D -> R D := fnM 1 5 b_law_place_v4
theorem m_law_place_v4_go (a0 : D) : m_law_place_v4 [a0] = fin (b_law_place_v4 [some a0, none, none, none, none]) := fnM_go (b := b_law_place_v4) rfl rfl
noncomputable def b_law_cross_v2_2 : DSt -> R Out := (sRet (eCall m_law_lowest_v1 (aCons (eOp gSub (eOp gMul (eVar 3) (eVar 7)) (eOp gMul (eVar 4) (eVar 6))) (aCons (eOp gSub (eOp gMul (eVar 4) (eVar 5)) (eOp gMul (eVar 2) (eVar 7))) (aCons (eOp gSub (eOp gMul (eVar 2) (eVar 6)) (eOp gMul (eVar 3) (eVar 5))) aNil)))))
noncomputable def b_law_cross_v2_1 : DSt -> R Out := (sSeq (sAsg [] [5, 6, 7] (gpSeq 3) (eVar 1)) b_law_cross_v2_2)
noncomputable def b_law_cross_v2 : DSt -> R Out := (sSeq (sAsg [] [2, 3, 4] (gpSeq 3) (eVar 0)) b_law_cross_v2_1)
noncomputable def m_law_cross_v2 : List D -> R D := fnM 2 8 b_law_cross_v2
theorem m_law_cross_v2_go (a0 : D) (a1 : D) : m_law_cross_v2 [a0, a1] = fin (b_law_cross_v2 [some a0, some a1, none, none, none, none, none, none]) := fnM_go (b := b_law_cross_v2) rfl rfl
noncomputable def b_law_dot : DSt -> R Out := (sRet (eOp gAdd (eOp gAdd (eOp gMul (eOp gIx (eVar 0) (eC (.int 0))) (eOp gIx (eVar 1) (eC (.int 0)))) (eOp gMul (eOp gIx (eVar 0) (eC (.int 1))) (eOp gIx (eVar 1) (eC (.int 1))))) (eOp gMul (eOp gIx (eVar 0) (eC (.int 2))) (eOp gIx (eVar 1) (eC (.int 2))))))
noncomputable def m_law_dot : List D -> R D := fnM 2 2 b_law_dot
theorem m_law_dot_go (a0 : D) (a1 : D) : m_law_dot [a0, a1] = fin (b_law_dot [some a0, some a1]) := fnM_go (b := b_law_dot) rfl rfl
noncomputable def b_law_det_v2_4 : DSt -> R Out := (sRet (eOp gAdd (eOp gSub (eVar 9) (eVar 10)) (eOp gMul (eOp gIx (eVar 0) (eC (.int 2))) (eOp gSub (eOp gMul (eVar 3) (eVar 7)) (eOp gMul (eVar 4) (eVar 6))))))
noncomputable def b_law_det_v2_3 : DSt -> R Out := (sSeq (sSet0 10 (eOp gMul (eOp gIx (eVar 0) (eC (.int 1))) (eOp gSub (eOp gMul (eVar 3) (eVar 8)) (eOp gMul (eVar 5) (eVar 6))))) b_law_det_v2_4)
noncomputable def b_law_det_v2_2 : DSt -> R Out := (sSeq (sSet0 9 (eOp gMul (eOp gIx (eVar 0) (eC (.int 0))) (eOp gSub (eOp gMul (eVar 4) (eVar 8)) (eOp gMul (eVar 5) (eVar 7))))) b_law_det_v2_3)
noncomputable def b_law_det_v2_1 : DSt -> R Out := (sSeq (sAsg [] [6, 7, 8] (gpSeq 3) (eVar 2)) b_law_det_v2_2)
noncomputable def b_law_det_v2 : DSt -> R Out := (sSeq (sAsg [] [3, 4, 5] (gpSeq 3) (eVar 1)) b_law_det_v2_1)
noncomputable def m_law_det_v2 : List D -> R D := fnM 3 11 b_law_det_v2
theorem m_law_det_v2_go (a0 : D) (a1 : D) (a2 : D) : m_law_det_v2 [a0, a1, a2] = fin (b_law_det_v2 [some a0, some a1, some a2, none, none, none, none, none, none, none, none]) := fnM_go (b := b_law_det_v2) rfl rfl
noncomputable def b_law_change_2f_1 : DSt -> R Out := (sApp [2] 2 (vLst (eLC 1 [0] (iSeq (eVar 4)) gpOne eTrue (eOp gSub (eOp gMod (eVar 0) (eOp gAdd (eOp gMul (eC (.int 2)) (eVar 2)) (eC (.int 1)))) (eVar 2)))))
noncomputable def b_law_change_2f : DSt -> R Out := (sSeq (sSet [2] 4 (vLst (eLC 1 [0] (iArgs rng1 (aCons (eC (.int 3)) aNil)) gpOne eTrue (eOp gIx (eVar 1) (eOp gAdd (eOp gMul (eC (.int 3)) (eVar 4)) (eVar 0)))))) b_law_change_2f_1)
noncomputable def b_law_change_4 : DSt -> R Out := (sRet (eVar 2))
noncomputable def b_law_change_3 : DSt -> R Out := (sSeq (sIf (eTest (eOp gEq (eCall m_law_det_v2 (aCons (eOp gIx (eVar 2) (eC (.int 0))) (aCons (eOp gIx (eVar 2) (eC (.int 1))) (aCons (eOp gIx (eVar 2) (eC (.int 2))) aNil)))) (eC (.int 0)))) (sRet (vLst (eLst (aCons (vLst (eLst (aCons (eC (.int 1)) (aCons (eOp gMod (eOp gIx (eVar 0) (eC (.int 0))) (eC (.int 7))) (aCons (eOp gMod (eOp gIx (eVar 0) (eC (.int 1))) (eC (.int 5))) aNil))))) (aCons (vLst (eLst (aCons (eC (.int 0)) (aCons (eC (.int 1)) (aCons (eOp gMod (eOp gIx (eVar 0) (eC (.int 2))) (eC (.int 9))) aNil))))) (aCons (vLst (eLst (aCons (eC (.int 0)) (aCons (eC (.int 0)) (aCons (eOp gAdd (eC (.int 1)) (eOp gMod (eOp gIx (eVar 0) (eC (.int 4))) (eC (.int 4)))) aNil))))) aNil)))))) sNext) b_law_change_4)
noncomputable def b_law_change_2 : DSt -> R Out := (sSeq (sFor [2] [3] gpOne (iArgs rng1 (aCons (eC (.int 3)) aNil)) b_law_change_2f) b_law_change_3)
noncomputable def b_law_change_1 : DSt -> R Out := (sSeq (sNew [] 2 (eLst aNil)) b_law_change_2)
noncomputable def b_law_change : DSt -> R Out := (sSeq (sSet0 1 (eOp gIx (vLst (eLst (aCons (eC (.int 1)) (aCons (eC (.int 2)) (aCons (eC (.int 30)) aNil))))) (eOp gMod (eOp gIx (eVar 0) (eC (.int 9))) (eC (.int 3))))) b_law_change_1)
noncomputable def m_law_change : List D -> R D := fnM 1 5 b_law_change
theorem m_law_change_go (a0 : D) : m_law_change [a0] = fin (b_law_change [some a0, none, none, none, none]) := fnM_go (b := b_law_change) rfl rfl
noncomputable def b_law_led_v1 : DSt -> R Out := (sRet (eCall m_law_lowest_v1 (aCons (eCall m_law_dot (aCons (eOp gIx (eVar 0) (eC (.int 0))) (aCons (eVar 1) aNil))) (aCons (eCall m_law_dot (aCons (eOp gIx (eVar 0) (eC (.int 1))) (aCons (eVar 1) aNil))) (aCons (eCall m_law_dot (aCons (eOp gIx (eVar 0) (eC (.int 2))) (aCons (eVar 1) aNil))) aNil)))))
noncomputable def m_law_led_v1 : List D -> R D := fnM 2 2 b_law_led_v1
theorem m_law_led_v1_go (a0 : D) (a1 : D) : m_law_led_v1 [a0, a1] = fin (b_law_led_v1 [some a0, some a1]) := fnM_go (b := b_law_led_v1) rfl rfl
noncomputable def b_law_curve_1f_3 : DSt -> R Out := (sApp [2] 2 (eCall m_law_led_v1 (aCons (eVar 1) (aCons (eTup (aCons (eOp gMul (eVar 4) (eVar 4)) (aCons (eOp gMul (eVar 4) (eVar 5)) (aCons (eOp gMul (eVar 5) (eVar 5)) aNil)))) aNil))))
noncomputable def b_law_curve_1f_2 : DSt -> R Out := (sSeq (sIf (eAnd (eTest (eOp gEq (eVar 4) (eC (.int 0)))) (eTest (eOp gEq (eVar 5) (eC (.int 0))))) (sSet [2] 5 (eC (.int 1))) sNext) b_law_curve_1f_3)
noncomputable def b_law_curve_1f_1 : DSt -> R Out := (sSeq (sSet [2] 5 (eOp gMod (eOp gIx (eVar 0) (eOp gAdd (eOp gMul (eC (.int 2)) (eVar 3)) (eC (.int 1)))) (eC (.int 4)))) b_law_curve_1f_2)
noncomputable def b_law_curve_1f : DSt -> R Out := (sSeq (sSet [2] 4 (eOp gSub (eOp gMod (eOp gIx (eVar 0) (eOp gMul (eC (.int 2)) (eVar 3))) (eC (.int 13))) (eC (.int 6)))) b_law_curve_1f_1)
noncomputable def b_law_curve_2 : DSt -> R Out := (sRet (eVar 2))
noncomputable def b_law_curve_1 : DSt -> R Out := (sSeq (sFor [2] [3] gpOne (iArgs rng1 (aCons (eOp gFdiv (eBlt gLen (aCons (eVar 0) aNil)) (eC (.int 2))) aNil)) b_law_curve_1f) b_law_curve_2)
noncomputable def b_law_curve : DSt -> R Out := (sSeq (sNew [] 2 (eLst aNil)) b_law_curve_1)
noncomputable def m_law_curve : List D -> R D := fnM 2 6 b_law_curve
theorem m_law_curve_go (a0 : D) (a1 : D) : m_law_curve [a0, a1] = fin (b_law_curve [some a0, some a1, none, none, none, none]) := fnM_go (b := b_law_curve) rfl rfl
noncomputable def b_law_walk_2f_1aar : DSt -> R Out := (sSeq (sSetP 6 (eCall m_law_cross_v2 (aCons (eOp gIx (eVar 5) (eOp gIx (eVar 4) (eC (.int 1)))) (aCons (eOp gIx (eVar 5) (eOp gIx (eVar 4) (eC (.int 2)))) aNil)))) (sDrop 5 (sIf (eTest (eOp gEq (eOp gIx (eVar 4) (eC (.int 0))) (eC (.str "peg")))) (sApp [3, 2] 2 (eVar 6)) (sApp [3, 2] 3 (eVar 6)))))
noncomputable def b_law_walk_2f_1aa : DSt -> R Out := (sIfB 5 (eOr (eNot (eTest (eChain gLe gLt (eC (.int 0)) (eOp gIx (eVar 4) (eC (.int 1))) (eBlt gLen (aCons (eVar 5) aNil))))) (eOr (eNot (eTest (eChain gLe gLt (eC (.int 0)) (eOp gIx (eVar 4) (eC (.int 2))) (eBlt gLen (aCons (eVar 5) aNil))))) (eTest (eOp gEq (eOp gIx (eVar 5) (eOp gIx (eVar 4) (eC (.int 1)))) (eOp gIx (eVar 5) (eOp gIx (eVar 4) (eC (.int 2)))))))) (sRet (eC .non)) b_law_walk_2f_1aar)
noncomputable def b_law_walk_2f_1a : DSt -> R Out := (sIfA 5 3 (eTest (eOp gEq (eOp gIx (eVar 4) (eC (.int 0))) (eC (.str "peg")))) b_law_walk_2f_1aa)
noncomputable def b_law_walk_2f_1 : DSt -> R Out := (sAlias1 5 2 b_law_walk_2f_1a)
noncomputable def b_law_walk_2f : DSt -> R Out := (sSeq (sIf (eOr (eNot (eTest (eBlt (g2 isi3) (aCons (eVar 4) (aCons (eC (.ty "tuple")) aNil))))) (eOr (eTest (eOp gNe (eBlt gLen (aCons (eVar 4) aNil)) (eC (.int 3)))) (eTest (eOp gNin (eOp gIx (eVar 4) (eC (.int 0))) (eTup (aCons (eC (.str "line")) (aCons (eC (.str "peg")) aNil))))))) (sRet (eC .non)) sNext) b_law_walk_2f_1)
noncomputable def b_law_walk_3 : DSt -> R Out := (sRet (eVar 2))
noncomputable def b_law_walk_2 : DSt -> R Out := (sSeq (sFor [3, 2] [4] gpOne (iSeq (eVar 1)) b_law_walk_2f) b_law_walk_3)
noncomputable def b_law_walk_1 : DSt -> R Out := (sSeq (sNew [2] 3 (eLst aNil)) b_law_walk_2)
noncomputable def b_law_walk : DSt -> R Out := (sSeq (sNew [] 2 (eBltF gList (aCons (eVar 0) aNil))) b_law_walk_1)
noncomputable def m_law_walk : List D -> R D := fnM 2 7 b_law_walk
theorem m_law_walk_go (a0 : D) (a1 : D) : m_law_walk [a0, a1] = fin (b_law_walk [some a0, some a1, none, none, none, none, none]) := fnM_go (b := b_law_walk) rfl rfl
noncomputable def b_law_linesfff : DSt -> R Out := (sIf (eTest (eOp gEq (eCall m_law_det_v2 (aCons (eOp gIx (eVar 0) (eVar 1)) (aCons (eOp gIx (eVar 0) (eVar 2)) (aCons (eOp gIx (eVar 0) (eVar 3)) aNil)))) (eC (.int 0)))) (sRet (eC (.bl true))) sNext)
noncomputable def b_law_linesff : DSt -> R Out := (sFor [] [3] gpOne (iArgs rng1 (aCons (eVar 2) aNil)) b_law_linesfff)
noncomputable def b_law_linesf : DSt -> R Out := (sFor [] [2] gpOne (iArgs rng1 (aCons (eVar 1) aNil)) b_law_linesff)
noncomputable def b_law_lines_1 : DSt -> R Out := (sRet (eC (.bl false)))
noncomputable def b_law_lines : DSt -> R Out := (sSeq (sFor [] [1] gpOne (iArgs rng1 (aCons (eBlt gLen (aCons (eVar 0) aNil)) aNil)) b_law_linesf) b_law_lines_1)
noncomputable def m_law_lines : List D -> R D := fnM 1 4 b_law_lines
theorem m_law_lines_go (a0 : D) : m_law_lines [a0] = fin (b_law_lines [some a0, none, none, none]) := fnM_go (b := b_law_lines) rfl rfl
noncomputable def b_law_drawn_so_2 : DSt -> R Out := (sRet (vAnd (eOp gEq (eOp gIx (eVar 4) (eVar 3)) (eCall m_again_v1 (aCons (eVar 0) (aCons (eVar 1) aNil)))) (eOp gEq (eCall m_law_det_v2 (aCons (eOp gIx (eVar 0) (eC (.int 0))) (aCons (eVar 1) (aCons (eOp gIx (eVar 4) (eVar 3)) aNil)))) (eC (.int 0)))))
noncomputable def b_law_drawn_so_1 : DSt -> R Out := (sSeq (sIf (eOr (eTest (eOp gIs (eVar 4) (eC .non))) (eNot (eTest (eChain gLe gLt (eC (.int 0)) (eVar 3) (eBlt gLen (aCons (eVar 4) aNil)))))) (sRet (eC (.bl false))) sNext) b_law_drawn_so_2)
noncomputable def b_law_drawn_so : DSt -> R Out := (sSeq (sSet0 4 (eCall m_law_walk (aCons (eOp gAdd (eVar 0) (vLst (eLst (aCons (eVar 1) aNil)))) (aCons (eVar 2) aNil)))) b_law_drawn_so_1)
noncomputable def m_law_drawn_so : List D -> R D := fnM 4 5 b_law_drawn_so
theorem m_law_drawn_so_go (a0 : D) (a1 : D) (a2 : D) (a3 : D) : m_law_drawn_so [a0, a1, a2, a3] = fin (b_law_drawn_so [some a0, some a1, some a2, some a3, none]) := fnM_go (b := b_law_drawn_so) rfl rfl
noncomputable def b_law_v28_0neu_3f_6t_3 : DSt -> R Out := (sIf (eNot (eTest (eCall m_law_drawn_so (aCons (eSl (eVar 12) oNone (oSome (eC (.int 5)))) (aCons (eOp gIx (eVar 12) (eC (.int 5))) (aCons (eVar 4) (aCons (eVar 3) aNil))))))) (sRet (eC (.bl false))) sNext)
noncomputable def b_law_v28_0neu_3f_6t_2 : DSt -> R Out := (sSeq (sSet [] 12 (vLst (eLC 1 [0] (iSeq (eOp gAdd (eVar 9) (vLst (eLst (aCons (eVar 10) aNil))))) gpOne eTrue (eCall m_law_led_v1 (aCons (eVar 12) (aCons (eVar 0) aNil)))))) b_law_v28_0neu_3f_6t_3)
noncomputable def b_law_v28_0neu_3f_6t_1 : DSt -> R Out := (sSeq (sSet0 11 (eCall m_law_change (aCons (eSl (eVar 6) (oSome (eC (.int 30))) (oSome (eC (.int 40)))) aNil))) b_law_v28_0neu_3f_6t_2)
noncomputable def b_law_v28_0neu_3f_6t : DSt -> R Out := (sSeq (sIf (eNot (eTest (eCall m_law_drawn_so (aCons (eVar 9) (aCons (eVar 10) (aCons (eVar 4) (aCons (eVar 3) aNil))))))) (sRet (eC (.bl false))) sNext) b_law_v28_0neu_3f_6t_1)
noncomputable def b_law_v28_0neu_3f_6 : DSt -> R Out := (sIf (eAnd (eNot (eTest (eCall m_law_lines (aCons (eVar 9) aNil)))) (eTest (eOp gNe (eVar 10) (eOp gIx (eVar 9) (eC (.int 0)))))) b_law_v28_0neu_3f_6t sNext)
noncomputable def b_law_v28_0neu_3f_5 : DSt -> R Out := (sSeq (sSet0 10 (eOp gIx (vLst (eLst (aCons (eOp gIx (eVar 8) (eC (.int 5))) (aCons (eOp gIx (eVar 9) (eOp gAdd (eC (.int 1)) (eOp gMod (eOp gIx (eVar 6) (eC (.int 23))) (eC (.int 4))))) (aCons (eCall m_law_place_v4 (aCons (eSl (eVar 6) (oSome (eC (.int 24))) (oSome (eC (.int 28)))) aNil)) aNil))))) (eOp gMod (eOp gIx (eVar 6) (eC (.int 22))) (eC (.int 3))))) b_law_v28_0neu_3f_6)
noncomputable def b_law_v28_0neu_3f_4 : DSt -> R Out := (sSeq (sIf (eTest (eOp gEq (eOp gMod (eOp gIx (eVar 6) (eC (.int 21))) (eC (.int 4))) (eC (.int 1)))) (sSet [] 9 (vLst (eLC 1 [0] (iArgs rng1 (aCons (eC (.int 5)) aNil)) gpOne eTrue (eCall m_law_place_v4 (aCons (eSl (eVar 7) (oSome (eOp gAdd (eC (.int 40)) (eOp gMul (eC (.int 4)) (eVar 0)))) (oSome (eOp gAdd (eC (.int 44)) (eOp gMul (eC (.int 4)) (eVar 0))))) aNil))))) sNext) b_law_v28_0neu_3f_5)
noncomputable def b_law_v28_0neu_3f_3 : DSt -> R Out := (sSeq (sSet0 9 (eSl (eVar 8) oNone (oSome (eC (.int 5))))) b_law_v28_0neu_3f_4)
noncomputable def b_law_v28_0neu_3f_2 : DSt -> R Out := (sSeq (sSet0 8 (eCall m_law_curve (aCons (eSl (eVar 6) (oSome (eC (.int 10))) (oSome (eC (.int 22)))) (aCons (eVar 7) aNil)))) b_law_v28_0neu_3f_3)
noncomputable def b_law_v28_0neu_3f_1 : DSt -> R Out := (sSeq (sSet0 7 (eCall m_law_change (aCons (eSl (eVar 6) oNone (oSome (eC (.int 10)))) aNil))) b_law_v28_0neu_3f_2)
noncomputable def b_law_v28_0neu_3f : DSt -> R Out := (sSeq (sSet0 6 (eCall m_law_numbers_v1 (aCons (eVar 5) (aCons (eC (.int 60)) aNil)))) b_law_v28_0neu_3f_1)
noncomputable def b_law_v28_0neu_4 : DSt -> R Out := (sRet (eC (.bl true)))
noncomputable def b_law_v28_0neu_3 : DSt -> R Out := (sSeq (sFor [] [5] gpOne (iSeq (eSl (eOp gAdd (vLst (eLst (aCons (eC (.int 0)) aNil))) (eVar 0)) oNone (oSome (eC (.int 16))))) b_law_v28_0neu_3f) b_law_v28_0neu_4)
noncomputable def b_law_v28_0neu_2 : DSt -> R Out := (sSeq (sIf (eTest (eOp gNe (eCall (numD m_bow_plan) aNil) (eTup (aCons (eVar 4) (aCons (eVar 3) aNil))))) (sRet (eC (.bl false))) sNext) b_law_v28_0neu_3)
noncomputable def b_law_v28_0neu_1 : DSt -> R Out := (sSeq (sApp [2] 2 (eC .non)) b_law_v28_0neu_2)
noncomputable def b_law_v28_0neu : DSt -> R Out := (sSeq (sNewP 4 (eBltF gList (aCons (eVar 2) aNil))) b_law_v28_0neu_1)
noncomputable def b_law_v28_0ne : DSt -> R Out := (sUnp 1 2 3 b_law_v28_0neu)
noncomputable def b_law_v28_0n : DSt -> R Out := (sIfB 1 (eOr (eNot (eTest (eBlt (g2 isi3) (aCons (eVar 1) (aCons (eC (.ty "tuple")) aNil))))) (eOr (eTest (eOp gNe (eBlt gLen (aCons (eVar 1) aNil)) (eC (.int 2)))) (eOr (eNot (eTest (eBlt (g2 isi3) (aCons (eOp gIx (eVar 1) (eC (.int 0))) (aCons (eC (.ty "list")) aNil))))) (eNot (eTest (eCall m_law_whole (aCons (eOp gIx (eVar 1) (eC (.int 1))) aNil))))))) (sRet (eC (.bl false))) b_law_v28_0ne)
noncomputable def b_law_v28 : DSt -> R Out := (sTold 1 m_bow_plan b_law_v28_0n)
noncomputable def m_law_v28 : List D -> R D := fnM 1 13 b_law_v28
theorem m_law_v28_go (a0 : D) : m_law_v28 [a0] = fin (b_law_v28 [some a0, none, none, none, none, none, none, none, none, none, none, none, none]) := fnM_go (b := b_law_v28) rfl rfl
end Mir
section
open L2 DL Mir
local macro_rules | `(tactic| kd_p) => `(tactic| simp only [sSeq_def, seqK_nx, seqK_rt, seqK_bk, seqK_ct, seqK_err, sNext_def, eVar_zero, eVar_succ, eC_def, eOp_def, opK_ok, eUn_def, unK_ok, eCall_def, callK_ok, callK_err, xCallD_def, xcallK_ok, eBlt_def, bltK_ok, eBltF_def, bltFK_ok, noerr_okk, aNil_def, aCons_def, consK_ok, consK_err, eTup_def, tupK_0, tupK_1, tupK_2, tupK_3, tupK_4, tupK_5, tupK_6, tupK_9, eLst_def, lstK_0, lstK_1, lstK_2, lstK_3, lstK_4, lstK_5, lstK_6, vLst_def, vlstK_ok, eTest_def, testK_bl, eAnd_def, andK_t, andK_f, eOr_def, orK_t, orK_f, eNot_def, notK_ok, vAnd_def, vandK_t, vandK_f, vOr_def, vorK_t, vorK_f, vNot_def, vnotK_ok, eIf_def, eifK_t, eifK_f, sIf_def, ifK_t, ifK_f, eChain_def, chain_ints, sApp_def, sAppP_def, lstAt_zero, lstAt_succ, sRet_def, retK_ok, retK_err, sExpr_def, exprK_ok, exprK_err, sSet0_def, sSet_def, setK_ok, setK_err, sNew_def, newK_ok, sAsg_def, asgK_2t, asgK_2l, asgK_3t, asgK_3l, sPar_def, parK_ok, sRaise_def, raiseK_1, sRaise1_def, sTry_def, tryK_ok, handK_nx, fin_rt, fin_nx, fin_err, gAdd_ii, gSub_ii, gNeg_i, gLt_ii, gLe_ii, gGt_ii, gGe_ii, gEq_ii, gNe_ii, gEq_bb, gNe_bb, gEq_t3, gNe_t3, gEq_l3, gIs_bb, gIsn_bb, gIs_non, gIsn_non, isNon, gIx_t3_0, gIx_t3_1, gIx_t3_2, gIx_l3_0, gIx_l3_1, gIx_l3_2, gLen_l, gLen_t0, gLen_t1, gLen_t2, gLen_t3, gLen_t4, eq_self, decide_true, decide_false, Int.reduceEq, Int.reduceLT, Int.reduceLE, Int.reduceNeg, Int.reduceToNat, gAbs_i, gMin_ii, gMax_ii, gInt_b, isi_int_int, isi_int_bool, isi_bl_bool, isi_bl_int, isi_tup_tup, isi_lst_lst, isi_lst_tup, isi_tup_lst, isi_excV, iArgs_def, argsK_ok, iSeq_def, seqKi_t, seqKi_l, sFor_def, forK_ok, forL_one, forL_nil, turnK_nx, turnK_ct, turnK_bk, turnK_rt, turnK_err, eLC_def, mask_nil, mask, maskF, List.contains_cons, List.contains_nil, Bool.or_false, Bool.false_or, Bool.true_or, Bool.or_true, Nat.reduceBEq, Nat.reduceAdd, xbk, cond_true, cond_false, List.set_cons_zero, List.set_cons_succ, Bool.not_true, xc3, Bool.not_not, Bool.true_and, Bool.false_and, Bool.and_true, Bool.and_false])
namespace LmP
open Mth
theorem B_le {n : Nat} {i : Int} (h : B n i) : i.natAbs <= 2 ^ n - 1 := by unfold B at h; omega
theorem divB_low {n : Nat} {x y z : Int} (hx : B n x) (hy : B n y) (hz : B n z) (h : NZ x y z) (hn : n <= 9000) : divB (lowS x y z) = true := by
  refine divB_of (n := n) ?_ (low_parts h).ne hn
  have := lowS_le (B_le hx) (B_le hy) (B_le hz)
  have p : 0 < 2 ^ n := Nat.pow_pos (by decide)
  unfold B; omega
theorem divisor_eq (a b : Int) : m_divisor [.int a, .int b] = .ok (.int ((Nat.gcd a.natAbs b.natAbs : Nat) : Int)) := by
  rw [m_divisor_go]
  unfold b_divisor b_divisor_1 b_divisor_2 b_divisor_3
  kd_p
  have loop : ∀ (n m : Nat) (z : Option D), ∃ z', sWhile b_divisor_2c b_divisor_2w [some (.int (m : Int)), some (.int (n : Int)), z] = .ok (.nx [some (.int ((Nat.gcd m n : Nat) : Int)), some (.int 0), z']) := by
    intro n
    induction n using Nat.strongRecOn with
    | _ n ih =>
      intro m z
      by_cases hn : n = 0
      · subst hn
        refine ⟨z, ?_⟩
        rw [sWhile_f (by unfold b_divisor_2c; kd_p; rfl), Nat.gcd_zero_right]; rfl
      · have hlt : m % n < n := xcj _ (by omega)
        obtain ⟨z', h⟩ := ih (m % n) hlt n (some (.int ((m % n : Nat) : Int)))
        refine ⟨z', ?_⟩
        rw [sWhile_t (Z' := [some (.int (n : Int)), some (.int ((m % n : Nat) : Int)), some (.int ((m % n : Nat) : Int))]) ?_ ?_, h, Mth.gcd_step]
        · unfold b_divisor_2c; kd_p
          simp [hn]
        · unfold b_divisor_2w b_divisor_2w_1 b_divisor_2w_2; kd_p
          rw [gMod_pos _ _ (by omega)]
          kd_p
          rfl
  obtain ⟨z', h⟩ := loop b.natAbs a.natAbs none
  rw [h]
  kd_p
theorem is_whole_i (i : Int) : m_is_whole [.int i] = .ok (.bl true) := by
  rw [m_is_whole_go]; unfold b_is_whole; kd_p
theorem nz_iff (x y z : Int) : (!decide (x = 0 /\ y = 0 /\ z = 0)) = decide (NZ x y z) := by
  unfold NZ; by_cases h : x = 0 /\ y = 0 /\ z = 0 <;> simp [h]
theorem makes_place_3 (x y z : Int) : m_makes_place [t3 x y z] = .ok (.bl (decide (NZ x y z))) := by
  rw [m_makes_place_go]; unfold b_makes_place; kd_p
  rw [lc_map (g := fun _ => .bl true) (by simp) (fun d hd => ?_)]
  · kd_p
    rw [show gAll [.lst ([D.int x, D.int y, D.int z].map fun _ => D.bl true)] = .ok (.bl true) from rfl]
    kd_p
    rw [nz_iff]
  · simp only [xap, xa7, or_false] at hd
    rcases hd with rfl | rfl | rfl <;> (kd_p; exact is_whole_i _)
theorem last_of (x y z : Int) (h : NZ x y z) (Z : DSt) : opK gIx (vlstK (lcK 1 [0] (.ok [.int x, .int y, .int z]) gpOne (eTest (eOp gNe (eVar 0) (eC (.int 0)))) (eVar 0) Z)) (.ok (.int (-1))) = .ok (.int (lastNZ x y z)) := by
  rw [lc_filter (p := fun d => !eqD d (.int 0)) (g := id) (by simp) (fun d hd => ?_) (fun d hd _ => ?_)]
  · kd_p
    unfold lastNZ
    by_cases hz : z = 0
    · by_cases hy : y = 0
      · have hx : x ≠ 0 := fun e => h ⟨e, hy, hz⟩
        subst hz; subst hy
        simp only [List.filter_cons, List.filter_nil, eqD_ii, hx, decide_false, decide_true, xc3, Bool.not_true, if_true, Bool.false_eq_true, if_false, xa9, List.map_nil, id, ne_eq, not_true_eq_false]
        rfl
      · subst hz
        by_cases hx : x = 0
        · subst hx
          simp only [List.filter_cons, List.filter_nil, eqD_ii, hy, decide_false, decide_true, xc3, Bool.not_true, if_true, Bool.false_eq_true, if_false, xa9, List.map_nil, id, ne_eq, not_true_eq_false, not_false_eq_true]
          rfl
        · simp only [List.filter_cons, List.filter_nil, eqD_ii, hx, hy, decide_false, decide_true, xc3, Bool.not_true, if_true, Bool.false_eq_true, if_false, xa9, List.map_nil, id, ne_eq, not_true_eq_false, not_false_eq_true]
          rfl
    · have e : List.map id (List.filter (fun d => !eqD d (.int 0)) [.int x, .int y, .int z]) = List.map id (List.filter (fun d => !eqD d (.int 0)) [.int x, .int y]) ++ [D.int z] := by
        rw [show ([.int x, .int y, .int z] : List D) = [.int x, .int y] ++ [.int z] from rfl, List.filter_append, xbj]
        congr 1
        simp [eqD_ii, hz]
      rw [e, gIx_last]
      simp [hz]
  · simp only [xap, xa7, or_false] at hd
    rcases hd with rfl | rfl | rfl <;> (kd_p; rw [eqD_ii])
  · simp only [xap, xa7, or_false] at hd
    rcases hd with rfl | rfl | rfl <;> (kd_p; rfl)
abbrev lowD (x y z : Int) : D := t3 (x.fdiv (lowS x y z)) (y.fdiv (lowS x y z)) (z.fdiv (lowS x y z))
theorem lowS_cases (x y z : Int) : (lastNZ x y z < 0 /\ lowS x y z = -((g3 x y z : Nat) : Int)) \/ (¬ lastNZ x y z < 0 /\ lowS x y z = ((g3 x y z : Nat) : Int)) := by
  unfold lowS
  by_cases h : lastNZ x y z < 0
  · left; rw [if_pos h]; exact ⟨h, by omega⟩
  · right; rw [if_neg h]; exact ⟨h, rfl⟩
theorem in_form_3 {n : Nat} {x y z : Int} (hx : B n x) (hy : B n y) (hz : B n z) (h : NZ x y z) (hn : n <= 9000) : m_in_form [t3 x y z] = .ok (lowD x y z) := by
  have hd := divB_low hx hy hz h hn
  rw [m_in_form_go]; unfold b_in_form b_in_form_1 b_in_form_2 b_in_form_3; kd_p
  rw [divisor_eq]; kd_p
  rw [divisor_eq]; kd_p
  rw [last_of x y z h]; kd_p
  rw [xcf]
  rcases lowS_cases x y z with ⟨hl, hs⟩ | ⟨hl, hs⟩
  · rw [decide_eq_true hl]; kd_p
    rw [show -(((Nat.gcd (Nat.gcd x.natAbs y.natAbs) z.natAbs : Nat)) : Int) = lowS x y z from hs.symm, gFdiv_ii _ _ hd, gFdiv_ii _ _ hd, gFdiv_ii _ _ hd]
    kd_p
  · rw [decide_eq_false hl]; kd_p
    rw [show (((Nat.gcd (Nat.gcd x.natAbs y.natAbs) z.natAbs : Nat)) : Int) = lowS x y z from hs.symm, gFdiv_ii _ _ hd, gFdiv_ii _ _ hd, gFdiv_ii _ _ hd]
    kd_p
theorem is_place_3 {n : Nat} {x y z : Int} (hx : B n x) (hy : B n y) (hz : B n z) (h : NZ x y z) (hn : n <= 9000) : m_is_place [t3 x y z] = .ok (.bl (decide (x.fdiv (lowS x y z) = x /\ y.fdiv (lowS x y z) = y /\ z.fdiv (lowS x y z) = z))) := by
  rw [m_is_place_go]; unfold b_is_place b_is_place_1 b_is_place_2; kd_p
  rw [makes_place_3, decide_eq_true h]; kd_p
  rw [in_form_3 hx hy hz h hn]; kd_p
end LmP
open L2 DL Mir
namespace LmA
open Mth LmP
theorem law_whole_i (i : Int) : m_law_whole [.int i] = .ok (.bl true) := by
  rw [m_law_whole_go]; unfold b_law_whole; kd_p
end LmA
open L2 DL Mir
namespace LmD
open Mth LmP LmA
abbrev ptD (p : P3) : D := t3 p.1 p.2.1 p.2.2
structure BP (n : Nat) (p : P3) : Prop where
  x : B n p.1
  y : B n p.2.1
  z : B n p.2.2
theorem BP.mono {m n : Nat} {p : P3} (h : BP m p) (hn : m <= n) : BP n p := ⟨h.x.mono hn, h.y.mono hn, h.z.mono hn⟩
theorem BP.crs {m n : Nat} {p q : P3} (hp : BP m p) (hq : BP n q) : BP (m + n + 1) (Mth.crs p q) :=
  ⟨((hp.y.mul hq.z).sub (hp.z.mul hq.y)).mono (by omega), ((hp.z.mul hq.x).sub (hp.x.mul hq.z)).mono (by omega), ((hp.x.mul hq.y).sub (hp.y.mul hq.x)).mono (by omega)⟩
theorem BP.dot {m n : Nat} {p q : P3} (hp : BP m p) (hq : BP n q) : B (m + n + 2) (Mth.dot p q) :=
  (((hp.x.mul hq.x).add (hp.y.mul hq.y)).add (hp.z.mul hq.z)).mono (by omega)
theorem BP.low {n : Nat} {p : P3} (h : BP n p) (hz : Nz p) : BP n (Mth.low p) := by
  obtain ⟨a, b, c⟩ := low_abs hz
  exact ⟨xbo a h.x, xbo b h.y, xbo c h.z⟩
theorem mulB_n {n : Nat} {i : Int} (h : B n i) (hn : n <= 10000) : mulB i = true := mulB_of h (by omega)
theorem eqP (p q : P3) : (p.1 = q.1 /\ p.2.1 = q.2.1 /\ p.2.2 = q.2.2) ↔ p = q := ⟨fun ⟨a, b, c⟩ => xao a (xao b c), fun h => by subst h; exact ⟨rfl, rfl, rfl⟩⟩
theorem eqD_pt (p q : P3) : eqD (ptD p) (ptD q) = decide (p = q) := by
  rw [eqD_t3, decide_eq_decide.mpr (eqP p q)]
theorem gIx_h (d : D) (ds : List D) : gIx (.lst (d :: ds)) (.int 0) = .ok d := gIx_nat (j := 0) rfl
theorem dot_ok {m n : Nat} {p q : P3} (hp : BP m p) (hq : BP n q) (hm : m <= 10000) (hn : n <= 10000) : m_dot [ptD p, ptD q] = .ok (.int (dot p q)) := by
  rw [m_dot_go]; unfold b_dot; kd_p
  rw [gMul_ii _ _ (mulB_n hp.x hm) (mulB_n hq.x hn), gMul_ii _ _ (mulB_n hp.y hm) (mulB_n hq.y hn), gMul_ii _ _ (mulB_n hp.z hm) (mulB_n hq.z hn)]; kd_p
  rfl
theorem cross_ok {m n : Nat} {p q : P3} (hp : BP m p) (hq : BP n q) (hm : m <= 10000) (hn : n <= 10000) : m_cross [ptD p, ptD q] = .ok (ptD (crs p q)) := by
  rw [m_cross_go]; unfold b_cross b_cross_1 b_cross_2 b_cross_3; kd_p
  rw [gMul_ii _ _ (mulB_n hp.y hm) (mulB_n hq.z hn), gMul_ii _ _ (mulB_n hp.z hm) (mulB_n hq.y hn)]; kd_p
  rw [gMul_ii _ _ (mulB_n hp.z hm) (mulB_n hq.x hn), gMul_ii _ _ (mulB_n hp.x hm) (mulB_n hq.z hn)]; kd_p
  rw [gMul_ii _ _ (mulB_n hp.x hm) (mulB_n hq.y hn), gMul_ii _ _ (mulB_n hp.y hm) (mulB_n hq.x hn)]; kd_p
  rfl
structure BM (n : Nat) (m : M3) : Prop where
  a : BP n m.1
  b : BP n m.2.1
  c : BP n m.2.2
theorem BM.mul {k n : Nat} {m : M3} {p : P3} (h : BM k m) (hp : BP n p) : BP (k + n + 2) (Mth.mul m p) := ⟨h.a.dot hp, h.b.dot hp, h.c.dot hp⟩
end LmD
open L2 DL Mir
namespace LmE
open Mth LmP LmA LmD
abbrev ptL (p : P3) : D := l3 p.1 p.2.1 p.2.2
end LmE
open L2 DL Mir
namespace Lk42
open Mth LmP LmA LmD LmE
theorem eSl_to (fe f : DSt -> R D) (Z : DSt) (ds : List D) (n : Nat) (h1 : fe Z = .ok (.lst ds)) (h2 : f Z = .ok (.int (n : Int))) : eSl fe oNone (oSome f) Z = .ok (.lst (ds.take n)) := by
  unfold eSl oNone oSome
  rw [h1, h2]
  show R.ok (D.lst (cutD ds none (some (n : Int)))) = _
  unfold cutD
  rw [HT.sIx_none, HT.sIx_nat, List.drop_zero, Nat.sub_zero, <- List.take_eq_take_min]
theorem gAdd_ll {xs ys : List D} (h : xs.length + ys.length <= 1000000) : gAdd (.lst xs) (.lst ys) = .ok (.lst (xs ++ ys)) := by
  show (bif le24 (xs.length + ys.length) then _ else _) = _
  rw [show le24 (xs.length + ys.length) = true from decide_eq_true (xa5 h (by decide))]; rfl
end Lk42
open L2 DL Mir
namespace LmB
open Mth LmP LmA LmD
theorem in_form_pt {n : Nat} {p : P3} (h : BP n p) (hz : Nz p) (hn : n <= 9000) : m_in_form [t3 p.1 p.2.1 p.2.2] = .ok (ptD (low p)) := in_form_3 h.x h.y h.z hz hn
theorem between_v1 {n : Nat} {p q : P3} (hp : BP n p) (hq : BP n q) (hn : n <= 4000) (hne : p ≠ q) (hL : Nz (crs p q)) : m_between_two_v2 [ptD p, ptD q] = .ok (ptD (low (crs p q))) := by
  rw [m_between_two_v2_go]; unfold b_between_two_v2 b_between_two_v2_1; kd_p
  rw [decide_eq_false (fun h => hne ((eqP p q).mp h))]; kd_p
  rw [cross_ok hp hq (by omega) (by omega)]; kd_p
  rw [in_form_pt (hp.crs hq) hL (by omega)]; kd_p
theorem through_v1 {n : Nat} {p q : P3} (hp : BP n p) (hq : BP n q) (hn : n <= 4000) (hne : p ≠ q) (hL : Nz (crs p q)) : m_through_v2 [ptD p, ptD q] = .ok (ptD (low (crs p q))) := by
  rw [m_through_v2_go]; unfold b_through_v2; kd_p
  rw [between_v1 hp hq hn hne hL]; kd_p
theorem lies_ok {m n : Nat} {p q : P3} (hp : BP m p) (hq : BP n q) (hm : m <= 10000) (hn : n <= 10000) : m_lies_v1 [ptD p, ptD q] = .ok (.bl (decide (dot p q = 0))) := by
  rw [m_lies_v1_go]; unfold b_lies_v1; kd_p
  rw [dot_ok hp hq hm hn]; kd_p
theorem gAll_bls (bs : List Bool) : gAll [.lst (bs.map D.bl)] = .ok (.bl (bs.all id)) := by
  show all1 (.lst (bs.map D.bl)) = _
  simp only [all1, blsOf_map]
theorem lc_mapP {α : Type} {xs : List α} {f : α -> D} {e : DSt -> R D} {Z : DSt} {g : α -> D} (hl : xs.length <= 1000000) (h : ∀ a ∈ xs, e (some (f a) :: Z) = .ok (g a)) : lcK 1 [0] (.ok (xs.map f)) gpOne eTrue e Z = .ok (xs.map g) := by
  have go : ∀ xs : List α, (∀ a ∈ xs, e (some (f a) :: Z) = .ok (g a)) -> lcD [0] gpOne eTrue e (List.replicate 1 none ++ Z) (xs.map f) = .ok (xs.map g) := by
    intro xs
    induction xs with
    | nil => intro _; rfl
    | cons d ds ih =>
      intro h
      show (e (some (f d) :: Z)).bind (fun y => (lcD [0] gpOne eTrue e (List.replicate 1 none ++ Z) (ds.map f)).bind fun ys => .ok (y :: ys)) = _
      rw [h d xam, ih fun d' hd => h d' (xaf _ hd)]; rfl
  show (bif most (xs.map f).length then _ else _) = _
  rw [most_of (by rw [xab]; exact hl), go xs h]; rfl
structure Pts (n : Nat) (ps : List P3) : Prop where
  nrm : ∀ p ∈ ps, Nrm p
  bd : ∀ p ∈ ps, BP n p
theorem on_one_ok {n : Nat} {ps : List P3} (h : Pts n ps) (hn : n <= 4000) (hl : ps.length <= 100000) : ∃ b, m_on_one_v1 [.lst (ps.map ptD)] = .ok (.bl b) /\ (b = true ↔ Col ps) := by
  rw [m_on_one_v1_go]; unfold b_on_one_v1; kd_p
  cases ps with
  | nil =>
    refine ⟨true, ?_, fun _ => Col.same (p0 := (0, 0, 0)) (by simp), fun _ => rfl⟩
    rfl
  | cons p0 ps =>
    rw [lc_filter (p := fun d => !eqD d (ptD p0)) (g := id) (by rw [xab]; omega) (fun d hd => ?_) (fun d hd _ => ?_)]
    · rw [List.map_id]
      have hf : ((p0 :: ps).map ptD).filter (fun d => !eqD d (ptD p0)) = ((p0 :: ps).filter fun p => !decide (p = p0)).map ptD := by
        rw [List.filter_map]
        congr 1
        apply List.filter_congr
        intro p _
        exact congrArg _ (eqD_pt p p0)
      rw [hf]; kd_p
      unfold b_on_one_v1_1; kd_p
      cases ho : (p0 :: ps).filter (fun p => !decide (p = p0)) with
      | nil =>
        refine ⟨true, by rfl, fun _ => Col.same (p0 := p0) fun p hp => ?_, fun _ => rfl⟩
        by_cases e : p = p0
        · exact e
        · have : p ∈ (p0 :: ps).filter (fun p => !decide (p = p0)) := xbp.mpr ⟨hp, by simp [e]⟩
          rw [ho] at this; cases this
      | cons o os =>
        have mo : o ∈ p0 :: ps /\ o ≠ p0 := by
          have : o ∈ (p0 :: ps).filter (fun p => !decide (p = p0)) := by rw [ho]; exact xam
          rw [xbp] at this
          exact ⟨this.1, by simpa using this.2⟩
        have m0 : p0 ∈ p0 :: ps := xam
        have hL : Nz (crs p0 o) := cross_ne (h.nrm _ m0) (h.nrm _ mo.1) fun e => mo.2 e.symm
        have hthru := through_v1 (h.bd _ m0) (h.bd _ mo.1) hn (fun e => mo.2 e.symm) hL
        rw [decide_eq_false (by simp; omega)]; kd_p
        simp only [xa9]
        unfold b_on_one_v1_2; kd_p
        rw [gIx_h, gIx_h]; kd_p
        rw [hthru]; kd_p
        unfold b_on_one_v1_3; kd_p
        have hos : ∀ p ∈ o :: os, p ∈ p0 :: ps := fun p hp => by
          rw [<- ho] at hp; exact (xbp.mp hp).1
        have hle : (o :: os).length <= 100000 := by
          rw [<- ho]; exact xa5 (List.length_filter_le _ _) hl
        rw [<- xa9 (f := ptD), lc_mapP (g := fun p => .bl (decide (dot p (low (crs p0 o)) = 0))) (by omega) (fun p hp => ?_)]
        · kd_p
          rw [show (o :: os).map (fun p => D.bl (decide (dot p (low (crs p0 o)) = 0))) = ((o :: os).map fun p => decide (dot p (low (crs p0 o)) = 0)).map D.bl by rw [xch]; rfl, gAll_bls]; kd_p
          refine ⟨_, rfl, ?_⟩
          rw [Col.iff m0 mo.1 hL, List.all_map, xa0]
          constructor
          · intro q p hp
            by_cases e : p = p0
            · subst e; unfold dot crs; grind
            · have : p ∈ o :: os := by rw [<- ho]; exact xbp.mpr ⟨hp, by simp [e]⟩
              exact (dot_low hL).mp (of_decide_eq_true (q p this))
          · intro q p hp
            exact decide_eq_true ((dot_low hL).mpr (q p (hos p hp)))
        · kd_p
          rw [lies_ok (h.bd _ (hos p hp)) (((h.bd _ m0).crs (h.bd _ mo.1)).low hL) (by omega) (by omega)]
    · obtain ⟨p, _, rfl⟩ := xbh.mp hd
      kd_p
      rw [xa9, gIx_h]; kd_p
      rw [eqD_t3]
    · rfl
end LmB
open L2 DL Mir
namespace LmF
open Mth LmP LmA LmD LmE
theorem lc_3 {a b c x y z : D} {e : DSt -> R D} {Z : DSt} (ha : e (some a :: Z) = .ok x) (hb : e (some b :: Z) = .ok y) (hc : e (some c :: Z) = .ok z) : lcK 1 [0] (.ok [a, b, c]) gpOne eTrue e Z = .ok [x, y, z] := by
  have t : lcD [0] gpOne eTrue e (List.replicate 1 none ++ Z) [a, b, c] = (e (some a :: Z)).bind (fun y => ((e (some b :: Z)).bind fun y' => ((e (some c :: Z)).bind fun y'' => (R.ok ([] : List D)).bind fun ys => .ok (y'' :: ys)).bind fun ys => .ok (y' :: ys)).bind fun ys => .ok (y :: ys)) := rfl
  show (bif most 3 then (lcD [0] gpOne eTrue e (List.replicate 1 none ++ Z) [a, b, c]).noerr else .bad) = _
  rw [t, ha, hb, hc]; rfl
end LmF
open L2 DL Mir
namespace LmH
open Mth LmP LmA LmD LmB LmE LmF
theorem is_place_nrm {n : Nat} {p : P3} (hp : BP n p) (h : Nrm p) (hn : n <= 9000) : m_is_place [ptD p] = .ok (.bl true) := by
  rw [is_place_3 hp.x hp.y hp.z h.nz hn, show lowS p.1 p.2.1 p.2.2 = 1 from h.one, fdiv_one, fdiv_one, fdiv_one]
  simp
def key (p : P3) : List Int := [p.1, p.2.1, p.2.2]
theorem key_inj {p q : P3} (h : key p = key q) : p = q := by
  simp only [key, List.cons.injEq, and_true] at h
  exact xao h.1 (xao h.2.1 h.2.2)
theorem keys_pts : ∀ ps : List P3, keysOf (ps.map ptD) = some (ps.map key)
  | [] => rfl
  | p :: ps => by
    have ih := keys_pts ps
    rw [xa9, xa9]
    unfold keysOf
    rw [ih]; rfl
end LmH
open L2 DL Mir
namespace LmI
open Mth LmP LmA LmD LmB LmE LmF LmH
theorem Pts.snoc {n : Nat} {ps : List P3} {r : P3} (h : Pts n ps) (hr : Nrm r) (br : BP n r) : Pts n (ps ++ [r]) :=
  ⟨fun p hp => (xbe.mp hp).elim (h.nrm p) fun z => by rw [xbi.mp z]; exact hr, fun p hp => (xbe.mp hp).elim (h.bd p) fun z => by rw [xbi.mp z]; exact br⟩
end LmI
open L2 DL Mir
namespace LmJ
open Mth LmP LmA LmD LmB LmE LmF LmH LmI
def rg (lo m : Nat) : List Nat := (List.range (m - lo)).map (lo + ·)
theorem mem_rg {lo m k : Nat} : k ∈ rg lo m ↔ lo <= k /\ k < m := by
  unfold rg
  rw [xbh]
  constructor
  · rintro ⟨i, hi, rfl⟩
    have := xa2.mp hi
    omega
  · rintro ⟨h1, h2⟩
    exact ⟨k - lo, xa2.mpr (by omega), by omega⟩
theorem rngD_rg (lo m : Nat) : rngD (lo : Int) ((m : Int) - (lo : Int)).toNat = (rg lo m).map fun k : Nat => D.int (k : Int) := by
  unfold rngD rg
  rw [xch, show ((m : Int) - (lo : Int)).toNat = m - lo by omega]
  congr 1
theorem find_rg {i : Nat} {fb : DSt -> R Out} (I : DSt -> Prop) (g : Nat -> Option D) : ∀ (ks : List Nat), (∀ k ∈ ks, ∀ Z, I Z -> (∃ v, g k = some v /\ fb (Z.set i (some (.int (k : Int)))) = .ok (.rt v)) \/ (g k = none /\ ∃ Z', fb (Z.set i (some (.int (k : Int)))) = .ok (.nx Z') /\ I Z')) -> ∀ Z, I Z ->
    (∃ v, ks.findSome? g = some v /\ forL [i] gpOne fb (ks.map fun k : Nat => .int (k : Int)) Z = .ok (.rt v)) \/ (ks.findSome? g = none /\ ∃ Z', forL [i] gpOne fb (ks.map fun k : Nat => .int (k : Int)) Z = .ok (.nx Z') /\ I Z')
  | [], _, Z, h => .inr ⟨rfl, Z, rfl, h⟩
  | k :: ks, hs, Z, h => by
    rw [xa9, forL_one, List.findSome?_cons]
    rcases hs k (by simp) Z h with ⟨v, e1, e2⟩ | ⟨e1, Z', e2, h'⟩
    · rw [e1, e2]; exact .inl ⟨v, rfl, rfl⟩
    · rw [e1, e2, turnK_nx]
      exact find_rg I g ks (fun k hk => hs k (by simp [hk])) Z' h'
structure Fl (ps : List P3) : Prop where
  pts : Pts 24 ps
  nd : ps.Nodup
  one : 1 <= ps.length
  most : ps.length <= 12
def pk (ps : List P3) (k : Nat) : P3 := ps.getD k (0, 0, 1)
theorem pk_get {ps : List P3} {k : Nat} (h : k < ps.length) : ps[k]? = some (pk ps k) := by simp [pk, h]
theorem pk_mem {ps : List P3} {k : Nat} (h : k < ps.length) : pk ps k ∈ ps := xbc (pk_get h)
theorem Fl.ix {ps : List P3} {k : Nat} (h : k < ps.length) : gIx (.lst (ps.map ptD)) (.int (k : Int)) = .ok (ptD (pk ps k)) := gIx_nat (by rw [xbt, pk_get h]; rfl)
end LmJ
open L2 DL Mir
namespace Lk43
open Mth LmP LmA LmD LmE LmF
end Lk43
open L2 DL Mir
namespace Lk44
open Mth LmP LmA LmD LmB LmE LmF LmH Lk43
end Lk44
open L2 DL Mir
namespace LmK
open Mth LmP LmA LmD LmB LmE LmF LmH LmI LmJ
end LmK
open L2 DL Mir
namespace Lk12
open Mth LmP LmA LmD LmB LmE LmF LmH LmI LmJ LmK
theorem ne_same {d : D} (h : datN 9 d = true) : gNe d d = .ok (.bl false) := by
  rw [gNe_of (by unfold cmp2; rw [h]; rfl), eqD_refl 9 _ h]; rfl
end Lk12
open L2 DL Mir
namespace LmL
open Mth LmP LmA LmD LmB LmE LmF LmH LmI LmJ LmK
end LmL
open L2 DL Mir
namespace LmC
open Mth LmP LmA LmD LmB
end LmC
open L2 DL Mir
namespace LmM
open Mth LmP LmA LmD LmB LmE LmF LmH LmI LmJ LmK LmL
theorem pow6 : gPow (.int 10) (.int 6) = .ok (.int 1000000) := rfl
theorem pow18 : gPow (.int 10) (.int 18) = .ok (.int 1000000000000000000) := rfl
theorem mod6 (x : Int) : gMod (.int x) (.int 1000000) = .ok (.int (x % 1000000)) := gMod_pos x 1000000 (by decide)
theorem gcd_w (n m : Nat) (x y z l : Option D) : sWhile b_law_lowest_v1_1fc b_law_lowest_v1_1fw [x, y, z, some (.int (m : Int)), some (.int (n : Int)), l] = .ok (.nx [x, y, z, some (.int ((Nat.gcd m n : Nat) : Int)), some (.int 0), l]) := by
  induction n using Nat.strongRecOn generalizing m with
  | _ n ih =>
    by_cases hn : n = 0
    · subst hn
      rw [sWhile_f (by unfold b_law_lowest_v1_1fc; kd_p; rfl), Nat.gcd_zero_right]; rfl
    · have hlt : m % n < n := xcj _ (by omega)
      have h := ih (m % n) hlt n
      rw [sWhile_t (Z' := [x, y, z, some (.int (n : Int)), some (.int ((m % n : Nat) : Int)), l]) ?_ ?_, h, Mth.gcd_step]
      · unfold b_law_lowest_v1_1fc; kd_p
        rw [decide_eq_false (by omega)]; rfl
      · unfold b_law_lowest_v1_1fw; kd_p
        rw [gMod_pos _ _ (by omega)]
        kd_p
        rfl
theorem low3 {n : Nat} {p : P3} (h : BP n p) (hz : Nz p) (hn : n <= 9000) : m_law_lowest_v1 [.int p.1, .int p.2.1, .int p.2.2] = .ok (ptD (low p)) := by
  have hd := divB_low h.x h.y h.z hz hn
  show _ = R.ok (lowD p.1 p.2.1 p.2.2)
  rw [m_law_lowest_v1_go]; unfold b_law_lowest_v1; kd_p
  unfold b_law_lowest_v1_1; kd_p
  unfold b_law_lowest_v1_1f
  rw [gcd_w]; kd_p
  rw [gcd_w]; kd_p
  unfold b_law_lowest_v1_2; kd_p
  rw [last_of p.1 p.2.1 p.2.2 hz]; kd_p
  unfold b_law_lowest_v1_3; kd_p
  rcases lowS_cases p.1 p.2.1 p.2.2 with ⟨hl, hs⟩ | ⟨hl, hs⟩
  · rw [decide_eq_true hl]; kd_p
    unfold b_law_lowest_v1_4; kd_p
    rw [show 0 - (((Nat.gcd (Nat.gcd p.1.natAbs p.2.1.natAbs) p.2.2.natAbs : Nat)) : Int) = lowS p.1 p.2.1 p.2.2 from by rw [hs, xcy]; rfl, gFdiv_ii _ _ hd, gFdiv_ii _ _ hd, gFdiv_ii _ _ hd]
    kd_p
  · rw [decide_eq_false hl]; kd_p
    unfold b_law_lowest_v1_4; kd_p
    rw [show (((Nat.gcd (Nat.gcd p.1.natAbs p.2.1.natAbs) p.2.2.natAbs : Nat)) : Int) = lowS p.1 p.2.1 p.2.2 from hs.symm, gFdiv_ii _ _ hd, gFdiv_ii _ _ hd, gFdiv_ii _ _ hd]
    kd_p
end LmM
open L2 DL Mir
namespace Lk02
open Mth LmP LmA LmD LmB LmC
end Lk02
open L2 DL Mir
namespace LmQ
open Mth LmP LmA LmD LmB LmE LmF LmH LmI LmJ LmK
theorem acc_mem (keys : Nat -> List Int) : ∀ (n : Nat) (ks : List Int), ks ∈ accK keys n ↔ ∃ j, j < n /\ keys j = ks
  | 0, ks => ⟨(fun h => by cases h), (fun ⟨j, h, _⟩ => absurd h (by omega))⟩
  | n + 1, ks => by
    show ks ∈ addK (accK keys n) (keys n) ↔ _
    have ih := acc_mem keys n
    have e : ks ∈ addK (accK keys n) (keys n) ↔ ks ∈ accK keys n \/ ks = keys n := by
      unfold addK
      split
      · rename_i hin
        exact ⟨.inl, fun h => h.elim id fun z => by rw [z]; exact hin⟩
      · rw [xap]; exact ⟨fun h => h.elim .inr .inl, fun h => h.elim .inr .inl⟩
    rw [e, ih]
    constructor
    · rintro (⟨j, h1, h2⟩ | h)
      · exact ⟨j, by omega, h2⟩
      · exact ⟨n, by omega, h.symm⟩
    · rintro ⟨j, h1, h2⟩
      by_cases z : j = n
      · subst z; exact .inr h2.symm
      · exact .inl ⟨j, by omega, h2⟩
theorem acc_le (keys : Nat -> List Int) : ∀ n : Nat, (accK keys n).length <= n
  | 0 => xai _
  | n + 1 => by
    have := acc_le keys n
    show (addK (accK keys n) (keys n)).length <= _
    unfold addK; split
    · omega
    · rw [xaq]; omega
theorem acc_all (keys : Nat -> List Int) : ∀ n : Nat, (∀ i j, i < j -> j < n -> keys i ≠ keys j) -> (accK keys n).length = n
  | 0, _ => rfl
  | n + 1, h => by
    have ih := acc_all keys n fun i j h1 h2 => h i j h1 (by omega)
    show (addK (accK keys n) (keys n)).length = _
    unfold addK
    rw [if_neg, xaq, ih]
    rw [acc_mem]
    rintro ⟨j, h1, h2⟩
    exact h j n h1 (by omega) h2
theorem acc_dup (keys : Nat -> List Int) : ∀ (n i j : Nat), i < j -> j < n -> keys i = keys j -> (accK keys n).length < n
  | 0, i, j, _, h, _ => absurd h (by omega)
  | n + 1, i, j, h1, h2, h3 => by
    have l := acc_le keys n
    show (addK (accK keys n) (keys n)).length < _
    by_cases z : j = n
    · subst z
      unfold addK
      rw [if_pos ((acc_mem keys j _).mpr ⟨i, h1, h3⟩)]; omega
    · have := acc_dup keys n i j h1 (by omega) h3
      unfold addK; split
      · omega
      · rw [xaq]; omega
theorem keyAt {ps : List P3} {k : Nat} (h : k < ps.length) : (ps.map key).getD k [] = key (pk ps k) := by
  rw [List.getD_eq_getElem?_getD, xbt, pk_get h]; rfl
theorem accL_nd {ps : List P3} (nd : ps.Nodup) : (accL (ps.map key)).length = ps.length := by
  unfold accL
  rw [acc_all, xab]
  intro i j h1 h2
  rw [xab] at h2
  rw [keyAt (by omega), keyAt h2]
  intro e
  have e := key_inj e
  have a1 := pk_get (ps := ps) (k := i) (by omega)
  have a2 := pk_get h2
  rw [e, <- a2] at a1
  exact absurd ((List.getElem?_inj (by omega) nd).mp a1) (by omega)
theorem accL_dup {ps : List P3} {i j : Nat} (h1 : i < j) (h2 : j < ps.length) (e : pk ps i = pk ps j) : (accL (ps.map key)).length < ps.length := by
  unfold accL
  rw [xab]
  exact acc_dup _ _ i j h1 h2 (by rw [keyAt (by omega), keyAt h2, e])
theorem eSetLenU_def (f : DSt -> R D) (Z : DSt) : eSetLenU f Z = (f Z).bind setLenU := rfl
theorem setlenU_ok {ps : List P3} (h4 : (accL (ps.map key)).length <= 18) : setLenU (.lst (ps.map ptD)) = .ok (.int (accL (ps.map key)).length) := by
  show (match keysOf (ps.map ptD) with | some kss => (bif Nat.ble (accL kss).length 18 then R.ok (D.int (accL kss).length) else .bad) | none => .bad) = _
  rw [keys_pts]
  show (bif Nat.ble (accL (ps.map key)).length 18 then R.ok (D.int (accL (ps.map key)).length) else .bad) = _
  rw [show Nat.ble (accL (ps.map key)).length 18 = true from by rw [Nat.ble_eq]; omega]; rfl
theorem accL_le (kss : List (List Int)) : (accL kss).length <= kss.length := acc_le _ _
theorem is_floor_q {n : Nat} {ps : List P3} (h : Pts n ps) (hn : n <= 1000) (h1 : 1 <= ps.length) (h12 : ps.length <= 12) : m_is_floor_v1 [.lst (ps.map ptD)] = .ok (.bl (decide (((accL (ps.map key)).length : Int) = (ps.length : Int)))) := by
  rw [m_is_floor_v1_go]; unfold b_is_floor_v1; kd_p
  rw [show k_MOST_PEGS = .int 12 from rfl]; kd_p
  rw [xab, show (decide (1 <= (ps.length : Int)) && decide ((ps.length : Int) <= 12)) = true from by rw [decide_eq_true (by omega), decide_eq_true (by omega)]; rfl]; kd_p
  unfold b_is_floor_v1_1; kd_p
  rw [lc_mapP (g := fun _ => .bl true) (by omega) (fun p hp => ?_)]
  · kd_p
    rw [show ps.map (fun _ => D.bl true) = (ps.map fun _ => true).map D.bl from by rw [xch]; rfl, gAll_bls, show (ps.map fun _ => true).all id = true from by rw [List.all_map, xa0]; intro _ _; rfl]; kd_p
    unfold b_is_floor_v1_2; kd_p
    rw [eSetLenU_def]; kd_p
    rw [show (R.ok (D.lst (ps.map ptD))).bind setLenU = .ok (.int (accL (ps.map key)).length) from setlenU_ok (by have := accL_le (ps.map key); rw [xab] at this; omega), xab]; kd_p
  · kd_p
    exact is_place_nrm (h.bd p hp) (h.nrm p hp) (by omega)
theorem floor_dup {N : Nat} {ps : List P3} (h : Pts N ps) (h5 : ps.length <= 12) {i j : Nat} (h1 : i < j) (h2 : j < ps.length) (e : pk ps i = pk ps j) (hN : N <= 900 := by decide) : m_is_floor_v1 [.lst (ps.map ptD)] = .ok (.bl false) := by
  have := accL_dup h1 h2 e
  rw [is_floor_q h (by omega) (by omega) (by omega), decide_eq_false (by omega)]
end LmQ
open L2 DL Mir
namespace LmS
open Mth LmP LmA LmD LmB LmE LmF LmH LmI LmJ LmK LmM LmQ
def Dd (ds : List Int) : Prop := ∀ d ∈ ds, 0 <= d
theorem Dd.snoc {ds : List Int} {d : Int} (h : Dd ds) (hd : 0 <= d) : Dd (ds ++ [d]) := fun e he => by
  rcases xbe.mp he with he | he
  · exact h e he
  · rw [xbi.mp he]; exact hd
def dg (ds : List Int) (k : Nat) : Int := ds.getD k 0
theorem dg_get {ds : List Int} {k : Nat} (h : k < ds.length) : ds[k]? = some (dg ds k) := by simp [dg, h]
theorem ixd {ds : List Int} {k : Nat} (h : k < ds.length) : gIx (.lst (ds.map .int)) (.int (k : Int)) = .ok (.int (dg ds k)) := gIx_nat (by rw [xbt, dg_get h]; rfl)
theorem eSl_mid (fe f g : DSt -> R D) (Z : DSt) (ds : List D) (a b : Nat) (h1 : fe Z = .ok (.lst ds)) (h2 : f Z = .ok (.int (a : Int))) (h3 : g Z = .ok (.int (b : Int))) (hb : b <= ds.length) (hab : a <= b) : eSl fe (oSome f) (oSome g) Z = .ok (.lst ((ds.drop a).take (b - a))) := by
  unfold eSl oSome
  rw [h1, h2, h3]
  show R.ok (D.lst (cutD ds (some (a : Int)) (some (b : Int)))) = _
  unfold cutD
  rw [HT.sIx_nat, HT.sIx_nat, Nat.min_eq_left hb, Nat.min_eq_left (by omega)]
theorem sl_ints (ds : List Int) (a n : Nat) : ((ds.map D.int).drop a).take n = ((ds.drop a).take n).map D.int := by rw [List.map_take, List.map_drop]
theorem rng_rg (n : Nat) (hn : n <= 1000) : rng1 [.int (n : Int)] = .ok ((rg 0 n).map fun k : Nat => D.int (k : Int)) := by
  rw [rng1_i _ (rOk_of (by omega) (by omega)), show rngD 0 (n : Int).toNat = (rg 0 n).map fun k : Nat => D.int (k : Int) from by have := rngD_rg 0 n; simpa using this]
theorem numbers_ok (c : Int) (many : Nat) (hm : many <= 100) : ∃ ds : List Int, m_law_numbers_v1 [.int c, .int (many : Int)] = .ok (.lst (ds.map .int)) /\ ds.length = many /\ Dd ds := by
  rw [m_law_numbers_v1_go]; unfold b_law_numbers_v1; kd_p
  obtain ⟨N, hN, n0⟩ : ∃ N : Int, max c (-1 - c) = N /\ 0 <= N := ⟨_, rfl, by omega⟩
  rw [hN]
  unfold b_law_numbers_v1_1; kd_p
  unfold b_law_numbers_v1_2; kd_p
  unfold b_law_numbers_v1_3; kd_p
  rw [rng_rg many (by omega)]; kd_p
  have turn : ∀ (j : Nat) (d : D) (Z : DSt), ((rg 0 many).map fun k : Nat => D.int (k : Int))[j]? = some d -> (∃ es l x y, Z = [some (.int c), some (.int (many : Int)), some (.int N), some (.int l), some (.lst (es.map D.int)), x, y] /\ es.length = j /\ Dd es /\ 0 <= l) -> ∃ Z', (b_law_numbers_v1_3f (Z.set 5 (some d)) = .ok (.nx Z') \/ b_law_numbers_v1_3f (Z.set 5 (some d)) = .ok (.ct Z')) /\ ∃ es l x y, Z' = [some (.int c), some (.int (many : Int)), some (.int N), some (.int l), some (.lst (es.map D.int)), x, y] /\ es.length = j + 1 /\ Dd es /\ 0 <= l := by
    rintro j d Z hd ⟨es, l, x, y, rfl, h1, h2, h3⟩
    obtain ⟨i, hi, rfl⟩ := xbh.mp (xbc hd)
    have hi := (mem_rg.mp hi).2
    have hj : j < many := by
      have := (xae.mp hd).1
      rw [xab] at this
      unfold rg at this
      simpa using this
    rw [show List.set _ 5 _ = [some (.int c), some (.int (many : Int)), some (.int N), some (.int l), some (.lst (es.map D.int)), some (.int (i : Int)), y] from rfl]
    have els : ∃ Z', (b_law_numbers_v1_3fe [some (.int c), some (.int (many : Int)), some (.int N), some (.int l), some (.lst (es.map D.int)), some (.int (i : Int)), y] = .ok (.nx Z') \/ b_law_numbers_v1_3fe [some (.int c), some (.int (many : Int)), some (.int N), some (.int l), some (.lst (es.map D.int)), some (.int (i : Int)), y] = .ok (.ct Z')) /\ ∃ es l x y, Z' = [some (.int c), some (.int (many : Int)), some (.int N), some (.int l), some (.lst (es.map D.int)), x, y] /\ es.length = j + 1 /\ Dd es /\ 0 <= l := by
      have bi : B 7 (i : Int) := B.of (k := 100) (by omega)
      have b101 : B 7 101 := B.of (k := 101) (by decide)
      unfold b_law_numbers_v1_3fe; kd_p
      rw [gMul_ii 101 _ (by decide) (mulB_n bi (by decide))]; kd_p
      rw [gMul_ii (101 * (i : Int)) _ (mulB_n (b101.mul bi) (by decide)) (mulB_n bi (by decide))]; kd_p
      rw [gMod_pos _ _ (by decide)]; kd_p
      have w0 := xbr (N + 101 * (i : Int) * (i : Int) + (i : Int)) (show (2147483647 : Int) ≠ 0 by decide)
      have w1 := xbw (N + 101 * (i : Int) * (i : Int) + (i : Int)) (show (0 : Int) < 2147483647 by decide)
      generalize (N + 101 * (i : Int) * (i : Int) + (i : Int)) % 2147483647 = u at w0 w1
      rw [gMul_ii u 48271 (mulB_n (n := 31) (B.of (k := 2147483647) (by omega)) (by decide)) (by decide)]; kd_p
      rw [gMod_pos _ _ (by decide)]; kd_p
      have v0 := xbr (u * 48271) (show (2147483647 : Int) ≠ 0 by decide)
      have v1 := xbw (u * 48271) (show (0 : Int) < 2147483647 by decide)
      generalize (u * 48271) % 2147483647 = v at v0 v1
      have bv : mulB v = true := mulB_n (n := 31) (B.of (k := 2147483647) (by omega)) (by decide)
      unfold b_law_numbers_v1_3fe_1; kd_p
      rw [gMul_ii v v bv bv]; kd_p
      rw [gMod_pos _ _ (by decide)]; kd_p
      have t0 := xbr (v * v) (show (2147483629 : Int) ≠ 0 by decide)
      have t1 := xbw (v * v) (show (0 : Int) < 2147483629 by decide)
      generalize (v * v) % 2147483629 = t at t0 t1
      rw [gMul_ii t 48271 (mulB_n (n := 31) (B.of (k := 2147483647) (by omega)) (by decide)) (by decide)]; kd_p
      rw [gMod_pos _ _ (by decide)]
      rw [appK_ok _ _ _ _ (by rw [xab]; omega)]; kd_p
      exact ⟨_, .inl rfl, es ++ [_], l, _, _, by rw [xbj]; rfl, by simp; omega, h2.snoc (xbr _ (by decide)), h3⟩
    unfold b_law_numbers_v1_3f; kd_p
    rw [pow18]; kd_p
    by_cases hN18 : 1000000000000000000 <= N
    · rw [decide_eq_true hN18]; kd_p
      by_cases hl : 0 < l
      · rw [decide_eq_true hl]; kd_p
        unfold b_law_numbers_v1_3ft; kd_p
        rw [pow6]
        rw [opK_ok, mod6]
        rw [appK_ok _ _ _ _ (by rw [xab]; omega)]; kd_p
        unfold b_law_numbers_v1_3ft_1; kd_p
        rw [pow6]; kd_p
        rw [show gFdiv (.int l) (.int 1000000) = .ok (.int (l / 1000000)) from gFdiv_pos l 1000000 (by decide) (by decide)]; kd_p
        exact ⟨_, .inl rfl, es ++ [_], _, _, _, by rw [xbj]; rfl, by simp; omega, h2.snoc (xbr _ (by decide)), Int.ediv_nonneg h3 (by decide)⟩
      · rw [decide_eq_false hl]; kd_p
        exact els
    · rw [decide_eq_false hN18]; kd_p
      exact els
  obtain ⟨Z', e, es, l, x, y, rfl, h1, h2, _⟩ := forL_nth (i := 5) (fb := b_law_numbers_v1_3f) (fun j Z => ∃ es l x y, Z = [some (.int c), some (.int (many : Int)), some (.int N), some (.int l), some (.lst (es.map D.int)), x, y] /\ es.length = j /\ Dd es /\ 0 <= l) _ turn [some (.int c), some (.int (many : Int)), some (.int N), some (.int N), some (.lst []), none, none] ⟨[], N, none, none, rfl, rfl, (fun d hd => by cases hd), n0⟩
  rw [e]; kd_p
  unfold b_law_numbers_v1_4; kd_p
  refine ⟨es, rfl, ?_, h2⟩
  rw [h1, xab]; unfold rg; simp
theorem place_ok {ds : List Int} (hl : ds.length = 4) : ∃ p, m_law_place_v4 [.lst (ds.map .int)] = .ok (ptD p) /\ Nrm p /\ BP 24 p := by
  have go : ∀ (most w : Int), gIx (.lst [.int 2, .int 5, .int 1000]) (.int (dg ds 3 % 3)) = .ok (.int most) -> 2 * most + 1 = w -> 0 < w -> w <= 2001 -> 0 <= most -> ∃ p, m_law_place_v4 [.lst (ds.map .int)] = .ok (ptD p) /\ Nrm p /\ BP 24 p := by
    intro most w he hw w0 w1 m0
    have mm : mulB most = true := mulB_n (n := 24) (B.of (k := 2001) (by omega)) (by decide)
    rw [m_law_place_v4_go]; unfold b_law_place_v4; kd_p
    rw [show gIx (.lst (ds.map .int)) (.int 3) = _ from ixd (k := 3) (by omega)]; kd_p
    rw [gMod_pos _ _ (by decide)]; kd_p
    rw [he]; kd_p
    unfold b_law_place_v4_1; kd_p
    rw [show gIx (.lst (ds.map .int)) (.int 0) = _ from ixd (k := 0) (by omega), gMul_ii 2 most (by decide) mm]; kd_p
    rw [hw, gMod_pos _ _ w0]; kd_p
    unfold b_law_place_v4_2; kd_p
    rw [show gIx (.lst (ds.map .int)) (.int 1) = _ from ixd (k := 1) (by omega), gMul_ii 2 most (by decide) mm]; kd_p
    rw [hw, gMod_pos _ _ w0]; kd_p
    unfold b_law_place_v4_3; kd_p
    rw [show gIx (.lst (ds.map .int)) (.int 2) = _ from ixd (k := 2) (by omega), gMul_ii 2 most (by decide) mm]; kd_p
    rw [hw, gMod_pos _ _ w0]; kd_p
    have rng : ∀ e : Int, -2001 <= e % w - most /\ e % w - most <= 2001 := fun e => by
      have x0 := xbr e (show w ≠ 0 by omega)
      have x1 := xbw e w0
      omega
    have hx := rng (dg ds 0)
    have hy := rng (dg ds 1)
    have hz := rng (dg ds 2)
    generalize dg ds 0 % w - most = x at hx
    generalize dg ds 1 % w - most = y at hy
    generalize dg ds 2 % w - most = z at hz
    unfold b_law_place_v4_4; kd_p
    have bp : ∀ z : Int, -2001 <= z /\ z <= 2001 -> BP 24 (x, y, z) := fun z hz => ⟨B.of (k := 2001) (by show x.natAbs <= 2001; omega), B.of (k := 2001) (by show y.natAbs <= 2001; omega), B.of (k := 2001) (by show z.natAbs <= 2001; omega)⟩
    have fin : ∀ z : Int, -2001 <= z /\ z <= 2001 -> Nz (x, y, z) -> ∃ p, fin (b_law_place_v4_5 [some (.lst (ds.map .int)), some (.int most), some (.int x), some (.int y), some (.int z)]) = .ok (ptD p) /\ Nrm p /\ BP 24 p := fun z hz nz => by
      refine ⟨low (x, y, z), ?_, low_nrm nz, (bp z hz).low nz⟩
      unfold b_law_place_v4_5; kd_p
      rw [low3 (p := (x, y, z)) (bp z hz) nz (by decide)]; kd_p
    by_cases h1 : x = 0
    · rw [decide_eq_true h1]; kd_p
      by_cases h2 : y = 0
      · rw [decide_eq_true h2]; kd_p
        by_cases h3 : z = 0
        · rw [decide_eq_true h3]; kd_p
          exact fin 1 (by omega) (fun q => absurd (show (1 : Int) = 0 from q.2.2) (by decide))
        · rw [decide_eq_false h3]; kd_p
          exact fin z hz fun q => h3 q.2.2
      · rw [decide_eq_false h2]; kd_p
        exact fin z hz fun q => h2 q.2.1
    · rw [decide_eq_false h1]; kd_p
      exact fin z hz fun q => h1 q.1
  rcases (show dg ds 3 % 3 = 0 \/ dg ds 3 % 3 = 1 \/ dg ds 3 % 3 = 2 by omega) with z | z | z
  · exact go 2 5 (by rw [z]; rfl) (by decide) (by decide) (by decide) (by decide)
  · exact go 5 11 (by rw [z]; rfl) (by decide) (by decide) (by decide) (by decide)
  · exact go 1000 2001 (by rw [z]; rfl) (by decide) (by decide) (by decide) (by decide)
theorem law_dot_l {m n : Nat} {p q : P3} (hp : BP m p) (hq : BP n q) (hm : m <= 4000) (hn : n <= 4000) : m_law_dot [ptL p, ptD q] = .ok (.int (dot p q)) := by
  rw [m_law_dot_go]; unfold b_law_dot; kd_p
  rw [gMul_ii _ _ (mulB_n hp.x (by omega)) (mulB_n hq.x (by omega)), gMul_ii _ _ (mulB_n hp.y (by omega)) (mulB_n hq.y (by omega)), gMul_ii _ _ (mulB_n hp.z (by omega)) (mulB_n hq.z (by omega))]; kd_p
  rfl
theorem det_of {n : Nat} {x y z : P3} (hx : BP n x) (hy : BP n y) (hz : BP n z) (hn : n <= 3000) {dx dy dz : D} (h : (dx = ptD x /\ dy = ptD y /\ dz = ptD z) \/ (dx = ptL x /\ dy = ptL y /\ dz = ptL z)) : m_law_det_v2 [dx, dy, dz] = .ok (.int (det3 x y z)) := by
  have m1 : ∀ {i : Int}, B n i -> mulB i = true := fun h => mulB_n h (by omega)
  have m2 : ∀ {a b c d : Int}, B n a -> B n b -> B n c -> B n d -> mulB (a * b - c * d) = true := fun ha hb hc hd => mulB_n ((ha.mul hb).sub (hc.mul hd)) (by omega)
  have e1 := gMul_ii _ _ (m1 hy.y) (m1 hz.z)
  have e2 := gMul_ii _ _ (m1 hy.z) (m1 hz.y)
  have e3 := gMul_ii _ _ (m1 hy.x) (m1 hz.z)
  have e4 := gMul_ii _ _ (m1 hy.z) (m1 hz.x)
  have e5 := gMul_ii _ _ (m1 hy.x) (m1 hz.y)
  have e6 := gMul_ii _ _ (m1 hy.y) (m1 hz.x)
  have f1 := gMul_ii _ _ (m1 hx.x) (m2 hy.y hz.z hy.z hz.y)
  have f2 := gMul_ii _ _ (m1 hx.y) (m2 hy.x hz.z hy.z hz.x)
  have f3 := gMul_ii _ _ (m1 hx.z) (m2 hy.x hz.y hy.y hz.x)
  have fin : x.1 * (y.2.1 * z.2.2 - y.2.2 * z.2.1) - x.2.1 * (y.1 * z.2.2 - y.2.2 * z.1) + x.2.2 * (y.1 * z.2.1 - y.2.1 * z.1) = det3 x y z := by unfold det3 dot crs; grind
  rw [m_law_det_v2_go]
  rcases h with ⟨rfl, rfl, rfl⟩ | ⟨rfl, rfl, rfl⟩
  · unfold b_law_det_v2; kd_p
    unfold b_law_det_v2_1; kd_p
    unfold b_law_det_v2_2; kd_p
    rw [e1, e2]; kd_p
    rw [f1]; kd_p
    unfold b_law_det_v2_3; kd_p
    rw [e3, e4]; kd_p
    rw [f2]; kd_p
    unfold b_law_det_v2_4; kd_p
    rw [e5, e6]; kd_p
    rw [f3]; kd_p
    rw [fin]
  · unfold b_law_det_v2; kd_p
    unfold b_law_det_v2_1; kd_p
    unfold b_law_det_v2_2; kd_p
    rw [e1, e2]; kd_p
    rw [f1]; kd_p
    unfold b_law_det_v2_3; kd_p
    rw [e3, e4]; kd_p
    rw [f2]; kd_p
    unfold b_law_det_v2_4; kd_p
    rw [e5, e6]; kd_p
    rw [f3]; kd_p
    rw [fin]
abbrev rowsD (m : M3) : D := .lst [ptL m.1, ptL m.2.1, ptL m.2.2]
theorem change_ok {ds : List Int} (hd : Dd ds) (hl : ds.length = 10) : ∃ m, m_law_change [.lst (ds.map .int)] = .ok (rowsD m) /\ det m ≠ 0 /\ BM 6 m := by
  have go : ∀ (most w : Int), gIx (.lst [.int 1, .int 2, .int 30]) (.int (dg ds 9 % 3)) = .ok (.int most) -> 2 * most + 1 = w -> 0 < w -> w <= 61 -> 0 <= most -> ∃ m, m_law_change [.lst (ds.map .int)] = .ok (rowsD m) /\ det m ≠ 0 /\ BM 6 m := by
    intro most w he hw w0 w1 m0
    have mm : mulB most = true := mulB_n (n := 24) (B.of (k := 61) (by omega)) (by decide)
    have b6 : ∀ e : Int, B 6 (e % w - most) := fun e => by
      have x0 := xbr e (show w ≠ 0 by omega)
      have x1 := xbw e w0
      exact B.of (k := 61) (by omega)
    have f : ∀ k : Nat, ∃ x, x = dg ds k % w - most := fun k => ⟨_, rfl⟩
    have row : ∀ (j : Nat) (rs : List D) (x : Option D), j < 3 -> rs.length <= 10 -> b_law_change_2f [some (.lst (ds.map .int)), some (.int most), some (.lst rs), some (.int (j : Int)), x] = .ok (.nx [some (.lst (ds.map .int)), some (.int most), some (.lst (rs ++ [ptL (dg ds (3 * j) % w - most, dg ds (3 * j + 1) % w - most, dg ds (3 * j + 2) % w - most)])), some (.int (j : Int)), some (.lst [.int (dg ds (3 * j)), .int (dg ds (3 * j + 1)), .int (dg ds (3 * j + 2))])]) := by
      intro j rs x hj hr
      have one : ∀ (k : Nat) (y0 : Option D), k < 3 -> (eOp gIx (eVar 1) (eOp gAdd (eOp gMul (eC (.int 3)) (eVar 4)) (eVar 0))) [some (.int (k : Int)), some (.lst (ds.map .int)), some (.int most), y0, some (.int (j : Int)), x] = .ok (.int (dg ds (3 * j + k))) := fun k y0 hk => by
        kd_p
        rw [gMul_ii 3 (j : Int) (by decide) (mulB_n (n := 4) (B.of (k := 3) (by omega)) (by decide))]; kd_p
        rw [show (3 * (j : Int) + (k : Int)) = ((3 * j + k : Nat) : Int) by omega]
        exact ixd (by omega)
      unfold b_law_change_2f; kd_p
      rw [show rng1 [.int 3] = .ok [.int ((0 : Nat) : Int), .int ((1 : Nat) : Int), .int ((2 : Nat) : Int)] from rfl, lc_3 (one 0 _ (by decide)) (one 1 _ (by decide)) (one 2 _ (by decide))]; kd_p
      unfold b_law_change_2f_1; kd_p
      have two : ∀ (e : Int) (y0 y1 : Option D), (eOp gSub (eOp gMod (eVar 0) (eOp gAdd (eOp gMul (eC (.int 2)) (eVar 2)) (eC (.int 1)))) (eVar 2)) [some (.int e), some (.lst (ds.map .int)), some (.int most), y0, some (.int (j : Int)), y1] = .ok (.int (e % w - most)) := fun e y0 y1 => by
        kd_p
        rw [gMul_ii 2 most (by decide) mm]; kd_p
        rw [hw, gMod_pos _ _ w0]; kd_p
      rw [lc_3 (two _ _ _) (two _ _ _) (two _ _ _)]; kd_p
      rw [appK_ok _ _ _ _ (by omega)]; kd_p
      rfl
    rw [m_law_change_go]; unfold b_law_change; kd_p
    rw [show gIx (.lst (ds.map .int)) (.int 9) = _ from ixd (k := 9) (by omega)]; kd_p
    rw [gMod_pos _ _ (by decide)]; kd_p
    rw [he]; kd_p
    unfold b_law_change_1; kd_p
    unfold b_law_change_2; kd_p
    rw [show rng1 [.int 3] = .ok [.int ((0 : Nat) : Int), .int ((1 : Nat) : Int), .int ((2 : Nat) : Int)] from rfl]; kd_p
    rw [row 0 _ _ (by decide) (by simp)]; kd_p
    rw [row 1 _ _ (by decide) (by simp)]; kd_p
    rw [row 2 _ _ (by decide) (by simp)]; kd_p
    unfold b_law_change_3
    obtain ⟨m, hm⟩ : ∃ m : M3, m = ((dg ds (3 * 0) % w - most, dg ds (3 * 0 + 1) % w - most, dg ds (3 * 0 + 2) % w - most), (dg ds (3 * 1) % w - most, dg ds (3 * 1 + 1) % w - most, dg ds (3 * 1 + 2) % w - most), (dg ds (3 * 2) % w - most, dg ds (3 * 2 + 1) % w - most, dg ds (3 * 2 + 2) % w - most)) := ⟨_, rfl⟩
    have bm : BM 6 m := by rw [hm]; exact ⟨⟨b6 _, b6 _, b6 _⟩, ⟨b6 _, b6 _, b6 _⟩, ⟨b6 _, b6 _, b6 _⟩⟩
    rw [show ([] ++ [ptL (dg ds (3 * 0) % w - most, dg ds (3 * 0 + 1) % w - most, dg ds (3 * 0 + 2) % w - most)] ++ [ptL (dg ds (3 * 1) % w - most, dg ds (3 * 1 + 1) % w - most, dg ds (3 * 1 + 2) % w - most)] ++ [ptL (dg ds (3 * 2) % w - most, dg ds (3 * 2 + 1) % w - most, dg ds (3 * 2 + 2) % w - most)]) = [ptL m.1, ptL m.2.1, ptL m.2.2] from by rw [hm]; rfl]
    kd_p
    rw [det_of bm.a bm.b bm.c (by decide) (.inr ⟨rfl, rfl, rfl⟩)]; kd_p
    by_cases hz : det3 m.1 m.2.1 m.2.2 = 0
    · rw [decide_eq_true hz]; kd_p
      rw [show gIx (.lst (ds.map .int)) (.int 0) = _ from ixd (k := 0) (by omega), show gIx (.lst (ds.map .int)) (.int 1) = _ from ixd (k := 1) (by omega), show gIx (.lst (ds.map .int)) (.int 2) = _ from ixd (k := 2) (by omega), show gIx (.lst (ds.map .int)) (.int 4) = _ from ixd (k := 4) (by omega)]; kd_p
      rw [gMod_pos _ _ (by decide), gMod_pos _ _ (by decide), gMod_pos _ _ (by decide), gMod_pos _ _ (by decide)]; kd_p
      refine ⟨((1, dg ds 0 % 7, dg ds 1 % 5), (0, 1, dg ds 2 % 9), (0, 0, 1 + dg ds 4 % 4)), rfl, ?_, ⟨B.of (k := 61) (by show (1 : Int).natAbs <= 61; decide), B.of (k := 61) (by show (dg ds 0 % 7).natAbs <= 61; omega), B.of (k := 61) (by show (dg ds 1 % 5).natAbs <= 61; omega)⟩, ⟨B.of (k := 61) (by show (0 : Int).natAbs <= 61; decide), B.of (k := 61) (by show (1 : Int).natAbs <= 61; decide), B.of (k := 61) (by show (dg ds 2 % 9).natAbs <= 61; omega)⟩, ⟨B.of (k := 61) (by show (0 : Int).natAbs <= 61; decide), B.of (k := 61) (by show (0 : Int).natAbs <= 61; decide), B.of (k := 61) (by show (1 + dg ds 4 % 4).natAbs <= 61; omega)⟩⟩
      unfold det dot crs
      simp only [Int.one_mul, Int.zero_mul, xbq, Int.sub_zero, Int.add_zero]
      omega
    · rw [decide_eq_false hz]; kd_p
      unfold b_law_change_4; kd_p
      exact ⟨m, rfl, hz, bm⟩
  rcases (show dg ds 9 % 3 = 0 \/ dg ds 9 % 3 = 1 \/ dg ds 9 % 3 = 2 by omega) with z | z | z
  · exact go 1 3 (by rw [z]; rfl) (by decide) (by decide) (by decide) (by decide)
  · exact go 2 5 (by rw [z]; rfl) (by decide) (by decide) (by decide) (by decide)
  · exact go 30 61 (by rw [z]; rfl) (by decide) (by decide) (by decide) (by decide)
theorem led_v {n : Nat} {m : M3} {p : P3} (hm : BM 6 m) (hp : BP n p) (hn : n <= 3000) (hd : det m ≠ 0) (hz : Nz p) : m_law_led_v1 [rowsD m, ptD p] = .ok (ptD (low (mul m p))) := by
  have nz := mul_nz hd hz
  have bm := hm.mul hp
  rw [m_law_led_v1_go]; unfold b_law_led_v1; kd_p
  rw [law_dot_l hm.a hp (by decide) (by omega), law_dot_l hm.b hp (by decide) (by omega), law_dot_l hm.c hp (by decide) (by omega)]; kd_p
  rw [show m_law_lowest_v1 [.int (dot m.1 p), .int (dot m.2.1 p), .int (dot m.2.2 p)] = _ from low3 (p := mul m p) bm nz (by omega)]; kd_p
theorem curve_ok {ds : List Int} {m : M3} (hl : ds.length = 12) (hm : BM 6 m) (hd : det m ≠ 0) : ∃ ps, m_law_curve [.lst (ds.map .int), rowsD m] = .ok (.lst (ps.map ptD)) /\ Pts 24 ps /\ ps.length = 6 := by
  have turn : ∀ (j : Nat) (d : D) (Z : DSt), ((rg 0 6).map fun k : Nat => D.int (k : Int))[j]? = some d -> (∃ ps x y z, Z = [some (.lst (ds.map .int)), some (rowsD m), some (.lst (ps.map ptD)), x, y, z] /\ ps.length = j /\ Pts 24 ps) -> ∃ Z', (b_law_curve_1f (Z.set 3 (some d)) = .ok (.nx Z') \/ b_law_curve_1f (Z.set 3 (some d)) = .ok (.ct Z')) /\ ∃ ps x y z, Z' = [some (.lst (ds.map .int)), some (rowsD m), some (.lst (ps.map ptD)), x, y, z] /\ ps.length = j + 1 /\ Pts 24 ps := by
    rintro j d Z hk ⟨ps, x, y, z, rfl, h1, h2⟩
    obtain ⟨i, hi, rfl⟩ := xbh.mp (xbc hk)
    have hi := (mem_rg.mp hi).2
    have hj : j < 6 := by
      have := (xae.mp hk).1
      rw [xab] at this
      exact this
    have bi : mulB (i : Int) = true := mulB_n (n := 4) (B.of (k := 6) (by omega)) (by decide)
    rw [show List.set _ 3 _ = [some (.lst (ds.map .int)), some (rowsD m), some (.lst (ps.map ptD)), some (.int (i : Int)), y, z] from rfl]
    have last : ∀ t s : Int, -6 <= t /\ t <= 6 -> 0 <= s /\ s <= 3 -> ¬ (t = 0 /\ s = 0) -> ∃ Z', (b_law_curve_1f_3 [some (.lst (ds.map .int)), some (rowsD m), some (.lst (ps.map ptD)), some (.int (i : Int)), some (.int t), some (.int s)] = .ok (.nx Z') \/ b_law_curve_1f_3 [some (.lst (ds.map .int)), some (rowsD m), some (.lst (ps.map ptD)), some (.int (i : Int)), some (.int t), some (.int s)] = .ok (.ct Z')) /\ ∃ ps x y z, Z' = [some (.lst (ds.map .int)), some (rowsD m), some (.lst (ps.map ptD)), x, y, z] /\ ps.length = j + 1 /\ Pts 24 ps := by
      intro t s ht hs hne
      have bt : B 3 t := B.of (k := 6) (by omega)
      have bs : B 3 s := B.of (k := 6) (by omega)
      have mt := mulB_n bt (by decide)
      have ms := mulB_n bs (by decide)
      have bp : BP 6 (t * t, t * s, s * s) := ⟨bt.mul bt, bt.mul bs, bs.mul bs⟩
      have nz : Nz (t * t, t * s, s * s) := fun q => hne ⟨(xay.mp q.1).elim id id, (xay.mp q.2.2).elim id id⟩
      have n2 := mul_nz hd nz
      unfold b_law_curve_1f_3; kd_p
      rw [gMul_ii t t mt mt, gMul_ii t s mt ms, gMul_ii s s ms ms]; kd_p
      rw [show m_law_led_v1 [rowsD m, .tup [.int (t * t), .int (t * s), .int (s * s)]] = _ from led_v (p := (t * t, t * s, s * s)) hm bp (by decide) hd nz]
      rw [appK_ok _ _ _ _ (by rw [xab]; omega)]
      exact ⟨_, .inl rfl, ps ++ [_], _, _, _, by rw [xbj]; rfl, by simp; omega, Pts.snoc h2 (low_nrm n2) (((hm.mul bp).low n2).mono (by decide))⟩
    unfold b_law_curve_1f; kd_p
    rw [gMul_ii 2 _ (by decide) bi]; kd_p
    rw [show 2 * (i : Int) = ((2 * i : Nat) : Int) by omega, ixd (by omega)]; kd_p
    rw [gMod_pos _ _ (by decide)]; kd_p
    unfold b_law_curve_1f_1; kd_p
    rw [gMul_ii 2 _ (by decide) bi]; kd_p
    rw [show 2 * (i : Int) + 1 = ((2 * i + 1 : Nat) : Int) by omega, ixd (by omega)]; kd_p
    rw [gMod_pos _ _ (by decide)]; kd_p
    have ht : -6 <= dg ds (2 * i) % 13 - 6 /\ dg ds (2 * i) % 13 - 6 <= 6 := by omega
    have hs : 0 <= dg ds (2 * i + 1) % 4 /\ dg ds (2 * i + 1) % 4 <= 3 := by omega
    generalize dg ds (2 * i) % 13 - 6 = t at ht
    generalize dg ds (2 * i + 1) % 4 = s at hs
    unfold b_law_curve_1f_2; kd_p
    by_cases h0 : t = 0
    · rw [decide_eq_true h0]; kd_p
      by_cases s0 : s = 0
      · rw [decide_eq_true s0]; kd_p
        exact last t 1 ht (by omega) (by omega)
      · rw [decide_eq_false s0]; kd_p
        exact last t s ht hs (by omega)
    · rw [decide_eq_false h0]; kd_p
      exact last t s ht hs (by omega)
  rw [m_law_curve_go]; unfold b_law_curve; kd_p
  unfold b_law_curve_1; kd_p
  rw [xab, hl, show gFdiv (.int ((12 : Nat) : Int)) (.int 2) = .ok (.int ((6 : Nat) : Int)) from rfl]; kd_p
  rw [rng_rg 6 (by decide)]; kd_p
  obtain ⟨Z', e, ps, x, y, z, rfl, h1, h2⟩ := forL_nth (i := 3) (fb := b_law_curve_1f) (fun j Z => ∃ ps x y z, Z = [some (.lst (ds.map .int)), some (rowsD m), some (.lst (ps.map ptD)), x, y, z] /\ ps.length = j /\ Pts 24 ps) _ turn [some (.lst (ds.map .int)), some (rowsD m), some (.lst []), none, none, none] ⟨[], _, _, _, rfl, rfl, ⟨by simp, by simp⟩⟩
  rw [e]; kd_p
  unfold b_law_curve_2; kd_p
  exact ⟨ps, rfl, h2, by rw [h1]; rfl⟩
theorem lc_ex {ds : List D} {e : DSt -> R D} {Z : DSt} (P : P3 -> Prop) (hl : ds.length <= 1000) (h : ∀ d ∈ ds, ∃ p, e (some d :: Z) = .ok (ptD p) /\ P p) : ∃ ps : List P3, lcK 1 [0] (.ok ds) gpOne eTrue e Z = .ok (ps.map ptD) /\ ps.length = ds.length /\ ∀ p ∈ ps, P p := by
  have : ∃ f : D -> P3, ∀ d ∈ ds, e (some d :: Z) = .ok (ptD (f d)) /\ P (f d) := by
    refine ⟨fun d => open Classical in if h : ∃ p, e (some d :: Z) = .ok (ptD p) /\ P p then h.choose else (0, 0, 0), fun d hd => ?_⟩
    have hx := h d hd
    simp only [dif_pos hx]
    exact hx.choose_spec
  obtain ⟨f, hf⟩ := this
  refine ⟨ds.map f, ?_, by simp, fun p hp => ?_⟩
  · rw [lc_map (g := fun d => ptD (f d)) (by omega) (fun d hd => (hf d hd).1), xch]; rfl
  · obtain ⟨d, hd, rfl⟩ := xbh.mp hp
    exact (hf d hd).2
end LmS
open L2 DL Mir
namespace LmT
open Mth LmP LmA LmD LmB LmE LmF LmH LmI LmJ LmK LmM LmQ LmS
theorem Col3 (x y z : P3) : Col [x, y, z] ↔ C3 z y x := by
  constructor
  · intro h; exact h z (by simp) y (by simp) x (by simp)
  · intro h p hp q hq r hr
    have h1 := C3.s12 h
    have h2 := C3.s23 h
    have h3 := C3.rot h
    have h4 := C3.rot h3
    have h5 := C3.s12 h2
    have h6 := C3.s12 h3
    have h7 := C3.s12 h4
    show C3 p q r
    simp only [xap, xa7, or_false] at hp hq hr
    rcases hp with rfl | rfl | rfl <;> rcases hq with rfl | rfl | rfl <;> rcases hr with rfl | rfl | rfl <;> with_reducible (first | assumption | exact C3.aab _ _ | exact C3.aba _ _ | exact C3.baa _ _)
def tri (ps : List P3) (o m i : Nat) : Option D := if det3 (pk ps o) (pk ps m) (pk ps i) = 0 then some (.bl true) else none
def thr (ps : List P3) : Option D := (rg 0 ps.length).findSome? fun o => (rg 0 o).findSome? fun m => (rg 0 m).findSome? fun i => tri ps o m i
def Bent (ps : List P3) : Prop := ∀ i j k, i < ps.length -> j < ps.length -> k < ps.length -> i ≠ j -> i ≠ k -> j ≠ k -> ¬ C3 (pk ps i) (pk ps j) (pk ps k)
theorem thr_cases (ps : List P3) : (thr ps = some (.bl true) /\ ¬ Bent ps) \/ (thr ps = none /\ Bent ps) := by
  cases h : thr ps with
  | some v =>
    obtain ⟨o, ho, h⟩ := xb0 h
    obtain ⟨m, hm, h⟩ := xb0 h
    obtain ⟨i, hi, h⟩ := xb0 h
    have ho := (mem_rg.mp ho).2
    have hm := (mem_rg.mp hm).2
    have hi := (mem_rg.mp hi).2
    unfold tri at h
    by_cases hz : det3 (pk ps o) (pk ps m) (pk ps i) = 0
    · rw [if_pos hz] at h
      cases h
      exact .inl ⟨rfl, fun b => b o m i ho (by omega) (by omega) (by omega) (by omega) (by omega) hz⟩
    · rw [if_neg hz] at h; cases h
  | none =>
    refine .inr ⟨rfl, ?_⟩
    have desc : ∀ o m i, o < ps.length -> m < o -> i < m -> ¬ C3 (pk ps o) (pk ps m) (pk ps i) := fun o m i ho hm hi hz => by
      have h1 := xb6.mp h o (mem_rg.mpr ⟨by omega, ho⟩)
      have h2 := xb6.mp h1 m (mem_rg.mpr ⟨by omega, hm⟩)
      have h3 := xb6.mp h2 i (mem_rg.mpr ⟨by omega, hi⟩)
      unfold tri at h3
      rw [if_pos (show det3 (pk ps o) (pk ps m) (pk ps i) = 0 from hz)] at h3; cases h3
    intro i j k hi hj hk h1 h2 h3 hc
    have c1 := C3.s12 hc
    have c2 := C3.s23 hc
    have c3 := C3.rot hc
    have c4 := C3.rot c3
    have c5 := C3.s23 c3
    rcases Nat.lt_or_gt_of_ne h1 with a | a <;> rcases Nat.lt_or_gt_of_ne h2 with b | b <;> rcases Nat.lt_or_gt_of_ne h3 with c | c
    · exact desc k j i hk c a c5
    · exact desc j k i hj c b c4
    · omega
    · exact desc j i k hj a b c1
    · exact desc k i j hk b a c3
    · omega
    · exact desc i k j hi b c c2
    · exact desc i j k hi a c hc
theorem Bent.nd {ps : List P3} (b : Bent ps) (h3 : 3 <= ps.length) : ps.Nodup := by
  refine xcc.mpr fun i j hi hj hij e => ?_
  obtain ⟨k, hk, k1, k2⟩ : ∃ k, k < ps.length /\ k ≠ i /\ k ≠ j := by
    by_cases c0 : (0 : Nat) ≠ i /\ (0 : Nat) ≠ j
    · exact ⟨0, by omega, c0.1, c0.2⟩
    · by_cases c1 : (1 : Nat) ≠ i /\ (1 : Nat) ≠ j
      · exact ⟨1, by omega, c1.1, c1.2⟩
      · exact ⟨2, by omega, by omega, by omega⟩
  have a1 := pk_get hi
  have a2 := pk_get hj
  rw [xan hi] at a1
  rw [xan hj] at a2
  have e2 : pk ps i = pk ps j := by rw [<- Option.some.inj a1, <- Option.some.inj a2, e]
  refine b i j k hi hj hk (by omega) (xas k1) (xas k2) ?_
  rw [e2]; exact C3.aab _ _
theorem lines_ok {N : Nat} {ps : List P3} (h : Pts N ps) (hl : ps.length <= 100) (hN : N <= 900 := by decide) : m_law_lines [.lst (ps.map ptD)] = .ok ((thr ps).getD (.bl false)) := by
  have bd : ∀ {k}, k < ps.length -> BP N (pk ps k) := fun hk => h.bd _ (pk_mem hk)
  have t3 : ∀ o m : Nat, o < ps.length -> m < ps.length -> ∀ i ∈ rg 0 m, ∀ Z, (∃ x, Z = [some (.lst (ps.map ptD)), some (.int (o : Int)), some (.int (m : Int)), x]) ->
      (∃ v, tri ps o m i = some v /\ b_law_linesfff (Z.set 3 (some (.int (i : Int)))) = .ok (.rt v)) \/ (tri ps o m i = none /\ ∃ Z', b_law_linesfff (Z.set 3 (some (.int (i : Int)))) = .ok (.nx Z') /\ ∃ x, Z' = [some (.lst (ps.map ptD)), some (.int (o : Int)), some (.int (m : Int)), x]) := by
    rintro o m ho hm i hi Z ⟨x, rfl⟩
    have hi := (mem_rg.mp hi).2
    rw [show List.set _ 3 _ = [some (.lst (ps.map ptD)), some (.int (o : Int)), some (.int (m : Int)), some (.int (i : Int))] from rfl]
    unfold b_law_linesfff; kd_p
    rw [Fl.ix ho, Fl.ix hm, Fl.ix (k := i) (by omega)]; kd_p
    rw [det_of (bd ho) (bd hm) (bd (k := i) (by omega)) (by omega) (.inl ⟨rfl, rfl, rfl⟩)]; kd_p
    unfold tri
    by_cases hz : det3 (pk ps o) (pk ps m) (pk ps i) = 0
    · rw [decide_eq_true hz, if_pos hz]; kd_p
      exact .inl ⟨_, rfl, rfl⟩
    · rw [decide_eq_false hz, if_neg hz]; kd_p
      exact .inr ⟨trivial, _, rfl, _, rfl⟩
  have t2 : ∀ o : Nat, o < ps.length -> ∀ m ∈ rg 0 o, ∀ Z, (∃ x y, Z = [some (.lst (ps.map ptD)), some (.int (o : Int)), x, y]) ->
      (∃ v, ((rg 0 m).findSome? fun i => tri ps o m i) = some v /\ b_law_linesff (Z.set 2 (some (.int (m : Int)))) = .ok (.rt v)) \/ (((rg 0 m).findSome? fun i => tri ps o m i) = none /\ ∃ Z', b_law_linesff (Z.set 2 (some (.int (m : Int)))) = .ok (.nx Z') /\ ∃ x y, Z' = [some (.lst (ps.map ptD)), some (.int (o : Int)), x, y]) := by
    rintro o ho m hm Z ⟨x, y, rfl⟩
    have hm := (mem_rg.mp hm).2
    rw [show List.set _ 2 _ = [some (.lst (ps.map ptD)), some (.int (o : Int)), some (.int (m : Int)), y] from rfl]
    unfold b_law_linesff; kd_p
    rw [rng_rg m (by omega)]; kd_p
    rcases find_rg _ _ _ (t3 o m ho (by omega)) _ ⟨y, rfl⟩ with ⟨v, e1, e2⟩ | ⟨e1, Z', e2, x', rfl⟩
    · exact .inl ⟨v, e1, e2⟩
    · exact .inr ⟨e1, _, e2, _, _, rfl⟩
  have t1 : ∀ o ∈ rg 0 ps.length, ∀ Z, (∃ x y z, Z = [some (.lst (ps.map ptD)), x, y, z]) ->
      (∃ v, ((rg 0 o).findSome? fun m => (rg 0 m).findSome? fun i => tri ps o m i) = some v /\ b_law_linesf (Z.set 1 (some (.int (o : Int)))) = .ok (.rt v)) \/ (((rg 0 o).findSome? fun m => (rg 0 m).findSome? fun i => tri ps o m i) = none /\ ∃ Z', b_law_linesf (Z.set 1 (some (.int (o : Int)))) = .ok (.nx Z') /\ ∃ x y z, Z' = [some (.lst (ps.map ptD)), x, y, z]) := by
    rintro o ho Z ⟨x, y, z, rfl⟩
    have ho := (mem_rg.mp ho).2
    rw [show List.set _ 1 _ = [some (.lst (ps.map ptD)), some (.int (o : Int)), y, z] from rfl]
    unfold b_law_linesf; kd_p
    rw [rng_rg o (by omega)]; kd_p
    rcases find_rg _ _ _ (t2 o ho) _ ⟨y, z, rfl⟩ with ⟨v, e1, e2⟩ | ⟨e1, Z', e2, x', y', rfl⟩
    · exact .inl ⟨v, e1, e2⟩
    · exact .inr ⟨e1, _, e2, _, _, _, rfl⟩
  rw [m_law_lines_go]; unfold b_law_lines; kd_p
  rw [xab, rng_rg _ (by omega)]; kd_p
  unfold thr
  rcases find_rg _ _ _ t1 _ ⟨none, none, none, rfl⟩ with ⟨v, e1, e2⟩ | ⟨e1, Z', e2, u, x, y, rfl⟩
  · rw [e1, e2]; kd_p
    rfl
  · rw [e1, e2]; kd_p
    unfold b_law_lines_1; kd_p
    rfl
theorem on3 {N : Nat} {x y z : P3} (h : Pts N [x, y, z]) (hN : N <= 900 := by decide) : m_on_one_v1 [.lst [ptD x, ptD y, ptD z]] = .ok (.bl (decide (det3 z y x = 0))) := by
  obtain ⟨b, e, c⟩ := on_one_ok h (by omega) (by simp)
  rw [show m_on_one_v1 [.lst [ptD x, ptD y, ptD z]] = _ from e]
  congr 2
  rw [xb9, c, Col3, decide_eq_true_eq]; rfl
theorem three_ok {N : Nat} {ps : List P3} (h : Pts N ps) (hl : ps.length <= 100) (hN : N <= 900 := by decide) : m_has_three_on_one [.lst (ps.map ptD)] = .ok ((thr ps).getD (.bl false)) := by
  have bd : ∀ {k}, k < ps.length -> BP N (pk ps k) := fun hk => h.bd _ (pk_mem hk)
  have nm : ∀ {k}, k < ps.length -> Nrm (pk ps k) := fun hk => h.nrm _ (pk_mem hk)
  have t3 : ∀ o m : Nat, o < ps.length -> m < ps.length -> ∀ i ∈ rg 0 m, ∀ Z, (∃ x, Z = [some (.lst (ps.map ptD)), some (.int (o : Int)), some (.int (m : Int)), x]) ->
      (∃ v, tri ps o m i = some v /\ b_has_three_on_onefff (Z.set 3 (some (.int (i : Int)))) = .ok (.rt v)) \/ (tri ps o m i = none /\ ∃ Z', b_has_three_on_onefff (Z.set 3 (some (.int (i : Int)))) = .ok (.nx Z') /\ ∃ x, Z' = [some (.lst (ps.map ptD)), some (.int (o : Int)), some (.int (m : Int)), x]) := by
    rintro o m ho hm i hi Z ⟨x, rfl⟩
    have hi := (mem_rg.mp hi).2
    have hi' : i < ps.length := by omega
    rw [show List.set _ 3 _ = [some (.lst (ps.map ptD)), some (.int (o : Int)), some (.int (m : Int)), some (.int (i : Int))] from rfl]
    unfold b_has_three_on_onefff; kd_p
    rw [Fl.ix ho, Fl.ix hm, Fl.ix hi']; kd_p
    rw [on3 (N := N) ⟨fun p hp => by
      simp only [xap, xa7, or_false] at hp
      rcases hp with rfl | rfl | rfl
      · exact nm hi'
      · exact nm hm
      · exact nm ho, fun p hp => by
      simp only [xap, xa7, or_false] at hp
      rcases hp with rfl | rfl | rfl
      · exact bd hi'
      · exact bd hm
      · exact bd ho⟩ hN]; kd_p
    unfold tri
    by_cases hz : det3 (pk ps o) (pk ps m) (pk ps i) = 0
    · rw [decide_eq_true hz, if_pos hz]; kd_p
      exact .inl ⟨_, rfl, rfl⟩
    · rw [decide_eq_false hz, if_neg hz]; kd_p
      exact .inr ⟨trivial, _, rfl, _, rfl⟩
  have t2 : ∀ o : Nat, o < ps.length -> ∀ m ∈ rg 0 o, ∀ Z, (∃ x y, Z = [some (.lst (ps.map ptD)), some (.int (o : Int)), x, y]) ->
      (∃ v, ((rg 0 m).findSome? fun i => tri ps o m i) = some v /\ b_has_three_on_oneff (Z.set 2 (some (.int (m : Int)))) = .ok (.rt v)) \/ (((rg 0 m).findSome? fun i => tri ps o m i) = none /\ ∃ Z', b_has_three_on_oneff (Z.set 2 (some (.int (m : Int)))) = .ok (.nx Z') /\ ∃ x y, Z' = [some (.lst (ps.map ptD)), some (.int (o : Int)), x, y]) := by
    rintro o ho m hm Z ⟨x, y, rfl⟩
    have hm := (mem_rg.mp hm).2
    rw [show List.set _ 2 _ = [some (.lst (ps.map ptD)), some (.int (o : Int)), some (.int (m : Int)), y] from rfl]
    unfold b_has_three_on_oneff; kd_p
    rw [rng_rg m (by omega)]; kd_p
    rcases find_rg _ _ _ (t3 o m ho (by omega)) _ ⟨y, rfl⟩ with ⟨v, e1, e2⟩ | ⟨e1, Z', e2, x', rfl⟩
    · exact .inl ⟨v, e1, e2⟩
    · exact .inr ⟨e1, _, e2, _, _, rfl⟩
  have t1 : ∀ o ∈ rg 0 ps.length, ∀ Z, (∃ x y z, Z = [some (.lst (ps.map ptD)), x, y, z]) ->
      (∃ v, ((rg 0 o).findSome? fun m => (rg 0 m).findSome? fun i => tri ps o m i) = some v /\ b_has_three_on_onef (Z.set 1 (some (.int (o : Int)))) = .ok (.rt v)) \/ (((rg 0 o).findSome? fun m => (rg 0 m).findSome? fun i => tri ps o m i) = none /\ ∃ Z', b_has_three_on_onef (Z.set 1 (some (.int (o : Int)))) = .ok (.nx Z') /\ ∃ x y z, Z' = [some (.lst (ps.map ptD)), x, y, z]) := by
    rintro o ho Z ⟨x, y, z, rfl⟩
    have ho := (mem_rg.mp ho).2
    rw [show List.set _ 1 _ = [some (.lst (ps.map ptD)), some (.int (o : Int)), y, z] from rfl]
    unfold b_has_three_on_onef; kd_p
    rw [rng_rg o (by omega)]; kd_p
    rcases find_rg _ _ _ (t2 o ho) _ ⟨y, z, rfl⟩ with ⟨v, e1, e2⟩ | ⟨e1, Z', e2, x', y', rfl⟩
    · exact .inl ⟨v, e1, e2⟩
    · exact .inr ⟨e1, _, e2, _, _, _, rfl⟩
  rw [m_has_three_on_one_go]; unfold b_has_three_on_one; kd_p
  rw [xab, rng_rg _ (by omega)]; kd_p
  unfold thr
  rcases find_rg _ _ _ t1 _ ⟨none, none, none, rfl⟩ with ⟨v, e1, e2⟩ | ⟨e1, Z', e2, u, x, y, rfl⟩
  · rw [e1, e2]; kd_p
    rfl
  · rw [e1, e2]; kd_p
    unfold b_has_three_on_one_1; kd_p
    rfl
theorem floor_iff {N : Nat} {ps : List P3} (h : Pts N ps) (h1 : 1 <= ps.length) (h12 : ps.length <= 12) (hN : N <= 900 := by decide) : m_is_floor_v1 [.lst (ps.map ptD)] = .ok (.bl (decide ps.Nodup)) := by
  by_cases nd : ps.Nodup
  · have e := accL_nd nd
    rw [is_floor_q h (by omega) h1 h12, decide_eq_true (by omega), decide_eq_true nd]
  · have : ∃ i j, i < j /\ j < ps.length /\ pk ps i = pk ps j := by
      apply xa8
      intro z
      apply nd
      refine xcc.mpr fun i j hi hj hij e => z ⟨i, j, hij, hj, ?_⟩
      have a1 := pk_get hi
      have a2 := pk_get hj
      rw [xan hi] at a1
      rw [xan hj] at a2
      rw [<- Option.some.inj a1, <- Option.some.inj a2, e]
    obtain ⟨i, j, a, b, c⟩ := this
    rw [floor_dup h h12 a b c hN, decide_eq_false nd]
theorem bent_yes {N : Nat} {ps : List P3} (h : Pts N ps) (h3 : 3 <= ps.length) (h12 : ps.length <= 12) (hb : Bent ps) (hN : N <= 900 := by decide) : m_look_at_bent [.lst (ps.map ptD), .int (ps.length : Int)] = .ok .non := by
  have fl := floor_iff h (by omega) h12 hN
  rw [decide_eq_true (hb.nd h3)] at fl
  rw [m_look_at_bent_go]; unfold b_look_at_bent; kd_p
  rw [fl]; kd_p
  rw [xab, decide_eq_true rfl]; kd_p
  rw [three_ok h (by omega) hN]
  rcases thr_cases ps with ⟨_, b⟩ | ⟨e, _⟩
  · exact absurd hb b
  · rw [e, show (none : Option D).getD (.bl false) = .bl false from rfl]; kd_p
end LmT
open L2 DL Mir
namespace Lk46
open Mth LmP LmA LmD LmB LmE LmF LmH Lk43 Lk44
theorem crossing_ok {n : Nat} {p q : P3} (hp : BP n p) (hq : BP n q) (hn : n <= 4000) (hne : p ≠ q) (hL : Nz (crs p q)) : m_crossing_v2 [ptD p, ptD q] = .ok (ptD (low (crs p q))) := by
  rw [m_crossing_v2_go]; unfold b_crossing_v2; kd_p
  rw [between_v1 hp hq hn hne hL]; kd_p
end Lk46
open L2 DL Mir
namespace LmV
open Mth LmP LmA LmD LmB LmE LmF LmH LmI LmJ LmK LmM LmQ LmS LmT
abbrev S2 := List P3 × List P3
structure De where
  w : Bool
  a : Nat
  b : Nat
def De.D (d : De) : D := .tup [.str (bif d.w then "peg" else "line"), .int (d.a : Int), .int (d.b : Int)]
def lof (s : S2) (w : Bool) : List P3 := bif w then s.2 else s.1
def fresh (s : S2) (d : De) : P3 := low (crs (pk (lof s d.w) d.a) (pk (lof s d.w) d.b))
def stp (s : S2) (d : De) : S2 := bif d.w then (s.1 ++ [fresh s d], s.2) else (s.1, s.2 ++ [fresh s d])
structure OkD (s : S2) (d : De) : Prop where
  a : d.a < (lof s d.w).length
  b : d.b < (lof s d.w).length
  ne : pk (lof s d.w) d.a ≠ pk (lof s d.w) d.b
structure Fine (s : S2) : Prop where
  p : ∀ p ∈ s.1, Nrm p /\ BP 1000 p
  l : ∀ p ∈ s.2, Nrm p /\ BP 1000 p
theorem Fine.of {s : S2} (h : Fine s) (w : Bool) : ∀ p ∈ lof s w, Nrm p /\ BP 1000 p := by
  cases w
  · exact h.p
  · exact h.l
inductive Wk : S2 -> List De -> S2 -> Prop
  | nil (s : S2) : Wk s [] s
  | cons {s t : S2} {d : De} {ds : List De} : OkD s d -> Fine (stp s d) -> Wk (stp s d) ds t -> Wk s (d :: ds) t
theorem stp_len (s : S2) (d : De) : (stp s d).1.length + (stp s d).2.length = s.1.length + s.2.length + 1 := by
  unfold stp
  cases d.w
  · show s.1.length + (s.2 ++ [fresh s d]).length = _; simp; omega
  · show (s.1 ++ [fresh s d]).length + s.2.length = _; simp; omega
theorem is_deed_v (w : Bool) (i j : Int) : m_is_deed_v1 [.tup [.str (bif w then "peg" else "line"), .int i, .int j]] = .ok (.bl true) := by
  rw [m_is_deed_v1_go]; unfold b_is_deed_v1; kd_p
  unfold b_is_deed_v1_1; kd_p
  rw [show ∀ x : Str, g2 isi3 [.str x, .ty "str"] = .ok (.bl true) from fun _ => rfl]; kd_p
  have e : gNin (.str (bif w then "peg" else "line")) (.tup [.str "line", .str "peg"]) = .ok (.bl false) := by cases w <;> rfl
  rw [e]; kd_p
  unfold b_is_deed_v1_2; kd_p
  rw [show ∀ i : Int, m_is_whole [.int i] = .ok (.bl true) from fun _ => rfl]; kd_p
  rw [show ∀ i : Int, m_is_whole [.int i] = .ok (.bl true) from fun _ => rfl]; kd_p
theorem pair_off (w i j at_ : D) (l : List D) (n : Int) (h : 0 <= n /\ n < (l.length : Int)) (x y : Option D) : b_pair_of_v1f [some (.lst l), some (.tup [w, i, j]), some at_, some (.int n), x, y] = .ok (.nx [some (.lst l), some (.tup [w, i, j]), some at_, some (.int n), x, y]) := by
  unfold b_pair_of_v1f; kd_p
  rw [decide_eq_true h.1, decide_eq_true h.2]; kd_p
theorem pair_in (w : D) (at_ : D) (l : List P3) (a b : Nat) (ha : a < l.length) (hb : b < l.length) (h : pk l a ≠ pk l b) : m_pair_of_v1 [.lst (l.map ptD), .tup [w, .int (a : Int), .int (b : Int)], at_] = .ok (.tup [ptD (pk l a), ptD (pk l b)]) := by
  rw [m_pair_of_v1_go]; unfold b_pair_of_v1; kd_p
  rw [pair_off _ _ _ _ _ _ (by rw [xab]; omega)]; kd_p
  rw [pair_off _ _ _ _ _ _ (by rw [xab]; omega)]; kd_p
  unfold b_pair_of_v1_1; kd_p
  rw [Fl.ix ha]; kd_p
  unfold b_pair_of_v1_2; kd_p
  rw [Fl.ix hb]; kd_p
  unfold b_pair_of_v1_3; kd_p
  rw [decide_eq_false (fun z => h ((eqP _ _).mp z))]; kd_p
  unfold b_pair_of_v1_4; kd_p
theorem forL_two (i j : Nat) (fb : DSt -> R Out) (x y : D) (ds : List D) (Z : DSt) : forL [i, j] (gpSeq 2) fb (.tup [x, y] :: ds) Z = turnK (fb ((Z.set i (some x)).set j (some y))) (forL [i, j] (gpSeq 2) fb ds) := by
  show (fb ((Z.set i (some x)).set j (some y))).bind _ = _
  unfold turnK
  cases fb ((Z.set i (some x)).set j (some y)) with
  | ok o => cases o <;> rfl
  | err e => rfl
  | bad => rfl
theorem t2_0 (a b : D) : gIx (.tup [a, b]) (.int 0) = .ok a := rfl
theorem t2_1 (a b : D) : gIx (.tup [a, b]) (.int 1) = .ok b := rfl
theorem imm_2 (p q : P3) : imm (.tup [ptD p, ptD q]) = true := rfl
theorem walk_turn {s : S2} {d : De} (f : Fine s) (o : OkD s d) (hl : s.1.length + s.2.length <= 900) (pl pn x : Option D) (at_ : D) :
    ∃ y, b_walked_v2_2f [pl, pn, some (.lst (s.1.map ptD)), some (.lst (s.2.map ptD)), some at_, some d.D, x] = .ok (.nx [pl, pn, some (.lst ((stp s d).1.map ptD)), some (.lst ((stp s d).2.map ptD)), some at_, some d.D, y]) := by
  obtain ⟨w, a, b⟩ := d
  obtain ⟨ha, hb, hne⟩ := o
  have F := f.of w
  have na := F _ (pk_mem ha)
  have nb := F _ (pk_mem hb)
  have hz := cross_ne na.1 nb.1 hne
  refine ⟨some (.tup [ptD (pk (lof s w) a), ptD (pk (lof s w) b)]), ?_⟩
  have pr := pair_in (.str (bif w then "peg" else "line")) at_ (lof s w) a b ha hb hne
  have hd := is_deed_v w (a : Int) (b : Int)
  unfold b_walked_v2_2f
  show sSeq _ _ [pl, pn, some (.lst (s.1.map ptD)), some (.lst (s.2.map ptD)), some at_, some (.tup [.str (bif w then "peg" else "line"), .int (a : Int), .int (b : Int)]), x] = _
  kd_p
  rw [hd]; kd_p
  unfold b_walked_v2_2f_1
  cases w with
  | false =>
    rw [cond_false] at pr ⊢
    kd_p
    rw [show gEq (.str "line") (.str "line") = .ok (.bl true) from rfl]; kd_p
    unfold b_walked_v2_2f_1t; kd_p
    rw [sSetP_def]; kd_p
    rw [show m_pair_of_v1 [.lst (s.1.map ptD), .tup [.str "line", .int (a : Int), .int (b : Int)], at_] = _ from pr, setPK_ok _ _ _ (imm_2 _ _)]; kd_p
    unfold b_walked_v2_2f_1t_1; kd_p
    rw [t2_0, t2_1]; kd_p
    rw [LmB.through_v1 na.2 nb.2 (by decide) hne hz, appK_ok _ _ _ _ (by rw [xab]; omega)]; kd_p
    rw [show stp s ⟨false, a, b⟩ = (s.1, s.2 ++ [low (crs (pk (lof s false) a) (pk (lof s false) b))]) from rfl, xbj]; rfl
  | true =>
    rw [cond_true] at pr ⊢
    kd_p
    rw [show gEq (.str "peg") (.str "line") = .ok (.bl false) from rfl]; kd_p
    unfold b_walked_v2_2f_1e; kd_p
    rw [sSetP_def]; kd_p
    rw [show m_pair_of_v1 [.lst (s.2.map ptD), .tup [.str "peg", .int (a : Int), .int (b : Int)], at_] = _ from pr, setPK_ok _ _ _ (imm_2 _ _)]; kd_p
    unfold b_walked_v2_2f_1e_1; kd_p
    rw [t2_0, t2_1]; kd_p
    rw [Lk46.crossing_ok na.2 nb.2 (by decide) hne hz, appK_ok _ _ _ _ (by rw [xab]; omega)]; kd_p
    rw [show stp s ⟨true, a, b⟩ = (s.1 ++ [low (crs (pk (lof s true) a) (pk (lof s true) b))], s.2) from rfl, xbj]; rfl
theorem walk_loop {s t : S2} {ds : List De} (h : Wk s ds t) : Fine s -> s.1.length + s.2.length + ds.length <= 900 -> ∀ (k : Nat) (pl pn x1 x2 x3 : Option D), ∃ y1 y2 y3, forL [4, 5] (gpSeq 2) b_walked_v2_2f (enumD k (ds.map De.D)) [pl, pn, some (.lst (s.1.map ptD)), some (.lst (s.2.map ptD)), x1, x2, x3] =
    .ok (.nx [pl, pn, some (.lst (t.1.map ptD)), some (.lst (t.2.map ptD)), y1, y2, y3]) := by
  induction h with
  | nil s => exact fun _ _ k pl pn x1 x2 x3 => ⟨x1, x2, x3, rfl⟩
  | @cons s t d ds o f' _ ih =>
    intro f hl k pl pn x1 x2 x3
    rw [xaq] at hl
    obtain ⟨y, e⟩ := walk_turn f o (by omega) pl pn x3 (.int (k : Int))
    obtain ⟨y1, y2, y3, e2⟩ := ih f' (by rw [stp_len]; omega) (k + 1) pl pn (some (.int (k : Int))) (some d.D) y
    refine ⟨y1, y2, y3, ?_⟩
    rw [xa9, enumD, forL_two]
    show turnK (b_walked_v2_2f [pl, pn, some (.lst (s.1.map ptD)), some (.lst (s.2.map ptD)), some (.int (k : Int)), some d.D, x3]) _ = _
    rw [e, turnK_nx, e2]
theorem walked_ok {ps : List P3} {ds : List De} {t : S2} (f : Fine (ps, [])) (h : Wk (ps, []) ds t) (hl : ps.length + ds.length <= 900) : m_walked_v2 [.lst (ps.map ptD), .lst (ds.map De.D)] = .ok (.tup [.lst (t.1.map ptD), .lst (t.2.map ptD)]) := by
  obtain ⟨y1, y2, y3, e⟩ := walk_loop h f (by simpa using hl) 0 (some (.lst (ps.map ptD))) (some (.lst (ds.map De.D))) none none none
  rw [m_walked_v2_go]; unfold b_walked_v2; kd_p
  rw [show (gList [.lst (ps.map ptD)]).noerr = .ok (ps.map ptD) from rfl]; kd_p
  unfold b_walked_v2_1; kd_p
  unfold b_walked_v2_2; kd_p
  rw [show iEnumerate1 [.lst (ds.map De.D)] = .ok (enumD 0 (ds.map De.D)) from rfl]; kd_p
  rw [show forL [4, 5] (gpSeq 2) b_walked_v2_2f (enumD 0 (ds.map De.D)) [some (.lst (ps.map ptD)), some (.lst (ds.map De.D)), some (.lst (ps.map ptD)), some (.lst []), none, none, none] = _ from e]; kd_p
  unfold b_walked_v2_3; kd_p
def plan : List De := [⟨false, 0, 5⟩, ⟨false, 2, 3⟩, ⟨true, 0, 1⟩, ⟨false, 0, 1⟩, ⟨false, 3, 4⟩, ⟨true, 2, 3⟩, ⟨false, 6, 7⟩, ⟨false, 1, 2⟩, ⟨true, 4, 5⟩, ⟨false, 4, 8⟩, ⟨true, 0, 6⟩]
theorem plan_D : k_PLAN = .lst (plan.map De.D) := rfl
theorem Fine.line {ps ls : List P3} {l : P3} (f : Fine (ps, ls)) (h : Nrm l /\ BP 1000 l) : Fine (ps, ls ++ [l]) := ⟨f.p, fun p hp => (xbe.mp hp).elim (f.l p) fun z => by rw [xbi.mp z]; exact h⟩
theorem Fine.peg {ps ls : List P3} {l : P3} (f : Fine (ps, ls)) (h : Nrm l /\ BP 1000 l) : Fine (ps ++ [l], ls) := ⟨fun p hp => (xbe.mp hp).elim (f.p p) fun z => by rw [xbi.mp z]; exact h, f.l⟩
end LmV
open L2 DL Mir
namespace Lk77
open Mth LmP LmA LmD LmB LmE LmF LmH LmI LmJ LmK LmM LmQ LmS LmT
theorem G5.of {ps : List P3} (b : Bent ps) {i j k l m : Nat} (hi : i < ps.length) (hj : j < ps.length) (hk : k < ps.length) (hl : l < ps.length) (hm : m < ps.length) (d : i ≠ j /\ i ≠ k /\ i ≠ l /\ i ≠ m /\ j ≠ k /\ j ≠ l /\ j ≠ m /\ k ≠ l /\ k ≠ m /\ l ≠ m) : G5 (pk ps i) (pk ps j) (pk ps k) (pk ps l) (pk ps m) := by
  obtain ⟨d1, d2, d3, d4, d5, d6, d7, d8, d9, d10⟩ := d
  exact ⟨b _ _ _ hi hj hk d1 d2 d5, b _ _ _ hi hj hl d1 d3 d6, b _ _ _ hi hj hm d1 d4 d7, b _ _ _ hi hk hl d2 d3 d8, b _ _ _ hi hk hm d2 d4 d9, b _ _ _ hi hl hm d3 d4 d10, b _ _ _ hj hk hl d5 d6 d8, b _ _ _ hj hk hm d5 d7 d9, b _ _ _ hj hl hm d6 d7 d10, b _ _ _ hk hl hm d8 d9 d10⟩
theorem pts_take {ps : List P3} (h : Pts 24 ps) (n : Nat) : Pts 24 (ps.take n) := ⟨fun p hp => h.nrm p (xb4 hp), fun p hp => h.bd p (xb4 hp)⟩
end Lk77
open L2 DL Mir
namespace Lk79
open Mth LmP LmA LmD LmB LmE LmF LmH LmI LmJ LmK LmM LmQ LmS LmT LmV
theorem drawnN {N M : Nat} (hNM : 11 * N + 2 * M + 12 <= 1000) {a b c d e p : P3} (h : Pts N [a, b, c, d, e]) (g : G5 a b c d e) (np : Nrm p) (bp : BP M p) (hne : p ≠ a) :
    Fine ([a, b, c, d, e, p], []) /\ ∃ ps ls, Wk ([a, b, c, d, e, p], []) plan (ps, ls) /\ pk ps 9 = low (x9 a b c d e p) /\ ps.length = 10 /\ BP 1000 (low (x9 a b c d e p)) := by
  have na := h.nrm a (by simp)
  have nb := h.nrm b (by simp)
  have nc := h.nrm c (by simp)
  have nd := h.nrm d (by simp)
  have ne := h.nrm e (by simp)
  have ba := h.bd a (by simp)
  have bb := h.bd b (by simp)
  have bc := h.bd c (by simp)
  have bd := h.bd d (by simp)
  have be := h.bd e (by simp)
  have D := draws g (cross_ne na np hne.symm)
  have b1 : BP (N + M + 1) (low (crs a p)) := (ba.crs bp).low D.l
  have b2 : BP (N + N + 1) (low (crs c d)) := (bc.crs bd).low D.cd
  have b4 : BP (N + N + 1) (low (crs a b)) := (ba.crs bb).low D.ab
  have b5 : BP (N + N + 1) (low (crs d e)) := (bd.crs be).low D.de
  have b8 : BP (N + N + 1) (low (crs b c)) := (bb.crs bc).low D.bc
  obtain ⟨z6, e6⟩ := low_crs D.l D.cd D.n6
  obtain ⟨z7, e7⟩ := low_crs D.ab D.de D.n7
  have e6 : low (crs (low (crs a p)) (low (crs c d))) = low (x6 a c d p) := e6
  have e7 : low (crs (low (crs a b)) (low (crs d e))) = low (x7 a b d e) := e7
  have b6 : BP (3 * N + M + 3) (low (x6 a c d p)) := by rw [<- e6]; exact ((b1.crs b2).low z6).mono (by omega)
  have b7 : BP (4 * N + 3) (low (x7 a b d e)) := by rw [<- e7]; exact ((b4.crs b5).low z7).mono (by omega)
  obtain ⟨z67, e67⟩ := low_crs D.n6 D.n7 D.l67
  have b67 : BP (7 * N + M + 7) (low (crs (x6 a c d p) (x7 a b d e))) := by rw [<- e67]; exact ((b6.crs b7).low z67).mono (by omega)
  obtain ⟨z8, e8⟩ := low_crs D.l67 D.bc D.n8
  have e8 : low (crs (low (crs (x6 a c d p) (x7 a b d e))) (low (crs b c))) = low (x8 a b c d e p) := e8
  have b8' : BP (9 * N + M + 9) (low (x8 a b c d e p)) := by rw [<- e8]; exact ((b67.crs b8).low z8).mono (by omega)
  obtain ⟨z48, e48⟩ := low_crs ne.nz D.n8 D.l48
  rw [ne.low] at z48 e48
  have b48 : BP (10 * N + M + 10) (low (crs e (x8 a b c d e p))) := by rw [<- e48]; exact ((be.crs b8').low z48).mono (by omega)
  obtain ⟨z9, e9⟩ := low_crs D.l D.l48 D.n9
  have e9 : low (crs (low (crs a p)) (low (crs e (x8 a b c d e p)))) = low (x9 a b c d e p) := e9
  have b9 : BP (11 * N + 2 * M + 12) (low (x9 a b c d e p)) := by rw [<- e9]; exact ((b1.crs b48).low z9).mono (by omega)
  have f0 : Fine ([a, b, c, d, e, p], []) := ⟨fun x hx => by
    simp only [xap, xa7, or_false] at hx
    rcases hx with rfl | rfl | rfl | rfl | rfl | rfl
    · exact ⟨na, ba.mono (by omega)⟩
    · exact ⟨nb, bb.mono (by omega)⟩
    · exact ⟨nc, bc.mono (by omega)⟩
    · exact ⟨nd, bd.mono (by omega)⟩
    · exact ⟨ne, be.mono (by omega)⟩
    · exact ⟨np, bp.mono (by omega)⟩, by simp⟩
  have nz2 : ∀ {u v : P3}, Nz (crs u v) -> u ≠ v := fun h e => nz_ne h (by rw [e]; exact crs_self _)
  have k1 := low_ne D.l D.cd D.n6
  have k2 := low_ne D.ab D.de D.n7
  have k3 := low_ne D.n6 D.n7 D.l67
  have k4 := low_ne D.l67 D.bc D.n8
  have k5 := low_ne D.l D.l48 D.n9
  have k6 := nz2 z48
  have w1 := low_nrm D.l
  have w2 := low_nrm D.cd
  have w3 := low_nrm D.n6
  have w4 := low_nrm D.ab
  have w5 := low_nrm D.de
  have w6 := low_nrm D.n7
  have w7 := low_nrm D.l67
  have w8 := low_nrm D.bc
  have w9 := low_nrm D.n8
  have w10 := low_nrm D.l48
  have w11 := low_nrm D.n9
  generalize hl1 : low (crs a p) = l1 at *
  generalize hl2 : low (crs c d) = l2 at *
  generalize hl3 : low (crs a b) = l3 at *
  generalize hl4 : low (crs d e) = l4 at *
  generalize hl6 : low (crs b c) = l6 at *
  generalize low (x6 a c d p) = p6 at *
  generalize low (x7 a b d e) = p7 at *
  generalize low (crs (x6 a c d p) (x7 a b d e)) = l5 at *
  generalize low (x8 a b c d e p) = p8 at *
  generalize low (crs e (x8 a b c d e p)) = l7 at *
  generalize low (x9 a b c d e p) = p9 at *
  have f1 := f0.line ⟨w1, b1.mono (by omega)⟩
  have f2 := f1.line ⟨w2, b2.mono (by omega)⟩
  have f3 := f2.peg ⟨w3, b6.mono (by omega)⟩
  have f4 := f3.line ⟨w4, b4.mono (by omega)⟩
  have f5 := f4.line ⟨w5, b5.mono (by omega)⟩
  have f6 := f5.peg ⟨w6, b7.mono (by omega)⟩
  have f7 := f6.line ⟨w7, b67.mono (by omega)⟩
  have f8 := f7.line ⟨w8, b8.mono (by omega)⟩
  have f9 := f8.peg ⟨w9, b8'.mono (by omega)⟩
  have f10 := f9.line ⟨w10, b48.mono (by omega)⟩
  have f11 := f10.peg ⟨w11, b9.mono (by omega)⟩
  have st : ∀ {s t u : S2} {d : De} {ds : List De}, OkD s d -> stp s d = t -> Fine t -> Wk t ds u -> Wk s (d :: ds) u := fun o e f w => .cons o (by rw [e]; exact f) (by rw [e]; exact w)
  refine ⟨f0, [a, b, c, d, e, p, p6, p7, p8, p9], [l1, l2, l3, l4, l5, l6, l7], ?_, rfl, rfl, b9.mono (by omega)⟩
  refine st ⟨by show 0 < 6; decide, by show 5 < 6; decide, hne.symm⟩ (by show (_, [] ++ [low (crs a p)]) = _; rw [hl1]) f1 ?_
  refine st ⟨by show 2 < 6; decide, by show 3 < 6; decide, nz2 D.cd⟩ (by show (_, [l1] ++ [low (crs c d)]) = _; rw [hl2]; rfl) f2 ?_
  refine st ⟨by show 0 < 2; decide, by show 1 < 2; decide, k1⟩ (by show (_ ++ [low (crs l1 l2)], _) = _; rw [e6]) f3 ?_
  refine st ⟨by show 0 < 7; decide, by show 1 < 7; decide, nz2 D.ab⟩ (by show (_, _ ++ [low (crs a b)]) = _; rw [hl3]) f4 ?_
  refine st ⟨by show 3 < 7; decide, by show 4 < 7; decide, nz2 D.de⟩ (by show (_, _ ++ [low (crs d e)]) = _; rw [hl4]) f5 ?_
  refine st ⟨by show 2 < 4; decide, by show 3 < 4; decide, k2⟩ (by show (_ ++ [low (crs l3 l4)], _) = _; rw [e7]) f6 ?_
  refine st ⟨by show 6 < 8; decide, by show 7 < 8; decide, k3⟩ (by show (_, _ ++ [low (crs p6 p7)]) = _; rw [e67]) f7 ?_
  refine st ⟨by show 1 < 8; decide, by show 2 < 8; decide, nz2 D.bc⟩ (by show (_, _ ++ [low (crs b c)]) = _; rw [hl6]) f8 ?_
  refine st ⟨by show 4 < 6; decide, by show 5 < 6; decide, k4⟩ (by show (_ ++ [low (crs l5 l6)], _) = _; rw [e8]) f9 ?_
  refine st ⟨by show 4 < 9; decide, by show 8 < 9; decide, k6⟩ (by show (_, _ ++ [low (crs e p8)]) = _; rw [e48]) f10 ?_
  refine st ⟨by show 0 < 7; decide, by show 6 < 7; decide, k5⟩ (by show (_ ++ [low (crs l1 l7)], _) = _; rw [e9]) f11 ?_
  exact .nil _
theorem map5 (a b c d e : P3) : [a, b, c, d, e].map ptD = [ptD a, ptD b, ptD c, ptD d, ptD e] := rfl
theorem bent5 {N : Nat} (hN : N <= 900) {a b c d e : P3} (h : Pts N [a, b, c, d, e]) (hb : Bent [a, b, c, d, e]) : m_look_at_bent [.lst [ptD a, ptD b, ptD c, ptD d, ptD e], .int 5] = .ok .non := by
  have k := bent_yes h (by show 3 <= 5; decide) (by show 5 <= 12; decide) hb hN
  rw [map5, show ([a, b, c, d, e] : List P3).length = 5 from rfl, show ((5 : Nat) : Int) = 5 from rfl] at k
  exact k
theorem ix5 (a b c d e : D) : gIx (.lst [a, b, c, d, e]) (.int 0) = .ok a := rfl
theorem lcross_ok {n : Nat} {p q : P3} (hp : BP n p) (hq : BP n q) (hn : n <= 4000) (hz : Nz (crs p q)) : m_law_cross_v2 [ptD p, ptD q] = .ok (ptD (low (crs p q))) := by
  have m1 : ∀ {i j : Int}, B n i -> B n j -> gMul (.int i) (.int j) = .ok (.int (i * j)) := fun h h' => gMul_ii _ _ (mulB_n h (by omega)) (mulB_n h' (by omega))
  rw [m_law_cross_v2_go]; unfold b_law_cross_v2; kd_p
  unfold b_law_cross_v2_1; kd_p
  unfold b_law_cross_v2_2; kd_p
  rw [m1 hp.y hq.z, m1 hp.z hq.y, m1 hp.z hq.x, m1 hp.x hq.z, m1 hp.x hq.y, m1 hp.y hq.x]; kd_p
  rw [show m_law_lowest_v1 [.int (p.2.1 * q.2.2 - p.2.2 * q.2.1), .int (p.2.2 * q.1 - p.1 * q.2.2), .int (p.1 * q.2.1 - p.2.1 * q.1)] = _ from low3 (hp.crs hq) hz (by omega)]; kd_p
theorem imm_pt (p : P3) : imm (ptD p) = true := rfl
theorem lturn {s : S2} {d : De} (f : Fine s) (o : OkD s d) (hl : s.1.length + s.2.length <= 900) (x0 x1 x5 x6 : Option D) :
    ∃ y5 y6, b_law_walk_2f [x0, x1, some (.lst (s.1.map ptD)), some (.lst (s.2.map ptD)), some d.D, x5, x6] = .ok (.nx [x0, x1, some (.lst ((stp s d).1.map ptD)), some (.lst ((stp s d).2.map ptD)), some d.D, y5, y6]) := by
  obtain ⟨w, a, b⟩ := d
  obtain ⟨ha, hb, hne⟩ := o
  have F := f.of w
  have na := F _ (pk_mem ha)
  have nb := F _ (pk_mem hb)
  have hz := cross_ne na.1 nb.1 hne
  have ha : a < (lof s w).length := ha
  have hb : b < (lof s w).length := hb
  refine ⟨none, some (ptD (low (crs (pk (lof s w) a) (pk (lof s w) b)))), ?_⟩
  have e : gNin (.str (bif w then "peg" else "line")) (.tup [.str "line", .str "peg"]) = .ok (.bl false) := by cases w <;> rfl
  unfold b_law_walk_2f
  show sSeq _ _ [x0, x1, some (.lst (s.1.map ptD)), some (.lst (s.2.map ptD)), some (.tup [.str (bif w then "peg" else "line"), .int (a : Int), .int (b : Int)]), x5, x6] = _
  kd_p
  rw [e]; kd_p
  unfold b_law_walk_2f_1
  show b_law_walk_2f_1a [x0, x1, some (.lst (s.1.map ptD)), some (.lst (s.2.map ptD)), some (.tup [.str (bif w then "peg" else "line"), .int (a : Int), .int (b : Int)]), some (.lst (s.1.map ptD)), x6] = _
  have key : b_law_walk_2f_1a [x0, x1, some (.lst (s.1.map ptD)), some (.lst (s.2.map ptD)), some (.tup [.str (bif w then "peg" else "line"), .int (a : Int), .int (b : Int)]), some (.lst (s.1.map ptD)), x6] = b_law_walk_2f_1aa [x0, x1, some (.lst (s.1.map ptD)), some (.lst (s.2.map ptD)), some (.tup [.str (bif w then "peg" else "line"), .int (a : Int), .int (b : Int)]), some (.lst ((lof s w).map ptD)), x6] := by
    cases w <;> rfl
  rw [key]
  unfold b_law_walk_2f_1aa sIfB; kd_p
  rw [xab, decide_eq_true (show 0 <= (a : Int) by omega), decide_eq_true (show (a : Int) < ((lof s w).length : Int) by omega)]; kd_p
  rw [xab, decide_eq_true (show 0 <= (b : Int) by omega), decide_eq_true (show (b : Int) < ((lof s w).length : Int) by omega)]; kd_p
  rw [Fl.ix ha, Fl.ix hb]; kd_p
  rw [decide_eq_false (fun z => hne ((eqP _ _).mp z))]
  show b_law_walk_2f_1aar [x0, x1, some (.lst (s.1.map ptD)), some (.lst (s.2.map ptD)), some (.tup [.str (bif w then "peg" else "line"), .int (a : Int), .int (b : Int)]), some (.lst ((lof s w).map ptD)), x6] = _
  unfold b_law_walk_2f_1aar; kd_p
  rw [sSetP_def]; kd_p
  rw [Fl.ix ha, Fl.ix hb]; kd_p
  rw [lcross_ok na.2 nb.2 (by decide) hz, setPK_ok _ _ _ (imm_pt _)]; kd_p
  unfold sDrop; kd_p
  cases w with
  | false =>
    rw [cond_false, show gEq (.str "line") (.str "peg") = .ok (.bl false) from rfl]; kd_p
    rw [appK_ok _ _ _ _ (by rw [xab]; omega)]
    rw [show stp s ⟨false, a, b⟩ = (s.1, s.2 ++ [low (crs (pk (lof s false) a) (pk (lof s false) b))]) from rfl, xbj]; rfl
  | true =>
    rw [cond_true, show gEq (.str "peg") (.str "peg") = .ok (.bl true) from rfl]; kd_p
    rw [appK_ok _ _ _ _ (by rw [xab]; omega)]
    rw [show stp s ⟨true, a, b⟩ = (s.1 ++ [low (crs (pk (lof s true) a) (pk (lof s true) b))], s.2) from rfl, xbj]; rfl
theorem lloop {s t : S2} {ds : List De} (h : Wk s ds t) : Fine s -> s.1.length + s.2.length + ds.length <= 900 -> ∀ (x0 x1 x4 x5 x6 : Option D), ∃ y4 y5 y6, forL [4] gpOne b_law_walk_2f (ds.map De.D) [x0, x1, some (.lst (s.1.map ptD)), some (.lst (s.2.map ptD)), x4, x5, x6] =
    .ok (.nx [x0, x1, some (.lst (t.1.map ptD)), some (.lst (t.2.map ptD)), y4, y5, y6]) := by
  induction h with
  | nil s => exact fun _ _ x0 x1 x4 x5 x6 => ⟨x4, x5, x6, rfl⟩
  | @cons s t d ds o f' _ ih =>
    intro f hl x0 x1 x4 x5 x6
    rw [xaq] at hl
    obtain ⟨z5, z6, e⟩ := lturn f o (by omega) x0 x1 x5 x6
    obtain ⟨y4, y5, y6, e2⟩ := ih f' (by rw [stp_len]; omega) x0 x1 (some d.D) z5 z6
    refine ⟨y4, y5, y6, ?_⟩
    rw [xa9, forL_one]
    show turnK (b_law_walk_2f [x0, x1, some (.lst (s.1.map ptD)), some (.lst (s.2.map ptD)), some d.D, x5, x6]) _ = _
    rw [e, turnK_nx, e2]
theorem lwalk_ok {ps : List P3} {ds : List De} {t : S2} (f : Fine (ps, [])) (h : Wk (ps, []) ds t) (hl : ps.length + ds.length <= 900) : m_law_walk [.lst (ps.map ptD), .lst (ds.map De.D)] = .ok (.lst (t.1.map ptD)) := by
  obtain ⟨y4, y5, y6, e⟩ := lloop h f (by simpa using hl) (some (.lst (ps.map ptD))) (some (.lst (ds.map De.D))) none none none
  rw [m_law_walk_go]; unfold b_law_walk; kd_p
  rw [show (gList [.lst (ps.map ptD)]).noerr = .ok (ps.map ptD) from rfl]; kd_p
  unfold b_law_walk_1; kd_p
  unfold b_law_walk_2; kd_p
  rw [show forL [4] gpOne b_law_walk_2f (ds.map De.D) [some (.lst (ps.map ptD)), some (.lst (ds.map De.D)), some (.lst (ps.map ptD)), some (.lst []), none, none, none] = _ from e]; kd_p
  unfold b_law_walk_3; kd_p
theorem so_ok {a b c d e p : P3} (h : Pts 40 [a, b, c, d, e]) (hb : Bent [a, b, c, d, e]) (np : Nrm p) (bp : BP 40 p) (hne : p ≠ a) :
    m_law_drawn_so [.lst [ptD a, ptD b, ptD c, ptD d, ptD e], ptD p, .lst (plan.map De.D), .int 9] = .ok (.bl true) := by
  have g : G5 a b c d e := Lk77.G5.of (i := 0) (j := 1) (k := 2) (l := 3) (m := 4) hb (by show 0 < 5; decide) (by show 1 < 5; decide) (by show 2 < 5; decide) (by show 3 < 5; decide) (by show 4 < 5; decide) (by decide)
  have na := h.nrm a (by simp)
  obtain ⟨f, ps, ls, W, e9, l10, b9⟩ := drawnN (N := 40) (M := 40) (by decide) h g np bp hne
  have lw := lwalk_ok f W (by show 6 + 11 <= 900; decide)
  have wk := walked_ok f W (by show 6 + 11 <= 900; decide)
  have ix : gIx (.lst (ps.map ptD)) (.int 9) = .ok (ptD (pk ps 9)) := Fl.ix (k := 9) (by omega)
  have ag : m_again_v1 [.lst [ptD a, ptD b, ptD c, ptD d, ptD e], ptD p] = .ok (ptD (low (x9 a b c d e p))) := by
    rw [m_again_v1_go]; unfold b_again_v1; kd_p
    rw [bent5 (by decide) h hb]; kd_p
    unfold b_again_v1_1; kd_p
    rw [ix5]; kd_p
    rw [decide_eq_false (fun z => hne ((eqP _ _).mp z))]; kd_p
    unfold b_again_v1_2; kd_p
    rw [Lk42.gAdd_ll (by simp), plan_D, show (gList [.lst (plan.map De.D)]).noerr = .ok (plan.map De.D) from rfl]; kd_p
    rw [show [ptD a, ptD b, ptD c, ptD d, ptD e] ++ [ptD p] = [a, b, c, d, e, p].map ptD from rfl, wk]; kd_p
    rw [t2_0, show k_LAST = .int 9 from rfl]; kd_p
    rw [ix, e9]; kd_p
  have nzl := cross_ne na np (xas hne)
  have D := draws g nzl
  have nm := (bow_on5 g).meet_nz nzl
  have dm : det3 a p (low (x9 a b c d e p)) = 0 := by
    rw [D.low9 g]
    generalize low6 (bowP a b c d e) = q at nm
    have e1 := meet_det q a p
    rw [low_tms nm] at e1
    refine zero_of (low_eq nm).1 ?_
    rw [<- e1]
    generalize sOf (meet q a p) = s
    generalize low (meet q a p) = x
    unfold det3 tms dot crs; grind
  rw [m_law_drawn_so_go]; unfold b_law_drawn_so; kd_p
  rw [Lk42.gAdd_ll (by simp)]; kd_p
  rw [show [ptD a, ptD b, ptD c, ptD d, ptD e] ++ [ptD p] = [a, b, c, d, e, p].map ptD from rfl, lw]; kd_p
  unfold b_law_drawn_so_1; kd_p
  rw [xab, l10, show decide ((9 : Int) < ((10 : Nat) : Int)) = true from rfl]; kd_p
  unfold b_law_drawn_so_2; kd_p
  rw [ix, e9, ag]; kd_p
  simp only [and_self, decide_true]
  kd_p
  rw [ix5, ix, e9]; kd_p
  rw [det_of (n := 1000) ((h.bd a (by simp)).mono (by decide)) (bp.mono (by decide)) b9 (by decide) (.inl ⟨rfl, rfl, rfl⟩), dm]; kd_p
theorem told : m_bow_plan [] = .ok (plan.map De.D, 9) := rfl
theorem dat_plan : datN 9 (.tup [.lst (plan.map De.D), .int 9]) = true := by decide +kernel
theorem imms_plan : imms (plan.map De.D) = true := by decide +kernel
theorem five5 {ps : List P3} (h5 : ps.length = 5) : ∃ a b c d e, ps = [a, b, c, d, e] := by
  match ps, h5 with
  | [a, b, c, d, e], _ => exact ⟨a, b, c, d, e, rfl⟩
theorem led_all {N : Nat} (hN : N <= 30) {ps : List P3} {m : M3} (hp : Pts N ps) (hl : ps.length <= 100) (hm : BM 6 m) (hd : det m ≠ 0) (Z : DSt) (h12 : Z[11]? = some (some (rowsD m))) :
    lcK 1 [0] (.ok (ps.map ptD)) gpOne eTrue (eCall m_law_led_v1 (aCons (eVar 12) (aCons (eVar 0) aNil))) Z = .ok ((ps.map fun p => low (mul m p)).map ptD) := by
  rw [lc_mapP (g := fun p => ptD (low (mul m p))) (by omega) (fun p hp' => ?_), xch]; rfl
  have hv : ∀ x, eVar 12 (x :: Z) = .ok (rowsD m) := fun x => by
    show (match (x :: Z)[12]? with | some (some d) => R.ok d | _ => .bad) = _
    rw [xb1, h12]
  rw [eCall_def, aCons_def, hv]; kd_p
  exact led_v hm (hp.bd p hp') (by omega) hd (hp.nrm p hp').nz
theorem c3_low {u v w : P3} (hu : Nz u) (hv : Nz v) (hw : Nz w) (h : C3 (low u) (low v) (low w)) : C3 u v w := by
  have e := det3_tms (sOf u) (sOf v) (sOf w) (low u) (low v) (low w)
  rw [<- low_tms hu, <- low_tms hv, <- low_tms hw] at e
  unfold C3 at *
  rw [e, h, xbq]
theorem led_bent {ps : List P3} {m : M3} (hp : ∀ p ∈ ps, Nrm p) (hd : det m ≠ 0) (hb : Bent ps) : Bent (ps.map fun p => low (mul m p)) := by
  intro i j k hi hj hk d1 d2 d3 hc
  rw [xab] at hi hj hk
  have e : ∀ i, i < ps.length -> pk (ps.map fun p => low (mul m p)) i = low (mul m (pk ps i)) := fun i hi => by unfold pk; simp [hi]
  rw [e i hi, e j hj, e k hk] at hc
  have z : ∀ i, i < ps.length -> Nz (mul m (pk ps i)) := fun i hi => mul_nz hd (hp _ (pk_mem hi)).nz
  have c := c3_low (z i hi) (z j hj) (z k hk) hc
  refine hb i j k hi hj hk d1 d2 d3 ?_
  unfold C3 at c ⊢
  rw [det3_mul] at c
  exact zero_of hd c
theorem led_ne {p a : P3} {m : M3} (np : Nrm p) (na : Nrm a) (hd : det m ≠ 0) (hne : p ≠ a) : low (mul m p) ≠ low (mul m a) := fun e => by
  have z := par_low (mul_nz hd np.nz) (mul_nz hd na.nz) e
  rw [crs_mul] at z
  exact nz_ne (cof_nz hd (cross_ne np na hne)) z
theorem led_pt {N : Nat} {p : P3} {m : M3} (hm : BM 6 m) (hd : det m ≠ 0) (np : Nrm p) (bp : BP 24 p) : Nrm (low (mul m p)) /\ BP 40 (low (mul m p)) := ⟨low_nrm (mul_nz hd np.nz), ((hm.mul bp).low (mul_nz hd np.nz)).mono (by decide)⟩
theorem ends {ns : D} {n : Int} {ds : List Int} (dd : Dd ds) (hl : ds.length = 60) {a b c d e p : P3} (h : Pts 24 [a, b, c, d, e]) (np : Nrm p) (bp : BP 24 p) (x1 x2 x7 x8 x11 x12 : Option D) :
    ∃ Z', (b_law_v28_0neu_3f_6 [some ns, x1, x2, some (.int 9), some (.lst (plan.map De.D)), some (.int n), some (.lst (ds.map .int)), x7, x8, some (.lst [ptD a, ptD b, ptD c, ptD d, ptD e]), some (ptD p), x11, x12] = .ok (.nx Z') \/ b_law_v28_0neu_3f_6 [some ns, x1, x2, some (.int 9), some (.lst (plan.map De.D)), some (.int n), some (.lst (ds.map .int)), x7, x8, some (.lst [ptD a, ptD b, ptD c, ptD d, ptD e]), some (ptD p), x11, x12] = .ok (.ct Z')) /\ ∃ y5 y6 y7 y8 y9 y10 y11 y12, Z' = [some ns, x1, x2, some (.int 9), some (.lst (plan.map De.D)), y5, y6, y7, y8, y9, y10, y11, y12] := by
  have el := lines_ok h (by show 5 <= 100; decide)
  rw [map5] at el
  unfold b_law_v28_0neu_3f_6; kd_p
  rw [el]
  rcases thr_cases [a, b, c, d, e] with ⟨et, _⟩ | ⟨et, hb⟩
  · rw [et, show (some (D.bl true)).getD (.bl false) = .bl true from rfl]; kd_p
    exact ⟨_, .inl rfl, _, _, _, _, _, _, _, _, rfl⟩
  · rw [et, show (none : Option D).getD (.bl false) = .bl false from rfl]; kd_p
    rw [ix5]; kd_p
    by_cases hne : p = a
    · rw [decide_eq_true ((eqP _ _).mpr hne)]; kd_p
      exact ⟨_, .inl rfl, _, _, _, _, _, _, _, _, rfl⟩
    · rw [decide_eq_false (fun z => hne ((eqP _ _).mp z))]; kd_p
      obtain ⟨m, em, dm, bm⟩ := change_ok (ds := (ds.drop 30).take 10) (fun d hd => dd d (List.mem_of_mem_drop (xb4 hd))) (by rw [xa6, xby]; omega)
      have na := h.nrm a (by simp)
      unfold b_law_v28_0neu_3f_6t; kd_p
      rw [so_ok ⟨h.nrm, fun q hq => (h.bd q hq).mono (by decide)⟩ hb np (bp.mono (by decide)) hne]; kd_p
      unfold b_law_v28_0neu_3f_6t_1; kd_p
      rw [eSl_mid _ _ _ _ (ds.map .int) 30 40 rfl rfl rfl (by rw [xab]; omega) (by decide), sl_ints]; kd_p
      rw [show m_law_change [.lst (((ds.drop 30).take (40 - 30)).map .int)] = _ from em]; kd_p
      unfold b_law_v28_0neu_3f_6t_2; kd_p
      rw [Lk42.gAdd_ll (by simp)]; kd_p
      rw [show [ptD a, ptD b, ptD c, ptD d, ptD e] ++ [ptD p] = ([a, b, c, d, e] ++ [p]).map ptD from rfl, led_all (N := 24) (by decide) (Pts.snoc h np bp) (by simp) bm dm _ rfl]; kd_p
      unfold b_law_v28_0neu_3f_6t_3; kd_p
      have hl5 : Pts 40 [low (mul m a), low (mul m b), low (mul m c), low (mul m d), low (mul m e)] := by
        have k : ∀ x ∈ [a, b, c, d, e].map fun p => low (mul m p), Nrm x /\ BP 40 x := fun x hx => by
          obtain ⟨y, hy, rfl⟩ := xbh.mp hx
          exact led_pt (N := 0) bm dm (h.nrm y hy) (h.bd y hy)
        exact ⟨fun x hx => (k x hx).1, fun x hx => (k x hx).2⟩
      have hb5 : Bent [low (mul m a), low (mul m b), low (mul m c), low (mul m d), low (mul m e)] := led_bent (ps := [a, b, c, d, e]) h.nrm dm hb
      have hp5 := led_pt (N := 0) bm dm np bp
      rw [show (([a, b, c, d, e] ++ [p]).map fun p => low (mul m p)).map ptD = [ptD (low (mul m a)), ptD (low (mul m b)), ptD (low (mul m c)), ptD (low (mul m d)), ptD (low (mul m e)), ptD (low (mul m p))] from rfl]
      rw [Lk42.eSl_to _ _ _ [ptD (low (mul m a)), ptD (low (mul m b)), ptD (low (mul m c)), ptD (low (mul m d)), ptD (low (mul m e)), ptD (low (mul m p))] 5 rfl rfl, show ∀ a b c d e f : D, gIx (.lst [a, b, c, d, e, f]) (.int 5) = .ok f from fun _ _ _ _ _ _ => rfl]; kd_p
      rw [show ∀ a b c d e f : D, List.take 5 [a, b, c, d, e, f] = [a, b, c, d, e] from fun _ _ _ _ _ _ => rfl, so_ok hl5 hb5 hp5.1 hp5.2 (led_ne np na dm hne)]; kd_p
      exact ⟨_, .inl rfl, _, _, _, _, _, _, _, _, rfl⟩
theorem turn_ok (ns : D) (n : Int) (x1 x2 x6 x7 x8 x9 x10 x11 x12 : Option D) : ∃ Z', (b_law_v28_0neu_3f [some ns, x1, x2, some (.int 9), some (.lst (plan.map De.D)), some (.int n), x6, x7, x8, x9, x10, x11, x12] = .ok (.nx Z') \/ b_law_v28_0neu_3f [some ns, x1, x2, some (.int 9), some (.lst (plan.map De.D)), some (.int n), x6, x7, x8, x9, x10, x11, x12] = .ok (.ct Z')) /\ ∃ y5 y6 y7 y8 y9 y10 y11 y12, Z' = [some ns, x1, x2, some (.int 9), some (.lst (plan.map De.D)), y5, y6, y7, y8, y9, y10, y11, y12] := by
  obtain ⟨ds, eds, lds, dd⟩ := numbers_ok n 60 (by decide)
  obtain ⟨m, em, dm, bm⟩ := change_ok (ds := ds.take 10) (fun d hd => dd d (xb4 hd)) (by rw [xa6]; omega)
  obtain ⟨cs, ec, pc, lc⟩ := curve_ok (ds := (ds.drop 10).take 12) (m := m) (by rw [xa6, xby]; omega) bm dm
  obtain ⟨r, er, nr, br⟩ := place_ok (ds := (ds.drop 24).take 4) (by rw [xa6, xby]; omega)
  unfold b_law_v28_0neu_3f; kd_p
  rw [show m_law_numbers_v1 [.int n, .int 60] = _ from eds]; kd_p
  unfold b_law_v28_0neu_3f_1; kd_p
  rw [Lk42.eSl_to _ _ _ (ds.map .int) 10 rfl rfl, <- List.map_take]; kd_p
  rw [em]; kd_p
  unfold b_law_v28_0neu_3f_2; kd_p
  rw [eSl_mid _ _ _ _ (ds.map .int) 10 22 rfl rfl rfl (by rw [xab]; omega) (by decide), sl_ints]; kd_p
  rw [ec]; kd_p
  unfold b_law_v28_0neu_3f_3; kd_p
  rw [Lk42.eSl_to _ _ _ (cs.map ptD) 5 rfl rfl, <- List.map_take]; kd_p
  have rest : ∀ fs : List P3, Pts 24 fs -> fs.length = 5 -> ∃ Z', (b_law_v28_0neu_3f_5 [some ns, x1, x2, some (.int 9), some (.lst (plan.map De.D)), some (.int n), some (.lst (ds.map .int)), some (rowsD m), some (.lst (cs.map ptD)), some (.lst (fs.map ptD)), x10, x11, x12] = .ok (.nx Z') \/ b_law_v28_0neu_3f_5 [some ns, x1, x2, some (.int 9), some (.lst (plan.map De.D)), some (.int n), some (.lst (ds.map .int)), some (rowsD m), some (.lst (cs.map ptD)), some (.lst (fs.map ptD)), x10, x11, x12] = .ok (.ct Z')) /\ ∃ y5 y6 y7 y8 y9 y10 y11 y12, Z' = [some ns, x1, x2, some (.int 9), some (.lst (plan.map De.D)), y5, y6, y7, y8, y9, y10, y11, y12] := by
    intro fs pf lf
    have c5 : 5 < cs.length := by omega
    obtain ⟨v, hv, ev⟩ : ∃ v : Nat, v < 5 /\ 1 + dg ds 23 % 4 = (v : Int) := ⟨(1 + dg ds 23 % 4).toNat, by omega, by omega⟩
    have hvf : v < fs.length := by omega
    unfold b_law_v28_0neu_3f_5; kd_p
    rw [show gIx (.lst (cs.map ptD)) (.int 5) = .ok (ptD (pk cs 5)) from Fl.ix c5, show gIx (.lst (ds.map .int)) (.int 23) = _ from ixd (k := 23) (by omega), show gIx (.lst (ds.map .int)) (.int 22) = _ from ixd (k := 22) (by omega)]; kd_p
    rw [gMod_pos _ _ (by decide), gMod_pos _ _ (by decide)]; kd_p
    rw [ev, Fl.ix hvf]
    rw [eSl_mid _ _ _ _ (ds.map .int) 24 28 rfl rfl rfl (by rw [xab]; omega) (by decide), sl_ints]; kd_p
    rw [show m_law_place_v4 [.lst (((ds.drop 24).take (28 - 24)).map .int)] = _ from er]; kd_p
    obtain ⟨p, ep, np, bp⟩ : ∃ p, gIx (.lst [ptD (pk cs 5), ptD (pk fs v), ptD r]) (.int (dg ds 22 % 3)) = .ok (ptD p) /\ Nrm p /\ BP 24 p := by
      rcases (show dg ds 22 % 3 = 0 \/ dg ds 22 % 3 = 1 \/ dg ds 22 % 3 = 2 by omega) with z | z | z <;> rw [z]
      · exact ⟨_, rfl, pc.nrm _ (pk_mem c5), pc.bd _ (pk_mem c5)⟩
      · exact ⟨_, rfl, pf.nrm _ (pk_mem hvf), pf.bd _ (pk_mem hvf)⟩
      · exact ⟨_, rfl, nr, br⟩
    rw [ep]; kd_p
    obtain ⟨a, b, c, d, e, rfl⟩ := five5 lf
    exact ends dd lds pf np bp _ _ _ _ _ _
  unfold b_law_v28_0neu_3f_4; kd_p
  rw [show gIx (.lst (ds.map .int)) (.int 21) = _ from ixd (k := 21) (by omega)]; kd_p
  rw [gMod_pos _ _ (by decide)]; kd_p
  by_cases hz : dg ds 21 % 4 = 1
  · rw [decide_eq_true hz]; kd_p
    rw [show rng1 [.int 5] = .ok ((rg 0 5).map fun k : Nat => D.int (k : Int)) from rng_rg 5 (by decide)]
    obtain ⟨qs, eq, lq, pq⟩ := lc_ex (ds := (rg 0 5).map fun k : Nat => D.int (k : Int)) (e := eCall m_law_place_v4 (aCons (eSl (eVar 7) (oSome (eOp gAdd (eC (.int 40)) (eOp gMul (eC (.int 4)) (eVar 0)))) (oSome (eOp gAdd (eC (.int 44)) (eOp gMul (eC (.int 4)) (eVar 0))))) aNil)) (Z := [some ns, x1, x2, some (.int 9), some (.lst (plan.map De.D)), some (.int n), some (.lst (ds.map .int)), some (rowsD m), some (.lst (cs.map ptD)), some (.lst ((cs.take 5).map ptD)), x10, x11, x12]) (fun p => Nrm p /\ BP 24 p) (by simp [rg]) (fun d hd => by
      obtain ⟨k, hk, rfl⟩ := xbh.mp hd
      have hk := (mem_rg.mp hk).2
      obtain ⟨p, ep, np, bp⟩ := place_ok (ds := (ds.drop (40 + 4 * k)).take 4) (by rw [xa6, xby]; omega)
      have bk : mulB (k : Int) = true := mulB_n (n := 4) (B.of (k := 6) (by omega)) (by decide)
      refine ⟨p, ?_, np, bp⟩
      rw [eCall_def, aCons_def, eSl_mid _ _ _ _ (ds.map .int) (40 + 4 * k) (44 + 4 * k) rfl (by kd_p; rw [gMul_ii 4 _ (by decide) bk]; kd_p; rw [show (40 : Int) + 4 * (k : Int) = ((40 + 4 * k : Nat) : Int) by omega]) (by kd_p; rw [gMul_ii 4 _ (by decide) bk]; kd_p; rw [show (44 : Int) + 4 * (k : Int) = ((44 + 4 * k : Nat) : Int) by omega]) (by rw [xab]; omega) (by omega), sl_ints, show 44 + 4 * k - (40 + 4 * k) = 4 by omega]; kd_p
      exact ep)
    have lq : qs.length = 5 := by rw [lq]; rfl
    rw [eq]; kd_p
    exact rest qs ⟨fun p hp => (pq p hp).1, fun p hp => (pq p hp).2⟩ lq
  · rw [decide_eq_false hz]; kd_p
    exact rest (cs.take 5) (Lk77.pts_take pc 5) (by rw [xa6]; omega)
theorem loop_ok (ns : List Int) (hl : ns.length <= 63) (x1 x2 : Option D) : b_law_v28_0neu_3 [some (.lst (ns.map .int)), x1, x2, some (.int 9), some (.lst (plan.map De.D)), none, none, none, none, none, none, none, none] = .ok (.rt (.bl true)) := by
  unfold b_law_v28_0neu_3; kd_p
  rw [Lk42.eSl_to _ _ _ ([.int 0] ++ ns.map .int) 16 (by kd_p; exact Lk42.gAdd_ll (by simp; omega)) rfl]; kd_p
  rw [show ([D.int 0] ++ ns.map D.int).take 16 = (([0] ++ ns).take 16).map D.int by rw [List.map_take, xbj]; rfl]
  have turn : ∀ d ∈ (([0] ++ ns).take 16).map D.int, ∀ Z, (∃ x5 x6 x7 x8 x9 x10 x11 x12, Z = [some (.lst (ns.map .int)), x1, x2, some (.int 9), some (.lst (plan.map De.D)), x5, x6, x7, x8, x9, x10, x11, x12]) -> ∃ Z', (b_law_v28_0neu_3f (Z.set 5 (some d)) = .ok (.nx Z') \/ b_law_v28_0neu_3f (Z.set 5 (some d)) = .ok (.ct Z')) /\ ∃ x5 x6 x7 x8 x9 x10 x11 x12, Z' = [some (.lst (ns.map .int)), x1, x2, some (.int 9), some (.lst (plan.map De.D)), x5, x6, x7, x8, x9, x10, x11, x12] := by
    rintro d hd Z ⟨x5, x6, x7, x8, x9, x10, x11, x12, rfl⟩
    obtain ⟨n, _, rfl⟩ := xbh.mp hd
    exact turn_ok _ n _ _ _ _ _ _ _ _ _
  obtain ⟨Z', e, x5, x6, x7, x8, x9, x10, x11, x12, rfl⟩ := forL_inv (i := 5) (fb := b_law_v28_0neu_3f) _ _ turn [some (.lst (ns.map .int)), x1, x2, some (.int 9), some (.lst (plan.map De.D)), none, none, none, none, none, none, none, none] ⟨_, _, _, _, _, _, _, _, rfl⟩
  rw [e]; kd_p
  unfold b_law_v28_0neu_4; kd_p
theorem law_ok (ns : List Int) (hl : ns.length <= 63) : m_law_v28 [.lst (ns.map .int)] = .ok (.bl true) := by
  have nD : numD m_bow_plan [] = .ok (.tup [.lst (plan.map De.D), .int 9]) := by unfold numD; rw [told]; rfl
  rw [m_law_v28_go]; unfold b_law_v28 sTold
  rw [told]
  show fin (b_law_v28_0n [some (.lst (ns.map .int)), some (.tup [.lst (plan.map De.D), .int 9]), none, none, none, none, none, none, none, none, none, none, none]) = _
  unfold b_law_v28_0n sIfB; kd_p
  rw [t2_0]; kd_p
  rw [t2_1]; kd_p
  rw [law_whole_i]; kd_p
  show fin (b_law_v28_0ne [some (.lst (ns.map .int)), some (.tup [.lst (plan.map De.D), .int 9]), none, none, none, none, none, none, none, none, none, none, none]) = _
  unfold b_law_v28_0ne
  show fin (b_law_v28_0neu [some (.lst (ns.map .int)), none, some (.lst (plan.map De.D)), some (.int 9), none, none, none, none, none, none, none, none, none]) = _
  unfold b_law_v28_0neu sNewP; kd_p
  rw [show (gList [.lst (plan.map De.D)]).noerr = .ok (plan.map De.D) from rfl]
  show fin (seqK (bif imms (plan.map De.D) then .ok (.nx [some (.lst (ns.map .int)), none, some (.lst (plan.map De.D)), some (.int 9), some (.lst (plan.map De.D)), none, none, none, none, none, none, none, none]) else .bad) b_law_v28_0neu_1) = _
  rw [imms_plan, cond_true, seqK_nx]
  unfold b_law_v28_0neu_1; kd_p
  rw [appK_ok _ _ _ _ (by decide)]; kd_p
  unfold b_law_v28_0neu_2; kd_p
  rw [nD]; kd_p
  rw [Lk12.ne_same dat_plan]; kd_p
  rw [loop_ok ns hl]; rfl
end Lk79
end
section
namespace Kx
open L2 DL Mir
local macro_rules | `(tactic| walk_at "C") => `(tactic| first | assumption | exact XC.lc (by assumption) _ _ _ _ _ _)
local macro_rules | `(tactic| kcf_m) => `(tactic| first | assumption | exact XC.calm (by walk_at "C") | rfl)
local macro_rules | `(tactic| walk_at "F") => `(tactic| first | exact cf_lt | exact cf_le | exact cf_gt | exact cf_ge | exact cf_is | exact cf_isn | exact cf_eq (by walk_at "C") | exact cf_ne (by walk_at "C") | exact cf_in (by walk_at "C") | exact cf_nin (by walk_at "C"))
local macro_rules | `(tactic| kst_p) => `(tactic| first | ((with_reducible refine @de_var _ _ _ _ _ ?_ ?_ ?_ ?_); rfl; (first | exact Or.inl rfl | exact Or.inr (Or.inl rfl) | exact Or.inr (Or.inr rfl)); decide; decide) | ((with_reducible refine @da_cons _ _ _ _ _ _ ?_ ?_ ?_); kst_p; kst_p; rfl) | ((with_reducible refine @de_int _ _ _ _ _)) | ((with_reducible refine @da_nil _ _)) | ((with_reducible refine @de_ix _ _ _ _ _ _ _ ?_ ?_ ?_); kst_p; kst_p; (intro _ _ ; rfl)) | ((with_reducible refine @de_call _ _ _ _ _ _ _ _ _ _ (by walk_at "C") ?_ ?_ ?_ ?_ ?_ ?_); kcf_m; kst_p; rfl; decide; rfl; rfl) | ((with_reducible refine @de_mul _ _ _ _ _ _ _ ?_ ?_); kst_p; kst_p) | ((with_reducible refine @dt_cmp1 _ _ _ _ _ _ _ _ _ ?_ ?_ ?_ ?_); walk_at "F"; kst_p; kst_p; (first | exact nobehind _ (by decide) (by decide) | rfl)) | ((with_reducible refine @de_mod _ _ _ _ _ _ _ ?_ ?_); kst_p; kst_p) | ((with_reducible refine @de_add _ _ _ _ _ _ _ ?_ ?_); kst_p; kst_p) | ((with_reducible refine @df_lst _ _ _ _ _ ?_); kst_p) | ((with_reducible refine @de_sub _ _ _ _ _ _ _ ?_ ?_); kst_p; kst_p) | ((with_reducible refine @de_bl _ _ _ _ _)) | ((with_reducible refine @DF.val _ _ _ _ ?_); kst_p) | ((with_reducible refine @de_len _ _ _ _ _ _ _ ?_ ?_ ?_ ?_ ?_); kcf_m; kst_p; rfl; rfl; rfl) | ((with_reducible refine @di_seq _ _ _ _ _ ?_); kst_p) | ((with_reducible refine @do_some _ _ _ _ ?_); kst_p) | ((with_reducible refine @di_range1 _ _ _ _ _ _ _ ?_ ?_ ?_ ?_); kcf_m; kst_p; rfl; rfl) | ((with_reducible refine @de_tup _ _ _ _ _ _ ?_); kst_p) | ((with_reducible refine @de_fdiv _ _ _ _ _ _ _ ?_ ?_); kst_p; kst_p) | ((with_reducible refine @de_sl _ _ _ _ _ _ _ _ _ _ ?_ ?_ ?_); kst_p; kst_p; kst_p) | ((with_reducible refine @dw_or1 _ _ _ _ _ ?_); kst_p) | ((with_reducible refine @de_str _ _ _ _ _)) | ((with_reducible refine @dt_not _ _ _ _ _ ?_); kst_p) | ((with_reducible refine @de_cmp1 _ _ _ _ _ _ _ _ _ ?_ ?_ ?_ ?_); walk_at "F"; kst_p; kst_p; (first | exact nobehind _ (by decide) (by decide) | rfl)) | ((with_reducible refine @df_list _ _ _ _ _ _ _ ?_ ?_ ?_ ?_ ?_); kcf_m; kst_p; rfl; rfl; rfl) | ((with_reducible refine @de_k _ _ _ _ _ ?_ ?_ ?_); kcf_m; rfl; decide) | ((with_reducible refine @de_abs _ _ _ _ _ _ _ ?_ ?_ ?_ ?_ ?_); kcf_m; kst_p; rfl; rfl; rfl) | ((with_reducible refine @de_neg _ _ _ _ _ ?_); kst_p) | ((with_reducible refine @DW.dt _ _ _ _ ?_); kst_p) | ((with_reducible refine @dw_and _ _ _ _ _ _ _ _ ?_ ?_); kst_p; kst_p) | ((with_reducible refine @do_none _ _)) | ((with_reducible refine @de_pow _ _ _ _ _ _ _ ?_ ?_); kst_p; kst_p) | ((with_reducible refine @dw_and1 _ _ _ _ _ ?_); kst_p) | ((with_reducible refine @dw_or _ _ _ _ _ _ _ _ ?_ ?_); kst_p; kst_p) | ((with_reducible refine @de_non _ _ _ _)) | ((with_reducible refine @de_and _ _ _ _ _ _ _ _ ?_ ?_); kst_p; kst_p) | ((with_reducible refine @de_max _ _ _ _ _ _ _ ?_ ?_ ?_ ?_ ?_ ?_); kcf_m; kcf_m; kst_p; rfl; rfl; rfl) | ((with_reducible refine @de_setlenU _ _ _ (by walk_at "C") ?_ ?_ _ _ _ _ _ _ ?_ ?_ ?_ ?_ ?_ ?_ ?_); kcf_m; kcf_m; kst_p; rfl; rfl; rfl; rfl; rfl; rfl) | ((with_reducible refine @di_enumerate1 _ _ _ _ _ _ _ _ _ ?_ ?_ ?_ ?_); kcf_m; kst_p; rfl; rfl) | ((with_reducible refine @dt_val _ _ _ _ ?_ ?_); kst_p; (intro _ ; rfl)) | ((with_reducible refine @de_one _ _ _ _ _ _ ?_); kst_p) | ((refine @de_int _ _ _ _ _)) | ((refine @dt_cmp1 _ _ _ _ _ _ _ _ _ ?_ ?_ ?_ ?_); walk_at "F"; kst_p; kst_p; (first | exact nobehind _ (by decide) (by decide) | rfl)) | ((refine @dw_or1 _ _ _ _ _ ?_); kst_p) | ((refine @de_str _ _ _ _ _)) | ((refine @dt_not _ _ _ _ _ ?_); kst_p) | ((refine @DW.dt _ _ _ _ ?_); kst_p) | ((refine @dw_and _ _ _ _ _ _ _ _ ?_ ?_); kst_p; kst_p) | ((refine @dw_and1 _ _ _ _ _ ?_); kst_p) | ((refine @dw_or _ _ _ _ _ _ _ _ ?_ ?_); kst_p; kst_p) | ((refine @dt_val _ _ _ _ ?_ ?_); kst_p; (intro _ ; rfl)))
local macro_rules | `(tactic| walk_at "GS") => `(tactic| first | exact @pgs_nil _ | ((refine @pgs_cons _ _ _ _ _ ?_ ?_ ?_); ((refine @pg_name _ _ _ _ ?_ ?_ ?_ ?_); assumption; rfl; (first | exact Or.inl rfl | exact Or.inr rfl); (first | exact .inl rfl | exact .inr rfl | assumption)); walk_at "GS"; rfl))
local macro_rules | `(tactic| kpf_c) => `(tactic| first | ((with_reducible refine @dg_name _ _ _ _ ?_ ?_ ?_ ?_); assumption; rfl; (first | exact Or.inl rfl | exact Or.inr rfl); (first | exact .inl rfl | exact .inr rfl | assumption)) | ((with_reducible refine @dg_seq _ _ _ _ _ _ ?_ ?_ ?_ ?_ ?_); kcf_m; walk_at "GS"; rfl; rfl; rfl))
local macro_rules | `(tactic| kst_p2) => `(tactic| exact @ds_set0 _ _ _ _ _ _ _ _ _ (by assumption) (by kst_p) (by rfl) (by first | exact Or.inl rfl | exact Or.inr rfl) (by rfl) (by first | exact .inl rfl | exact .inr rfl | assumption))
local macro_rules | `(tactic| walk_at "s5") => `(tactic| exact @ds_new _ _ _ _ _ _ _ _ _ _ _ (by assumption) (by kst_p) (by rfl) (by rfl) (by first | exact Or.inl rfl | exact Or.inr rfl) (by rfl) (by first | exact .inl rfl | exact .inr rfl | assumption))
local macro_rules | `(tactic| walk_at "s7") => `(tactic| exact @ds_app _ _ _ _ _ _ _ _ _ _ _ _ (by kst_p) (by rfl) (by rfl) (by first | exact Or.inl rfl | exact Or.inr (Or.inl rfl) | exact Or.inr (Or.inr rfl)) (by decide) (by decide) (by rfl) (by rfl) (by rfl) (by rfl) (by rfl) (by rfl))
local macro_rules | `(tactic| walk_at "s1") => `(tactic| exact @ds_set _ _ _ _ _ _ _ _ _ _ (by assumption) (by kst_p) (by rfl) (by rfl) (by first | exact Or.inl rfl | exact Or.inr rfl) (by rfl) (by first | exact .inl rfl | exact .inr rfl | assumption))
local macro_rules | `(tactic| walk_at "s3") => `(tactic| exact @ds_ret _ _ _ _ _ _ _ _ (by kst_p))
local macro_rules | `(tactic| walk_at "s9") => `(tactic| exact @ds_asg _ _ _ _ _ _ _ _ _ _ (by kst_p) (by kpf_c) (by rfl) (by rfl) (by rfl) (by rfl))
local macro_rules | `(tactic| walk_at "s2") => `(tactic| exact @ds_setP _ _ _ _ _ _ _ _ _ _ (by assumption) (by kst_p) (by rfl) (by rfl) (by first | exact Or.inl rfl | exact Or.inr rfl) (by rfl) (by first | exact .inl rfl | exact .inr rfl | assumption))
local macro_rules | `(tactic| walk_at "s4") => `(tactic| exact @ds_expr _ _ _ _ _ _ _ (by kst_p) (by rfl))
local macro_rules | `(tactic| walk_at "s6") => `(tactic| exact @ds_newP _ _ _ _ _ _ _ _ _ _ _ (by assumption) (by kst_p) (by rfl) (by rfl) (by first | exact Or.inl rfl | exact Or.inr rfl) (by rfl) (by first | exact .inl rfl | exact .inr rfl | assumption))
local macro_rules | `(tactic| kd_p1) => `(tactic| exact (@dss_one _ _ _ _ _ _ _ (by walk_at "s3")))
local macro_rules | `(tactic| walk_at "I3") => `(tactic| exact (@ds_if _ _ _ _ _ _ _ _ _ _ _ _ (by kst_p) (by kd_p1) (@dss_nil _ _ _ _)))
set_option maxHeartbeats 4000000
variable {P : Program} {w : World} {K : xFg} {mg : Str -> Option Value} {base : Heap} {f : Addr} {fd : FuncData} {k : Nat}
local macro_rules | `(tactic| kst_p1) => `(tactic| exact ⟨rfl, rfl, rfl, by decide +kernel, rfl, by decide +kernel, by decide +kernel⟩)
local macro_rules | `(tactic| walk_at "b0") => `(tactic| exact fun _ _ _ _ _ _ us hl => match us, hl with | [], _ => rfl)
local macro_rules | `(tactic| walk_at "b1") => `(tactic| exact fun _ _ _ _ _ _ us hl => match us, hl with | [_], _ => rfl)
local macro_rules | `(tactic| kcj_m) => `(tactic| exact fun _ _ _ _ _ _ us hl => match us, hl with | [_, _], _ => rfl)
local macro_rules | `(tactic| walk_at "b3") => `(tactic| exact fun _ _ _ _ _ _ us hl => match us, hl with | [_, _, _], _ => rfl)
local macro_rules | `(tactic| walk_at "b4") => `(tactic| exact fun _ _ _ _ _ _ us hl => match us, hl with | [_, _, _, _], _ => rfl)
local macro_rules | `(tactic| walk_at "b5") => `(tactic| exact fun _ _ _ _ _ _ us hl => match us, hl with | [_, _, _, _, _], _ => rfl)
def top (i : Nat) : Stmt := PySem.Challenge.pw_chalkline_k79_whole_bow_plan.main.body.getD i (.Pass ⟨0, 0, 0, 0⟩)
abbrev s_bow_plan : Stmt := top 31
theorem ok_bow_plan (F : FA K mg "bow_plan" s_bow_plan [] f fd) (q2 : mg "list" = none) (q0 : ∃ u v, mg "PLAN" = some u /\ RelV v u /\ ∀ G, Rep K mg G k_PLAN v) (q1 : ∃ u v, mg "LAST" = some u /\ RelV v u /\ ∀ G, Rep K mg G k_LAST v) : FnAtL P w K mg base (k + 1) "bow_plan" m_bow_plan := F.okL  (N := []) (by kst_p1) rfl rfl fun _ _ _ _ _ _ C L nd => (@dsl_ret _ _ _ _ _ _ _ _ _ (by kst_p) (by kst_p) (by rfl) (by rfl))
abbrev s__law_numbers : Stmt := top 33
theorem ok__law_numbers (F : FA K mg "_law_numbers" s__law_numbers ["_law_cell", "_law_many"] f fd) (q1 : mg "max" = none) (q0 : mg "range" = none) : FnAt P w K mg base (k + 1) "_law_numbers" m_law_numbers_v1 := F.ok (own' := []) (N := ["_law_cell", "_law_many", "_law_number", "_law_left", "_law_found", "_law_k", "_law_one"]) (by kst_p1) rfl rfl fun _ _ _ _ _ _ C L nd => (@dss_cons _ _ _ _ _ _ _ _ _ _ (by kst_p2) (@dss_cons _ _ _ _ _ _ _ _ _ _ (by kst_p2) (@dss_cons _ _ _ _ _ _ _ _ _ _ (by walk_at "s5") (@dss_cons _ _ _ _ _ _ _ _ _ _ (@ds_for _ _ _ _ _ _ _ _ _ _ _ _ L C.calm (by kst_p) (by kpf_c) (@dss_one _ _ _ _ _ _ _ (@ds_if _ _ _ _ _ _ _ _ _ _ _ _ (@DW.dt _ _ _ _ (@dw_and _ _ _ _ _ _ _ _ (@dt_cmp1 _ _ _ _ _ _ _ _ _ (@cf_ge _) (by kst_p) (by kst_p) (by first | exact nobehind _ (by decide) (by decide) | rfl)) (@dw_and1 _ _ _ _ _ (@dt_cmp1 _ _ _ _ _ _ _ _ _ (@cf_gt _) (by kst_p) (@de_int _ _ _ _ _) (by first | exact nobehind _ (by decide) (by decide) | rfl))))) (@dss_cons _ _ _ _ _ _ _ _ _ _ (by walk_at "s7") (@dss_one _ _ _ _ _ _ _ (by walk_at "s1"))) (@dss_cons _ _ _ _ _ _ _ _ _ _ (by walk_at "s1") (@dss_one _ _ _ _ _ _ _ (by walk_at "s7"))))) (by rfl) (by intro _ ; rfl)) (@dss_rel _ _ _ _ _ _ _ _ 4 (by rfl) (by rfl) (by kd_p1))))))
abbrev s__law_det : Stmt := top 39
theorem ok__law_det (F : FA K mg "_law_det" s__law_det ["_law_one", "_law_other", "_law_third"] f fd) : FnAt P w K mg base (k + 1) "_law_det" m_law_det_v2 := F.ok (own' := []) (N := ["_law_one", "_law_other", "_law_third", "_law_a", "_law_b", "_law_c", "_law_d", "_law_e", "_law_f", "_law_first", "_law_second"]) (by kst_p1) rfl rfl fun _ _ _ _ _ _ C L nd => (@dss_cons _ _ _ _ _ _ _ _ _ _ (by walk_at "s9") (@dss_cons _ _ _ _ _ _ _ _ _ _ (by walk_at "s9") (@dss_cons _ _ _ _ _ _ _ _ _ _ (by kst_p2) (@dss_cons _ _ _ _ _ _ _ _ _ _ (by kst_p2) (by kd_p1)))))
abbrev s__law_change : Stmt := top 40
theorem ok__law_change (F : FA K mg "_law_change" s__law_change ["_law_some"] f fd) (q1 : mg "range" = none) (q0 : FnAt P w K mg base k "_law_det" m_law_det_v2) : FnAt P w K mg base (k + 1) "_law_change" m_law_change := F.ok (own' := []) (N := ["_law_some", "_law_most", "_law_rows", "_law_j", "_law_row"]) (by kst_p1) rfl rfl fun _ _ _ _ _ _ C L nd => (@dss_cons _ _ _ _ _ _ _ _ _ _ (by kst_p2) (@dss_cons _ _ _ _ _ _ _ _ _ _ (by walk_at "s5") (@dss_cons _ _ _ _ _ _ _ _ _ _ (@ds_for _ _ _ _ _ _ _ _ _ _ _ _ L C.calm (by kst_p) (by kpf_c) (@dss_cons _ _ _ _ _ _ _ _ _ _ (@ds_setLC _ _ _ _ _ _ _ _ _ _ _ _ _ _ _ _ _ _ _ _ 4 C.calm nd (LC.of (k := 1) (NY := ["_law_k", "_law_some", "_law_most", "_law_rows", "_law_j", "_law_row"]) (N := ["_law_some", "_law_most", "_law_rows", "_law_j", "_law_row"]) (sc0 := (defScope s__law_change)) rfl rfl (by decide +kernel)) rfl (by kst_p) (fun _ _ _ _ nd2 => ⟨(by kpf_c), (@dts_nil _ _), (by kst_p)⟩) (by rfl) (by rfl) (by rfl) (by rfl) (by intro _ ; rfl)) (@dss_one _ _ _ _ _ _ _ (@ds_app _ _ _ _ _ _ _ _ 2 _ _ _ (@DF.val _ _ _ _ (@df_lc _ _ _ _ _ _ _ _ _ _ _ _ _ _ _ C.calm (LC.of (k := 1) (NY := ["_law_one", "_law_some", "_law_most", "_law_rows", "_law_j", "_law_row"]) (N := ["_law_some", "_law_most", "_law_rows", "_law_j", "_law_row"]) (sc0 := (defScope s__law_change)) rfl rfl (by decide +kernel)) rfl (by kst_p) (fun _ _ _ _ nd2 => ⟨(by kpf_c), (@dts_nil _ _), (by kst_p)⟩) (by intro _ ; rfl))) (by rfl) (by rfl) (by first | exact Or.inl rfl | exact Or.inr (Or.inl rfl) | exact Or.inr (Or.inr rfl)) (by decide) (by decide) (by rfl) (by rfl) (by rfl) (by rfl) (by rfl) (by rfl)))) (by rfl) (by intro _ ; rfl)) (@dss_rel _ _ _ _ _ _ _ _ 2 (by rfl) (by rfl) (@dss_cons _ _ _ _ _ _ _ _ _ _ (by walk_at "I3") (by kd_p1))))))
abbrev s__law_lowest : Stmt := top 35
theorem ok__law_lowest (F : FA K mg "_law_lowest" s__law_lowest ["_law_x", "_law_y", "_law_z"] f fd) (q0 : mg "abs" = none) : FnAt P w K mg base (k + 1) "_law_lowest" m_law_lowest_v1 := F.ok (own' := []) (N := ["_law_x", "_law_y", "_law_z", "_law_one", "_law_other", "_law_last"]) (by kst_p1) rfl rfl fun _ _ _ _ _ _ C L nd => (@dss_cons _ _ _ _ _ _ _ _ _ _ (by kst_p2) (@dss_cons _ _ _ _ _ _ _ _ _ _ (@ds_for _ _ _ _ _ _ _ _ _ _ _ _ L C.calm (by kst_p) (by kpf_c) (@dss_one _ _ _ _ _ _ _ (@ds_while _ _ _ _ _ _ _ _ _ L (by kst_p) (@dss_one _ _ _ _ _ _ _ (@ds_par _ _ _ _ _ 3 4 _ _ _ _ _ _ _ _ _ _ _ C.calm nd (by kst_p) (by decide) (by rfl) (by rfl) (by rfl) (by rfl) (by rfl) (by rfl) (by rfl))))) (by rfl) (by intro _ ; rfl)) (@dss_cons _ _ _ _ _ _ _ _ _ _ (@ds_set0 _ _ _ _ _ _ _ _ 5 nd (@de_ix _ _ _ _ _ _ _ (@DF.val _ _ _ _ (@df_lc _ _ _ _ _ _ _ _ _ _ _ _ _ _ _ C.calm (LC.of (k := 1) (NY := ["_law_number", "_law_x", "_law_y", "_law_z", "_law_one", "_law_other", "_law_last"]) (N := ["_law_x", "_law_y", "_law_z", "_law_one", "_law_other", "_law_last"]) (sc0 := (defScope s__law_lowest)) rfl rfl (by decide +kernel)) rfl (by kst_p) (fun _ _ _ _ nd2 => ⟨(by kpf_c), (@dts_one _ _ _ _ (by kst_p)), (by kst_p)⟩) (by intro _ ; rfl))) (by kst_p) (by intro _ _ ; rfl)) (by rfl) (by first | exact Or.inl rfl | exact Or.inr rfl) (by rfl) (by first | exact .inl rfl | exact .inr rfl | assumption)) (@dss_cons _ _ _ _ _ _ _ _ _ _ (@ds_if _ _ _ _ _ _ _ _ _ _ _ _ (@dt_cmp1 _ _ _ _ _ _ _ _ _ (@cf_lt _) (by kst_p) (@de_int _ _ _ _ _) (by first | exact nobehind _ (by decide) (by decide) | rfl)) (@dss_one _ _ _ _ _ _ _ (by kst_p2)) (@dss_nil _ _ _ _)) (by kd_p1)))))
abbrev s__law_dot : Stmt := top 38
theorem ok__law_dot (F : FA K mg "_law_dot" s__law_dot ["_law_one", "_law_other"] f fd) : FnAt P w K mg base (k + 1) "_law_dot" m_law_dot := F.ok (own' := []) (N := ["_law_one", "_law_other"]) (by kst_p1) rfl rfl fun _ _ _ _ _ _ C L nd => (by kd_p1)
abbrev s__law_led : Stmt := top 41
theorem ok__law_led (F : FA K mg "_law_led" s__law_led ["_law_rows", "_law_place_here"] f fd) (q0 : FnAt P w K mg base k "_law_lowest" m_law_lowest_v1) (q1 : FnAt P w K mg base k "_law_dot" m_law_dot) : FnAt P w K mg base (k + 1) "_law_led" m_law_led_v1 := F.ok (own' := []) (N := ["_law_rows", "_law_place_here"]) (by kst_p1) rfl rfl fun _ _ _ _ _ _ C L nd => (by kd_p1)
abbrev s__law_curve : Stmt := top 42
theorem ok__law_curve (F : FA K mg "_law_curve" s__law_curve ["_law_some", "_law_rows"] f fd) (q1 : mg "range" = none) (q2 : mg "len" = none) (q0 : FnAt P w K mg base k "_law_led" m_law_led_v1) : FnAt P w K mg base (k + 1) "_law_curve" m_law_curve := F.ok (own' := []) (N := ["_law_some", "_law_rows", "_law_found", "_law_k", "_law_t", "_law_s"]) (by kst_p1) rfl rfl fun _ _ _ _ _ _ C L nd => (@dss_cons _ _ _ _ _ _ _ _ _ _ (by walk_at "s5") (@dss_cons _ _ _ _ _ _ _ _ _ _ (@ds_for _ _ _ _ _ _ _ _ _ _ _ _ L C.calm (by kst_p) (by kpf_c) (@dss_cons _ _ _ _ _ _ _ _ _ _ (by walk_at "s1") (@dss_cons _ _ _ _ _ _ _ _ _ _ (by walk_at "s1") (@dss_cons _ _ _ _ _ _ _ _ _ _ (@ds_if _ _ _ _ _ _ _ _ _ _ _ _ (by kst_p) (@dss_one _ _ _ _ _ _ _ (by walk_at "s1")) (@dss_nil _ _ _ _)) (@dss_one _ _ _ _ _ _ _ (by walk_at "s7"))))) (by rfl) (by intro _ ; rfl)) (@dss_rel _ _ _ _ _ _ _ _ 2 (by rfl) (by rfl) (by kd_p1))))
abbrev s__law_whole : Stmt := top 34
theorem ok__law_whole (F : FA K mg "_law_whole" s__law_whole ["_law_found"] f fd) (q0 : mg "isinstance" = none) (q2 : mg "int" = none) (q1 : mg "bool" = none) : FnAt P w K mg base (k + 1) "_law_whole" m_law_whole := F.ok (own' := []) (N := ["_law_found"]) (by kst_p1) rfl rfl fun _ _ _ _ _ _ C L nd => (@dss_one _ _ _ _ _ _ _ (@ds_ret _ _ _ _ _ _ _ _ (@de_and _ _ _ _ _ _ _ _ (@de_isi _ _ _ _ _ _ _ q0 (@da_cons _ _ _ _ _ _ (by kst_p) (@da_cons _ _ _ _ _ _ (@de_ty _ _ _ _ _ q2 bt_int (by rfl) (by decide) (by decide)) (@da_nil _ _) (by rfl)) (by rfl)) (by rfl) (by rfl) (by rfl)) (@de_one _ _ _ _ _ _ (@de_not _ _ _ _ _ (@de_isi _ _ _ _ _ _ _ q0 (@da_cons _ _ _ _ _ _ (by kst_p) (@da_cons _ _ _ _ _ _ (@de_ty _ _ _ _ _ q1 bt_bool (by rfl) (by decide) (by decide)) (@da_nil _ _) (by rfl)) (by rfl)) (by rfl) (by rfl) (by rfl)))))))
abbrev s__law_place : Stmt := top 36
theorem ok__law_place (F : FA K mg "_law_place" s__law_place ["_law_some"] f fd) (q0 : FnAt P w K mg base k "_law_lowest" m_law_lowest_v1) : FnAt P w K mg base (k + 1) "_law_place" m_law_place_v4 := F.ok (own' := []) (N := ["_law_some", "_law_most", "_law_x", "_law_y", "_law_z"]) (by kst_p1) rfl rfl fun _ _ _ _ _ _ C L nd => (@dss_cons _ _ _ _ _ _ _ _ _ _ (by kst_p2) (@dss_cons _ _ _ _ _ _ _ _ _ _ (by kst_p2) (@dss_cons _ _ _ _ _ _ _ _ _ _ (by kst_p2) (@dss_cons _ _ _ _ _ _ _ _ _ _ (by kst_p2) (@dss_cons _ _ _ _ _ _ _ _ _ _ (@ds_if _ _ _ _ _ _ _ _ _ _ _ _ (by kst_p) (@dss_one _ _ _ _ _ _ _ (by kst_p2)) (@dss_nil _ _ _ _)) (by kd_p1))))))
abbrev s__law_lines : Stmt := top 44
theorem ok__law_lines (F : FA K mg "_law_lines" s__law_lines ["_law_places"] f fd) (q1 : mg "range" = none) (q2 : mg "len" = none) (q0 : FnAt P w K mg base k "_law_det" m_law_det_v2) : FnAt P w K mg base (k + 1) "_law_lines" m_law_lines := F.ok (own' := []) (N := ["_law_places", "_law_i", "_law_j", "_law_k"]) (by kst_p1) rfl rfl fun _ _ _ _ _ _ C L nd => (@dss_cons _ _ _ _ _ _ _ _ _ _ (@ds_for _ _ _ _ _ _ _ _ _ _ _ _ L C.calm (by kst_p) (by kpf_c) (@dss_one _ _ _ _ _ _ _ (@ds_for _ _ _ _ _ _ _ _ _ _ _ _ L C.calm (by kst_p) (by kpf_c) (@dss_one _ _ _ _ _ _ _ (@ds_for _ _ _ _ _ _ _ _ _ _ _ _ L C.calm (by kst_p) (by kpf_c) (@dss_one _ _ _ _ _ _ _ (by walk_at "I3")) (by rfl) (by intro _ ; rfl))) (by rfl) (by intro _ ; rfl))) (by rfl) (by intro _ ; rfl)) (by kd_p1))
abbrev s__law_cross : Stmt := top 37
theorem ok__law_cross (F : FA K mg "_law_cross" s__law_cross ["_law_one", "_law_other"] f fd) (q0 : FnAt P w K mg base k "_law_lowest" m_law_lowest_v1) : FnAt P w K mg base (k + 1) "_law_cross" m_law_cross_v2 := F.ok (own' := []) (N := ["_law_one", "_law_other", "_law_a", "_law_b", "_law_c", "_law_d", "_law_e", "_law_f"]) (by kst_p1) rfl rfl fun _ _ _ _ _ _ C L nd => (@dss_cons _ _ _ _ _ _ _ _ _ _ (by walk_at "s9") (@dss_cons _ _ _ _ _ _ _ _ _ _ (by walk_at "s9") (by kd_p1)))
abbrev s__law_walk : Stmt := top 43
theorem ok__law_walk (F : FA K mg "_law_walk" s__law_walk ["_law_places", "_law_plan"] f fd) (q3 : mg "list" = none) (q0 : mg "isinstance" = none) (q2 : mg "tuple" = none) (q4 : mg "len" = none) (q1 : FnAt P w K mg base k "_law_cross" m_law_cross_v2) : FnAt P w K mg base (k + 1) "_law_walk" m_law_walk := F.ok (own' := []) (N := ["_law_places", "_law_plan", "_law_pegs", "_law_lines_here", "_law_deed", "_law_some", "_law_found"]) (by kst_p1) rfl rfl fun _ _ _ _ _ _ C L nd => (@dss_cons _ _ _ _ _ _ _ _ _ _ (by walk_at "s5") (@dss_cons _ _ _ _ _ _ _ _ _ _ (by walk_at "s5") (@dss_cons _ _ _ _ _ _ _ _ _ _ (@ds_for _ _ _ _ _ _ _ _ _ _ _ _ L C.calm (by kst_p) (by kpf_c) (@dss_cons _ _ _ _ _ _ _ _ _ _ (@ds_if _ _ _ _ _ _ _ _ _ _ _ _ (@DW.dt _ _ _ _ (@dw_or _ _ _ _ _ _ _ _ (@dt_not _ _ _ _ _ (@dt_val _ _ _ _ (@de_isi _ _ _ _ _ _ _ q0 (@da_cons _ _ _ _ _ _ (by kst_p) (@da_cons _ _ _ _ _ _ (@de_ty _ _ _ _ _ q2 bt_tuple (by rfl) (by decide) (by decide)) (@da_nil _ _) (by rfl)) (by rfl)) (by rfl) (by rfl) (by rfl)) (by intro _ ; rfl))) (by kst_p))) (by kd_p1) (@dss_nil _ _ _ _)) (@dss_alias1 _ _ _ _ _ _ _ _ 2 5 _ _ _ _ nd (@dsa_ifA _ _ _ _ _ _ _ _ _ 3 _ _ _ _ _ _ _ nd (by kst_p) (@dsa_ifR _ _ _ _ _ _ _ _ _ _ _ _ _ (@DW.dt _ _ _ _ (@dw_or _ _ _ _ _ _ _ _ (@dt_not _ _ _ _ _ (@dt_chain2 _ _ _ _ _ _ _ _ _ _ _ _ _ (@cf_le _) (@cf_lt _) (@de_int _ _ _ _ _) (by kst_p) (by kst_p) (by with_unfolding_all rfl))) (@dw_or _ _ _ _ _ _ _ _ (@dt_not _ _ _ _ _ (@dt_chain2 _ _ _ _ _ _ _ _ _ _ _ _ _ (@cf_le _) (@cf_lt _) (@de_int _ _ _ _ _) (by kst_p) (by kst_p) (by with_unfolding_all rfl))) (by kst_p)))) (by kd_p1) (@dsa_set _ _ _ _ _ _ _ _ _ 6 _ _ _ _ nd (by kst_p) (@dsa_end _ _ _ _ _ _ _ _ (@dss_one _ _ _ _ _ _ _ (@ds_if _ _ _ _ _ _ _ _ _ _ _ _ (by kst_p) (@dss_one _ _ _ _ _ _ _ (by walk_at "s7")) (@dss_one _ _ _ _ _ _ _ (by walk_at "s7"))))) (by rfl) (by rfl) (by first | exact Or.inl rfl | exact Or.inr rfl) (by rfl) (by first | exact .inl rfl | exact .inr rfl | assumption))) (by rfl) (by rfl) (by rfl) (by first | exact Or.inl rfl | exact Or.inr rfl) (by first | exact Or.inl rfl | exact Or.inr (Or.inl rfl) | exact Or.inr (Or.inr rfl)) (by decide) (by decide) (by rfl) (by first | exact .inl rfl | exact .inr rfl | assumption)) (by rfl) (by rfl) (by rfl) (by first | exact Or.inl rfl | exact Or.inr rfl) (by first | exact Or.inl rfl | exact Or.inr (Or.inl rfl) | exact Or.inr (Or.inr rfl)) (by decide) (by decide) (by rfl) (by first | exact .inl rfl | exact .inr rfl | assumption))) (by rfl) (by intro _ ; rfl)) (@dss_rel _ _ _ _ _ _ _ _ 3 (by rfl) (by rfl) (@dss_rel _ _ _ _ _ _ _ _ 2 (by rfl) (by rfl) (by kd_p1))))))
abbrev s_divisor : Stmt := top 10
theorem ok_divisor (F : FA K mg "divisor" s_divisor ["one", "other"] f fd) (q0 : mg "abs" = none) : FnAt P w K mg base (k + 1) "divisor" m_divisor := F.ok (own' := []) (N := ["one", "other", "rest"]) (by kst_p1) rfl rfl fun _ _ _ _ _ _ C L nd => (@dss_cons _ _ _ _ _ _ _ _ _ _ (by kst_p2) (@dss_cons _ _ _ _ _ _ _ _ _ _ (by kst_p2) (@dss_cons _ _ _ _ _ _ _ _ _ _ (@ds_while _ _ _ _ _ _ _ _ _ L (by kst_p) (@dss_cons _ _ _ _ _ _ _ _ _ _ (by kst_p2) (@dss_cons _ _ _ _ _ _ _ _ _ _ (by kst_p2) (@dss_one _ _ _ _ _ _ _ (by kst_p2))))) (by kd_p1))))
abbrev s_in_form : Stmt := top 9
theorem ok_in_form (F : FA K mg "in_form" s_in_form ["numbers"] f fd) (q0 : FnAt P w K mg base k "divisor" m_divisor) : FnAt P w K mg base (k + 1) "in_form" m_in_form := F.ok (own' := []) (N := ["numbers", "part", "last"]) (by kst_p1) rfl rfl fun _ _ _ _ _ _ C L nd => (@dss_cons _ _ _ _ _ _ _ _ _ _ (by kst_p2) (@dss_cons _ _ _ _ _ _ _ _ _ _ (@ds_set0 _ _ _ _ _ _ _ _ 2 nd (@de_ix _ _ _ _ _ _ _ (@DF.val _ _ _ _ (@df_lc _ _ _ _ _ _ _ _ _ _ _ _ _ _ _ C.calm (LC.of (k := 1) (NY := ["number", "numbers", "part", "last"]) (N := ["numbers", "part", "last"]) (sc0 := (defScope s_in_form)) rfl rfl (by decide +kernel)) rfl (by kst_p) (fun _ _ _ _ nd2 => ⟨(by kpf_c), (@dts_one _ _ _ _ (by kst_p)), (by kst_p)⟩) (by intro _ ; rfl))) (by kst_p) (by intro _ _ ; rfl)) (by rfl) (by first | exact Or.inl rfl | exact Or.inr rfl) (by rfl) (by first | exact .inl rfl | exact .inr rfl | assumption)) (@dss_cons _ _ _ _ _ _ _ _ _ _ (@ds_if _ _ _ _ _ _ _ _ _ _ _ _ (@dt_cmp1 _ _ _ _ _ _ _ _ _ (@cf_lt _) (by kst_p) (@de_int _ _ _ _ _) (by first | exact nobehind _ (by decide) (by decide) | rfl)) (@dss_one _ _ _ _ _ _ _ (by kst_p2)) (@dss_nil _ _ _ _)) (by kd_p1))))
abbrev s_cross : Stmt := top 13
theorem ok_cross (F : FA K mg "cross" s_cross ["one", "other"] f fd) : FnAt P w K mg base (k + 1) "cross" m_cross := F.ok (own' := []) (N := ["one", "other", "x", "y", "z"]) (by kst_p1) rfl rfl fun _ _ _ _ _ _ C L nd => (@dss_cons _ _ _ _ _ _ _ _ _ _ (by kst_p2) (@dss_cons _ _ _ _ _ _ _ _ _ _ (by kst_p2) (@dss_cons _ _ _ _ _ _ _ _ _ _ (by kst_p2) (by kd_p1))))
abbrev s_between_two : Stmt := top 16
theorem ok_between_two (F : FA K mg "between_two" s_between_two ["one", "other"] f fd) (q0 : FnAt P w K mg base k "in_form" m_in_form) (q1 : FnAt P w K mg base k "cross" m_cross) : FnAt P w K mg base (k + 1) "between_two" m_between_two_v2 := F.ok (own' := []) (N := ["one", "other"]) (by kst_p1) rfl rfl fun _ _ _ _ _ _ C L nd => (@dss_cons _ _ _ _ _ _ _ _ _ _ (@ds_if _ _ _ _ _ _ _ _ _ _ _ _ (by kst_p) (@dss_one _ _ _ _ _ _ _ (@ds_bad _ _ _ _ _ _)) (@dss_nil _ _ _ _)) (by kd_p1))
abbrev s_through : Stmt := top 14
theorem ok_through (F : FA K mg "through" s_through ["one", "other"] f fd) (q0 : FnAt P w K mg base k "between_two" m_between_two_v2) : FnAt P w K mg base (k + 1) "through" m_through_v2 := F.ok (own' := []) (N := ["one", "other"]) (by kst_p1) rfl rfl fun _ _ _ _ _ _ C L nd => (by kd_p1)
abbrev s_dot : Stmt := top 12
theorem ok_dot (F : FA K mg "dot" s_dot ["one", "other"] f fd) : FnAt P w K mg base (k + 1) "dot" m_dot := F.ok (own' := []) (N := ["one", "other"]) (by kst_p1) rfl rfl fun _ _ _ _ _ _ C L nd => (by kd_p1)
abbrev s_lies : Stmt := top 11
theorem ok_lies (F : FA K mg "lies" s_lies ["place", "line"] f fd) (q0 : FnAt P w K mg base k "dot" m_dot) : FnAt P w K mg base (k + 1) "lies" m_lies_v1 := F.ok (own' := []) (N := ["place", "line"]) (by kst_p1) rfl rfl fun _ _ _ _ _ _ C L nd => (by kd_p1)
abbrev s_on_one : Stmt := top 17
theorem ok_on_one (F : FA K mg "on_one" s_on_one ["places"] f fd) (q2 : mg "len" = none) (q3 : mg "all" = none) (q0 : FnAt P w K mg base k "through" m_through_v2) (q1 : FnAt P w K mg base k "lies" m_lies_v1) : FnAt P w K mg base (k + 1) "on_one" m_on_one_v1 := F.ok (own' := []) (N := ["places", "others", "line"]) (by kst_p1) rfl rfl fun _ _ _ _ _ _ C L nd => (@dss_cons _ _ _ _ _ _ _ _ _ _ (@ds_setLC _ _ _ _ _ _ _ _ _ _ _ _ _ _ _ _ _ _ _ _ 1 C.calm nd (LC.of (k := 1) (NY := ["place", "places", "others", "line"]) (N := ["places", "others", "line"]) (sc0 := (defScope s_on_one)) rfl rfl (by decide +kernel)) rfl (by kst_p) (fun _ _ _ _ nd2 => ⟨(by kpf_c), (@dts_one _ _ _ _ (by kst_p)), (by kst_p)⟩) (by rfl) (by rfl) (by rfl) (by rfl) (by intro _ ; rfl)) (@dss_cons _ _ _ _ _ _ _ _ _ _ (by walk_at "I3") (@dss_cons _ _ _ _ _ _ _ _ _ _ (by kst_p2) (@dss_one _ _ _ _ _ _ _ (@ds_ret _ _ _ _ _ _ _ _ (@de_all _ _ _ _ _ _ _ C.calm q3 (@da_cons _ _ _ _ _ _ (@DF.val _ _ _ _ (@df_lc _ _ _ _ _ _ _ _ _ _ _ _ _ _ _ C.calm (LC.of (k := 1) (NY := ["place", "places", "others", "line"]) (N := ["places", "others", "line"]) (sc0 := (defScope s_on_one)) rfl rfl (by decide +kernel)) rfl (by kst_p) (fun _ _ _ _ nd2 => ⟨(by kpf_c), (@dts_nil _ _), (by kst_p)⟩) (by intro _ ; rfl))) (@da_nil _ _) (by rfl)) (by rfl) (by rfl) (by rfl)))))))
abbrev s_has_three_on_one : Stmt := top 29
theorem ok_has_three_on_one (F : FA K mg "has_three_on_one" s_has_three_on_one ["places"] f fd) (q1 : mg "range" = none) (q2 : mg "len" = none) (q0 : FnAt P w K mg base k "on_one" m_on_one_v1) : FnAt P w K mg base (k + 1) "has_three_on_one" m_has_three_on_one := F.ok (own' := []) (N := ["places", "k", "j", "i"]) (by kst_p1) rfl rfl fun _ _ _ _ _ _ C L nd => (@dss_cons _ _ _ _ _ _ _ _ _ _ (@ds_for _ _ _ _ _ _ _ _ _ _ _ _ L C.calm (by kst_p) (by kpf_c) (@dss_one _ _ _ _ _ _ _ (@ds_for _ _ _ _ _ _ _ _ _ _ _ _ L C.calm (by kst_p) (by kpf_c) (@dss_one _ _ _ _ _ _ _ (@ds_for _ _ _ _ _ _ _ _ _ _ _ _ L C.calm (by kst_p) (by kpf_c) (@dss_one _ _ _ _ _ _ _ (by walk_at "I3")) (by rfl) (by intro _ ; rfl))) (by rfl) (by intro _ ; rfl))) (by rfl) (by intro _ ; rfl)) (by kd_p1))
abbrev s_is_whole : Stmt := top 6
theorem ok_is_whole (F : FA K mg "is_whole" s_is_whole ["thing"] f fd) (q0 : mg "isinstance" = none) (q2 : mg "int" = none) (q1 : mg "bool" = none) : FnAt P w K mg base (k + 1) "is_whole" m_is_whole := F.ok (own' := []) (N := ["thing"]) (by kst_p1) rfl rfl fun _ _ _ _ _ _ C L nd => (@dss_one _ _ _ _ _ _ _ (@ds_ret _ _ _ _ _ _ _ _ (@de_and _ _ _ _ _ _ _ _ (@de_isi _ _ _ _ _ _ _ q0 (@da_cons _ _ _ _ _ _ (by kst_p) (@da_cons _ _ _ _ _ _ (@de_ty _ _ _ _ _ q2 bt_int (by rfl) (by decide) (by decide)) (@da_nil _ _) (by rfl)) (by rfl)) (by rfl) (by rfl) (by rfl)) (@de_one _ _ _ _ _ _ (@de_not _ _ _ _ _ (@de_isi _ _ _ _ _ _ _ q0 (@da_cons _ _ _ _ _ _ (by kst_p) (@da_cons _ _ _ _ _ _ (@de_ty _ _ _ _ _ q1 bt_bool (by rfl) (by decide) (by decide)) (@da_nil _ _) (by rfl)) (by rfl)) (by rfl) (by rfl) (by rfl)))))))
abbrev s_makes_place : Stmt := top 8
theorem ok_makes_place (F : FA K mg "makes_place" s_makes_place ["three"] f fd) (q1 : mg "all" = none) (q0 : FnAt P w K mg base k "is_whole" m_is_whole) : FnAt P w K mg base (k + 1) "makes_place" m_makes_place := F.ok (own' := []) (N := ["three"]) (by kst_p1) rfl rfl fun _ _ _ _ _ _ C L nd => (@dss_one _ _ _ _ _ _ _ (@ds_ret _ _ _ _ _ _ _ _ (@de_and _ _ _ _ _ _ _ _ (@de_all _ _ _ _ _ _ _ C.calm q1 (@da_cons _ _ _ _ _ _ (@DF.val _ _ _ _ (@df_lc _ _ _ _ _ _ _ _ _ _ _ _ _ _ _ C.calm (LC.of (k := 1) (NY := ["thing", "three"]) (N := ["three"]) (sc0 := (defScope s_makes_place)) rfl rfl (by decide +kernel)) rfl (by kst_p) (fun _ _ _ _ nd2 => ⟨(by kpf_c), (@dts_nil _ _), (by kst_p)⟩) (by intro _ ; rfl))) (@da_nil _ _) (by rfl)) (by rfl) (by rfl) (by rfl)) (by kst_p))))
abbrev s_is_place : Stmt := top 7
theorem ok_is_place (F : FA K mg "is_place" s_is_place ["thing"] f fd) (q1 : mg "isinstance" = none) (q3 : mg "tuple" = none) (q4 : mg "len" = none) (q0 : FnAt P w K mg base k "makes_place" m_makes_place) (q2 : FnAt P w K mg base k "in_form" m_in_form) : FnAt P w K mg base (k + 1) "is_place" m_is_place := F.ok (own' := []) (N := ["thing"]) (by kst_p1) rfl rfl fun _ _ _ _ _ _ C L nd => (@dss_cons _ _ _ _ _ _ _ _ _ _ (@ds_if _ _ _ _ _ _ _ _ _ _ _ _ (@DW.dt _ _ _ _ (@dw_or _ _ _ _ _ _ _ _ (@dt_not _ _ _ _ _ (@dt_val _ _ _ _ (@de_isi _ _ _ _ _ _ _ q1 (@da_cons _ _ _ _ _ _ (by kst_p) (@da_cons _ _ _ _ _ _ (@de_ty _ _ _ _ _ q3 bt_tuple (by rfl) (by decide) (by decide)) (@da_nil _ _) (by rfl)) (by rfl)) (by rfl) (by rfl) (by rfl)) (by intro _ ; rfl))) (by kst_p))) (by kd_p1) (@dss_nil _ _ _ _)) (@dss_cons _ _ _ _ _ _ _ _ _ _ (by walk_at "I3") (by kd_p1)))
abbrev s_is_floor : Stmt := top 20
theorem ok_is_floor (F : FA K mg "is_floor" s_is_floor ["thing"] f fd) (q1 : mg "isinstance" = none) (q3 : mg "list" = none) (q4 : mg "len" = none) (q5 : mg "all" = none) (q6 : mg "set" = none) (q0 : ∃ u v, mg "MOST_PEGS" = some u /\ RelV v u /\ ∀ G, Rep K mg G k_MOST_PEGS v) (q2 : FnAt P w K mg base k "is_place" m_is_place) : FnAt P w K mg base (k + 1) "is_floor" m_is_floor_v1 := F.ok (own' := []) (N := ["thing"]) (by kst_p1) rfl rfl fun _ _ _ _ _ _ C L nd => (@dss_cons _ _ _ _ _ _ _ _ _ _ (@ds_if _ _ _ _ _ _ _ _ _ _ _ _ (@DW.dt _ _ _ _ (@dw_or _ _ _ _ _ _ _ _ (@dt_not _ _ _ _ _ (@dt_val _ _ _ _ (@de_isi _ _ _ _ _ _ _ q1 (@da_cons _ _ _ _ _ _ (by kst_p) (@da_cons _ _ _ _ _ _ (@de_ty _ _ _ _ _ q3 bt_list (by rfl) (by decide) (by decide)) (@da_nil _ _) (by rfl)) (by rfl)) (by rfl) (by rfl) (by rfl)) (by intro _ ; rfl))) (@dw_or1 _ _ _ _ _ (@dt_not _ _ _ _ _ (@dt_chain2 _ _ _ _ _ _ _ _ _ _ _ _ _ (@cf_le _) (@cf_le _) (@de_int _ _ _ _ _) (by kst_p) (by kst_p) (by with_unfolding_all rfl)))))) (by kd_p1) (@dss_nil _ _ _ _)) (@dss_cons _ _ _ _ _ _ _ _ _ _ (@ds_if _ _ _ _ _ _ _ _ _ _ _ _ (@dt_not _ _ _ _ _ (@dt_val _ _ _ _ (@de_all _ _ _ _ _ _ _ C.calm q5 (@da_cons _ _ _ _ _ _ (@DF.val _ _ _ _ (@df_lc _ _ _ _ _ _ _ _ _ _ _ _ _ _ _ C.calm (LC.of (k := 1) (NY := ["member", "thing"]) (N := ["thing"]) (sc0 := (defScope s_is_floor)) rfl rfl (by decide +kernel)) rfl (by kst_p) (fun _ _ _ _ nd2 => ⟨(by kpf_c), (@dts_nil _ _), (by kst_p)⟩) (by intro _ ; rfl))) (@da_nil _ _) (by rfl)) (by rfl) (by rfl) (by rfl)) (by intro _ ; rfl))) (by kd_p1) (@dss_nil _ _ _ _)) (by kd_p1)))
abbrev s_look_at_bent : Stmt := top 28
theorem ok_look_at_bent (F : FA K mg "look_at_bent" s_look_at_bent ["places", "many"] f fd) {q2 : Addr} (q3 : mg "NoBow" = some (.ref q2)) (q4 : PySem.W.excIn K q2 [.type "ValueError", .type "Exception", .type "BaseException", .type "object"] "ValueError.__new__" = true) (q5 : XcOk K mg "NoBow" q2) (q6 : mg "len" = none) (q1 : FnAt P w K mg base k "is_floor" m_is_floor_v1) (q0 : FnAt P w K mg base k "has_three_on_one" m_has_three_on_one) : FnAt P w K mg base (k + 1) "look_at_bent" m_look_at_bent := F.ok (own' := []) (N := ["places", "many"]) (by kst_p1) rfl rfl fun _ _ _ _ _ _ C L nd => (@dss_one _ _ _ _ _ _ _ (@ds_if _ _ _ _ _ _ _ _ _ _ _ _ (by kst_p) (@dss_one _ _ _ _ _ _ _ (@ds_raise1 _ _ _ _ _ _ _ _ _ _ _ _ _ _ _ _ _ _ _ _ _ _ _ _ _ _ q4 q5 (by rfl) (by decide))) (@dss_nil _ _ _ _)))
abbrev s_is_deed : Stmt := top 23
theorem ok_is_deed (F : FA K mg "is_deed" s_is_deed ["thing"] f fd) (q0 : mg "isinstance" = none) (q2 : mg "tuple" = none) (q3 : mg "len" = none) (q4 : mg "str" = none) (q1 : FnAt P w K mg base k "is_whole" m_is_whole) : FnAt P w K mg base (k + 1) "is_deed" m_is_deed_v1 := F.ok (own' := []) (N := ["thing"]) (by kst_p1) rfl rfl fun _ _ _ _ _ _ C L nd => (@dss_cons _ _ _ _ _ _ _ _ _ _ (@ds_if _ _ _ _ _ _ _ _ _ _ _ _ (@DW.dt _ _ _ _ (@dw_or _ _ _ _ _ _ _ _ (@dt_not _ _ _ _ _ (@dt_val _ _ _ _ (@de_isi _ _ _ _ _ _ _ q0 (@da_cons _ _ _ _ _ _ (by kst_p) (@da_cons _ _ _ _ _ _ (@de_ty _ _ _ _ _ q2 bt_tuple (by rfl) (by decide) (by decide)) (@da_nil _ _) (by rfl)) (by rfl)) (by rfl) (by rfl) (by rfl)) (by intro _ ; rfl))) (by kst_p))) (by kd_p1) (@dss_nil _ _ _ _)) (@dss_cons _ _ _ _ _ _ _ _ _ _ (@ds_if _ _ _ _ _ _ _ _ _ _ _ _ (@DW.dt _ _ _ _ (@dw_or _ _ _ _ _ _ _ _ (@dt_not _ _ _ _ _ (@dt_val _ _ _ _ (@de_isi _ _ _ _ _ _ _ q0 (@da_cons _ _ _ _ _ _ (by kst_p) (@da_cons _ _ _ _ _ _ (@de_ty _ _ _ _ _ q4 bt_str (by rfl) (by decide) (by decide)) (@da_nil _ _) (by rfl)) (by rfl)) (by rfl) (by rfl) (by rfl)) (by intro _ ; rfl))) (by kst_p))) (by kd_p1) (@dss_nil _ _ _ _)) (by kd_p1)))
abbrev s_pair_of : Stmt := top 24
theorem ok_pair_of (F : FA K mg "pair_of" s_pair_of ["known", "deed", "at"] f fd) (q0 : mg "len" = none) : FnAt P w K mg base (k + 1) "pair_of" m_pair_of_v1 := F.ok (own' := []) (N := ["known", "deed", "at", "number", "one", "other"]) (by kst_p1) rfl rfl fun _ _ _ _ _ _ C L nd => (@dss_cons _ _ _ _ _ _ _ _ _ _ (@ds_for _ _ _ _ _ _ _ _ _ _ _ _ L C.calm (by kst_p) (by kpf_c) (@dss_one _ _ _ _ _ _ _ (@ds_if _ _ _ _ _ _ _ _ _ _ _ _ (@dt_not _ _ _ _ _ (@dt_chain2 _ _ _ _ _ _ _ _ _ _ _ _ _ (@cf_le _) (@cf_lt _) (@de_int _ _ _ _ _) (by kst_p) (by kst_p) (by with_unfolding_all rfl))) (@dss_one _ _ _ _ _ _ _ (@ds_bad _ _ _ _ _ _)) (@dss_nil _ _ _ _))) (by rfl) (by intro _ ; rfl)) (@dss_cons _ _ _ _ _ _ _ _ _ _ (by kst_p2) (@dss_cons _ _ _ _ _ _ _ _ _ _ (by kst_p2) (@dss_cons _ _ _ _ _ _ _ _ _ _ (@ds_if _ _ _ _ _ _ _ _ _ _ _ _ (by kst_p) (@dss_one _ _ _ _ _ _ _ (@ds_bad _ _ _ _ _ _)) (@dss_nil _ _ _ _)) (by kd_p1)))))
abbrev s_crossing : Stmt := top 15
theorem ok_crossing (F : FA K mg "crossing" s_crossing ["one", "other"] f fd) (q0 : FnAt P w K mg base k "between_two" m_between_two_v2) : FnAt P w K mg base (k + 1) "crossing" m_crossing_v2 := F.ok (own' := []) (N := ["one", "other"]) (by kst_p1) rfl rfl fun _ _ _ _ _ _ C L nd => (by kd_p1)
abbrev s_walked : Stmt := top 22
theorem ok_walked (F : FA K mg "walked" s_walked ["places", "plan"] f fd) (q5 : mg "list" = none) (q0 : mg "enumerate" = none) (q2 : FnAt P w K mg base k "is_deed" m_is_deed_v1) (q3 : FnAt P w K mg base k "pair_of" m_pair_of_v1) (q4 : FnAt P w K mg base k "through" m_through_v2) (q1 : FnAt P w K mg base k "crossing" m_crossing_v2) : FnAt P w K mg base (k + 1) "walked" m_walked_v2 := F.ok (own' := []) (N := ["places", "plan", "pegs", "lines", "at", "deed", "pair"]) (by kst_p1) rfl rfl fun _ _ _ _ _ _ C L nd => (@dss_cons _ _ _ _ _ _ _ _ _ _ (by walk_at "s5") (@dss_cons _ _ _ _ _ _ _ _ _ _ (by walk_at "s5") (@dss_cons _ _ _ _ _ _ _ _ _ _ (@ds_for _ _ _ _ _ _ _ _ _ _ _ _ L C.calm (by kst_p) (by kpf_c) (@dss_cons _ _ _ _ _ _ _ _ _ _ (@ds_if _ _ _ _ _ _ _ _ _ _ _ _ (by kst_p) (@dss_one _ _ _ _ _ _ _ (@ds_bad _ _ _ _ _ _)) (@dss_nil _ _ _ _)) (@dss_one _ _ _ _ _ _ _ (@ds_if _ _ _ _ _ _ _ _ _ _ _ _ (by kst_p) (@dss_cons _ _ _ _ _ _ _ _ _ _ (by walk_at "s2") (@dss_one _ _ _ _ _ _ _ (by walk_at "s7"))) (@dss_cons _ _ _ _ _ _ _ _ _ _ (by walk_at "s2") (@dss_one _ _ _ _ _ _ _ (by walk_at "s7")))))) (by rfl) (by intro _ ; rfl)) (@dss_rel _ _ _ _ _ _ _ _ 3 (by rfl) (by rfl) (@dss_rel _ _ _ _ _ _ _ _ 2 (by rfl) (by rfl) (by kd_p1))))))
abbrev s_again : Stmt := top 30
theorem ok_again (F : FA K mg "again" s_again ["five", "place"] f fd) (q4 : mg "list" = none) (q1 : ∃ u v, mg "PLAN" = some u /\ RelV v u /\ ∀ G, Rep K mg G k_PLAN v) (q2 : ∃ u v, mg "LAST" = some u /\ RelV v u /\ ∀ G, Rep K mg G k_LAST v) (q0 : FnAt P w K mg base k "look_at_bent" m_look_at_bent) (q3 : FnAt P w K mg base k "walked" m_walked_v2) : FnAt P w K mg base (k + 1) "again" m_again_v1 := F.ok (own' := []) (N := ["five", "place"]) (by kst_p1) rfl rfl fun _ _ _ _ _ _ C L nd => (@dss_cons _ _ _ _ _ _ _ _ _ _ (by walk_at "s4") (@dss_cons _ _ _ _ _ _ _ _ _ _ (@ds_if _ _ _ _ _ _ _ _ _ _ _ _ (by kst_p) (@dss_one _ _ _ _ _ _ _ (@ds_bad _ _ _ _ _ _)) (@dss_nil _ _ _ _)) (by kd_p1)))
abbrev s__law_drawn_so : Stmt := top 45
theorem ok__law_drawn_so (F : FA K mg "_law_drawn_so" s__law_drawn_so ["_law_five", "_law_place_here", "_law_plan", "_law_number"] f fd) (q3 : mg "len" = none) (q0 : FnAt P w K mg base k "_law_walk" m_law_walk) (q2 : FnAt P w K mg base k "again" m_again_v1) (q1 : FnAt P w K mg base k "_law_det" m_law_det_v2) : FnAt P w K mg base (k + 1) "_law_drawn_so" m_law_drawn_so := F.ok (own' := []) (N := ["_law_five", "_law_place_here", "_law_plan", "_law_number", "_law_pegs"]) (by kst_p1) rfl rfl fun _ _ _ _ _ _ C L nd => (@dss_cons _ _ _ _ _ _ _ _ _ _ (by kst_p2) (@dss_cons _ _ _ _ _ _ _ _ _ _ (@ds_if _ _ _ _ _ _ _ _ _ _ _ _ (@DW.dt _ _ _ _ (@dw_or _ _ _ _ _ _ _ _ (@dt_cmp1 _ _ _ _ _ _ _ _ _ (@cf_is _) (by kst_p) (@de_non _ _ _ _) (by first | exact nobehind _ (by decide) (by decide) | rfl)) (@dw_or1 _ _ _ _ _ (@dt_not _ _ _ _ _ (@dt_chain2 _ _ _ _ _ _ _ _ _ _ _ _ _ (@cf_le _) (@cf_lt _) (@de_int _ _ _ _ _) (by kst_p) (by kst_p) (by with_unfolding_all rfl)))))) (by kd_p1) (@dss_nil _ _ _ _)) (by kd_p1)))
abbrev s_law : Stmt := top 46
theorem sc_law : FnScope ["_law_script", "_law_told", "_law_plan", "_law_number", "_law_kept", "_law_cell", "_law_some", "_law_rows", "_law_curve_here", "_law_five", "_law_place_here", "_law_more", "_law_led_ones"] ["_law_script"] (defScope s_law) := by kst_p1
theorem ok_law (F : Fun K "law" "law" s_law f fd) (q3 : mg "isinstance" = none) (q10 : mg "tuple" = none) (q13 : mg "len" = none) (q12 : mg "list" = none) (q11 : mg "range" = none) (q8 : FnAtL P w K mg base k "bow_plan" m_bow_plan) (q4 : FnAt P w K mg base k "_law_whole" m_law_whole) (q1 : FnAt P w K mg base k "_law_numbers" m_law_numbers_v1) (q2 : FnAt P w K mg base k "_law_change" m_law_change) (q5 : FnAt P w K mg base k "_law_curve" m_law_curve) (q6 : FnAt P w K mg base k "_law_place" m_law_place_v4) (q7 : FnAt P w K mg base k "_law_lines" m_law_lines) (q0 : FnAt P w K mg base k "_law_drawn_so" m_law_drawn_so) (q9 : FnAt P w K mg base k "_law_led" m_law_led_v1) : FnOk P w K mg base (CXe P w) (k + 1) f fd ["_law_script"] (spD K mg m_law_v28) := by
  refine fnOk_mk (own' := []) F sc_law rfl rfl fun X E hX C L => ?_
  obtain ⟨cdv, A, outer, s, H, rfl⟩ := hX
  have nd := sc_law.nd
  exact (@dss_told _ _ _ _ _ _ _ 1 _ _ _ _ _ _ _ nd C q8 (@dsc_if _ _ _ _ _ _ _ _ _ _ _ _ (@DW.dt _ _ _ _ (@dw_or _ _ _ _ _ _ _ _ (@dt_not _ _ _ _ _ (@dt_val _ _ _ _ (@de_isi _ _ _ _ _ _ _ q3 (@da_cons _ _ _ _ _ _ (by kst_p) (@da_cons _ _ _ _ _ _ (@de_ty _ _ _ _ _ q10 bt_tuple (by rfl) (by decide) (by decide)) (@da_nil _ _) (by rfl)) (by rfl)) (by rfl) (by rfl) (by rfl)) (by intro _ ; rfl))) (@dw_or _ _ _ _ _ _ _ _ (by kst_p) (@dw_or _ _ _ _ _ _ _ _ (@dt_not _ _ _ _ _ (@dt_val _ _ _ _ (@de_isi _ _ _ _ _ _ _ q3 (@da_cons _ _ _ _ _ _ (by kst_p) (@da_cons _ _ _ _ _ _ (@de_ty _ _ _ _ _ q12 bt_list (by rfl) (by decide) (by decide)) (@da_nil _ _) (by rfl)) (by rfl)) (by rfl) (by rfl) (by rfl)) (by intro _ ; rfl))) (by kst_p))))) (by kd_p1) (@dsc_unp _ _ _ _ _ _ _ _ 2 3 _ _ _ _ _ _ _ _ nd C.calm (@dss_cons _ _ _ _ _ _ _ _ _ _ (by walk_at "s6") (@dss_rel _ _ _ _ _ _ _ _ 4 (by rfl) (by rfl) (@dss_cons _ _ _ _ _ _ _ _ _ _ (by walk_at "s7") (@dss_rel _ _ _ _ _ _ _ _ 2 (by rfl) (by rfl) (@dss_cons _ _ _ _ _ _ _ _ _ _ (@ds_if _ _ _ _ _ _ _ _ _ _ _ _ (@dt_cmp1 _ _ _ _ _ _ _ _ _ (@cf_ne _ _ _ C) (@de_call0 _ _ _ _ _ _ _ C (FnAtL.pub q8) (by rfl) (by decide)) (by kst_p) (by first | exact nobehind _ (by decide) (by decide) | rfl)) (by kd_p1) (@dss_nil _ _ _ _)) (@dss_cons _ _ _ _ _ _ _ _ _ _ (@ds_for _ _ _ _ _ _ _ _ _ _ _ _ L C.calm (by kst_p) (by kpf_c) (@dss_cons _ _ _ _ _ _ _ _ _ _ (by kst_p2) (@dss_cons _ _ _ _ _ _ _ _ _ _ (by kst_p2) (@dss_cons _ _ _ _ _ _ _ _ _ _ (by kst_p2) (@dss_cons _ _ _ _ _ _ _ _ _ _ (by kst_p2) (@dss_cons _ _ _ _ _ _ _ _ _ _ (@ds_if _ _ _ _ _ _ _ _ _ _ _ _ (by kst_p) (@dss_one _ _ _ _ _ _ _ (@ds_setLC _ _ _ _ _ _ _ _ _ _ _ _ _ _ _ _ _ _ _ _ 9 C.calm nd (LC.of (k := 1) (NY := ["_law_k", "_law_script", "_law_told", "_law_plan", "_law_number", "_law_kept", "_law_cell", "_law_some", "_law_rows", "_law_curve_here", "_law_five", "_law_place_here", "_law_more", "_law_led_ones"]) (N := ["_law_script", "_law_told", "_law_plan", "_law_number", "_law_kept", "_law_cell", "_law_some", "_law_rows", "_law_curve_here", "_law_five", "_law_place_here", "_law_more", "_law_led_ones"]) (sc0 := (defScope s_law)) rfl rfl (by decide +kernel)) rfl (by kst_p) (fun _ _ _ _ nd2 => ⟨(by kpf_c), (@dts_nil _ _), (by kst_p)⟩) (by rfl) (by rfl) (by rfl) (by rfl) (by intro _ ; rfl))) (@dss_nil _ _ _ _)) (@dss_cons _ _ _ _ _ _ _ _ _ _ (by kst_p2) (@dss_one _ _ _ _ _ _ _ (@ds_if _ _ _ _ _ _ _ _ _ _ _ _ (by kst_p) (@dss_cons _ _ _ _ _ _ _ _ _ _ (by walk_at "I3") (@dss_cons _ _ _ _ _ _ _ _ _ _ (by kst_p2) (@dss_cons _ _ _ _ _ _ _ _ _ _ (@ds_setLC _ _ _ _ _ _ _ _ _ _ _ _ _ _ _ _ _ _ _ _ 12 C.calm nd (LC.of (k := 1) (NY := ["_law_one", "_law_script", "_law_told", "_law_plan", "_law_number", "_law_kept", "_law_cell", "_law_some", "_law_rows", "_law_curve_here", "_law_five", "_law_place_here", "_law_more", "_law_led_ones"]) (N := ["_law_script", "_law_told", "_law_plan", "_law_number", "_law_kept", "_law_cell", "_law_some", "_law_rows", "_law_curve_here", "_law_five", "_law_place_here", "_law_more", "_law_led_ones"]) (sc0 := (defScope s_law)) rfl rfl (by decide +kernel)) rfl (by kst_p) (fun _ _ _ _ nd2 => ⟨(by kpf_c), (@dts_nil _ _), (by kst_p)⟩) (by rfl) (by rfl) (by rfl) (by rfl) (by intro _ ; rfl)) (@dss_one _ _ _ _ _ _ _ (by walk_at "I3"))))) (@dss_nil _ _ _ _))))))))) (by rfl) (by intro _ ; rfl)) (by kd_p1))))))) (by rfl) (by rfl) (by rfl) (by rfl) (by first | exact Or.inl rfl | exact Or.inr (Or.inl rfl) | exact Or.inr (Or.inr rfl)) (by decide) (by decide) (by first | exact Or.inl rfl | exact Or.inr rfl) (by first | exact Or.inl rfl | exact Or.inr rfl) (by first | exact .inl rfl | exact .inr rfl | assumption) (by first | exact .inl rfl | exact .inr rfl | assumption) (by rfl) (by rfl) (by rfl) (by rfl) (by rfl) (by rfl) (by rfl))) (by rfl) (by decide) (by rfl) (by first | exact Or.inl rfl | exact Or.inr rfl) (by rfl) (by first | exact .inl rfl | exact .inr rfl | assumption))
set_option maxHeartbeats 4000000 in
theorem all_mk {l : PySem.W.OpenLaw} {w : World} {K : xFg} {h : Heap} {mg : Str -> Option Value} {fa f33 : Addr} (X : K.In h) (G : h.Ns mainGlobals mg) (hfa : mg "law" = some (.ref fa))
    {od33 an33 : Option Addr} {sl33 : Array (Option Value)} {oc33 kV33 dc33 pm33 cd33 ct33 : Value}
    {C_ChalkError C_Same C_NoDeed C_NoBow : Addr}
    (d0 : FD K "bow_plan" s_bow_plan)
    (d1 : FD K "_law_numbers" s__law_numbers)
    (d2 : FD K "_law_det" s__law_det)
    (d3 : FD K "_law_change" s__law_change)
    (d4 : FD K "_law_lowest" s__law_lowest)
    (d5 : FD K "_law_dot" s__law_dot)
    (d6 : FD K "_law_led" s__law_led)
    (d7 : FD K "_law_curve" s__law_curve)
    (d8 : FD K "_law_whole" s__law_whole)
    (d9 : FD K "_law_place" s__law_place)
    (d10 : FD K "_law_lines" s__law_lines)
    (d11 : FD K "_law_cross" s__law_cross)
    (d12 : FD K "_law_walk" s__law_walk)
    (d13 : FD K "divisor" s_divisor)
    (d14 : FD K "in_form" s_in_form)
    (d15 : FD K "cross" s_cross)
    (d16 : FD K "between_two" s_between_two)
    (d17 : FD K "through" s_through)
    (d18 : FD K "dot" s_dot)
    (d19 : FD K "lies" s_lies)
    (d20 : FD K "on_one" s_on_one)
    (d21 : FD K "has_three_on_one" s_has_three_on_one)
    (d22 : FD K "is_whole" s_is_whole)
    (d23 : FD K "makes_place" s_makes_place)
    (d24 : FD K "is_place" s_is_place)
    (d25 : FD K "is_floor" s_is_floor)
    (d26 : FD K "look_at_bent" s_look_at_bent)
    (d27 : FD K "is_deed" s_is_deed)
    (d28 : FD K "pair_of" s_pair_of)
    (d29 : FD K "crossing" s_crossing)
    (d30 : FD K "walked" s_walked)
    (d31 : FD K "again" s_again)
    (d32 : FD K "_law_drawn_so" s__law_drawn_so)
    (a33 : PySem.W.nsIn K mainGlobals "law" = some (some (.ref f33))) (l33 : K.lookup f33 = some ⟨oc33, od33, .func (PySem.W.fnOf "law" "law" (defArgs s_law) (defBody s_law) (defScope s_law) .none kV33 dc33 pm33 an33 cd33 ct33), sl33⟩) (c33 : PySem.W.codeIn K cd33 "law" = true) (k33 : PySem.W.keepIn K (.ref f33) = true)
    (z_list : PySem.W.nsIn K mainGlobals "list" = some none)
    (z_max : PySem.W.nsIn K mainGlobals "max" = some none)
    (z_range : PySem.W.nsIn K mainGlobals "range" = some none)
    (z_abs : PySem.W.nsIn K mainGlobals "abs" = some none)
    (z_len : PySem.W.nsIn K mainGlobals "len" = some none)
    (z_isinstance : PySem.W.nsIn K mainGlobals "isinstance" = some none)
    (z_int : PySem.W.nsIn K mainGlobals "int" = some none)
    (z_bool : PySem.W.nsIn K mainGlobals "bool" = some none)
    (z_tuple : PySem.W.nsIn K mainGlobals "tuple" = some none)
    (z_all : PySem.W.nsIn K mainGlobals "all" = some none)
    (z_set : PySem.W.nsIn K mainGlobals "set" = some none)
    (z_str : PySem.W.nsIn K mainGlobals "str" = some none)
    (z_enumerate : PySem.W.nsIn K mainGlobals "enumerate" = some none)
    (e_ChalkError : PySem.W.nsIn K mainGlobals "ChalkError" = some (some (.ref C_ChalkError)))
    (e_Same : PySem.W.nsIn K mainGlobals "Same" = some (some (.ref C_Same)))
    (e_NoDeed : PySem.W.nsIn K mainGlobals "NoDeed" = some (some (.ref C_NoDeed)))
    (e_NoBow : PySem.W.nsIn K mainGlobals "NoBow" = some (some (.ref C_NoBow)))
    (y_NoBow : PySem.W.excIn K C_NoBow [.type "ValueError", .type "Exception", .type "BaseException", .type "object"] "ValueError.__new__" = true)
    (xga_NoBow : PySem.W.findIn K (.ref C_NoBow) "__getattribute__" = some (some (.builtin "BaseException.__getattribute__")))
    (xgh_NoBow : PySem.W.findIn K (.ref C_NoBow) "__getattr__" = some none)
    (xbs_NoBow : PySem.W.mroIn K C_NoBow (.type "BaseException") = some true)
    (xob_NoBow : PySem.W.mroIn K C_NoBow (.type "object") = some true)
    (xca_NoBow : PySem.W.findIn K (.ref C_NoBow) "__class__" = some (some (.builtin "object.__class__")))
    (xvv_NoBow : PySem.W.kitOne K (.ref C_NoBow) (.type "ValueError") = some true)
    (t_NoBow_ChalkError : PySem.W.kitOne K (.ref C_NoBow) (.ref C_ChalkError) = some true)
    (u_NoBow_ChalkError : PySem.W.exmOne K (.ref C_NoBow) (.ref C_ChalkError) = some true)
    (v_NoPlace : PySem.W.nsIn K mainGlobals "NoPlace" = some none)
    (t_NoBow_Same : PySem.W.kitOne K (.ref C_NoBow) (.ref C_Same) = some false)
    (v_NoFloor : PySem.W.nsIn K mainGlobals "NoFloor" = some none)
    (v_Endless : PySem.W.nsIn K mainGlobals "Endless" = some none)
    (t_NoBow_NoDeed : PySem.W.kitOne K (.ref C_NoBow) (.ref C_NoDeed) = some false)
    (v_NoText : PySem.W.nsIn K mainGlobals "NoText" = some none)
    (v_NoName : PySem.W.nsIn K mainGlobals "NoName" = some none)
    (v_TooMany : PySem.W.nsIn K mainGlobals "TooMany" = some none)
    (v_NoChange : PySem.W.nsIn K mainGlobals "NoChange" = some none)
    (v_NoFrame : PySem.W.nsIn K mainGlobals "NoFrame" = some none)
    (v_NoValue : PySem.W.nsIn K mainGlobals "NoValue" = some none)
    (v_Unlike : PySem.W.nsIn K mainGlobals "Unlike" = some none)
    (v_NoRatio : PySem.W.nsIn K mainGlobals "NoRatio" = some none)
    (t_NoBow_NoBow : PySem.W.kitOne K (.ref C_NoBow) (.ref C_NoBow) = some true)
    (u_NoBow_NoBow : PySem.W.exmOne K (.ref C_NoBow) (.ref C_NoBow) = some true)
    (v_NoRow : PySem.W.nsIn K mainGlobals "NoRow" = some none)
    (xcg : PySem.W.specialIn K (.builtin "object.__class__") "__get__" = some (some (.builtin "getset_descriptor.__get__"))) (xct : PySem.W.takesIn K (.builtin "object.__class__") = some true)
    {a_PLAN : Addr} {n_PLAN : Nat} {sl_PLAN : Array (Option Value)} {b0_PLAN b1_PLAN b2_PLAN b3_PLAN b4_PLAN b5_PLAN b6_PLAN b7_PLAN b8_PLAN b9_PLAN b10_PLAN : Addr} (q_PLAN : PySem.W.nsIn K mainGlobals "PLAN" = some (some (.ref a_PLAN))) (lq_PLAN : K.lookup a_PLAN = some ⟨.type "list", none, .seq #[.ref b0_PLAN, .ref b1_PLAN, .ref b2_PLAN, .ref b3_PLAN, .ref b4_PLAN, .ref b5_PLAN, .ref b6_PLAN, .ref b7_PLAN, .ref b8_PLAN, .ref b9_PLAN, .ref b10_PLAN] n_PLAN, sl_PLAN⟩)
    {n0_PLAN : Nat} {dd0_PLAN : Option Addr} {sl0_PLAN : Array (Option Value)} {t0_0_PLAN t0_1_PLAN t0_2_PLAN : Tok} (lq0_PLAN : K.lookup b0_PLAN = some ⟨.type "tuple", dd0_PLAN, .seq #[.str "line" t0_0_PLAN, .int 0 t0_1_PLAN, .int 5 t0_2_PLAN] n0_PLAN, sl0_PLAN⟩)
    {n1_PLAN : Nat} {dd1_PLAN : Option Addr} {sl1_PLAN : Array (Option Value)} {t1_0_PLAN t1_1_PLAN t1_2_PLAN : Tok} (lq1_PLAN : K.lookup b1_PLAN = some ⟨.type "tuple", dd1_PLAN, .seq #[.str "line" t1_0_PLAN, .int 2 t1_1_PLAN, .int 3 t1_2_PLAN] n1_PLAN, sl1_PLAN⟩)
    {n2_PLAN : Nat} {dd2_PLAN : Option Addr} {sl2_PLAN : Array (Option Value)} {t2_0_PLAN t2_1_PLAN t2_2_PLAN : Tok} (lq2_PLAN : K.lookup b2_PLAN = some ⟨.type "tuple", dd2_PLAN, .seq #[.str "peg" t2_0_PLAN, .int 0 t2_1_PLAN, .int 1 t2_2_PLAN] n2_PLAN, sl2_PLAN⟩)
    {n3_PLAN : Nat} {dd3_PLAN : Option Addr} {sl3_PLAN : Array (Option Value)} {t3_0_PLAN t3_1_PLAN t3_2_PLAN : Tok} (lq3_PLAN : K.lookup b3_PLAN = some ⟨.type "tuple", dd3_PLAN, .seq #[.str "line" t3_0_PLAN, .int 0 t3_1_PLAN, .int 1 t3_2_PLAN] n3_PLAN, sl3_PLAN⟩)
    {n4_PLAN : Nat} {dd4_PLAN : Option Addr} {sl4_PLAN : Array (Option Value)} {t4_0_PLAN t4_1_PLAN t4_2_PLAN : Tok} (lq4_PLAN : K.lookup b4_PLAN = some ⟨.type "tuple", dd4_PLAN, .seq #[.str "line" t4_0_PLAN, .int 3 t4_1_PLAN, .int 4 t4_2_PLAN] n4_PLAN, sl4_PLAN⟩)
    {n5_PLAN : Nat} {dd5_PLAN : Option Addr} {sl5_PLAN : Array (Option Value)} {t5_0_PLAN t5_1_PLAN t5_2_PLAN : Tok} (lq5_PLAN : K.lookup b5_PLAN = some ⟨.type "tuple", dd5_PLAN, .seq #[.str "peg" t5_0_PLAN, .int 2 t5_1_PLAN, .int 3 t5_2_PLAN] n5_PLAN, sl5_PLAN⟩)
    {n6_PLAN : Nat} {dd6_PLAN : Option Addr} {sl6_PLAN : Array (Option Value)} {t6_0_PLAN t6_1_PLAN t6_2_PLAN : Tok} (lq6_PLAN : K.lookup b6_PLAN = some ⟨.type "tuple", dd6_PLAN, .seq #[.str "line" t6_0_PLAN, .int 6 t6_1_PLAN, .int 7 t6_2_PLAN] n6_PLAN, sl6_PLAN⟩)
    {n7_PLAN : Nat} {dd7_PLAN : Option Addr} {sl7_PLAN : Array (Option Value)} {t7_0_PLAN t7_1_PLAN t7_2_PLAN : Tok} (lq7_PLAN : K.lookup b7_PLAN = some ⟨.type "tuple", dd7_PLAN, .seq #[.str "line" t7_0_PLAN, .int 1 t7_1_PLAN, .int 2 t7_2_PLAN] n7_PLAN, sl7_PLAN⟩)
    {n8_PLAN : Nat} {dd8_PLAN : Option Addr} {sl8_PLAN : Array (Option Value)} {t8_0_PLAN t8_1_PLAN t8_2_PLAN : Tok} (lq8_PLAN : K.lookup b8_PLAN = some ⟨.type "tuple", dd8_PLAN, .seq #[.str "peg" t8_0_PLAN, .int 4 t8_1_PLAN, .int 5 t8_2_PLAN] n8_PLAN, sl8_PLAN⟩)
    {n9_PLAN : Nat} {dd9_PLAN : Option Addr} {sl9_PLAN : Array (Option Value)} {t9_0_PLAN t9_1_PLAN t9_2_PLAN : Tok} (lq9_PLAN : K.lookup b9_PLAN = some ⟨.type "tuple", dd9_PLAN, .seq #[.str "line" t9_0_PLAN, .int 4 t9_1_PLAN, .int 8 t9_2_PLAN] n9_PLAN, sl9_PLAN⟩)
    {n10_PLAN : Nat} {dd10_PLAN : Option Addr} {sl10_PLAN : Array (Option Value)} {t10_0_PLAN t10_1_PLAN t10_2_PLAN : Tok} (lq10_PLAN : K.lookup b10_PLAN = some ⟨.type "tuple", dd10_PLAN, .seq #[.str "peg" t10_0_PLAN, .int 0 t10_1_PLAN, .int 6 t10_2_PLAN] n10_PLAN, sl10_PLAN⟩)
    {t_LAST : Tok} (q_LAST : PySem.W.nsIn K mainGlobals "LAST" = some (some (.int 9 t_LAST)))
    {t_MOST_PEGS : Tok} (q_MOST_PEGS : PySem.W.nsIn K mainGlobals "MOST_PEGS" = some (some (.int 12 t_MOST_PEGS)))
    (hlaw : ∀ ns : List Int, ns.length <= 63 -> m_law_v28 [.lst (ns.map .int)] = .ok (.bl true))
    : ∃ fd : FuncData, (∀ (s : Shared) (v : Value), BindsTo s fd ⟨[v], []⟩ [("_law_script", v)]) /\ ∀ base : Heap, K.In base -> base.Ns mainGlobals mg -> FnOk l.prog w K mg base (CXe l.prog w) 10 fa fd ["_law_script"] (spLaw K) := by
  have e := hfa.symm.trans (xbm X G a33)
  cases e
  obtain ⟨f0, v0, F0⟩ := d0.go X G [] (by walk_at "b0")
  obtain ⟨f1, v1, F1⟩ := d1.go X G ["_law_cell", "_law_many"] (by kcj_m)
  obtain ⟨f2, v2, F2⟩ := d2.go X G ["_law_one", "_law_other", "_law_third"] (by walk_at "b3")
  obtain ⟨f3, v3, F3⟩ := d3.go X G ["_law_some"] (by walk_at "b1")
  obtain ⟨f4, v4, F4⟩ := d4.go X G ["_law_x", "_law_y", "_law_z"] (by walk_at "b3")
  obtain ⟨f5, v5, F5⟩ := d5.go X G ["_law_one", "_law_other"] (by kcj_m)
  obtain ⟨f6, v6, F6⟩ := d6.go X G ["_law_rows", "_law_place_here"] (by kcj_m)
  obtain ⟨f7, v7, F7⟩ := d7.go X G ["_law_some", "_law_rows"] (by kcj_m)
  obtain ⟨f8, v8, F8⟩ := d8.go X G ["_law_found"] (by walk_at "b1")
  obtain ⟨f9, v9, F9⟩ := d9.go X G ["_law_some"] (by walk_at "b1")
  obtain ⟨f10, v10, F10⟩ := d10.go X G ["_law_places"] (by walk_at "b1")
  obtain ⟨f11, v11, F11⟩ := d11.go X G ["_law_one", "_law_other"] (by kcj_m)
  obtain ⟨f12, v12, F12⟩ := d12.go X G ["_law_places", "_law_plan"] (by kcj_m)
  obtain ⟨f13, v13, F13⟩ := d13.go X G ["one", "other"] (by kcj_m)
  obtain ⟨f14, v14, F14⟩ := d14.go X G ["numbers"] (by walk_at "b1")
  obtain ⟨f15, v15, F15⟩ := d15.go X G ["one", "other"] (by kcj_m)
  obtain ⟨f16, v16, F16⟩ := d16.go X G ["one", "other"] (by kcj_m)
  obtain ⟨f17, v17, F17⟩ := d17.go X G ["one", "other"] (by kcj_m)
  obtain ⟨f18, v18, F18⟩ := d18.go X G ["one", "other"] (by kcj_m)
  obtain ⟨f19, v19, F19⟩ := d19.go X G ["place", "line"] (by kcj_m)
  obtain ⟨f20, v20, F20⟩ := d20.go X G ["places"] (by walk_at "b1")
  obtain ⟨f21, v21, F21⟩ := d21.go X G ["places"] (by walk_at "b1")
  obtain ⟨f22, v22, F22⟩ := d22.go X G ["thing"] (by walk_at "b1")
  obtain ⟨f23, v23, F23⟩ := d23.go X G ["three"] (by walk_at "b1")
  obtain ⟨f24, v24, F24⟩ := d24.go X G ["thing"] (by walk_at "b1")
  obtain ⟨f25, v25, F25⟩ := d25.go X G ["thing"] (by walk_at "b1")
  obtain ⟨f26, v26, F26⟩ := d26.go X G ["places", "many"] (by kcj_m)
  obtain ⟨f27, v27, F27⟩ := d27.go X G ["thing"] (by walk_at "b1")
  obtain ⟨f28, v28, F28⟩ := d28.go X G ["known", "deed", "at"] (by walk_at "b3")
  obtain ⟨f29, v29, F29⟩ := d29.go X G ["one", "other"] (by kcj_m)
  obtain ⟨f30, v30, F30⟩ := d30.go X G ["places", "plan"] (by kcj_m)
  obtain ⟨f31, v31, F31⟩ := d31.go X G ["five", "place"] (by kcj_m)
  obtain ⟨f32, v32, F32⟩ := d32.go X G ["_law_five", "_law_place_here", "_law_plan", "_law_number"] (by walk_at "b4")
  have F33 := fun_mk (st := s_law) l33 c33 k33
  have m33 := xbm X G a33
  have n_list := xak X G z_list
  have n_max := xak X G z_max
  have n_range := xak X G z_range
  have n_abs := xak X G z_abs
  have n_len := xak X G z_len
  have n_isinstance := xak X G z_isinstance
  have n_int := xak X G z_int
  have n_bool := xak X G z_bool
  have n_tuple := xak X G z_tuple
  have n_all := xak X G z_all
  have n_set := xak X G z_set
  have n_str := xak X G z_str
  have n_enumerate := xak X G z_enumerate
  have c_ChalkError := xbm X G e_ChalkError
  have c_Same := xbm X G e_Same
  have c_NoDeed := xbm X G e_NoDeed
  have c_NoBow := xbm X G e_NoBow
  have nv_NoPlace := xak X G v_NoPlace
  have nv_NoFloor := xak X G v_NoFloor
  have nv_Endless := xak X G v_Endless
  have nv_NoText := xak X G v_NoText
  have nv_NoName := xak X G v_NoName
  have nv_TooMany := xak X G v_TooMany
  have nv_NoChange := xak X G v_NoChange
  have nv_NoFrame := xak X G v_NoFrame
  have nv_NoValue := xak X G v_NoValue
  have nv_Unlike := xak X G v_Unlike
  have nv_NoRatio := xak X G v_NoRatio
  have nv_NoRow := xak X G v_NoRow
  have x_NoBow : XcOk K mg "NoBow" C_NoBow := XcOk.mk' c_NoBow ⟨by (obtain ⟨_, hc, _⟩ := PySem.W.kw_along xga_NoBow; rw [hc]; rfl), xga_NoBow, xgh_NoBow, xbs_NoBow, xob_NoBow, xca_NoBow, xcg, xct⟩ xvv_NoBow (xcRows (XcRow.of (b := true) c_ChalkError t_NoBow_ChalkError (fun _ => u_NoBow_ChalkError)) (XcRow.no nv_NoPlace) (XcRow.of (b := false) c_Same t_NoBow_Same (fun z => nomatch z)) (XcRow.no nv_NoFloor) (XcRow.no nv_Endless) (XcRow.of (b := false) c_NoDeed t_NoBow_NoDeed (fun z => nomatch z)) (XcRow.no nv_NoText) (XcRow.no nv_NoName) (XcRow.no nv_TooMany) (XcRow.no nv_NoChange) (XcRow.no nv_NoFrame) (XcRow.no nv_NoValue) (XcRow.no nv_Unlike) (XcRow.no nv_NoRatio) (XcRow.of (b := true) c_NoBow t_NoBow_NoBow (fun _ => u_NoBow_NoBow)) (XcRow.no nv_NoRow))
  refine ⟨PySem.W.fnOf "law" "law" (defArgs s_law) (defBody s_law) (defScope s_law) .none kV33 dc33 pm33 an33 cd33 ct33, fun s v => .of_eq rfl, fun base _ _ => ?_⟩
  have k_PLAN_is : ∃ u v, mg "PLAN" = some u /\ RelV v u /\ ∀ G, Rep K mg G k_PLAN v := ⟨_, .ref a_PLAN, xbm X G q_PLAN, rfl, fun _ => rep_klst (l := [b0_PLAN, b1_PLAN, b2_PLAN, b3_PLAN, b4_PLAN, b5_PLAN, b6_PLAN, b7_PLAN, b8_PLAN, b9_PLAN, b10_PLAN]) lq_PLAN rfl (show 11 <= 100 by decide) (Reps.cons (rep_kmix (l := [.s "line" t0_0_PLAN, .i 0 t0_1_PLAN, .i 5 t0_2_PLAN]) lq0_PLAN rfl (show 3 <= 100 by decide)) (Reps.cons (rep_kmix (l := [.s "line" t1_0_PLAN, .i 2 t1_1_PLAN, .i 3 t1_2_PLAN]) lq1_PLAN rfl (show 3 <= 100 by decide)) (Reps.cons (rep_kmix (l := [.s "peg" t2_0_PLAN, .i 0 t2_1_PLAN, .i 1 t2_2_PLAN]) lq2_PLAN rfl (show 3 <= 100 by decide)) (Reps.cons (rep_kmix (l := [.s "line" t3_0_PLAN, .i 0 t3_1_PLAN, .i 1 t3_2_PLAN]) lq3_PLAN rfl (show 3 <= 100 by decide)) (Reps.cons (rep_kmix (l := [.s "line" t4_0_PLAN, .i 3 t4_1_PLAN, .i 4 t4_2_PLAN]) lq4_PLAN rfl (show 3 <= 100 by decide)) (Reps.cons (rep_kmix (l := [.s "peg" t5_0_PLAN, .i 2 t5_1_PLAN, .i 3 t5_2_PLAN]) lq5_PLAN rfl (show 3 <= 100 by decide)) (Reps.cons (rep_kmix (l := [.s "line" t6_0_PLAN, .i 6 t6_1_PLAN, .i 7 t6_2_PLAN]) lq6_PLAN rfl (show 3 <= 100 by decide)) (Reps.cons (rep_kmix (l := [.s "line" t7_0_PLAN, .i 1 t7_1_PLAN, .i 2 t7_2_PLAN]) lq7_PLAN rfl (show 3 <= 100 by decide)) (Reps.cons (rep_kmix (l := [.s "peg" t8_0_PLAN, .i 4 t8_1_PLAN, .i 5 t8_2_PLAN]) lq8_PLAN rfl (show 3 <= 100 by decide)) (Reps.cons (rep_kmix (l := [.s "line" t9_0_PLAN, .i 4 t9_1_PLAN, .i 8 t9_2_PLAN]) lq9_PLAN rfl (show 3 <= 100 by decide)) (Reps.cons (rep_kmix (l := [.s "peg" t10_0_PLAN, .i 0 t10_1_PLAN, .i 6 t10_2_PLAN]) lq10_PLAN rfl (show 3 <= 100 by decide)) Reps.nil)))))))))))⟩
  have k_LAST_is : ∃ u v, mg "LAST" = some u /\ RelV v u /\ ∀ G, Rep K mg G k_LAST v := ⟨_, .int 9, xbm X G q_LAST, ⟨_, rfl⟩, fun _ => rfl⟩
  have k_MOST_PEGS_is : ∃ u v, mg "MOST_PEGS" = some u /\ RelV v u /\ ∀ G, Rep K mg G k_MOST_PEGS v := ⟨_, .int 12, xbm X G q_MOST_PEGS, ⟨_, rfl⟩, fun _ => rfl⟩
  have G0 : FnAtL l.prog w K mg base 1 "bow_plan" m_bow_plan := ok_bow_plan (k := 0) F0 n_list k_PLAN_is k_LAST_is
  have G1 : FnAt l.prog w K mg base 1 "_law_numbers" m_law_numbers_v1 := ok__law_numbers (k := 0) F1 n_max n_range
  have G2 : FnAt l.prog w K mg base 1 "_law_det" m_law_det_v2 := ok__law_det (k := 0) F2
  have G3 : FnAt l.prog w K mg base 2 "_law_change" m_law_change := ok__law_change (k := 1) F3 n_range G2
  have G4 : FnAt l.prog w K mg base 1 "_law_lowest" m_law_lowest_v1 := ok__law_lowest (k := 0) F4 n_abs
  have G5 : FnAt l.prog w K mg base 1 "_law_dot" m_law_dot := ok__law_dot (k := 0) F5
  have G6 : FnAt l.prog w K mg base 2 "_law_led" m_law_led_v1 := ok__law_led (k := 1) F6 G4 G5
  have G7 : FnAt l.prog w K mg base 3 "_law_curve" m_law_curve := ok__law_curve (k := 2) F7 n_range n_len G6
  have G8 : FnAt l.prog w K mg base 1 "_law_whole" m_law_whole := ok__law_whole (k := 0) F8 n_isinstance n_int n_bool
  have G9 : FnAt l.prog w K mg base 2 "_law_place" m_law_place_v4 := ok__law_place (k := 1) F9 G4
  have G10 : FnAt l.prog w K mg base 2 "_law_lines" m_law_lines := ok__law_lines (k := 1) F10 n_range n_len G2
  have G11 : FnAt l.prog w K mg base 2 "_law_cross" m_law_cross_v2 := ok__law_cross (k := 1) F11 G4
  have G12 : FnAt l.prog w K mg base 3 "_law_walk" m_law_walk := ok__law_walk (k := 2) F12 n_list n_isinstance n_tuple n_len G11
  have G13 : FnAt l.prog w K mg base 1 "divisor" m_divisor := ok_divisor (k := 0) F13 n_abs
  have G14 : FnAt l.prog w K mg base 2 "in_form" m_in_form := ok_in_form (k := 1) F14 G13
  have G15 : FnAt l.prog w K mg base 1 "cross" m_cross := ok_cross (k := 0) F15
  have G16 : FnAt l.prog w K mg base 3 "between_two" m_between_two_v2 := ok_between_two (k := 2) F16 G14 (G15.mono (by decide : 1 <= 2))
  have G17 : FnAt l.prog w K mg base 4 "through" m_through_v2 := ok_through (k := 3) F17 G16
  have G18 : FnAt l.prog w K mg base 1 "dot" m_dot := ok_dot (k := 0) F18
  have G19 : FnAt l.prog w K mg base 2 "lies" m_lies_v1 := ok_lies (k := 1) F19 G18
  have G20 : FnAt l.prog w K mg base 5 "on_one" m_on_one_v1 := ok_on_one (k := 4) F20 n_len n_all G17 (G19.mono (by decide : 2 <= 4))
  have G21 : FnAt l.prog w K mg base 6 "has_three_on_one" m_has_three_on_one := ok_has_three_on_one (k := 5) F21 n_range n_len G20
  have G22 : FnAt l.prog w K mg base 1 "is_whole" m_is_whole := ok_is_whole (k := 0) F22 n_isinstance n_int n_bool
  have G23 : FnAt l.prog w K mg base 2 "makes_place" m_makes_place := ok_makes_place (k := 1) F23 n_all G22
  have G24 : FnAt l.prog w K mg base 3 "is_place" m_is_place := ok_is_place (k := 2) F24 n_isinstance n_tuple n_len G23 G14
  have G25 : FnAt l.prog w K mg base 4 "is_floor" m_is_floor_v1 := ok_is_floor (k := 3) F25 n_isinstance n_list n_len n_all n_set k_MOST_PEGS_is G24
  have G26 : FnAt l.prog w K mg base 7 "look_at_bent" m_look_at_bent := ok_look_at_bent (k := 6) F26 c_NoBow y_NoBow x_NoBow n_len (G25.mono (by decide : 4 <= 6)) G21
  have G27 : FnAt l.prog w K mg base 2 "is_deed" m_is_deed_v1 := ok_is_deed (k := 1) F27 n_isinstance n_tuple n_len n_str G22
  have G28 : FnAt l.prog w K mg base 1 "pair_of" m_pair_of_v1 := ok_pair_of (k := 0) F28 n_len
  have G29 : FnAt l.prog w K mg base 4 "crossing" m_crossing_v2 := ok_crossing (k := 3) F29 G16
  have G30 : FnAt l.prog w K mg base 5 "walked" m_walked_v2 := ok_walked (k := 4) F30 n_list n_enumerate (G27.mono (by decide : 2 <= 4)) (G28.mono (by decide : 1 <= 4)) G17 G29
  have G31 : FnAt l.prog w K mg base 8 "again" m_again_v1 := ok_again (k := 7) F31 n_list k_PLAN_is k_LAST_is G26 (G30.mono (by decide : 5 <= 7))
  have G32 : FnAt l.prog w K mg base 9 "_law_drawn_so" m_law_drawn_so := ok__law_drawn_so (k := 8) F32 n_len (G12.mono (by decide : 3 <= 8)) G31 (G2.mono (by decide : 1 <= 8))
  exact law_of (ok_law (P := l.prog) (w := w) (base := base) (k := 9) F33 n_isinstance n_tuple n_len n_list n_range (G0.mono (by decide : 1 <= 9)) (G8.mono (by decide : 1 <= 9)) (G1.mono (by decide : 1 <= 9)) (G3.mono (by decide : 2 <= 9)) (G7.mono (by decide : 3 <= 9)) (G9.mono (by decide : 2 <= 9)) (G10.mono (by decide : 2 <= 9)) G32 (G6.mono (by decide : 2 <= 9))) hlaw
end Kx
def PySem.W.Fast.tw4993946738278076096 := 0
def PySem.W.Fast.tw15255351229507543107 := 0
def PySem.W.Fast.tw1875739229123361155 := 0
def PySem.W.Fast.tw3312771456839180803 := 0
def PySem.W.Fast.tw17974596689457915915 := 0
def PySem.W.Fast.tw9410033920213007564 := 0
def PySem.W.Fast.tw6127965687504506350 := 0
def PySem.W.Fast.tw12730704502187712145 := 0
def PySem.W.Fast.tw7249401854004363570 := 0
def PySem.W.Fast.tw1740186738840998836 := 0
def PySem.W.Fast.tw17496617627695868982 := 0
def PySem.W.Fast.tw15067010458477016345 := 0
def PySem.W.Fast.tw10733891956482788474 := 0
def PySem.W.Fast.tw2475763339346569114 := 0
def PySem.W.Fast.tw8095509248998684699 := 0
def PySem.W.Fast.tw4621343263194606716 := 0
def PySem.W.Fast.tw1295141266731109788 := 0
def PySem.W.Fast.tw10912983121486154652 := 0
def PySem.W.Fast.tw800411550008614975 := 0
open PySem.W PyProof.Rows
local macro_rules | `(tactic| walk_at "FD") => `(tactic| (refine' DL.FD.mk' ?a ?l ?c ?k; (case a => k_is); (case l => k_is); (case c => k_is); (case k => k_is)))
set_option maxRecDepth 100000 in
set_option maxHeartbeats 0 in
theorem PySem.Challenge.cw_chalkline_k79_whole_bow_plan_holds : PySem.Challenge.rw_chalkline_k79_whole_bow_plan.Holds := by
  w_on; o_law; k_head; (case hw => w_witness2)
  k_fill
  refine DL.walkD (l := PySem.Challenge.rw_chalkline_k79_whole_bow_plan) 10 ⟨rfl, by decide, by decide⟩ rfl rfl (fun w h Y => PySem.W.kIn_of Y) ?F
  case F =>
    intro w mg fa h KX G hmg
    refine' Kx.all_mk KX G hmg ?d0 ?d1 ?d2 ?d3 ?d4 ?d5 ?d6 ?d7 ?d8 ?d9 ?d10 ?d11 ?d12 ?d13 ?d14 ?d15 ?d16 ?d17 ?d18 ?d19 ?d20 ?d21 ?d22 ?d23 ?d24 ?d25 ?d26 ?d27 ?d28 ?d29 ?d30 ?d31 ?d32 ?a33 ?l33 ?c33 ?k33 ?z_list ?z_max ?z_range ?z_abs ?z_len ?z_isinstance ?z_int ?z_bool ?z_tuple ?z_all ?z_set ?z_str ?z_enumerate ?e_ChalkError ?e_Same ?e_NoDeed ?e_NoBow ?y_NoBow ?xga_NoBow ?xgh_NoBow ?xbs_NoBow ?xob_NoBow ?xca_NoBow ?xvv_NoBow ?t_NoBow_ChalkError ?u_NoBow_ChalkError ?v_NoPlace ?t_NoBow_Same ?v_NoFloor ?v_Endless ?t_NoBow_NoDeed ?v_NoText ?v_NoName ?v_TooMany ?v_NoChange ?v_NoFrame ?v_NoValue ?v_Unlike ?v_NoRatio ?t_NoBow_NoBow ?u_NoBow_NoBow ?v_NoRow ?xcg ?xct ?q_PLAN ?lq_PLAN ?lq0_PLAN ?lq1_PLAN ?lq2_PLAN ?lq3_PLAN ?lq4_PLAN ?lq5_PLAN ?lq6_PLAN ?lq7_PLAN ?lq8_PLAN ?lq9_PLAN ?lq10_PLAN ?q_LAST ?q_MOST_PEGS ?hlaw
    (case d0 | d1 | d2 | d3 | d4 | d5 | d6 | d7 | d8 | d9 | d10 | d11 | d12 | d13 | d14 | d15 | d16 | d17 | d18 | d19 | d20 | d21 | d22 | d23 | d24 | d25 | d26 | d27 | d28 | d29 | d30 | d31 | d32 => walk_at "FD")
    (case a33 | l33 | c33 | k33 | z_list | z_max | z_range | z_abs | z_len | z_isinstance | z_int | z_bool | z_tuple | z_all | z_set | z_str | z_enumerate | e_ChalkError | e_Same | e_NoDeed | e_NoBow => k_is)
    (case y_NoBow => k_exc)
    (case xga_NoBow | xgh_NoBow | xbs_NoBow | xob_NoBow | xca_NoBow => k_is)
    (case xvv_NoBow | t_NoBow_ChalkError => kit_is)
    (case u_NoBow_ChalkError => kts_exm)
    (case v_NoPlace => k_is)
    (case t_NoBow_Same => kit_is)
    (case v_NoFloor | v_Endless => k_is)
    (case t_NoBow_NoDeed => kit_is)
    (case v_NoText | v_NoName | v_TooMany | v_NoChange | v_NoFrame | v_NoValue | v_Unlike | v_NoRatio => k_is)
    (case t_NoBow_NoBow => kit_is)
    (case u_NoBow_NoBow => kts_exm)
    (case v_NoRow | xcg | xct | q_PLAN | lq_PLAN | lq0_PLAN | lq1_PLAN | lq2_PLAN | lq3_PLAN | lq4_PLAN | lq5_PLAN | lq6_PLAN | lq7_PLAN | lq8_PLAN | lq9_PLAN | lq10_PLAN | q_LAST | q_MOST_PEGS => k_is)
    (case hlaw => exact Lk79.law_ok)
end