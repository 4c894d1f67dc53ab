import PyProof.Rows.All
import Wide.All
import OpenK.AllK
import Wide.FinOn
import Lean
import PyProof.EqAt
import PyProof.EqKinds
import PyProof.TupleCall
import PyProof.NeKinds
import KE.KTryMore
import PyProof.NsDelKeeps
import PySem.SetTable
import PyProof.StrLawsChain
import PyProof.StrBlockL
import KE.KIntText
import PyProof.DictTable
import PyProof.SliceStr2
import PyProof.MeetsStr
import PyProof.StrWalks
import PyProof.TupleKey
import PyProof.SetKind
import PyProof.Rows.SetFrom
import PyProof.ZipIter
import PyProof.Rows.ZipGen
import PyProof.LayNew
import PyProof.ExcInit
import PyProof.ExcClass3
import PyProof.EnumFor
import PyProof.EnumMake
import PyProof.EnumStmt
import PyProof.Rows.StrNews
import KE.KDictSum
import KE.KSortTup
import PyProof.DictWalks
import PyProof.DictRoadsH
import PyProof.DictKeyH
import PyProof.AutoSeq1
import PySem.Challenge.RW_chalkline_k56_sums_read
set_option Elab.async false
set_option linter.all false
set_option compiler.extract_closed false
set_option maxRecDepth 100000
set_option maxHeartbeats 1000000
section
open PySem PyProof.Rows
abbrev xFg := PySem.W.Frag
abbrev xaa := @wpAny_bind
abbrev xab := @Heap.get?_push_of_some
abbrev xad := @Nat.le_refl
abbrev xae := @List.getElem?_eq_some_iff
abbrev xaf := @List.getElem?_set_ne
abbrev xag := @absurd
abbrev xah := @decide_eq_true
abbrev xai := @Heap.lt_size
abbrev xaj := @of_decide_eq_true
abbrev xak := @Nat.lt_of_lt_of_le
abbrev xal := @List.size_toArray
abbrev xam := @List.mem_cons
abbrev xan := @wpAny_pure
abbrev xao := @List.length_map
abbrev xap := @if_neg
abbrev xaq := @List.mem_cons_of_mem
abbrev xar := @List.length_append
abbrev xas := @PySem.W.mg_of
abbrev xat := @decide_eq_false
abbrev xau := @Heap.get?_push_size
abbrev xav := @if_pos
abbrev xaw := @Bool.false_ne_true
abbrev xax := @Nat.le_trans
abbrev xay := @Bool.and_eq_true
abbrev xaz := @List.getElem?_set_self
abbrev xa0 := @List.length_cons
abbrev xa1 := @List.not_mem_nil
abbrev xa2 := @Nat.ne_of_lt
abbrev xa3 := @Ne.symm
abbrev xa4 := @Option.some.inj
abbrev xa5 := @List.mem_cons_self
abbrev xa6 := @PySem.W.mg_none_of
abbrev xa7 := @List.append_assoc
abbrev xa8 := @List.mem_append_right
abbrev xa9 := @List.replicate_succ
abbrev xba := @List.length_replicate
abbrev xbb := @List.map_append
abbrev xbc := @List.getElem?_append_left
abbrev xbd := @List.getElem?_map
abbrev xbe := @List.map_cons
abbrev xbf := @List.getElem?_eq_getElem
abbrev xbg := @Heap.get?_update_other
abbrev xbh := @List.all_eq_true
abbrev xbi := @List.mem_append
abbrev xbj := @Nat.lt_irrefl
abbrev xbk := @Array.getElem?_eq_some_iff
abbrev xbl := @List.length_take
abbrev xbm := @Bool.eq_iff_iff
abbrev xbn := @List.lookup_cons
abbrev xbo := @List.append_nil
abbrev xbp := @List.forIn_cons
abbrev xbq := @List.length_nil
abbrev xbr := @List.getElem?_append_right
abbrev xbs := @Int.toNat_natCast
abbrev xbt := @List.flatten_cons
abbrev xbu := @List.foldl_append
abbrev xbv := @List.dropLast_concat
abbrev xbw := @Option.isSome_iff_exists
abbrev xbx := @List.getElem_mem
abbrev xby := @Array.length_toList
abbrev xbz := @List.getElem?_replicate
abbrev xb0 := @List.mem_singleton
abbrev xb1 := @Nat.ne_of_gt
abbrev xb2 := @Heap.size_push
abbrev xb3 := @Nat.zero_add
abbrev xb4 := @List.map_map
abbrev xb5 := @List.mem_of_getElem?
abbrev xb6 := @List.cons_append
abbrev xb7 := @Array.toList_inj
abbrev xb8 := @Nat.le_add_right
abbrev xb9 := @List.exists_cons_of_ne_nil
abbrev xcb := @List.filterMap_cons
abbrev xcc := @List.length_pos_iff
abbrev xcd := @List.nodup_cons
abbrev xcf := @List.foldl_cons
abbrev xcg := @List.drop_eq_getElem_cons
abbrev xch := @Nat.le_of_lt
abbrev xci := @Nat.lt_of_le_of_lt
abbrev xcj := @List.mem_map
abbrev xck := @Heap.get?_push_at
abbrev xcl := @Nat.zero_le
abbrev xcm := @List.length_drop
abbrev xcn := @Heap.get?_update_self
abbrev xco := @List.getElem?_range
abbrev xcp := @Bool.false_and
abbrev xcq := @Bool.and_false
end
open PySem
section
namespace L2
open PySem.Spec PyProof.Rows
abbrev Key := Sum Int Str
def keyIs : Key -> Value -> Bool
  | .inl k, v => Value.isInt k v
  | .inr x, v => Value.isStrOf x v
def keyH (w : World) : Key -> Int
  | .inl k => hashInt k
  | .inr x => hashStr w x
theorem keyIs_shape : ∀ {k : Key} {v : Value}, keyIs k v = true -> (∃ i t, k = Sum.inl i /\ v = Value.int i t) \/ (∃ x t, k = Sum.inr x /\ v = Value.str x t)
  | .inl i, v, h => by
    obtain ⟨t, e⟩ := Value.isInt_shape (k := i) (v := v) h
    exact .inl ⟨i, t, rfl, e⟩
  | .inr x, v, h => by
    obtain ⟨t, e⟩ := Value.isStrOf_shape (x := x) (v := v) h
    exact .inr ⟨x, t, rfl, e⟩
theorem key_ll (a b : Int) : decide ((Sum.inl a : Key) = Sum.inl b) = (a == b) := by
  by_cases e : a = b
  · subst e; simp
  · have h : ¬ (Sum.inl a : Key) = Sum.inl b := fun q => e (Sum.inl.inj q)
    rw [xat h]
    exact (beq_eq_false_iff_ne.mpr e).symm
theorem key_rr (a b : Str) : decide ((Sum.inr a : Key) = Sum.inr b) = decide (a = b) := by
  by_cases e : a = b
  · subst e; simp
  · have h : ¬ (Sum.inr a : Key) = Sum.inr b := fun q => e (Sum.inr.inj q)
    rw [xat h, xat e]
theorem key_lr (a : Int) (b : Str) : decide ((Sum.inl a : Key) = Sum.inr b) = false := xat (fun q => nomatch q)
theorem key_rl (a : Str) (b : Int) : decide ((Sum.inr a : Key) = Sum.inl b) = false := xat (fun q => nomatch q)
def mixKind (prog : Program) (w : World) : PySem.KeyKind prog w Key where
  is := keyIs
  hash := keyH w
  inj := fun v a b ha hb => by
    rcases keyIs_shape ha with ⟨i, t, rfl, rfl⟩ | ⟨x, t, rfl, rfl⟩
    · rcases keyIs_shape hb with ⟨j, u, rfl, e⟩ | ⟨y, u, rfl, e⟩
      · injection e with e1 _; rw [e1]
      · exact nomatch e
    · rcases keyIs_shape hb with ⟨j, u, rfl, e⟩ | ⟨y, u, rfl, e⟩
      · exact nomatch e
      · injection e with e1 _; rw [e1]
  byValue := fun k v h => by
    rcases keyIs_shape h with ⟨i, t, rfl, rfl⟩ | ⟨x, t, rfl, rfl⟩ <;> rfl
  pyHash := fun hv h => by
    rcases keyIs_shape hv with ⟨i, t, rfl, rfl⟩ | ⟨x, t, rfl, rfl⟩
    · exact wpAny_pyHash_int h
    · exact wpAny_pyHash_str h
  eqBool := fun hu hv h => by
    rcases keyIs_shape hu with ⟨i, t, rfl, rfl⟩ | ⟨x, t, rfl, rfl⟩
    · rcases keyIs_shape hv with ⟨j, u, rfl, rfl⟩ | ⟨y, u, rfl, rfl⟩
      · rw [key_ll] at h; exact wpAny_eqBool_int h
      · rw [key_lr] at h; exact SeqAt.EqAt.int_str i t y u _ _ _ _ h
    · rcases keyIs_shape hv with ⟨j, u, rfl, rfl⟩ | ⟨y, u, rfl, rfl⟩
      · rw [key_rl] at h; exact SeqAt.EqAt.str_int x t j u _ _ _ _ h
      · rw [key_rr] at h; exact wpAny_eqBool_str h
  «strs» := fun k x t v h => by
    rcases keyIs_shape h with ⟨i, u, rfl, e⟩ | ⟨y, u, rfl, e⟩
    · exact nomatch e
    · injection e with e1 _
      subst e1
      cases v <;> rfl
end L2
namespace L2
open PySem.Spec PyProof.Rows
inductive V where
  | non | bl (b : Bool) | int (i : Int) | str (x : Str) | byt (b : Array UInt8) | flt (b : UInt64) | ref (a : Addr) | ty (n : String)
  deriving DecidableEq
def RelV : V -> Value -> Prop
  | .non, u => u = Value.none
  | .bl b, u => u = Value.bool b
  | .int i, u => ∃ t, u = Value.int i t
  | .str x, u => ∃ t, u = Value.str x t
  | .byt b, u => ∃ t, u = Value.bytes b t
  | .flt b, u => ∃ t, u = Value.float b t
  | .ref a, u => u = Value.ref a
  | .ty n, u => u = Value.type n
abbrev Vals : List V -> List Value -> Prop := Paired RelV
theorem Vals.length {xs : List V} {us : List Value} (r : Vals xs us) : xs.length = us.length := Paired.length r
theorem Vals.get : ∀ {xs : List V} {us : List Value} {i : Nat} {x : V}, Vals xs us -> xs[i]? = some x -> ∃ u, us[i]? = some u /\ RelV x u
  | _, _, _, _, .nil, e => by simp at e
  | _, _, 0, _, .cons r _, e => by simp at e; subst e; exact ⟨_, rfl, r⟩
  | _, _, i + 1, x, .cons _ t, e => by
    obtain ⟨u, h1, h2⟩ := Vals.get (i := i) (x := x) t (by simpa using e)
    exact ⟨u, by simpa using h1, h2⟩
theorem Vals.append : ∀ {xs ys : List V} {us ws : List Value}, Vals xs us -> Vals ys ws -> Vals (xs ++ ys) (us ++ ws)
  | _, _, _, _, .nil, s => s
  | _, _, _, _, .cons r t, s => .cons r (Vals.append t s)
theorem Vals.take : ∀ {xs : List V} {us : List Value} (n : Nat), Vals xs us -> Vals (xs.take n) (us.take n)
  | _, _, 0, _ => .nil
  | _, _, _ + 1, .nil => .nil
  | _, _, n + 1, .cons r t => .cons r (Vals.take n t)
theorem Vals.drop : ∀ {xs : List V} {us : List Value} (n : Nat), Vals xs us -> Vals (xs.drop n) (us.drop n)
  | _, _, 0, r => r
  | _, _, _ + 1, .nil => .nil
  | _, _, n + 1, .cons _ t => Vals.drop n t
def RelO : Option V -> Option Value -> Prop
  | some v, some u => RelV v u
  | none, none => True
  | _, _ => False
def KV {κ : Type} : List (κ × V) -> List (κ × Value) -> Prop := Paired fun (p : κ × V) (q : κ × Value) => p.1 = q.1 /\ RelV p.2 q.2
def kV : Key -> V
  | .inl i => .int i
  | .inr x => .str x
inductive HO where
  | lst (xs : List V)
  | tup (xs : List V)
  | dK (kvs : List (Key × V)) | dT (kvs : List (List Key × V))
  | set (S : Int -> Bool) (n : Nat)
  | ins (C dx : Addr) (fs : List (Str × V))
  | own (x : Addr)
  | xd (fs : List (Str × V))
  | met (f x : Addr)
  | rng (lo hi : Int)
  | frz (o : Obj) (u : HO)
  | tbl (ps : Array Value)
  | ext (φ : Heap -> Prop)
abbrev Hp := Addr -> Option HO
def upd (H : Hp) (a : Addr) (o : HO) : Hp := fun b => if b = a then some o else H b
theorem upd_same {H : Hp} {a : Addr} {o : HO} : upd H a o a = some o := by unfold upd; rw [xav rfl]
theorem upd_ne {H : Hp} {a b : Addr} {o : HO} (h : b ≠ a) : upd H a o b = H b := by unfold upd; rw [xap h]
theorem ne_of_none {H : Hp} {a b : Addr} {o : HO} (h : H a = some o) (h' : H b = none) : a ≠ b := by
  intro e; subst e; rw [h] at h'; cases h'
def TupN (h : Heap) (a : Addr) (items : Array Value) : Prop := ∃ o, h.get? a = some o /\ o.cls = .type "tuple" /\ (∃ n, o.data = .seq items n) /\ o.dict = none
theorem TupN.tup {h : Heap} {a : Addr} {items : Array Value} (x : TupN h a items) : IsTup h a items := by
  obtain ⟨o, e, c, d, _⟩ := x; exact ⟨o, e, c, d⟩
theorem TupN.new (h : Heap) (items : Array Value) : TupN (h.push { cls := .type "tuple", data := .seq items }) h.objs.size items := ⟨_, xau h rfl, rfl, ⟨0, rfl⟩, rfl⟩
section
variable (P : Program) (w : World)
def ObjOk (H : Hp) (h : Heap) (a : Addr) : HO -> Prop
  | .lst xs => xs.length <= sizeLine /\ ∃ (its : List Value) (n : Nat), Vals xs its /\ h.get? a = some { cls := .type "list", data := .seq its.toArray n }
  | .tup xs => xs.length <= sizeLine /\ ∃ its : List Value, Vals xs its /\ TupN h a its.toArray
  | .dK kvs => kvs.length <= sizeLine /\ (a == sysModules) = false /\ ∃ vs, KV kvs vs /\ h.DictOf (mixKind P w) a vs
  | .dT kvs => kvs.length <= sizeLine /\ (a == sysModules) = false /\ ∃ xs : List (List Key × Addr × Value),
      Paired (fun (p : List Key × V) (q : List Key × Addr × Value) => p.1 = q.1 /\ H q.2.1 = some (.tup (p.1.map kV)) /\ RelV p.2 q.2.2) kvs xs /\
      ∃ o es ep, h.get? a = some o /\ o.ExactDict /\ o.data = .dict es ep /\ es.toList = xs.map (entryOfKey (tupleKind (mixKind P w))) /\ (xs.map (·.1)).Nodup
  | .set S n => h.SetOf (intKind P w) a S n
  | .ins C dx fs => H dx = some (.own a) /\ fs.length <= 1000 /\ dx ≠ a /\ h.get? a = some (PySem.W.instObj C dx) /\
      ∃ mA, h.Ns1 dx mA /\ (∀ f, RelO (fs.lookup f) (mA f)) /\ PySem.Within mA (fs.map (·.1))
  | .own _ => ∃ o, h.get? a = some o
  | .xd fs => ∃ mA, h.Ns1 a mA /\ ∀ f, RelO (fs.lookup f) (mA f)
  | .rng lo hi => ∃ t u v, h.get? a = some { cls := .type "range", data := .fields #[.int lo t, .int hi u, .int 1 v] }
  | .frz o u => h.get? a = some o /\ ObjOk H h a u
  | .tbl ps => h.get? a = some { cls := .none, data := .fields ps }
  | .met f x => h.get? a = some (PySem.W.methodObj (.ref f) (.ref x))
  | .ext φ => φ h /\ (∃ o, h.get? a = some o) /\ ∀ h1 h2 : Heap, φ h1 -> (∀ o, h1.get? a = some o -> h2.get? a = some o) -> φ h2
def HOk (H : Hp) (h : Heap) : Prop := ∀ a o, H a = some o -> ObjOk P w H h a o
end
section
variable {P : Program} {w : World} {H H' : Hp} {h h' : Heap} {a : Addr} {o : HO}
theorem ObjOk.lt (x : ObjOk P w H h a o) : a < h.objs.size := by
  cases o with
  | lst xs => obtain ⟨_, _, _, _, e⟩ := x; exact xai e
  | tup xs => obtain ⟨_, _, _, p⟩ := x; exact p.tup.lt
  | dK kvs => obtain ⟨_, _, _, _, o, _, _, e, _⟩ := x; exact xai e
  | dT kvs => obtain ⟨_, _, _, _, o, _, _, e, _⟩ := x; exact xai e
  | set S n => obtain ⟨o, _, _, _, e, _⟩ := x; exact xai e
  | ins C dx fs => obtain ⟨_, _, _, e, _⟩ := x; exact xai e
  | own y => obtain ⟨_, e⟩ := x; exact xai e
  | xd fs => obtain ⟨_, ⟨_, _, _, e, _⟩, _⟩ := x; exact xai e
  | rng lo hi => obtain ⟨_, _, _, e⟩ := x; exact xai e
  | frz ob u => obtain ⟨e, _⟩ := x; exact xai e
  | tbl ps => exact xai (show h.get? a = some _ from x)
  | met f y => exact xai (show h.get? a = some _ from x)
  | ext φ => obtain ⟨_, ⟨_, e⟩, _⟩ := x; exact xai e
theorem Paired.mapP {α β : Type} {F G : α -> β -> Prop} : ∀ {l₁ : List α} {l₂ : List β}, Paired F l₁ l₂ -> (∀ a b, F a b -> G a b) -> Paired G l₁ l₂
  | _, _, .nil, _ => .nil
  | _, _, .cons r t, f => .cons (f _ _ r) (Paired.mapP t f)
theorem ObjOk.stay (x : ObjOk P w H h a o) (k : ∀ b u, (b = a \/ H b = some (.own a)) -> h.get? b = some u -> h'.get? b = some u)
    (ho : ∀ b, H b = some (.own a) -> H' b = some (.own a)) (ht : ∀ b xs, H b = some (.tup xs) -> H' b = some (.tup xs)) : ObjOk P w H' h' a o := by
  induction o with
  | lst xs => obtain ⟨z, its, n, r, e⟩ := x; exact ⟨z, its, n, r, k _ _ (.inl rfl) e⟩
  | tup xs => obtain ⟨z, its, r, ob, e, c⟩ := x; exact ⟨z, its, r, ob, k _ _ (.inl rfl) e, c⟩
  | dK kvs => obtain ⟨z, y, vs, r, ob, es, ep, e, c⟩ := x; exact ⟨z, y, vs, r, ob, es, ep, k _ _ (.inl rfl) e, c⟩
  | dT kvs =>
    obtain ⟨z, y, xs, r, ob, es, ep, e, c⟩ := x
    exact ⟨z, y, xs, Paired.mapP r fun p q z => ⟨z.1, ht _ _ z.2.1, z.2.2⟩, ob, es, ep, k _ _ (.inl rfl) e, c⟩
  | set S n => obtain ⟨ob, es, ep, t, e, c⟩ := x; exact ⟨ob, es, ep, t, k _ _ (.inl rfl) e, c⟩
  | ins C dx fs =>
    obtain ⟨d, z, ne, e, mA, ⟨od, es, ep, e2, c⟩, r⟩ := x
    exact ⟨ho _ d, z, ne, k _ _ (.inl rfl) e, mA, ⟨od, es, ep, k _ _ (.inr d) e2, c⟩, r⟩
  | own y => obtain ⟨ob, e⟩ := x; exact ⟨ob, k _ _ (.inl rfl) e⟩
  | xd fs => obtain ⟨mA, ⟨od, es, ep, e, c⟩, r⟩ := x; exact ⟨mA, ⟨od, es, ep, k _ _ (.inl rfl) e, c⟩, r⟩
  | rng lo hi => obtain ⟨t, u, v, e⟩ := x; exact ⟨t, u, v, k _ _ (.inl rfl) e⟩
  | frz ob u ih => obtain ⟨e, q⟩ := x; exact ⟨k _ _ (.inl rfl) e, ih q⟩
  | tbl ps =>
    have e : h.get? a = some { cls := .none, data := .fields ps } := x
    show h'.get? a = some { cls := .none, data := .fields ps }
    exact k a _ (.inl rfl) e
  | met f y =>
    have e : h.get? a = some (PySem.W.methodObj (.ref f) (.ref y)) := x
    show h'.get? a = some (PySem.W.methodObj (.ref f) (.ref y))
    exact k a _ (.inl rfl) e
  | ext φ => obtain ⟨p, ⟨o, e⟩, st⟩ := x; exact ⟨st _ _ p fun o q => k _ _ (.inl rfl) q, ⟨o, k _ _ (.inl rfl) e⟩, st⟩
theorem HOk.lt (x : HOk P w H h) (e : H a = some o) : a < h.objs.size := (x a o e).lt
theorem HOk.fresh (x : HOk P w H h) (e : h.objs.size <= a) : H a = none := by
  cases q : H a with
  | none => rfl
  | some u => exact xag (xak (x.lt q) e) (xbj _)
theorem HOk.kept (x : HOk P w H h) (k : ∀ b u, h.get? b = some u -> h'.get? b = some u) : HOk P w H h' := fun a o e =>
  (x a o e).stay (fun b u _ q => k b u q) (fun _ q => q) fun _ _ q => q
theorem HOk.laid (x : HOk P w H h) (k : ∀ b u, h.get? b = some u -> h'.get? b = some u) (hp : h.objs.size <= a) (new : ObjOk P w (upd H a o) h' a o) : HOk P w (upd H a o) h' := fun b u e => by
  have hn := x.fresh hp
  by_cases hb : b = a
  · subst hb; rw [upd_same] at e; cases e; exact new
  · rw [upd_ne hb] at e
    exact (x b u e).stay (fun c v _ q => k c v q) (fun c q => by rw [upd_ne (ne_of_none q hn)]; exact q) fun c xs q => by rw [upd_ne (ne_of_none q hn)]; exact q
end
def Rd (H : Hp) (a : Addr) (u : HO) : Prop := H a = some u \/ ∃ o, H a = some (.frz o u)
theorem Rd.ok {P : Program} {w : World} {H : Hp} {h : Heap} {a : Addr} {u : HO} (r : Rd H a u) (x : HOk P w H h) : ObjOk P w H h a u := by
  rcases r with r | ⟨o, r⟩
  · exact x a u r
  · obtain ⟨_, q⟩ := x a _ r
    exact q
def Mut : Option HO -> Prop
  | some (.lst _) => True
  | some (.dK _) => True
  | some (.dT _) => True
  | some (.set _ _) => True
  | some (.ins _ _ _) => True
  | some (.ext _) => True
  | _ => False
section
variable {P : Program} {w : World} {H : Hp} {h h' : Heap} {x e : Addr} {o' : HO}
theorem HOk.write (ok : HOk P w H h) (mu : Mut (H x)) (he : e = x \/ H e = some (.own x)) (k : ∀ b u, b ≠ e -> h.get? b = some u -> h'.get? b = some u) (heo : ∃ u, h'.get? e = some u)
    (new : ObjOk P w (upd H x o') h' x o') : HOk P w (upd H x o') h' := fun b u q => by
  have nown : ∀ c y, H c = some (.own y) -> c ≠ x := fun c y r z => by subst z; rw [r] at mu; exact mu
  have ntup : ∀ c xs, H c = some (.tup xs) -> c ≠ x := fun c xs r z => by subst z; rw [r] at mu; exact mu
  by_cases hb : b = x
  · subst hb; rw [upd_same] at q; cases q; exact new
  · rw [upd_ne hb] at q
    by_cases hbe : b = e
    · have q' : H b = some (.own x) := by
        rcases he with z | z
        · exact xag (hbe.trans z) hb
        · rw [hbe]; exact z
      rw [q] at q'; cases q'
      obtain ⟨v, hv⟩ := heo
      exact ⟨v, by rw [hbe]; exact hv⟩
    · refine (ok b u q).stay (fun c v hc r => k c v ?_ r) (fun c r => by rw [upd_ne (nown c b r)]; exact r) fun c xs r => by rw [upd_ne (ntup c xs r)]; exact r
      rcases hc with rfl | hc
      · exact hbe
      · rintro rfl
        rcases he with z | z
        · exact nown c b hc z
        · rw [hc] at z; cases z; exact hb rfl
end
structure Un (fs ex : List Addr) (H H' : Hp) (h h' : Heap) : Prop where
  keep : ∀ b o, h.get? b = some o -> H b = none -> b ∉ fs -> b ∉ ex -> h'.get? b = some o
  slot : ∀ b o, h.get? b = some o -> H b = none -> b ∈ fs -> b ∉ ex -> ∃ sl, h'.get? b = some { o with slots := sl }
  free : ∀ b o, h.get? b = some o -> H b = none -> b ∉ ex -> H' b = none
  there : ∀ b o, h.get? b = some o -> b ∉ ex -> ∃ o', h'.get? b = some o'
  tups : ∀ b xs, H b = some (.tup xs) -> H' b = some (.tup xs)
  frzs : ∀ b o u, H b = some (.frz o u) -> H' b = some (.frz o u)
  tbls : ∀ b ps, H b = some (.tbl ps) -> ∃ more, H' b = some (.tbl (ps ++ more))
section
variable {fs fs' ex ex' : List Addr} {H H1 H2 : Hp} {h h1 h2 h' : Heap} {a x e : Addr} {o : HO}
theorem Un.any (u : Un fs ex H H1 h h1) {b : Addr} {ob : Obj} (q : h.get? b = some ob) (n : H b = none) (hx : b ∉ ex) : ∃ sl, h1.get? b = some { ob with slots := sl } := by
  by_cases hb : b ∈ fs
  · exact u.slot b ob q n hb hx
  · exact ⟨ob.slots, u.keep b ob q n hb hx⟩
theorem Un.kept (k : ∀ b u, h.get? b = some u -> h'.get? b = some u) : Un fs ex H H h h' :=
  ⟨fun b ob q _ _ _ => k b ob q, fun b ob q _ _ _ => ⟨ob.slots, k b ob q⟩, fun _ _ _ n _ => n, fun b ob q _ => ⟨ob, k b ob q⟩, fun _ _ q => q, fun _ _ _ q => q, fun _ ps q => ⟨#[], by rw [q]; simp⟩⟩
theorem Un.refl : Un fs ex H H h h := Un.kept fun _ _ q => q
theorem Un.laid (k : ∀ b u, h.get? b = some u -> h'.get? b = some u) (hp : h.objs.size <= a) (hn : H a = none) : Un fs ex H (upd H a o) h h' where
  keep := fun b u q _ _ _ => k b u q
  slot := fun b u q _ _ _ => ⟨u.slots, k b u q⟩
  free := fun b u q n _ => by rw [upd_ne (xa2 (xak (xai q) hp))]; exact n
  there := fun b u q _ => ⟨u, k b u q⟩
  tups := fun b xs q => by rw [upd_ne (ne_of_none q hn)]; exact q
  frzs := fun b u xs q => by rw [upd_ne (ne_of_none q hn)]; exact q
  tbls := fun b ps q => ⟨#[], by rw [upd_ne (ne_of_none q hn), q]; simp⟩
theorem Un.write (mu : Mut (H x)) (he : e = x \/ H e = some (.own x)) (k : ∀ b u, b ≠ e -> h.get? b = some u -> h'.get? b = some u) (heo : ∃ u, h'.get? e = some u) : Un fs ex H (upd H x o) h h' := by
  have hx : ∀ b, H b = none -> b ≠ x := fun b n z => by subst z; rw [n] at mu; exact mu
  have hb : ∀ b, H b = none -> b ≠ e := fun b n z => by
    subst z
    rcases he with r | r
    · exact hx b n r
    · rw [n] at r; cases r
  have hm : ∀ b u, H b = some u -> ¬ Mut (some u) -> b ≠ x := fun b u q nm z => by subst z; rw [q] at mu; exact nm mu
  refine ⟨fun b u q n _ _ => k b u (hb b n) q, fun b u q n _ _ => ⟨u.slots, k b u (hb b n) q⟩, fun b u q n _ => by rw [upd_ne (hx b n)]; exact n, fun b u q _ => ?_,
    fun b xs q => by rw [upd_ne (hm b _ q fun z => z)]; exact q, fun b u xs q => by rw [upd_ne (hm b _ q fun z => z)]; exact q, fun b ps q => ⟨#[], by rw [upd_ne (hm b _ q fun z => z), q]; simp⟩⟩
  by_cases hbe : b = e
  · subst hbe; exact heo
  · exact ⟨u, k b u hbe q⟩
end
def trk (h : Heap) (H : Hp) : List Addr := (List.range h.objs.size).filter fun a => (H a).isSome
def hidT (h : Heap) (H : Hp) : Heap := PySem.W.hideAll h (trk h H)
theorem hidT_size (h : Heap) (H : Hp) : (hidT h H).objs.size = h.objs.size := PySem.W.hideAll_size _ _
theorem hidT_get {h : Heap} {H : Hp} {b : Addr} {o : Obj} (e : h.get? b = some o) (n : H b = none) : (hidT h H).get? b = some o :=
  PySem.W.hideAll_get _ e fun hm => by
    have q : (H b).isSome = true := (List.mem_filter.mp hm).2
    rw [n] at q; simp at q
theorem of_hidT {h : Heap} {H : Hp} {b : Addr} {o : Obj} (e : (hidT h H).get? b = some o) : h.get? b = some o /\ H b = none := by
  have e' : h.get? b = some o := PySem.W.of_hideAll (trk h H) e
  refine ⟨e', ?_⟩
  cases q : H b with
  | none => rfl
  | some x =>
    have hm : b ∈ trk h H := List.mem_filter.mpr ⟨List.mem_range.mpr (xai e'), by simp [q]⟩
    have z : (hidT h H).get? b = none := PySem.W.hideAll_none (trk h H) hm
    rw [z] at e; cases e
def allNews (g h : Heap) (L : Addr) : List (Addr × Obj) := (List.range h.objs.size).filterMap fun a => if a = L \/ (g.get? a).isSome = true then none else (h.get? a).map fun o => (a, o)
def rest (g h : Heap) (L d : Addr) : List (Addr × Obj) := (allNews g h L).filter fun p => decide (p.1 ≠ d)
end L2
namespace L2
open PySem.Spec PyProof.Rows
structure Mod (K : xFg) (mg : Str -> Option Value) (base : Heap) : Prop where
  kin : K.In base
  glob : base.Ns mainGlobals mg
  blt : ∃ mb, base.Ns builtinsNs mb /\ ∀ x : Str, x ≠ "__name__" -> mb x = bootBuiltins x
  nolimit : base.NoLimit
structure Cx where
  prog : Program
  w : World
  K : xFg
  mg : Str -> Option Value
  base : Heap
  A : Around
  N : List Str
  s₀ : Shared
  H₀ : Hp
  env : Env
  outer : List Env
  stack : List Env
  ex : List Addr
  fn : Str -> Bool
  calm : Bool
  pn : List (Addr × Obj)
  xe : Value -> Shared -> Prop
def frs (l : List Env) : List Addr := l.filterMap (·.frame)
abbrev Cx.fs (X : Cx) : List Addr := frs X.outer
def Vis (sc : Scope) (x : Str) : Prop := sc.names.lookup x = some .local \/ sc.names.lookup x = some .cell \/ sc.names.lookup x = some .free
def Loc (sc : Scope) (x : Str) : Prop := sc.names.lookup x = some .local \/ sc.names.lookup x = some .cell
def Look (env : Env) (h : Heap) (m : Str -> Option Value) (x : Str) (u : Value) : Prop :=
  (env.kindOf x = some .local /\ m x = some u) \/ ((env.kindOf x = some .cell \/ env.kindOf x = some .free) /\ ∃ c, env.cells.lookup x = some c /\ h.IsCell c (some u))
structure Cx.Ok (X : Cx) : Prop where
  mod : Mod X.K X.mg X.base
  kind : X.env.scope.kind = .function
  glob : X.env.globals = mainGlobals
  blt : X.env.builtins = builtinsNs
  above : X.s₀.heap.objs.size <= X.env.locals
  inj : ∀ x y c, X.env.cells.lookup x = some c -> X.env.cells.lookup y = some c -> x = y
  has : ∀ x, (X.env.kindOf x = some .cell \/ X.env.kindOf x = some .free) -> ∃ c, X.env.cells.lookup x = some c
  cab : ∀ x c, X.fn x = true -> X.env.cells.lookup x = some c -> X.s₀.heap.objs.size <= c
  hd : X.calm = true -> X.A.handled = none
  frames : X.A.frames = some X.stack
  stk : X.stack = X.outer \/ (X.stack = X.env :: X.outer /\ X.env.frame = some X.env.locals)
  exf : ∀ b ∈ X.ex, b ≠ X.env.locals /\ ∀ x c, X.env.cells.lookup x = some c -> c ≠ b
  bs : ∀ b o, X.base.get? b = some o -> X.s₀.heap.get? b = some o /\ X.H₀ b = none
  bsz : X.base.objs.size <= X.s₀.heap.objs.size
  noex : ∀ b o, X.base.get? b = some o -> b ∉ X.ex
  exfs : ∀ b ∈ X.ex, b ∉ X.fs
  funs : X.s₀.heap.FunFrames X.base X.outer
  frf : ∀ b ∈ X.fs, X.H₀ b = none
structure Inv (X : Cx) (pins : List (Addr × Obj)) (O : List (Option V)) (H : Hp) (s : Shared) : Prop where
  ok : X.Ok
  os : s.os = X.s₀.os
  bare : AllBare s.gens
  base : Un X.fs X.ex X.H₀ H X.s₀.heap s.heap
  loc : ∃ m, s.heap.Ns X.env.locals m /\ ∀ (i : Nat) (x : Str) (v : V), X.N[i]? = some x -> O[i]? = some (some v) -> Vis X.env.scope x -> ∃ u, RelV v u /\ Look X.env s.heap m x u
  cell : ∀ x c, X.env.cells.lookup x = some c -> ∃ v, s.heap.IsCell c v
  free : H X.env.locals = none
  freeC : ∀ x c, X.env.cells.lookup x = some c -> H c = none
  pin : ∀ p ∈ X.pn ++ pins, s.heap.get? p.1 = some p.2 /\ H p.1 = none /\ p.1 ≠ X.env.locals /\ p.1 ∉ X.fs /\ ∀ v, p.2.data ≠ .cell v
  hok : HOk X.prog X.w H s.heap
  len : O.length = X.N.length
section
variable {X : Cx} {pins : List (Addr × Obj)} {O : List (Option V)} {H H' : Hp} {s : Shared} {h' : Heap}
theorem Cx.Ok.nofr (ok : X.Ok) {b : Addr} {o : Obj} (e : X.base.get? b = some o) : b ∉ X.fs := fun hb => by
  have := (ok.funs.mem hb).1
  rw [e] at this; cases this
theorem Inv.bs (I : Inv X pins O H s) : ∀ b o, X.base.get? b = some o -> s.heap.get? b = some o /\ H b = none := fun b o e =>
  ⟨I.base.keep b o (I.ok.bs b o e).1 (I.ok.bs b o e).2 (I.ok.nofr e) (I.ok.noex b o e), I.base.free b o (I.ok.bs b o e).1 (I.ok.bs b o e).2 (I.ok.noex b o e)⟩
theorem Inv.bk (I : Inv X pins O H s) : ∀ b o, X.base.get? b = some o -> s.heap.get? b = some o := fun b o e => (I.bs b o e).1
theorem Inv.mod (I : Inv X pins O H s) : Mod X.K X.mg X.base := I.ok.mod
theorem Inv.kIn (I : Inv X pins O H s) : X.K.In s.heap := I.ok.mod.kin.keeps I.bk
theorem Inv.fr (I : Inv X pins O H s) : ∃ m, Fr X.base X.env.locals s.heap m :=
  let ⟨m, hn, _⟩ := I.loc
  ⟨m, hn, I.bk, xax I.ok.bsz I.ok.above⟩
theorem Inv.lt (I : Inv X pins O H s) : X.env.locals < s.heap.objs.size := let ⟨_, hn, _⟩ := I.loc; hn.lt
theorem Inv.sz (I : Inv X pins O H s) : X.s₀.heap.objs.size <= s.heap.objs.size := xax I.ok.above (xch I.lt)
theorem Inv.nofs (I : Inv X pins O H s) {a : Addr} (h : s.heap.objs.size <= a) : a ∉ X.fs := fun hb => by
  obtain ⟨_, o, ho, _⟩ := I.ok.funs.mem hb
  exact xag (xak (xai ho) (xax I.sz h)) (xbj _)
theorem Inv.cne (I : Inv X pins O H s) : ∀ x c, X.env.cells.lookup x = some c -> c ≠ X.env.locals := fun x c e z => by
  obtain ⟨v, o, ho, hd⟩ := I.cell x c e
  obtain ⟨m, ⟨o', es, ep, ho', hd', _⟩, _⟩ := I.loc
  rw [z, ho'] at ho; cases ho; rw [hd'] at hd; cases hd
theorem Inv.funs (I : Inv X pins O H s) : s.heap.FunFrames X.base X.outer := by
  have all : ∀ (l : List Env), (∀ b ∈ frs l, b ∈ X.fs) -> X.s₀.heap.FunFrames X.base l -> s.heap.FunFrames X.base l := by
    intro l
    induction l with
    | nil => intro _ _; trivial
    | cons env r ih =>
      intro hs hl
      obtain ⟨hk, ⟨L, o, hf, hn, ho, hd⟩, hr⟩ := hl
      have hL : L ∈ X.fs := hs L (by unfold frs; rw [xcb, hf]; exact xa5)
      obtain ⟨sl, e⟩ := I.base.slot L o ho (I.ok.frf L hL) hL fun z => I.ok.exfs L z hL
      exact ⟨hk, ⟨L, _, hf, hn, e, hd⟩, ih (fun b hb => hs b (by unfold frs; rw [xcb, hf]; exact xaq _ hb)) hr⟩
  exact all X.outer (fun _ hb => hb) I.ok.funs
theorem Inv.stack (I : Inv X pins O H s) : s.heap.FunFrames X.base X.stack := by
  rcases I.ok.stk with e | ⟨e, hf⟩
  · rw [e]; exact I.funs
  · rw [e]
    obtain ⟨m, hn, _⟩ := I.loc
    refine .cons (by rw [I.ok.kind]; decide) hf hn ?_ I.funs
    exact Heap.get?_none_of_le (xax I.ok.bsz I.ok.above)
theorem Inv.stkSub (I : Inv X pins O H s) : ∀ b ∈ frs X.stack, b ∈ X.env.locals :: X.fs := fun b hb => by
  rcases I.ok.stk with e | ⟨e, hf⟩
  · rw [e] at hb; exact xaq _ hb
  · rw [e] at hb
    unfold frs at hb
    rw [xcb, hf] at hb
    exact hb
theorem Inv.stkFree (I : Inv X pins O H s) : ∀ b ∈ frs X.stack, H b = none := fun b hb => by
  rcases xam.mp (I.stkSub b hb) with e | hb
  · rw [e]; exact I.free
  · obtain ⟨_, o, ho, _⟩ := I.ok.funs.mem hb
    exact I.base.free b o ho (I.ok.frf b hb) fun z => I.ok.exfs b z hb
theorem Inv.step {g' : Array GenState} {t' : Nat} {d' : Drawn} {ch : List Addr} (I : Inv X pins O H s)
    (hch : ∀ b ∈ ch, (b ∈ X.ex \/ X.s₀.heap.objs.size <= b) /\ b ≠ X.env.locals /\ (∀ x c, X.env.cells.lookup x = some c -> c ≠ b) /\ ∀ p ∈ X.pn ++ pins, p.1 ≠ b)
    (keep : ∀ b o, b ≠ X.env.locals -> b ∉ X.fs -> b ∉ ch -> s.heap.get? b = some o -> H b = none -> h'.get? b = some o)
    (slot : ∀ b o, b ≠ X.env.locals -> b ∈ X.fs -> b ∉ ch -> s.heap.get? b = some o -> H b = none -> ∃ sl, h'.get? b = some { o with slots := sl }) (free : ∀ b o, b ∉ ch -> s.heap.get? b = some o -> H b = none -> H' b = none)
    (there : ∀ b o, b ∉ ch -> s.heap.get? b = some o -> ∃ o', h'.get? b = some o')
    (tups : ∀ b xs, H b = some (.tup xs) -> H' b = some (.tup xs)) (frzs : ∀ b o u, H b = some (.frz o u) -> H' b = some (.frz o u)) (tbls : ∀ b ps, H b = some (.tbl ps) -> ∃ more, H' b = some (.tbl (ps ++ more)))
    (ns : ∀ m, s.heap.Ns X.env.locals m -> h'.Ns X.env.locals m) (hok : HOk X.prog X.w H' h') (hg : AllBare g') :
    Inv X pins O H' { s with heap := h', gens := g', drawn := d', toks := t' } := by
  have neL : ∀ b o, X.s₀.heap.get? b = some o -> b ≠ X.env.locals := fun b o e => xa2 (xak (xai e) I.ok.above)
  have neC : ∀ b o, X.s₀.heap.get? b = some o -> b ∉ X.ex -> b ∉ ch := fun b o e hx hb => by
    rcases (hch b hb).1 with z | z
    · exact hx z
    · exact xag (xak (xai e) z) (xbj _)
  have cellK : ∀ x c, X.env.cells.lookup x = some c -> ∀ v, s.heap.IsCell c v -> h'.IsCell c v := fun x c e v ⟨o, ho, hd⟩ => by
    have nch : c ∉ ch := fun z => (hch c z).2.2.1 x c e rfl
    by_cases hc : c ∈ X.fs
    · obtain ⟨sl, q⟩ := slot c o (I.cne x c e) hc nch ho (I.freeC x c e)
      exact ⟨_, q, hd⟩
    · exact ⟨o, keep c o (I.cne x c e) hc nch ho (I.freeC x c e), hd⟩
  refine ⟨I.ok, I.os, hg, ⟨fun b o e n hb hx => ?_, fun b o e n hb hx => ?_, fun b o e n hx => ?_, fun b o e hx => ?_, fun b xs e => tups b xs (I.base.tups b xs e), fun b o xs e => frzs b o xs (I.base.frzs b o xs e), fun b ps e => ?_⟩, ?_, fun x c e => ?_, ?_, fun x c e => ?_, fun p hp => ?_, hok, I.len⟩
  · exact keep b o (neL b o e) hb (neC b o e hx) (I.base.keep b o e n hb hx) (I.base.free b o e n hx)
  · obtain ⟨sl, e1⟩ := I.base.slot b o e n hb hx
    obtain ⟨sl', e2⟩ := slot b _ (neL b o e) hb (neC b o e hx) e1 (I.base.free b o e n hx)
    exact ⟨sl', e2⟩
  · obtain ⟨o', e1⟩ := I.base.there b o e hx
    exact free b o' (neC b o e hx) e1 (I.base.free b o e n hx)
  · obtain ⟨o', e1⟩ := I.base.there b o e hx
    exact there b o' (neC b o e hx) e1
  · obtain ⟨m1, e1⟩ := I.base.tbls b ps e
    obtain ⟨m2, e2⟩ := tbls b _ e1
    exact ⟨m1 ++ m2, by rw [e2, Array.append_assoc]⟩
  · obtain ⟨m, hn, hl⟩ := I.loc
    refine ⟨m, ns m hn, fun i x v e1 e2 e3 => ?_⟩
    obtain ⟨u, r, l⟩ := hl i x v e1 e2 e3
    refine ⟨u, r, ?_⟩
    rcases l with l | ⟨k, c, e, z⟩
    · exact .inl l
    · exact .inr ⟨k, c, e, cellK x c e _ z⟩
  · obtain ⟨v, z⟩ := I.cell x c e
    exact ⟨v, cellK x c e v z⟩
  · obtain ⟨m, ⟨o, _, _, ho, _⟩, _⟩ := I.loc
    exact free _ o (fun z => (hch _ z).2.1 rfl) ho I.free
  · obtain ⟨v, o, ho, hd⟩ := I.cell x c e
    exact free c o (fun z => (hch c z).2.2.1 x c e rfl) ho (I.freeC x c e)
  · obtain ⟨e, n, ne, nf, d⟩ := I.pin p hp
    have nch : p.1 ∉ ch := fun z => (hch p.1 z).2.2.2 p hp rfl
    exact ⟨keep p.1 p.2 ne nf nch e n, free p.1 p.2 nch e n, ne, nf, d⟩
theorem Inv.un {t' : Nat} (I : Inv X pins O H s) (u : Un X.fs [] H H' s.heap h') (hok : HOk X.prog X.w H' h') : Inv X pins O H' { s with heap := h', toks := t' } := by
  obtain ⟨m, ⟨o, es, ep, ho, r⟩, _⟩ := id I.loc
  obtain ⟨sl, hL⟩ := u.any ho I.free (by simp)
  exact I.step (g' := s.gens) (d' := s.drawn) (ch := []) (fun _ z => nomatch z) (fun b o _ hb _ e n => u.keep b o e n hb (by simp)) (fun b o _ hb _ e n => u.slot b o e n hb (by simp)) (fun b o _ e n => u.free b o e n (by simp)) (fun b o _ e => u.there b o e (by simp)) u.tups u.frzs u.tbls (fun m' hm => by
    obtain ⟨o', es', ep', ho', r'⟩ := hm
    rw [ho] at ho'; cases ho'
    exact ⟨_, es', ep', hL, r'⟩) hok I.bare
theorem Inv.call {g' : Array GenState} {t' : Nat} {d' : Drawn} {ch : List Addr} (I : Inv X pins O H s) (u : Un (frs X.stack) ch H H' s.heap h') (hok : HOk X.prog X.w H' h') (hg : AllBare g')
    (hch : ∀ b ∈ ch, (b ∈ X.ex \/ X.s₀.heap.objs.size <= b) /\ b ≠ X.env.locals /\ (∀ x c, X.env.cells.lookup x = some c -> c ≠ b) /\ ∀ p ∈ X.pn ++ pins, p.1 ≠ b) :
    Inv X pins O H' { s with heap := h', gens := g', drawn := d', toks := t' } := by
  obtain ⟨m, ⟨o, es, ep, ho, r⟩, _⟩ := id I.loc
  obtain ⟨sl, hL⟩ := u.any ho I.free fun z => (hch _ z).2.1 rfl
  exact I.step (ch := ch) hch (fun b o hL hb hc e n => u.keep b o e n (fun z => (xam.mp (I.stkSub b z)).elim hL hb) hc) (fun b o _ _ hc e n => u.any e n hc) (fun b o hc e n => u.free b o e n hc) (fun b o hc e => u.there b o e hc) u.tups u.frzs u.tbls (fun m' hm => by
    obtain ⟨o', es', ep', ho', r'⟩ := hm
    rw [ho] at ho'; cases ho'
    exact ⟨_, es', ep', hL, r'⟩) hok hg
theorem Inv.turned {t' : Nat} {it : Addr} (I : Inv X pins O H s) (k : ∀ b o, b ≠ it -> s.heap.get? b = some o -> h'.get? b = some o) (hn : H it = none) (hL : it ≠ X.env.locals)
    (h1 : it ∈ X.ex \/ X.s₀.heap.objs.size <= it) (h2 : ∀ x c, X.env.cells.lookup x = some c -> c ≠ it) (h3 : ∀ p ∈ X.pn ++ pins, p.1 ≠ it) : Inv X pins O H { s with heap := h', toks := t' } := by
  have nit : ∀ b u, H b = some u -> b ≠ it := fun b u e z => by rw [z, hn] at e; cases e
  refine I.step (g' := s.gens) (d' := s.drawn) (ch := [it]) (fun b hb => ?_) (fun b o _ _ hc e _ => k b o (fun z => hc (by simp [z])) e) (fun b o _ _ hc e _ => ⟨o.slots, k b o (fun z => hc (by simp [z])) e⟩) (fun _ _ _ _ n => n)
    (fun b o hc e => ⟨o, k b o (fun z => hc (by simp [z])) e⟩) (fun _ _ e => e) (fun _ _ _ e => e) (fun b ps e => ⟨#[], by rw [e]; simp⟩) (fun m hm => ?_) (fun b u e => ?_) I.bare
  · have e : b = it := by simpa using hb
    subst e
    exact ⟨h1, hL, h2, h3⟩
  · obtain ⟨o, es, ep, ho, r⟩ := hm
    exact ⟨o, es, ep, k _ o (xa3 hL) ho, r⟩
  · refine (I.hok b u e).stay (fun c v hc q => k c v ?_ q) (fun _ q => q) fun _ _ q => q
    rcases hc with z | z
    · rw [z]; exact nit b u e
    · exact nit c _ z
theorem Inv.tok (I : Inv X pins O H s) (t : Nat) : Inv X pins O H { s with toks := t } := I.un (h' := s.heap) (t' := t) Un.refl I.hok
theorem Inv.kept {t' : Nat} (I : Inv X pins O H s) (k : ∀ b u, s.heap.get? b = some u -> h'.get? b = some u) : Inv X pins O H { s with heap := h', toks := t' } := I.un (Un.kept k) (I.hok.kept k)
theorem Inv.laid {a : Addr} {o : HO} {t' : Nat} (I : Inv X pins O H s) (k : ∀ b u, s.heap.get? b = some u -> h'.get? b = some u) (hp : s.heap.objs.size <= a) (new : ObjOk X.prog X.w (upd H a o) h' a o) :
    Inv X pins O (upd H a o) { s with heap := h', toks := t' } := I.un (Un.laid k hp (I.hok.fresh hp)) (I.hok.laid k hp new)
theorem Inv.write {x e : Addr} {o : HO} {t' : Nat} (I : Inv X pins O H s) (mu : Mut (H x)) (he : e = x \/ H e = some (.own x)) (k : ∀ b u, b ≠ e -> s.heap.get? b = some u -> h'.get? b = some u) (heo : ∃ u, h'.get? e = some u)
    (new : ObjOk X.prog X.w (upd H x o) h' x o) : Inv X pins O (upd H x o) { s with heap := h', toks := t' } := I.un (Un.write mu he k heo) (I.hok.write mu he k heo new)
theorem Inv.weak {O' : List (Option V)} (I : Inv X pins O H s) (hl : O'.length = O.length) (w : ∀ (i : Nat) v, O'[i]? = some (some v) -> O[i]? = some (some v)) : Inv X pins O' H s :=
  ⟨I.ok, I.os, I.bare, I.base, let ⟨m, hn, hl'⟩ := I.loc; ⟨m, hn, fun i x v e1 e2 e3 => hl' i x v e1 (w i v e2) e3⟩, I.cell, I.free, I.freeC, I.pin, I.hok, hl.trans I.len⟩
theorem Inv.pins_of {pins' : List (Addr × Obj)} (I : Inv X pins O H s) (h : ∀ p ∈ pins', s.heap.get? p.1 = some p.2 /\ H p.1 = none /\ p.1 ≠ X.env.locals /\ p.1 ∉ X.fs /\ ∀ v, p.2.data ≠ .cell v) : Inv X pins' O H s :=
  ⟨I.ok, I.os, I.bare, I.base, I.loc, I.cell, I.free, I.freeC, fun p hp => (xbi.mp hp).elim (fun z => I.pin p (List.mem_append_left _ z)) (h p), I.hok, I.len⟩
theorem nodup_ix {N : List Str} (hN : N.Nodup) {i j : Nat} {x : Str} (a : N[i]? = some x) (b : N[j]? = some x) : i = j := by
  obtain ⟨h1, e1⟩ := xae.mp a
  obtain ⟨h2, e2⟩ := xae.mp b
  exact (List.getElem_inj hN).mp (e1.trans e2.symm)
theorem store_ok2 {M : Model} {A : Around} {E : Value -> Shared -> Prop} {i : Nat} {x : Str} {v : V} {u : Value} {Q : Unit -> Shared -> Prop} (I : Inv X pins O H s) (hN : X.N.Nodup) (hi : X.N[i]? = some x) (hx : Loc X.env.scope x) (r : RelV v u)
    (h : ∀ s', Inv X pins (O.set i (some v)) H s' -> (∃ a, Heap.SameBut a s.heap s'.heap /\ (a = X.env.locals \/ X.env.cells.lookup x = some a)) -> Q () s') (hf : X.fn x = true \/ X.env.scope.names.lookup x = some .local := by first | exact .inl rfl | exact .inr rfl | assumption) : wpAny M A (storeName X.env x u) Q E s := by
  obtain ⟨m, hn, hl⟩ := id I.loc
  have hcls : (X.env.scope.kind == .class || (X.env.scope.kind == .module && X.env.locals != X.env.globals)) = false := by rw [I.ok.kind]; rfl
  have hiO : i < O.length := by rw [I.len]; exact (xae.mp hi).1
  have cne := I.cne
  have tracked : ∀ {a : Addr} {h' : Heap}, (∃ o, s.heap.get? a = some o /\ H a = none) -> Heap.SameBut a s.heap h' -> HOk X.prog X.w H h' := fun {a h'} ha hs b ob e => by
    obtain ⟨_, _, hfree⟩ := ha
    refine (I.hok b ob e).stay (fun c w' hc q => (hs.2 c ?_).trans q) (fun _ q => q) fun _ _ q => q
    rintro rfl
    rcases hc with rfl | hc
    · rw [hfree] at e; cases e
    · rw [hfree] at hc; cases hc
  rcases hx with hk | hk
  · refine wpAny_storeName_local hk hn (fun h' hn' hs => ?_) hcls
    obtain ⟨oL, _, _, hoL, _⟩ := id hn
    refine h _ ⟨I.ok, I.os, I.bare, ⟨fun b o e n hb hx => ?_, fun b o e n hb hx => ?_, I.base.free, fun b o e hx => ?_, I.base.tups, I.base.frzs, I.base.tbls⟩, ⟨_, hn', fun j y v' e1 e2 e3 => ?_⟩, fun y c e => ?_, I.free, I.freeC, fun p hp => ?_, tracked ⟨oL, hoL, I.free⟩ hs, by simpa using I.len⟩ ⟨_, hs, .inl rfl⟩
    · exact (hs.2 b (xa2 (xak (xai e) I.ok.above))).trans (I.base.keep b o e n hb hx)
    · obtain ⟨sl, e1⟩ := I.base.slot b o e n hb hx
      exact ⟨sl, (hs.2 b (xa2 (xak (xai e) I.ok.above))).trans e1⟩
    · obtain ⟨o', e1⟩ := I.base.there b o e hx
      exact ⟨o', (hs.2 b (xa2 (xak (xai e) I.ok.above))).trans e1⟩
    · by_cases hj : j = i
      · subst hj
        rw [hi] at e1; cases e1
        rw [xaz hiO] at e2
        cases e2
        exact ⟨u, r, .inl ⟨hk, by simp⟩⟩
      · rw [xaf (xa3 hj)] at e2
        obtain ⟨u', r', q⟩ := hl j y v' e1 e2 e3
        refine ⟨u', r', ?_⟩
        rcases q with ⟨k, e⟩ | ⟨k, c, e, z⟩
        · refine .inl ⟨k, ?_⟩
          have : y ≠ x := fun e => hj (nodup_ix hN e1 (e ▸ hi))
          simp [this, e]
        · exact .inr ⟨k, c, e, z.sameBut hs (cne y c e)⟩
    · obtain ⟨w', z⟩ := I.cell y c e
      exact ⟨w', z.sameBut hs (cne y c e)⟩
    · obtain ⟨e, n, ne, nf, d⟩ := I.pin p hp
      exact ⟨(hs.2 p.1 ne).trans e, n, ne, nf, d⟩
  · have hfn : X.fn x = true := by
      rcases hf with z | z
      · exact z
      · rw [z] at hk; cases hk
    obtain ⟨c, hc⟩ := I.ok.has x (.inl hk)
    obtain ⟨w', z⟩ := I.cell x c hc
    refine wpAny_storeName_cell I.ok.kind hk hc z (fun h' hc' hs => ?_)
    obtain ⟨oc, hoc, hocd⟩ := id z
    refine h { s with heap := h' } ⟨I.ok, I.os, I.bare, ⟨fun b o e n hb hx => ?_, fun b o e n hb hx => ?_, I.base.free, fun b o e hx => ?_, I.base.tups, I.base.frzs, I.base.tbls⟩, ⟨m, hn.sameBut hs (xa3 (cne x c hc)), fun j y v' e1 e2 e3 => ?_⟩, fun y c' e => ?_, I.free, I.freeC, fun p hp => ?_, tracked ⟨oc, hoc, I.freeC x c hc⟩ hs, by simpa using I.len⟩ ⟨c, hs, .inr hc⟩
    · exact (hs.2 b (xa2 (xak (xai e) (I.ok.cab x c hfn hc)))).trans (I.base.keep b o e n hb hx)
    · obtain ⟨sl, e1⟩ := I.base.slot b o e n hb hx
      exact ⟨sl, (hs.2 b (xa2 (xak (xai e) (I.ok.cab x c hfn hc)))).trans e1⟩
    · obtain ⟨o', e1⟩ := I.base.there b o e hx
      exact ⟨o', (hs.2 b (xa2 (xak (xai e) (I.ok.cab x c hfn hc)))).trans e1⟩
    · by_cases hj : j = i
      · subst hj
        rw [hi] at e1; cases e1
        rw [xaz hiO] at e2
        cases e2
        exact ⟨u, r, .inr ⟨.inl hk, c, hc, hc'⟩⟩
      · rw [xaf (xa3 hj)] at e2
        obtain ⟨u', r', q⟩ := hl j y v' e1 e2 e3
        refine ⟨u', r', ?_⟩
        rcases q with q | ⟨k, c', e, z'⟩
        · exact .inl q
        · refine .inr ⟨k, c', e, z'.sameBut hs ?_⟩
          rintro rfl
          exact hj (nodup_ix hN e1 (I.ok.inj _ _ _ e hc ▸ hi))
    · by_cases hcc : c' = c
      · subst hcc; exact ⟨_, hc'⟩
      · obtain ⟨w2, z2⟩ := I.cell y c' e
        exact ⟨w2, z2.sameBut hs hcc⟩
    · obtain ⟨e, n, ne, nf, d⟩ := I.pin p hp
      refine ⟨(hs.2 p.1 ?_).trans e, n, ne, nf, d⟩
      intro q
      rw [q, hoc] at e
      have q' : oc = p.2 := xa4 e
      exact d w' (by rw [<- q']; exact hocd)
theorem store_ok {M : Model} {A : Around} {E : Value -> Shared -> Prop} {i : Nat} {x : Str} {v : V} {u : Value} {Q : Unit -> Shared -> Prop} (I : Inv X pins O H s) (hN : X.N.Nodup) (hi : X.N[i]? = some x) (hx : Loc X.env.scope x) (r : RelV v u)
    (h : ∀ s', Inv X pins (O.set i (some v)) H s' -> Q () s') (hf : X.fn x = true \/ X.env.scope.names.lookup x = some .local := by first | exact .inl rfl | exact .inr rfl | assumption) : wpAny M A (storeName X.env x u) Q E s :=
  store_ok2 I hN hi hx r (fun s' I' _ => h s' I') hf
theorem Inv.call' {s' : Shared} {ch : List Addr} (I : Inv X pins O H s) (ho : s'.os = s.os) (u : Un (frs X.stack) ch H H' s.heap s'.heap) (hok : HOk X.prog X.w H' s'.heap) (hg : AllBare s'.gens)
    (hch : ∀ b ∈ ch, (b ∈ X.ex \/ X.s₀.heap.objs.size <= b) /\ b ≠ X.env.locals /\ (∀ x c, X.env.cells.lookup x = some c -> c ≠ b) /\ ∀ p ∈ X.pn ++ pins, p.1 ≠ b) : Inv X pins O H' s' := by
  obtain ⟨h', g', d', t', o'⟩ := s'
  have e : o' = s.os := ho
  subst e
  exact I.call (g' := g') (t' := t') (d' := d') u hok hg hch
end
abbrev XK := Value -> Option Addr -> Hp -> Prop
abbrev St := List (Option V)
abbrev VK := V -> Hp -> Prop
abbrev TE := St -> Hp -> VK -> Prop
abbrev TT := St -> Hp -> (Bool -> Hp -> Prop) -> Prop
abbrev TA := St -> Hp -> (List V -> Hp -> Prop) -> Prop
structure Ends where
  nx : St -> Hp -> Prop
  rt : VK
  bk : St -> Hp -> Prop := fun _ _ => False
  ct : St -> Hp -> Prop := fun _ _ => False
abbrev TS := Ends -> St -> Hp -> Prop
def EP (X : Cx) (pins : List (Addr × Obj)) (O : St) (Q : VK) (u : Value) (s' : Shared) : Prop := ∃ v H', Inv X pins O H' s' /\ RelV v u /\ Q v H'
def TP (X : Cx) (pins : List (Addr × Obj)) (O : St) (Q : Bool -> Hp -> Prop) (b : Bool) (s' : Shared) : Prop := ∃ H', Inv X pins O H' s' /\ Q b H'
def AP (X : Cx) (pins : List (Addr × Obj)) (O : St) (Q : List V -> Hp -> Prop) (us : List Value) (s' : Shared) : Prop := ∃ vs H', Inv X pins O H' s' /\ Vals vs us /\ Q vs H'
def SP (X : Cx) (pins : List (Addr × Obj)) (D : Ends) (f : Flow) (s' : Shared) : Prop :=
  match f with
  | .next => ∃ O' H', Inv X pins O' H' s' /\ D.nx O' H'
  | .brk => ∃ O' H', Inv X pins O' H' s' /\ D.bk O' H'
  | .cont => ∃ O' H', Inv X pins O' H' s' /\ D.ct O' H'
  | .ret u => ∃ v O' H', Inv X pins O' H' s' /\ RelV v u /\ D.rt v H'
def PE (X : Cx) (e : Expr) (t : TE) : Prop :=
  ∀ (pins : List (Addr × Obj)) (s : Shared) (O : St) (H : Hp) (Q : VK), Inv X pins O H s -> t O H Q -> wpAny (model X.prog X.w) X.A (eval e X.env) (EP X pins O Q) X.xe s
def PT (X : Cx) (e : Expr) (t : TT) : Prop :=
  ∀ (pins : List (Addr × Obj)) (s : Shared) (O : St) (H : Hp) (Q : Bool -> Hp -> Prop), Inv X pins O H s -> t O H Q -> wpAny (model X.prog X.w) X.A (isTrue e X.env (eval e X.env)) (TP X pins O Q) X.xe s
def PW (X : Cx) (e : Expr) (t : TT) : Prop :=
  ∀ (whole : Sem Value) (pins : List (Addr × Obj)) (s : Shared) (O : St) (H : Hp) (Q : Bool -> Hp -> Prop), Inv X pins O H s -> t O H Q -> wpAny (model X.prog X.w) X.A (isTrue e X.env whole) (TP X pins O Q) X.xe s
def PA (X : Cx) (es : List Expr) (t : TA) : Prop :=
  ∀ (pos : Pos) (pins : List (Addr × Obj)) (s : Shared) (O : St) (H : Hp) (Q : List V -> Hp -> Prop), Inv X pins O H s -> t O H Q -> wpAny (model X.prog X.w) X.A (spliced (backTo pos (starEach es X.env))) (AP X pins O Q) X.xe s
def PS (X : Cx) (st : Stmt) (t : TS) : Prop :=
  ∀ (pins : List (Addr × Obj)) (s : Shared) (O : St) (H : Hp) (D : Ends), Inv X pins O H s -> t D O H -> wpAny (model X.prog X.w) X.A (exec st X.env) (SP X pins D) X.xe s
def PSs (X : Cx) (st : List Stmt) (t : TS) : Prop :=
  ∀ (pins : List (Addr × Obj)) (s : Shared) (O : St) (H : Hp) (D : Ends), Inv X pins O H s -> t D O H -> wpAny (model X.prog X.w) X.A (execs st X.env) (SP X pins D) X.xe s
theorem thn {α : Type} {t : Sem α} {Q Q' : α -> Shared -> Prop} {M : Model} {A : Around} {E : Value -> Shared -> Prop} {s : Shared} (h : wpAny M A t Q E s) (hQ : ∀ a s, Q a s -> Q' a s) : wpAny M A t Q' E s := wpAny_mono h hQ fun _ _ x => x
end L2
namespace L2
open PySem.Spec PyProof.Rows
section
variable {X : Cx}
theorem bin {a b : Expr} {ta tb : TE} (ha : PE X a ta) (hb : PE X b tb) {pins : List (Addr × Obj)} {s : Shared} {O : St} {H : Hp} {R : V -> V -> Hp -> Prop} (I : Inv X pins O H s) (h : ta O H fun x H1 => tb O H1 fun y H2 => R x y H2)
    {α : Type} {Q : α -> Shared -> Prop} {f : Value -> Value -> Sem α}
    (hf : ∀ v u s2 x y H2, Inv X pins O H2 s2 -> RelV x v -> RelV y u -> R x y H2 -> wpAny (model X.prog X.w) X.A (f v u) Q X.xe s2) :
    wpAny (model X.prog X.w) X.A (eval a X.env) (fun v s₁ => wpAny (model X.prog X.w) X.A (eval b X.env) (fun u s₂ => wpAny (model X.prog X.w) X.A (f v u) Q X.xe s₂) X.xe s₁) X.xe s := by
  refine thn (ha pins s O H _ I h) fun v s1 ⟨x, H1, I1, r1, q1⟩ => ?_
  refine thn (hb pins s1 O H1 _ I1 q1) fun u s2 ⟨y, H2, I2, r2, q2⟩ => ?_
  exact hf v u s2 x y H2 I2 r1 r2 q2
def tVar (i : Nat) : TE := fun O H Q => ∃ v, O[i]? = some (some v) /\ Q v H
def tC (v : V) : TE := fun _ H Q => Q v H
theorem pe_var {i : Nat} {x : Str} {pos : Pos} (hN : X.N[i]? = some x) (hv : Vis X.env.scope x) (hd : (x == ("__debug__" : Str)) = false := by decide) (hcd : (x == ("__classdict__" : Str)) = false := by decide) : PE X (.Name x pos) (tVar i) := by
  intro pins s O H Q I h
  obtain ⟨v, e, h⟩ := h
  obtain ⟨m, hn, hl⟩ := I.loc
  obtain ⟨u, r, l⟩ := hl i x v hN e hv
  have fin : EP X pins O Q u s := ⟨v, H, I, r, h⟩
  rcases l with ⟨hk, hm⟩ | ⟨hk, c, hc, hcell⟩
  · exact wpAny_Name (wpAny_loadName_local I.ok.kind hk hn hm fin) hd
  · rcases hk with hk | hk
    · exact wpAny_Name (wpAny_loadName_cell I.ok.kind hk hc hcell fin) hd
    · exact wpAny_Name (wpAny_loadName_free I.ok.kind hk hc hcell fin hcd) hd
theorem pe_int {i j pos} : PE X (.Constant (.int i) j pos) (tC (.int i)) := fun _ _ _ H _ I h => wpAny_Constant_int ⟨.int i, H, I.tok _, ⟨_, rfl⟩, h⟩
theorem pe_bl {b j pos} : PE X (.Constant (.bool b) j pos) (tC (.bl b)) := fun _ _ _ H _ I h => Constant_bool ⟨.bl b, H, I, rfl, h⟩
theorem pe_non {j pos} : PE X (.Constant .none j pos) (tC .non) := fun _ _ _ H _ I h => Constant_none ⟨.non, H, I, rfl, h⟩
theorem pe_str {x j pos} : PE X (.Constant (.str x) j pos) (tC (.str x)) := fun _ _ _ H _ I h => Calls.Constant_str ⟨.str x, H, I.tok _, ⟨_, rfl⟩, h⟩
def Gl (X : Cx) (x : Str) : Prop := X.env.kindOf x = some .globalImplicit
theorem ld_glob {E : Value -> Shared -> Prop} {pins : List (Addr × Obj)} {s : Shared} {O : St} {H : Hp} {x : Str} {u : Value} {pos : Pos} {Q : Value -> Shared -> Prop} (I : Inv X pins O H s) (hg : Gl X x) (hm : X.mg x = some u) (h : Q u s)
    (hd : (x == ("__debug__" : Str)) = false := by decide) : wpAny (model X.prog X.w) X.A (eval (.Name x pos) X.env) Q E s :=
  Calls.Name_function_global I.ok.kind hg (Calls.loadGlobal_global (by rw [I.ok.glob]; exact I.mod.glob.keeps I.bk) hm h) hd
theorem ld_blt {E : Value -> Shared -> Prop} {pins : List (Addr × Obj)} {s : Shared} {O : St} {H : Hp} {x : Str} {u : Value} {pos : Pos} {Q : Value -> Shared -> Prop} (I : Inv X pins O H s) (hg : Gl X x) (hm : X.mg x = none) (hv : bootBuiltins x = some u) (h : Q u s)
    (hn : x ≠ "__name__" := by decide) (hd : (x == ("__debug__" : Str)) = false := by decide) : wpAny (model X.prog X.w) X.A (eval (.Name x pos) X.env) Q E s := by
  obtain ⟨mb, h1, h2⟩ := I.mod.blt
  exact Calls.Name_function_global I.ok.kind hg (Calls.loadGlobal_builtin (by rw [I.ok.glob]; exact I.mod.glob.keeps I.bk) hm (by rw [I.ok.blt]; exact h1.keeps I.bk) ((h2 x hn).trans hv) h) hd
theorem pe_glob {x : Str} {v : V} {u : Value} {pos : Pos} (hg : Gl X x) (hm : X.mg x = some u) (r : RelV v u) (hd : (x == ("__debug__" : Str)) = false := by decide) : PE X (.Name x pos) (tC v) :=
  fun _ _ _ H _ I h => ld_glob I hg hm ⟨v, H, I, r, h⟩ hd
theorem pe_bltn {x : Str} {v : V} {u : Value} {pos : Pos} (hg : Gl X x) (hm : X.mg x = none) (hv : bootBuiltins x = some u) (r : RelV v u) (hn : x ≠ "__name__" := by decide) (hd : (x == ("__debug__" : Str)) = false := by decide) : PE X (.Name x pos) (tC v) :=
  fun _ _ _ H _ I h => ld_blt I hg hm hv ⟨v, H, I, r, h⟩ hn hd
variable {a b : Expr} {ta tb : TE} {pos : Pos}
def PC (X : Cx) (op : CmpOp) (a b : Expr) (t : TE) : Prop :=
  ∀ (pins : List (Addr × Obj)) (s : Shared) (O : St) (H : Hp) (Q : VK), Inv X pins O H s -> t O H Q ->
    wpAny (model X.prog X.w) X.A (eval a X.env) (fun v s₁ => wpAny (model X.prog X.w) X.A (eval b X.env) (fun u s₂ => wpAny (model X.prog X.w) X.A (compareOp op v u) (EP X pins O Q) X.xe s₂) X.xe s₁) X.xe s
theorem nobehind (b : Expr) {op : CmpOp} (h : op ≠ .In) (h2 : op ≠ .NotIn) : behindInMarks op b = false := by
  have e1 : (op == CmpOp.In) = false := by cases op <;> first | rfl | exact xag rfl h
  have e2 : (op == CmpOp.NotIn) = false := by cases op <;> first | rfl | exact xag rfl h2
  cases b <;> simp [behindInMarks, e1, e2]
def tB (t : TE) : TT := fun O H Q => t O H fun x H1 => ∃ c, x = .bl c /\ Q c H1
theorem pt_cmp {op : CmpOp} {t : TE} (h : PC X op a b t) (h1 : behindInMarks op b = false := by first | exact nobehind _ (by decide) (by decide) | rfl) : PT X (.Compare a [op] [b] pos) (tB t) := by
  intro pins s O H Q I hw
  refine wpAny_isTrue_Compare1 (thn (h pins s O H _ I hw) fun v s1 h1 => thn h1 fun u s2 h2 => thn h2 fun c s3 ⟨x, H1, I1, r1, q1⟩ => ?_) h1
  obtain ⟨d, rfl, q⟩ := q1
  cases r1
  exact wpAny_truthy_bool ⟨H1, I1, q⟩
theorem pt_val {e : Expr} {t : TE} (h : PE X e t) (he : ∀ whole, isTrue e X.env whole = (do let v <- whole; standAt e.pos; holding [v] (truthy v)) := by intro _; rfl) : PT X e (tB t) := by
  intro pins s O H Q I hw
  refine isTrue_plain (thn (h pins s O H _ I hw) fun v s1 ⟨x, H1, I1, r1, q1⟩ => ?_) (he _)
  obtain ⟨d, rfl, q⟩ := q1
  cases r1
  exact wpAny_truthy_bool ⟨H1, I1, q⟩
variable {tA tB' : TT} {rest : List Expr}
def tAnd (t u : TT) : TT := fun O H Q => t O H fun c H1 => if c = true then u O H1 Q else Q false H1
def tOr (t u : TT) : TT := fun O H Q => t O H fun c H1 => if c = true then Q true H1 else u O H1 Q
def tNot (t : TT) : TT := fun O H Q => t O H fun c H1 => Q (!c) H1
theorem pw_and1 (ha : PT X a tA) : PW X (.BoolOp .And [a] pos) tA := by
  intro wh pins s O H Q I h
  refine isTrue_and (thn (ha pins s O H Q I h) fun c s1 e => ?_)
  cases c with
  | true => exact isTrue_and_nil e
  | false => exact e
theorem pw_or1 (ha : PT X a tA) : PW X (.BoolOp .Or [a] pos) tA := by
  intro wh pins s O H Q I h
  refine isTrue_or (thn (ha pins s O H Q I h) fun c s1 e => ?_)
  cases c with
  | false => exact isTrue_or_nil e
  | true => exact e
theorem pw_and (ha : PT X a tA) (hb : PW X (.BoolOp .And (b :: rest) pos) tB') : PW X (.BoolOp .And (a :: b :: rest) pos) (tAnd tA tB') := by
  intro wh pins s O H Q I h
  refine isTrue_and (thn (ha pins s O H _ I h) fun c s1 ⟨H1, I1, q1⟩ => ?_)
  cases c with
  | true => exact hb wh pins s1 O H1 Q I1 q1
  | false => exact ⟨H1, I1, q1⟩
theorem pw_or (ha : PT X a tA) (hb : PW X (.BoolOp .Or (b :: rest) pos) tB') : PW X (.BoolOp .Or (a :: b :: rest) pos) (tOr tA tB') := by
  intro wh pins s O H Q I h
  refine isTrue_or (thn (ha pins s O H _ I h) fun c s1 ⟨H1, I1, q1⟩ => ?_)
  cases c with
  | true => exact ⟨H1, I1, q1⟩
  | false => exact hb wh pins s1 O H1 Q I1 q1
theorem pt_not (ha : PT X a tA) : PT X (.UnaryOp .Not a pos) (tNot tA) := by
  intro pins s O H Q I h
  exact isTrue_not (ha pins s O H (fun c H1 => Q (!c) H1) I h)
def tAndV (ta tb : TE) : TE := fun O H Q => ta O H fun x H1 => ∃ c, x = .bl c /\ if c = true then tb O H1 Q else Q (.bl false) H1
def tNotV (ta : TE) : TE := fun O H Q => ta O H fun x H1 => ∃ c, x = .bl c /\ Q (.bl (!c)) H1
theorem pe_one {op} {t : TE} (h : PE X a t) : PE X (.BoolOp op [a] pos) t := fun pins s O H Q I hw => BoolOp_one (h pins s O H Q I hw)
theorem pe_and (ha : PE X a ta) (hb : PE X (.BoolOp .And (b :: rest) pos) tb) : PE X (.BoolOp .And (a :: b :: rest) pos) (tAndV ta tb) := by
  intro pins s O H Q I h
  refine BoolOp_and (thn (ha pins s O H _ I h) fun v s1 ⟨x, H1, I1, r1, q1⟩ => ?_)
  obtain ⟨c, rfl, q1⟩ := q1
  cases r1
  refine wpAny_truthy_bool ?_
  cases c with
  | true => exact hb pins s1 O H1 Q I1 q1
  | false => exact ⟨.bl false, H1, I1, rfl, q1⟩
theorem pe_not (ha : PE X a ta) : PE X (.UnaryOp .Not a pos) (tNotV ta) := by
  intro pins s O H Q I h
  refine UnaryOp_ (thn (ha pins s O H _ I h) fun v s1 ⟨x, H1, I1, r1, q1⟩ => ?_)
  obtain ⟨c, rfl, q1⟩ := q1
  cases r1
  exact not_of (wpAny_truthy_bool ⟨.bl (!c), H1, I1, rfl, q1⟩)
end
end L2
namespace L2
open PySem.Spec PyProof.Rows
def SqL (K : xFg) (H : Hp) (a : Addr) (xs : List V) : Prop :=
  Rd H a (.lst xs) \/
    ∃ (o : Obj) (its : Array Value) (n : Nat), K.lookup a = some o /\ o.cls = .type "list" /\ o.dict = none /\ o.data = .seq its n /\ its.size <= sizeLine /\ Vals xs its.toList
def SqT (K : xFg) (H : Hp) (a : Addr) (xs : List V) : Prop :=
  Rd H a (.tup xs) \/
    ∃ (o : Obj) (its : Array Value) (n : Nat), K.lookup a = some o /\ o.cls = .type "tuple" /\ o.data = .seq its n /\ its.size <= sizeLine /\ Vals xs its.toList /\ o.dict = none
def absV : Value -> Option V
  | .none => some .non
  | .bool b => some (.bl b)
  | .int i _ => some (.int i)
  | .str x _ => some (.str x)
  | .bytes b _ => some (.byt b)
  | .float b _ => some (.flt b)
  | .ref a => some (.ref a)
  | .type n => some (.ty n)
  | _ => none
theorem RelV.abs {x : V} {u : Value} (r : RelV x u) : absV u = some x := by
  cases x with
  | non => cases r; rfl
  | bl _ => cases r; rfl
  | int _ => obtain ⟨t, rfl⟩ := r; rfl
  | str _ => obtain ⟨t, rfl⟩ := r; rfl
  | byt _ => obtain ⟨t, rfl⟩ := r; rfl
  | flt _ => obtain ⟨t, rfl⟩ := r; rfl
  | ref _ => cases r; rfl
  | ty _ => cases r; rfl
theorem RelV.inj {x y : V} {u : Value} (r : RelV x u) (q : RelV y u) : x = y := xa4 (r.abs.symm.trans q.abs)
theorem Vals.inj : ∀ {xs ys : List V} {us : List Value}, Vals xs us -> Vals ys us -> xs = ys
  | _, _, _, .nil, .nil => rfl
  | _, _, _, .cons r t, .cons r' t' => by rw [r.inj r', Vals.inj t t']
section
variable {X : Cx} {pins : List (Addr × Obj)} {O : St} {H : Hp} {s : Shared} {a : Addr} {xs ys : List V}
theorem SqL.of {K : xFg} (h : H a = some (.lst xs)) : SqL K H a xs := .inl (.inl h)
theorem SqT.of {K : xFg} (h : H a = some (.tup xs)) : SqT K H a xs := .inl (.inl h)
theorem Inv.list (I : Inv X pins O H s) (h : SqL X.K H a xs) : ∃ its : List Value, Vals xs its /\ PlainL s.heap a its.toArray /\ xs.length <= sizeLine := by
  rcases h with h | ⟨o, its, n, hk, hc, hd, hs, hz, r⟩
  · obtain ⟨z, its, n, r, e⟩ := h.ok I.hok
    exact ⟨its, r, ⟨_, n, e, rfl, rfl, rfl⟩, z⟩
  · refine ⟨its.toList, r, ⟨o, n, I.kIn a o hk, hc, hd, by simpa using hs⟩, ?_⟩
    have e := r.length
    simp only [xby] at e
    omega
theorem Inv.tupN (I : Inv X pins O H s) (h : SqT X.K H a xs) : ∃ its : List Value, Vals xs its /\ TupN s.heap a its.toArray /\ xs.length <= sizeLine := by
  rcases h with h | ⟨o, its, n, hk, hc, hs, hz, r, hd⟩
  · obtain ⟨z, its, r, p⟩ := h.ok I.hok
    exact ⟨its, r, p, z⟩
  · refine ⟨its.toList, r, ⟨o, I.kIn a o hk, hc, ⟨n, by simpa using hs⟩, hd⟩, ?_⟩
    have e := r.length
    simp only [xby] at e
    omega
theorem Inv.tuple (I : Inv X pins O H s) (h : SqT X.K H a xs) : ∃ its : List Value, Vals xs its /\ IsTup s.heap a its.toArray /\ xs.length <= sizeLine := by
  obtain ⟨its, r, p, z⟩ := I.tupN h
  exact ⟨its, r, p.tup, z⟩
theorem Inv.list_inj (I : Inv X pins O H s) (h : SqL X.K H a xs) (h' : SqL X.K H a ys) : xs = ys := by
  obtain ⟨its, r, ⟨o, n, e, _, _, d⟩, _⟩ := I.list h
  obtain ⟨its', r', ⟨o', n', e', _, _, d'⟩, _⟩ := I.list h'
  rw [e] at e'; cases e'
  rw [d] at d'
  injection d' with d1 _
  have : its = its' := by simpa using congrArg Array.toList d1
  subst this
  exact r.inj r'
theorem Inv.tuple_inj (I : Inv X pins O H s) (h : SqT X.K H a xs) (h' : SqT X.K H a ys) : xs = ys := by
  obtain ⟨its, r, ⟨o, e, _, n, d⟩, _⟩ := I.tuple h
  obtain ⟨its', r', ⟨o', e', _, n', d'⟩, _⟩ := I.tuple h'
  rw [e] at e'; cases e'
  rw [d] at d'
  injection d' with d1 _
  have : its = its' := by simpa using congrArg Array.toList d1
  subst this
  exact r.inj r'
end
abbrev Cx.wish (X : Cx) (E : Value -> Shared -> Prop) : Cx := { X with xe := E }
abbrev Cx.nox (X : Cx) : Cx := X.wish fun _ _ => False
theorem Cx.Ok.wish {X : Cx} (ok : X.Ok) (E : Value -> Shared -> Prop) : (X.wish E).Ok :=
  ⟨ok.mod, ok.kind, ok.glob, ok.blt, ok.above, ok.inj, ok.has, ok.cab, ok.hd, ok.frames, ok.stk, ok.exf, ok.bs, ok.bsz, ok.noex, ok.exfs, ok.funs, ok.frf⟩
theorem Cx.Ok.unwish {X : Cx} {E : Value -> Shared -> Prop} (ok : (X.wish E).Ok) : X.Ok :=
  ⟨ok.mod, ok.kind, ok.glob, ok.blt, ok.above, ok.inj, ok.has, ok.cab, ok.hd, ok.frames, ok.stk, ok.exf, ok.bs, ok.bsz, ok.noex, ok.exfs, ok.funs, ok.frf⟩
section
variable {X : Cx} {pins : List (Addr × Obj)} {O : St} {H : Hp} {s : Shared} {E : Value -> Shared -> Prop}
theorem Inv.wish (I : Inv X pins O H s) (E : Value -> Shared -> Prop) : Inv (X.wish E) pins O H s := ⟨I.ok.wish E, I.os, I.bare, I.base, I.loc, I.cell, I.free, I.freeC, I.pin, I.hok, I.len⟩
theorem Inv.unwish (I : Inv (X.wish E) pins O H s) : Inv X pins O H s := ⟨I.ok.unwish, I.os, I.bare, I.base, I.loc, I.cell, I.free, I.freeC, I.pin, I.hok, I.len⟩
end
section
variable {X : Cx} {st : Stmt} {rest : List Stmt} {t u : TS} {e : Expr} {te : TE} {pos : Pos}
def tNext : TS := fun D O H => D.nx O H
def tSeq (t u : TS) : TS := fun D O H => t { D with nx := u D } O H
theorem pss_nil : PSs X [] tNext := fun _ _ O H _ I h => wpAny_execs_nil ⟨O, H, I, h⟩
theorem pss_cons (h1 : PS X st t) (h2 : PSs X rest u) : PSs X (st :: rest) (tSeq t u) := by
  intro pins s O H D I h
  refine wpAny_execs_cons (thn (h1 pins s O H { D with nx := u D } I h) fun f s1 q => ?_)
  cases f with
  | next =>
    obtain ⟨O', H', I', q⟩ := q
    exact h2 pins s1 O' H' D I' q
  | ret v => exact q
  | brk => exact q
  | cont => exact q
theorem pss_one (h1 : PS X st t) : PSs X [st] t := by
  intro pins s O H D I h
  refine wpAny_execs_cons (thn (h1 pins s O H D I h) fun f s1 q => ?_)
  cases f with
  | next => exact wpAny_execs_nil q
  | ret v => exact q
  | brk => exact q
  | cont => exact q
theorem Inv.quiet {pins : List (Addr × Obj)} {O : St} {H : Hp} {s : Shared} (I : Inv X pins O H s) : interactive X.env = false := by simp [interactive, I.ok.kind]
def tDrop (te : TE) : TS := fun D O H => te O H fun _ H1 => D.nx O H1
theorem ps_expr (he : PE X e te) (hs : swapsWith e none pos.line X.env = pure false := by rfl) : PS X (.Expr e pos) (tDrop te) := by
  intro pins s O H D I h
  exact wpAny_Expr_any (thn (he pins s O H _ I h) fun v s1 ⟨x, H1, I1, r1, q1⟩ => ⟨O, H1, I1, q1⟩) I.quiet hs
def tRet (te : TE) : TS := fun D O H => te O H D.rt
theorem ps_ret (he : PE X e te) : PS X (.Return (some e) pos) (tRet te) := by
  intro pins s O H D I h
  exact wpAny_Return_some (thn (he pins s O H _ I h) fun v s1 ⟨x, H1, I1, r1, q1⟩ => ⟨x, O, H1, I1, r1, q1⟩)
def tIfS (c : TT) (t u : TS) : TS := fun D O H => c O H fun b H1 => if b = true then t D O H1 else u D O H1
theorem ps_if {c : Expr} {a b : List Stmt} {tc : TT} (hc : PT X c tc) (ha : PSs X a t) (hb : PSs X b u) : PS X (.If c a b pos) (tIfS tc t u) := by
  intro pins s O H D I h
  refine wpAny_If (thn (hc pins s O H _ I h) fun d s1 ⟨H1, I1, q1⟩ => ?_)
  cases d with
  | true => exact ha pins s1 O H1 D I1 q1
  | false => exact hb pins s1 O H1 D I1 q1
end
abbrev TG := V -> St -> Hp -> (St -> Hp -> Prop) -> Prop
abbrev TGs := List V -> St -> Hp -> (St -> Hp -> Prop) -> Prop
def PG (X : Cx) (target : Expr) (t : TG) : Prop :=
  ∀ (pins : List (Addr × Obj)) (s : Shared) (O : St) (H : Hp) (v : V) (u : Value) (Q : St -> Hp -> Prop), Inv X pins O H s -> RelV v u -> t v O H Q ->
    wpAny (model X.prog X.w) X.A (assign target X.env u) (fun _ s' => ∃ O' H', Inv X pins O' H' s' /\ Q O' H') X.xe s
def PGs (X : Cx) (ts : List Expr) (t : TGs) : Prop :=
  ∀ (pins : List (Addr × Obj)) (s : Shared) (O : St) (H : Hp) (vs : List V) (us : List Value) (Q : St -> Hp -> Prop), Inv X pins O H s -> Vals vs us -> t vs O H Q ->
    wpAny (model X.prog X.w) X.A (assignInOrder ((assignEach ts X.env).map (·.2)) us) (fun _ s' => ∃ O' H', Inv X pins O' H' s' /\ Q O' H') X.xe s
abbrev TSet := V -> V -> V -> Hp -> (Hp -> Prop) -> Prop
section
variable {X : Cx} {pos : Pos}
def gName (i : Nat) : TG := fun v O H Q => Q (O.set i (some v)) H
theorem pg_name {i : Nat} {x : Str} (hN : X.N.Nodup) (hi : X.N[i]? = some x) (hx : Loc X.env.scope x) (hf : X.fn x = true \/ X.env.scope.names.lookup x = some .local := by first | exact .inl rfl | exact .inr rfl | assumption) : PG X (.Name x pos) (gName i) := by
  intro pins s O H v u Q I r h
  exact wpAny_assign_Name (store_ok I hN hi hx r (fun s' I' => ⟨_, H, I', h⟩) hf)
def gNil : TGs := fun vs O H Q => vs = [] /\ Q O H
def gCons (t : TG) (u : TGs) : TGs := fun vs O H Q => ∃ v r, vs = v :: r /\ t v O H fun O' H' => u r O' H' Q
theorem pgs_nil : PGs X [] gNil := by
  intro pins s O H vs us Q I r h
  obtain ⟨e, h⟩ := h
  subst e
  cases r
  exact assignInOrder_nil ⟨O, H, I, h⟩
theorem pgs_cons {e : Expr} {es : List Expr} {t : TG} {u : TGs} (h1 : PG X e t) (h2 : PGs X es u)
    (hs : (assignEach (e :: es) X.env).map (·.2) = assign e X.env :: (assignEach es X.env).map (·.2) := by rfl) : PGs X (e :: es) (gCons t u) := by
  intro pins s O H vs us Q I r h
  obtain ⟨v, vr, e1, h⟩ := h
  subst e1
  cases r with
  | cons r rr =>
    rw [hs]
    refine assignInOrder_cons (thn (h1 pins s O H _ _ _ I r h) fun _ s1 ⟨O1, H1, I1, q1⟩ => ?_)
    exact h2 pins s1 O1 H1 _ _ Q I1 rr q1
def gTup (K : xFg) (n : Nat) (t : TGs) : TG := fun v O H Q => ∃ a xs, v = .ref a /\ SqT K H a xs /\ xs.length = n /\ t xs O H Q
theorem pg_tup {es : List Expr} {k : Nat} {t : TGs} {n : Nat} (hc : X.calm = true) (h : PGs X es t)
    (hn : (assignEach es X.env).length = n := by rfl) (hst : (assignEach es X.env).findIdx? (·.1) = none := by rfl) : PG X (.Tuple es k pos) (gTup X.K n t) := by
  intro pins s O H v u Q I r hw
  obtain ⟨a, xs, e1, hq, hl, hw⟩ := hw
  subst e1
  cases r
  obtain ⟨its, rv, ht, hz⟩ := I.tuple hq
  refine assign_Tuple_tuple (I.ok.hd hc) ht (by simp [hn, <- hl, rv.length]) hst fun h' hx => ?_
  have I1 : Inv X pins O H { s with heap := h' } := I.kept (t' := s.toks) fun b o e => hx b o (xa2 (xai e)) e
  exact h pins _ O H xs _ Q I1 (by simpa using rv) hw
def gSub (to ti : TE) (t : TSet) : TG := fun v O H Q => to O H fun o H1 => ti O H1 fun i H2 => t o i v H2 fun H3 => Q O H3
def tAsg (te : TE) (g : TG) : TS := fun D O H => te O H fun x H1 => g x O H1 D.nx
theorem ps_set {i : Nat} {x : Str} {e : Expr} {te : TE} {pos' : Pos} (hN : X.N.Nodup) (hi : X.N[i]? = some x) (hx : Loc X.env.scope x) (he : PE X e te) (hs : swapsWith e (some (.Name x pos')) pos.line X.env = pure false := by rfl) (hf : X.fn x = true \/ X.env.scope.names.lookup x = some .local := by first | exact .inl rfl | exact .inr rfl | assumption) :
    PS X (.Assign [.Name x pos'] e pos) (tAsg te (gName i)) := by
  intro pins s O H D I h
  refine wpAny_Assign_Name (thn (he pins s O H _ I h) fun v s1 ⟨y, H1, I1, r1, q1⟩ => ?_) hs
  exact store_ok I1 hN hi hx r1 (fun s2 I2 => ⟨_, H1, I2, q1⟩) hf
end
section
variable {X : Cx} {pos : Pos}
def tWhile (c : TT) (tb : TS) : TS := fun D O H => ∃ W : Nat -> St -> Hp -> Prop, (∃ m, W m O H) /\ ∀ m O H, W m O H ->
  c O H fun b H1 => if b = true then ∃ N : St -> Hp -> Prop, (∀ O' H', N O' H' -> ∃ m', m' < m /\ W m' O' H') /\ tb { D with nx := N, ct := N, bk := D.nx } O H1 else D.nx O H1
theorem ps_while {c : Expr} {body : List Stmt} {tc : TT} {tb : TS} (hp : PassesOwn (model X.prog X.w) X.A X.env X.xe) (hc : PT X c tc) (hb : PSs X body tb) : PS X (.While c body [] pos) (tWhile tc tb) := by
  intro pins s O H D I h
  obtain ⟨W, ⟨m0, w0⟩, turn⟩ := h
  refine wpAny_While (codeAny_whileLoop (fun n s' => ∃ O' H', Inv X pins O' H' s' /\ W n O' H') ?_ m0 ⟨O, H, I, w0⟩)
  rintro n s1 ⟨O1, H1, I1, w1⟩
  refine wpAny_passesOwn hp (thn (hc pins s1 O1 H1 _ I1 (turn n O1 H1 w1)) fun b s2 ⟨H2, I2, q2⟩ => ?_)
  cases b with
  | true =>
    obtain ⟨N, hN, q2⟩ := q2
    rw [xav rfl]
    refine wpAny_passesOwn hp (thn (hb pins s2 O1 H2 _ I2 q2) fun f s3 q3 => ?_)
    cases f with
    | next =>
      obtain ⟨O3, H3, I3, n3⟩ := q3
      obtain ⟨m', hm, w3⟩ := hN O3 H3 n3
      exact ⟨m', hm, O3, H3, I3, w3⟩
    | cont =>
      obtain ⟨O3, H3, I3, n3⟩ := q3
      obtain ⟨m', hm, w3⟩ := hN O3 H3 n3
      exact ⟨m', hm, O3, H3, I3, w3⟩
    | brk => exact q3
    | ret v => exact q3
  | false =>
    rw [xap xaw]
    exact wpAny_execs_nil ⟨O1, H2, I2, q2⟩
end
structure It where
  go : Nat -> Hp -> Prop
  yld : Nat -> Hp -> V -> Hp -> Prop
  stop : Nat -> Hp -> Prop
def FpOk (X : Cx) (pins : List (Addr × Obj)) (H : Hp) (b : Addr) : Prop :=
  H b = none /\ b ≠ X.env.locals /\ b ∉ X.fs /\ (b ∈ X.ex \/ X.s₀.heap.objs.size <= b) /\ (∀ x c, X.env.cells.lookup x = some c -> c ≠ b) /\ ∀ p ∈ X.pn ++ pins, p.1 ≠ b
theorem Inv.fpOk {X : Cx} {pins : List (Addr × Obj)} {O : St} {H H' : Hp} {s : Shared} {b : Addr} (I : Inv X pins O H s) (hb : s.heap.objs.size <= b) (hn : H' b = none) : FpOk X pins H' b := by
  refine ⟨hn, xb1 (xak I.lt hb), I.nofs hb, .inr (xax I.sz hb), fun x c e z => ?_, fun p hp z => ?_⟩
  · obtain ⟨v, q⟩ := I.cell x c e
    exact xag (xak q.lt (by rw [z]; exact hb)) (xbj _)
  · exact xag (xak (xai (I.pin p hp).1) (by rw [z]; exact hb)) (xbj _)
structure Turn (P : Program) (w : World) (K : xFg) (tg : Expr) (J : It) (fp : List Addr) (it : Addr) (tn : Nat -> Heap -> Prop) : Prop where
  mem : it ∈ fp
  obj : ∀ i h, tn i h -> ∀ b ∈ fp, ∃ o, h.get? b = some o /\ ∀ v, o.data ≠ .cell v
  keep : ∀ i h h', tn i h -> (∀ b ∈ fp, ∀ o, h.get? b = some o -> h'.get? b = some o) -> tn i h'
  item : ∀ (X : Cx), X.prog = P -> X.w = w -> X.K = K -> X.calm = true -> ∀ (i : Nat) (pins : List (Addr × Obj)) (s : Shared) (O : St) (H : Hp) (E : Value -> Shared -> Prop), Inv X pins O H s -> (∀ b ∈ fp, FpOk X pins H b) -> tn i s.heap -> J.go i H ->
    wpAny (model P w) X.A (pyNext (.ref it)) (fun r s1 => ∃ u, r = some u /\
      wpAny (model P w) X.A (letOwnedTupleGo tg (.ref it) u) (fun _ s2 => ∃ x H', Inv X pins O H' s2 /\ RelV x u /\ J.yld i H x H' /\ tn (i + 1) s2.heap /\ ∀ b ∈ fp, H' b = none) E s1) E s
  done : ∀ (X : Cx), X.prog = P -> X.w = w -> X.K = K -> X.calm = true -> ∀ (i : Nat) (pins : List (Addr × Obj)) (s : Shared) (O : St) (H : Hp) (E : Value -> Shared -> Prop), Inv X pins O H s -> (∀ b ∈ fp, FpOk X pins H b) -> tn i s.heap -> J.stop i H ->
    wpAny (model P w) X.A (pyNext (.ref it)) (fun r s1 => r = none /\ Inv X pins O H s1) E s
  self : ∀ (A : Around) (i : Nat) (s : Shared) (Q : Value -> Shared -> Prop) (E : Value -> Shared -> Prop), tn i s.heap -> Q (.ref it) s -> wpAny (model P w) A (pyIter (.ref it)) Q E s
abbrev TI := St -> Hp -> (It -> Hp -> Prop) -> Prop
def PIE (X : Cx) (pins : List (Addr × Obj)) (O : St) (tg : Expr) (R : It -> Hp -> Prop) (itv : Value) (s2 : Shared) : Prop :=
  ∃ (it : Addr) (fp : List Addr) (tn : Nat -> Heap -> Prop) (J : It) (H' : Hp), itv = .ref it /\ Inv X pins O H' s2 /\ Turn X.prog X.w X.K tg J fp it tn /\ tn 0 s2.heap /\ (∀ b ∈ fp, FpOk X pins H' b) /\ R J H'
def PI (X : Cx) (tg iter : Expr) (wi : TI) : Prop :=
  ∀ (pins : List (Addr × Obj)) (s : Shared) (O : St) (H : Hp) (R : It -> Hp -> Prop), Inv X pins O H s -> wi O H R ->
    wpAny (model X.prog X.w) X.A (eval iter X.env) (fun v s1 => wpAny (model X.prog X.w) X.A (pyIter v) (PIE X pins O tg R) X.xe s1) X.xe s
theorem go_of {M : Model} {A : Around} {E : Value -> Shared -> Prop} {s : Shared} {tg : Expr} {it : Addr} {u : Value} {o : Obj} {n : String} {vs : Array Value} {Q : Unit -> Shared -> Prop} (ho : s.heap.get? it = some o) (hc : o.cls = .type n) (hd : o.data = .fields vs)
    (hn : ["enumerate", "zip", "dict_itemiterator", "dict_reverseitemiterator", "odict_iterator", "itertools.zip_longest", "itertools.pairwise"].contains n = false) (hQ : Q () s) : wpAny M A (letOwnedTupleGo tg (.ref it) u) Q E s := by
  unfold letOwnedTupleGo
  cases tg <;> first
    | exact xan hQ
    | (cases u <;> first
        | exact xan hQ
        | (refine xaa (wpAny_load ho ?_)
           rw [hc, hd]
           show wpAny M A (if (["enumerate", "zip", "dict_itemiterator", "dict_reverseitemiterator", "odict_iterator", "itertools.zip_longest", "itertools.pairwise"].contains n && vs[0]? == some (rawInt _)) = true then _ else _) Q E s
           rw [xap (by intro h; rw [hn, xcp] at h; cases h)]
           exact xan hQ))
def Itl (K : xFg) (a : Addr) : It :=
  ⟨fun i H => ∃ xs x, SqL K H a xs /\ xs[i]? = some x, fun i H x H' => H' = H /\ ∀ xs, SqL K H a xs -> xs[i]? = some x, fun i H => ∃ xs, SqL K H a xs /\ xs.length <= i⟩
def Itt (K : xFg) (a : Addr) : It :=
  ⟨fun i H => ∃ xs x, SqT K H a xs /\ xs[i]? = some x, fun i H x H' => H' = H /\ ∀ xs, SqT K H a xs -> xs[i]? = some x, fun i H => ∃ xs, SqT K H a xs /\ xs.length <= i⟩
def Itr (lo : Int) (n : Nat) : It := ⟨fun i _ => i < n, fun i H x H' => H' = H /\ x = .int (lo + i), fun i _ => n <= i⟩
theorem turn_list {P : Program} {w : World} {K : xFg} {tg : Expr} (a it : Addr) : Turn P w K tg (Itl K a) [it] it (fun i h => h.IsListIter it a i) where
  mem := by simp
  obj := fun i h st b hb => by
    have e : b = it := by simpa using hb
    subst e
    obtain ⟨o, e, c, d⟩ := st
    exact ⟨o, e, fun v z => by rw [d] at z; cases z⟩
  keep := fun i h h' st k => st.at fun o e => k it (by simp) o e
  item := by
    intro X hP hw hK hc i pins s O H E I hf st hg
    subst hP hw hK
    obtain ⟨xs, x, hq, hx⟩ := hg
    obtain ⟨its, rv, p, hz⟩ := I.list hq
    obtain ⟨u, hu, ru⟩ := rv.get hx
    obtain ⟨f0, f1, f2, f3, f4, f5⟩ := hf it (by simp)
    refine wpAny_pyNext_list_item st p.isList (x := u) (by simpa using hu) fun h' st' sb => ?_
    have I1 : Inv X pins O H { s with heap := h' } := I.turned (t' := s.toks) (fun b o hb e => (sb.2 b hb).trans e) f0 f1 f3 f4 f5
    obtain ⟨o, e, c, d⟩ := id st'
    exact ⟨u, rfl, go_of (s := { s with heap := h' }) e c d (by decide) ⟨x, H, I1, ru, ⟨rfl, fun ys hy => by rw [I.list_inj hy hq]; exact hx⟩, st', fun b hb => (hf b hb).1⟩⟩
  done := by
    intro X hP hw hK hc i pins s O H E I hf st hg
    subst hP hw hK
    obtain ⟨xs, hq, hx⟩ := hg
    obtain ⟨its, rv, p, hz⟩ := I.list hq
    obtain ⟨f0, f1, f2, f3, f4, f5⟩ := hf it (by simp)
    have hl := rv.length
    exact wpAny_pyNext_list_end (I.ok.hd hc) st p.isList (by simp; omega) fun h' eb => ⟨rfl, I.turned (t' := s.toks) (fun b o hb e => eb b o hb e) f0 f1 f3 f4 f5⟩
  self := fun _ _ _ _ _ st h => wpAny_pyIter_listiter st h
theorem turn_tuple {P : Program} {w : World} {K : xFg} {tg : Expr} (a it : Addr) : Turn P w K tg (Itt K a) [it] it (fun i h => h.IsTupleIter it a i) where
  mem := by simp
  obj := fun i h st b hb => by
    have e : b = it := by simpa using hb
    subst e
    obtain ⟨o, e, c, d⟩ := st
    exact ⟨o, e, fun v z => by rw [d] at z; cases z⟩
  keep := fun i h h' st k => st.at fun o e => k it (by simp) o e
  item := by
    intro X hP hw hK hc i pins s O H E I hf st hg
    subst hP hw hK
    obtain ⟨xs, x, hq, hx⟩ := hg
    obtain ⟨its, rv, p, hz⟩ := I.tuple hq
    obtain ⟨u, hu, ru⟩ := rv.get hx
    obtain ⟨f0, f1, f2, f3, f4, f5⟩ := hf it (by simp)
    refine wpAny_pyNext_tuple_item st (show s.heap.IsTuple a its.toArray from p) (x := u) (by simpa using hu) fun h' st' sb => ?_
    have I1 : Inv X pins O H { s with heap := h' } := I.turned (t' := s.toks) (fun b o hb e => (sb.2 b hb).trans e) f0 f1 f3 f4 f5
    obtain ⟨o, e, c, d⟩ := id st'
    exact ⟨u, rfl, go_of (s := { s with heap := h' }) e c d (by decide) ⟨x, H, I1, ru, ⟨rfl, fun ys hy => by rw [I.tuple_inj hy hq]; exact hx⟩, st', fun b hb => (hf b hb).1⟩⟩
  done := by
    intro X hP hw hK hc i pins s O H E I hf st hg
    subst hP hw hK
    obtain ⟨xs, hq, hx⟩ := hg
    obtain ⟨its, rv, p, hz⟩ := I.tuple hq
    obtain ⟨f0, f1, f2, f3, f4, f5⟩ := hf it (by simp)
    have hl := rv.length
    exact wpAny_pyNext_tuple_end (I.ok.hd hc) st (show s.heap.IsTuple a its.toArray from p) (by simp; omega) fun h' eb => ⟨rfl, I.turned (t' := s.toks) (fun b o hb e => eb b o hb e) f0 f1 f3 f4 f5⟩
  self := fun _ _ _ _ _ st h => wpAny_pyIter_tupleiter st h
theorem turn_range {P : Program} {w : World} {K : xFg} {tg : Expr} (it : Addr) (lo : Int) (n : Nat) : Turn P w K tg (Itr lo n) [it] it (fun i h => IsRangeIter h it (lo + (i : Nat) * 1) ((n : Int) - (i : Nat)) 1) where
  mem := by simp
  obj := fun i h st b hb => by
    have e : b = it := by simpa using hb
    subst e
    exact ⟨_, st, fun v z => by
      have z' : Data.fields _ = Data.cell v := z
      cases z'⟩
  keep := fun i h h' st k => k it (by simp) _ st
  item := by
    intro X hP hw hK hc i pins s O H E I hf st hg
    subst hP hw hK
    obtain ⟨f0, f1, f2, f3, f4, f5⟩ := hf it (by simp)
    have W := Walks.range (prog := X.prog) (w := X.w) (I.ok.hd hc) it lo 1 n
    refine W.item i s _ _ hg st fun v h' tk hv st' kk => ?_
    obtain ⟨t, rfl⟩ := hv
    have I1 : Inv X pins O H { s with heap := h', toks := tk } := I.turned (fun b o hb e => kk b o (by simpa using hb) e) f0 f1 f3 f4 f5
    refine ⟨_, rfl, go_of (s := { s with heap := h', toks := tk }) (n := "range_iterator") st' rfl rfl (by decide) ⟨.int (lo + i), H, I1, ⟨t, ?_⟩, ⟨rfl, rfl⟩, st', fun b hb => (hf b hb).1⟩⟩
    rw [Int.mul_one]
  done := by
    intro X hP hw hK hc i pins s O H E I hf st hg
    subst hP hw hK
    obtain ⟨f0, f1, f2, f3, f4, f5⟩ := hf it (by simp)
    exact wpAny_pyNext_range_end (I.ok.hd hc) st (by have : n <= i := hg; omega) fun h' eb => ⟨rfl, I.turned (t' := s.toks) (fun b o hb e => eb b o hb e) f0 f1 f3 f4 f5⟩
  self := fun _ _ _ _ _ st h => wpAny_pyIter_rangeiter st h
end L2
namespace L2
open PySem.Spec PyProof.Rows
section
variable {X : Cx} {tg : Expr}
def iList (K : xFg) (tl : TE) : TI := fun O H R => tl O H fun x H1 => ∃ a, x = .ref a /\ (∃ xs, SqL K H1 a xs) /\ R (Itl K a) H1
def iTup (K : xFg) (tl : TE) : TI := fun O H R => tl O H fun x H1 => ∃ a, x = .ref a /\ (∃ xs, SqT K H1 a xs) /\ R (Itt K a) H1
theorem pi_list {l : Expr} {tl : TE} (hl : PE X l tl) : PI X tg l (iList X.K tl) := by
  intro pins s O H R I h
  refine thn (hl pins s O H _ I h) fun v s1 ⟨x, H1, I1, r1, q1⟩ => ?_
  obtain ⟨a, e, ⟨xs, hq⟩, q⟩ := q1
  subst e
  cases r1
  obtain ⟨its, rv, p, hz⟩ := I1.list hq
  refine wpAny_pyIter_list p.isList ?_
  refine ⟨s1.heap.objs.size, [s1.heap.objs.size], _, _, H1, rfl, I1.kept (t' := s1.toks) fun b o e => xab _ e, turn_list a _, ⟨_, xau _ rfl, rfl, rfl⟩, fun b hb => ?_, q⟩
  have e : b = s1.heap.objs.size := by simpa using hb
  subst e
  exact I1.fpOk (xad _) (I1.hok.fresh (xad _))
theorem pi_tup {l : Expr} {tl : TE} (hl : PE X l tl) : PI X tg l (iTup X.K tl) := by
  intro pins s O H R I h
  refine thn (hl pins s O H _ I h) fun v s1 ⟨x, H1, I1, r1, q1⟩ => ?_
  obtain ⟨a, e, ⟨xs, hq⟩, q⟩ := q1
  subst e
  cases r1
  obtain ⟨its, rv, p, hz⟩ := I1.tuple hq
  refine wpAny_pyIter_tuple (show s1.heap.IsTuple a its.toArray from p) ?_
  refine ⟨s1.heap.objs.size, [s1.heap.objs.size], _, _, H1, rfl, I1.kept (t' := s1.toks) fun b o e => xab _ e, turn_tuple a _, ⟨_, xau _ rfl, rfl, rfl⟩, fun b hb => ?_, q⟩
  have e : b = s1.heap.objs.size := by simpa using hb
  subst e
  exact I1.fpOk (xad _) (I1.hok.fresh (xad _))
theorem range_it {pins : List (Addr × Obj)} {O : St} {H : Hp} {s : Shared} {R : It -> Hp -> Prop} {E : Value -> Shared -> Prop} {lo hi : Int} {t u v : Tok} {tk : Nat} (I : Inv X pins O H s) (h1 : -(2 ^ 62) <= lo) (h2 : lo < 2 ^ 62) (h3 : -(2 ^ 62) <= hi) (h4 : hi < 2 ^ 62)
    (q : R (Itr lo (hi - lo).toNat) H) : wpAny (model X.prog X.w) X.A (pyIter (.ref s.heap.objs.size)) (PIE X pins O tg R) E { s with heap := s.heap.push { cls := .type "range", data := .fields #[.int lo t, .int hi u, .int 1 v] }, toks := tk } := by
  refine wpAny_pyIter_range (IsRange.new ..) (small_one h1 h2 h3 h4) ?_
  have I1 : Inv X pins O H { s with heap := s.heap.push { cls := .type "range", data := .fields #[.int lo t, .int hi u, .int 1 v] }, toks := tk } := I.kept fun b o e => xab _ e
  refine ⟨(s.heap.push { cls := .type "range", data := .fields #[.int lo t, .int hi u, .int 1 v] }).objs.size, [(s.heap.push { cls := .type "range", data := .fields #[.int lo t, .int hi u, .int 1 v] }).objs.size], _, _, H, rfl,
    I1.kept (t' := tk) fun b o e => xab _ e, turn_range _ lo (hi - lo).toNat, ?_, fun b hb => ?_, q⟩
  · have e1 : lo + ((0 : Nat) : Int) * 1 = lo := by simp
    have e2 : (((hi - lo).toNat : Nat) : Int) - ((0 : Nat) : Int) = Builtin.Range.rangeSize lo hi 1 := by rw [rangeSize_one]; split <;> omega
    show IsRangeIter _ _ (lo + ((0 : Nat) : Int) * 1) ((((hi - lo).toNat : Nat) : Int) - ((0 : Nat) : Int)) 1
    rw [e1, e2]
    exact xau _ rfl
  · have e : b = (s.heap.push { cls := .type "range", data := .fields #[.int lo t, .int hi u, .int 1 v] }).objs.size := by simpa using hb
    subst e
    exact I1.fpOk (xad _) (I1.hok.fresh (xad _))
def iRng1 (ta : TA) : TI := fun O H R => ta O H fun vs H1 => ∃ j : Int, vs = [.int j] /\ -(2 ^ 62) <= j /\ j < 2 ^ 62 /\ R (Itr 0 j.toNat) H1
theorem pi_range1 {a : Expr} {ta : TA} {p pos : Pos} (hg : Gl X "range") (hm : X.mg "range" = none) (ha : PA X [a] ta) (hs : starEach [a] X.env = [(false, eval a X.env)] := by rfl) : PI X tg (.Call (.Name "range" p) [a] [] pos) (iRng1 ta) := by
  intro pins s O H R I h
  refine Call_ (ld_blt I hg hm boot_range (PyProof.Rows.callWith_type1 (thn (ha pos pins s O H _ I h) fun us s1 ⟨vs, H1, I1, r1, q1⟩ => ?_) hs rfl))
  obtain ⟨j, e, q1, q2, q⟩ := q1
  subst e
  cases r1 with
  | cons r rr =>
    cases rr
    obtain ⟨t, rfl⟩ := r
    exact call_range_1 (range_it I1 (by omega) (by omega) q1 q2 (by simpa using q))
def tFor (wi : TI) (g : TG) (tb : TS) : TS := fun D O H => wi O H fun J H1 => ∃ W : Nat -> Nat -> St -> Hp -> Prop, (∃ m, W 0 m O H1) /\ ∀ i m O H, W i m O H ->
  (J.stop i H /\ D.nx O H) \/ (J.go i H /\ ∃ N : St -> Hp -> Prop, (∀ O' H', N O' H' -> ∃ m', m' < m /\ W (i + 1) m' O' H') /\ ∀ x H', J.yld i H x H' -> g x O H' fun O2 H2 => tb { D with nx := N, ct := N, bk := D.nx } O2 H2)
def pinsAt (fp : List Addr) (h : Heap) : List (Addr × Obj) := fp.filterMap fun b => (h.get? b).map fun o => (b, o)
theorem mem_pinsAt {fp : List Addr} {h : Heap} {b : Addr} {o : Obj} (hb : b ∈ fp) (e : h.get? b = some o) : (b, o) ∈ pinsAt fp h := List.mem_filterMap.mpr ⟨b, hb, by rw [e]; rfl⟩
theorem of_pinsAt {fp : List Addr} {h : Heap} {p : Addr × Obj} (hp : p ∈ pinsAt fp h) : p.1 ∈ fp /\ h.get? p.1 = some p.2 := by
  obtain ⟨b, hb, e⟩ := List.mem_filterMap.mp hp
  cases q : h.get? b with
  | none => rw [q] at e; cases e
  | some o =>
    rw [q] at e
    have e' : (b, o) = p := xa4 e
    subst e'
    exact ⟨hb, q⟩
theorem Inv.pinned {pins : List (Addr × Obj)} {O : St} {H : Hp} {s : Shared} {fp : List Addr} (I : Inv X pins O H s) (hf : ∀ b ∈ fp, FpOk X pins H b) (ho : ∀ b ∈ fp, ∃ o, s.heap.get? b = some o /\ ∀ v, o.data ≠ .cell v) : Inv X (pins ++ pinsAt fp s.heap) O H s :=
  I.pins_of fun p hp => (xbi.mp hp).elim (fun z => I.pin p (xa8 _ z)) fun z => by
    obtain ⟨hb, e⟩ := of_pinsAt z
    obtain ⟨f0, f1, f2, _⟩ := hf p.1 hb
    obtain ⟨o, e', d⟩ := ho p.1 hb
    rw [e] at e'; cases e'
    exact ⟨e, f0, f1, f2, d⟩
theorem Inv.unpinned {pins pl : List (Addr × Obj)} {O : St} {H : Hp} {s : Shared} (I : Inv X (pins ++ pl) O H s) : Inv X pins O H s := I.pins_of fun p hp => I.pin p (xa8 _ (List.mem_append_left _ hp))
theorem ps_for {iter : Expr} {body : List Stmt} {wi : TI} {g : TG} {tb : TS} {pos : Pos} (hp : PassesOwn (model X.prog X.w) X.A X.env X.xe) (hc : X.calm = true) (hi : PI X tg iter wi) (hg : PG X tg g) (hb : PSs X body tb)
    (hs : ∀ x, foldedSetIterable iter X.env x = pure x := by intro _; rfl) : PS X (.For tg iter body [] pos) (tFor wi g tb) := by
  intro pins s O H D I h
  refine wpAny_For (thn (hi pins s O H _ I h) fun v s1 h1 => thn h1 fun itv s2 h2 => ?_) hs
  obtain ⟨it, fp, tn, J, H2, e, I2, T, st2, f2, W, ⟨m0, w0⟩, turn⟩ := h2
  subst e
  have stat : ∀ {H' : Hp}, (∀ b ∈ fp, H' b = none) -> ∀ b ∈ fp, FpOk X pins H' b := fun hn b hb => ⟨hn b hb, (f2 b hb).2⟩
  refine codeAny_forLoop_any (fun n s' => ∃ i O' H', Inv X pins O' H' s' /\ tn i s'.heap /\ (∀ b ∈ fp, H' b = none) /\ W i n O' H') ?_ m0 ⟨0, O, H2, I2, st2, fun b hb => (f2 b hb).1, w0⟩
  rintro n s3 ⟨i, O3, H3, I3, st3, fr3, w3⟩
  rcases turn i n O3 H3 w3 with ⟨stop, qn⟩ | ⟨go, N, hN, step⟩
  · refine wpAny_passesOwn hp (thn (T.done X rfl rfl rfl hc i pins s3 O3 H3 X.xe I3 (stat fr3) st3 stop) fun r s4 ⟨hr, I4⟩ => ?_)
    subst hr
    exact wpAny_execs_nil ⟨O3, H3, I4, qn⟩
  · refine wpAny_passesOwn hp (thn (T.item X rfl rfl rfl hc i pins s3 O3 H3 X.xe I3 (stat fr3) st3 go) fun r s4 ⟨u, hr, h4⟩ => ?_)
    subst hr
    refine wpAny_passesOwn hp (thn h4 fun _ s5 ⟨x, H5, I5, r5, y5, st5, fr5⟩ => ?_)
    have I5' := I5.pinned (stat fr5) (T.obj _ _ st5)
    refine wpAny_passesOwn hp (thn (hg _ s5 O3 H5 x u _ I5' r5 (step x H5 y5)) fun _ s6 ⟨O6, H6, I6, q6⟩ => ?_)
    refine wpAny_passesOwn hp (thn (hb _ s6 O6 H6 _ I6 q6) fun f s7 q7 => ?_)
    have again : ∀ {O7 : St} {H7 : Hp}, Inv X (pins ++ pinsAt fp s5.heap) O7 H7 s7 -> N O7 H7 -> ∃ m, m < n /\ ∃ i O' H', Inv X pins O' H' s7 /\ tn i s7.heap /\ (∀ b ∈ fp, H' b = none) /\ W i m O' H' := fun {O7 H7} I7 n7 => by
      obtain ⟨m', hm, w7⟩ := hN O7 H7 n7
      refine ⟨m', hm, i + 1, O7, H7, I7.unpinned, T.keep _ _ _ st5 fun b hb o e => (I7.pin (b, o) (xa8 _ (xa8 _ (mem_pinsAt hb e)))).1, fun b hb => ?_, w7⟩
      obtain ⟨o, e, d⟩ := T.obj _ _ st5 b hb
      exact (I7.pin (b, o) (xa8 _ (xa8 _ (mem_pinsAt hb e)))).2.1
    cases f with
    | next => obtain ⟨O7, H7, I7, n7⟩ := q7; exact again I7 n7
    | cont => obtain ⟨O7, H7, I7, n7⟩ := q7; exact again I7 n7
    | brk => obtain ⟨O7, H7, I7, q7⟩ := q7; exact ⟨O7, H7, I7.unpinned, q7⟩
    | ret v => obtain ⟨x7, O7, H7, I7, r7, q7⟩ := q7; exact ⟨x7, O7, H7, I7.unpinned, r7, q7⟩
end
end L2
namespace L2
open PySem.Spec PyProof.Rows
abbrev R2 := V -> V -> Hp -> VK -> Prop
def OpR (X : Cx) (f : Value -> Value -> Sem Value) (r : R2) : Prop :=
  ∀ (pins : List (Addr × Obj)) (s : Shared) (O : St) (H : Hp) (x y : V) (v u : Value) (Q : VK), Inv X pins O H s -> RelV x v -> RelV y u -> r x y H Q ->
    wpAny (model X.prog X.w) X.A (f v u) (EP X pins O Q) X.xe s
def UnR (X : Cx) (f : Value -> Sem Value) (r : V -> Hp -> VK -> Prop) : Prop :=
  ∀ (pins : List (Addr × Obj)) (s : Shared) (O : St) (H : Hp) (x : V) (v : Value) (Q : VK), Inv X pins O H s -> RelV x v -> r x H Q ->
    wpAny (model X.prog X.w) X.A (f v) (EP X pins O Q) X.xe s
def CallR (X : Cx) (f : Value) (r : List V -> Hp -> VK -> Prop) : Prop :=
  ∀ (pins : List (Addr × Obj)) (s : Shared) (O : St) (H : Hp) (xs : List V) (us : List Value) (Q : VK), Inv X pins O H s -> Vals xs us -> r xs H Q ->
    wpAny (model X.prog X.w) X.A (call f us) (EP X pins O Q) X.xe s
def tOp (r : R2) (ta tb : TE) : TE := fun O H Q => ta O H fun x H1 => tb O H1 fun y H2 => r x y H2 Q
def tUn (r : V -> Hp -> VK -> Prop) (ta : TE) : TE := fun O H Q => ta O H fun x H1 => r x H1 Q
def rI (C : Int -> Int -> Prop) (g : Int -> Int -> V) : R2 := fun x y H Q => ∃ i j, x = .int i /\ y = .int j /\ C i j /\ Q (g i j) H
def rI0 (g : Int -> Int -> V) : R2 := fun x y H Q => ∃ i j, x = .int i /\ y = .int j /\ Q (g i j) H
def rU (g : Int -> V) : V -> Hp -> VK -> Prop := fun x H Q => ∃ i, x = .int i /\ Q (g i) H
section
variable {X : Cx} {a b c : Expr} {ta tb tc : TE} {pos : Pos}
theorem binT (ha : PE X a ta) (hb : PE X b tb) {pins : List (Addr × Obj)} {s : Shared} {O : St} {H : Hp} {R : V -> V -> Hp -> Prop} (I : Inv X pins O H s)
    (h : ta O H fun x H1 => tb O H1 fun y H2 => R x y H2) {Q : Value -> Shared -> Prop} {f : Value -> Value -> Sem Value}
    (hf : ∀ v u s2 x y H2, Inv X pins O H2 s2 -> RelV x v -> RelV y u -> R x y H2 -> wpAny (model X.prog X.w) X.A (f v u) Q X.xe s2) :
    wpAny (model X.prog X.w) X.A (eval a X.env) (fun v s₁ => wpAny (model X.prog X.w) X.A (eval b X.env) (fun u s₂ => wpAny (model X.prog X.w) X.A (f v u) Q X.xe s₂) X.xe s₁) X.xe s := by
  refine thn (ha pins s O H _ I h) fun v s1 ⟨x, H1, I1, r1, q1⟩ => ?_
  refine thn (hb pins s1 O H1 _ I1 q1) fun u s2 ⟨y, H2, I2, r2, q2⟩ => ?_
  exact hf v u s2 x y H2 I2 r1 r2 q2
theorem pe_op {op : Operator} {r : R2} (ho : OpR X (binaryOp op) r) (ha : PE X a ta) (hb : PE X b tb) : PE X (.BinOp a op b pos) (tOp r ta tb) := by
  intro pins s O H Q I h
  exact wpAny_BinOp (binT ha hb I h fun v u s2 x y H2 I2 rx ry q => ho pins s2 O H2 x y v u Q I2 rx ry q)
theorem pe_un {op : UnaryOp} {r : V -> Hp -> VK -> Prop} (ho : UnR X (unaryOp op) r) (ha : PE X a ta) : PE X (.UnaryOp op a pos) (tUn r ta) := by
  intro pins s O H Q I h
  exact UnaryOp_ (thn (ha pins s O H _ I h) fun v s1 ⟨x, H1, I1, r1, q1⟩ => ho pins s1 O H1 x v Q I1 r1 q1)
theorem opI {f : Value -> Value -> Sem Value} {C : Int -> Int -> Prop} {g : Int -> Int -> Int}
    (rule : ∀ (i j : Int) (t u : Tok) (s : Shared) (Q : Value -> Shared -> Prop) (E : Value -> Shared -> Prop), C i j -> Q (.int (g i j) s.toks) { s with toks := s.toks + 1 } -> wpAny (model X.prog X.w) X.A (f (.int i t) (.int j u)) Q E s) :
    OpR X f (rI C fun i j => .int (g i j)) := by
  intro pins s O H x y v u Q I rx ry h
  obtain ⟨i, j, rfl, rfl, hc, q⟩ := h
  obtain ⟨t, rfl⟩ := rx
  obtain ⟨t', rfl⟩ := ry
  exact rule i j t t' s _ _ hc ⟨.int (g i j), H, I.tok _, ⟨_, rfl⟩, q⟩
theorem opI0 {f : Value -> Value -> Sem Value} {g : Int -> Int -> Int}
    (rule : ∀ (i j : Int) (t u : Tok) (s : Shared) (Q : Value -> Shared -> Prop) (E : Value -> Shared -> Prop), Q (.int (g i j) s.toks) { s with toks := s.toks + 1 } -> wpAny (model X.prog X.w) X.A (f (.int i t) (.int j u)) Q E s) :
    OpR X f (rI0 fun i j => .int (g i j)) := by
  intro pins s O H x y v u Q I rx ry h
  obtain ⟨i, j, rfl, rfl, q⟩ := h
  obtain ⟨t, rfl⟩ := rx
  obtain ⟨t', rfl⟩ := ry
  exact rule i j t t' s _ _ ⟨.int (g i j), H, I.tok _, ⟨_, rfl⟩, q⟩
theorem opB0 {f : Value -> Value -> Sem Value} {g : Int -> Int -> Bool}
    (rule : ∀ (i j : Int) (t u : Tok) (s : Shared) (Q : Value -> Shared -> Prop) (E : Value -> Shared -> Prop), Q (.bool (g i j)) s -> wpAny (model X.prog X.w) X.A (f (.int i t) (.int j u)) Q E s) :
    OpR X f (rI0 fun i j => .bl (g i j)) := by
  intro pins s O H x y v u Q I rx ry h
  obtain ⟨i, j, rfl, rfl, q⟩ := h
  obtain ⟨t, rfl⟩ := rx
  obtain ⟨t', rfl⟩ := ry
  exact rule i j t t' s _ _ ⟨.bl (g i j), H, I, rfl, q⟩
def CPow (i j : Int) : Prop := 0 <= j /\ j <= 1000000 /\ i.natAbs < 2 ^ 64
theorem op_add : OpR X (binaryOp .Add) (rI0 fun i j => .int (i + j)) := opI0 fun _ _ _ _ _ _ _ q => add_int q
theorem op_modN : OpR X (binaryOp .Mod) (rI (fun _ j => j ≠ 0) fun i j => .int (i.fmod j)) := opI fun _ _ _ _ _ _ _ hc q => mod_int' hc q
theorem op_pow : OpR X (binaryOp .Pow) (rI CPow fun i j => .int (i ^ j.toNat)) := opI fun _ _ _ _ _ _ _ hc q => pow_int_small hc.1 hc.2.1 hc.2.2 q
theorem unI {f : Value -> Sem Value} {g : Int -> Int}
    (rule : ∀ (i : Int) (t : Tok) (s : Shared) (Q : Value -> Shared -> Prop) (E : Value -> Shared -> Prop), Q (.int (g i) s.toks) { s with toks := s.toks + 1 } -> wpAny (model X.prog X.w) X.A (f (.int i t)) Q E s) :
    UnR X f (rU fun i => .int (g i)) := by
  intro pins s O H x v Q I rx h
  obtain ⟨i, rfl, q⟩ := h
  obtain ⟨t, rfl⟩ := rx
  exact rule i t s _ _ ⟨.int (g i), H, I.tok _, ⟨_, rfl⟩, q⟩
theorem un_neg : UnR X (unaryOp .USub) (rU fun i => .int (-i)) := unI fun _ _ _ _ _ q => neg_int q
end
section
variable {X : Cx} {a b c : Expr} {ta tb tc : TE} {pos : Pos}
theorem fin_bl {pins : List (Addr × Obj)} {O : St} {H : Hp} {s : Shared} {Q : VK} {k k' : Bool} (I : Inv X pins O H s) (q : Q (.bl k) H) (e : k = k') : EP X pins O Q (.bool k') s := by
  subst e
  exact ⟨.bl k, H, I, rfl, q⟩
theorem op_lt : OpR X (compareOp .Lt) (rI0 fun i j => .bl (decide (i < j))) := opB0 fun _ _ _ _ _ _ _ q => lt_int q
theorem op_le : OpR X (compareOp .LtE) (rI0 fun i j => .bl (decide (i <= j))) := opB0 fun _ _ _ _ _ _ _ q => le_int q
theorem op_gt : OpR X (compareOp .Gt) (rI0 fun i j => .bl (decide (j < i))) := opB0 fun _ _ _ _ _ _ _ q => gt_int q
theorem op_ge : OpR X (compareOp .GtE) (rI0 fun i j => .bl (decide (j <= i))) := opB0 fun _ _ _ _ _ _ _ q => ge_int q
theorem op_in_str : OpR X (compareOp .In) (fun x y H Q => ∃ i j, x = .str i /\ y = .str j /\ Q (.bl (!(Builtin.Str.occurrences j i 0 j.length 1).isEmpty)) H) := by
  intro pins s O H x y v u Q I rx ry h
  obtain ⟨i, j, rfl, rfl, q⟩ := h
  obtain ⟨t, rfl⟩ := rx
  obtain ⟨t', rfl⟩ := ry
  exact in_str (fin_bl I q rfl)
theorem op_isN : OpR X (compareOp .Is) (fun x y H Q => y = .non /\ Q (.bl (decide (x = .non))) H) := by
  intro pins s O H x y v u Q I rx ry h
  obtain ⟨rfl, q⟩ := h
  cases ry
  refine is_none_gen (fin_bl I q ?_)
  cases x <;> first
    | (cases rx; rfl)
    | (obtain ⟨t, rfl⟩ := rx; rfl)
theorem op_notN : OpR X (compareOp .IsNot) (fun x y H Q => y = .non /\ Q (.bl (!decide (x = .non))) H) := by
  intro pins s O H x y v u Q I rx ry h
  obtain ⟨rfl, q⟩ := h
  cases ry
  refine isnot_none_gen (fin_bl I q ?_)
  cases x <;> first
    | (cases rx; rfl)
    | (obtain ⟨t, rfl⟩ := rx; rfl)
theorem OpR.or {f : Value -> Value -> Sem Value} {r r' : R2} (h : OpR X f r) (h' : OpR X f r') : OpR X f (fun x y H Q => r x y H Q \/ r' x y H Q) := by
  intro pins s O H x y v u Q I rx ry q
  rcases q with q | q
  · exact h pins s O H x y v u Q I rx ry q
  · exact h' pins s O H x y v u Q I rx ry q
theorem pe_cmpR {op : CmpOp} {r : R2} (ho : OpR X (compareOp op) r) (ha : PE X a ta) (hb : PE X b tb) (hm : behindInMarks op b = false) : PE X (.Compare a [op] [b] pos) (tOp r ta tb) := by
  intro pins s O H Q I h
  exact wpAny_Compare1 (binT ha hb I h fun v u s2 x y H2 I2 rx ry q => ho pins s2 O H2 x y v u Q I2 rx ry q) hm
def tTest (t : TE) : TT := fun O H Q => t O H fun x H' => ∃ k, x = .bl k /\ Q k H'
theorem pt_cmpR {op : CmpOp} {r : R2} (ho : OpR X (compareOp op) r) (ha : PE X a ta) (hb : PE X b tb) (hm : behindInMarks op b = false) : PT X (.Compare a [op] [b] pos) (tTest (tOp r ta tb)) := by
  intro pins s O H Q I h
  refine wpAny_isTrue_Compare1 (thn (ha pins s O H _ I h) fun v s1 ⟨x, H1, I1, r1, q1⟩ => thn (hb pins s1 O H1 _ I1 q1) fun u s2 ⟨y, H2, I2, r2, q2⟩ =>
    thn (ho pins s2 O H2 x y v u _ I2 r1 r2 q2) fun c s3 ⟨z, H3, I3, r3, k, e, q3⟩ => ?_) hm
  subst e
  cases r3
  exact wpAny_truthy_bool ⟨H3, I3, q3⟩
def tChain (r r' : R2) (ta tb tc : TE) : TE := fun O H Q => ta O H fun x H1 => tb O H1 fun y H2 => r x y H2 fun z H3 => ∃ k, z = .bl k /\
  (if k = true then tc O H3 fun w' H4 => r' y w' H4 Q else Q (.bl false) H3)
theorem pt_chain {op op' : CmpOp} {r r' : R2} (ho : OpR X (compareOp op) r) (ho' : OpR X (compareOp op') r') (ha : PE X a ta) (hb : PE X b tb) (hc : PE X c tc)
    (hm : lastMarks [op, op'] [b, c] = false := by with_unfolding_all rfl) : PT X (.Compare a [op, op'] [b, c] pos) (tTest (tChain r r' ta tb tc)) := by
  intro pins s O H Q I h
  refine isTrue_chain (thn (ha pins s O H _ I h) fun v s1 ⟨x, H1, I1, r1, q1⟩ => test_link (thn (hb pins s1 O H1 _ I1 q1) fun u s2 ⟨y, H2, I2, r2, q2⟩ =>
    thn (ho pins s2 O H2 x y v u _ I2 r1 r2 q2) fun d s3 ⟨z, H3, I3, r3, k, e, q3⟩ => ?_)) hm
  subst e
  cases r3
  refine wpAny_truthy_bool ?_
  cases k with
  | false =>
    obtain ⟨k', e', q'⟩ := q3
    cases e'
    exact ite_ff ⟨H3, I3, q'⟩
  | true =>
    refine ite_tt (test_last (thn (hc pins s3 O H3 _ I3 q3) fun w' s4 ⟨z', H4, I4, r4, q4⟩ => thn (ho' pins s4 O H4 y z' u w' _ I4 r2 r4 q4) fun d' s5 ⟨z2, H5, I5, r5, k2, e2, q5⟩ => ?_))
    subst e2
    cases r5
    exact wpAny_truthy_bool ⟨H5, I5, q5⟩
theorem line63 : (sizeLine : Nat) < 2 ^ 63 := by rw [sizeLine_eq]; decide
theorem op_add_str : OpR X (binaryOp .Add) (fun x y H Q => ∃ i j, x = .str i /\ y = .str j /\ i.length + j.length <= sizeLine /\ Q (.str (i ++ j)) H) := by
  intro pins s O H x y v u Q I rx ry h
  obtain ⟨i, j, rfl, rfl, hz, q⟩ := h
  obtain ⟨t, rfl⟩ := rx
  obtain ⟨t', rfl⟩ := ry
  exact add_str (fun t' tk => ⟨.str (i ++ j), H, I.tok _, ⟨_, rfl⟩, q⟩) hz
def PlainIxT (b : Expr) : Prop := ∀ o i, subscripted b false o i = operate [o, i] (getItem o i)
theorem pe_item_str (ha : PE X a ta) (hb : PE X b tb) (hs : PlainIxT b) :
    PE X (.Subscript a b pos) (tOp (fun x y H Q => ∃ z i c, x = .str z /\ y = .int i /\ 0 <= i /\ i < 2 ^ 63 /\ i < z.length /\ z.cps[i.toNat]? = some c /\ Q (.str ⟨#[c]⟩) H) ta tb) := by
  intro pins s O H Q I h
  refine Subscript_ (binT ha hb I h fun v u s2 x y H2 I2 rx ry q => ?_)
  obtain ⟨z, i, c, rfl, rfl, h0, h63, h1, hc, q⟩ := q
  obtain ⟨t, rfl⟩ := rx
  obtain ⟨t', rfl⟩ := ry
  have e : seqIndex? i z.length = some i.toNat := PySem.StrLaws.seqIndex_nonneg h0 h1
  exact tail_any (typeIs_str s2 z t) slot_str_getitem.lookup (getItem_str (c := c) (by
    have e1 : decide (i < -(2 ^ 63 : Int)) = false := xat (by omega)
    have e2 : decide (i ≥ 2 ^ 63) = false := xat (by omega)
    rw [e1, e2] <;> rfl) (by rw [e]; exact hc) ⟨.str ⟨#[c]⟩, H2, I2.tok _, ⟨_, rfl⟩, q⟩) (hs _ _)
theorem vals1 {x : V} {us : List Value} (r : Vals [x] us) : ∃ u, us = [u] /\ RelV x u := by
  cases r with
  | cons r1 r2 => cases r2; exact ⟨_, rfl, r1⟩
theorem vals2 {x y : V} {us : List Value} (r : Vals [x, y] us) : ∃ u w', us = [u, w'] /\ RelV x u /\ RelV y w' := by
  cases r with
  | cons r1 r2 =>
    cases r2 with
    | cons r3 r4 => cases r4; exact ⟨_, _, rfl, r1, r3⟩
theorem call_max2 (hc : X.calm = true) : CallR X (.builtin "max") (fun xs H Q => ∃ i j, xs = [.int i, .int j] /\ Q (.int (if j > i then j else i)) H) := by
  intro pins s O H xs us Q I r h
  obtain ⟨i, j, rfl, q⟩ := h
  obtain ⟨u, w', rfl, ⟨t, rfl⟩, ⟨t', rfl⟩⟩ := vals2 r
  refine max_two_ints (I.ok.hd hc) fun h' tk k => ⟨_, H, I.kept k, ?_, q⟩
  by_cases hj : j > i
  · rw [xav hj, xav hj]; exact ⟨_, rfl⟩
  · rw [xap hj, xap hj]; exact ⟨_, rfl⟩
theorem call_int1 : CallR X (.type "int") (fun xs H Q => (∃ i, xs = [.int i] /\ Q (.int i) H) \/ ∃ k, xs = [.bl k] /\ Q (.int (if k then 1 else 0)) H) := by
  intro pins s O H xs us Q I r h
  rcases h with ⟨i, rfl, q⟩ | ⟨k, rfl, q⟩
  · obtain ⟨u, rfl, t, rfl⟩ := vals1 r
    exact call_int_int ⟨.int i, H, I, ⟨_, rfl⟩, q⟩
  · obtain ⟨u, rfl, r1⟩ := vals1 r
    cases r1
    exact call_int_bool ⟨.int (if k then 1 else 0), H, I.tok _, ⟨_, rfl⟩, q⟩
theorem call_str_int : CallR X (.type "str") (fun xs H Q => ∃ i, xs = [.int i] /\ i.natAbs.log2 < 1920 /\ Q (.str (toString i)) H) := by
  intro pins s O H xs us Q I r h
  obtain ⟨i, rfl, hz, q⟩ := h
  obtain ⟨u, rfl, t, rfl⟩ := vals1 r
  exact PySem.P.str_of_int hz ⟨.str _, H, I.tok _, ⟨_, rfl⟩, q⟩
end
end L2
namespace L2
open PySem.Spec PyProof.Rows
structure Room (k : Nat) (A : Around) : Prop where
  hd : A.handled = none
  dp : A.depth + 3 * k + 5 < recursionLimit
  un : A.units + 16 * k + 200 < cLine
theorem Room.mono {j k : Nat} {A : Around} (r : Room k A) (h : j <= k) : Room j A := ⟨r.hd, by have := r.dp; omega, by have := r.un; omega⟩
theorem Room.deeper {k : Nat} {A : Around} (r : Room (k + 1) A) (env : Env) : Room k (A.deeper env) :=
  ⟨r.hd, by have := r.dp; show A.depth + 1 + 3 * k + 5 < _; omega, by have := r.un; show A.units + 3 + 16 * k + 200 < _; omega⟩
theorem Room.depth {k : Nat} {A : Around} (r : Room k A) : A.depth < recursionLimit := by have := r.dp; omega
def tNil : TA := fun _ H Q => Q [] H
def tCons (ta : TE) (tr : TA) : TA := fun O H Q => ta O H fun x H1 => tr O H1 fun xs H2 => Q (x :: xs) H2
section
variable {X : Cx} {e : Expr} {es : List Expr} {te : TE} {t : TA} {pos : Pos}
theorem pa_nil : PA X [] tNil := fun _ _ _ _ H Q I h => Calls.spliced_nil ⟨[], H, I, .nil, h⟩
theorem pa_cons (ha : PE X e te) (hr : PA X es t) (hs : starEach (e :: es) X.env = (false, eval e X.env) :: starEach es X.env := by rfl) : PA X (e :: es) (tCons te t) := by
  intro pos pins s O H Q I h
  rw [hs]
  show wpAny _ _ (spliced ((false, eval e X.env) :: backTo pos (starEach es X.env))) _ _ s
  refine Calls.spliced_cons (thn (ha pins s O H _ I h) fun u s1 ⟨x, H1, I1, r1, q1⟩ => ?_)
  exact thn (hr pos pins s1 O H1 _ I1 q1) fun us s2 ⟨xs, H2, I2, r2, q2⟩ => ⟨x :: xs, H2, I2, .cons r1 r2, q2⟩
def tTup (t : TA) : TE := fun O H Q => t O H fun xs H1 => xs.length <= sizeLine /\ ∀ p, H1 p = none -> Q (.ref p) (upd H1 p (.tup xs))
def tLst (t : TA) : TE := fun O H Q => t O H fun xs H1 => xs.length <= sizeLine /\ ∀ p, H1 p = none -> Q (.ref p) (upd H1 p (.lst xs))
theorem pe_tup {x1} (h : PA X es t) : PE X (.Tuple es x1 pos) (tTup t) := by
  intro pins s O H Q I hq
  refine wpAny_Tuple_spliced (thn (h pos pins s O H _ I hq) fun us s1 ⟨xs, H1, I1, r, z, q⟩ => ⟨by rw [<- r.length]; exact z, ?_⟩)
  have hf : H1 s1.heap.objs.size = none := I1.hok.fresh (xad _)
  refine ⟨.ref s1.heap.objs.size, upd H1 s1.heap.objs.size (.tup xs), I1.laid (t' := s1.toks) (fun b u e => xab _ e) (xad _) ?_, rfl, q _ hf⟩
  exact ⟨z, us, r, ⟨_, xau _ rfl, rfl, ⟨_, rfl⟩, rfl⟩⟩
theorem pe_lst (h : PA X es t) : PE X (.List es pos) (tLst t) := by
  intro pins s O H Q I hq
  refine wpAny_List_spliced (thn (h pos pins s O H _ I hq) fun us s1 ⟨xs, H1, I1, r, z, q⟩ => ⟨by rw [<- r.length]; exact z, ?_⟩)
  have hf : H1 s1.heap.objs.size = none := I1.hok.fresh (xad _)
  refine ⟨.ref s1.heap.objs.size, upd H1 s1.heap.objs.size (.lst xs), I1.laid (t' := s1.toks) (fun b u e => xab _ e) (xad _) ?_, rfl, q _ hf⟩
  exact ⟨z, us, 0, r, xau _ rfl⟩
end
abbrev Sp := List V -> Hp -> VK -> XK -> Prop
abbrev CXT := List Env -> Hp -> Shared -> XK -> Value -> Shared -> Prop
structure Env0 (P : Program) (w : World) (K : xFg) (mg : Str -> Option Value) (base : Heap) (A : Around) (outer : List Env) (s : Shared) (H : Hp) : Prop where
  frames : A.frames = some outer
  mod : Mod K mg base
  bs : ∀ b o, base.get? b = some o -> s.heap.get? b = some o /\ H b = none
  bsz : base.objs.size <= s.heap.objs.size
  funs : s.heap.FunFrames base outer
  frf : ∀ b ∈ frs outer, H b = none
  hok : HOk P w H s.heap
  bare : AllBare s.gens
def CE (outer : List Env) (P : Program) (w : World) (H : Hp) (s : Shared) (Q : VK) (u : Value) (s' : Shared) : Prop :=
  ∃ v H', s'.os = s.os /\ AllBare s'.gens /\ Un (frs outer) [] H H' s.heap s'.heap /\ HOk P w H' s'.heap /\ RelV v u /\ Q v H'
def CR (CX : CXT) (outer : List Env) (P : Program) (w : World) (H : Hp) (s : Shared) (Q : VK) (E : XK) (r : Result) (s' : Shared) : Prop :=
  match r with
  | .ok (.ret u) => CE outer P w H s Q u s'
  | .ok _ => False
  | .error e => CX outer H s E e s'
structure FnOk (P : Program) (w : World) (K : xFg) (mg : Str -> Option Value) (base : Heap) (CX : CXT) (k : Nat) (f : Addr) (fd : FuncData) (ps : List Str) (sp : Sp) : Prop where
  len : ∀ vs H Q E, sp vs H Q E -> vs.length = ps.length
  run : ∀ (A : Around) (outer : List Env) (s : Shared) (H : Hp) (args : Args) (us : List Value) (vs : List V) (Q : VK) (E : XK), Room k A -> Env0 P w K mg base A outer s H -> BindsTo s fd args (ps.zip us) -> Vals vs us -> sp vs H Q E ->
    codeAny (model P w) A (.call (.ref f) args) (CR CX outer P w H s Q E) s
theorem FnOk.mono {P : Program} {w : World} {K : xFg} {mg : Str -> Option Value} {base : Heap} {CX : CXT} {j k : Nat} {f : Addr} {fd : FuncData} {ps : List Str} {sp : Sp} (F : FnOk P w K mg base CX j f fd ps sp) (h : j <= k) :
    FnOk P w K mg base CX k f fd ps sp := ⟨F.len, fun A outer s H args us vs Q E hr => F.run A outer s H args us vs Q E (hr.mono h)⟩
theorem FnOk.imp {P : Program} {w : World} {K : xFg} {mg : Str -> Option Value} {base : Heap} {CX : CXT} {k : Nat} {f : Addr} {fd : FuncData} {ps : List Str} {sp sp' : Sp} (F : FnOk P w K mg base CX k f fd ps sp)
    (h : ∀ vs H Q E, sp' vs H Q E -> sp vs H Q E) : FnOk P w K mg base CX k f fd ps sp' :=
  ⟨fun vs H Q E q => F.len vs H Q E (h _ _ _ _ q), fun A outer s H args us vs Q E hr he hb hv hs => F.run A outer s H args us vs Q E hr he hb hv (h _ _ _ _ hs)⟩
section
variable {X : Cx} {pins : List (Addr × Obj)} {O : St} {H : Hp} {s s' : Shared}
theorem Inv.env0 (I : Inv X pins O H s) : Env0 X.prog X.w X.K X.mg X.base X.A X.stack s H :=
  ⟨I.ok.frames, I.ok.mod, I.bs, xax I.ok.bsz I.sz, I.stack, I.stkFree, I.hok, I.bare⟩
theorem Inv.after {Q : VK} {u : Value} (I : Inv X pins O H s) (h : CE X.stack X.prog X.w H s Q u s') : EP X pins O Q u s' := by
  obtain ⟨v, H', os, bare, un, hok, r, q⟩ := h
  obtain ⟨hh, g, d, t, os'⟩ := s'
  obtain rfl : os' = s.os := os
  exact ⟨v, H', I.call (h' := hh) (g' := g) (d' := d) (t' := t) (ch := []) un hok bare (fun b z => xag z (by simp)), r, q⟩
end
def tCall (sp : Sp) (dvs : List V) (E : XK) (t : TA) : TE := fun O H Q => t O H fun vs H1 => sp (vs ++ dvs) H1 Q E
def Binds (K : xFg) (fd : FuncData) (ps : List Str) (ds : List Value) : Prop :=
  ∀ (s : Shared) (us : List Value), K.In s.heap -> (us ++ ds).length = ps.length -> BindsTo s fd ⟨us, []⟩ (ps.zip (us ++ ds))
theorem Binds.all {K : xFg} {fd : FuncData} {ps : List Str} (h : ∀ us : List Value, us.length = ps.length -> bindArgs fd ⟨us, []⟩ = pure (ps.zip us)) : Binds K fd ps [] := fun s us _ hl => by
  rw [xbo] at hl ⊢
  exact .of_eq (h us hl)
def Passes (CX : CXT) (X : Cx) (E : XK) : Prop := ∀ (pins : List (Addr × Obj)) (O : St) (H : Hp) (s : Shared) (e : Value) (s' : Shared), Inv X pins O H s -> CX X.stack H s E e s' -> X.xe e s'
section
variable {X : Cx} {CX : CXT} {k : Nat} {f C : Addr} {fd : FuncData} {ps : List Str} {sp : Sp} {dvs : List V} {ds : List Value} {E : XK} {x m : Str} {p pos apos : Pos} {e o : Expr} {es : List Expr} {ta : TE} {t : TA}
theorem run_fn {pins : List (Addr × Obj)} {O : St} {H : Hp} {s : Shared} {Q : VK} {us : List Value} {vs : List V} (F : FnOk X.prog X.w X.K X.mg X.base CX k f fd ps sp) (hr : Room k X.A) (hb : Binds X.K fd ps ds) (hd : Vals dvs ds) (hx : Passes CX X E)
    (I : Inv X pins O H s) (r : Vals vs us) (h : sp (vs ++ dvs) H Q E) : wpAny (model X.prog X.w) X.A (call (.ref f) us) (EP X pins O Q) X.xe s := by
  have r2 : Vals (vs ++ dvs) (us ++ ds) := r.append hd
  have hl : (us ++ ds).length = ps.length := by rw [<- r2.length]; exact F.len _ _ _ _ h
  refine wpAny_call (codeAny_mono (F.run X.A X.stack s H ⟨us, []⟩ (us ++ ds) (vs ++ dvs) Q E hr I.env0 (hb s us I.kIn hl) r2 h) fun r s' hq => ?_)
  cases r with
  | error e => exact hx pins O H s e s' I hq
  | ok fl =>
    cases fl with
    | ret u => exact I.after hq
    | next => exact False.elim hq
    | brk => exact False.elim hq
    | cont => exact False.elim hq
theorem pe_call (F : FnOk X.prog X.w X.K X.mg X.base CX k f fd ps sp) (hr : Room k X.A) (hg : Gl X x) (hm : X.mg x = some (.ref f)) (hk : PySem.W.keepIn X.K (.ref f) = true) (hb : Binds X.K fd ps ds) (hd : Vals dvs ds) (hx : Passes CX X E)
    (ha : PA X (e :: es) t) (hdb : (x == ("__debug__" : Str)) = false := by decide) (he : starEach (e :: es) X.env = (false, eval e X.env) :: starEach es X.env := by rfl) (hpl : (backTo pos (starEach es X.env)).any (·.1) = false := by rfl) :
    PE X (.Call (.Name x p) (e :: es) [] pos) (tCall sp dvs E t) := by
  intro pins s O H Q I h
  refine wpAny_Call_Name_kw (ld_glob I hg hm ?_ hdb)
  refine PySem.W.callWith_K (h₀ := X.base) I.ok.mod.kin hk (thn (ha pos pins s O H _ I h) fun us s1 ⟨vs, H1, I1, r, q⟩ => ⟨I1.kIn, ?_⟩) he hpl
  exact run_fn F hr hb hd hx I1 r q
end
structure FnScope (N P : List Str) (sc : Scope) : Prop where
  kind : sc.kind = .function
  co : sc.isCoroutine = false
  gen : sc.isGenerator = false
  nd : N.Nodup
  pre : N.take P.length = P
  par : ∀ x ∈ P, sc.names.lookup x = some .local \/ sc.names.lookup x = some .cell
  nofree : ∀ y ∈ sc.names, y.2 ≠ .free
theorem bindL_out {kindOf : Str -> Option NameKind} {x : Str} : ∀ {binds : List (Str × Value)} {m : Str -> Option Value}, (∀ v, (x, v) ∉ binds) -> bindL kindOf binds m x = m x
  | [], _, _ => rfl
  | (n, v) :: r, m, h => by
    unfold bindL
    rw [bindL_out fun w hw => h w (xaq _ hw)]
    split
    · have : x ≠ n := by rintro rfl; exact h v xa5
      simp [this]
    · rfl
theorem bindC_out {kindOf : Str -> Option NameKind} {x : Str} : ∀ {binds : List (Str × Value)} {m : Str -> Option Value}, (∀ v, (x, v) ∉ binds) -> bindC kindOf binds m x = m x
  | [], _, _ => rfl
  | (n, v) :: r, m, h => by
    unfold bindC
    rw [bindC_out fun w hw => h w (xaq _ hw)]
    split
    · rfl
    · have : x ≠ n := by rintro rfl; exact h v xa5
      simp [this]
theorem bindL_get {kindOf : Str -> Option NameKind} {x : Str} {v : Value} : ∀ {P : List Str} {vs : List Value} {i : Nat} {m : Str -> Option Value}, P.Nodup -> P[i]? = some x -> vs[i]? = some v -> kindOf x = some .local ->
    bindL kindOf (P.zip vs) m x = some v
  | [], _, _, _, _, h, _, _ => by simp at h
  | _ :: _, [], _, _, _, _, h, _ => by simp at h
  | p :: P, w :: vs, 0, m, nd, h1, h2, hk => by
    simp at h1 h2; subst h1; subst h2
    show bindL kindOf ((p, w) :: P.zip vs) m p = _
    unfold bindL
    rw [bindL_out fun v hv => (xcd.mp nd).1 (List.of_mem_zip hv).1, xav hk]
    simp
  | p :: P, w :: vs, i + 1, m, nd, h1, h2, hk => by
    show bindL kindOf ((p, w) :: P.zip vs) m x = _
    unfold bindL
    exact bindL_get (i := i) (xcd.mp nd).2 (by simpa using h1) (by simpa using h2) hk
theorem bindC_get {kindOf : Str -> Option NameKind} {x : Str} {v : Value} : ∀ {P : List Str} {vs : List Value} {i : Nat} {m : Str -> Option Value}, P.Nodup -> P[i]? = some x -> vs[i]? = some v -> kindOf x ≠ some .local ->
    bindC kindOf (P.zip vs) m x = some v
  | [], _, _, _, _, h, _, _ => by simp at h
  | _ :: _, [], _, _, _, _, h, _ => by simp at h
  | p :: P, w :: vs, 0, m, nd, h1, h2, hk => by
    simp at h1 h2; subst h1; subst h2
    show bindC kindOf ((p, w) :: P.zip vs) m p = _
    unfold bindC
    rw [bindC_out fun v hv => (xcd.mp nd).1 (List.of_mem_zip hv).1, xap hk]
    simp
  | p :: P, w :: vs, i + 1, m, nd, h1, h2, hk => by
    show bindC kindOf ((p, w) :: P.zip vs) m x = _
    unfold bindC
    exact bindC_get (i := i) (xcd.mp nd).2 (by simpa using h1) (by simpa using h2) hk
def start (N : List Str) (vs : List V) : St := vs.map some ++ List.replicate (N.length - vs.length) none
def cxOf (CX : CXT) (P : Program) (w : World) (K : xFg) (mg : Str -> Option Value) (base : Heap) (N : List Str) (qual : Str) (scope : Scope) (f : Addr) (cd : Value) (A : Around) (outer : List Env) (s : Shared) (H : Hp) (E : XK) : Cx where
  prog := P
  w := w
  K := K
  mg := mg
  base := base
  A := A.deeper (envOfC qual scope s.heap.objs.size f cd)
  N := N
  s₀ := s
  H₀ := H
  env := envOfC qual scope s.heap.objs.size f cd
  outer := outer
  stack := envOfC qual scope s.heap.objs.size f cd :: outer
  ex := []
  calm := true
  fn := fun _ => true
  pn := []
  xe := fun e s' => wpAny (model P w) (A.deeper (envOfC qual scope s.heap.objs.size f cd)) (leaving (envOfC qual scope s.heap.objs.size f cd) e) (fun _ s'' => CX outer H s E e s'') (fun e' s'' => CX outer H s E e' s'') s'
theorem cell_has {sc : Scope} {n : Nat} {x : Str} (h : sc.names.lookup x = some .cell) : ∃ c, (cellsFrom n sc.names []).lookup x = some c := by
  have q := PySem.W.cellsFrom_some sc.names n [] (.inl h)
  exact xbw.mp q
theorem inv_start {CX : CXT} {P : Program} {w : World} {K : xFg} {mg : Str -> Option Value} {base : Heap} {N ps : List Str} {qual : Str} {scope : Scope} {f : Addr} {cd : Value} {A : Around} {outer : List Env} {s s1 : Shared} {H : Hp} {E : XK} {us : List Value} {vs : List V}
    (S : FnScope N ps scope) (hd : A.handled = none) (e0 : Env0 P w K mg base A outer s H) (hl : vs.length = ps.length) (r : Vals vs us)
    (x : InCallC s s.heap.objs.size (bindL (envOfC qual scope s.heap.objs.size f cd).kindOf (ps.zip us) fun _ => none) (cellsFrom (s.heap.objs.size + 1) scope.names []) (bindC (envOfC qual scope s.heap.objs.size f cd).kindOf (ps.zip us) fun _ => none) s1) :
    Inv (cxOf CX P w K mg base N qual scope f cd A outer s H E) [] (start N vs) H s1 := by
  have hpl : ps.length <= N.length := by have := congrArg List.length S.pre; rw [xbl] at this; omega
  obtain ⟨h1, tk, rfl, hk⟩ := x.done
  have noA : ∀ b : Addr, b ∉ (cxOf CX P w K mg base N qual scope f cd A outer s H E).ex := fun b z => xag (show b ∈ ([] : List Addr) from z) (by simp)
  refine ⟨⟨e0.mod, S.kind, rfl, rfl, xad _, fun y z c h1 h2 => ?_, fun y hy => ?_, fun y c _ h => ?_, fun _ => hd, Around.frames_deeper e0.frames, .inr ⟨rfl, rfl⟩, fun b z => xag z (noA b), e0.bs, e0.bsz, fun b _ _ => noA b, fun b z => xag z (noA b), e0.funs, e0.frf⟩,
    rfl, e0.bare, Un.kept hk, ⟨_, x.toInCall.ns, fun i y v h1 h2 h3 => ?_⟩, fun y c h => ⟨_, x.cell y c h⟩, e0.hok.fresh (xad _), fun y c h => ?_, fun p hp => xag (show p ∈ ([] : List (Addr × Obj)) from hp) (by simp), e0.hok.kept hk, ?_⟩
  · exact name_of_addr x.apart (PySem.mem_of_lookup h1) (PySem.mem_of_lookup h2)
  · have hy : scope.names.lookup y = some .cell \/ scope.names.lookup y = some .free := hy
    rcases hy with hy | hy
    · exact cell_has hy
    · exact xag rfl (S.nofree _ (PySem.mem_of_lookup hy))
  · exact xch (x.above y c (PySem.mem_of_lookup h))
  · have hi : i < vs.length := by
      unfold start at h2
      by_cases hi : i < vs.length
      · exact hi
      · rw [xbr (by simpa using hi)] at h2
        rw [xbz] at h2
        split at h2 <;> cases h2
    have ha : vs[i]? = some v := by
      unfold start at h2
      rw [xbc (by simpa using hi), xbd] at h2
      cases e : vs[i]? with
      | none => rw [e] at h2; cases h2
      | some a => rw [e] at h2; cases h2; rfl
    obtain ⟨u, hu, rv⟩ := r.get ha
    have hp : ps[i]? = some y := by
      rw [<- S.pre, List.getElem?_take_of_lt (by omega)]; exact h1
    have ndP : ps.Nodup := by rw [<- S.pre]; exact S.nd.sublist (List.take_sublist _ _)
    refine ⟨u, rv, ?_⟩
    rcases S.par y (xb5 hp) with k | k
    · exact .inl ⟨k, bindL_get ndP hp hu k⟩
    · obtain ⟨c, e⟩ := cell_has (n := s.heap.objs.size + 1) k
      refine .inr ⟨.inl k, c, e, ?_⟩
      have q := x.cell y c e
      rw [bindC_get ndP hp hu (by show scope.names.lookup y ≠ _; rw [k]; decide)] at q
      exact q
  · exact e0.hok.fresh (xch (x.above y c (PySem.mem_of_lookup h)))
  · unfold start
    show _ = N.length
    rw [xar, xao, xba]
    omega
theorem fn_of {CX : CXT} {P : Program} {w : World} {K : xFg} {mg : Str -> Option Value} {base : Heap} {k : Nat} {f : Addr} {name qual : Str} {params : Arguments} {body : List Stmt} {scope : Scope} {dV kV doc pm cdv ct oc : Value} {an od : Option Addr}
    {osl : Array (Option Value)} {N ps : List Str} {sp : Sp} (lk : K.lookup f = some ⟨oc, od, .func (PySem.W.fnOf name qual params body scope dV kV doc pm an cdv ct), osl⟩) (hcd : PySem.W.codeIn K cdv qual = true) (S : FnScope N ps scope)
    (len : ∀ vs H Q E, sp vs H Q E -> vs.length = ps.length)
    (hbody : ∀ (A : Around) (outer : List Env) (s : Shared) (H : Hp) (vs : List V) (Q : VK) (E : XK), Room k (A.deeper (envOfC qual scope s.heap.objs.size f cdv)) -> sp vs H Q E ->
      ∃ t, PSs (cxOf CX P w K mg base N qual scope f cdv A outer s H E) body t /\ t { nx := fun _ H' => Q .non H', rt := Q } (start N vs) H) :
    FnOk P w K mg base CX (k + 1) f (PySem.W.fnOf name qual params body scope dV kV doc pm an cdv ct) ps sp := by
  refine ⟨len, fun A outer s H args us vs Q E hr e0 hb r hsp => ?_⟩
  have hl := len _ _ _ _ hsp
  have KX : K.In s.heap := e0.mod.kin.keeps fun b o e => (e0.bs b o e).1
  have lim : s.heap.NoLimit := e0.mod.nolimit.keeps fun b o e => (e0.bs b o e).1
  have hkind : ∀ y ∈ ps.zip us, scope.names.lookup y.1 = some .local \/ (scope.names.lookup y.1 = some .cell /\ ((cellsFrom (s.heap.objs.size + 1) scope.names []).lookup y.1).isSome = true) := fun ⟨n, v⟩ hy => by
    rcases S.par n (List.of_mem_zip hy).1 with q | q
    · exact .inl q
    · exact .inr ⟨q, PySem.W.cellsFrom_some _ _ _ (.inl q)⟩
  refine codeAny_call_function hr.depth (KX _ _ lk) rfl S.co S.gen rfl (PySem.W.codeRec_of KX hcd) (hb _ _ _ _ ?_)
  refine wpAny_newFunctionEnv_cells S.kind hkind fun env he s1 x => ?_
  subst he
  refine ⟨lim.keeps x.toInCall.keep, codeAny_func ?_⟩
  obtain ⟨t, ht, hq⟩ := hbody A outer s H vs Q E (hr.deeper _) hsp
  have I : Inv (cxOf CX P w K mg base N qual scope f cdv A outer s H E) [] (start N vs) H s1 := inv_start S hr.hd e0 hl r x
  refine wpAny_mono (ht [] s1 (start N vs) H _ I hq) (fun fl s' hs => ?_) fun e s' hs => hs
  have fin : ∀ {O' : St} {H' : Hp} {v : V} {u : Value}, Inv (cxOf CX P w K mg base N qual scope f cdv A outer s H E) [] O' H' s' -> RelV v u -> Q v H' -> CE outer P w H s Q u s' :=
    fun {O' H' v u} J rv q => ⟨v, H', J.os, J.bare, J.base, J.hok, rv, q⟩
  cases fl with
  | ret u =>
    obtain ⟨v, O', H', J, rv, q⟩ := hs
    exact fin J rv q
  | next =>
    obtain ⟨O', H', J, q⟩ := hs
    exact fin (v := V.non) (u := Value.none) J rfl q
  | brk =>
    obtain ⟨_, _, _, q⟩ := hs
    exact False.elim q
  | cont =>
    obtain ⟨_, _, _, q⟩ := hs
    exact False.elim q
end L2
namespace L2
open PySem.Spec PyProof.Rows
section
variable {X : Cx} {x : Str} {p pos : Pos} {e : Expr} {es : List Expr} {t : TA} {id T : String} {r : List V -> Hp -> VK -> Prop}
def tCB (r : List V -> Hp -> VK -> Prop) (t : TA) : TE := fun O H Q => t O H fun vs H1 => r vs H1 Q
theorem pe_callB (hc : CallR X (.builtin id) r) (hg : Gl X x) (hm : X.mg x = none) (hv : bootBuiltins x = some (.builtin id)) (ha : PA X (e :: es) t) (hn : x ≠ "__name__" := by decide) (hdb : (x == ("__debug__" : Str)) = false := by decide)
    (he : starEach (e :: es) X.env = (false, eval e X.env) :: starEach es X.env := by rfl) (hpl : (backTo pos (starEach es X.env)).any (·.1) = false := by rfl) : PE X (.Call (.Name x p) (e :: es) [] pos) (tCB r t) := by
  intro pins s O H Q I h
  refine wpAny_Call_Name_kw (ld_blt I hg hm hv ?_ hn hdb)
  exact PyProof.Rows.callWith_builtin1 (thn (ha pos pins s O H _ I h) fun us s1 ⟨vs, H1, I1, r1, q1⟩ => hc pins s1 O H1 vs us Q I1 r1 q1) he hpl
theorem pe_callTy (hc : CallR X (.type T) r) (hg : Gl X x) (hm : X.mg x = none) (hv : bootBuiltins x = some (.type T)) (ha : PA X (e :: es) t) (hn : x ≠ "__name__" := by decide) (hdb : (x == ("__debug__" : Str)) = false := by decide)
    (he : starEach (e :: es) X.env = (false, eval e X.env) :: starEach es X.env := by rfl) (hpl : (backTo pos (starEach es X.env)).any (·.1) = false := by rfl) : PE X (.Call (.Name x p) (e :: es) [] pos) (tCB r t) := by
  intro pins s O H Q I h
  refine wpAny_Call_Name_kw (ld_blt I hg hm hv ?_ hn hdb)
  exact PyProof.Rows.callWith_type1 (thn (ha pos pins s O H _ I h) fun us s1 ⟨vs, H1, I1, r1, q1⟩ => hc pins s1 O H1 vs us Q I1 r1 q1) he hpl
end
end L2
namespace HT
open PyProof.Rows
section
variable {prog : Program} {w : World} {A : Around} {E : Value -> Shared -> Prop} {s : Shared}
theorem cat_tup {t b : Addr} {vs ws : List Value} {Q : Value -> Shared -> Prop} (ht : IsTup s.heap t vs.toArray) (hb : IsTup s.heap b ws.toArray) (hv : vs ≠ [])
    (h1 : ws = [] -> Q (.ref t) s) (h2 : ws ≠ [] -> Q (.ref s.heap.objs.size) { s with heap := s.heap.push { cls := .type "tuple", data := .seq (vs ++ ws).toArray } })
    (hsz : vs.length + ws.length <= sizeLine) : wpAny (model prog w) A (binaryOp .Add (.ref t) (.ref b)) Q E s := by
  obtain ⟨⟨cls, dd, data, sl⟩, ho, hc, n, hd⟩ := id ht
  obtain ⟨⟨cls2, dd2, data2, sl2⟩, ho2, hc2, n2, hd2⟩ := id hb
  simp only at hc hd hc2 hd2
  subst hc hd hc2 hd2
  have e : vs.toArray ++ ws.toArray = (vs ++ ws).toArray := by simp
  by_cases hw : ws = []
  · exact concat_meets ⟨_, ho, rfl⟩ ⟨_, ho2, rfl⟩ noFill_tuple_add seq_tuple_add PySem.F.slot_tuple_add PySem.F.entry_tuple_add (PySem.F.args_tuple_add_2 _ _)
      (tuple_addW1 t b vs.toArray ws.toArray n n2 dd dd2 sl sl2 (by simpa using hv) (by simp [hw])) ⟨ho, ho2, h1 hw⟩
  · refine concat_meets ⟨_, ho, rfl⟩ ⟨_, ho2, rfl⟩ noFill_tuple_add seq_tuple_add PySem.F.slot_tuple_add PySem.F.entry_tuple_add (PySem.F.args_tuple_add_2 _ _)
      (tuple_addW2 t b vs.toArray ws.toArray n n2 dd dd2 sl sl2 (by simpa using hv) (by simpa using hw) (by rw [xal, xal]; exact hsz)) ⟨ho, ho2, ?_⟩
    rw [e]
    exact h2 hw
def sIx (n d : Nat) : Option Int -> Nat
  | none => d
  | some v => if v < 0 then (v + (n : Int)).toNat else min v.toNat n
theorem sIx_none (n d : Nat) : sIx n d none = d := rfl
theorem sIx_nat (n d k : Nat) : sIx n d (some (k : Int)) = min k n := by
  show (if (k : Int) < 0 then ((k : Int) + (n : Int)).toNat else min (k : Int).toNat n) = min k n
  rw [xap (by omega), xbs]
theorem sIx_le (n d : Nat) (hd : d <= n) (o : Option Int) : sIx n d o <= n := by
  cases o with
  | none => exact hd
  | some v =>
    show (if v < 0 then (v + (n : Int)).toNat else min v.toNat n) <= n
    by_cases hv : v < 0
    · rw [xav hv]; omega
    · rw [xap hv]; exact Nat.min_le_right _ _
theorem clip_eq (v : Int) (n d : Nat) : (if v < 0 then max (v + (n : Int)) 0 else min v (n : Int)) = ((sIx n d (some v) : Nat) : Int) := by
  show (if v < 0 then max (v + (n : Int)) 0 else min v (n : Int)) = (((if v < 0 then (v + (n : Int)).toNat else min v.toNat n) : Nat) : Int)
  by_cases hv : v < 0
  · simp only [xav hv]; omega
  · simp only [xap hv]; omega
theorem adjust_gen (lo hi : Option Int) (n : Nat) : Builtin.Slice.sliceAdjust lo hi 1 (n : Int) = (((sIx n 0 lo : Nat) : Int), ((sIx n n hi : Nat) : Int)) := by
  have h1 : ¬ ((1 : Int) < 0) := by omega
  unfold Builtin.Slice.sliceAdjust
  simp only [h1, if_false]
  refine Prod.ext ?_ ?_
  · cases lo with
    | none => rfl
    | some v => exact clip_eq v n 0
  · cases hi with
    | none => rfl
    | some v => exact clip_eq v n n
theorem places_gen (i j : Nat) : Builtin.Slice.slicePlaces (i : Int) (j : Int) 1 = j - i := by
  unfold Builtin.Slice.slicePlaces
  have h1 : (1 : Int) > 0 := by omega
  simp only [h1, if_true, Int.ediv_one]
  split <;> omega
theorem slicePart_ {v : Value} {o : Option Int} {Q : Option Int -> Shared -> Prop} (p : IsPart v o) (h : Q o s) : wpAny (model prog w) A (Builtin.Slice.slicePartIndex v) Q E s := by
  cases p with
  | none => exact slicePart_none h
  | int i t => exact slicePart_int h
theorem sliceApplied_gen {sl : Addr} {vl vu : Value} {lo hi : Option Int} {n : Nat} {Q : Int × Int × Nat -> Shared -> Prop} (hs : s.heap.IsSliceOf sl vl vu .none) (pl : IsPart vl lo) (pu : IsPart vu hi)
    (h : Q (((sIx n 0 lo : Nat) : Int), 1, sIx n n hi - sIx n 0 lo) s) : wpAny (model prog w) A (Builtin.Slice.sliceApplied (.ref sl) (pure (n : Int))) Q E s := by
  obtain ⟨os, hos, hcs, hds⟩ := id hs
  unfold Builtin.Slice.sliceApplied Builtin.Slice.sliceFields
  refine xaa (xaa (wpAny_field hos hds (x := vl) rfl (xaa (wpAny_field hos hds (x := vu) rfl (xaa (wpAny_field hos hds (x := .none) rfl (xan ?_)))))))
  refine xaa (slicePart_none ?_)
  show wpAny _ _ (if ((1 : Int) == 0) = true then _ else _) _ _ s
  rw [xap (by decide)]
  refine xaa (slicePart_ pl (xaa (slicePart_ pu (xaa (xan ?_)))))
  show wpAny _ _ (match Builtin.Slice.sliceAdjust lo hi 1 (n : Int) with | (lo, hi) => pure (lo, (1 : Int), Builtin.Slice.slicePlaces lo hi 1)) _ _ s
  rw [adjust_gen lo hi n]
  show wpAny _ _ (pure (((sIx n 0 lo : Nat) : Int), (1 : Int), Builtin.Slice.slicePlaces ((sIx n 0 lo : Nat) : Int) ((sIx n n hi : Nat) : Int) 1)) _ _ s
  rw [places_gen]
  exact xan h
theorem pick_gen (xs : Array Value) (i k : Nat) : ((List.range k).filterMap fun (m : Nat) => xs[((i : Int) + (m : Int) * 1).toNat]?).toArray = ((xs.toList.drop i).take k).toArray := by
  have e : (fun (m : Nat) => xs[((i : Int) + (m : Int) * 1).toNat]?) = fun m => xs[i + m]? := by
    funext m
    have : ((i : Int) + (m : Int) * 1).toNat = i + m := by omega
    rw [this]
  rw [e]
  have := pick_run xs i k
  rw [List.filterMap_map] at this
  have e2 : ((fun x => xs[x]?) ∘ fun x => i + x) = fun m => xs[i + m]? := rfl
  rw [e2] at this
  rw [this]
theorem getItem_tuple_cut {t sl : Addr} {items : Array Value} {vl vu : Value} {lo hi : Option Int} {Q : Value -> Shared -> Prop} (ht : IsTup s.heap t items) (hs : s.heap.IsSliceOf sl vl vu .none) (pl : IsPart vl lo) (pu : IsPart vu hi)
    (hw : ¬ (sIx items.size 0 lo = 0 /\ sIx items.size items.size hi = items.size))
    (h : Q (.ref s.heap.objs.size) { s with heap := s.heap.push { cls := .type "tuple", data := .seq ((items.toList.drop (sIx items.size 0 lo)).take (sIx items.size items.size hi - sIx items.size 0 lo)).toArray } })
    (hsz : items.size <= sizeLine) : wpAny (model prog w) A (getItem (.ref t) (.ref sl)) Q E s := by
  have htake : sizeOk (.seq ((items.toList.drop (sIx items.size 0 lo)).take (sIx items.size items.size hi - sIx items.size 0 lo)).toArray) := by
    show ((items.toList.drop (sIx items.size 0 lo)).take (sIx items.size items.size hi - sIx items.size 0 lo)).toArray.size <= sizeLine
    rw [xal, xbl, xcm, xby]
    omega
  have hj : sIx items.size items.size hi <= items.size := sIx_le _ _ (xad _) hi
  obtain ⟨os, hos, hcs, hds⟩ := id hs
  have hTs : s.TypeIs (.ref sl) "slice" := ⟨os, hos, hcs⟩
  unfold getItem
  try with_reducible refine wpAny_holding ?_
  first | refine xaa (xan ?_) | skip
  refine xaa (wpAny_sequenceKey ht.typeIs (by decide) ?_)
  refine xaa (wpAny_callSpecial?_slot (name := Str.ofString "__getitem__") ht.typeIs PyProof.Rows.slot_tuple_getitem
    (wpAny_call_entry PyProof.Rows.slot_tuple_getitem ht.typeIs entry_tuple_getitem ?_ (args_tuple_getitem _ _)))
  show wpAny _ _ (Builtin.Tuple.tupleItemsOf (.ref t) >>= _) _ _ s
  refine xaa (tupleItemsOf_ ht ?_)
  refine xaa (wpAny_typeOf hTs ?_)
  rw [xav (by decide)]
  refine xaa (sliceApplied_gen hs pl pu ?_)
  have hno : ¬ ((((sIx items.size 0 lo : Nat) : Int) == 0 && (1 : Int) == 1 && (sIx items.size items.size hi - sIx items.size 0 lo) == items.size) = true) := by
    intro q
    rw [xay, xay] at q
    have q1 : ((sIx items.size 0 lo : Nat) : Int) = 0 := eq_of_beq q.1.1
    have q2 : sIx items.size items.size hi - sIx items.size 0 lo = items.size := eq_of_beq q.2
    exact hw ⟨by omega, by omega⟩
  show wpAny _ _ (if (((sIx items.size 0 lo : Nat) : Int) == 0 && (1 : Int) == 1 && (sIx items.size items.size hi - sIx items.size 0 lo) == items.size) = true then _ else _) _ _ s
  rw [xap hno, pick_gen]
  first
    | exact xaa (m := Builtin.Tuple.tupleExact _) (wpAny_newObj_type (xan ⟨_, rfl, xan h⟩) htake)
    | exact xaa (m := Builtin.Tuple.tupleExact _) (wpAny_newObj_type (xaa (xan (xan ⟨_, rfl, xan h⟩))) htake)
    | exact xaa (xaa (m := Builtin.Tuple.tupleExact _) (wpAny_newObj_type (xan (xan ⟨_, rfl, xan h⟩)) htake))
    | exact xaa (xaa (m := Builtin.Tuple.tupleExact _) (wpAny_newObj_type (xan ⟨_, rfl, xan h⟩) htake))
end
end HT
namespace L2
open PySem.Spec PyProof.Rows
abbrev TO := St -> Hp -> (Option Int -> Hp -> Prop) -> Prop
def PO (X : Cx) (e : Option Expr) (t : TO) : Prop :=
  ∀ (pins : List (Addr × Obj)) (s : Shared) (O : St) (H : Hp) (Q : Option Int -> Hp -> Prop), Inv X pins O H s -> t O H Q ->
    wpAny (model X.prog X.w) X.A (evalPart e X.env) (fun u s' => ∃ o H', Inv X pins O H' s' /\ IsPart u o /\ Q o H') X.xe s
def tNoPart : TO := fun _ H Q => Q none H
def tPart (t : TE) : TO := fun O H Q => t O H fun x H1 => ∃ i, x = .int i /\ Q (some i) H1
section
variable {X : Cx} {e : Expr} {te : TE} {lo hi : Option Expr} {tl th : TO} {pos p2 : Pos}
theorem po_none : PO X none tNoPart := by
  intro pins s O H Q I h
  rw [evalPart_none]
  exact xan ⟨none, H, I, .none, h⟩
theorem po_some (h : PE X e te) : PO X (some e) (tPart te) := by
  intro pins s O H Q I hw
  rw [evalPart_some]
  refine thn (h pins s O H _ I hw) fun u s1 ⟨x, H1, I1, r1, q1⟩ => ?_
  obtain ⟨i, rfl, q⟩ := q1
  obtain ⟨t, rfl⟩ := r1
  exact ⟨some i, H1, I1, .int i t, q⟩
def SlR (X : Cx) (r : V -> Option Int -> Option Int -> Hp -> VK -> Prop) : Prop :=
  ∀ (pins : List (Addr × Obj)) (s : Shared) (O : St) (H : Hp) (x : V) (v vl vu : Value) (lo hi : Option Int) (sl : Addr) (Q : VK), Inv X pins O H s -> RelV x v -> s.heap.IsSliceOf sl vl vu .none -> IsPart vl lo -> IsPart vu hi -> r x lo hi H Q ->
    ∃ T id, typeLookup (.type T) "__getitem__" = pure (some (.builtin id)) /\ s.TypeIs v T /\ wpAny (model X.prog X.w) X.A (getItem v (.ref sl)) (EP X pins O Q) X.xe s
theorem SlR.or {r r' : V -> Option Int -> Option Int -> Hp -> VK -> Prop} (h : SlR X r) (h' : SlR X r') : SlR X (fun x lo hi H Q => r x lo hi H Q \/ r' x lo hi H Q) := by
  intro pins s O H x v vl vu lo hi sl Q I rx hs pl pu q
  rcases q with q | q
  · exact h pins s O H x v vl vu lo hi sl Q I rx hs pl pu q
  · exact h' pins s O H x v vl vu lo hi sl Q I rx hs pl pu q
def tSl (r : V -> Option Int -> Option Int -> Hp -> VK -> Prop) (te : TE) (tl th : TO) : TE := fun O H Q => te O H fun x H1 => tl O H1 fun l H2 => th O H2 fun u H3 => r x l u H3 Q
theorem pe_slice {r : V -> Option Int -> Option Int -> Hp -> VK -> Prop} (hr : SlR X r) (he : PE X e te) (hl : PO X lo tl) (hu : PO X hi th) : PE X (.Subscript e (.Slice lo hi none p2) pos) (tSl r te tl th) := by
  intro pins s O H Q I h
  refine Subscript_ (thn (he pins s O H _ I h) fun v s1 ⟨x, H1, I1, r1, q1⟩ => ?_)
  refine wpAny_Slice (thn (hl pins s1 O H1 _ I1 q1) fun vl s2 ⟨l, H2, I2, pl, q2⟩ => thn (hu pins s2 O H2 _ I2 q2) fun vu s3 ⟨u, H3, I3, pu, q3⟩ => ?_)
  rw [evalPart_none]
  refine xan ?_
  have I4 : Inv X pins O H3 { s3 with heap := s3.heap.push { cls := .type "slice", data := .fields #[vl, vu, .none] } } := I3.kept (t' := s3.toks) fun b ob q => xab _ q
  obtain ⟨T, id, hT, ht, hg⟩ := hr pins { s3 with heap := s3.heap.push { cls := .type "slice", data := .fields #[vl, vu, .none] } } O H3 x v vl vu l u s3.heap.objs.size Q I4 r1 (Heap.IsSliceOf.new ..) pl pu q3
  show wpAny (model X.prog X.w) X.A (subscriptTail e (.Slice lo hi none p2) v (.ref s3.heap.objs.size)) (EP X pins O Q) X.xe { s3 with heap := s3.heap.push { cls := .type "slice", data := .fields #[vl, vu, .none] } }
  exact tail_any (ops := [.ref s3.heap.objs.size, v]) ht hT hg (by with_unfolding_all rfl)
def cutV (xs : List V) (lo hi : Option Int) : List V := (xs.drop (HT.sIx xs.length 0 lo)).take (HT.sIx xs.length xs.length hi - HT.sIx xs.length 0 lo)
theorem cutV_length (xs : List V) (lo hi : Option Int) : (cutV xs lo hi).length <= xs.length := by
  unfold cutV
  rw [xbl, xcm]
  omega
def rSlT (K : xFg) : V -> Option Int -> Option Int -> Hp -> VK -> Prop := fun x lo hi H Q => ∃ a xs, x = .ref a /\ SqT K H a xs /\
  ¬ (HT.sIx xs.length 0 lo = 0 /\ HT.sIx xs.length xs.length hi = xs.length) /\ ∀ p, H p = none -> Q (.ref p) (upd H p (.tup (cutV xs lo hi)))
theorem sl_tup : SlR X (rSlT X.K) := by
  intro pins s O H x v vl vu lo hi sl Q I rx hs pl pu h
  obtain ⟨a, xs, rfl, hx, hw, q⟩ := h
  cases rx
  obtain ⟨its, r, ht, hz⟩ := I.tuple hx
  have hlen : its.toArray.size = xs.length := by rw [xal]; exact r.length.symm
  refine ⟨"tuple", _, PyProof.Rows.slot_tuple_getitem.lookup, ht.typeIs, ?_⟩
  refine HT.getItem_tuple_cut ht hs pl pu (by rw [hlen]; exact hw) ?_ (by rw [hlen]; exact hz)
  rw [hlen]
  refine ⟨.ref s.heap.objs.size, _, I.laid (t' := s.toks) (o := .tup (cutV xs lo hi)) (fun b ob q => xab _ q) (xad _) ?_, rfl, q _ (I.hok.fresh (xad _))⟩
  exact ⟨xax (cutV_length xs lo hi) hz, _, (r.drop (HT.sIx xs.length 0 lo)).take (HT.sIx xs.length xs.length hi - HT.sIx xs.length 0 lo), TupN.new _ _⟩
def rCatT (K : xFg) : R2 := fun x y H Q => ∃ a b xs ys, x = .ref a /\ y = .ref b /\ SqT K H a xs /\ SqT K H b ys /\ xs ≠ [] /\ xs.length + ys.length <= sizeLine /\
  (ys = [] -> Q (.ref a) H) /\ (ys ≠ [] -> ∀ p, H p = none -> Q (.ref p) (upd H p (.tup (xs ++ ys))))
theorem Vals.nil_iff {xs : List V} {us : List Value} (r : Vals xs us) : us = [] ↔ xs = [] := by
  cases r with
  | nil => simp
  | cons _ _ => simp
theorem op_catT : OpR X (binaryOp .Add) (rCatT X.K) := by
  intro pins s O H x y v u Q I rx ry h
  obtain ⟨a, b, xs, ys, rfl, rfl, ha, hb, hx, hz, q1, q2⟩ := h
  cases rx
  cases ry
  obtain ⟨its, r1, p1, _⟩ := I.tuple ha
  obtain ⟨its2, r2, p2, _⟩ := I.tuple hb
  refine HT.cat_tup p1 p2 (fun z => hx (r1.nil_iff.mp z)) (fun z => ⟨.ref a, H, I, rfl, q1 (r2.nil_iff.mp z)⟩) (fun z => ?_) (by rw [<- r1.length, <- r2.length]; exact hz)
  refine ⟨.ref s.heap.objs.size, _, I.laid (t' := s.toks) (o := .tup (xs ++ ys)) (fun b ob q => xab _ q) (xad _) ?_, rfl, q2 (fun w => z (r2.nil_iff.mpr w)) _ (I.hok.fresh (xad _))⟩
  exact ⟨by rw [xar]; exact hz, _, r1.append r2, TupN.new _ _⟩
end
end L2
namespace L2
open PySem.Spec PyProof.Rows
def ixN (n : Nat) (i : Int) : Option Nat := if 0 <= i then (if i < n then some i.toNat else none) else if -(n : Int) <= i then some (i + n).toNat else none
def atI {α : Type} (xs : List α) (i : Int) : Option α := (ixN xs.length i).bind fun j => xs[j]?
theorem ixN_seq {n : Nat} {i : Int} {j : Nat} (h : ixN n i = some j) : seqIndex? i n = some j /\ j < n /\ -(n : Int) <= i /\ i < n := by
  unfold ixN at h
  by_cases h0 : 0 <= i
  · rw [xav h0] at h
    by_cases h1 : i < n
    · rw [xav h1] at h
      have e : i.toNat = j := xa4 h
      exact ⟨by rw [seqIndex_of h0 h1, e], by omega, by omega, h1⟩
    · rw [xap h1] at h; cases h
  · rw [xap h0] at h
    by_cases h1 : -(n : Int) <= i
    · rw [xav h1] at h
      have e : (i + n).toNat = j := xa4 h
      exact ⟨by rw [seqIndex_neg (by omega) h1, e], by omega, h1, by omega⟩
    · rw [xap h1] at h; cases h
theorem atI_get {α : Type} {xs : List α} {i : Int} {v : α} (h : atI xs i = some v) : ∃ j, seqIndex? i xs.length = some j /\ xs[j]? = some v /\ j < xs.length /\ -(xs.length : Int) <= i /\ i < xs.length := by
  unfold atI at h
  cases e : ixN xs.length i with
  | none => rw [e] at h; cases h
  | some j =>
    rw [e] at h
    obtain ⟨h1, h2, h3, h4⟩ := ixN_seq e
    exact ⟨j, h1, h, h2, h3, h4⟩
theorem atI_nat {α : Type} {xs : List α} {j : Nat} {v : α} (h : xs[j]? = some v) : atI xs (j : Int) = some v := by
  have hj : j < xs.length := (xae.mp h).1
  have e : ixN xs.length (j : Int) = some j := by
    unfold ixN
    rw [xav (by omega), xav (by omega)]; simp
  unfold atI; rw [e]; exact h
theorem atI_last {α : Type} (xs : List α) (v : α) : atI (xs ++ [v]) (-1) = some v := by
  have hl : (xs ++ [v]).length = xs.length + 1 := by simp
  have e : ixN (xs ++ [v]).length (-1) = some xs.length := by
    unfold ixN
    rw [hl, xap (by decide), xav (by omega)]
    congr 1
    omega
  unfold atI
  rw [e]
  show (xs ++ [v])[xs.length]? = some v
  simp
def PlainIx (b : Expr) : Prop := ∀ o i, subscripted b false o i = operate [o, i] (getItem o i)
def IxR (X : Cx) (r : R2) : Prop :=
  ∀ (value slice : Expr) (pins : List (Addr × Obj)) (s : Shared) (O : St) (H : Hp) (x y : V) (v u : Value) (Q : VK), Inv X pins O H s -> RelV x v -> RelV y u -> r x y H Q ->
    subscripted slice false v u = operate [v, u] (getItem v u) -> wpAny (model X.prog X.w) X.A (subscriptTail value slice v u) (EP X pins O Q) X.xe s
def MtR (X : Cx) (id : String) (r : V -> List V -> Hp -> VK -> Prop) : Prop :=
  ∀ (pins : List (Addr × Obj)) (s : Shared) (O : St) (H : Hp) (x : V) (xs : List V) (v : Value) (us : List Value) (Q : VK), Inv X pins O H s -> RelV x v -> Vals xs us -> r x xs H Q ->
    wpAny (model X.prog X.w) X.A (call (.builtin id) (v :: us)) (EP X pins O Q) X.xe s
section
variable {X : Cx} {a b : Expr} {ta tb : TE} {pos : Pos}
theorem IxR.or {r r' : R2} (h : IxR X r) (h' : IxR X r') : IxR X (fun x y H Q => r x y H Q \/ r' x y H Q) := by
  intro value slice pins s O H x y v u Q I rx ry q hs
  rcases q with q | q
  · exact h value slice pins s O H x y v u Q I rx ry q hs
  · exact h' value slice pins s O H x y v u Q I rx ry q hs
theorem pe_ix {r : R2} (hr : IxR X r) (ha : PE X a ta) (hb : PE X b tb) (hs : PlainIx b) : PE X (.Subscript a b pos) (tOp r ta tb) := by
  intro pins s O H Q I h
  exact Subscript_ (binT ha hb I h fun v u s2 x y H2 I2 rx ry q => hr a b pins s2 O H2 x y v u Q I2 rx ry q (hs _ _))
def rIxL (K : xFg) : R2 := fun x y H Q => ∃ p xs i v, x = .ref p /\ y = .int i /\ SqL K H p xs /\ atI xs i = some v /\ Q v H
def rIxT (K : xFg) : R2 := fun x y H Q => ∃ p xs i v, x = .ref p /\ y = .int i /\ SqT K H p xs /\ atI xs i = some v /\ Q v H
def rIxS : R2 := fun x y H Q => ∃ z i c, x = .str z /\ y = .int i /\ z.length <= sizeLine /\ atI z.cps.toList i = some c /\ Q (.str ⟨#[c]⟩) H
theorem ix_list : IxR X (rIxL X.K) := by
  intro value slice pins s O H x y v u Q I rx ry h hs
  obtain ⟨p, xs, i, z, rfl, rfl, hq, he, q⟩ := h
  cases rx
  obtain ⟨t, rfl⟩ := ry
  obtain ⟨its, r, pl, hz⟩ := I.list hq
  obtain ⟨j, h1, h2, h3, h4, h5⟩ := atI_get he
  obtain ⟨w, ew, rw'⟩ := r.get h2
  have hl := r.length
  have hn := line63
  have fin : EP X pins O Q w s := ⟨z, H, I, rw', q⟩
  by_cases h0 : 0 <= i
  · have hj : i.toNat = j := by
      rw [seqIndex_of h0 h5] at h1
      exact xa4 h1
    exact item_listR pl.isList h0 (by omega) (by rw [hj]; simpa using ew) fin hs
  · have hj : (i + (its.toArray.size : Int)).toNat = j := by
      rw [seqIndex_neg (by omega) h4] at h1
      rw [xal, <- hl]
      exact xa4 h1
    exact subscriptTail_builtinR (x := w) pl.isList.typeIs slot_list_getitem.lookup
      (wpAny_getItem_list_neg (Q := fun r s' => r = w /\ EP X pins O Q r s') pl.isList (by omega) (by rw [xal] <;> omega) (by omega) (by rw [hj]; simpa using ew) ⟨rfl, fin⟩) hs
theorem ix_tup : IxR X (rIxT X.K) := by
  intro value slice pins s O H x y v u Q I rx ry h hs
  obtain ⟨p, xs, i, z, rfl, rfl, hq, he, q⟩ := h
  cases rx
  obtain ⟨t, rfl⟩ := ry
  obtain ⟨its, r, pl, hz⟩ := I.tuple hq
  obtain ⟨j, h1, h2, h3, h4, h5⟩ := atI_get he
  obtain ⟨w, ew, rw'⟩ := r.get h2
  have hl := r.length
  have hn := line63
  have fin : EP X pins O Q w s := ⟨z, H, I, rw', q⟩
  exact subscriptTail_builtinR (x := w) pl.typeIs slot_tuple_getitem.lookup
    (getItem_tuple (j := j) (Q := fun r s' => r = w /\ EP X pins O Q r s') pl (by omega) (by omega) (by rw [xal, <- hl]; exact h1) (by simpa using ew) ⟨rfl, fin⟩) hs
theorem slice_bounds (lo hi : Option Int) (n : Nat) : (sliceBounds lo hi none n).1 = ((HT.sIx n 0 lo : Nat) : Int) /\ (sliceBounds lo hi none n).2.1 = ((HT.sIx n n hi : Nat) : Int) /\ (sliceBounds lo hi none n).2.2 = 1 := by
  refine ⟨?_, ?_, rfl⟩
  · cases lo with
    | none => simp [sliceBounds, HT.sIx]
    | some i =>
      simp only [sliceBounds, HT.sIx, Option.getD_none, show (1 : Int) > 0 by decide, if_true]
      by_cases h : i < 0
      · simp only [h, if_true] <;> omega
      · simp only [h, if_false] <;> omega
  · cases hi with
    | none => simp [sliceBounds, HT.sIx]
    | some i =>
      simp only [sliceBounds, HT.sIx, Option.getD_none, show (1 : Int) > 0 by decide, if_true]
      by_cases h : i < 0
      · simp only [h, if_true] <;> omega
      · simp only [h, if_false] <;> omega
theorem slicePick_cut (its : List Value) (lo hi : Option Int) : slicePick its.toArray lo hi none = ((its.drop (HT.sIx its.length 0 lo)).take (HT.sIx its.length its.length hi - HT.sIx its.length 0 lo)).toArray := by
  obtain ⟨h1, h2, h3⟩ := slice_bounds lo hi its.toArray.size
  unfold slicePick
  rw [h1, h2, h3]
  simp only [sliceRange_one, pick_run, xal] <;> rfl
def rSlL (K : xFg) : V -> Option Int -> Option Int -> Hp -> VK -> Prop := fun x lo hi H Q => ∃ a xs, x = .ref a /\ SqL K H a xs /\ ∀ p, H p = none -> Q (.ref p) (upd H p (.lst (cutV xs lo hi)))
theorem sl_list : SlR X (rSlL X.K) := by
  intro pins s O H x v vl vu lo hi sl Q I rx hs pl pu h
  obtain ⟨a, xs, rfl, hx, q⟩ := h
  cases rx
  obtain ⟨its, r, ht, hz⟩ := I.list hx
  have hlen := r.length
  refine ⟨"list", _, slot_list_getitem.lookup, ht.isList.typeIs, ?_⟩
  refine wpAny_getItem_list_slice ht.isList hs pl pu .none (by simp) ?_ (by rw [xal] <;> omega)
  rw [slicePick_cut, <- hlen]
  refine ⟨.ref s.heap.objs.size, _, I.laid (t' := s.toks) (o := .lst (cutV xs lo hi)) (fun b ob q => xab _ q) (xad _) ?_, rfl, q _ (I.hok.fresh (xad _))⟩
  exact ⟨xax (cutV_length xs lo hi) hz, _, 0, (r.drop (HT.sIx xs.length 0 lo)).take (HT.sIx xs.length xs.length hi - HT.sIx xs.length 0 lo), xau _ rfl⟩
def flatV : V -> Bool
  | .non => true
  | .bl _ => true
  | .int _ => true
  | .str _ => true
  | _ => false
def eqV : V -> V -> Bool
  | .non, .non => true
  | .bl a, .bl b => a == b
  | .bl a, .int b => (if a then 1 else 0) == b
  | .int a, .bl b => a == (if b then 1 else 0)
  | .int a, .int b => a == b
  | .str a, .str b => a == b
  | _, _ => false
theorem eqAt_V {A : Around} {s : Shared} {y x : V} {u v : Value} (ry : RelV y u) (rx : RelV x v) (fy : flatV y = true) (fx : flatV x = true) : SeqAt.EqAt A s u v (eqV y x) := by
  cases y with
  | non =>
    cases ry
    cases x with
    | non => cases rx; exact SeqAt.EqAt.same _
    | bl b => cases rx; exact SeqAt.EqAt.none_bool b
    | int b => obtain ⟨t, rfl⟩ := rx; exact SeqAt.EqAt.none_int b t
    | str b => obtain ⟨t, rfl⟩ := rx; exact SeqAt.EqAt.none_str b t
    | _ => exact xag (show false = true from fx) xaw
  | bl a =>
    cases ry
    cases x with
    | non => cases rx; exact SeqAt.EqAt.bool_none a
    | bl b => cases rx; exact SeqAt.EqAt.bool_bool a b
    | int b => obtain ⟨t, rfl⟩ := rx; exact SeqAt.EqAt.bool_int a b t
    | str b => obtain ⟨t, rfl⟩ := rx; exact SeqAt.EqAt.bool_str a b t
    | _ => exact xag (show false = true from fx) xaw
  | int a =>
    obtain ⟨t', rfl⟩ := ry
    cases x with
    | non => cases rx; exact SeqAt.EqAt.int_none a t'
    | bl b => cases rx; exact SeqAt.EqAt.int_bool a t' b
    | int b => obtain ⟨t, rfl⟩ := rx; exact SeqAt.EqAt.int_int a t' b t
    | str b => obtain ⟨t, rfl⟩ := rx; exact SeqAt.EqAt.int_str a t' b t
    | _ => exact xag (show false = true from fx) xaw
  | str a =>
    obtain ⟨t', rfl⟩ := ry
    cases x with
    | non => cases rx; exact SeqAt.EqAt.str_none a t'
    | bl b => cases rx; exact SeqAt.EqAt.str_bool a t' b
    | int b => obtain ⟨t, rfl⟩ := rx; exact SeqAt.EqAt.str_int a t' b t
    | str b => obtain ⟨t, rfl⟩ := rx; exact SeqAt.EqAt.str_str a t' b t
    | _ => exact xag (show false = true from fx) xaw
  | _ => exact xag (show false = true from fy) xaw
theorem op_notIn_str : OpR X (compareOp .NotIn) (fun x y H Q => ∃ i j, x = .str i /\ y = .str j /\ Q (.bl (!(!(Builtin.Str.occurrences j i 0 j.length 1).isEmpty))) H) := by
  intro pins s O H x y v u Q I rx ry h
  obtain ⟨i, j, rfl, rfl, q⟩ := h
  obtain ⟨t, rfl⟩ := rx
  obtain ⟨t', rfl⟩ := ry
  exact notIn_str ⟨.bl _, H, I, rfl, q⟩
theorem call_len_seq : CallR X (.builtin "len") (fun xs H Q => ∃ p ys, xs = [.ref p] /\ (SqL X.K H p ys \/ SqT X.K H p ys) /\ Q (.int ys.length) H) := by
  intro pins s O H xs us Q I r h
  obtain ⟨p, ys, rfl, hq, q⟩ := h
  obtain ⟨u, rfl, rx⟩ := vals1 r
  cases rx
  have hn := line63
  rcases hq with hq | hq
  · obtain ⟨its, r', pl, hz⟩ := I.list hq
    have hlen := r'.length
    exact Calls.call_len_list pl.isList (by simp only [xal] <;> omega) ⟨.int ys.length, H, I.tok _, ⟨s.toks + 1, by rw [xal, hlen]⟩, q⟩
  · obtain ⟨its, r', pl, hz⟩ := I.tuple hq
    have hlen := r'.length
    exact len_tuple pl (by simp only [xal] <;> omega) ⟨.int ys.length, H, I.tok _, ⟨s.toks + 1, by rw [xal, hlen]⟩, q⟩
theorem call_len_str : CallR X (.builtin "len") (fun xs H Q => ∃ z, xs = [.str z] /\ z.length <= sizeLine /\ Q (.int z.length) H) := by
  intro pins s O H xs us Q I r h
  obtain ⟨z, rfl, hz, q⟩ := h
  obtain ⟨u, rfl, t, rfl⟩ := vals1 r
  have hn := line63
  exact len_str (by omega) ⟨.int z.length, H, I.tok _, ⟨_, rfl⟩, q⟩
theorem CallR.or {f : Value} {r r' : List V -> Hp -> VK -> Prop} (h : CallR X f r) (h' : CallR X f r') : CallR X f (fun xs H Q => r xs H Q \/ r' xs H Q) := by
  intro pins s O H xs us Q I rs q
  rcases q with q | q
  · exact h pins s O H xs us Q I rs q
  · exact h' pins s O H xs us Q I rs q
def tyV (K : xFg) (T : String) (x : V) (H : Hp) : Prop := match x with
  | .str _ => T = "str"
  | .int _ => T = "int"
  | .ref p => (T = "list" /\ ∃ xs, SqL K H p xs) \/ (T = "tuple" /\ ∃ xs, SqT K H p xs) \/
      (T = "dict" /\ ((∃ kvs, H p = some (.dK kvs)) \/ ∃ kvs, H p = some (.dT kvs))) \/ (T = "set" /\ ∃ S n, H p = some (.set S n))
  | _ => False
theorem tyV_is {pins : List (Addr × Obj)} {O : St} {H : Hp} {s : Shared} {T : String} {x : V} {v : Value} (I : Inv X pins O H s) (r : RelV x v) (ty : tyV X.K T x H) :
    s.TypeIs v T /\ ∀ a, v = .ref a -> ∃ ob, s.heap.get? a = some ob /\ ob.dict = none := by
  cases x with
  | str z =>
    obtain ⟨t, rfl⟩ := r
    cases (show T = "str" from ty)
    exact ⟨typeIs_str s z t, fun _ e => nomatch e⟩
  | int i =>
    obtain ⟨t, rfl⟩ := r
    cases (show T = "int" from ty)
    exact ⟨typeIs_int s i t, fun _ e => nomatch e⟩
  | ref p =>
    cases r
    rcases ty with ⟨rfl, xs, hq⟩ | ⟨rfl, xs, hq⟩ | ⟨rfl, hk⟩ | ⟨rfl, S, n, hk⟩
    · obtain ⟨its, _, pl, _⟩ := I.list hq
      refine ⟨pl.isList.typeIs, fun a e => ?_⟩
      cases e
      obtain ⟨o, n, e, c, hd, _⟩ := pl
      exact ⟨o, e, hd⟩
    · obtain ⟨its, _, ⟨o, e1, hc, _, hd⟩, _⟩ := I.tupN hq
      refine ⟨⟨o, e1, hc⟩, fun a e => ?_⟩
      cases e
      exact ⟨o, e1, hd⟩
    · have z : ∃ o, s.heap.get? p = some o /\ o.ExactDict := by
        rcases hk with ⟨kvs, hk⟩ | ⟨kvs, hk⟩
        · obtain ⟨_, _, _, _, o, _, _, e, ex, _⟩ := I.hok p _ hk
          exact ⟨o, e, ex⟩
        · obtain ⟨_, _, _, _, o, _, _, e, ex, _⟩ := I.hok p _ hk
          exact ⟨o, e, ex⟩
      obtain ⟨o, e, ex⟩ := z
      refine ⟨⟨o, e, ex.1⟩, fun a e2 => ?_⟩
      cases e2
      exact ⟨o, e, ex.2.1⟩
    · obtain ⟨o, _, _, _, e, ex, _⟩ := I.hok p _ hk
      refine ⟨⟨o, e, ex.1⟩, fun a e2 => ?_⟩
      cases e2
      exact ⟨o, e, ex.2.1⟩
  | _ => exact False.elim ty
def tBM0 (K : xFg) (T : String) (r : V -> List V -> Hp -> VK -> Prop) (to : TE) : TE := fun O H Q => to O H fun x H1 => tyV K T x H1 /\ r x [] H1 Q
def tBM (K : xFg) (T : String) (r : V -> List V -> Hp -> VK -> Prop) (to : TE) (t : TA) : TE := fun O H Q => to O H fun x H1 => tyV K T x H1 /\ t O H1 fun xs H2 => r x xs H2 Q
variable {o e : Expr} {es : List Expr} {to : TE} {t : TA} {name : Str} {apos cpos : Pos} {T id : String} {r : V -> List V -> Hp -> VK -> Prop}
theorem pe_bm0 (pa : PlainAttrs T) (slot : Slot T name id) (hty : typeOf (.builtin id) = pure (.type "method_descriptor")) (hm : MtR X id r) (ho : PE X o to)
    (hbase : attributeBase o name X.env (eval o X.env) = eval o X.env := by rfl) (hline : (apos.endLine == cpos.line) = true := by rfl) : PE X (.Call (.Attribute o name apos) [] [] cpos) (tBM0 X.K T r to) := by
  intro pins s O H Q I h
  refine wpAny_Call_method0_late hbase hline (thn (ho pins s O H _ I h) fun v s1 ⟨x, H1, I1, r1, ty, q1⟩ => ?_)
  obtain ⟨h1, h2⟩ := tyV_is I1 r1 ty
  exact ⟨T, id, pa, slot, hty, h1, h2, Calls.callWith_builtin rfl (PySem.evalArgs_none (hm pins s1 O H1 x [] v [] Q I1 r1 .nil q1))⟩
theorem pe_bm (pa : PlainAttrs T) (slot : Slot T name id) (hty : typeOf (.builtin id) = pure (.type "method_descriptor")) (hm : MtR X id r) (ho : PE X o to) (ha : PA X (e :: es) t)
    (hbase : attributeBase o name X.env (eval o X.env) = eval o X.env := by rfl)
    (hfew : ((backTo cpos (starEach (e :: es) X.env)).all (fun x => !x.1) && (backToKw cpos (keywordEach [] X.env)).all (fun x => x.1.isSome)
      && decide ((e :: es).length + ([] : List Keyword).length + (if ([] : List Keyword).isEmpty then 0 else 1) < 30)) = true := by rfl)
    (hline : (apos.endLine == cpos.line) = true := by rfl) (hs : starEach (e :: es) X.env = (false, eval e X.env) :: starEach es X.env := by rfl) (hplain : (backTo cpos (starEach es X.env)).any (·.1) = false := by rfl) :
    PE X (.Call (.Attribute o name apos) (e :: es) [] cpos) (tBM X.K T r to t) := by
  intro pins s O H Q I h
  refine wpAny_Call_method_late hbase hfew hline rfl (thn (ho pins s O H _ I h) fun v s1 ⟨x, H1, I1, r1, ty, q1⟩ => ?_)
  obtain ⟨h1, h2⟩ := tyV_is I1 r1 ty
  refine ⟨T, id, pa, slot, hty, h1, h2, ?_⟩
  have hA := ha cpos pins s1 O H1 _ I1 q1
  rw [hs] at hA ⊢
  refine Calls.callWith_builtin (by show (false || (backTo cpos (starEach es X.env)).any (·.1)) = false; rw [hplain] <;> rfl) (Calls.evalArgs_plain ?_)
  exact thn hA fun us s2 ⟨vs, H2, I2, r2, q2⟩ => hm pins s2 O H2 x vs v us Q I2 r1 r2 q2
end
end L2
namespace L2
open PySem.Spec PyProof.Rows
def MtM (X : Cx) (id : String) (r : V -> List V -> Hp -> VK -> Prop) : Prop :=
  ∀ (pins : List (Addr × Obj)) (s : Shared) (O : St) (H : Hp) (x : V) (xs : List V) (v : Value) (us : List Value) (Q : VK), Inv X pins O H s -> RelV x v -> Vals xs us -> r x xs H Q ->
    wpAny (model X.prog X.w) X.A (call (.builtin id) (v :: us)) (EP X pins O Q) X.xe s
theorem Vals.one : ∀ {x : V} {us : List Value}, Vals [x] us -> ∃ u, us = [u] /\ RelV x u
  | _, _, .cons r .nil => ⟨_, rfl, r⟩
theorem Vals.zero : ∀ {us : List Value}, Vals [] us -> us = []
  | _, .nil => rfl
theorem Vals.dropLast {xs : List V} {us : List Value} (h : Vals xs us) : Vals xs.dropLast us.dropLast := by
  induction h with
  | nil => exact .nil
  | cons r t ih =>
    cases t with
    | nil => exact .nil
    | cons q t' => exact .cons r ih
theorem Vals.rep {xs : List V} {us : List Value} (h : Vals xs us) : ∀ k : Nat, Vals (List.replicate k xs).flatten (List.replicate k us).flatten
  | 0 => .nil
  | k + 1 => by
    rw [xa9, xa9, xbt, xbt]
    exact Vals.append h (Vals.rep h k)
theorem erase_last {α : Type} (l : List α) : l.eraseIdx (l.length - 1) = l.dropLast := by
  induction l with
  | nil => rfl
  | cons a r ih =>
    cases r with
    | nil => rfl
    | cons b r =>
      have e : (a :: b :: r).length - 1 = ((b :: r).length - 1) + 1 := by
        have h1 : (a :: b :: r).length = r.length + 2 := rfl
        have h2 : (b :: r).length = r.length + 1 := rfl
        omega
      rw [e, List.eraseIdx_cons_succ, ih]
      all_goals rfl
theorem foldl_rep (its : List Value) : ∀ (k : Nat) (acc : List Value),
    List.foldl (fun x1 x2 => x1 ++ x2) acc.toArray (List.replicate k its.toArray) = (acc ++ (List.replicate k its).flatten).toArray
  | 0, acc => by simp
  | k + 1, acc => by
    have e : acc.toArray ++ its.toArray = (acc ++ its).toArray := by simp
    have e2 : (acc ++ its) ++ (List.replicate k its).flatten = acc ++ (List.replicate (k + 1) its).flatten := by
      rw [xa9, xbt, xa7]
    rw [<- e2, <- foldl_rep its k (acc ++ its), <- e, xa9, xcf]
section
variable {X : Cx} {pins : List (Addr × Obj)} {O : St} {H : Hp} {s : Shared} {l b : Addr} {xs ys zs : List V}
theorem Inv.lset {its its' : List Value} {n : Nat} {f : Array Value -> Array Value} {t' : Nat} (I : Inv X pins O H s) (hH : H l = some (.lst xs))
    (e : s.heap.get? l = some { cls := .type "list", data := .seq its.toArray n }) (hf : f its.toArray = its'.toArray) (hv : Vals ys its') (hz : ys.length <= sizeLine) :
    Inv X pins O (upd H l (.lst ys)) { s with heap := s.heap.update l (Obj.mapSeq f), toks := t' } := by
  have q := PySem.IsL.update e f
  rw [hf] at q
  refine I.write (x := l) (e := l) (by rw [hH]; exact trivial) (.inl rfl) (fun b' u hb hu => (xbg s.heap (Obj.mapSeq f) (xa3 hb)).trans hu) ⟨_, q⟩ ?_
  exact ⟨hz, its', _, hv, q⟩
theorem Inv.lnew {its : List Value} {t' : Nat} (I : Inv X pins O H s) (hv : Vals ys its) (hz : ys.length <= sizeLine) :
    Inv X pins O (upd H s.heap.objs.size (.lst ys)) { s with heap := s.heap.push { cls := .type "list", data := .seq its.toArray }, toks := t' } :=
  I.laid (fun _ _ q => xab _ q) (xad _) ⟨hz, its, 0, hv, xau _ rfl⟩
theorem Inv.fresh (I : Inv X pins O H s) : H s.heap.objs.size = none := I.hok.fresh (xad _)
theorem Inv.lstM (I : Inv X pins O H s) (hH : H l = some (.lst xs)) : xs.length <= sizeLine /\ ∃ (its : List Value) (n : Nat), Vals xs its /\ xs.length = its.length /\ s.heap.get? l = some { cls := .type "list", data := .seq its.toArray n } := by
  obtain ⟨z, its, n, r, e⟩ := I.hok l _ hH
  exact ⟨z, its, n, r, r.length, e⟩
theorem notLongL {n : Nat} (h : n <= sizeLine) : Builtin.List.listTooLong n = false := by
  unfold Builtin.List.listTooLong
  exact xat (by omega)
end
section
variable {X : Cx}
def rAppend : V -> List V -> Hp -> VK -> Prop := fun x vs H Q => ∃ l xs y, x = .ref l /\ vs = [y] /\ H l = some (.lst xs) /\ xs.length < sizeLine /\ Q .non (upd H l (.lst (xs ++ [y])))
theorem mt_append : MtM X "list.append" rAppend := by
  intro pins s O H x vs v us Q I rx rv h
  obtain ⟨l, xs, y, rfl, rfl, hH, hz, q⟩ := h
  cases rx
  obtain ⟨u, rfl, ru⟩ := rv.one
  obtain ⟨z, its, n, r, hl, e⟩ := I.lstM hH
  refine call_meets F.slot_list_append ⟨_, e, rfl⟩ F.entry_list_append (F.args_list_append_2 _ _) (PySem.list_append l its.toArray n u (by rw [xal]; omega)) ⟨e, ?_⟩
  refine ⟨.non, _, I.lset (its' := its ++ [u]) hH e (by simp) (r.append (.cons ru .nil)) ?_, rfl, q⟩
  rw [xar, List.length_singleton]
  omega
def rPop : V -> List V -> Hp -> VK -> Prop := fun x vs H Q => ∃ l xs y, x = .ref l /\ vs = [] /\ H l = some (.lst xs) /\ xs[xs.length - 1]? = some y /\ Q y (upd H l (.lst xs.dropLast))
theorem mt_pop : MtM X "list.pop" rPop := by
  intro pins s O H x vs v us Q I rx rv h
  obtain ⟨l, xs, y, rfl, rfl, hH, hy, q⟩ := h
  cases rx
  have hus := rv.zero
  subst hus
  obtain ⟨z, its, n, r, hl, e⟩ := I.lstM hH
  obtain ⟨u, hu, ru⟩ := r.get hy
  have hy' : its.toArray[its.toArray.size - 1]? = some u := by
    show its.toArray[its.length - 1]? = some u
    rw [<- Array.getElem?_toList, <- hl]
    exact hu
  refine call_meets F.slot_list_pop ⟨_, e, rfl⟩ F.entry_list_pop (F.args_list_pop_1 _) (MeetsSeq.list_pop_last l its.toArray n u hy' (by rw [xal]; omega)) ⟨e, ?_⟩
  refine ⟨y, _, I.lset (its' := its.dropLast) hH e ?_ r.dropLast ?_, ru, q⟩
  · show its.toArray.eraseIdxIfInBounds (its.toArray.size - 1) = its.dropLast.toArray
    rw [xal, List.eraseIdxIfInBounds_toArray, erase_last]
  · rw [List.length_dropLast]
    omega
def rRep : R2 := fun x y H Q => ∃ l k xs, x = .ref l /\ y = .int k /\ H l = some (.lst xs) /\ -(2 ^ 63) <= k /\ k < 2 ^ 63 /\ xs.length * k.toNat <= sizeLine /\
  ∀ p, H p = none -> Q (.ref p) (upd H p (.lst (List.replicate k.toNat xs).flatten))
theorem len_rep {α : Type} (xs : List α) (k : Nat) : (List.replicate k xs).flatten.length = k * xs.length := by
  induction k with
  | zero => simp
  | succ k ih => rw [xa9, xbt, xar, ih, Nat.succ_mul, Nat.add_comm]
theorem op_rep : OpR X (binaryOp .Mult) rRep := by
  intro pins s O H x y v u Q I rx ry h
  obtain ⟨l, k, xs, rfl, rfl, hH, h1, h2, hz, q⟩ := h
  cases rx
  obtain ⟨t, rfl⟩ := ry
  obtain ⟨z, its, n, r, hl, e⟩ := I.lstM hH
  have hlen : its.toArray.size * k.toNat <= sizeLine := by rw [xal, <- hl]; exact hz
  have hcap : ¬ its.toArray.size * k.toNat > (2 ^ 63 - 1) / 8 := by
    have : (sizeLine : Nat) <= (2 ^ 63 - 1) / 8 := by decide
    omega
  have hfit : ¬ (!Builtin.List.listFitsIndex k) = true := by
    rw [fitsIndex_both h1 h2]
    exact xaw
  have hlong : ¬ Builtin.List.listTooLong (its.toArray.size * k.toNat) = true := by
    rw [notLongL hlen]
    exact xaw
  have hnew : List.foldl (fun x1 x2 => x1 ++ x2) #[] (List.replicate (if its.toArray.isEmpty = true then 0 else k.toNat) its.toArray) = (List.replicate k.toNat its).flatten.toArray := by
    have f0 : ∀ m : Nat, List.foldl (fun x1 x2 => x1 ++ x2) #[] (List.replicate m its.toArray) = (List.replicate m its).flatten.toArray := fun m => by
      have := foldl_rep its m []
      rw [List.nil_append] at this
      exact this
    rw [f0]
    cases its with
    | nil => simp
    | cons a r' => rw [xap (by simp)]
  refine wpAny_binaryOp_repeat_ref (T := "list") (U := "int") (by decide) ⟨_, e, rfl⟩ (fun s' => typeIs_int s' k t) noFill_list_mul F.fills_int_mul F.slot_int_rmul repeat_list F.slot_int_index.lookup
    (call_meets F.slot_int_rmul (typeIs_int s k t) F.entry_int_rmul (F.args_int_rmul_2 _ _) (int___rmul___int_list k t l its.toArray n)
      ⟨e, rfl, ⟨_, e, rfl⟩, call_meets F.slot_list_mul ⟨_, e, rfl⟩ F.entry_list_mul (F.args_list_mul_2 _ _) (AutoListH.list___mul___list_int_3 l its.toArray n k t hfit hcap hlong) ⟨e, ?_⟩⟩)
  rw [hnew]
  exact ⟨.ref _, _, I.lnew (t' := s.toks) (r.rep k.toNat) (by rw [len_rep, Nat.mul_comm]; exact hz), rfl, q _ I.fresh⟩
end
end L2
namespace Att
open PySem.W PySem.Calls PyProof.Rows
theorem ints_of_wellAll {P : Params} {h : Heap} : ∀ (ns : List Int) (vs : List Value), WellAll P h vs (ns.map WData.int) -> IntsAre vs ns := by
  intro ns
  induction ns with
  | nil =>
    intro vs w
    rw [List.map_nil] at w
    cases w
    exact .nil
  | cons n ns ih =>
    intro vs w
    rw [xbe] at w
    cases w with
    | cons a b =>
      cases a
      exact .cons _ _ (ih _ b)
theorem script_of {l : OpenLaw} {n : Nat} (hn : l.most = some n) {P : Params} {h : Heap} {args : List WData} {vals : List Value}
    (hpre : l.row.toRowW.claim.pre args = true) (hwl : WellAll P h vals args) :
    ∃ a vs ns, vals = [Value.ref a] /\ args = [WData.list (ns.map WData.int)] /\ h.get? a = some { cls := .type "list", data := .seq vs.toArray } /\ IntsAre vs ns /\ ns.length <= n := by
  have hsh : WShape.hasAll [] args [.list .int] = true := (pre_splitW hpre).1
  have hc : l.pre.holds [] { args := args } = true := (pre_splitW hpre).2
  obtain ⟨d, r, rfl, h1, h2⟩ := hasAllW_cons hsh
  obtain rfl := hasAllW_nil h2
  obtain ⟨xs, rfl, h3⟩ := hasW_list h1
  obtain ⟨ns, rfl⟩ := items_int h3
  have hlen : ns.length <= n := by
    unfold OpenLaw.pre at hc
    have h4 : (WTm.not (.lt (.lit (.int (n : Int))) (.len (.arg 0)))).holds [] { args := [.list (ns.map .int)] } = true := by
      have h4 := (holds_andW hc).1
      rw [hn] at h4
      exact h4
    have h5 := condW_of h4 (w_not (w_lt w_lit (w_len_list (w_arg rfl))))
    rw [xao] at h5
    refine Nat.le_of_not_lt fun q => ?_
    have q' : (n : Int) < ((ns.length : Nat) : Int) := by omega
    first
      | (rw [xah q'] at h5; exact xag h5 (by decide))
      | (simp at h5; omega)
  cases hwl with
  | cons w1 w2 =>
    cases w2
    cases w1 with
    | list ho hall => exact ⟨_, _, ns, rfl, rfl, ho, ints_of_wellAll ns _ hall, hlen⟩
theorem post_true (l : OpenLaw) (args : List WData) : l.row.toRowW.claim.post args (.bool true) args = true :=
  postW_of (r := l.row.toRowW) (X := (true == true))
    (show WShape.has [] (.bool true) .bool = true by first | rfl | decide | simp [WShape.has, WShape.arms, WShape.armsAll])
    (show (WTm.eq .res (.lit (.bool true))).value [] { args := args, res := some (.bool true), after := args } = some (.bool (true == true)) from w_eq_bool (w_res rfl) w_lit) rfl
theorem attach_call {l : OpenLaw} {n : Nat} {q : Program} {loose : List Str} {XP : (Str -> Option Value) -> Heap -> Prop} {YP : World -> Heap -> Prop} {d : DefRec}
    (hn : l.most = some n) (hdf : d.params.defaults = [])
    (call : ∀ (w : World) (s₀ s₁ : Shared) (mg mb : Str -> Option Value) (fa : Addr) (o : Obj) (pm cd doc : Value) (a : Addr) (vs : List Value) (ns : List Int),
      Ground q loose [] XP w s₀ mg mb s₁.heap -> YP w s₁.heap ->
      s₁.heap.get? fa = some o -> o.data = .func (docDef d.name d.params d.body d.scope pm cd doc) -> s₁.heap.CodeRec cd d.name -> mg d.name = some (.ref fa) ->
      s₁.heap.get? a = some { cls := .type "list", data := .seq vs.toArray } -> IntsAre vs ns -> ns.length <= n -> s₁.gens = #[] ->
      codeAny (model l.prog w) callerA (.call (.ref fa) ⟨[.ref a], []⟩) (fun r s' => r = .ok (.ret (.bool true)) /\ OldK s₁.heap s'.heap /\ s'.os = s₁.os /\ AllBare s'.gens) s₁) :
    WalkO q loose XP YP l.row.toRowW d [] (fun f vs => PySem.call f vs) := by
  intro w s₀ s₁ mg mb G Y fa o pm cd doc dV kV ho hd hcd hD hmg hg args vals as hpre hlay hrd hwl hlo
  obtain rfl : dV = .none := Dflts.none hD hdf
  obtain rfl : kV = .none := Dflts.noKw hD
  obtain ⟨a, vs, ns, rfl, rfl, hobj, hints, hlen⟩ := script_of hn hpre hwl
  refine enter_call (codeAny_mono (call w s₀ s₁ mg mb fa o pm cd doc a vs ns G Y ho (fd_plain hd) hcd hmg hobj hints hlen hg) fun r s' hq => ?_)
  obtain ⟨rfl, h2, h3, h4⟩ := hq
  exact ⟨.inl ⟨.bool true, .bool true, [], rfl, fun _ => rfl, .bool true, post_true l _, fun _ => ⟨List.Pairwise.nil, fun _ hm => (nomatch hm)⟩⟩, h2, h3, h4⟩
end Att
namespace L2
open PySem.Spec PyProof.Rows
theorem vals_ints : ∀ {vs : List Value} {ns : List Int}, IntsAre vs ns -> Vals (ns.map V.int) vs
  | _, _, .nil => .nil
  | _, _, .cons n t h => .cons ⟨t, rfl⟩ (vals_ints h)
def Only (H : Hp) : Prop := ∀ b, H b = none \/ ∃ o xs, H b = some (.frz o (.lst xs))
theorem law_call {P : Program} {w : World} {K : xFg} {mg mb : Str -> Option Value} {CX : CXT} {k : Nat} {fa a : Addr} {fd : FuncData} {x : Str} {sp : Sp} {s₁ : Shared} {vs : List Value} {ns : List Int}
    (KX : K.In s₁.heap) (hns : s₁.heap.Ns mainGlobals mg) (hb : s₁.heap.Ns builtinsNs mb) (hbb : ∀ x : Str, x ≠ "__name__" -> mb x = bootBuiltins x) (hlim : s₁.heap.NoLimit) (hg : s₁.gens = #[])
    (ha : s₁.heap.get? a = some { cls := .type "list", data := .seq vs.toArray }) (hi : IntsAre vs ns) (hl : ns.length <= sizeLine) (hr : Room k callerA)
    (F : ∀ base : Heap, K.In base -> base.Ns mainGlobals mg -> FnOk P w K mg base CX k fa fd [x] sp) (hbind : ∀ (s : Shared) (u : Value), BindsTo s fd ⟨[u], []⟩ [(x, u)])
    (hsp : ∀ H : Hp, Only H -> SqL K H a (ns.map V.int) -> sp [.ref a] H (fun v _ => v = .bl true) fun _ _ _ => False)
    (hCX : ∀ H e s', CX [] H s₁ (fun _ _ _ => False) e s' -> False) :
    codeAny (model P w) callerA (.call (.ref fa) ⟨[.ref a], []⟩) (fun r s' => r = .ok (.ret (.bool true)) /\ OldK s₁.heap s'.heap /\ s'.os = s₁.os /\ AllBare s'.gens) s₁ := by
  have rv := vals_ints hi
  have lenV := hi.length
  have core : ∀ H : Hp, Only H -> SqL K H a (ns.map V.int) -> HOk P w H s₁.heap -> (∀ b, H b ≠ none -> b = a) -> (H a ≠ none -> K.lookup a = none) ->
      codeAny (model P w) callerA (.call (.ref fa) ⟨[.ref a], []⟩) (fun r s' => r = .ok (.ret (.bool true)) /\ OldK s₁.heap s'.heap /\ s'.os = s₁.os /\ AllBare s'.gens) s₁ := by
    intro H hO hS hok hA hK
    have base_of : ∀ {b : Addr} {o : Obj}, s₁.heap.get? b = some o -> H b = none -> (hidT s₁.heap H).get? b = some o := fun e n => hidT_get e n
    have noA : ∀ {b : Addr} {o : Obj} {es : Array DictEntry} {ep : Nat}, s₁.heap.get? b = some o -> o.data = .dict es ep -> H b = none := fun {b o es ep} e d => by
      cases q : H b with
      | none => rfl
      | some u =>
        have e' : b = a := hA b (by rw [q]; simp)
        subst e'
        rw [ha] at e; cases e
        have d' : Data.seq vs.toArray _ = Data.dict es ep := d
        cases d'
    have nsK : ∀ {b : Addr} {m : Str -> Option Value}, s₁.heap.Ns b m -> (hidT s₁.heap H).Ns b m := fun {b m} ⟨o, es, ep, e, d, r⟩ => ⟨o, es, ep, base_of e (noA e d), d, r⟩
    have hKb : K.In (hidT s₁.heap H) := fun b o e => base_of (KX b o e) (by
      cases q : H b with
      | none => rfl
      | some u =>
        have e' : b = a := hA b (by rw [q]; simp)
        subst e'
        rw [hK (by rw [q]; simp)] at e; cases e)
    have hM : Mod K mg (hidT s₁.heap H) := ⟨hKb, nsK hns, ⟨mb, nsK hb, hbb⟩, let ⟨mc, h1, h2⟩ := hlim; ⟨mc, nsK h1, h2⟩⟩
    have e0 : Env0 P w K mg (hidT s₁.heap H) callerA [] s₁ H := ⟨rfl, hM, fun b o e => of_hidT e, Nat.le_of_eq (hidT_size _ _), trivial, fun b hb => xag (show b ∈ ([] : List Addr) from hb) (by simp), hok, .of_eq hg⟩
    refine codeAny_mono ((F _ hKb (nsK hns)).run callerA [] s₁ H ⟨[.ref a], []⟩ [.ref a] [.ref a] _ _ hr e0 (hbind s₁ (.ref a)) (.cons rfl .nil) (hsp H hO hS)) fun r s' h => ?_
    cases r with
    | error e => exact (hCX H e s' h).elim
    | ok fl =>
      cases fl with
      | next => exact False.elim h
      | brk => exact False.elim h
      | cont => exact False.elim h
      | ret u =>
        obtain ⟨v, H', os, bare, un, hok', r', q⟩ := h
        have q' : v = .bl true := q
        subst q'
        obtain rfl : u = Value.bool true := r'
        refine ⟨rfl, OldK.of_keep fun b o e => ?_, os, bare⟩
        cases q : H b with
        | none => exact un.keep b o e q (by intro z; exact xag (show b ∈ ([] : List Addr) from z) (by simp)) (by simp)
        | some u =>
          rcases hO b with z | ⟨ob, xs, z⟩
          · rw [q] at z; cases z
          · have z2 := un.frzs b ob _ z
            obtain ⟨e1, _⟩ := hok b _ z
            obtain ⟨e2, _⟩ := hok' b _ z2
            rw [e] at e1; cases e1
            exact e2
  cases hk : K.lookup a with
  | some o =>
    have e := KX a o hk
    rw [ha] at e
    cases e
    refine core (fun _ => none) (fun _ => .inl rfl) (.inr ⟨_, vs.toArray, _, hk, rfl, rfl, rfl, by rw [xal, lenV]; exact hl, by simpa using rv⟩) (fun b u z => by have z' : (none : Option HO) = some u := z; cases z') (fun b z => xag rfl z) fun z => xag rfl z
  | none =>
    refine core (fun b => if b = a then some (.frz { cls := .type "list", data := .seq vs.toArray } (.lst (ns.map V.int))) else none) (fun b => ?_) (.inl (.inr ⟨{ cls := .type "list", data := .seq vs.toArray }, xav rfl⟩)) (fun b u z => ?_) (fun b z => ?_) fun _ => hk
    · by_cases hb : b = a
      · exact .inr ⟨_, _, xav hb⟩
      · exact .inl (xap hb)
    · by_cases hb : b = a
      · have z' := (xav hb).symm.trans z
        cases z'
        subst hb
        exact ⟨ha, by rw [xao]; exact hl, vs, _, rv, ha⟩
      · have z' := (xap hb).symm.trans z
        cases z'
    · by_cases hb : b = a
      · exact hb
      · exact xag (xap hb) z
end L2
namespace L2
open PySem.Spec PyProof.Rows
theorem walk_of {l : PySem.W.OpenLaw} {n k : Nat} {q : Program} {loose : List Str} {XP : (Str -> Option Value) -> Heap -> Prop} {YP : World -> Heap -> Prop} {d : DefRec} {K : Params -> xFg} {CX : World -> CXT} {sp : World -> Sp} {x : Str}
    (hn : l.most = some n) (hn2 : n <= sizeLine) (hdf : d.params.defaults = []) (hr : Room k callerA)
    (hY : ∀ (w : World) (h : Heap), YP w h -> (K w.params).In h)
    (F : ∀ (w : World) (mg : Str -> Option Value) (fa : Addr) (h : Heap), (K w.params).In h -> h.Ns mainGlobals mg -> mg d.name = some (.ref fa) ->
      ∃ fd : FuncData, (∀ (s : Shared) (u : Value), BindsTo s fd ⟨[u], []⟩ [(x, u)]) /\
        ∀ base : Heap, (K w.params).In base -> base.Ns mainGlobals mg -> FnOk l.prog w (K w.params) mg base (CX w) k fa fd [x] (sp w))
    (hsp : ∀ (w : World) (H : Hp) (a : Addr) (ns : List Int), ns.length <= n -> Only H -> SqL (K w.params) H a (ns.map V.int) -> sp w [.ref a] H (fun v _ => v = .bl true) fun _ _ _ => False)
    (hCX : ∀ (w : World) (H : Hp) (s : Shared) (e : Value) (s' : Shared), CX w [] H s (fun _ _ _ => False) e s' -> False) :
    PySem.W.WalkO q loose XP YP l.row.toRowW d [] (fun f vs => PySem.call f vs) := by
  refine Att.attach_call hn hdf fun w s₀ s₁ mg mb fa o pm cd doc a vs ns G Y ho hd hcd hmg hobj hints hlen hg => ?_
  have KX := hY w _ Y
  obtain ⟨fd, hb, hF⟩ := F w mg fa _ KX G.T.g hmg
  exact law_call KX G.T.g G.T.b G.T.builtins G.T.nolimit hg hobj hints (xax hlen hn2) hr hF hb (fun H hO hS => hsp w H a ns hlen hO hS) fun H e s' => hCX w H s₁ e s'
end L2
namespace L2
open PySem.Spec PyProof.Rows
def defArgs (s : Stmt) : Arguments := match s with
  | .FunctionDef _ a _ _ _ _ _ _ _ _ => a
  | _ => { posonlyargs := [], args := [], vararg := none, kwonlyargs := [], kw_defaults := [], kwarg := none, defaults := [] }
def defBody (s : Stmt) : List Stmt := match s with
  | .FunctionDef _ _ b _ _ _ _ _ _ _ => b
  | _ => []
def defScope (s : Stmt) : Scope := match s with
  | .FunctionDef _ _ _ _ _ _ sc _ _ _ => sc
  | _ => { kind := .function, names := [], isGenerator := false, isCoroutine := false }
abbrev E0 : XK := fun _ _ _ => False
structure Fun (K : xFg) (x qual : Str) (st : Stmt) (f : Addr) (fd : FuncData) : Prop where
  ex : ∃ (oc : Value) (od : Option Addr) (kV doc pm : Value) (an : Option Addr) (cdv ct : Value) (osl : Array (Option Value)),
    fd = PySem.W.fnOf x qual (defArgs st) (defBody st) (defScope st) .none kV doc pm an cdv ct /\ K.lookup f = some ⟨oc, od, .func fd, osl⟩ /\ PySem.W.codeIn K cdv qual = true
  kp : PySem.W.keepIn K (.ref f) = true
section
variable {P : Program} {w : World} {K : xFg} {mg : Str -> Option Value} {base : Heap}
theorem Fun.binds {x qual : Str} {st : Stmt} {f : Addr} {fd : FuncData} {ps : List Str} (F : Fun K x qual st f fd)
    (h : ∀ (kV doc pm : Value) (an : Option Addr) (cdv ct : Value) (us : List Value), us.length = ps.length -> bindArgs (PySem.W.fnOf x qual (defArgs st) (defBody st) (defScope st) .none kV doc pm an cdv ct) ⟨us, []⟩ = pure (ps.zip us)) : Binds K fd ps [] := by
  obtain ⟨oc, od, kV, doc, pm, an, cdv, ct, osl, rfl, lk, hcd⟩ := F.ex
  exact .all (h kV doc pm an cdv ct)
theorem fun_mk {x qual : Str} {st : Stmt} {f : Addr} {oc : Value} {od an : Option Addr} {osl : Array (Option Value)} {kV doc pm cdv ct : Value} (l : K.lookup f = some ⟨oc, od, .func (PySem.W.fnOf x qual (defArgs st) (defBody st) (defScope st) .none kV doc pm an cdv ct), osl⟩)
    (c : PySem.W.codeIn K cdv qual = true) (k : PySem.W.keepIn K (.ref f) = true) : Fun K x qual st f (PySem.W.fnOf x qual (defArgs st) (defBody st) (defScope st) .none kV doc pm an cdv ct) := ⟨⟨oc, od, kV, doc, pm, an, cdv, ct, osl, rfl, l, c⟩, k⟩
end
theorem small1000 {n : Nat} (h : n <= 1000) : n < sizeLine := xci h (by decide)
section
variable {X : Cx}
theorem pv (i : Nat) {x : Str} {pos : Pos} (hN : X.N[i]? = some x := by rfl) (hv : Vis X.env.scope x := by first | exact Or.inl rfl | exact Or.inr (Or.inl rfl) | exact Or.inr (Or.inr rfl)) (hd : (x == ("__debug__" : Str)) = false := by decide)
    (hcd : (x == ("__classdict__" : Str)) = false := by decide) : PE X (.Name x pos) (tVar i) := pe_var hN hv hd hcd
end
theorem iteF {A B : Prop} (h : B) : if false = true then A else B := by
  rw [xap xaw]
  exact h
theorem iteT {A B : Prop} (h : A) : if true = true then A else B := by
  rw [xav rfl]
  exact h
def Same (H H' : Hp) : Prop := ∀ b o, H b = some o -> H' b = some o
theorem Same.refl (H : Hp) : Same H H := fun _ _ h => h
theorem Same.trans {H H1 H2 : Hp} (a : Same H H1) (b : Same H1 H2) : Same H H2 := fun c o h => b c o (a c o h)
theorem Same.free {H H' : Hp} (e : Same H H') {l : Addr} (h : H' l = Option.none) : H l = Option.none := by
  cases q : H l with
  | none => rfl
  | some o =>
    rw [e l o q] at h
    cases h
theorem Same.seq {K : xFg} {H H' : Hp} {a : Addr} {xs : List V} (e : Same H H') (h : SqL K H a xs) : SqL K H' a xs := by
  rcases h with (h | ⟨o, h⟩) | h
  · exact .inl (.inl (e _ _ h))
  · exact .inl (.inr ⟨o, e _ _ h⟩)
  · exact .inr h
end L2
end
namespace L2
open PySem.Spec PyProof.Rows
theorem forIn_fold {α β : Type} (g : β -> α -> β) : ∀ {l : List α} {f : α -> β -> Sem (ForInStep β)} (c : β), (∀ x ∈ l, ∀ c, f x c = pure (.yield (g c x))) -> forIn l c f = pure (l.foldl g c)
  | [], _, _, _ => rfl
  | x :: l, f, c, h => by
    rw [xbp, h x xa5 c, pure_bind]
    exact forIn_fold g (g c x) fun y hy => h y (xaq _ hy)
def closStep (env : Env) (cs : List (Str × Addr)) (x : Str × NameKind) : List (Str × Addr) :=
  if (x.2 == NameKind.free) = true then (x.1, (env.cells.lookup x.1).getD 0) :: cs else cs
def clos (env : Env) (names : List (Str × NameKind)) : List (Str × Addr) := names.foldl (closStep env) []
theorem clos_eq {env : Env} {scope : Scope} (h : ∀ x ∈ scope.names, x.2 = .free -> ∃ c, env.cells.lookup x.1 = some c) : closureFor scope env = pure (clos env scope.names) := by
  simp only [closureFor]
  rw [forIn_fold (closStep env) [] (fun x hx c => by
    obtain ⟨n, k⟩ := x
    by_cases hk : k = .free
    · obtain ⟨a, e⟩ := h (n, k) hx hk
      have e' : env.cells.lookup n = some a := e
      subst hk
      simp [closStep, cellOf, e']
    · have hb : (k == NameKind.free) = false := by simpa using hk
      simp [closStep, hb])]
  rfl
theorem clos_sub {env : Env} : ∀ (l : List (Str × NameKind)) (acc : List (Str × Addr)), (∀ x ∈ l, x.2 = .free -> ∃ c, env.cells.lookup x.1 = some c) -> (∀ y c, acc.lookup y = some c -> env.cells.lookup y = some c) ->
    ∀ y c, (l.foldl (closStep env) acc).lookup y = some c -> env.cells.lookup y = some c
  | [], acc, _, ha, y, c, e => ha y c e
  | x :: l, acc, h, ha, y, c, e => by
    refine clos_sub l (closStep env acc x) (fun z hz => h z (xaq _ hz)) (fun z d q => ?_) y c e
    unfold closStep at q
    split at q
    · rename_i hk
      obtain ⟨a, ea⟩ := h x xa5 (by simpa using hk)
      rw [xbn] at q
      cases hz : z == x.1 with
      | true =>
        rw [hz] at q
        rw [ea] at q
        have : z = x.1 := by simpa using hz
        rw [this, ea]; simpa using q
      | false => rw [hz] at q; exact ha z d q
    · exact ha z d q
theorem clos_some {env : Env} : ∀ (l : List (Str × NameKind)) (acc : List (Str × Addr)) (y : Str), ((∃ c, acc.lookup y = some c) \/ (y, NameKind.free) ∈ l) -> ∃ c, (l.foldl (closStep env) acc).lookup y = some c
  | [], acc, y, h => by
    rcases h with h | h
    · exact h
    · exact xag h (by simp)
  | x :: l, acc, y, h => by
    refine clos_some l (closStep env acc x) y ?_
    rcases h with ⟨c, h⟩ | h
    · left
      unfold closStep
      split
      · rw [xbn]
        cases hz : y == x.1 with
        | true => exact ⟨_, rfl⟩
        | false => exact ⟨c, h⟩
      · exact ⟨c, h⟩
    · rcases xam.mp h with e | h
      · left
        subst e
        unfold closStep
        rw [xav (by rfl), xbn]
        simp
      · exact .inr h
theorem relabel_kind {scope : Scope} {env : Env} : ∀ {names : List (Str × NameKind)} {x : Str} {k : NameKind},
    (names.map fun (n, k) => if (k == NameKind.free && env.scope.kind == .function && env.kindOf n == some .cell) then (n, NameKind.cell) else (n, k)).lookup x = some k ->
    names.lookup x = some k \/ (k = .cell /\ names.lookup x = some .free)
  | [], _, _, h => by simp at h
  | (n, k') :: r, x, k, h => by
    change List.lookup x ((if (k' == NameKind.free && env.scope.kind == .function && env.kindOf n == some .cell) = true then (n, NameKind.cell) else (n, k')) :: _) = some k at h
    by_cases hc : (k' == NameKind.free && env.scope.kind == .function && env.kindOf n == some .cell) = true
    · rw [xav hc, xbn] at h
      rw [xbn]
      cases hx : x == n with
      | true =>
        rw [hx] at h
        have hk : k' = .free := by
          simp only [xay, beq_iff_eq] at hc
          exact hc.1.1
        subst hk
        have h' : NameKind.cell = k := by simpa using h
        exact .inr ⟨h'.symm, rfl⟩
      | false => rw [hx] at h; exact relabel_kind (scope := scope) h
    · rw [xap hc, xbn] at h
      rw [xbn]
      cases hx : x == n with
      | true => rw [hx] at h; exact .inl h
      | false => rw [hx] at h; exact relabel_kind (scope := scope) h
def nyOk (k : Nat) (NY N : List Str) (sc : Scope) : Bool :=
  NY.length == k + N.length && ((NY.drop k).zip N).all fun p => (sc.names.lookup p.1).isNone || (p.1 == p.2 && sc.names.lookup p.1 != some .local)
structure LC (X : Cx) (k : Nat) (scope : Scope) (NY : List Str) : Prop where
  cells : ∀ y ∈ scope.names, y.2 ≠ .cell
  kind : scope.kind = .function
  names : ∀ y ∈ scope.names, y.2 = .local -> scope.names.lookup y.1 = some .local
  free : ∀ y ∈ scope.names, y.2 = .free -> X.env.kindOf y.1 = some .cell \/ X.env.kindOf y.1 = some .free
  ny : nyOk k NY X.N scope = true
  nd : NY.Nodup
def lcOk (k : Nat) (N : List Str) (sc0 scope : Scope) (NY : List Str) : Bool :=
  (scope.names.all fun y => y.2 != .cell) && (scope.kind == .function) && (scope.names.all fun y => y.2 != .local || scope.names.lookup y.1 == some .local) &&
  (scope.names.all fun y => y.2 != .free || sc0.names.lookup y.1 == some .cell || sc0.names.lookup y.1 == some .free) && nyOk k NY N scope && decide NY.Nodup
theorem LC.of {X : Cx} {k : Nat} {N NY : List Str} {sc0 scope : Scope} (hN : X.N = N) (hs : X.env.scope = sc0) (h : lcOk k N sc0 scope NY = true) : LC X k scope NY := by
  unfold lcOk at h
  simp only [xay, xbh, Bool.or_eq_true, bne_iff_ne, beq_iff_eq, ne_eq] at h
  obtain ⟨⟨⟨⟨⟨h1, h2⟩, h3⟩, h4⟩, h5⟩, h6⟩ := h
  refine ⟨h1, h2, fun y hy e => ?_, fun y hy e => ?_, by rw [hN]; exact h5, xaj h6⟩
  · rcases h3 y hy with z | z
    · exact xag e z
    · exact z
  · show X.env.scope.names.lookup y.1 = _ \/ X.env.scope.names.lookup y.1 = _
    rw [hs]
    rcases h4 y hy with (z | z) | z
    · exact xag e z
    · exact .inl z
    · exact .inr z
def lcCx (X : Cx) (scope : Scope) (NY : List Str) (s₀ : Shared) (H₀ : Hp) (C : Addr) (ex : List Addr) : Cx :=
  { X with N := NY, s₀ := s₀, H₀ := H₀, env := compEnvC scope (clos X.env scope.names) C X.env, outer := X.stack, ex := ex, fn := fun _ => false, pn := [], xe := fun _ _ => False }
def PTs (X : Cx) (cs : List Expr) (t : TT) : Prop :=
  ∀ (pins : List (Addr × Obj)) (s : Shared) (O : St) (H : Hp) (Q : Bool -> Hp -> Prop), Inv X pins O H s -> t O H Q ->
    wpAny (model X.prog X.w) X.A (forIn cs true fun c r => if r = true then do let ok <- isTrue c X.env (eval c X.env); pure (ForInStep.yield ok) else pure (ForInStep.yield r)) (TP X pins O Q) X.xe s
def tTrue : TT := fun _ H Q => Q true H
theorem pts_nil {X : Cx} : PTs X [] tTrue := fun _ _ _ H _ I h => wpAny_tests_nil ⟨H, I, h⟩
def SubSt (O O2 : St) : Prop := O2.length = O.length /\ ∀ (j : Nat) (v : V), O[j]? = some (some v) -> O2[j]? = some (some v)
def tLC (k : Nat) (wi : TI) (g : TG) (tc : TT) (te : TE) : TE := fun O H Q => wi O H fun J H1 => ∃ W : Nat -> Nat -> List V -> Hp -> Prop, (∃ m, W 0 m [] H1) /\ ∀ i m ys H, W i m ys H -> ys.length < sizeLine /\
  ((J.stop i H /\ ∀ D, H D = none -> Q (.ref D) (upd H D (.lst ys))) \/
   (J.go i H /\ ∃ N : List V -> Hp -> Prop, (∀ ys' H', N ys' H' -> ∃ m', m' < m /\ W (i + 1) m' ys' H') /\
     ∀ v H', J.yld i H v H' -> g v (List.replicate k none ++ O) H' fun O2 H2 => SubSt (List.replicate k none ++ O) O2 /\
       tc O2 H2 fun b H3 => if b = true then te O2 H3 fun y H4 => N (ys ++ [y]) H4 else N ys H3))
theorem thnF {α : Type} {t : Sem α} {Q Q' : α -> Shared -> Prop} {M : Model} {A : Around} {E : Value -> Shared -> Prop} {s : Shared} (h : wpAny M A t Q (fun _ _ => False) s) (hQ : ∀ a s, Q a s -> Q' a s) : wpAny M A t Q' E s :=
  wpAny_mono h hQ fun _ _ z => False.elim z
section
variable {prog : Program} {w : World} {A : Around} {R : Result -> Shared -> Prop} {s : Shared}
theorem compLoop_own {elt tg iter : Expr} {ifs : List Expr} {scope : Scope} {pos : Pos} {it acc : Value} {env : Env} (W : Nat -> Shared -> Prop)
    (turn : ∀ n s, W n s -> ∀ E', wpAny (model prog w) A (pyNext it) (fun r s1 => match r with
      | none => R (.ok .next) s1
      | some v => wpAny (model prog w) A (letOwnedTupleGo tg it v) (fun _ s2 => wpAny (model prog w) A (assign tg env v) (fun _ s3 =>
          wpAny (model prog w) A (forIn ifs true fun c r => if r = true then do let ok <- isTrue c env (eval c env); pure (ForInStep.yield ok) else pure (ForInStep.yield r)) (fun ok s4 =>
            if ok = true then wpAny (model prog w) A (eval elt env) (fun x s5 => wpAny (model prog w) A (call (.builtin "list.append") [acc, x]) (fun _ s6 => ∃ m, m < n /\ W m s6) E' s5) E' s4
            else ∃ m, m < n /\ W m s4) E' s3) E' s2) E' s1) E' s)
    (n : Nat) (h : W n s) : codeAny (model prog w) A (.compLoop (.ListComp elt [⟨tg, iter, ifs, 0⟩] scope pos) 0 it acc env) R s := by
  refine codeAny_loop rfl W (fun n s hW => ?_) n h
  show wpAny _ A ((compTurn (.ListComp elt [⟨tg, iter, ifs, 0⟩] scope pos) 0 it acc env).onRaise (fun x => do noteFrame x env; theTreesLotGoes x)) _ _ s
  refine wpAny_noted ?_
  rw [compTurn_list]
  refine xaa (wpAny_standAt (xaa (thn (turn n s hW _) fun r s1 h1 => ?_)))
  cases r with
  | none => exact xan h1
  | some v =>
    refine xaa (thn h1 fun _ s2 h2 => xaa (thn h2 fun _ s3 h3 => xaa (thn h3 fun ok s4 h4 => ?_)))
    cases ok with
    | false => exact xan ⟨rfl, h4⟩
    | true => exact xaa (xaa (thn h4 fun x s5 h5 => xaa (thn h5 fun _ s6 h6 => xan (xan ⟨rfl, h6⟩))))
end
section
variable {X : Cx} {pins : List (Addr × Obj)} {O : St} {H2 : Hp} {s2 : Shared} {scope : Scope} {NY : List Str} {k : Nat} {C D : Addr} {fp : List Addr}
theorem lc_ok (I2 : Inv X pins O H2 s2) (lc : LC X k scope NY) (hf : ∀ b ∈ fp, FpOk X pins H2 b) (hfl : ∀ b ∈ fp, b < s2.heap.objs.size) (hC : s2.heap.objs.size <= C) : (lcCx X scope NY s2 H2 C fp).Ok := by
  have hfree : ∀ x ∈ scope.names, x.2 = .free -> ∃ c, X.env.cells.lookup x.1 = some c := fun x hx e => I2.ok.has x.1 (lc.free x hx e)
  have sub : ∀ x c, (clos X.env scope.names).lookup x = some c -> X.env.cells.lookup x = some c := clos_sub scope.names [] hfree (fun y c e => by simp at e)
  refine ⟨I2.ok.mod, ?_, I2.ok.glob, I2.ok.blt, hC, fun x y c e1 e2 => I2.ok.inj x y c (sub x c e1) (sub y c e2), fun x hx => ?_, fun x c z => xag z (by show ¬ (false = true); decide), I2.ok.hd, I2.ok.frames, .inl rfl, fun b hb => ⟨xa2 (xak (hfl b hb) hC), fun x c e => (hf b hb).2.2.2.2.1 x c (sub x c e)⟩,
    I2.bs, xax I2.ok.bsz I2.sz, fun b o e hb => ?_, fun b hb z => ?_, I2.stack, I2.stkFree⟩
  · show (relabel scope X.env).kind = .function
    exact lc.kind
  · have hx : (relabel scope X.env).names.lookup x = some .cell \/ (relabel scope X.env).names.lookup x = some .free := hx
    have key : scope.names.lookup x = some .free := by
      rcases hx with hx | hx
      · rcases relabel_kind (scope := scope) hx with z | ⟨_, z⟩
        · exact xag rfl (lc.cells _ (PySem.mem_of_lookup z))
        · exact z
      · rcases relabel_kind (scope := scope) hx with z | ⟨_, z⟩
        · exact z
        · exact z
    exact clos_some scope.names [] x (.inr (PySem.mem_of_lookup key))
  · have q : b ∈ X.ex \/ X.s₀.heap.objs.size <= b := (hf b hb).2.2.2.1
    rcases q with q | q
    · exact I2.ok.noex b o e q
    · exact xag (xak (xai e) (xax I2.ok.bsz q)) (xbj _)
  · rcases xam.mp (I2.stkSub b z) with e | e
    · exact (hf b hb).2.1 e
    · exact (hf b hb).2.2.1 e
theorem lc_start {h1 : Heap} {tk : Nat} {m : Str -> Option Value} {oD : Obj} (I2 : Inv X pins O H2 s2) (lc : LC X k scope NY) (hf : ∀ b ∈ fp, FpOk X pins H2 b) (hfl : ∀ b ∈ fp, b < s2.heap.objs.size) (hC : s2.heap.objs.size <= C) (hD : s2.heap.objs.size <= D) (hDC : D ≠ C)
    (old : ∀ b o, s2.heap.get? b = some o -> h1.get? b = some o) (hn : h1.Ns C m) (ho : h1.get? D = some oD) (hoD : ∀ v, oD.data ≠ .cell v) :
    Inv (lcCx X scope NY s2 H2 C fp) [(D, oD)] (List.replicate k none ++ O) H2 { s2 with heap := h1, toks := tk } := by
  have hfree : ∀ x ∈ scope.names, x.2 = .free -> ∃ c, X.env.cells.lookup x.1 = some c := fun x hx e => I2.ok.has x.1 (lc.free x hx e)
  have sub : ∀ x c, (clos X.env scope.names).lookup x = some c -> X.env.cells.lookup x = some c := clos_sub scope.names [] hfree (fun y c e => by simp at e)
  have hny := lc.ny
  unfold nyOk at hny
  simp only [xay, beq_iff_eq, xbh, Bool.or_eq_true, bne_iff_ne, ne_eq] at hny
  obtain ⟨hlen, hz⟩ := hny
  refine ⟨lc_ok I2 lc hf hfl hC, rfl, I2.bare, Un.kept old, ⟨m, hn, fun i x v e1 e2 e3 => ?_⟩, fun x c e => ?_, I2.hok.fresh hC, fun x c e => I2.freeC x c (sub x c e), fun p hp => ?_, I2.hok.kept old, ?_⟩
  · have e1 : NY[i]? = some x := e1
    have hik : k <= i := by
      refine Nat.le_of_not_lt fun z => ?_
      rw [xbc (by simpa using z), xbz, xav z] at e2
      cases e2
    rw [xbr (by simpa using hik), xba] at e2
    have hi2 : i - k < X.N.length := by
      rw [<- I2.len]; exact (xae.mp e2).1
    obtain ⟨y, ey⟩ : ∃ y, X.N[i - k]? = some y := ⟨_, xbf hi2⟩
    have em : (x, y) ∈ (NY.drop k).zip X.N := by
      refine xb5 (i := i - k) ?_
      rw [List.getElem?_zip_eq_some]
      refine ⟨?_, ey⟩
      rw [List.getElem?_drop, show k + (i - k) = i by omega]; exact e1
    have e3 : Vis (relabel scope X.env) x := e3
    have kf : scope.names.lookup x = some .free := by
      have kk : ∃ q, scope.names.lookup x = some q := by
        rcases e3 with z | z | z <;> rcases relabel_kind (scope := scope) z with z | ⟨_, z⟩ <;> exact ⟨_, z⟩
      have zz := hz (x, y) em
      have nl : scope.names.lookup x ≠ some .local := by
        rcases zz with zz | zz
        · obtain ⟨q, hq⟩ := kk
          have zz : (scope.names.lookup x).isNone = true := zz
          rw [hq] at zz; cases zz
        · exact zz.2
      rcases e3 with z | z | z <;> rcases relabel_kind (scope := scope) z with z | ⟨_, z⟩
      · exact xag z nl
      · exact z
      · exact xag rfl (lc.cells _ (PySem.mem_of_lookup z))
      · exact z
      · exact z
      · exact z
    have exy : x = y := by
      rcases hz (x, y) em with zz | zz
      · have zz : (scope.names.lookup x).isNone = true := zz
        rw [kf] at zz; cases zz
      · exact zz.1
    subst exy
    obtain ⟨mX, hnX, hlX⟩ := I2.loc
    have hk := lc.free (x, .free) (PySem.mem_of_lookup kf) rfl
    have hk : X.env.kindOf x = some .cell \/ X.env.kindOf x = some .free := hk
    obtain ⟨u, ru, lu⟩ := hlX (i - k) x v ey e2 (.inr hk)
    refine ⟨u, ru, ?_⟩
    rcases lu with ⟨z, _⟩ | ⟨_, c, hc, hcell⟩
    · rcases hk with q | q <;> rw [q] at z <;> cases z
    · obtain ⟨c', hc'⟩ := clos_some (env := X.env) scope.names [] x (.inr (PySem.mem_of_lookup kf))
      have : c' = c := by
        have q := sub x c' hc'
        rw [hc] at q; exact (xa4 q).symm
      subst this
      refine .inr ⟨?_, c', hc', hcell.keeps old⟩
      show (relabel scope X.env).names.lookup x = some .cell \/ (relabel scope X.env).names.lookup x = some .free
      rcases e3 with z | z
      · rcases relabel_kind (scope := scope) z with z | ⟨z, _⟩
        · rw [kf] at z; cases z
        · cases z
      · exact z
  · obtain ⟨v, z⟩ := I2.cell x c (sub x c e)
    exact ⟨v, z.keeps old⟩
  · have e : p = (D, oD) := by simpa [lcCx] using hp
    subst e
    refine ⟨ho, I2.hok.fresh hD, hDC, fun z => ?_, hoD⟩
    have z : D ∈ frs X.stack := z
    rcases xam.mp (I2.stkSub D z) with q | q
    · exact xag (xak I2.lt hD) (by rw [q]; exact xbj _)
    · exact I2.nofs hD q
  · show (List.replicate k none ++ O).length = NY.length
    rw [hlen, xar, xba, I2.len]
theorem lc_out {H4 : Hp} {s4 : Shared} {O' : St} {ys : List V} {us : List Value} (I2 : Inv X pins O H2 s2) (hf : ∀ b ∈ fp, FpOk X pins H2 b) (hC : s2.heap.objs.size <= C) (hD : s2.heap.objs.size <= D)
    (I4 : Inv (lcCx X scope NY s2 H2 C fp) [(D, LCg.lst us)] O' H4 s4) (rv : Vals ys us) (hz : ys.length <= sizeLine) : Inv X pins O (upd H4 D (.lst ys)) s4 := by
  obtain ⟨pD, nD, neD, nfD, dD⟩ := I4.pin (D, LCg.lst us) (by simp)
  have u0 : Un (frs X.stack) fp H2 H4 s2.heap s4.heap := I4.base
  have neb : ∀ b o, s2.heap.get? b = some o -> b ≠ D := fun b o e => xa2 (xak (xai e) hD)
  have hok : HOk X.prog X.w (upd H4 D (.lst ys)) s4.heap := fun b u e => by
    by_cases hb : b = D
    · subst hb
      rw [upd_same] at e; cases e
      exact ⟨hz, us, us.length, rv, pD⟩
    · rw [upd_ne hb] at e
      exact (I4.hok b u e).stay (fun _ _ _ q => q) (fun c q => by rw [upd_ne (ne_of_none q nD)]; exact q) fun c xs q => by rw [upd_ne (ne_of_none q nD)]; exact q
  refine I2.call' (ch := fp) I4.os ⟨u0.keep, u0.slot, fun b o e n hx => ?_, u0.there, fun b xs q => ?_, fun b o u q => ?_, fun b ps q => ?_⟩ hok I4.bare fun b hb => ⟨(hf b hb).2.2.2.1, (hf b hb).2.1, (hf b hb).2.2.2.2.1, (hf b hb).2.2.2.2.2⟩
  · rw [upd_ne (neb b o e)]; exact u0.free b o e n hx
  · have z := u0.tups b xs q
    rw [upd_ne (ne_of_none z nD)]; exact z
  · have z := u0.frzs b o u q
    rw [upd_ne (ne_of_none z nD)]; exact z
  · obtain ⟨more, z⟩ := u0.tbls b ps q
    exact ⟨more, by rw [upd_ne (ne_of_none z nD)]; exact z⟩
end
theorem lc_run {X : Cx} {tg elt iter : Expr} {ifs : List Expr} {scope : Scope} {pos : Pos} {NY : List Str} {k : Nat} {g : TG} {tc : TT} {te : TE} (hc : X.calm = true) (lc : LC X k scope NY)
    (hb : ∀ (s₀ : Shared) (H₀ : Hp) (C : Addr) (ex : List Addr), NY.Nodup -> PG (lcCx X scope NY s₀ H₀ C ex) tg g /\ PTs (lcCx X scope NY s₀ H₀ C ex) ifs tc /\ PE (lcCx X scope NY s₀ H₀ C ex) elt te)
    {pins : List (Addr × Obj)} {O : St} {H2 : Hp} {s2 : Shared} {it : Addr} {fp : List Addr} {tn : Nat -> Heap -> Prop} {J : It} {RR : Value -> Addr -> Result -> Shared -> Prop} {E : Value -> Shared -> Prop} {Fin : List V -> Hp -> Prop}
    (I2 : Inv X pins O H2 s2) (T : Turn X.prog X.w X.K tg J fp it tn) (st2 : tn 0 s2.heap) (f2 : ∀ b ∈ fp, FpOk X pins H2 b) {W : Nat -> Nat -> List V -> Hp -> Prop} {m0 : Nat} (w0 : W 0 m0 [] H2)
    (turn : ∀ i m ys H, W i m ys H -> ys.length < sizeLine /\ ((J.stop i H /\ Fin ys H) \/ (J.go i H /\ ∃ N : List V -> Hp -> Prop, (∀ ys' H', N ys' H' -> ∃ m', m' < m /\ W (i + 1) m' ys' H') /\
      ∀ v H', J.yld i H v H' -> g v (List.replicate k none ++ O) H' fun O2 H2 => SubSt (List.replicate k none ++ O) O2 /\ tc O2 H2 fun b H3 => if b = true then te O2 H3 fun y H4 => N (ys ++ [y]) H4 else N ys H3)))
    (fin : ∀ (C D : Addr) (H4 : Hp) (s4 : Shared) (ys : List V) (m : Str -> Option Value), s2.heap.objs.size <= C -> H4 D = none -> H4 C = none -> D ≠ C -> s4.heap.Ns C m -> Inv X pins O (upd H4 D (.lst ys)) s4 -> Fin ys H4 -> RR (.ref D) C (.ok .next) s4) :
    wpAny (model X.prog X.w) X.A (newList []) (fun acc s3 => wpAny (model X.prog X.w) X.A (newFunctionEnv scope X.env.globals (clos X.env scope.names) [] X.env.qual none .none (some X.env)) (fun cenv s4 =>
      codeAny (model X.prog X.w) X.A (.compStart (.ListComp elt [⟨tg, iter, ifs, 0⟩] scope pos) 0 (.ref it) acc { cenv with scope := relabel scope X.env }) (RR acc cenv.locals) s4) E s3) E s2 := by
  refine wpAny_newObj_type (wpAny_newFunctionEnv lc.cells (by intro y hy; simp at hy) (fun h1 hns1 hsb1 => ?_) lc.kind)
  dsimp only at hns1 hsb1 ⊢
  generalize hG : s2.heap.push { cls := .type "list", dict := none, data := .seq ([] : List Value).toArray } = G at hns1 hsb1 ⊢
  have hC : G.objs.size = s2.heap.objs.size + 1 := by rw [<- hG, xb2]
  have hCle : s2.heap.objs.size <= G.objs.size := by omega
  have hDC : s2.heap.objs.size ≠ G.objs.size := by omega
  have hfl : ∀ b ∈ fp, b < s2.heap.objs.size := fun b hb => by obtain ⟨o, e, _⟩ := T.obj 0 _ st2 b hb; exact xai e
  have old : ∀ b o, s2.heap.get? b = some o -> h1.get? b = some o := fun b o e => by
    have lt := xai e
    refine hsb1.extBut b o (xa2 (xak lt hCle)) (xab _ ?_)
    rw [<- hG]; exact xab _ e
  have hacc : h1.get? s2.heap.objs.size = some (LCg.lst []) := by
    refine hsb1.extBut _ _ hDC (xab _ ?_)
    rw [<- hG]; exact xau _ rfl
  have dl : ∀ (us : List Value) v, (LCg.lst us).data ≠ .cell v := fun us v z => by
    have z' : Data.seq us.toArray us.length = Data.cell v := z
    cases z'
  have I3 := lc_start (h1 := h1) (tk := s2.toks + ([] : List (Str × Value)).length) I2 lc f2 hfl hCle (xad _) hDC old hns1 hacc (dl [])
  have fpY : ∀ {us : List Value} {H' : Hp}, (∀ b ∈ fp, H' b = none) -> ∀ b ∈ fp, FpOk (lcCx X scope NY s2 H2 G.objs.size fp) [(s2.heap.objs.size, LCg.lst us)] H' b := fun {us H'} hn b hb => by
    have lt := hfl b hb
    have okY := I3.ok
    refine ⟨hn b hb, (okY.exf b hb).1, okY.exfs b hb, .inl hb, (okY.exf b hb).2, fun p hp => ?_⟩
    have e : p = (s2.heap.objs.size, LCg.lst us) := by simpa [lcCx] using hp
    subst e
    exact xb1 lt
  obtain ⟨hg, ht, he⟩ := hb s2 H2 G.objs.size fp lc.nd
  have loop : ∀ s3 : Shared, s3 = { s2 with heap := h1, toks := s2.toks + ([] : List (Str × Value)).length } ->
      codeAny (model X.prog X.w) X.A (.compLoop (.ListComp elt [⟨tg, iter, ifs, 0⟩] scope pos) 0 (.ref it) (.ref s2.heap.objs.size) (compEnvC scope (clos X.env scope.names) G.objs.size X.env)) (RR (.ref s2.heap.objs.size) G.objs.size) s3 := by
    rintro s3 rfl
    refine compLoop_own (fun n s' => ∃ i H' ys us, Inv (lcCx X scope NY s2 H2 G.objs.size fp) [(s2.heap.objs.size, LCg.lst us)] (List.replicate k none ++ O) H' s' /\ Vals ys us /\ tn i s'.heap /\ (∀ b ∈ fp, H' b = none) /\ W i n ys H') ?_ m0
      ⟨0, H2, [], [], I3, .nil, T.keep _ _ _ st2 fun b _ o e => old b o e, fun b hb => (f2 b hb).1, w0⟩
    rintro n s3 ⟨i, H3, ys, us, I3, rv, st3, fr3, w3⟩ E'
    obtain ⟨hsz, hturn⟩ := turn i n ys H3 w3
    rcases hturn with ⟨stop, qn⟩ | ⟨go, N, hN, step⟩
    · refine thn (T.done (lcCx X scope NY s2 H2 G.objs.size fp) rfl rfl rfl hc i _ s3 _ H3 E' I3 (fpY fr3) st3 stop) fun r s4 ⟨hr, I4⟩ => ?_
      subst hr
      obtain ⟨m4, hn4, _⟩ := I4.loc
      exact fin _ _ H3 s4 ys m4 hCle (I4.pin (s2.heap.objs.size, LCg.lst us) (by simp)).2.1 I4.free hDC hn4 (lc_out I2 f2 hCle (xad _) I4 rv (xch hsz)) qn
    · refine thn (T.item (lcCx X scope NY s2 H2 G.objs.size fp) rfl rfl rfl hc i _ s3 _ H3 E' I3 (fpY fr3) st3 go) fun r s4 ⟨u, hr, h4⟩ => ?_
      subst hr
      refine thn h4 fun _ s5 ⟨x, H5, I5, r5, y5, st5, fr5⟩ => ?_
      have I5' := I5.pinned (fpY fr5) (T.obj _ _ st5)
      refine thnF (hg _ s5 _ H5 x u _ I5' r5 (step x H5 y5)) fun _ s6 ⟨O6, H6, I6, sub6, q6⟩ => ?_
      have keep : ∀ {O7 : St} {H7 : Hp} {s7 : Shared}, Inv (lcCx X scope NY s2 H2 G.objs.size fp) ([(s2.heap.objs.size, LCg.lst us)] ++ pinsAt fp s5.heap) O7 H7 s7 -> tn (i + 1) s7.heap /\ (∀ b ∈ fp, H7 b = none) := fun {O7 H7 s7} I7 => by
        refine ⟨T.keep _ _ _ st5 fun b hb o e => (I7.pin (b, o) (xa8 _ (xa8 _ (mem_pinsAt hb e)))).1, fun b hb => ?_⟩
        obtain ⟨o, e, d⟩ := T.obj _ _ st5 b hb
        exact (I7.pin (b, o) (xa8 _ (xa8 _ (mem_pinsAt hb e)))).2.1
      refine thnF (ht _ s6 O6 H6 _ I6 q6) fun ok s7 ⟨H7, I7, q7⟩ => ?_
      cases ok with
      | false =>
        rw [xap xaw] at q7 ⊢
        obtain ⟨m', hm, w7⟩ := hN _ _ q7
        obtain ⟨k1, k2⟩ := keep I7
        exact ⟨m', hm, i + 1, H7, ys, us, (I7.weak (by rw [I7.len, I5.len]) sub6.2).unpinned, rv, k1, k2, w7⟩
      | true =>
        rw [xav rfl] at q7 ⊢
        refine thnF (he _ s7 O6 H7 _ I7 q7) fun y s8 ⟨v, H8, I8, r8, q8⟩ => ?_
        obtain ⟨m', hm, w8⟩ := hN _ _ q8
        obtain ⟨k1, k2⟩ := keep I8
        obtain ⟨pD, nD, neD, nfD, dD⟩ := I8.pin (s2.heap.objs.size, LCg.lst us) (by simp)
        have hul : us.toArray.size <= sizeLine := by rw [xal, <- rv.length]; exact xch hsz
        refine append_at pD (fun h9 sb9 hD9 => ?_) hul
        have I8' : Inv (lcCx X scope NY s2 H2 G.objs.size fp) [] (List.replicate k none ++ O) H8 s8 := (I8.weak (by rw [I8.len, I5.len]) sub6.2).pins_of fun p hp => xag hp (by simp)
        have hDfp : s2.heap.objs.size ∉ fp := fun z => xbj _ (hfl _ z)
        have I9 : Inv (lcCx X scope NY s2 H2 G.objs.size fp) [] (List.replicate k none ++ O) H8 { s8 with heap := h9 } :=
          I8'.turned (t' := s8.toks) (it := s2.heap.objs.size) (fun b o hb e => (sb9.2 b hb).trans e) nD neD (.inr (xad _)) (fun x c e z => by
            obtain ⟨v', o', e1, e2⟩ := I8.cell x c e
            rw [z, pD] at e1
            have e1' : LCg.lst us = o' := xa4 e1
            rw [<- e1'] at e2
            exact dl us v' e2) (fun p hp => xag hp (by simp [lcCx]))
        refine ⟨m', hm, i + 1, H8, ys ++ [v], us ++ [y], I9.pins_of fun p hp => ?_, rv.append (.cons r8 .nil), T.keep _ _ _ k1 fun b hb o e => (sb9.2 b fun z => hDfp (z ▸ hb)).trans e, k2, w8⟩
        have e : p = (s2.heap.objs.size, LCg.lst (us ++ [y])) := by simpa using hp
        subst e
        exact ⟨hD9.trans (congrArg some (LCg.lst_snoc us y)), nD, neD, nfD, dl _⟩
  exact codeAny_compStart_list (loop _ rfl) (T.self _ 0 _ _ _ (T.keep _ _ _ st2 fun b _ o e => old b o e) (loop _ rfl))
section
variable {X : Cx} {tg elt iter : Expr} {ifs : List Expr} {scope : Scope} {pos : Pos} {NY : List Str} {k : Nat} {wi : TI} {g : TG} {tc : TT} {te : TE}
theorem pe_lc (hc : X.calm = true) (lc : LC X k scope NY) (hi : PI X tg iter wi)
    (hb : ∀ (s₀ : Shared) (H₀ : Hp) (C : Addr) (ex : List Addr), NY.Nodup -> PG (lcCx X scope NY s₀ H₀ C ex) tg g /\ PTs (lcCx X scope NY s₀ H₀ C ex) ifs tc /\ PE (lcCx X scope NY s₀ H₀ C ex) elt te)
    (hs : ∀ x, foldedSetIterable iter X.env x = pure x := by intro _; rfl) : PE X (.ListComp elt [⟨tg, iter, ifs, 0⟩] scope pos) (tLC k wi g tc te) := by
  intro pins s O H Q I h
  rw [eval_ListComp]
  refine wpAny_comprehension_free (use := none) rfl hs (clos_eq fun x hx e => I.ok.has x.1 (lc.free x hx e)) lc.kind lc.names (thn (hi pins s O H _ I h) fun v s1 h1 => thn h1 fun itv s2 h2 => ?_)
  obtain ⟨it, fp, tn, J, H2, e, I2, T, st2, f2, W, ⟨m0, w0⟩, turn⟩ := h2
  subst e
  refine lc_run (RR := fun acc C => compPost (model X.prog X.w) X.A X.xe none (EP X pins O Q) acc C) hc lc hb I2 T st2 f2 w0 turn fun C D H4 s4 ys m hC nD nC hDC hn I4 q => ?_
  refine ⟨m, hn, fun h' sb => ?_⟩
  have hCn : upd H4 D (.lst ys) C = none := by rw [upd_ne (xa3 hDC)]; exact nC
  obtain ⟨f0, f1, f2', f3, f4, f5⟩ := I2.fpOk (H' := upd H4 D (.lst ys)) hC hCn
  exact ⟨.ref D, _, I4.turned (t' := s4.toks) (fun b o hb e => (sb.2 b hb).trans e) f0 f1 f3 f4 f5, rfl, q D nD⟩
end
end L2
namespace L2
open PySem.Spec PyProof.Rows
theorem log2_lt_of {n k : Nat} (hk : 0 < k) (h : n < 2 ^ k) : n.log2 < k := by
  rcases Nat.eq_zero_or_pos n with h0 | hp
  · rw [h0]; simpa using hk
  · exact (Nat.log2_lt (xb1 hp)).mpr h
section
variable {X : Cx}
theorem op_is_bl : OpR X (compareOp .Is) (fun x y H Q => ∃ a b, x = .bl a /\ y = .bl b /\ Q (.bl (a == b)) H) := by
  intro pins s O H x y v u Q I rx ry h
  obtain ⟨a, b, rfl, rfl, q⟩ := h
  cases rx
  cases ry
  exact is_bool (fin_bl I q rfl)
theorem op_isnot_bl : OpR X (compareOp .IsNot) (fun x y H Q => ∃ a b, x = .bl a /\ y = .bl b /\ Q (.bl (a != b)) H) := by
  intro pins s O H x y v u Q I rx ry h
  obtain ⟨a, b, rfl, rfl, q⟩ := h
  cases rx
  cases ry
  exact isnot_bool (fin_bl I q rfl)
def gLst (K : xFg) (n : Nat) (t : TGs) : TG := fun v O H Q => ∃ a xs, v = .ref a /\ SqL K H a xs /\ xs.length = n /\ t xs O H Q
theorem pg_lst {es : List Expr} {k : Nat} {t : TGs} {n : Nat} {pos : Pos} (hc : X.calm = true) (h : PGs X es t)
    (hn : (assignEach es X.env).length = n := by rfl) (hst : (assignEach es X.env).findIdx? (·.1) = none := by rfl) : PG X (.Tuple es k pos) (gLst X.K n t) := by
  intro pins s O H v u Q I r hw
  obtain ⟨a, xs, e1, hq, hl, hw⟩ := hw
  subst e1
  cases r
  obtain ⟨its, rv, pl, hz⟩ := I.list hq
  have hsz : (assignEach es X.env).length = its.toArray.size := by simp [hn, <- hl, rv.length]
  rw [assign_Tuple]
  refine xaa (wpAny_standAt ?_)
  unfold unpack
  rw [hsz, hst]
  refine xaa (wpAny_holding (PySem.W.kun_itemsOf (I.ok.hd hc) pl.isList fun h' hx => ?_))
  have I1 : Inv X pins O H { s with heap := h' } := I.kept (t' := s.toks) fun b o e => hx b o (xa2 (xai e)) e
  exact h pins _ O H xs _ Q I1 (by simpa using rv) hw
end
end L2
namespace L2
open PySem.Spec PyProof.Rows
theorem same_new {H : Hp} {p : Addr} (h : H p = none) (o : HO) : Same H (upd H p o) := fun b u q => by rw [upd_ne (ne_of_none q h)]; exact q
theorem Same.tup {K : xFg} {H H' : Hp} {a : Addr} {xs : List V} (e : Same H H') (h : SqT K H a xs) : SqT K H' a xs := by
  rcases h with (h | ⟨o, h⟩) | h
  · exact .inl (.inl (e _ _ h))
  · exact .inl (.inr ⟨o, e _ _ h⟩)
  · exact .inr h
theorem small {n : Nat} (h : n <= 1000) : n <= sizeLine := xch (small1000 h)
section
variable {K : xFg} {a : Addr} {xs : List V} {H : Hp}
theorem lgo (h : SqL K H a xs) : (Itl K a).stop xs.length H /\ ∀ i, i < xs.length -> (Itl K a).go i H /\ ∀ v H', (Itl K a).yld i H v H' -> H' = H /\ xs[i]? = some v :=
  ⟨⟨xs, h, xad _⟩, fun i hi => ⟨⟨xs, xs[i], h, by simp [hi]⟩, fun v H' y => ⟨y.1, y.2 xs h⟩⟩⟩
theorem tgo (h : SqT K H a xs) : (Itt K a).stop xs.length H /\ ∀ i, i < xs.length -> (Itt K a).go i H /\ ∀ v H', (Itt K a).yld i H v H' -> H' = H /\ xs[i]? = some v :=
  ⟨⟨xs, h, xad _⟩, fun i hi => ⟨⟨xs, xs[i], h, by simp [hi]⟩, fun v H' y => ⟨y.1, y.2 xs h⟩⟩⟩
end
end L2
namespace L2
open PySem.Spec PyProof.Rows
structure Fly (B : Heap) (l : List Env) (x : Addr) (cls : Value) (dct : Option Addr) (fl : Value) (h : Heap) : Prop where
  stays : B.StaysIn h
  new : B.get? x = none
  frames : h.FunFrames B l
  obj : ∃ ox vs T oT ts, h.get? x = some ox /\ ox.cls = cls /\ ox.dict = dct /\ ox.data = .fields vs /\ vs[1]? = some (.ref T) /\ B.get? T = none /\ T ≠ x /\ h.get? T = some oT /\ oT.data = .fields ts /\ ts[3]? = some fl
theorem dict_mapF (o : Obj) (f : Array Value -> Array Value) : (o.mapFields f).dict = o.dict := by
  obtain ⟨c, d, dt, sl⟩ := o; cases dt <;> rfl
section
variable {M : Model} {A : Around} {E : Value -> Shared -> Prop} {s : Shared} {B : Heap} {env : Env} {outer : List Env} {L x : Addr} {Q : Unit -> Shared -> Prop}
theorem other_rec {h : Heap} {y : Addr} {oy : Obj} {ws : Array Value} (ey : h.get? y = some oy) (dy : oy.data = .fields ws) {b : Addr} {o : Obj} (eb : h.get? b = some o) (nf : ∀ us, o.data ≠ .fields us) : b ≠ y := fun z => by
  rw [z, ey] at eb
  have z' : oy = o := xa4 eb
  rw [<- z'] at nf
  exact nf ws dy
theorem fly_entry {ox : Obj} {vs : Array Value} {head : Value} {hadNext : Bool} (hfr : A.frames = some (env :: outer)) (hl : s.heap.FunFrames B (env :: outer)) (hf : env.frame = some L)
    (ex : s.heap.get? x = some ox) (hB : B.StaysIn s.heap) (nx : B.get? x = none) (dx : ox.data = .fields vs) (sz : 1 < vs.size)
    (k : ∀ h', Fly B (env :: outer) x ox.cls ox.dict (rawInt L) h' -> s.heap.UpToSlots h' -> Q () { s with heap := h' }) :
    wpAny M A (do let a <- frameOf env; let pl <- entryPlaceOf L hadNext; let b <- EntryCells.newEntry head a .none (rawInt L) .none pl; setField (.ref x) 1 b) Q E s := by
  have nfr : x ∉ (env :: outer).filterMap (·.frame) := fun hm => by
    obtain ⟨_, o, ho, nf⟩ := hl.mem hm
    exact other_rec ex dx ho nf rfl
  refine xaa (wpAny_frameOf_fun hfr hl hf fun g1 so => xaa (wpAny_entryPlaceOf fun pl hpl => ?_))
  unfold EntryCells.newEntry newFields
  refine xaa (wpAny_newObj_type ?_ (hpl.sizeOk5 _ _ _ _ _))
  have ex1 : g1.get? x = some ox := (so.2.1 x nfr).trans ex
  have B1 : B.StaysIn g1 := fun b o eb => (so.2.1 b fun hm => by rw [(hl.mem hm).1] at eb; cases eb).trans (hB b o eb)
  generalize eo : ({ cls := .type "traceback", dict := none, data := .fields ([head, .ref L, .none, rawInt L, .none] ++ (if pl.isEmpty then List.replicate 6 Value.none else pl)).toArray } : Obj) = ob
  have ex2 := xab (h := g1) ob ex1
  refine wpAny_setField ex2 dx sz (k _ ?_ ?_)
  · have Tx : g1.objs.size ≠ x := xb1 (xai ex1)
    have d3 := Obj.data_mapFields dx (·.setIfInBounds 1 (Value.ref g1.objs.size))
    have e3 := xcn (Obj.mapFields (·.setIfInBounds 1 (Value.ref g1.objs.size))) ex2 (Obj.isFreed_of_fields d3)
    have freeOb : ob.isFreed = false := by rw [<- eo]; rfl
    have T3 := (xbg (g1.push ob) (Obj.mapFields (·.setIfInBounds 1 (Value.ref g1.objs.size))) (xa3 Tx)).trans (xau g1 freeOb)
    refine ⟨fun b o eb => ?_, nx, hl.of_keeps fun b o eb nf => ?_, _, _, g1.objs.size, ob, _, e3, Obj.cls_mapFields _ _, dict_mapF _ _, d3, by simp [sz], B1.fresh, Tx, T3, by rw [<- eo], ?_⟩
    · rw [xbg _ _ (fun z => by rw [<- z, nx] at eb; cases eb)]
      exact xab _ (B1 b o eb)
    · obtain ⟨sl, q⟩ := so.2.2 b o eb
      refine ⟨{ o with slots := sl }, ?_, rfl⟩
      rw [xbg _ _ (xa3 (other_rec ex dx eb nf))]
      exact xab _ q
    · rcases hpl with rfl | ⟨_, _, _, _, _, _, _, rfl⟩ <;> simp
  · intro b o eb nf
    obtain ⟨sl, q⟩ := so.2.2 b o eb
    refine ⟨sl, ?_⟩
    rw [xbg _ _ (xa3 (other_rec ex dx eb nf))]
    exact xab _ q
theorem fly_first {ox : Obj} {vs : Array Value} (hfr : A.frames = some (env :: outer)) (hl : s.heap.FunFrames B (env :: outer)) (hf : env.frame = some L)
    (ex : s.heap.get? x = some ox) (hB : B.StaysIn s.heap) (nx : B.get? x = none) (dx : ox.data = .fields vs) (v1 : vs[1]? = some .none)
    (k : ∀ h', Fly B (env :: outer) x ox.cls ox.dict (rawInt L) h' -> s.heap.UpToSlots h' -> Q () { s with heap := h' }) : wpAny M A (noteFrame (.ref x) env) Q E s := by
  unfold noteFrame
  simp only [hf]
  refine xaa (wpAny_field ex dx v1 ?_)
  rw [xap (show ¬ ((Value.none != Value.none) = true) by decide)]
  exact fly_entry hfr hl hf ex hB nx dx (xbk.mp v1).1 k
theorem fly_next {cls : Value} {dct : Option Addr} (hfr : A.frames = some (env :: outer)) (hf : env.frame = some L) (F : Fly B (env :: outer) x cls dct .none s.heap)
    (k : ∀ h', Fly B (env :: outer) x cls dct (rawInt L) h' -> s.heap.UpToSlots h' -> Q () { s with heap := h' }) : wpAny M A (noteFrame (.ref x) env) Q E s := by
  obtain ⟨ox, vs, T, oT, ts, ex, hc, hd, dx, v1, nT, Tx, eT, dT, t3⟩ := F.obj
  subst hc hd
  unfold noteFrame
  simp only [hf]
  refine xaa (wpAny_field ex dx v1 ?_)
  rw [xav (show (Value.ref T != Value.none) = true by simp)]
  refine xaa (wpAny_field eT dT t3 ?_)
  rw [xap (show ¬ ((Value.none == rawInt L) = true) by simp [rawInt])]
  refine xaa (wpAny_setField eT dT (xbk.mp t3).1 ?_)
  have oth : ∀ b, b ≠ T -> (s.heap.update T (Obj.mapFields (·.setIfInBounds 3 Value.none))).get? b = s.heap.get? b := fun b hb => xbg _ _ (xa3 hb)
  have up : s.heap.UpToSlots (s.heap.update T (Obj.mapFields (·.setIfInBounds 3 Value.none))) := fun b o eb nf => ⟨o.slots, (oth b (other_rec eT dT eb nf)).trans eb⟩
  refine fly_entry hfr (F.frames.of_keeps fun b o eb nf => ⟨o, (oth b (other_rec eT dT eb nf)).trans eb, rfl⟩) hf ((oth x (xa3 Tx)).trans ex) (fun b o eb => (oth b fun z => by rw [z, nT] at eb; cases eb).trans (F.stays b o eb)) F.new dx
    (xbk.mp v1).1 fun h' f u => k h' f (up.trans u)
theorem fly_land {l : List Env} {cls fl : Value} {dct : Option Addr} (F : Fly B l x cls dct fl s.heap)
    (k : ∀ h', Fly B l x cls dct .none h' -> s.heap.UpToSlots h' -> Q () { s with heap := h' }) : wpAny M A (setFlight (.ref x) none) Q E s := by
  obtain ⟨ox, vs, T, oT, ts, ex, hc, hd, dx, v1, nT, Tx, eT, dT, t3⟩ := F.obj
  have sz : 3 < ts.size := (xbk.mp t3).1
  unfold setFlight
  refine xaa (wpAny_field ex dx v1 ?_)
  rw [xav (show (Value.ref T != Value.none) = true by simp)]
  have oth : ∀ b, b ≠ T -> (s.heap.update T (Obj.mapFields (·.setIfInBounds 3 ((none : Option Addr).elim Value.none fun f => rawInt f)))).get? b = s.heap.get? b := fun b hb => xbg _ _ (xa3 hb)
  refine wpAny_setField eT dT sz (k _ ⟨fun b o eb => (oth b fun z => by rw [z, nT] at eb; cases eb).trans (F.stays b o eb), F.new, F.frames.of_keeps fun b o eb nf => ⟨o, (oth b (other_rec eT dT eb nf)).trans eb, rfl⟩,
    ox, vs, T, _, _, (oth x (xa3 Tx)).trans ex, hc, hd, dx, v1, nT, Tx, xcn _ eT (Obj.isFreed_of_fields (Obj.data_mapFields dT _)), Obj.data_mapFields dT _, by simp [sz]⟩
    fun b o eb nf => ⟨o.slots, (oth b (other_rec eT dT eb nf)).trans eb⟩)
theorem Fly.out {cls : Value} {dct : Option Addr} {fl : Value} {h : Heap} (F : Fly B (env :: outer) x cls dct fl h) : Fly B outer x cls dct fl h := ⟨F.stays, F.new, F.frames.2.2, F.obj⟩
end
end L2
namespace L2
open PySem.Spec PyProof.Rows
theorem ObjOk.there {P : Program} {w : World} {H : Hp} {h : Heap} {a : Addr} {o : HO} (x : ObjOk P w H h a o) : ∃ ob, h.get? a = some ob := by
  cases o with
  | lst xs => obtain ⟨_, _, _, _, e⟩ := x; exact ⟨_, e⟩
  | tup xs => obtain ⟨_, _, _, ob, e, _⟩ := x; exact ⟨ob, e⟩
  | dK kvs => obtain ⟨_, _, _, _, o, _, _, e, _⟩ := x; exact ⟨o, e⟩
  | dT kvs => obtain ⟨_, _, _, _, o, _, _, e, _⟩ := x; exact ⟨o, e⟩
  | set S n => obtain ⟨o, _, _, _, e, _⟩ := x; exact ⟨o, e⟩
  | ins C dx fs => obtain ⟨_, _, _, e, _⟩ := x; exact ⟨_, e⟩
  | own y => exact x
  | xd fs => obtain ⟨_, ⟨o, _, _, e, _⟩, _⟩ := x; exact ⟨o, e⟩
  | rng lo hi => obtain ⟨_, _, _, e⟩ := x; exact ⟨_, e⟩
  | frz ob u => obtain ⟨e, _⟩ := x; exact ⟨_, e⟩
  | tbl ps => exact ⟨_, (show h.get? a = some _ from x)⟩
  | met f y => exact ⟨_, (show h.get? a = some _ from x)⟩
  | ext φ => exact x.2.1
structure InB (B : Heap) (fs : List Addr) (h0 : Heap) (H' : Hp) (h' : Heap) : Prop where
  old : ∀ b o, h0.get? b = some o -> b ∉ fs -> ∀ o', h'.get? b = some o' -> B.get? b = some o'
  trk : ∀ b u, H' b = some u -> ∀ o', h'.get? b = some o' -> B.get? b = some o'
def CXe (P : Program) (w : World) : CXT := fun outer H s E e s' => ∃ (x C : Addr) (dct : Option Addr) (H' : Hp) (B : Heap), e = .ref x /\ s'.os = s.os /\ AllBare s'.gens /\ Un (frs outer) [] H H' s.heap s'.heap /\ HOk P w H' s'.heap /\
  Fly B outer x (.ref C) dct .none s'.heap /\ InB B (frs outer) s.heap H' s'.heap /\ H' x = none /\ E (.ref C) dct H'
section
variable {X : Cx} {pins : List (Addr × Obj)} {O : St} {H H' : Hp} {s s' : Shared} {x C : Addr} {B : Heap} {E : XK} {dct : Option Addr} {M : Model} {EE : Value -> Shared -> Prop}
theorem frs_cons {env : Env} {outer : List Env} {L : Addr} (hf : env.frame = some L) : frs (env :: outer) = L :: frs outer := by
  unfold frs; rw [xcb, hf]
theorem leave_made {h' : Heap} {args : List Value} {tk : Nat} (I : Inv X pins O H s) (hst : X.stack = X.env :: X.outer) (hf : X.env.frame = some X.env.locals) (hex : X.ex = []) (m : Heap.MadeExcOf s.heap h' x (.ref C) args) (hE : E (.ref C) none H) :
    wpAny M X.A (leaving X.env (.ref x)) (fun _ s2 => CXe X.prog X.w X.outer X.H₀ X.s₀ E (.ref x) s2) EE { s with heap := h', toks := tk } := by
  have stk := I.stack
  have hfr : X.A.frames = some (X.env :: X.outer) := by rw [<- hst]; exact I.ok.frames
  rw [hst] at stk
  have fc : frs (X.env :: X.outer) = X.env.locals :: X.fs := frs_cons hf
  have hin : ∀ env ∈ (X.env :: X.outer), ∀ b, env.frame = some b -> b ∈ frs (X.env :: X.outer) := fun env he b hb => List.mem_filterMap.mpr ⟨env, he, hb⟩
  generalize eB : PySem.W.hideAll s.heap (frs (X.env :: X.outer)) = B
  have inB : ∀ b o, s.heap.get? b = some o -> b ∉ frs (X.env :: X.outer) -> B.get? b = some o := fun b o e n => by rw [<- eB]; exact PySem.W.hideAll_get _ e n
  have ofB : ∀ b o, B.get? b = some o -> s.heap.get? b = some o := fun b o e => by rw [<- eB] at e; exact PySem.W.of_hideAll _ e
  have fl0 : s.heap.FunFrames B (X.env :: X.outer) := by rw [<- eB]; exact PySem.W.funFrames_hide stk hin
  have nx : B.get? x = none := by
    cases q : B.get? x with
    | none => rfl
    | some o => have := ofB x o q; rw [m.new] at this; cases this
  obtain ⟨t, et, _, _⟩ := m.there
  have tfree : ∀ b u, H b = some u -> b ∉ frs (X.env :: X.outer) := fun b u e hb => by
    have := I.stkFree b (by rw [hst]; exact hb)
    rw [e] at this; cases this
  have hHx : H x = none := by
    cases q : H x with
    | none => rfl
    | some u =>
      obtain ⟨ob, e⟩ := (I.hok x u q).there
      rw [m.new] at e; cases e
  unfold leaving
  refine xaa (fly_first (s := { s with heap := h', toks := tk }) hfr (fl0.of_keeps fun b o e _ => ⟨o, m.keeps b o e, rfl⟩) hf et (fun b o e => m.keeps b o (ofB b o e)) nx rfl rfl fun h1 F1 u1 => fly_land F1 fun h2 F2 u2 => ?_)
  have up : s.heap.UpToSlots h2 := (Heap.UpToSlots.of_keeps m.keeps).trans (u1.trans u2)
  have keep2 : ∀ b o, s.heap.get? b = some o -> b ∉ frs (X.env :: X.outer) -> h2.get? b = some o := fun b o e n => F2.stays b o (inB b o e n)
  have below : ∀ b o, X.s₀.heap.get? b = some o -> b ∉ X.fs -> b ∉ frs (X.env :: X.outer) := fun b o e nb hb => by
    rw [fc] at hb
    rcases xam.mp hb with z | z
    · exact xag (xak (xai e) I.ok.above) (by rw [z]; exact xbj _)
    · exact nb z
  have noex : ∀ b, b ∉ X.ex := fun b z => by rw [hex] at z; cases z
  have slot2 : ∀ b o, s.heap.get? b = some o -> b ∈ X.fs -> ∃ sl, h2.get? b = some { o with slots := sl } := fun b o e hb => by
    obtain ⟨_, o1, e1, nf⟩ := stk.mem (b := b) (by show b ∈ frs (X.env :: X.outer); rw [fc]; exact xaq _ hb)
    rw [e] at e1; cases e1
    exact up b o e nf
  refine ⟨x, C, none, H, B, rfl, I.os, I.bare, ⟨fun b o e n hb _ => keep2 b o (I.base.keep b o e n hb (noex b)) (below b o e hb), fun b o e n hb _ => ?_, fun b o e n _ => I.base.free b o e n (noex b), fun b o e _ => ?_, I.base.tups, I.base.frzs, I.base.tbls⟩,
    fun b u e => (I.hok b u e).stay (fun c v hc q => keep2 c v q ?_) (fun _ q => q) fun _ _ q => q, F2.out, ⟨fun b o e nb o' e' => ?_, fun b u e o' e' => ?_⟩, hHx, hE⟩
  · obtain ⟨sl, e1⟩ := I.base.slot b o e n hb (noex b)
    obtain ⟨sl2, e2⟩ := slot2 b _ e1 hb
    exact ⟨sl2, e2⟩
  · obtain ⟨o1, e1⟩ := I.base.there b o e (noex b)
    by_cases hb : b ∈ X.fs
    · obtain ⟨sl2, e2⟩ := slot2 b _ e1 hb
      exact ⟨_, e2⟩
    · exact ⟨o1, keep2 b o1 e1 (below b o e hb)⟩
  · rcases hc with z | z
    · rw [z]; exact tfree b u e
    · exact tfree c _ z
  · obtain ⟨o1, e1⟩ := I.base.there b o e (noex b)
    have q := inB b o1 e1 (below b o e nb)
    rw [F2.stays b o1 q] at e'
    cases e'; exact q
  · obtain ⟨o1, e1⟩ := (I.hok b u e).there
    have q := inB b o1 e1 (tfree b u e)
    rw [F2.stays b o1 q] at e'
    cases e'; exact q
theorem leave_on {e : Value} (I : Inv X pins O H s) (hst : X.stack = X.env :: X.outer) (hf : X.env.frame = some X.env.locals) (hex : X.ex = []) (h : CXe X.prog X.w X.stack H s E e s') :
    wpAny M X.A (leaving X.env e) (fun _ s2 => CXe X.prog X.w X.outer X.H₀ X.s₀ E e s2) EE s' := by
  obtain ⟨x, C, dct, H', B, rfl, ho, hg, un, hok, F, ib, nx, hE⟩ := h
  have stk := I.stack
  have hfr : X.A.frames = some (X.env :: X.outer) := by rw [<- hst]; exact I.ok.frames
  rw [hst] at stk F ib un
  have fc : frs (X.env :: X.outer) = X.env.locals :: X.fs := frs_cons hf
  unfold leaving
  refine xaa (fly_next hfr hf F fun h1 F1 u1 => fly_land F1 fun h2 F2 u2 => ?_)
  have up : s'.heap.UpToSlots h2 := u1.trans u2
  have below : ∀ b o, X.s₀.heap.get? b = some o -> b ∉ X.fs -> b ∉ frs (X.env :: X.outer) := fun b o e nb hb => by
    rw [fc] at hb
    rcases xam.mp hb with z | z
    · exact xag (xak (xai e) I.ok.above) (by rw [z]; exact xbj _)
    · exact nb z
  have inFs : ∀ b, b ∈ X.fs -> b ∈ frs (X.env :: X.outer) := fun b hb => by rw [fc]; exact xaq _ hb
  have noex : ∀ b, b ∉ X.ex := fun b z => by rw [hex] at z; cases z
  have no0 : ∀ b : Addr, b ∉ ([] : List Addr) := fun b => by simp
  have slot2 : ∀ b o, s.heap.get? b = some o -> H b = none -> b ∈ X.fs -> ∃ sl, h2.get? b = some { o with slots := sl } := fun b o e n hb => by
    obtain ⟨_, o1, e1, nf⟩ := stk.mem (b := b) (inFs b hb)
    rw [e] at e1; cases e1
    obtain ⟨sl, e2⟩ := un.slot b o e n (inFs b hb) (no0 b)
    obtain ⟨sl2, e3⟩ := up b _ e2 nf
    exact ⟨sl2, e3⟩
  have free1 : ∀ b o, X.s₀.heap.get? b = some o -> X.H₀ b = none -> H b = none := fun b o e n => I.base.free b o e n (noex b)
  refine ⟨x, C, dct, H', B, rfl, ho.trans I.os, hg, ⟨fun b o e n hb _ => ?_, fun b o e n hb _ => ?_, fun b o e n _ => ?_, fun b o e _ => ?_, fun b xs q => un.tups b xs (I.base.tups b xs q), fun b o u q => un.frzs b o u (I.base.frzs b o u q), fun b ps q => ?_⟩,
    fun b u e => (hok b u e).stay (fun c v hc q => F2.stays c v ?_) (fun _ q => q) fun _ _ q => q, F2.out, ⟨fun b o e nb o' e' => ?_, fun b u e o' e' => ?_⟩, nx, hE⟩
  · have e1 := I.base.keep b o e n hb (noex b)
    have e2 := un.keep b o e1 (free1 b o e n) (below b o e hb) (no0 b)
    exact F2.stays b o (ib.old b o e1 (below b o e hb) o e2)
  · obtain ⟨sl, e1⟩ := I.base.slot b o e n hb (noex b)
    obtain ⟨sl2, e2⟩ := slot2 b _ e1 (free1 b o e n) hb
    exact ⟨sl2, e2⟩
  · obtain ⟨o1, e1⟩ := I.base.there b o e (noex b)
    exact un.free b o1 e1 (free1 b o e n) (no0 b)
  · obtain ⟨o1, e1⟩ := I.base.there b o e (noex b)
    obtain ⟨o2, e2⟩ := un.there b o1 e1 (no0 b)
    by_cases hb : b ∈ X.fs
    · have n : H b = none := I.stkFree b (by rw [hst]; exact inFs b hb)
      obtain ⟨sl2, e3⟩ := slot2 b _ e1 n hb
      exact ⟨_, e3⟩
    · exact ⟨o2, F2.stays b o2 (ib.old b o1 e1 (below b o e hb) o2 e2)⟩
  · obtain ⟨m1, e1⟩ := I.base.tbls b ps q
    obtain ⟨m2, e2⟩ := un.tbls b _ e1
    exact ⟨m1 ++ m2, by rw [e2, Array.append_assoc]⟩
  · rcases hc with z | z
    · subst z; exact ib.trk c u e v q
    · exact ib.trk c _ z v q
  · obtain ⟨o1, e1⟩ := I.base.there b o e (noex b)
    obtain ⟨o2, e2⟩ := un.there b o1 e1 (no0 b)
    have q := ib.old b o1 e1 (below b o e nb) o2 e2
    rw [F2.stays b o2 q] at e'
    cases e'; exact q
  · obtain ⟨o1, e1⟩ := (hok b u e).there
    have q := ib.trk b u e o1 e1
    rw [F2.stays b o1 q] at e'
    cases e'; exact q
def excO (x C : Addr) (dct : Option Addr) : HO := .ext fun h => ∃ o, h.get? x = some o /\ o.cls = .ref C /\ o.dict = dct /\ PySem.W.notCls o = true
theorem caught_inv {h3 : Heap} {tk : Nat} (I : Inv X pins O H s) (ho : s'.os = s.os) (hg : AllBare s'.gens) (un : Un (frs X.stack) [] H H' s.heap s'.heap) (hok : HOk X.prog X.w H' s'.heap) (F : Fly B X.stack x (.ref C) dct .none h3)
    (ib : InB B (frs X.stack) s.heap H' s'.heap) (up : s'.heap.UpToSlots h3) (nx : H' x = none) : Inv X pins O (upd H' x (excO x C dct)) { s' with heap := h3, toks := tk } := by
  have stk := I.stack
  have no0 : ∀ b : Addr, b ∉ ([] : List Addr) := fun b => by simp
  have nex : ∀ b o, s.heap.get? b = some o -> b ∉ frs X.stack -> b ≠ x := fun b o e nb z => by
    obtain ⟨o2, e2⟩ := un.there b o e (no0 b)
    have q := ib.old b o e nb o2 e2
    rw [z, F.new] at q; cases q
  have nfx : ∀ b, b ∈ frs X.stack -> b ≠ x := fun b hb z => by
    obtain ⟨_, o1, e1, nf⟩ := F.frames.mem (b := b) hb
    obtain ⟨ox, vs, T, oT, ts, ex, _, _, dx, _⟩ := F.obj
    rw [z, ex] at e1; cases e1
    exact nf vs dx
  have ne : ∀ b o, s.heap.get? b = some o -> b ≠ x := fun b o e => by
    by_cases hb : b ∈ frs X.stack
    · exact nfx b hb
    · exact nex b o e hb
  have hok3 : HOk X.prog X.w (upd H' x (excO x C dct)) h3 := fun b u e => by
    by_cases hb : b = x
    · subst hb
      rw [upd_same] at e; cases e
      obtain ⟨ox, vs, T, oT, ts, ex, hc, hd, dx, _⟩ := F.obj
      have nc : PySem.W.notCls ox = true := by unfold PySem.W.notCls; rw [dx]
      exact ⟨⟨ox, ex, hc, hd, nc⟩, ⟨ox, ex⟩, fun h1 h2 ⟨o, q, r⟩ k => ⟨o, k o q, r⟩⟩
    · rw [upd_ne hb] at e
      refine (hok b u e).stay (fun c v hc q => F.stays c v ?_) (fun c q => by rw [upd_ne (ne_of_none q nx)]; exact q) fun c xs q => by rw [upd_ne (ne_of_none q nx)]; exact q
      rcases hc with z | z
      · subst z; exact ib.trk c u e v q
      · exact ib.trk c _ z v q
  have U : Un (frs X.stack) [] H (upd H' x (excO x C dct)) s.heap h3 := by
    refine ⟨fun b o e n hb _ => ?_, fun b o e n hb _ => ?_, fun b o e n _ => ?_, fun b o e _ => ?_, fun b xs q => ?_, fun b o u q => ?_, fun b ps q => ?_⟩
    · exact F.stays b o (ib.old b o e hb o (un.keep b o e n hb (no0 b)))
    · obtain ⟨sl, e1⟩ := un.slot b o e n hb (no0 b)
      obtain ⟨_, o1, e2, nf⟩ := stk.mem (b := b) hb
      rw [e] at e2; cases e2
      obtain ⟨sl2, e3⟩ := up b _ e1 nf
      exact ⟨sl2, e3⟩
    · rw [upd_ne (ne b o e)]; exact un.free b o e n (no0 b)
    · obtain ⟨o2, e2⟩ := un.there b o e (no0 b)
      by_cases hb : b ∈ frs X.stack
      · have n : H b = none := I.stkFree b hb
        obtain ⟨sl, e1⟩ := un.slot b o e n hb (no0 b)
        obtain ⟨_, o1, e3, nf⟩ := stk.mem (b := b) hb
        rw [e] at e3; cases e3
        obtain ⟨sl2, e4⟩ := up b _ e1 nf
        exact ⟨_, e4⟩
      · exact ⟨o2, F.stays b o2 (ib.old b o e hb o2 e2)⟩
    · have z := un.tups b xs q
      rw [upd_ne (ne_of_none z nx)]; exact z
    · have z := un.frzs b o u q
      rw [upd_ne (ne_of_none z nx)]; exact z
    · obtain ⟨more, z⟩ := un.tbls b ps q
      exact ⟨more, by rw [upd_ne (ne_of_none z nx)]; exact z⟩
  have J := I.call (g' := s'.gens) (t' := tk) (d' := s'.drawn) (ch := []) U hok3 hg (fun b z => xag z (no0 b))
  obtain ⟨hh, g, d, t, os⟩ := s'
  have e : os = s.os := ho
  subst e
  exact J
end
end L2
namespace L2
open PySem.Spec PyProof.Rows PySem.W
section
variable {prog : Program} {w : World} {A : Around} {E : Value -> Shared -> Prop} {s : Shared} {K : Frag} {x D : Addr} {ox : Obj} {od : Option Obj} {name : Str} {tk : Tok}
theorem exc_check {M : Model} {nameV : Value} {Q : Unit -> Shared -> Prop} (X : K.In s.heap) (I : InstAt s.heap x ox D od) (hb : mroIn K D (.type "BaseException") = some true) (hq : Q () s) :
    wpAny M A (checkBuiltinCall "BaseException.__getattribute__" ⟨[.ref x, nameV], []⟩) Q E s := by
  have hk : builtinKind "BaseException.__getattribute__" = some .slot := by decide +kernel
  have hsp : splitId "BaseException.__getattribute__" = some ("BaseException", "__getattribute__") := by decide +kernel
  have ha := F.args_bexc_ga (.ref x) nameV
  obtain ⟨hh, g, d, t, os⟩ := s
  have L0 : Looks M hh (isInstance (.ref x) (.type "BaseException")) true := (I.type (M := M)).andThen (looks_mroIn X hb)
  simp only [checkBuiltinCall, hk, hsp]
  refine xaa (L0.at ?_)
  repeat (any_goals (first | assumption | wp_step))
theorem exc_ga {R : Result -> Shared -> Prop} {g a : Value} (X : K.In s.heap) (I : InstAt s.heap x ox D od) (hb : mroIn K D (.type "BaseException") = some true) (hf : findObj K D od name = some (.bind g a))
    (h : wpAny (model prog w) A.in1 (call g [a, .ref x, .ref D]) (fun v s' => R (.ok (.ret v)) s') (fun e s' => R (.error e) s') s) :
    codeAny (model prog w) A (.call (.builtin "BaseException.__getattribute__") ⟨[.ref x, .str name tk], []⟩) R s := by
  refine codeAny_call_builtin F.attr_ValueError.ga.plain F.entry_bexc_ga (exc_check X I hb ?_)
  obtain ⟨hh, gg, d, t, os⟩ := s
  have L0 := I.type (M := model prog w)
  have L1 := looks_find (M := model prog w) X I hf
  unfold Builtin.«object.__getattribute__»
  refine xaa (wpAny_of_eq (a := (Value.ref x, [Value.str name tk])) rfl ?_)
  refine xaa (wpAny_of_eq (a := name) rfl ?_)
  refine xaa (L0.at (xaa (L1.at ?_)))
  show wpAny _ _ (do ret (<- holding [a] (call g [a, Value.ref x, Value.ref D]))) _ _ _
  exact xaa (wpAny_holding (wpAny_mono h (fun v s' q => xan q) fun e s' q => q))
theorem findObj_bind {a g : Value} (hc : (clsIn K D).isSome = true) (ha : findIn K (.ref D) name = some (some a)) (hg : specialIn K a "__get__" = some (some g)) (ht : takesIn K a = some true) : findObj K D od name = some (.bind g a) := by
  obtain ⟨cd, hc⟩ := xbw.mp hc
  unfold findObj
  rw [hc, Option.bind_some, ha, Option.bind_some]
  simp [hg, ht]
structure ExcC (K : Frag) (D : Addr) : Prop where
  cls : (clsIn K D).isSome = true
  ga : findIn K (.ref D) "__getattribute__" = some (some (.builtin "BaseException.__getattribute__"))
  gh : findIn K (.ref D) "__getattr__" = some none
  base : mroIn K D (.type "BaseException") = some true
  obj : mroIn K D (.type "object") = some true
  ca : findIn K (.ref D) "__class__" = some (some (.builtin "object.__class__"))
  cg : specialIn K (.builtin "object.__class__") "__get__" = some (some (.builtin "getset_descriptor.__get__"))
  ct : takesIn K (.builtin "object.__class__") = some true
theorem exc_class {Q : Option Value -> Shared -> Prop} (c : ExcC K D) (X : K.In s.heap) (I : InstAt s.heap x ox D od) (h : Q (some (.ref D)) { s with toks := s.toks + 1 }) :
    wpAny (model prog w) A (getAttr? (.ref x) "__class__") Q E s := by
  obtain ⟨hh, gg, d, t, os⟩ := s
  have L0 := I.type (M := model prog w)
  have L1 := looks_findIn (M := model prog w) X c.ga
  have L2 := looks_findIn (M := model prog w) X c.gh
  have hf : findObj K D od "__class__" = some (.bind (.builtin "getset_descriptor.__get__") (.builtin "object.__class__")) := findObj_bind c.cls c.ca c.cg c.ct
  have hx1 : (onTheHeap (Value.ref D) && Value.builtin "BaseException.__getattribute__" == Value.builtin "object.__getattribute__") = false := by
    rw [show (Value.builtin "BaseException.__getattribute__" == Value.builtin "object.__getattribute__") = false by decide +kernel]; rfl
  unfold getAttr? getAttrBy? getAttrBy
  refine xaa (wpAny_mkText (xaa (wpAny_attempt (wpAny_holding (xaa (L0.at (xaa (L1.at ?_))))))))
  dsimp only
  rw [hx1, xap xaw]
  unfold getAttrByItsOwn
  refine xaa ?_
  show wpAny _ _ (typeLookup (.ref D) "__getattr__") _ _ _
  refine L2.at ?_
  refine xaa (wpAny_attempt (wpAny_holding ?_))
  show wpAny _ _ (boundAndCalled (.builtin "BaseException.__getattribute__") (.ref x) (.str "__class__" t)) _ _ _
  unfold boundAndCalled
  refine xaa (wpAny_of_eq (F.attr_ValueError.ga.bind (.ref x)) ?_)
  refine wpAny_call (exc_ga X I c.base hf ?_)
  refine wpAny_call (class_get X I c.obj ?_)
  exact handed_on rfl (xan h)
theorem kitx_exc (c : ExcC K D) : KitX K (.ref x) (.ref D) (fun h => ∃ ox od, InstAt h x ox D od) where
  ty := fun _ _ _ ⟨_, _, I⟩ => I.type
  it := fun _ _ X _ => by
    obtain ⟨cdD, hcD⟩ := xbw.mp c.cls
    unfold clsIn at hcD
    split at hcD
    · rename_i c' d' cd' sl' ho
      intro A' Q' E' s' k q
      unfold isType loadHead
      exact xaa (wpAny_loadPart (k _ _ (X _ _ ho)) (xan q))
    · cases hcD
  ne := fun h tp dd its n sl X htp => by
    obtain ⟨cdD, hcD⟩ := xbw.mp c.cls
    refine Bool.eq_false_iff.mpr fun q => ?_
    have e : D = tp := Value.ref.inj (beq_iff_eq.mp q)
    subst e
    unfold clsIn at hcD
    split at hcD
    · rename_i c' d' cd' sl' ho
      have z := (X _ _ ho).symm.trans htp
      cases z
    · cases hcD
  ca := fun X ⟨_, _, I⟩ k => exc_class c X I k
end
end L2
namespace L2
open PySem.Spec PyProof.Rows
section
variable {P : Program} {w : World} {K : xFg} {mg : Str -> Option Value} {base : Heap}
theorem Fun.okX {CX : CXT} {x qual : Str} {st : Stmt} {f : Addr} {fd : FuncData} {N ps : List Str} {k : Nat} {sp : Sp} (F : Fun K x qual st f fd) (S : FnScope N ps (defScope st)) (len : ∀ vs H Q E, sp vs H Q E -> vs.length = ps.length)
    (hbody : ∀ (cdv : Value) (A : Around) (outer : List Env) (s : Shared) (H : Hp) (vs : List V) (Q : VK) (E : XK), Room k (A.deeper (envOfC qual (defScope st) s.heap.objs.size f cdv)) -> sp vs H Q E ->
      ∃ t, PSs (cxOf CX P w K mg base N qual (defScope st) f cdv A outer s H E) (defBody st) t /\ t { nx := fun _ H' => Q .non H', rt := Q } (start N vs) H) : FnOk P w K mg base CX (k + 1) f fd ps sp := by
  obtain ⟨oc, od, kV, doc, pm, an, cdv, ct, osl, rfl, lk, hcd⟩ := F.ex
  exact fn_of lk hcd S len fun A outer s H vs Q E hr hsp => hbody cdv A outer s H vs Q E hr hsp
theorem passE {N : List Str} {qual : Str} {scope : Scope} {f : Addr} {cdv : Value} {A : Around} {outer : List Env} {s : Shared} {H : Hp} {E : XK} : Passes (CXe P w) (cxOf (CXe P w) P w K mg base N qual scope f cdv A outer s H E) E :=
  fun pins O H1 s1 e s' I h => leave_on (X := cxOf (CXe P w) P w K mg base N qual scope f cdv A outer s H E) I rfl rfl rfl h
theorem passN {X : Cx} : Passes (CXe P w) X E0 := fun _ _ _ _ _ _ _ h => by
  obtain ⟨_, _, _, _, _, _, _, _, _, _, _, _, _, z⟩ := h
  exact z.elim
end
theorem exc_obj {K : xFg} {h : Heap} {C : Addr} {bmB : List Value} {newId : String} (X : K.In h) (q : PySem.W.excIn K C bmB newId = true) :
    ∃ bm N nm qn bs hdct sn sub ab col dd k0 k1 k2 k3 k5 mN, h.get? C = some (excClassObj nm qn C N bs bm hdct sn sub ab col dd k0 k1 k2 k3 k5 newId) /\ h.Ns N mN /\ mN "__init__" = none /\ OwnTail h bmB bm := by
  unfold PySem.W.excIn at q
  split at q
  · rename_i dd cd sl lk
    split at q
    · rename_i C' bm k0 k1 k2 k3 nn k5 hm hs
      simp only [xay, beq_iff_eq, Bool.not_eq_true'] at q
      obtain ⟨⟨⟨⟨⟨rfl, rfl⟩, hdel⟩, ht⟩, hok⟩, hni⟩ := q
      obtain ⟨nm, bs, mro, ns, qn, hd, sn, sub, ab, col, del⟩ := cd
      dsimp only at hm hdel hok hni
      subst hm hdel
      obtain rfl : sl = #[k0, k1, k2, k3, some (.builtin nn), k5] := by
        obtain ⟨l⟩ := sl
        simp only at hs
        rw [hs]
      exact ⟨bm, ns, nm, qn, bs, hd, sn, sub, ab, col, dd, k0, k1, k2, k3, k5, _, X _ _ lk, .of_isNs (PySem.W.isNs_of_in X hok), PySem.W.nsMap_none_of_in X hok hni, PySem.W.tail_of_in X ht⟩
    · cases q
  · cases q
def tRaise (C : Addr) (ta : TA) (E : XK) : TS := fun _ O H => ta O H fun vs H1 => vs.length <= sizeLine /\ E (.ref C) none H1
section
variable {P : Program} {w : World} {K : xFg} {mg : Str -> Option Value} {base : Heap} {N : List Str} {qual : Str} {scope : Scope} {f : Addr} {cdv : Value} {A : Around} {outer : List Env} {s0 : Shared} {H0 : Hp} {E : XK}
theorem ps_raise {x : Str} {C : Addr} {e0 : Expr} {rest : List Expr} {np cpos pos : Pos} {ta : TA} (q : PySem.W.excIn K C [.type "ValueError", .type "Exception", .type "BaseException", .type "object"] "ValueError.__new__" = true)
    (hg : Gl (cxOf (CXe P w) P w K mg base N qual scope f cdv A outer s0 H0 E) x) (hm : mg x = some (.ref C)) (ha : PA (cxOf (CXe P w) P w K mg base N qual scope f cdv A outer s0 H0 E) (e0 :: rest) ta)
    (hdb : (x == ("__debug__" : Str)) = false := by decide)
    (he : starEach (e0 :: rest) (envOfC qual scope s0.heap.objs.size f cdv) = (false, eval e0 (envOfC qual scope s0.heap.objs.size f cdv)) :: starEach rest (envOfC qual scope s0.heap.objs.size f cdv) := by rfl)
    (hpl : (backTo cpos (starEach rest (envOfC qual scope s0.heap.objs.size f cdv))).any (·.1) = false := by rfl) :
    PS (cxOf (CXe P w) P w K mg base N qual scope f cdv A outer s0 H0 E) (.Raise (some (.Call (.Name x np) (e0 :: rest) [] cpos)) none pos) (tRaise C ta E) := by
  intro pins s O H D I h
  obtain ⟨bm, Nn, nm, qn, bs, hdct, sn, sub, ab, col, dd, k0, k1, k2, k3, k5, mN, hC, hN, hni, T⟩ := exc_obj I.mod.kin q
  refine wpAny_Raise_call_subT (C := C) (nm := nm) (q := qn) (N := Nn) (bs := bs) (bm := bm) (hdct := hdct) (sn := sn) (sub := sub) (ab := ab) (col := col) (dd := dd) (k0 := k0) (k1 := k1) (k2 := k2) (k3 := k3) (k5 := k5)
    PySem.F.excBase_ValueError (mN := mN) (T.hasType PySem.F.excBase_ValueError.hasBase) (I.ok.hd rfl) (by
      show (backTo cpos (starEach (e0 :: rest) (envOfC qual scope s0.heap.objs.size f cdv))).any (·.1) = false
      rw [he]; show (false || (backTo cpos (starEach rest (envOfC qual scope s0.heap.objs.size f cdv))).any (·.1)) = false; rw [hpl]; rfl) hni (ld_glob I hg hm ⟨rfl, ?_⟩ hdb)
  have ha' := ha cpos pins s O H _ I h
  show wpAny _ _ (evalArgs (.ref C) true (backTo cpos (starEach (e0 :: rest) (envOfC qual scope s0.heap.objs.size f cdv))) []) _ _ _
  change wpAny _ _ (spliced (backTo cpos (starEach (e0 :: rest) (envOfC qual scope s0.heap.objs.size f cdv)))) _ _ _ at ha'
  rw [he] at ha' ⊢
  refine Calls.evalArgs_plain (thn ha' fun us s2 ⟨vs, H1, I1, r, hz, hE⟩ => ?_)
  have hl : us.length <= sizeLine := by rw [<- r.length]; exact hz
  exact ⟨rfl, hl, I1.bk _ _ hC, hN.keeps I1.bk, T.keeps I1.bk, fun h' e m => leave_made (tk := s2.toks) I1 rfl rfl rfl m hE⟩
end
end L2
namespace L2
open PySem.Spec PyProof.Rows
abbrev TEX := St -> Hp -> VK -> XK -> Prop
abbrev TSX := Ends -> XK -> St -> Hp -> Prop
def XP (X : Cx) (CX : CXT) (pins : List (Addr × Obj)) (O : St) (E : XK) (e : Value) (s' : Shared) : Prop := ∃ s1 H1, Inv X pins O H1 s1 /\ CX X.stack H1 s1 E e s'
def PEX (X : Cx) (CX : CXT) (e : Expr) (t : TEX) : Prop :=
  ∀ (pins : List (Addr × Obj)) (s : Shared) (O : St) (H : Hp) (Q : VK) (E : XK), Inv X pins O H s -> t O H Q E -> wpAny (model X.prog X.w) X.A (eval e X.env) (EP X pins O Q) (XP X CX pins O E) s
def PSX (X : Cx) (CX : CXT) (st : Stmt) (t : TSX) : Prop :=
  ∀ (pins : List (Addr × Obj)) (s : Shared) (O : St) (H : Hp) (D : Ends) (E : XK), Inv X pins O H s -> t D E O H -> wpAny (model X.prog X.w) X.A (exec st X.env) (SP X pins D) (XP X CX pins O E) s
def PSXs (X : Cx) (CX : CXT) (st : List Stmt) (t : TSX) : Prop :=
  ∀ (pins : List (Addr × Obj)) (s : Shared) (O : St) (H : Hp) (D : Ends) (E : XK), Inv X pins O H s -> t D E O H -> wpAny (model X.prog X.w) X.A (execs st X.env) (SP X pins D) (XP X CX pins O E) s
section
variable {X : Cx} {CX : CXT} {k : Nat} {f : Addr} {fd : FuncData} {ps : List Str} {sp : Sp} {dvs : List V} {ds : List Value} {x : Str} {p pos : Pos} {e : Expr} {es : List Expr} {t : TA}
def xCall (sp : Sp) (dvs : List V) (t : TA) : TEX := fun O H Q E => t O H fun vs H1 => sp (vs ++ dvs) H1 Q E
theorem pex_call (F : FnOk X.prog X.w X.K X.mg X.base CX k f fd ps sp) (hr : Room k X.A) (hg : Gl X x) (hm : X.mg x = some (.ref f)) (hk : PySem.W.keepIn X.K (.ref f) = true) (hb : Binds X.K fd ps ds) (hd : Vals dvs ds)
    (ha : PA X.nox (e :: es) t) (hdb : (x == ("__debug__" : Str)) = false := by decide) (he : starEach (e :: es) X.env = (false, eval e X.env) :: starEach es X.env := by rfl) (hpl : (backTo pos (starEach es X.env)).any (·.1) = false := by rfl) :
    PEX X CX (.Call (.Name x p) (e :: es) [] pos) (xCall sp dvs t) := by
  intro pins s O H Q E I h
  refine wpAny_Call_Name_kw (ld_glob I hg hm ?_ hdb)
  refine PySem.W.callWith_K (h₀ := X.base) I.ok.mod.kin hk (wpAny_mono (ha pos pins s O H _ (I.wish _) h) (fun us s1 ⟨vs, H1, I1', r, q⟩ => ?_) fun _ _ z => False.elim z) he hpl
  have I1 : Inv X pins O H1 s1 := I1'.unwish
  refine ⟨I1.kIn, ?_⟩
  have r2 : Vals (vs ++ dvs) (us ++ ds) := r.append hd
  have hl : (us ++ ds).length = ps.length := by rw [<- r2.length]; exact F.len _ _ _ _ q
  refine wpAny_call (codeAny_mono (F.run X.A X.stack s1 H1 ⟨us, []⟩ (us ++ ds) (vs ++ dvs) Q E hr I1.env0 (hb s1 us I1.kIn hl) r2 q) fun r s' hq => ?_)
  cases r with
  | error e => exact ⟨s1, H1, I1, hq⟩
  | ok fl =>
    cases fl with
    | ret u => exact I1.after hq
    | next => exact False.elim hq
    | brk => exact False.elim hq
    | cont => exact False.elim hq
def xDrop (t : TEX) : TSX := fun D E O H => t O H (fun _ H1 => D.nx O H1) E
theorem psx_expr {te : TEX} (he : PEX X CX e te) (hs : swapsWith e none pos.line X.env = pure false := by rfl) : PSX X CX (.Expr e pos) (xDrop te) := by
  intro pins s O H D E I h
  exact wpAny_Expr_any (thn (he pins s O H _ E I h) fun v s1 ⟨y, H1, I1, r1, q1⟩ => ⟨O, H1, I1, q1⟩) I.quiet hs
theorem psxs_one {st : Stmt} {ts : TSX} (h1 : PSX X CX st ts) : PSXs X CX [st] ts := by
  intro pins s O H D E I h
  refine wpAny_execs_cons (thn (h1 pins s O H D E I h) fun fl s1 q => ?_)
  cases fl with
  | next => exact wpAny_execs_nil q
  | ret v => exact q
  | brk => exact q
  | cont => exact q
end
theorem Inv.gone {X : Cx} {pins : List (Addr × Obj)} {O : St} {H : Hp} {s : Shared} {h' : Heap} {m : Str -> Option Value} {n : Str} {v : Option Value} {i : Nat} {tk : Nat} (I : Inv X pins O H s) (hN : X.N.Nodup) (hi : X.N[i]? = some n)
    (hm : ∀ (j : Nat) (y : Str) (v : V), X.N[j]? = some y -> O[j]? = some (some v) -> Vis X.env.scope y -> ∃ u, RelV v u /\ Look X.env s.heap m y u) (hn : h'.Ns X.env.locals (fun y => if y = n then v else m y)) (hs : Heap.SameBut X.env.locals s.heap h') :
    Inv X pins (O.set i none) H { s with heap := h', toks := tk } := by
  have neL : ∀ b o, X.s₀.heap.get? b = some o -> b ≠ X.env.locals := fun b o e => xa2 (xak (xai e) I.ok.above)
  have hiO : i < O.length := by rw [I.len]; exact (xae.mp hi).1
  refine ⟨I.ok, I.os, I.bare, ⟨fun b o e nn hb hx => (hs.2 b (neL b o e)).trans (I.base.keep b o e nn hb hx), fun b o e nn hb hx => ?_, I.base.free, fun b o e hx => ?_, I.base.tups, I.base.frzs, I.base.tbls⟩, ⟨_, hn, fun j y v' e1 e2 e3 => ?_⟩, fun y c e => ?_, I.free, I.freeC, fun p hp => ?_, fun b ob e => ?_, by simpa using I.len⟩
  · obtain ⟨sl, e1⟩ := I.base.slot b o e nn hb hx
    exact ⟨sl, (hs.2 b (neL b o e)).trans e1⟩
  · obtain ⟨o', e1⟩ := I.base.there b o e hx
    exact ⟨o', (hs.2 b (neL b o e)).trans e1⟩
  · have hj : j ≠ i := fun z => by rw [z, xaz hiO] at e2; cases e2
    rw [xaf (xa3 hj)] at e2
    obtain ⟨u, r, l⟩ := hm j y v' e1 e2 e3
    refine ⟨u, r, ?_⟩
    rcases l with ⟨k, e⟩ | ⟨k, c, e, z⟩
    · have ny : y ≠ n := fun z => hj (nodup_ix hN e1 (z ▸ hi))
      exact .inl ⟨k, by simp [ny, e]⟩
    · exact .inr ⟨k, c, e, z.sameBut hs (I.cne y c e)⟩
  · obtain ⟨w', z⟩ := I.cell y c e
    exact ⟨w', z.sameBut hs (I.cne y c e)⟩
  · obtain ⟨e, nn, ne, nf, d⟩ := I.pin p hp
    exact ⟨(hs.2 p.1 ne).trans e, nn, ne, nf, d⟩
  · refine (I.hok b ob e).stay (fun c w' hc q => (hs.2 c ?_).trans q) (fun _ q => q) fun _ _ q => q
    rintro rfl
    rcases hc with z | z
    · rw [<- z, I.free] at e; cases e
    · rw [I.free] at z; cases z
def hdl (X : Cx) (x : Addr) : Cx := { X with A := X.A.mark (some (.ref x)), calm := false, xe := fun _ _ => False }
section
variable {X : Cx} {pins : List (Addr × Obj)} {O : St} {H : Hp} {s : Shared} {x : Addr}
theorem Inv.hdl (I : Inv X pins O H s) (x : Addr) : Inv (hdl X x) pins O H s :=
  ⟨⟨I.ok.mod, I.ok.kind, I.ok.glob, I.ok.blt, I.ok.above, I.ok.inj, I.ok.has, I.ok.cab, fun z => xag z (by show ¬ (false = true); decide), I.ok.frames, I.ok.stk, I.ok.exf, I.ok.bs, I.ok.bsz, I.ok.noex, I.ok.exfs, I.ok.funs, I.ok.frf⟩, I.os, I.bare, I.base, I.loc, I.cell, I.free, I.freeC, I.pin, I.hok, I.len⟩
theorem Inv.unhdl (I : Inv (L2.hdl X x) pins O H s) (ok : X.Ok) : Inv X pins O H s := ⟨ok, I.os, I.bare, I.base, I.loc, I.cell, I.free, I.freeC, I.pin, I.hok, I.len⟩
end
def tTry (K : xFg) (Dc : Addr) (i : Nat) (tb : TSX) (th : TS) : TS := fun D O H => ∃ E : XK, tb D E O H /\ ∀ (C : Addr) (dct : Option Addr) (H' : Hp) (x : Addr), E (.ref C) dct H' -> H' x = none ->
  PySem.W.exmOne K (.ref C) (.ref Dc) = some true /\ th { nx := fun O' H'' => D.nx (O'.set i none) H'', rt := fun _ _ => False } (O.set i (some (.ref x))) (upd H' x (excO x C dct))
theorem ps_try {X : Cx} {body : List Stmt} {c n : Str} {np hpos pos : Pos} {b0 : Stmt} {suite : List Stmt} {tb : TSX} {th : TS} {i : Nat} {Dc : Addr} (hst : X.stack = X.env :: X.outer) (hf : X.env.frame = some X.env.locals)
    (hN : X.N.Nodup) (hi : X.N[i]? = some n) (hn : X.env.scope.names.lookup n = some .local) (hg : Gl X c) (hm : X.mg c = some (.ref Dc)) (hb : PSXs X (CXe X.prog X.w) body tb) (hh : ∀ x, PSs (hdl X x) (b0 :: suite) th)
    (hdb : (c == ("__debug__" : Str)) = false := by decide) : PS X (.Try body [.ExceptHandler (some (.Name c np)) (some n) (b0 :: suite) hpos] [] [] pos) (tTry X.K Dc i tb th) := by
  intro pins s O H D I h
  obtain ⟨Ex, hbody, hhand⟩ := h
  refine wpAny_Try_except (wpAny_mono (hb pins s O H D Ex I hbody) (fun fl s1 q => ?_) (fun e s1 q => ?_))
  · cases fl with
    | next => exact wpAny_execs_nil q
    | ret v => exact q
    | brk => exact q
    | cont => exact q
  obtain ⟨s2, H2, I2, x, C, dct, H', B, rfl, ho, hg', un, hok, F, ib, nx, hE⟩ := q
  obtain ⟨hx, hth⟩ := hhand C dct H' x hE nx
  have hfr : X.A.frames = some (X.env :: X.outer) := by rw [<- hst]; exact I.ok.frames
  have F' : Fly B (X.env :: X.outer) x (.ref C) dct .none s1.heap := by rw [<- hst]; exact F
  refine fly_next hfr hf F' fun h1 F1 u1 => fly_land F1 fun h2 F2 u2 => ?_
  have I3 := caught_inv (tk := s1.toks) I2 ho hg' un hok (hst ▸ F2) ib (u1.trans u2) nx
  refine wpAny_handleBy_cons (codeAny_handlers_test ?_) (by intro z; cases z)
  refine ld_glob (X := hdl X x) (I3.hdl x) hg hm ?_ hdb
  obtain ⟨ox, vs, T, oT, ts, ex, hcl, _⟩ := F2.obj
  have LT : PySem.W.Looks (model X.prog X.w) h2 (typeOf (.ref x)) (.ref C) := hcl ▸ (PySem.W.Looks.ld ex).andThen .now
  refine (PySem.W.exm_one (M := model X.prog X.w) I3.kIn LT hx) _ _ _ _ (fun _ _ e => e) ?_
  refine codeAny_handlers_suite_as ?_
  refine fly_land F2 fun h3 F3 u3 => ?_
  have I4 := caught_inv (tk := s1.toks) I2 ho hg' un hok (hst ▸ F3) ib (u1.trans (u2.trans u3)) nx
  refine store_ok (X := hdl X x) (v := .ref x) (I4.hdl x) hN hi (.inl hn) rfl (fun s5 I5 => ?_) (.inr hn)
  refine wpAny_mono (hh x pins s5 _ _ _ I5 hth) (fun fl s6 q6 => ?_) fun _ _ z => False.elim z
  cases fl with
  | ret v => obtain ⟨_, _, _, _, _, z⟩ := q6; exact False.elim z
  | brk => obtain ⟨_, _, _, z⟩ := q6; exact False.elim z
  | cont => obtain ⟨_, _, _, z⟩ := q6; exact False.elim z
  | next =>
    obtain ⟨O6, H6, I6, q⟩ := q6
    have I7 : Inv X pins O6 H6 s6 := I6.unhdl I.ok
    obtain ⟨m, hnm, hl⟩ := I7.loc
    have hp : (X.env.scope.kind == .class || (X.env.scope.kind == .module && X.env.locals != X.env.globals)) = false := by rw [I.ok.kind]; rfl
    exact wpAny_nameGoes_keeps hn hnm hp fun h' v hn' hs' => ⟨_, H6, I7.gone hN hi hl hn' hs', q⟩
theorem call_isiX {X : Cx} : CallR X (.builtin "isinstance") (fun xs H Q => ∃ (a C : Addr) (c : V) (cv : Value) (b : Bool), xs = [.ref a, c] /\ H a = some (excO a C none) /\ ((∃ D, c = .ref D /\ cv = .ref D) \/ ∃ T, c = .ty T /\ cv = .type T) /\ ExcC X.K C /\ PySem.W.kitOne X.K (.ref C) cv = some b /\ Q (.bl b) H) := by
  intro pins s O H xs us Q I r h
  obtain ⟨a, C, c, cv, b, rfl, ha, hc, ec, hk, q⟩ := h
  obtain ⟨u, w', rfl, ru, rw'⟩ := vals2 r
  obtain rfl : u = Value.ref a := ru
  have e : w' = cv := by
    rcases hc with ⟨D, rfl, rfl⟩ | ⟨T, rfl, rfl⟩
    · exact rw'
    · exact rw'
  subst e
  obtain ⟨⟨o, e1, e2, e3, e4⟩, _, _⟩ := I.hok a _ ha
  have hI : PySem.W.InstAt s.heap a o C none := ⟨e1, e2, e4, by rw [e3]; trivial⟩
  exact PySem.W.kia_one (kitx_exc ec) I.kIn ⟨o, none, hI⟩ hk (fun z => nomatch z) fun tk => ⟨.bl b, H, I.tok tk, rfl, q⟩
end L2
namespace L2
open PySem.Spec PyProof.Rows
section
variable {X : Cx}
theorem all_range (bs : List Bool) : (List.range bs.length).all (fun i => bs.getD i false) = bs.all id := by
  rw [xbm]
  simp only [xbh, List.mem_range, id]
  constructor
  · intro h b hb
    obtain ⟨i, hi, rfl⟩ := List.mem_iff_getElem.mp hb
    have q := h i hi
    simpa [List.getD, hi] using q
  · intro h i hi
    have q := h _ (xbx hi)
    simpa [List.getD, hi] using q
theorem bools_at {bs : List Bool} {its : List Value} (r : Vals (bs.map V.bl) its) {i : Nat} {v : Value} (h : its.toArray[i]? = some v) : v = .bool (bs.getD i false) := by
  have hl := r.length
  rw [xao] at hl
  have hi : i < bs.length := by
    rw [hl]
    have : its[i]? = some v := by simpa using h
    exact (xae.mp this).1
  obtain ⟨u, hu, ru⟩ := r.get (i := i) (x := .bl bs[i]) (by simp [hi])
  have e : its[i]? = some v := by simpa using h
  rw [hu] at e
  cases e
  rw [show v = .bool bs[i] from ru]
  simp [List.getD, hi]
theorem call_all (hc : X.calm = true) : CallR X (.builtin "all") (fun xs H Q => ∃ (p : Addr) (bs : List Bool), xs = [.ref p] /\ SqL X.K H p (bs.map V.bl) /\ Q (.bl (bs.all id)) H) := by
  intro pins s O H xs us Q I r h
  obtain ⟨p, bs, rfl, hq, q⟩ := h
  obtain ⟨u, rfl, e⟩ := vals1 r
  cases e
  obtain ⟨its, rv, pl, hz⟩ := I.list hq
  have hl : its.toArray.size = bs.length := by rw [xal, <- rv.length, xao]
  have hlt : p < s.heap.objs.size := by obtain ⟨o, e, _⟩ := pl.isList; exact xai e
  refine call_all_walk (wpAny_pyIter_list pl.isList ⟨_, _, _, _, _, _, fun i => bs.getD i false, rfl, Walks.list (A := X.A.in1) (I.ok.hd hc) s.heap.objs.size p (xa2 hlt) its.toArray, ⟨⟨_, xau _ rfl, rfl, rfl⟩, pl.isList.push _⟩, fun i v s' Q' E' hv hQ => ?_, fun h' tk k => ?_⟩)
  · rw [bools_at rv hv]; exact wpAny_truthy_bool hQ
  · refine ⟨.bl (bs.all id), H, I.kept fun b o e => k b o (fun z => xa2 (xai e) (by simpa using z)) (xab _ e), ?_, q⟩
    rw [hl, all_range]; rfl
end
end L2
namespace SetT
open PySem.SetTable
def iter (t : SetTable) : Nat -> Probe -> Probe
  | 0, p => p
  | k + 1, p => iter t k (t.advance p)
def start (mask i perturb : Nat) : Probe := { j := i, more := runEnd mask i - i, i, perturb, dummy := none }
end SetT
namespace TxtA
open PySem.StrLaws PySem.Builtin.Str
def flat (y : List Nat) : List (List Nat) -> List Nat
  | [] => []
  | [r] => r
  | r :: r' :: rs => r ++ y ++ flat y (r' :: rs)
def cuts (w : Nat) : Nat -> List (List Nat) -> List Nat
  | _, [] => []
  | _, [_] => []
  | n, r :: r' :: rs => (n + r.length) :: cuts w (n + r.length + w) (r' :: rs)
def Hit (l y : List Nat) (i : Nat) : Prop := (l.drop i).take y.length = y
theorem hit_head {l t : List Nat} {c i : Nat} (h : Hit l (c :: t) i) : l[i]? = some c := by
  unfold Hit at h
  have : ((l.drop i).take (c :: t).length)[0]? = some c := by rw [h]; rfl
  rw [List.getElem?_take, xav (by simp)] at this
  rw [List.getElem?_drop] at this
  simpa using this
theorem at_iff (x y : Str) (hy : y.cps.toList ≠ []) (i : Nat) : At x y x.length i ↔ Hit x.cps.toList y.cps.toList i := by
  have ly : y.length = y.cps.toList.length := by simp [Str.length]
  have lx : x.length = x.cps.toList.length := by simp [Str.length]
  unfold At Hit
  rw [subAt_eq, ly, lx]
  constructor
  · rintro ⟨_, h⟩; exact eq_of_beq h
  · intro h
    refine ⟨?_, by rw [h]; simp⟩
    have e := congrArg List.length h
    rw [xbl, xcm] at e
    have : y.cps.toList.length ≠ 0 := by simpa using hy
    omega
theorem walk_no (x y : Str) (lim : Nat) : ∀ (l : List Nat) (st : Array Nat × Nat), (∀ i ∈ l, ¬ (st.2 <= i /\ At x y x.length i)) -> (forIn l st (occBody x y x.length lim)).run = st
  | [], st, _ => rfl
  | a :: l, st, h => by
    rw [xbp]
    unfold occBody
    have c : ¬ (((st.fst.size < lim /\ st.snd <= a) /\ a + y.length <= x.length) /\ subAt x y a = true) := fun q => h a (xa5 ..) ⟨q.1.1.2, q.1.2, q.2⟩
    rw [xap c]
    exact walk_no x y lim l st fun i hi => h i (xaq _ hi)
theorem walk_yes (x y : Str) (lim : Nat) {a : Nat} {l : List Nat} {st : Array Nat × Nat} (hs : st.1.size < lim) (hf : st.2 <= a) (h : At x y x.length a) :
    (forIn (a :: l) st (occBody x y x.length lim)).run = (forIn l (st.1.push a, a + y.length) (occBody x y x.length lim)).run := by
  rw [xbp]
  have c : ((st.fst.size < lim /\ st.snd <= a) /\ a + y.length <= x.length) /\ subAt x y a = true := ⟨⟨⟨hs, hf⟩, h.1⟩, h.2⟩
  show (occBody x y x.length lim a st >>= _).run = _
  unfold occBody
  rw [xav c]
  rfl
theorem walk_app (x y : Str) (lim : Nat) (l l' : List Nat) (st : Array Nat × Nat) : (forIn (l ++ l') st (occBody x y x.length lim)).run = (forIn l' (forIn l st (occBody x y x.length lim)).run (occBody x y x.length lim)).run := by
  induction l generalizing st with
  | nil => rfl
  | cons a l ih =>
    rw [xb6, xbp, xbp]
    unfold occBody
    split
    · exact ih _
    · exact ih _
theorem cuts_ge (w : Nat) : ∀ (rows : List (List Nat)) (n k : Nat), k ∈ cuts w n rows -> n <= k
  | [], _, _, h => by simp [cuts] at h
  | [_], _, _, h => by simp [cuts] at h
  | r :: r' :: rs, n, k, h => by
    rw [cuts, xam] at h
    rcases h with rfl | h
    · omega
    · have := cuts_ge w (r' :: rs) _ _ h; omega
theorem mem_of_at {l : List Nat} {pre r post : List Nat} {i c : Nat} (hl : l = pre ++ (r ++ post)) (h1 : pre.length <= i) (h2 : i < pre.length + r.length) (h : l[i]? = some c) : c ∈ r := by
  rw [hl, xbr h1, xbc (by omega)] at h
  exact xb5 h
def Free (c : Nat) (t r : List Nat) : Prop := ∀ i, i < r.length -> ∀ p, (p = [] \/ p.head? = some c) -> ¬ Hit (r ++ p) (c :: t) i
theorem free_no {c : Nat} {t r : List Nat} (h : c ∉ r) : Free c t r := fun i hi p _ q => by
  have := hit_head q
  rw [xbc hi] at this
  exact h (xb5 this)
theorem hit_app {pre l y : List Nat} {i : Nat} (h : pre.length <= i) : Hit (pre ++ l) y i ↔ Hit l y (i - pre.length) := by
  unfold Hit
  rw [List.drop_append, List.drop_of_length_le h, List.nil_append]
theorem hits {c : Nat} {t : List Nat} (hc : c ∉ t) : ∀ (rows : List (List Nat)), (∀ r ∈ rows, Free c t r) -> ∀ (pre : List Nat) (i : Nat), pre.length <= i -> (Hit (pre ++ flat (c :: t) rows) (c :: t) i ↔ i ∈ cuts (t.length + 1) pre.length rows)
  | [], _, pre, i, hi => by
    constructor
    · intro h
      have := hit_head h
      rw [flat, xbo, List.getElem?_eq_none hi] at this
      cases this
    · intro h; simp [cuts] at h
  | [r], hr, pre, i, hi => by
    constructor
    · intro h
      rw [flat, hit_app hi] at h
      by_cases hl : i - pre.length < r.length
      · exact xag (by rw [xbo]; exact h) (hr r (by simp) _ hl [] (.inl rfl))
      · have := hit_head h
        rw [List.getElem?_eq_none (by omega)] at this
        cases this
    · intro h; simp [cuts] at h
  | r :: r' :: rs, hr, pre, i, hi => by
    have e : pre ++ flat (c :: t) (r :: r' :: rs) = pre ++ (r ++ ((c :: t) ++ flat (c :: t) (r' :: rs))) := by rw [flat, xa7]
    have e2 : pre ++ flat (c :: t) (r :: r' :: rs) = (pre ++ r ++ (c :: t)) ++ flat (c :: t) (r' :: rs) := by rw [e]; simp [xa7]
    rw [cuts, xam]
    by_cases h1 : i < pre.length + r.length
    · constructor
      · intro h
        rw [e, hit_app hi] at h
        exact xag h (hr r (by simp) _ (by omega) _ (.inr rfl))
      · rintro (h | h)
        · omega
        · have := cuts_ge _ _ _ _ h; omega
    · by_cases h2 : i = pre.length + r.length
      · constructor
        · intro _; exact .inl h2
        · intro _
          unfold Hit
          rw [e, h2, <- xa7, List.drop_left' (by simp), List.take_left' rfl]
      · by_cases h3 : i < pre.length + r.length + (t.length + 1)
        · constructor
          · intro h
            have e3 : pre ++ flat (c :: t) (r :: r' :: rs) = (pre ++ r ++ [c]) ++ (t ++ flat (c :: t) (r' :: rs)) := by rw [e]; simp [xa7]
            exact xag (mem_of_at e3 (by simp; omega) (by simp; omega) (hit_head h)) hc
          · rintro (h | h)
            · omega
            · have := cuts_ge _ _ _ _ h; omega
        · have ih := hits hc (r' :: rs) (fun q hq => hr q (xaq _ hq)) (pre ++ r ++ (c :: t)) i (by simp; omega)
          rw [e2, ih, show (pre ++ r ++ (c :: t)).length = pre.length + r.length + (t.length + 1) by simp; omega]
          constructor
          · exact .inr
          · rintro (h | h)
            · omega
            · exact h
theorem walk_rows {x y : Str} {c : Nat} {t : List Nat} (hy : y.cps.toList = c :: t) (hc : c ∉ t) (lim : Nat) : ∀ (rows : List (List Nat)), rows ≠ [] -> (∀ r ∈ rows, Free c t r) -> ∀ (pre : List Nat), x.cps.toList = pre ++ flat (c :: t) rows -> ∀ (st : Array Nat) (free : Nat), free <= pre.length -> st.size + rows.length <= lim ->
    (forIn (List.range' pre.length ((flat (c :: t) rows).length + 1)) (st, free) (occBody x y x.length lim)).run.1.toList = st.toList ++ cuts (t.length + 1) pre.length rows := by
  have ly : y.length = t.length + 1 := by rw [show y.length = y.cps.toList.length by simp [Str.length], hy]; rfl
  have ati : ∀ {rows : List (List Nat)} {pre : List Nat} (hx : x.cps.toList = pre ++ flat (c :: t) rows) (hr : ∀ r ∈ rows, Free c t r) {i : Nat}, pre.length <= i -> (At x y x.length i ↔ i ∈ cuts (t.length + 1) pre.length rows) := fun {rows pre} hx hr {i} hi => by
    rw [at_iff x y (by rw [hy]; simp), hx, hy]; exact hits hc _ hr _ i hi
  intro rows
  induction rows with
  | nil => intro h; exact xag rfl h
  | cons r rs ih =>
    intro _ hr pre hx st free hf hs
    cases rs with
    | nil =>
      rw [walk_no x y lim _ _ fun i hi q => ?_]
      · simp [cuts]
      · have := (ati hx hr (by simp [List.mem_range'] at hi; omega)).mp q.2
        simp [cuts] at this
    | cons r' rs =>
      have lf : (flat (c :: t) (r :: r' :: rs)).length + 1 = r.length + (1 + (t.length + ((flat (c :: t) (r' :: rs)).length + 1))) := by rw [flat]; simp; omega
      have sp : List.range' pre.length ((flat (c :: t) (r :: r' :: rs)).length + 1) = List.range' pre.length r.length ++ ((pre.length + r.length) :: (List.range' (pre.length + r.length + 1) t.length ++ List.range' (pre.length + r.length + (t.length + 1)) ((flat (c :: t) (r' :: rs)).length + 1))) := by
        rw [lf, <- List.range'_append_1, Nat.add_comm 1, List.range'_succ, <- List.range'_append_1, show pre.length + r.length + 1 + t.length = pre.length + r.length + (t.length + 1) by omega]
      have e2 : x.cps.toList = (pre ++ r ++ (c :: t)) ++ flat (c :: t) (r' :: rs) := by rw [hx, flat]; simp [xa7]
      have lp : (pre ++ r ++ (c :: t)).length = pre.length + r.length + (t.length + 1) := by simp; omega
      rw [sp, walk_app, walk_no x y lim (List.range' pre.length r.length) (st, free) fun i hi q => ?_]
      · rw [walk_yes x y lim (by show st.size < lim; simp at hs; omega) (by show free <= _; omega) ((ati hx hr (by omega)).mpr (by rw [cuts]; exact xa5 ..)), walk_app, walk_no x y lim (List.range' (pre.length + r.length + 1) t.length) _ fun i hi q => ?_]
        · have := ih (by simp) (fun q hq => hr q (xaq _ hq)) (pre ++ r ++ (c :: t)) e2 (st.push (pre.length + r.length)) (pre.length + r.length + y.length) (by rw [lp, ly]; omega) (by simp at hs ⊢; omega)
          rw [lp] at this
          rw [this, cuts]
          simp
        · have h1 := q.1
          simp [List.mem_range'] at hi
          have h2 : pre.length + r.length + y.length <= i := h1
          rw [ly] at h2
          omega
      · simp [List.mem_range'] at hi
        have := (ati hx hr (by omega)).mp q.2
        rw [cuts, xam] at this
        rcases this with h | h
        · omega
        · have := cuts_ge _ _ _ _ h; omega
def ofL (l : List Nat) : Str := ⟨l.toArray⟩
theorem parts_rows {x : Str} {y : List Nat} : ∀ (rows : List (List Nat)), rows ≠ [] -> ∀ (pre : List Nat), x.cps.toList = pre ++ flat y rows -> partsFrom x y.length pre.length (cuts y.length pre.length rows) = rows.map ofL
  | [], h, _, _ => xag rfl h
  | [r], _, pre, hx => by
    rw [cuts, partsFrom, xbe, List.map_nil]
    congr 1
    apply Str.ext'
    apply xb7.mp
    rw [strSub_toList, hx, flat, List.drop_left]
    have lx : x.length = pre.length + r.length := by rw [show x.length = x.cps.toList.length by simp [Str.length], hx, flat]; simp
    rw [lx, show pre.length + r.length - pre.length = r.length by omega, List.take_length]
    rfl
  | r :: r' :: rs, _, pre, hx => by
    have e2 : x.cps.toList = (pre ++ r ++ y) ++ flat y (r' :: rs) := by rw [hx, flat]; simp [xa7]
    have ih := parts_rows (r' :: rs) (by simp) (pre ++ r ++ y) e2
    rw [show (pre ++ r ++ y).length = pre.length + r.length + y.length by simp; omega] at ih
    rw [cuts, partsFrom, ih, show List.map ofL (r :: r' :: rs) = ofL r :: List.map ofL (r' :: rs) from rfl]
    congr 1
    apply Str.ext'
    apply xb7.mp
    rw [strSub_toList, hx, flat, List.drop_left, xa7, show pre.length + r.length - pre.length = r.length by omega, List.take_left' rfl]
    rfl
theorem rows_le (c : Nat) (t : List Nat) : ∀ rows : List (List Nat), rows.length <= (flat (c :: t) rows).length + 1
  | [] => by simp
  | [r] => by simp
  | r :: r' :: rs => by
    have := rows_le c t (r' :: rs)
    rw [flat]
    simp at this ⊢
    omega
theorem cuts_nil {w n : Nat} : ∀ {rows : List (List Nat)}, rows ≠ [] -> cuts w n rows = [] -> ∃ r, rows = [r]
  | [], h, _ => xag rfl h
  | [r], _, _ => ⟨r, rfl⟩
  | r :: r' :: rs, _, h => by rw [cuts] at h; cases h
theorem split_free {c : Nat} {t : List Nat} {rows : List (List Nat)} (hc : c ∉ t) (hk : ∀ k ∈ c :: t, k < 256) (hne : rows ≠ []) (hr : ∀ r ∈ rows, Free c t r) : Txt.split (ofL (flat (c :: t) rows)) (ofL (c :: t)) = rows.map ofL := by
  have xl : (ofL (flat (c :: t) rows)).cps.toList = [] ++ flat (c :: t) rows := by simp [ofL]
  have yl : (ofL (c :: t)).cps.toList = c :: t := by simp [ofL]
  have lx : (ofL (flat (c :: t) rows)).length = (flat (c :: t) rows).length := by simp [ofL, Str.length]
  have ly : (ofL (c :: t)).length = (c :: t).length := by simp [ofL, Str.length]
  have occ : occurrences (ofL (flat (c :: t) rows)) (ofL (c :: t)) 0 (ofL (flat (c :: t) rows)).length ((ofL (flat (c :: t) rows)).length + 1) = cuts (t.length + 1) 0 rows := by
    rw [occ_eq]
    have := walk_rows (x := ofL (flat (c :: t) rows)) (y := ofL (c :: t)) yl hc ((ofL (flat (c :: t) rows)).length + 1) rows hne hr [] xl #[] 0 (xad _) (by rw [lx]; simpa using rows_le c t rows)
    rw [show (ofL (flat (c :: t) rows)).length + 1 - 0 = (flat (c :: t) rows).length + 1 by rw [lx]; omega]
    simpa using this
  have one : ∀ r, rows = [r] -> [ofL (flat (c :: t) rows)] = rows.map ofL := fun r e => by rw [e]; rfl
  have ky : PySem.Builtin.Str.strKind (ofL (c :: t)) = 1 := by
    unfold PySem.Builtin.Str.strKind
    rw [xav]
    simpa [ofL] using hk
  have kx : 1 <= PySem.Builtin.Str.strKind (ofL (flat (c :: t) rows)) := by
    unfold PySem.Builtin.Str.strKind
    split
    · exact xad _
    · split <;> decide
  unfold Txt.split
  split
  · rename_i h
    simp only [Bool.or_eq_true, decide_eq_true_eq] at h
    rcases h with h | h
    · match rows, hne with
      | [r], _ => exact one r rfl
      | r :: r' :: rs, _ =>
        rw [lx, ly] at h
        rw [flat] at h
        simp at h
        omega
    · omega
  · split
    · rename_i h
      rw [occ] at h
      obtain ⟨r, e⟩ := cuts_nil hne (by simpa using h)
      exact one r e
    · rw [occ, partsBetween_eq, ly]
      have := parts_rows (x := ofL (flat (c :: t) rows)) (y := c :: t) rows hne [] xl
      simpa using this
theorem split_rows {c : Nat} {t : List Nat} {rows : List (List Nat)} (hc : c ∉ t) (hk : ∀ k ∈ c :: t, k < 256) (hne : rows ≠ []) (hr : ∀ r ∈ rows, c ∉ r) : Txt.split (ofL (flat (c :: t) rows)) (ofL (c :: t)) = rows.map ofL :=
  split_free hc hk hne fun r h => free_no (hr r h)
theorem join_rows (y : List Nat) : ∀ rows : List (List Nat), Str.join (ofL y) (rows.map ofL) = ofL (flat y rows)
  | [] => rfl
  | [r] => rfl
  | r :: r' :: rs => by
    have ih := join_rows y (r' :: rs)
    show ofL r ++ ofL y ++ Str.join (ofL y) ((r' :: rs).map ofL) = _
    rw [ih, flat]
    apply Str.ext'
    simp [ofL, Str.cps_append]
end TxtA
namespace TxtA
open PySem.StrLaws PySem.Builtin.Str PySem.NumText
def digs (n : Nat) : List Nat := (Nat.toDigits 10 n).map Char.toNat
theorem ofS (n : Nat) : Str.ofString (toString ((n : Nat) : Int)) = ofL (digs n) := Str.ext' (xb7.mp (by rw [PySem.W.KIN.signs_num]; simp [ofL, digs]))
theorem digs_val (n : Nat) : digitsVal (digs n) = n := PySem.W.KIN.val_back n
theorem digs_all (n : Nat) : AllDigits (digs n) := by
  intro c hc
  obtain ⟨ch, hch, e⟩ := xcj.mp hc
  have r := PyProof.Rows.digit_range (Nat.isDigit_of_mem_toDigits (by decide) (by decide) hch)
  rw [<- e]
  exact r
theorem digs_ne (n : Nat) : digs n ≠ [] := fun e => by
  have h3 : Nat.toDigits 10 n = [] := List.map_eq_nil_iff.mp e
  exact xag h3 Nat.toDigits_ne_nil
theorem digs_lenK {n k : Nat} (h0 : 0 < k) (h : n < 10 ^ k) : (digs n).length <= k := by
  unfold digs
  rw [xao]
  exact (Nat.length_toDigits_le_iff (by decide) h0).mpr h
theorem digs_reads {n : Nat} (h : n < 10 ^ 70) : intText? (ofL (digs n)) = some (n : Int) := by
  have l : (ofL (digs n)).length = (digs n).length := by simp [ofL, Str.length]
  have e : (ofL (digs n)).cps.toList = digs n := by simp [ofL]
  have := intText_digits (x := ofL (digs n)) (by rw [e]; exact digs_all n) (by rw [e]; exact digs_ne n) (by rw [l]; exact xax (digs_lenK (by decide) h) (by decide))
  rw [e, digs_val] at this
  exact this
theorem digs_zero {n : Nat} {cs : List Nat} (h : digs n = 48 :: cs) : cs = [] := by
  have hv := digs_val n
  have ha := digs_all n
  rw [h] at hv ha
  rw [digitsVal_zero] at hv
  have hc : AllDigits cs := fun c hc => ha c (xaq _ hc)
  have ht := toDigits_all cs hc
  rw [hv] at ht
  have hl := congrArg List.length h
  rw [digs, xao, ht, xa0] at hl
  have le : (cs.dropWhile (· == 48)).length <= cs.length := len_dropWhile _ _
  cases hd : cs.dropWhile (· == 48) with
  | nil =>
    rw [hd] at hl
    simp at hl
    exact hl
  | cons c r =>
    rw [hd] at hl le
    simp at hl le
    omega
end TxtA
namespace DL
open L2
inductive D where
  | non | bl (b : Bool) | int (i : Int) | str (x : Str) | ty (n : String) | cls (c : Str)
  | tup (xs : List D) | lst (xs : List D) | dct (ks : List Key) (vs : List D) | exc (c : Str) (as : List D)
instance : Inhabited D := ⟨.non⟩
inductive R (α : Type) where
  | ok (a : α) | err (e : D) | bad
def R.bind {α β : Type} : R α -> (α -> R β) -> R β
  | .ok a, k => k a
  | .err e, _ => .err e
  | .bad, _ => .bad
theorem R.ok_bind {α β : Type} (a : α) (k : α -> R β) : (R.ok a).bind k = k a := rfl
def RW {α : Type} (r : R α) (Q : α -> Prop) (E : D -> Prop) : Prop := match r with
  | .ok a => Q a
  | .err e => E e
  | .bad => False
theorem RW.mono {α : Type} {r : R α} {Q Q' : α -> Prop} {E E' : D -> Prop} (h : RW r Q E) (hq : ∀ a, r = .ok a -> Q a -> Q' a) (he : ∀ e, E e -> E' e) : RW r Q' E' := by
  cases r with
  | ok a => exact hq a rfl h
  | err e => exact he e h
  | bad => exact h
theorem RW.of_bind {α β : Type} {r : R α} {k : α -> R β} {Q : β -> Prop} {E : D -> Prop} (h : RW (r.bind k) Q E) : RW r (fun a => RW (k a) Q E) E := by
  cases r with
  | ok a => exact h
  | err e => exact h
  | bad => exact h
def clsNames : List Str := ["ChalkError", "NoPlace", "Same", "NoFloor", "Endless", "NoDeed", "NoText", "NoName", "TooMany", "NoChange", "NoFrame", "NoValue", "Unlike", "NoRatio", "NoBow", "NoRow"]
def subX (c d : Str) : Option Bool := bif clsNames.contains c && clsNames.contains d then some (c == d || d == "ChalkError") else none
structure XcOk (K : xFg) (mg : Str -> Option Value) (c : Str) (C : Addr) : Prop where
  here : mg c = some (.ref C)
  exc : ExcC K C
  isi : ∀ d Dd b, subX c d = some b -> mg d = some (.ref Dd) -> PySem.W.kitOne K (.ref C) (.ref Dd) = some b
  val : PySem.W.kitOne K (.ref C) (.type "ValueError") = some true
  ctc : ∀ d Dd, subX c d = some true -> mg d = some (.ref Dd) -> PySem.W.exmOne K (.ref C) (.ref Dd) = some true
def DctOk (G : Hp) (dct : Option Addr) (vs : List V) : Prop := (dct = none /\ vs = []) \/ ∃ dx v, dct = some dx /\ vs = [v] /\ G dx = some (.xd [("at", v)])
mutual
def Rep (K : xFg) (mg : Str -> Option Value) (G : Hp) : D -> V -> Prop
  | .non, v => v = .non
  | .bl b, v => v = .bl b
  | .int i, v => v = .int i
  | .str x, v => v = .str x
  | .ty n, v => v = .ty n
  | .cls c, v => ∃ C, v = .ref C /\ mg c = some (.ref C)
  | .tup ds, v => ∃ a vs, v = .ref a /\ SqT K G a vs /\ Reps K mg G ds vs
  | .lst ds, v => ∃ a vs, v = .ref a /\ SqL K G a vs /\ Reps K mg G ds vs
  | .dct ks ds, v => ∃ a vs, v = .ref a /\ Rd G a (.dK (ks.zip vs)) /\ ks.length = vs.length /\ Reps K mg G ds vs
  | .exc c as, v => ∃ x C dct vs, v = .ref x /\ G x = some (excO x C dct) /\ XcOk K mg c C /\ DctOk G dct vs /\ Reps K mg G as vs
def Reps (K : xFg) (mg : Str -> Option Value) (G : Hp) : List D -> List V -> Prop
  | [], vs => vs = []
  | d :: ds, vs => ∃ v r, vs = v :: r /\ Rep K mg G d v /\ Reps K mg G ds r
end
def ExcR (K : xFg) (mg : Str -> Option Value) (G : Hp) (e : D) (C : Addr) (dct : Option Addr) : Prop := ∃ c as vs, e = .exc c as /\ XcOk K mg c C /\ DctOk G dct vs /\ Reps K mg G as vs
section
variable {K : xFg} {mg : Str -> Option Value} {G G' H H' : Hp}
theorem Same.sqT {a : Addr} {xs : List V} (e : Same G G') (h : SqT K G a xs) : SqT K G' a xs := e.tup h
theorem Same.rd {a : Addr} {u : HO} (e : Same G G') (h : Rd G a u) : Rd G' a u := by
  rcases h with h | ⟨o, h⟩
  · exact .inl (e _ _ h)
  · exact .inr ⟨o, e _ _ h⟩
theorem DctOk.mono {dct : Option Addr} {vs : List V} (e : Same G G') (h : DctOk G dct vs) : DctOk G' dct vs := by
  rcases h with h | ⟨dx, v, h1, h2, h3⟩
  · exact .inl h
  · exact .inr ⟨dx, v, h1, h2, e _ _ h3⟩
mutual
theorem Rep.mono (e : Same G G') : ∀ {d : D} {v : V}, Rep K mg G d v -> Rep K mg G' d v
  | .non, _, h => h
  | .bl _, _, h => h
  | .int _, _, h => h
  | .str _, _, h => h
  | .ty _, _, h => h
  | .cls _, _, h => h
  | .tup _, _, ⟨a, vs, h1, h2, h3⟩ => ⟨a, vs, h1, Same.sqT e h2, Reps.mono e h3⟩
  | .lst _, _, ⟨a, vs, h1, h2, h3⟩ => ⟨a, vs, h1, e.seq h2, Reps.mono e h3⟩
  | .dct _ _, _, ⟨a, vs, h1, h2, h3, h4⟩ => ⟨a, vs, h1, Same.rd e h2, h3, Reps.mono e h4⟩
  | .exc _ _, _, ⟨x, C, dct, vs, h1, h2, h3, h4, h5⟩ => ⟨x, C, dct, vs, h1, e _ _ h2, h3, h4.mono e, Reps.mono e h5⟩
theorem Reps.mono (e : Same G G') : ∀ {ds : List D} {vs : List V}, Reps K mg G ds vs -> Reps K mg G' ds vs
  | [], _, h => h
  | _ :: _, _, ⟨v, r, h1, h2, h3⟩ => ⟨v, r, h1, Rep.mono e h2, Reps.mono e h3⟩
end
theorem Reps.length : ∀ {ds : List D} {vs : List V}, Reps K mg G ds vs -> ds.length = vs.length
  | [], _, h => by cases h; rfl
  | _ :: _, _, ⟨v, r, h1, _, h3⟩ => by cases h1; rw [xa0, xa0, Reps.length h3]
theorem Reps.nil : Reps K mg G [] [] := rfl
theorem Reps.cons {d : D} {v : V} {ds : List D} {vs : List V} (h : Rep K mg G d v) (t : Reps K mg G ds vs) : Reps K mg G (d :: ds) (v :: vs) := ⟨v, vs, rfl, h, t⟩
theorem Reps.append : ∀ {ds es : List D} {vs ws : List V}, Reps K mg G ds vs -> Reps K mg G es ws -> Reps K mg G (ds ++ es) (vs ++ ws)
  | [], _, _, _, h, t => by cases h; exact t
  | _ :: _, _, _, _, ⟨v, r, h1, h2, h3⟩, t => by cases h1; exact ⟨v, r ++ _, rfl, h2, h3.append t⟩
theorem Reps.get : ∀ {ds : List D} {vs : List V} {i : Nat} {d : D}, Reps K mg G ds vs -> ds[i]? = some d -> ∃ v, vs[i]? = some v /\ Rep K mg G d v
  | [], _, _, _, _, e => by simp at e
  | _ :: _, _, 0, _, ⟨v, r, h1, h2, _⟩, e => by simp at e; subst e; subst h1; exact ⟨v, rfl, h2⟩
  | _ :: ds, _, i + 1, d, ⟨v, r, h1, _, h3⟩, e => by
    subst h1
    obtain ⟨w, e1, e2⟩ := Reps.get (i := i) (d := d) h3 (by simpa using e)
    exact ⟨w, by simpa using e1, e2⟩
theorem Reps.drop : ∀ {ds : List D} {vs : List V} (n : Nat), Reps K mg G ds vs -> Reps K mg G (ds.drop n) (vs.drop n)
  | _, _, 0, h => h
  | [], _, _ + 1, h => by cases h; exact rfl
  | _ :: _, _, n + 1, ⟨_, _, h1, _, h3⟩ => by subst h1; exact h3.drop n
theorem Reps.take : ∀ {ds : List D} {vs : List V} (n : Nat), Reps K mg G ds vs -> Reps K mg G (ds.take n) (vs.take n)
  | _, _, 0, h => by simp only [List.take_zero]; exact rfl
  | [], _, _ + 1, h => by cases h; exact rfl
  | _ :: _, _, n + 1, ⟨v, _, h1, h2, h3⟩ => by subst h1; exact ⟨v, _, rfl, h2, h3.take n⟩
theorem Reps.ints (ns : List Int) : Reps K mg G (ns.map D.int) (ns.map V.int) := by
  induction ns with
  | nil => exact rfl
  | cons n r ih => exact ⟨_, _, rfl, rfl, ih⟩
theorem Reps.of_ints : ∀ {ns : List Int} {vs : List V}, Reps K mg G (ns.map D.int) vs -> vs = ns.map V.int
  | [], _, h => h
  | _ :: _, _, ⟨_, _, h1, h2, h3⟩ => by subst h1; cases h2; rw [Reps.of_ints h3]; rfl
theorem Reps.of_bools : ∀ {bs : List Bool} {vs : List V}, Reps K mg G (bs.map D.bl) vs -> vs = bs.map V.bl
  | [], _, h => h
  | _ :: _, _, ⟨_, _, h1, h2, h3⟩ => by subst h1; cases h2; rw [Reps.of_bools h3]; rfl
theorem Reps.at {ds : List D} {vs : List V} {i : Int} {d : D} (h : Reps K mg G ds vs) (e : atI ds i = some d) : ∃ v, atI vs i = some v /\ Rep K mg G d v := by
  unfold atI at e ⊢
  rw [h.length] at e
  cases q : ixN vs.length i with
  | none => rw [q] at e; cases e
  | some j => rw [q] at e; exact h.get e
structure Step (G H G' H' : Hp) : Prop where
  g : Same G G'
  h : Same H H'
  e : Same G' H'
  c : ∀ a o, H a = some o -> G a = none -> G' a = none
theorem Step.refl (e : Same G H) : Step G H G H := ⟨Same.refl _, Same.refl _, e, fun _ _ _ h => h⟩
theorem Step.trans {G1 H1 : Hp} (a : Step G H G1 H1) (b : Step G1 H1 G' H') : Step G H G' H' :=
  ⟨a.g.trans b.g, a.h.trans b.h, b.e, fun x o p q => b.c x o (a.h x o p) (a.c x o p q)⟩
theorem same_upd {p : Addr} {o : HO} (h : H p = none) : Same H (upd H p o) := same_new h o
theorem Step.pub {p : Addr} {o : HO} (e : Same G H) (h : H p = none) : Step G H (upd G p o) (upd H p o) := by
  refine ⟨same_upd (e.free h), same_upd h, fun b u q => ?_, fun a u p1 q1 => ?_⟩
  · by_cases hb : b = p
    · subst hb; rw [upd_same] at q ⊢; exact q
    · rw [upd_ne hb] at q ⊢; exact e b u q
  · have hb : a ≠ p := ne_of_none p1 h
    rw [upd_ne hb]; exact q1
theorem Step.hid {p : Addr} {o : HO} (e : Same G H) (h : H p = none) : Step G H G (upd H p o) :=
  ⟨Same.refl _, same_upd h, e.trans (same_upd h), fun _ _ _ q => q⟩
theorem Step.heap (e : Same G H) (h : Same H H') : Step G H G H' := ⟨Same.refl _, h, e.trans h, fun _ _ _ q => q⟩
end
abbrev DSt := List (Option D)
structure Ok0 (K : xFg) (mg : Str -> Option Value) (Od : DSt) (O : St) (G H : Hp) : Prop where
  ext : Same G H
  len : Od.length = O.length
  val : ∀ (i : Nat) (d : D), Od[i]? = some (some d) -> ∃ v, O[i]? = some (some v) /\ Rep K mg G d v
section
variable {K : xFg} {mg : Str -> Option Value} {G G' H H' : Hp} {Od : DSt} {O : St}
theorem Ok0.step (o : Ok0 K mg Od O G H) (s : Step G H G' H') : Ok0 K mg Od O G' H' :=
  ⟨s.e, o.len, fun i d q => let ⟨v, h1, h2⟩ := o.val i d q; ⟨v, h1, h2.mono s.g⟩⟩
theorem Ok0.set {i : Nat} {d : D} {v : V} (o : Ok0 K mg Od O G H) (h : Rep K mg G d v) : Ok0 K mg (Od.set i (some d)) (O.set i (some v)) G H := by
  refine ⟨o.ext, by simp [o.len], fun j e q => ?_⟩
  by_cases hj : j = i
  · subst hj
    have hl : j < Od.length := by have := (xae.mp q).1; simpa using this
    rw [xaz hl] at q
    cases q
    exact ⟨v, by rw [xaz (by rw [<- o.len]; exact hl)], h⟩
  · rw [xaf (xa3 hj)] at q ⊢
    exact o.val j e q
theorem Ok0.cons {x : Option D} {y : Option V} (o : Ok0 K mg Od O G H) (h : ∀ d, x = some d -> ∃ v, y = some v /\ Rep K mg G d v) : Ok0 K mg (x :: Od) (y :: O) G H := by
  refine ⟨o.ext, by simp [o.len], fun j e q => ?_⟩
  cases j with
  | zero =>
    have q' : x = some e := by simpa using q
    obtain ⟨v, h1, h2⟩ := h e q'
    exact ⟨v, by simp [h1], h2⟩
  | succ j => exact o.val j e (by simpa using q)
theorem Ok0.nones (o : Ok0 K mg Od O G H) : ∀ k : Nat, Ok0 K mg (List.replicate k none ++ Od) (List.replicate k none ++ O) G H
  | 0 => o
  | k + 1 => (Ok0.nones o k).cons (x := none) (y := none) (fun d e => by cases e)
end
section
variable (K : xFg) (mg : Str -> Option Value) (E : XK)
def After (Q : VK) (G H : Hp) (d : D) : Prop := ∀ v G' H', Step G H G' H' -> Rep K mg G' d v -> Q v H'
def AfterT (Q : Bool -> Hp -> Prop) (G H : Hp) (b : Bool) : Prop := ∀ G' H', Step G H G' H' -> Q b H'
def AfterA (Q : List V -> Hp -> Prop) (G H : Hp) (ds : List D) : Prop := ∀ vs G' H', Step G H G' H' -> Reps K mg G' ds vs -> Q vs H'
def AfterF (Q : VK) (G H : Hp) (ds : List D) : Prop := ∀ a vs G' H', Step G H G' H' -> H a = none -> H' a = some (.lst vs) -> G' a = none -> Reps K mg G' ds vs -> Q (.ref a) H'
def AfterX (G H : Hp) (e : D) : Prop := ∀ G' H' C dct, Step G H G' H' -> ExcR K mg G' e C dct -> E (.ref C) dct H'
def tE (f : DSt -> R D) : TE := fun O H Q => ∃ G Od, Ok0 K mg Od O G H /\ RW (f Od) (After K mg Q G H) (AfterX K mg E G H)
def tT (f : DSt -> R Bool) : TT := fun O H Q => ∃ G Od, Ok0 K mg Od O G H /\ RW (f Od) (AfterT Q G H) (AfterX K mg E G H)
def tAr (f : DSt -> R (List D)) : TA := fun O H Q => ∃ G Od, Ok0 K mg Od O G H /\ RW (f Od) (AfterA K mg Q G H) (AfterX K mg E G H)
def tFr (f : DSt -> R (List D)) : TE := fun O H Q => ∃ G Od, Ok0 K mg Od O G H /\ RW (f Od) (AfterF K mg Q G H) (AfterX K mg E G H)
end
def DE (X : Cx) (E : XK) (e : Expr) (f : DSt -> R D) : Prop := PE X e (tE X.K X.mg E f)
def DT (X : Cx) (E : XK) (e : Expr) (f : DSt -> R Bool) : Prop := PT X e (tT X.K X.mg E f)
def DW (X : Cx) (E : XK) (e : Expr) (f : DSt -> R Bool) : Prop := PW X e (tT X.K X.mg E f)
def DA (X : Cx) (E : XK) (es : List Expr) (f : DSt -> R (List D)) : Prop := PA X es (tAr X.K X.mg E f)
def DF (X : Cx) (E : XK) (e : Expr) (f : DSt -> R (List D)) : Prop := PE X e (tFr X.K X.mg E f)
section
variable {X : Cx} {E : XK} {K : xFg} {mg : Str -> Option Value} {G G1 H H1 : Hp}
theorem PE.mono' {e : Expr} {t t' : TE} (h : PE X e t) (m : ∀ O H Q, t' O H Q -> t O H Q) : PE X e t' := fun pins s O H Q I q => h pins s O H Q I (m O H Q q)
theorem PT.mono' {e : Expr} {t t' : TT} (h : PT X e t) (m : ∀ O H Q, t' O H Q -> t O H Q) : PT X e t' := fun pins s O H Q I q => h pins s O H Q I (m O H Q q)
theorem PW.mono' {e : Expr} {t t' : TT} (h : PW X e t) (m : ∀ O H Q, t' O H Q -> t O H Q) : PW X e t' := fun wh pins s O H Q I q => h wh pins s O H Q I (m O H Q q)
theorem PA.mono' {es : List Expr} {t t' : TA} (h : PA X es t) (m : ∀ O H Q, t' O H Q -> t O H Q) : PA X es t' := fun pos pins s O H Q I q => h pos pins s O H Q I (m O H Q q)
theorem PS.mono' {st : Stmt} {t t' : TS} (h : PS X st t) (m : ∀ D O H, t' D O H -> t D O H) : PS X st t' := fun pins s O H D I q => h pins s O H D I (m D O H q)
theorem PSs.mono' {st : List Stmt} {t t' : TS} (h : PSs X st t) (m : ∀ D O H, t' D O H -> t D O H) : PSs X st t' := fun pins s O H D I q => h pins s O H D I (m D O H q)
theorem After.step {Q : VK} {d : D} (h : After K mg Q G H d) (s : Step G H G1 H1) : After K mg Q G1 H1 d := fun v G' H' s' r => h v G' H' (s.trans s') r
theorem AfterX.step {e : D} (h : AfterX K mg E G H e) (s : Step G H G1 H1) : AfterX K mg E G1 H1 e := fun G' H' C dct s' r => h G' H' C dct (s.trans s') r
theorem AfterT.step {Q : Bool -> Hp -> Prop} {b : Bool} (h : AfterT Q G H b) (s : Step G H G1 H1) : AfterT Q G1 H1 b := fun G' H' s' => h G' H' (s.trans s')
theorem After.now {Q : VK} {d : D} {v : V} (h : After K mg Q G H d) (e : Same G H) (r : Rep K mg G d v) : Q v H := h v G H (.refl e) r
theorem DF.de {e : Expr} {f : DSt -> R (List D)} (h : DF X E e f) : DE X E e (fun O => (f O).bind fun ds => .ok (.lst ds)) := by
  refine PE.mono' h fun O H Q ⟨G, Od, ok, q⟩ => ⟨G, Od, ok, q.of_bind.mono (fun ds _ q => ?_) fun _ z => z⟩
  intro a vs G' H' s n e g r
  have q' : After X.K X.mg Q G H (.lst ds) := q
  have sg : Same G' (upd G' a (.lst vs)) := same_upd g
  refine q' (.ref a) (upd G' a (.lst vs)) H' ⟨s.g.trans sg, s.h, fun b u p => ?_, fun b u p1 p2 => ?_⟩ ⟨a, vs, rfl, SqL.of upd_same, r.mono sg⟩
  · by_cases hb : b = a
    · subst hb; rw [upd_same] at p; cases p; exact e
    · rw [upd_ne hb] at p; exact s.e b u p
  · have hb : b ≠ a := ne_of_none p1 n
    rw [upd_ne hb]; exact s.c b u p1 p2
def eVar (i : Nat) : DSt -> R D := fun O => match O[i]? with
  | some (some d) => .ok d
  | _ => .bad
theorem de_var (i : Nat) {x : Str} {pos : Pos} (hN : X.N[i]? = some x := by rfl) (hv : Vis X.env.scope x := by first | exact Or.inl rfl | exact Or.inr (Or.inl rfl) | exact Or.inr (Or.inr rfl)) (hd : (x == ("__debug__" : Str)) = false := by decide)
    (hcd : (x == ("__classdict__" : Str)) = false := by decide) : DE X E (.Name x pos) (eVar i) := by
  refine PE.mono' (pv i hN hv hd hcd) fun O H Q ⟨G, Od, ok, q⟩ => ?_
  unfold eVar at q
  split at q
  · rename_i d e
    obtain ⟨v, h1, h2⟩ := ok.val i d e
    exact ⟨v, h1, After.now q ok.ext h2⟩
  · exact q.elim
def eC (d : D) : DSt -> R D := fun _ => .ok d
theorem de_int {i j pos} : DE X E (.Constant (.int i) j pos) (eC (.int i)) := PE.mono' pe_int fun _ _ _ ⟨_, _, ok, q⟩ => After.now q ok.ext rfl
theorem de_bl {b j pos} : DE X E (.Constant (.bool b) j pos) (eC (.bl b)) := PE.mono' pe_bl fun _ _ _ ⟨_, _, ok, q⟩ => After.now q ok.ext rfl
theorem de_non {j pos} : DE X E (.Constant .none j pos) (eC .non) := PE.mono' pe_non fun _ _ _ ⟨_, _, ok, q⟩ => After.now q ok.ext rfl
theorem de_str {x j pos} : DE X E (.Constant (.str x) j pos) (eC (.str x)) := PE.mono' pe_str fun _ _ _ ⟨_, _, ok, q⟩ => After.now q ok.ext rfl
theorem de_glob {x : Str} {d : D} {v : V} {u : Value} {pos : Pos} (hm : X.mg x = some u) (r : RelV v u) (rp : ∀ G, Rep X.K X.mg G d v) (hg : Gl X x := by rfl) (hd : (x == ("__debug__" : Str)) = false := by decide) : DE X E (.Name x pos) (eC d) :=
  PE.mono' (pe_glob hg hm r hd) fun _ _ _ ⟨_, _, ok, q⟩ => After.now q ok.ext (rp _)
theorem de_cls {x : Str} {C : Addr} {pos : Pos} (hm : X.mg x = some (.ref C)) (hg : Gl X x := by rfl) (hd : (x == ("__debug__" : Str)) = false := by decide) : DE X E (.Name x pos) (eC (.cls x)) :=
  de_glob hm (v := .ref C) rfl (fun _ => ⟨C, rfl, hm⟩) hg hd
theorem de_ty {x : Str} {n : String} {pos : Pos} (hm : X.mg x = none) (hv : bootBuiltins x = some (.type n) := by rfl) (hg : Gl X x := by rfl) (hn : x ≠ "__name__" := by decide) (hd : (x == ("__debug__" : Str)) = false := by decide) : DE X E (.Name x pos) (eC (.ty n)) :=
  PE.mono' (pe_bltn hg hm hv (v := .ty n) rfl hn hd) fun _ _ _ ⟨_, _, ok, q⟩ => After.now q ok.ext rfl
def OpD (K : xFg) (mg : Str -> Option Value) (r : R2) (g : D -> D -> R D) : Prop :=
  ∀ (G H : Hp) (a b : D) (x y : V) (Q : VK), Same G H -> Rep K mg G a x -> Rep K mg G b y -> RW (g a b) (After K mg Q G H) (fun _ => False) -> r x y H Q
def eOp (g : D -> D -> R D) (fa fb : DSt -> R D) : DSt -> R D := fun O => (fa O).bind fun x => (fb O).bind fun y => g x y
theorem tE_then {f : DSt -> R D} {α : Type} {k : D -> R α} {O : St} {H : Hp} {Q : VK} {P : Hp -> Hp -> α -> Prop} {G : Hp} {Od : DSt}
    (ok : Ok0 K mg Od O G H) (q : RW ((f Od).bind k) (P G H) (AfterX K mg E G H))
    (h : ∀ d v G' H', Step G H G' H' -> Ok0 K mg Od O G' H' -> Rep K mg G' d v -> RW (k d) (P G H) (AfterX K mg E G' H') -> Q v H') : tE K mg E f O H Q :=
  ⟨G, Od, ok, q.of_bind.mono (fun d _ q v G' H' s r => h d v G' H' s (ok.step s) r (q.mono (fun _ _ z => z) fun e z => z.step s)) fun _ z => z⟩
theorem noX {α : Type} {r : R α} {Q : α -> Prop} {E' : D -> Prop} (hr : ∀ e, r ≠ .err e) (h : RW r Q E') : RW r Q (fun _ => False) := by
  cases r with
  | ok a => exact h
  | err e => exact xag rfl (hr e)
  | bad => exact h
def NoErr (g : D -> D -> R D) : Prop := ∀ a b e, g a b ≠ .err e
theorem tOp_of {r : R2} {g : D -> D -> R D} (hd : OpD X.K X.mg r g) (hn : NoErr g) {fa fb : DSt -> R D} {O : St} {H : Hp} {Q : VK} (h : tE X.K X.mg E (eOp g fa fb) O H Q) : tOp r (tE X.K X.mg E fa) (tE X.K X.mg E fb) O H Q := by
  obtain ⟨G, Od, ok, q⟩ := h
  refine tE_then (P := After X.K X.mg Q) ok q fun a x G1 H1 s1 ok1 r1 q1 => ?_
  refine tE_then (P := fun _ _ => After X.K X.mg Q G H) ok1 q1 fun b y G2 H2 s2 ok2 r2 q2 => ?_
  exact hd G2 H2 a b x y Q ok2.ext (r1.mono s2.g) r2 (noX (hn a b) (q2.mono (fun _ _ z => z.step (s1.trans s2)) fun _ z => z))
variable {a b c : Expr} {fa fb fc : DSt -> R D} {pos : Pos}
theorem de_op {op : Operator} {r : R2} {g : D -> D -> R D} (ho : OpR X (binaryOp op) r) (hd : OpD X.K X.mg r g) (hn : NoErr g) (ha : DE X E a fa) (hb : DE X E b fb) : DE X E (.BinOp a op b pos) (eOp g fa fb) :=
  PE.mono' (pe_op ho ha hb) fun _ _ _ h => tOp_of hd hn h
theorem de_cmp {op : CmpOp} {r : R2} {g : D -> D -> R D} (ho : OpR X (compareOp op) r) (hd : OpD X.K X.mg r g) (hn : NoErr g) (ha : DE X E a fa) (hb : DE X E b fb) (hm : behindInMarks op b = false := by first | exact nobehind _ (by decide) (by decide) | rfl) : DE X E (.Compare a [op] [b] pos) (eOp g fa fb) :=
  PE.mono' (pe_cmpR ho ha hb hm) fun _ _ _ h => tOp_of hd hn h
def asB : D -> R Bool
  | .bl b => .ok b
  | _ => .bad
def eTest (f : DSt -> R D) : DSt -> R Bool := fun O => (f O).bind asB
theorem tTest_of {t : TE} {f : DSt -> R D} (h : ∀ O H Q, tE X.K X.mg E f O H Q -> t O H Q) {O : St} {H : Hp} {Q : Bool -> Hp -> Prop} (q : tT X.K X.mg E (eTest f) O H Q) : tTest t O H Q := by
  obtain ⟨G, Od, ok, q⟩ := q
  refine h O H _ ⟨G, Od, ok, q.of_bind.mono (fun d _ q v G' H' s r => ?_) fun _ z => z⟩
  cases d with
  | bl k => cases r; exact ⟨k, rfl, (show AfterT Q G H k from q) G' H' s⟩
  | _ => exact (show False from q).elim
theorem dt_cmp {op : CmpOp} {r : R2} {g : D -> D -> R D} (ho : OpR X (compareOp op) r) (hd : OpD X.K X.mg r g) (hn : NoErr g) (ha : DE X E a fa) (hb : DE X E b fb) (hm : behindInMarks op b = false := by first | exact nobehind _ (by decide) (by decide) | rfl) : DT X E (.Compare a [op] [b] pos) (eTest (eOp g fa fb)) :=
  PT.mono' (pt_cmpR ho ha hb hm) fun _ _ _ q => tTest_of (fun _ _ _ h => tOp_of hd hn h) q
def eChain (g g' : D -> D -> R D) (fa fb fc : DSt -> R D) : DSt -> R D := fun O => (fa O).bind fun x => (fb O).bind fun y => (g x y).bind fun z => (asB z).bind fun k => bif k then (fc O).bind fun w => g' y w else .ok (.bl false)
theorem tChain_of {r r' : R2} {g g' : D -> D -> R D} (hd : OpD X.K X.mg r g) (hn : NoErr g) (hd' : OpD X.K X.mg r' g') (hn' : NoErr g') {O : St} {H : Hp} {Q : VK} (h : tE X.K X.mg E (eChain g g' fa fb fc) O H Q) :
    tChain r r' (tE X.K X.mg E fa) (tE X.K X.mg E fb) (tE X.K X.mg E fc) O H Q := by
  obtain ⟨G, Od, ok, q⟩ := h
  refine tE_then (P := After X.K X.mg Q) ok q fun a x G1 H1 s1 ok1 r1 q1 => ?_
  refine tE_then (P := fun _ _ => After X.K X.mg Q G H) ok1 q1 fun b y G2 H2 s2 ok2 r2 q2 => ?_
  refine hd G2 H2 a b x y _ ok2.ext (r1.mono s2.g) r2 ?_
  have s12 := s1.trans s2
  cases ez : g a b with
  | bad => rw [ez] at q2; exact q2.elim
  | err e => exact xag ez (hn a b e)
  | ok z =>
    rw [ez] at q2
    intro v G3 H3 s3 r3
    cases z with
    | bl k =>
      cases r3
      have ok3 := ok2.step s3
      have s13 := s12.trans s3
      refine ⟨k, rfl, ?_⟩
      cases k with
      | false =>
        rw [xap xaw]
        have q3 : After X.K X.mg Q G H (.bl false) := q2
        exact q3 _ G3 H3 s13 rfl
      | true =>
        rw [xav rfl]
        have q3 : RW ((fc Od).bind fun w => g' b w) (After X.K X.mg Q G H) (AfterX X.K X.mg E G2 H2) := q2
        refine tE_then (k := fun w => g' b w) (P := fun _ _ => After X.K X.mg Q G H) ok3 (q3.mono (fun _ _ z => z) fun _ z => z.step s3) fun c w G4 H4 s4 ok4 r4 q4 => ?_
        exact hd' G4 H4 b c y w Q ok4.ext (r2.mono (s3.g.trans s4.g)) r4 (noX (hn' b c) (q4.mono (fun _ _ z => z.step (s13.trans s4)) fun _ z => z))
    | _ => exact (show False from q2).elim
theorem dt_chain {op op' : CmpOp} {r r' : R2} {g g' : D -> D -> R D} (ho : OpR X (compareOp op) r) (hd : OpD X.K X.mg r g) (hn : NoErr g) (ho' : OpR X (compareOp op') r') (hd' : OpD X.K X.mg r' g') (hn' : NoErr g') (ha : DE X E a fa) (hb : DE X E b fb) (hc : DE X E c fc)
    (hm : lastMarks [op, op'] [b, c] = false := by with_unfolding_all rfl) : DT X E (.Compare a [op, op'] [b, c] pos) (eTest (eChain g g' fa fb fc)) :=
  PT.mono' (pt_chain ho ho' ha hb hc hm) fun _ _ _ q => tTest_of (fun _ _ _ h => tChain_of hd hn hd' hn' h) q
theorem dt_val {e : Expr} {f : DSt -> R D} (h : DE X E e f) (he : ∀ whole, isTrue e X.env whole = (do let v <- whole; standAt e.pos; holding [v] (truthy v)) := by intro _; rfl) : DT X E e (eTest f) :=
  PT.mono' (pt_val h he) fun O H Q q => tTest_of (t := tE X.K X.mg E f) (fun _ _ _ h => h) q
theorem DW.dt {e : Expr} {f : DSt -> R Bool} (h : DW X E e f) : DT X E e f := h _
variable {rest : List Expr} {ga gb : DSt -> R Bool}
def eAnd (fa fb : DSt -> R Bool) : DSt -> R Bool := fun O => (fa O).bind fun k => bif k then fb O else .ok false
def eOr (fa fb : DSt -> R Bool) : DSt -> R Bool := fun O => (fa O).bind fun k => bif k then .ok true else fb O
def eNot (fa : DSt -> R Bool) : DSt -> R Bool := fun O => (fa O).bind fun k => .ok (!k)
theorem tT_then {f : DSt -> R Bool} {α : Type} {k : Bool -> R α} {O : St} {H : Hp} {Q : Bool -> Hp -> Prop} {P : α -> Prop} {G : Hp} {Od : DSt}
    (ok : Ok0 K mg Od O G H) (q : RW ((f Od).bind k) P (AfterX K mg E G H))
    (h : ∀ b G' H', Step G H G' H' -> Ok0 K mg Od O G' H' -> RW (k b) P (AfterX K mg E G' H') -> Q b H') : tT K mg E f O H Q :=
  ⟨G, Od, ok, q.of_bind.mono (fun d _ q G' H' s => h d G' H' s (ok.step s) (q.mono (fun _ _ z => z) fun e z => z.step s)) fun _ z => z⟩
theorem dw_and1 (ha : DT X E a ga) : DW X E (.BoolOp .And [a] pos) ga := pw_and1 ha
theorem dw_or1 (ha : DT X E a ga) : DW X E (.BoolOp .Or [a] pos) ga := pw_or1 ha
theorem dw_and (ha : DT X E a ga) (hb : DW X E (.BoolOp .And (b :: rest) pos) gb) : DW X E (.BoolOp .And (a :: b :: rest) pos) (eAnd ga gb) := by
  refine PW.mono' (pw_and ha hb) fun O H Q ⟨G, Od, ok, q⟩ => ?_
  refine tT_then ok q fun k G' H' s ok' q' => ?_
  cases k with
  | true => rw [xav rfl]; exact ⟨G', Od, ok', q'.mono (fun _ _ z => z.step s) fun _ z => z⟩
  | false => rw [xap xaw]; exact (show AfterT Q G H false from q') G' H' s
theorem dw_or (ha : DT X E a ga) (hb : DW X E (.BoolOp .Or (b :: rest) pos) gb) : DW X E (.BoolOp .Or (a :: b :: rest) pos) (eOr ga gb) := by
  refine PW.mono' (pw_or ha hb) fun O H Q ⟨G, Od, ok, q⟩ => ?_
  refine tT_then ok q fun k G' H' s ok' q' => ?_
  cases k with
  | true => rw [xav rfl]; exact (show AfterT Q G H true from q') G' H' s
  | false => rw [xap xaw]; exact ⟨G', Od, ok', q'.mono (fun _ _ z => z.step s) fun _ z => z⟩
theorem dt_not (ha : DT X E a ga) : DT X E (.UnaryOp .Not a pos) (eNot ga) := by
  refine PT.mono' (pt_not ha) fun O H Q ⟨G, Od, ok, q⟩ => ?_
  exact tT_then ok q fun k G' H' s _ q' => (show AfterT Q G H (!k) from q') G' H' s
def vAnd (fa fb : DSt -> R D) : DSt -> R D := fun O => (fa O).bind fun x => (asB x).bind fun k => bif k then fb O else .ok (.bl false)
def vOr (fa fb : DSt -> R D) : DSt -> R D := fun O => (fa O).bind fun x => (asB x).bind fun k => bif k then .ok (.bl true) else fb O
def vNot (fa : DSt -> R D) : DSt -> R D := fun O => (fa O).bind fun x => (asB x).bind fun k => .ok (.bl !k)
theorem de_one {op} {f : DSt -> R D} (h : DE X E a f) : DE X E (.BoolOp op [a] pos) f := pe_one h
theorem de_and (ha : DE X E a fa) (hb : DE X E (.BoolOp .And (b :: rest) pos) fb) : DE X E (.BoolOp .And (a :: b :: rest) pos) (vAnd fa fb) := by
  refine PE.mono' (pe_and ha hb) fun O H Q ⟨G, Od, ok, q⟩ => ?_
  refine tE_then (P := After X.K X.mg Q) ok q fun d v G' H' s ok' r q' => ?_
  cases d with
  | bl k =>
    cases r
    refine ⟨k, rfl, ?_⟩
    cases k with
    | true => rw [xav rfl]; exact ⟨G', Od, ok', q'.mono (fun _ _ z => z.step s) fun _ z => z⟩
    | false => rw [xap xaw]; exact (show After X.K X.mg Q G H (.bl false) from q') _ G' H' s rfl
  | _ => exact (show False from q').elim
theorem de_not (ha : DE X E a fa) : DE X E (.UnaryOp .Not a pos) (vNot fa) := by
  refine PE.mono' (pe_not ha) fun O H Q ⟨G, Od, ok, q⟩ => ?_
  refine tE_then (P := After X.K X.mg Q) ok q fun d v G' H' s ok' r q' => ?_
  cases d with
  | bl k => cases r; exact ⟨k, rfl, (show After X.K X.mg Q G H (.bl !k) from q') _ G' H' s rfl⟩
  | _ => exact (show False from q').elim
def eIf (c : DSt -> R Bool) (fa fb : DSt -> R D) : DSt -> R D := fun O => (c O).bind fun k => bif k then fa O else fb O
def UnD (K : xFg) (mg : Str -> Option Value) (r : V -> Hp -> VK -> Prop) (g : D -> R D) : Prop :=
  ∀ (G H : Hp) (a : D) (x : V) (Q : VK), Same G H -> Rep K mg G a x -> RW (g a) (After K mg Q G H) (fun _ => False) -> r x H Q
def eUn (g : D -> R D) (fa : DSt -> R D) : DSt -> R D := fun O => (fa O).bind g
theorem de_un {op : UnaryOp} {r : V -> Hp -> VK -> Prop} {g : D -> R D} (ho : UnR X (unaryOp op) r) (hd : UnD X.K X.mg r g) (hn : ∀ a e, g a ≠ .err e) (ha : DE X E a fa) : DE X E (.UnaryOp op a pos) (eUn g fa) := by
  refine PE.mono' (pe_un ho ha) fun O H Q ⟨G, Od, ok, q⟩ => ?_
  refine tE_then (P := After X.K X.mg Q) ok q fun d v G' H' s ok' r q' => ?_
  exact hd G' H' d v Q ok'.ext r (noX (hn d) (q'.mono (fun _ _ z => z.step s) fun _ z => z))
def aNil : DSt -> R (List D) := fun _ => .ok []
def aCons (fa : DSt -> R D) (fs : DSt -> R (List D)) : DSt -> R (List D) := fun O => (fa O).bind fun x => (fs O).bind fun xs => .ok (x :: xs)
variable {es : List Expr} {fs : DSt -> R (List D)}
theorem da_nil : DA X E [] aNil := PA.mono' pa_nil fun O H Q ⟨G, Od, ok, q⟩ => (show AfterA X.K X.mg Q G H [] from q) [] G H (.refl ok.ext) Reps.nil
theorem da_cons (ha : DE X E a fa) (hr : DA X E es fs) (hs : starEach (a :: es) X.env = (false, eval a X.env) :: starEach es X.env := by rfl) : DA X E (a :: es) (aCons fa fs) := by
  refine PA.mono' (pa_cons ha hr hs) fun O H Q ⟨G, Od, ok, q⟩ => ?_
  refine tE_then (P := AfterA X.K X.mg Q) ok q fun d v G' H' s ok' r q' => ?_
  refine ⟨G', Od, ok', q'.of_bind.mono (fun ds _ z vs G2 H2 s2 r2 => ?_) fun _ z => z⟩
  exact (show AfterA X.K X.mg Q G H (d :: ds) from z) _ G2 H2 (s.trans s2) (Reps.cons (r.mono s2.g) r2)
def few (n : Nat) : Bool := decide (n <= 1000)
theorem few_le {n : Nat} (h : few n = true) : n <= sizeLine := small (xaj h)
def eTup (fs : DSt -> R (List D)) : DSt -> R D := fun O => (fs O).bind fun ds => bif few ds.length then .ok (.tup ds) else .bad
theorem tA_then {α : Type} {k : List D -> R α} {O : St} {H : Hp} {Q : List V -> Hp -> Prop} {P : α -> Prop} {G : Hp} {Od : DSt}
    (ok : Ok0 K mg Od O G H) (q : RW ((fs Od).bind k) P (AfterX K mg E G H))
    (h : ∀ ds vs G' H', Step G H G' H' -> Ok0 K mg Od O G' H' -> Reps K mg G' ds vs -> RW (k ds) P (AfterX K mg E G' H') -> Q vs H') : tAr K mg E fs O H Q :=
  ⟨G, Od, ok, q.of_bind.mono (fun ds _ q vs G' H' s r => h ds vs G' H' s (ok.step s) r (q.mono (fun _ _ z => z) fun e z => z.step s)) fun _ z => z⟩
theorem de_tup {x1} (h : DA X E es fs) : DE X E (.Tuple es x1 pos) (eTup fs) := by
  refine PE.mono' (pe_tup h) fun O H Q ⟨G, Od, ok, q⟩ => ?_
  refine tA_then (P := After X.K X.mg Q G H) ok q fun ds vs G' H' s ok' r q' => ?_
  cases hf : few ds.length with
  | false => rw [hf] at q'; exact (show False from q').elim
  | true =>
    rw [hf] at q'
    have q2 : After X.K X.mg Q G H (.tup ds) := q'
    refine ⟨by rw [<- r.length]; exact few_le hf, fun p hp => ?_⟩
    have s2 : Step G' H' (upd G' p (.tup vs)) (upd H' p (.tup vs)) := .pub ok'.ext hp
    exact q2 _ _ _ (s.trans s2) ⟨p, vs, rfl, SqT.of upd_same, r.mono s2.g⟩
def eLst (fs : DSt -> R (List D)) : DSt -> R (List D) := fun O => (fs O).bind fun ds => bif few ds.length then .ok ds else .bad
theorem df_lst (h : DA X E es fs) : DF X E (.List es pos) (eLst fs) := by
  refine PE.mono' (pe_lst h) fun O H Q ⟨G, Od, ok, q⟩ => ?_
  refine tA_then (P := AfterF X.K X.mg Q G H) ok q fun ds vs G' H' s ok' r q' => ?_
  cases hf : few ds.length with
  | false => rw [hf] at q'; exact (show False from q').elim
  | true =>
    rw [hf] at q'
    have q2 : AfterF X.K X.mg Q G H ds := q'
    refine ⟨by rw [<- r.length]; exact few_le hf, fun p hp => ?_⟩
    exact q2 p vs G' _ (s.trans (.hid ok'.ext hp)) (s.h.free hp) upd_same (ok'.ext.free hp) r
def gIx : D -> D -> R D
  | .tup xs, .int i => match atI xs i with
    | some d => .ok d
    | none => .bad
  | .lst xs, .int i => match atI xs i with
    | some d => .ok d
    | none => .bad
  | _, _ => .bad
theorem nx_ix : NoErr gIx := by
  intro a b e h
  cases a <;> cases b <;> simp only [gIx] at h <;> first | exact xag h (by simp) | (split at h <;> cases h)
theorem od_ix : OpD K mg (fun x y H Q => rIxL K x y H Q \/ rIxT K x y H Q) gIx := by
  intro G H a b x y Q e ra rb q
  cases b with
  | int i =>
    cases rb
    cases a with
    | lst xs =>
      obtain ⟨p, vs, rfl, h1, h2⟩ := ra
      cases ed : atI xs i with
      | none => simp only [gIx, ed] at q; exact q.elim
      | some d =>
        simp only [gIx, ed] at q
        obtain ⟨v, h3, h4⟩ := h2.at ed
        exact .inl ⟨p, vs, i, v, rfl, rfl, e.seq h1, h3, After.now q e h4⟩
    | tup xs =>
      obtain ⟨p, vs, rfl, h1, h2⟩ := ra
      cases ed : atI xs i with
      | none => simp only [gIx, ed] at q; exact q.elim
      | some d =>
        simp only [gIx, ed] at q
        obtain ⟨v, h3, h4⟩ := h2.at ed
        exact .inr ⟨p, vs, i, v, rfl, rfl, Same.sqT e h1, h3, After.now q e h4⟩
    | _ => exact (show False from q).elim
  | _ => cases a <;> exact (show False from q).elim
theorem de_ix (ha : DE X E a fa) (hb : DE X E b fb) (hs : PlainIx b := by intro _ _; rfl) : DE X E (.Subscript a b pos) (eOp gIx fa fb) :=
  PE.mono' (pe_ix (ix_list.or ix_tup) ha hb hs) fun _ _ _ h => tOp_of od_ix nx_ix h
end
def spD (K : xFg) (mg : Str -> Option Value) (m : List D -> R D) : Sp := fun vs H Q E => ∃ G ds, Same G H /\ Reps K mg G ds vs /\ RW (m ds) (After K mg Q G H) (AfterX K mg E G H)
structure FnAt (P : Program) (w : World) (K : xFg) (mg : Str -> Option Value) (base : Heap) (k : Nat) (x : Str) (m : List D -> R D) : Prop where
  ex : ∃ (f : Addr) (fd : FuncData) (ps : List Str), FnOk P w K mg base (CXe P w) k f fd ps (spD K mg m) /\ mg x = some (.ref f) /\ PySem.W.keepIn K (.ref f) = true /\ Binds K fd ps []
theorem FnAt.mono {P : Program} {w : World} {K : xFg} {mg : Str -> Option Value} {base : Heap} {j k : Nat} {x : Str} {m : List D -> R D} (F : FnAt P w K mg base j x m) (h : j <= k) : FnAt P w K mg base k x m := by
  obtain ⟨f, fd, ps, h1, h2⟩ := F.ex
  exact ⟨f, fd, ps, h1.mono h, h2⟩
structure XC (X : Cx) (E : XK) (k : Nat) : Prop where
  calm : X.calm = true
  room : Room k X.A
  pass : Passes (CXe X.prog X.w) X E
def eCall (m : List D -> R D) (fs : DSt -> R (List D)) : DSt -> R D := fun O => (fs O).bind m
def CallD (K : xFg) (mg : Str -> Option Value) (r : List V -> Hp -> VK -> Prop) (g : List D -> R D) : Prop :=
  ∀ (G H : Hp) (ds : List D) (vs : List V) (Q : VK), Same G H -> Reps K mg G ds vs -> RW (g ds) (After K mg Q G H) (fun _ => False) -> r vs H Q
def R.noerr {α : Type} : R α -> R α
  | .ok a => .ok a
  | _ => .bad
def eBlt (g : List D -> R D) (fs : DSt -> R (List D)) : DSt -> R D := fun O => (fs O).bind fun ds => (g ds).noerr
theorem noerr_ok {α : Type} {r : R α} {Q : α -> Prop} {E' : D -> Prop} (h : RW r.noerr Q E') : ∃ a, r = .ok a /\ Q a := by
  cases r with
  | ok a => exact ⟨a, rfl, h⟩
  | err e => exact (show False from h).elim
  | bad => exact (show False from h).elim
section
variable {X : Cx} {E : XK} {k : Nat} {x : Str} {m : List D -> R D} {p pos : Pos} {e : Expr} {es : List Expr} {fs : DSt -> R (List D)}
theorem de_call (C : XC X E k) (F : FnAt X.prog X.w X.K X.mg X.base k x m) (ha : DA X E (e :: es) fs) (hg : Gl X x := by rfl) (hdb : (x == ("__debug__" : Str)) = false := by decide)
    (he : starEach (e :: es) X.env = (false, eval e X.env) :: starEach es X.env := by rfl) (hpl : (backTo pos (starEach es X.env)).any (·.1) = false := by rfl) : DE X E (.Call (.Name x p) (e :: es) [] pos) (eCall m fs) := by
  obtain ⟨f, fd, ps, h1, h2, h3, h4⟩ := F.ex
  refine PE.mono' (pe_call h1 C.room hg h2 h3 h4 .nil C.pass ha hdb he hpl) fun O H Q ⟨G, Od, ok, q⟩ => ?_
  refine ⟨G, Od, ok, q.of_bind.mono (fun ds hds z vs G' H' s r => ?_) fun _ z => z⟩
  show spD X.K X.mg m (vs ++ []) H' Q E
  rw [xbo]
  exact ⟨G', ds, s.e, r, z.mono (fun _ _ z => z.step s) fun _ z => z.step s⟩
theorem de_blt {id : String} {r : List V -> Hp -> VK -> Prop} {g : List D -> R D} (hc : CallR X (.builtin id) r) (hd : CallD X.K X.mg r g) (hm : X.mg x = none) (hv : bootBuiltins x = some (.builtin id)) (ha : DA X E (e :: es) fs) (hg : Gl X x := by rfl) (hn : x ≠ "__name__" := by decide) (hdb : (x == ("__debug__" : Str)) = false := by decide)
    (he : starEach (e :: es) X.env = (false, eval e X.env) :: starEach es X.env := by rfl) (hpl : (backTo pos (starEach es X.env)).any (·.1) = false := by rfl) : DE X E (.Call (.Name x p) (e :: es) [] pos) (eBlt g fs) := by
  refine PE.mono' (pe_callB hc hg hm hv ha hn hdb he hpl) fun O H Q ⟨G, Od, ok, q⟩ => ?_
  refine ⟨G, Od, ok, q.of_bind.mono (fun ds _ z vs G' H' s r => ?_) fun _ z => z⟩
  obtain ⟨d, e1, z⟩ := noerr_ok z
  exact hd G' H' ds vs Q s.e r (by rw [e1]; exact z.step s)
theorem de_bty {T : String} {r : List V -> Hp -> VK -> Prop} {g : List D -> R D} (hc : CallR X (.type T) r) (hd : CallD X.K X.mg r g) (hm : X.mg x = none) (ha : DA X E (e :: es) fs) (hv : bootBuiltins x = some (.type T) := by rfl) (hg : Gl X x := by rfl) (hn : x ≠ "__name__" := by decide) (hdb : (x == ("__debug__" : Str)) = false := by decide)
    (he : starEach (e :: es) X.env = (false, eval e X.env) :: starEach es X.env := by rfl) (hpl : (backTo pos (starEach es X.env)).any (·.1) = false := by rfl) : DE X E (.Call (.Name x p) (e :: es) [] pos) (eBlt g fs) := by
  refine PE.mono' (pe_callTy hc hg hm hv ha hn hdb he hpl) fun O H Q ⟨G, Od, ok, q⟩ => ?_
  refine ⟨G, Od, ok, q.of_bind.mono (fun ds _ z vs G' H' s r => ?_) fun _ z => z⟩
  obtain ⟨d, e1, z⟩ := noerr_ok z
  exact hd G' H' ds vs Q s.e r (by rw [e1]; exact z.step s)
end
def setAll {α : Type} : List (Option α) -> List Nat -> List α -> List (Option α)
  | O, k :: ks, v :: vs => setAll (O.set k (some v)) ks vs
  | O, _, _ => O
theorem setAll_len {α : Type} : ∀ (ks : List Nat) (O : List (Option α)) (vs : List α), (setAll O ks vs).length = O.length
  | [], _, _ => by unfold setAll; rfl
  | _ :: _, _, [] => by unfold setAll; rfl
  | _ :: ks, O, _ :: vs => by unfold setAll; rw [setAll_len ks]; simp
theorem setAll_ne {α : Type} {j : Nat} : ∀ (ks : List Nat) (O : List (Option α)) (vs : List α), j ∉ ks -> (setAll O ks vs)[j]? = O[j]?
  | [], _, _, _ => by unfold setAll; rfl
  | _ :: _, _, [], _ => by unfold setAll; rfl
  | k :: ks, O, _ :: vs, h => by
    unfold setAll
    rw [setAll_ne ks _ vs fun z => h (xaq _ z), xaf (fun z => h (by rw [<- z]; exact xa5))]
def tG (K : xFg) (mg : Str -> Option Value) (ks : List Nat) (gp : D -> R (List D)) : TG := fun v O H Q => ∃ G d, Same G H /\ Rep K mg G d v /\ RW (gp d) (fun us => ∀ ws, Reps K mg G us ws -> Q (setAll O ks ws) H) (fun _ => False)
def DG (X : Cx) (tg : Expr) (ks : List Nat) (gp : D -> R (List D)) : Prop := PG X tg (tG X.K X.mg ks gp)
def gpOne : D -> R (List D) := fun d => .ok [d]
def gpSeq (n : Nat) : D -> R (List D)
  | .tup ds => bif ds.length == n then .ok ds else .bad
  | .lst ds => bif ds.length == n then .ok ds else .bad
  | _ => .bad
section
variable {X : Cx} {pos : Pos}
theorem PG.mono' {tg : Expr} {t t' : TG} (h : PG X tg t) (m : ∀ v O H Q, t' v O H Q -> t v O H Q) : PG X tg t' := fun pins s O H v u Q I r q => h pins s O H v u Q I r (m v O H Q q)
theorem PG.or {tg : Expr} {t t' : TG} (h : PG X tg t) (h' : PG X tg t') : PG X tg (fun v O H Q => t v O H Q \/ t' v O H Q) := fun pins s O H v u Q I r q => by
  rcases q with q | q
  · exact h pins s O H v u Q I r q
  · exact h' pins s O H v u Q I r q
theorem dg_name (i : Nat) {x : Str} (hN : X.N.Nodup) (hi : X.N[i]? = some x := by rfl) (hx : Loc X.env.scope x := by first | exact Or.inl rfl | exact Or.inr rfl) (hf : X.fn x = true \/ X.env.scope.names.lookup x = some .local := by first | exact .inl rfl | exact .inr rfl | assumption) : DG X (.Name x pos) [i] gpOne :=
  PG.mono' (pg_name hN hi hx hf) fun v O H Q ⟨G, d, e, r, q⟩ => by
    have q' := (show ∀ ws, Reps X.K X.mg G [d] ws -> Q (setAll O [i] ws) H from q) [v] (Reps.cons r Reps.nil)
    exact q'
def gNames : List Nat -> TGs
  | [] => gNil
  | i :: r => gCons (gName i) (gNames r)
theorem gNames_of : ∀ (ks : List Nat) (vs : List V) (O : St) (H : Hp) (Q : St -> Hp -> Prop), vs.length = ks.length -> Q (setAll O ks vs) H -> gNames ks vs O H Q
  | [], [], _, _, _, _, q => ⟨rfl, q⟩
  | i :: r, v :: vs, O, H, Q, hl, q => ⟨v, vs, rfl, gNames_of r vs _ H Q (by simpa using hl) q⟩
theorem dg_seq {es : List Expr} {k : Nat} (ks : List Nat) (n : Nat) (hc : X.calm = true) (h : PGs X es (gNames ks)) (hk : ks.length = n := by rfl)
    (hn : (assignEach es X.env).length = n := by rfl) (hst : (assignEach es X.env).findIdx? (·.1) = none := by rfl) : DG X (.Tuple es k pos) ks (gpSeq n) := by
  refine PG.mono' (PG.or (pg_tup hc h hn hst) (pg_lst hc h hn hst)) fun v O H Q ⟨G, d, e, r, q⟩ => ?_
  cases d with
  | tup ds =>
    obtain ⟨a, vs, rfl, h1, h2⟩ := r
    by_cases hd : ds.length = n
    · have q' : ∀ ws, Reps X.K X.mg G ds ws -> Q (setAll O ks ws) H := by
        simp only [gpSeq, hd, beq_self_eq_true, cond_true] at q; exact q
      exact .inl ⟨a, vs, rfl, Same.sqT e h1, by rw [<- h2.length]; exact hd, gNames_of ks vs O H Q (by rw [<- h2.length, hd, hk]) (q' vs h2)⟩
    · have : (ds.length == n) = false := by simpa using hd
      simp only [gpSeq, this, cond_false] at q; exact q.elim
  | lst ds =>
    obtain ⟨a, vs, rfl, h1, h2⟩ := r
    by_cases hd : ds.length = n
    · have q' : ∀ ws, Reps X.K X.mg G ds ws -> Q (setAll O ks ws) H := by
        simp only [gpSeq, hd, beq_self_eq_true, cond_true] at q; exact q
      exact .inr ⟨a, vs, rfl, e.seq h1, by rw [<- h2.length]; exact hd, gNames_of ks vs O H Q (by rw [<- h2.length, hd, hk]) (q' vs h2)⟩
    · have : (ds.length == n) = false := by simpa using hd
      simp only [gpSeq, this, cond_false] at q; exact q.elim
  | _ => exact (show False from q).elim
end
theorem Ok0.setAll {K : xFg} {mg : Str -> Option Value} {G H : Hp} : ∀ {ks : List Nat} {us : List D} {ws : List V} {Od : DSt} {O : St}, Ok0 K mg Od O G H -> Reps K mg G us ws -> Ok0 K mg (setAll Od ks us) (setAll O ks ws) G H
  | [], _, _, _, _, o, _ => by unfold DL.setAll; exact o
  | _ :: _, [], _, _, _, o, h => by cases h; unfold DL.setAll; exact o
  | k :: ks, _ :: _, _, _, _, o, ⟨v, r, h1, h2, h3⟩ => by subst h1; unfold DL.setAll; exact Ok0.setAll (o.set h2) h3
structure IterD (K : xFg) (mg : Str -> Option Value) (J : It) (G : Hp) (ds : List D) : Prop where
  stop : ∀ H, Same G H -> J.stop ds.length H
  turn : ∀ (H : Hp) (i : Nat) (d : D), Same G H -> ds[i]? = some d -> J.go i H /\ ∀ x H', J.yld i H x H' -> ∀ G1, Same G G1 -> Same G1 H -> ∃ G2, Step G1 H G2 H' /\ Rep K mg G2 d x
def tI (K : xFg) (mg : Str -> Option Value) (E : XK) (f : DSt -> R (List D)) : TI := fun O H R => ∃ G Od, Ok0 K mg Od O G H /\ RW (f Od) (fun ds => ∀ J G' H', Step G H G' H' -> IterD K mg J G' ds -> R J H') (AfterX K mg E G H)
def DI (X : Cx) (E : XK) (tg iter : Expr) (f : DSt -> R (List D)) : Prop := PI X tg iter (tI X.K X.mg E f)
section
variable {X : Cx} {E : XK} {tg : Expr}
theorem PI.mono' {iter : Expr} {t t' : TI} (h : PI X tg iter t) (m : ∀ O H R, t' O H R -> t O H R) : PI X tg iter t' := fun pins s O H R I q => h pins s O H R I (m O H R q)
theorem IterD.list {K : xFg} {mg : Str -> Option Value} {G : Hp} {a : Addr} {vs : List V} {ds : List D} (h : SqL K G a vs) (r : Reps K mg G ds vs) : IterD K mg (Itl K a) G ds := by
  refine ⟨fun H e => by rw [r.length]; exact (lgo (e.seq h)).1, fun H i d e hd => ?_⟩
  have hi : i < vs.length := by rw [<- r.length]; exact (xae.mp hd).1
  obtain ⟨g1, g2⟩ := (lgo (e.seq h)).2 i hi
  refine ⟨g1, fun x H' y G1 e1 e2 => ?_⟩
  obtain ⟨rfl, hx⟩ := g2 x H' y
  obtain ⟨v, h1, h2⟩ := r.get hd
  rw [hx] at h1; cases h1
  exact ⟨G1, .refl e2, h2.mono e1⟩
theorem IterD.tup {K : xFg} {mg : Str -> Option Value} {G : Hp} {a : Addr} {vs : List V} {ds : List D} (h : SqT K G a vs) (r : Reps K mg G ds vs) : IterD K mg (Itt K a) G ds := by
  refine ⟨fun H e => by rw [r.length]; exact (tgo (Same.sqT e h)).1, fun H i d e hd => ?_⟩
  have hi : i < vs.length := by rw [<- r.length]; exact (xae.mp hd).1
  obtain ⟨g1, g2⟩ := (tgo (Same.sqT e h)).2 i hi
  refine ⟨g1, fun x H' y G1 e1 e2 => ?_⟩
  obtain ⟨rfl, hx⟩ := g2 x H' y
  obtain ⟨v, h1, h2⟩ := r.get hd
  rw [hx] at h1; cases h1
  exact ⟨G1, .refl e2, h2.mono e1⟩
def rngD (lo : Int) (n : Nat) : List D := (List.range n).map fun (i : Nat) => D.int (lo + (i : Int))
theorem IterD.rng {K : xFg} {mg : Str -> Option Value} {G : Hp} (lo : Int) (n : Nat) : IterD K mg (Itr lo n) G (rngD lo n) := by
  have hl : (rngD lo n).length = n := by simp [rngD]
  refine ⟨fun H e => by rw [hl]; exact xad _, fun H i d e hd => ?_⟩
  have hi : i < n := by have := (xae.mp hd).1; omega
  refine ⟨hi, fun x H' y G1 e1 e2 => ?_⟩
  obtain ⟨rfl, rfl⟩ := y
  have : d = .int (lo + (i : Int)) := by simp [rngD, hi] at hd; exact hd.symm
  subst this
  exact ⟨G1, .refl e2, rfl⟩
def asSeq : D -> R (List D)
  | .tup ds => .ok ds
  | .lst ds => .ok ds
  | _ => .bad
def iSeq (f : DSt -> R D) : DSt -> R (List D) := fun O => (f O).bind asSeq
theorem di_seq {l : Expr} {f : DSt -> R D} (hl : DE X E l f) : DI X E tg l (iSeq f) := by
  have hL : PI X tg l (iList X.K (tE X.K X.mg E f)) := pi_list hl
  have hT : PI X tg l (iTup X.K (tE X.K X.mg E f)) := pi_tup hl
  intro pins s O H R I ⟨G, Od, ok, q⟩
  cases hf : f Od with
  | bad => unfold iSeq at q; rw [hf] at q; exact (show False from q).elim
  | err e =>
    unfold iSeq at q; rw [hf] at q
    refine hL pins s O H R I ⟨G, Od, ok, ?_⟩
    rw [hf]; exact q
  | ok d =>
    unfold iSeq at q; rw [hf] at q
    cases d with
    | lst ds =>
      have q' : ∀ J G' H', Step G H G' H' -> IterD X.K X.mg J G' ds -> R J H' := q
      refine hL pins s O H R I ⟨G, Od, ok, ?_⟩
      rw [hf]
      rintro v G' H' st ⟨a, vs, rfl, h1, h2⟩
      exact ⟨a, rfl, ⟨vs, st.e.seq h1⟩, q' _ G' H' st (.list h1 h2)⟩
    | tup ds =>
      have q' : ∀ J G' H', Step G H G' H' -> IterD X.K X.mg J G' ds -> R J H' := q
      refine hT pins s O H R I ⟨G, Od, ok, ?_⟩
      rw [hf]
      rintro v G' H' st ⟨a, vs, rfl, h1, h2⟩
      exact ⟨a, rfl, ⟨vs, Same.sqT st.e h1⟩, q' _ G' H' st (.tup h1 h2)⟩
    | _ => exact (show False from q).elim
def rOk (i : Int) : Bool := Nat.blt i.natAbs 1073741824
theorem rOk_is {i : Int} (h : rOk i = true) : -(2 ^ 30) <= i /\ i < 2 ^ 30 := by
  unfold rOk at h
  rw [Nat.blt_eq] at h
  omega
def rng1 : List D -> R (List D)
  | [.int j] => bif rOk j then .ok (rngD 0 j.toNat) else .bad
  | _ => .bad
def rng2 : List D -> R (List D)
  | [.int i, .int j] => bif rOk i && rOk j then .ok (rngD i (j - i).toNat) else .bad
  | _ => .bad
def iArgs (g : List D -> R (List D)) (fs : DSt -> R (List D)) : DSt -> R (List D) := fun O => (fs O).bind g
variable {fs : DSt -> R (List D)} {a b c : Expr} {p pos : Pos}
theorem di_range1 (hm : X.mg "range" = none) (ha : DA X E [a] fs) (hg : Gl X "range" := by rfl) (hs : starEach [a] X.env = [(false, eval a X.env)] := by rfl) : DI X E tg (.Call (.Name "range" p) [a] [] pos) (iArgs rng1 fs) := by
  refine PI.mono' (pi_range1 hg hm ha hs) fun O H R ⟨G, Od, ok, q⟩ => ?_
  refine ⟨G, Od, ok, q.of_bind.mono (fun ds _ z vs G' H' s r => ?_) fun _ z => z⟩
  match ds, z, r with
  | [.int j], z, r =>
    obtain rfl := Reps.of_ints (ns := [j]) r
    cases hj : rOk j with
    | false => simp only [rng1, hj, cond_false] at z; exact z.elim
    | true =>
      simp only [rng1, hj, cond_true] at z
      have := rOk_is hj
      exact ⟨j, rfl, by omega, by omega, z _ G' H' s (.rng 0 _)⟩
end
def lcD (ks : List Nat) (gp : D -> R (List D)) (c : DSt -> R Bool) (e : DSt -> R D) (O : DSt) : List D -> R (List D)
  | [] => .ok []
  | d :: ds => (gp d).bind fun us => (c (setAll O ks us)).bind fun k => bif k then (e (setAll O ks us)).bind fun y => (lcD ks gp c e O ds).bind fun ys => .ok (y :: ys) else lcD ks gp c e O ds
def most (n : Nat) : Bool := decide (n < sizeLine)
def eLC (k : Nat) (ks : List Nat) (fi : DSt -> R (List D)) (gp : D -> R (List D)) (c : DSt -> R Bool) (e : DSt -> R D) : DSt -> R (List D) := fun O => (fi O).bind fun ds => bif most ds.length then (lcD ks gp c e (List.replicate k none ++ O) ds).noerr else .bad
def eTrue : DSt -> R Bool := fun _ => .ok true
def DTs (X : Cx) (E : XK) (cs : List Expr) (f : DSt -> R Bool) : Prop := PTs X cs (tT X.K X.mg E f)
theorem PTs.mono' {X : Cx} {cs : List Expr} {t t' : TT} (h : PTs X cs t) (m : ∀ O H Q, t' O H Q -> t O H Q) : PTs X cs t' := fun pins s O H Q I q => h pins s O H Q I (m O H Q q)
theorem dts_nil {X : Cx} {E : XK} : DTs X E [] eTrue := PTs.mono' pts_nil fun O H Q ⟨G, Od, ok, q⟩ => (show AfterT Q G H true from q) G H (.refl ok.ext)
theorem RW.ok_of {α : Type} {r : R α} {a : α} {Q : α -> Prop} {E : D -> Prop} (e : r = .ok a) (h : Q a) : RW r Q E := by rw [e]; exact h
theorem bind_ok {α β : Type} {r : R α} {k : α -> R β} {b : β} (h : r.bind k = .ok b) : ∃ a, r = .ok a /\ k a = .ok b := by
  cases r with
  | ok a => exact ⟨a, rfl, h⟩
  | err e => cases h
  | bad => cases h
section
variable {X : Cx} {E : XK} {tg elt iter : Expr} {ifs : List Expr} {scope : Scope} {pos : Pos} {NY : List Str} {k : Nat} {ks : List Nat} {fi : DSt -> R (List D)} {gp : D -> R (List D)} {fc : DSt -> R Bool} {fe : DSt -> R D}
theorem subSt_setAll {k : Nat} {ks : List Nat} {O : St} (h : ks.all (fun i => decide (i < k)) = true) (ws : List V) : SubSt (List.replicate k none ++ O) (setAll (List.replicate k none ++ O) ks ws) := by
  refine ⟨setAll_len _ _ _, fun j v e => ?_⟩
  rw [setAll_ne _ _ _ fun hj => ?_]
  · exact e
  · have hk : j < k := xaj (xbh.mp h j hj)
    rw [xbc (by simpa using hk), xbz, xav hk] at e
    cases e
theorem tLC_of {te : TE} {tc : TT} (hk : ks.all (fun i => decide (i < k)) = true) {O : St} {H : Hp} {Q : VK}
    (h : tFr X.K X.mg E (eLC k ks fi gp fc fe) O H Q) : tLC k (tI X.K X.mg E fi) (tG X.K X.mg ks gp) (tT X.K X.mg E0 fc) (tE X.K X.mg E0 fe) O H Q := by
  obtain ⟨G, Od, ok, q⟩ := h
  refine ⟨G, Od, ok, q.of_bind.mono (fun ds _ z J G1 H1 s1 it => ?_) fun _ z => z⟩
  cases hm : most ds.length with
  | false => rw [hm] at z; exact (show False from z).elim
  | true =>
    rw [hm] at z
    obtain ⟨tot, ht, z⟩ := noerr_ok (show RW (lcD ks gp fc fe (List.replicate k none ++ Od) ds).noerr _ _ from z)
    have hlt : ds.length < sizeLine := xaj hm
    have ok1 := ok.step s1
    refine ⟨fun i m ys H' => m = ds.length - i /\ i <= ds.length /\ ∃ G' yd rest, Step G1 H1 G' H' /\ Reps X.K X.mg G' yd ys /\ yd.length <= i /\ lcD ks gp fc fe (List.replicate k none ++ Od) (ds.drop i) = .ok rest /\ tot = yd ++ rest,
      ⟨ds.length, by simp, xcl _, G1, [], tot, .refl ok1.ext, Reps.nil, xcl _, ht, rfl⟩, ?_⟩
    rintro i m ys H' ⟨rfl, hi, G', yd, rest, s, r, hyl, hr, rfl⟩
    refine ⟨by rw [<- r.length]; omega, ?_⟩
    by_cases hlt2 : i < ds.length
    · right
      obtain ⟨d, hd⟩ : ∃ d, ds[i]? = some d := ⟨ds[i], by simp [hlt2]⟩
      obtain ⟨g1, g2⟩ := it.turn H' i d (s.g.trans s.e) hd
      have hdrop : ds.drop i = d :: ds.drop (i + 1) := by
        rw [xcg hlt2]
        congr 1
        exact xa4 ((xbf hlt2).symm.trans hd)
      rw [hdrop] at hr
      refine ⟨g1, fun ys' H'' => ∃ G' yd rest, Step G1 H1 G' H'' /\ Reps X.K X.mg G' yd ys' /\ yd.length <= i + 1 /\ lcD ks gp fc fe (List.replicate k none ++ Od) (ds.drop (i + 1)) = .ok rest /\ _ = yd ++ rest, fun ys' H'' h => ⟨ds.length - (i + 1), by omega, rfl, hlt2, h⟩, fun v H'' hy => ?_⟩
      obtain ⟨G2, s2, rv⟩ := g2 v H'' hy G' s.g s.e
      unfold lcD at hr
      obtain ⟨us, e1, hr⟩ := bind_ok hr
      obtain ⟨kk, e2, hr⟩ := bind_ok hr
      have s12 := s.trans s2
      have okN : Ok0 X.K X.mg (List.replicate k none ++ Od) (List.replicate k none ++ O) G2 H'' := (ok1.step s12).nones k
      refine ⟨G2, d, s2.e, rv, RW.ok_of e1 fun ws rws => ⟨subSt_setAll hk ws, ?_⟩⟩
      have okS := okN.setAll (ks := ks) rws
      refine ⟨G2, _, okS, RW.ok_of e2 fun G3 H3 s3 => ?_⟩
      cases kk with
      | false =>
        rw [xap xaw]
        exact ⟨G3, yd, rest, s12.trans s3, r.mono (s2.g.trans s3.g), by omega, hr, rfl⟩
      | true =>
        rw [xav rfl]
        obtain ⟨y, e3, hr⟩ := bind_ok (show (fe (setAll (List.replicate k none ++ Od) ks us)).bind _ = _ from hr)
        obtain ⟨ys2, e4, hr⟩ := bind_ok hr
        cases hr
        refine ⟨G3, _, okS.step s3, RW.ok_of e3 fun w G4 H4 s4 r4 => ?_⟩
        exact ⟨G4, yd ++ [y], ys2, (s12.trans s3).trans s4, (r.mono ((s2.g.trans s3.g).trans s4.g)).append (Reps.cons r4 Reps.nil), by simp; omega, e4, by simp⟩
    · left
      have hi2 : i = ds.length := by omega
      subst hi2
      refine ⟨it.stop H' (s.g.trans s.e), fun Dd hD => ?_⟩
      rw [List.drop_length] at hr
      have hre : rest = [] := by unfold lcD at hr; cases hr; rfl
      subst hre
      rw [xbo] at z
      have st := (s1.trans s)
      exact z Dd ys G' _ (st.trans (.hid st.e hD)) (st.h.free hD) upd_same (st.e.free hD) r
theorem df_lc (C : X.calm = true) (lc : LC X k scope NY) (hk : ks.all (fun i => decide (i < k)) = true) (hi : DI X E tg iter fi)
    (hb : ∀ (s₀ : Shared) (H₀ : Hp) (C : Addr) (ex : List Addr), NY.Nodup -> DG (lcCx X scope NY s₀ H₀ C ex) tg ks gp /\ DTs (lcCx X scope NY s₀ H₀ C ex) E0 ifs fc /\ DE (lcCx X scope NY s₀ H₀ C ex) E0 elt fe)
    (hs : ∀ x, foldedSetIterable iter X.env x = pure x := by intro _; rfl) : DF X E (.ListComp elt [⟨tg, iter, ifs, 0⟩] scope pos) (eLC k ks fi gp fc fe) :=
  PE.mono' (pe_lc (g := tG X.K X.mg ks gp) (tc := tT X.K X.mg E0 fc) (te := tE X.K X.mg E0 fe) C lc hi (fun s0 H0 Ca ex nd => hb s0 H0 Ca ex nd) hs) fun _ _ _ h => tLC_of (te := tE X.K X.mg E0 fe) (tc := tT X.K X.mg E0 fc) hk h
end
end DL
namespace DL
open L2
mutual
def imm : D -> Bool
  | .lst _ => false
  | .dct _ _ => false
  | .tup ds => imms ds
  | .exc _ as => imms as
  | .non => true
  | .bl _ => true
  | .int _ => true
  | .str _ => true
  | .ty _ => true
  | .cls _ => true
def imms : List D -> Bool
  | [] => true
  | d :: ds => imm d && imms ds
end
def SameT (G G' : Hp) : Prop := ∀ a o, G a = some o -> (∀ xs, o ≠ .lst xs) -> G' a = some o
section
variable {K : xFg} {mg : Str -> Option Value} {G G' H H' H0 : Hp}
theorem SameT.sqT {a : Addr} {xs : List V} (e : SameT G G') (h : SqT K G a xs) : SqT K G' a xs := by
  rcases h with (h | ⟨o, h⟩) | h
  · exact .inl (.inl (e _ _ h fun xs z => by cases z))
  · exact .inl (.inr ⟨o, e _ _ h fun xs z => by cases z⟩)
  · exact .inr h
mutual
theorem Rep.imm (e : SameT G G') : ∀ {d : D} {v : V}, imm d = true -> Rep K mg G d v -> Rep K mg G' d v
  | .non, _, _, h => h
  | .bl _, _, _, h => h
  | .int _, _, _, h => h
  | .str _, _, _, h => h
  | .ty _, _, _, h => h
  | .cls _, _, _, h => h
  | .tup _, _, i, ⟨a, vs, h1, h2, h3⟩ => ⟨a, vs, h1, e.sqT h2, Reps.imm e (by unfold DL.imm at i; exact i) h3⟩
  | .lst _, _, i, _ => by unfold DL.imm at i; cases i
  | .dct _ _, _, i, _ => by unfold DL.imm at i; cases i
  | .exc _ _, _, i, ⟨x, C, dct, vs, h1, h2, h3, h4, h5⟩ => ⟨x, C, dct, vs, h1, e _ _ h2 fun xs z => (by unfold excO at z; cases z), h3, by
      rcases h4 with h | ⟨dx, v, q1, q2, q3⟩
      · exact .inl h
      · exact .inr ⟨dx, v, q1, q2, e _ _ q3 fun xs z => by cases z⟩, Reps.imm e (by unfold DL.imm at i; exact i) h5⟩
theorem Reps.imm (e : SameT G G') : ∀ {ds : List D} {vs : List V}, imms ds = true -> Reps K mg G ds vs -> Reps K mg G' ds vs
  | [], _, _, h => h
  | _ :: _, _, i, ⟨v, r, h1, h2, h3⟩ => by
    unfold imms at i
    rw [xay] at i
    exact ⟨v, r, h1, Rep.imm e i.1 h2, Reps.imm e i.2 h3⟩
end
end
structure Ok (K : xFg) (mg : Str -> Option Value) (H0 : Hp) (own : List Nat) (Od : DSt) (O : St) (G H : Hp) : Prop where
  ext : Same G H
  len : Od.length = O.length
  val : ∀ (i : Nat) (d : D), i ∉ own -> Od[i]? = some (some d) -> ∃ v, O[i]? = some (some v) /\ Rep K mg G d v
  mine : ∀ (i : Nat) (d : D), i ∈ own -> Od[i]? = some (some d) -> ∃ a ds vs, O[i]? = some (some (.ref a)) /\ d = .lst ds /\ H a = some (.lst vs) /\ G a = none /\ H0 a = none /\ Reps K mg G ds vs
  dj : ∀ (i j : Nat) (a : Addr) (d d' : D), i ∈ own -> j ∈ own -> Od[i]? = some (some d) -> Od[j]? = some (some d') -> O[i]? = some (some (.ref a)) -> O[j]? = some (some (.ref a)) -> i = j
def maskF (own : List Nat) : Nat -> DSt -> DSt
  | _, [] => []
  | i, d :: ds => (bif own.contains i then none else d) :: maskF own (i + 1) ds
def mask (own : List Nat) (O : DSt) : DSt := maskF own 0 O
theorem maskF_get {own : List Nat} : ∀ (O : DSt) (k i : Nat) (d : D), (maskF own k O)[i]? = some (some d) -> k + i ∉ own /\ O[i]? = some (some d)
  | [], _, _, _, h => by unfold maskF at h; simp at h
  | x :: O, k, 0, d, h => by
    unfold maskF at h
    simp only [List.getElem?_cons_zero, Option.some.injEq] at h
    cases hc : own.contains k with
    | true => rw [hc] at h; cases h
    | false =>
      rw [hc] at h
      have h' : x = some d := h
      subst h'
      exact ⟨by simpa using hc, rfl⟩
  | x :: O, k, i + 1, d, h => by
    unfold maskF at h
    have := maskF_get O (k + 1) i d (by simpa using h)
    rw [show k + (i + 1) = k + 1 + i by omega]
    exact ⟨this.1, by simpa using this.2⟩
theorem maskF_len {own : List Nat} : ∀ (O : DSt) (k : Nat), (maskF own k O).length = O.length
  | [], _ => rfl
  | _ :: O, k => by unfold maskF; simp [maskF_len O]
def OwnAt (own : List Nat) (Od : DSt) (O : St) (b : Addr) : Prop := ∃ i d, i ∈ own /\ Od[i]? = some (some d) /\ O[i]? = some (some (.ref b))
open Classical in
noncomputable def pubG (own : List Nat) (Od : DSt) (O : St) (G H : Hp) : Hp := fun b => if OwnAt own Od O b then H b else G b
open Classical in
noncomputable def hideG (own : List Nat) (Od : DSt) (O : St) (G : Hp) : Hp := fun b => if OwnAt own Od O b then none else G b
section
variable {K : xFg} {mg : Str -> Option Value} {G G' G0 H H' H0 : Hp} {own : List Nat} {Od : DSt} {O : St}
theorem Ok.masked (o : Ok K mg H0 own Od O G H) : Ok0 K mg (mask own Od) O G H :=
  ⟨o.ext, by unfold mask; rw [maskF_len]; exact o.len, fun i d h => by
    have := maskF_get Od 0 i d h
    rw [xb3] at this
    exact o.val i d this.1 this.2⟩
theorem Ok.zero (o : Ok0 K mg Od O G H) : Ok K mg H0 [] Od O G H :=
  ⟨o.ext, o.len, fun i d _ h => o.val i d h, fun i d h => xag h (by simp), fun i j a d d' h => xag h (by simp)⟩
theorem Ok.step (o : Ok K mg H0 own Od O G H) (s : Step G H G' H') : Ok K mg H0 own Od O G' H' :=
  ⟨s.e, o.len, fun i d hi h => let ⟨v, h1, h2⟩ := o.val i d hi h; ⟨v, h1, h2.mono s.g⟩, fun i d hi h => by
    obtain ⟨a, ds, vs, h1, h2, h3, h4, h5, h6⟩ := o.mine i d hi h
    exact ⟨a, ds, vs, h1, h2, s.h _ _ h3, s.c _ _ h3 h4, h5, h6.mono s.g⟩, o.dj⟩
theorem Ok.notOwn (o : Ok K mg H0 own Od O G H) {b : Addr} {u : HO} (h : G b = some u) : ¬ OwnAt own Od O b := by
  rintro ⟨i, d, h1, h2, h3⟩
  obtain ⟨a, ds, vs, q1, q2, q3, q4, _⟩ := o.mine i d h1 h2
  rw [q1] at h3
  cases h3
  rw [q4] at h; cases h
theorem Ok.ownLst (o : Ok K mg H0 own Od O G H) {b : Addr} (h : OwnAt own Od O b) : (∃ vs, H b = some (.lst vs)) /\ G b = none /\ H0 b = none := by
  obtain ⟨i, d, h1, h2, h3⟩ := h
  obtain ⟨a, ds, vs, q1, q2, q3, q4, q5, _⟩ := o.mine i d h1 h2
  rw [q1] at h3
  cases h3
  exact ⟨⟨vs, q3⟩, q4, q5⟩
theorem Ok.pub (o : Ok K mg H0 own Od O G H) : Ok0 K mg Od O (pubG own Od O G H) H /\ Same G (pubG own Od O G H) := by
  have sg : Same G (pubG own Od O G H) := fun b u h => by unfold pubG; rw [xap (o.notOwn h)]; exact h
  refine ⟨⟨fun b u h => ?_, o.len, fun i d h => ?_⟩, sg⟩
  · unfold pubG at h
    split at h
    · exact h
    · exact o.ext b u h
  · by_cases hi : i ∈ own
    · obtain ⟨a, ds, vs, q1, rfl, q3, q4, q5, q6⟩ := o.mine i d hi h
      refine ⟨_, q1, a, vs, rfl, SqL.of ?_, q6.mono sg⟩
      unfold pubG
      rw [xav ⟨i, _, hi, h, q1⟩]; exact q3
    · obtain ⟨v, h1, h2⟩ := o.val i d hi h
      exact ⟨v, h1, h2.mono sg⟩
theorem Ok.pubStep (o : Ok K mg H0 own Od O G H) (s0 : Step G0 H0 G H) : Step G0 H0 (pubG own Od O G H) H := by
  refine ⟨s0.g.trans o.pub.2, s0.h, o.pub.1.ext, fun b u h1 h2 => ?_⟩
  unfold pubG
  rw [xap fun z => by rw [(o.ownLst z).2.2] at h1; cases h1]
  exact s0.c b u h1 h2
theorem Ok.drop (o : Ok K mg H0 own Od O G H) (s : Same H H') : Ok K mg H0 own Od O G H' :=
  o.step (.heap o.ext s)
theorem Ok.hide (o : Ok K mg H0 own Od O G H) (s : Step (pubG own Od O G H) H G' H') : Step G H (hideG own Od O G') H' /\ SameT G' (hideG own Od O G') := by
  refine ⟨⟨fun b u h => ?_, s.h, fun b u h => ?_, fun b u h1 h2 => ?_⟩, fun b u h1 h2 => ?_⟩
  · unfold hideG
    rw [xap (o.notOwn h)]
    exact s.g b u (o.pub.2 b u h)
  · unfold hideG at h
    split at h
    · cases h
    · exact s.e b u h
  · unfold hideG
    split
    · rfl
    · rename_i n
      refine s.c b u h1 ?_
      unfold pubG
      rw [xap n]; exact h2
  · unfold hideG
    rw [xap fun z => ?_]
    · exact h1
    · obtain ⟨⟨vs, q⟩, _⟩ := o.ownLst z
      have : pubG own Od O G H b = some (.lst vs) := by unfold pubG; rw [xav z]; exact q
      have := s.g b _ this
      rw [h1] at this; cases this
      exact h2 vs rfl
theorem get_set_self {α : Type} {l : List (Option α)} {i : Nat} {x d : α} (h : (l.set i (some x))[i]? = some (some d)) : d = x /\ i < l.length := by
  have hl : i < l.length := by have := (xae.mp h).1; simpa using this
  rw [xaz hl] at h
  cases h
  exact ⟨rfl, hl⟩
theorem Ok.set {i : Nat} {d : D} {v : V} (o : Ok K mg H0 own Od O G H) (hi : i ∉ own) (h : Rep K mg G d v) : Ok K mg H0 own (Od.set i (some d)) (O.set i (some v)) G H := by
  have ne : ∀ {j : Nat}, j ∈ own -> j ≠ i := fun hj z => hi (z ▸ hj)
  refine ⟨o.ext, by simp [o.len], fun j e hj q => ?_, fun j e hj q => ?_, fun j k a d1 d2 h1 h2 h3 h4 h5 h6 => ?_⟩
  · by_cases hji : j = i
    · subst hji
      obtain ⟨rfl, hl⟩ := get_set_self q
      exact ⟨v, by rw [xaz (by rw [<- o.len]; exact hl)], h⟩
    · rw [xaf (xa3 hji)] at q ⊢
      exact o.val j e hj q
  · rw [xaf (xa3 (ne hj))] at q ⊢
    exact o.mine j e hj q
  · rw [xaf (xa3 (ne h1))] at h3 h5
    rw [xaf (xa3 (ne h2))] at h4 h6
    exact o.dj j k a d1 d2 h1 h2 h3 h4 h5 h6
theorem Ok.setAll : ∀ {ks : List Nat} {us : List D} {ws : List V} {Od : DSt} {O : St}, Ok K mg H0 own Od O G H -> (∀ k ∈ ks, k ∉ own) -> Reps K mg G us ws -> Ok K mg H0 own (DL.setAll Od ks us) (DL.setAll O ks ws) G H
  | [], _, _, _, _, o, _, _ => by unfold DL.setAll; exact o
  | _ :: _, [], _, _, _, o, _, h => by cases h; unfold DL.setAll; exact o
  | k :: ks, _ :: _, _, _, _, o, hk, ⟨v, r, h1, h2, h3⟩ => by
    subst h1; unfold DL.setAll
    exact Ok.setAll (o.set (hk k xa5) h2) (fun j hj => hk j (xaq _ hj)) h3
theorem Ok.new {i : Nat} {ds : List D} {vs : List V} {a : Addr} {own' : List Nat} (o : Ok K mg H0 own Od O G H) (s : Step G H G' H') (n : H a = none) (e : H' a = some (.lst vs)) (g : G' a = none) (n0 : H0 a = none) (r : Reps K mg G' ds vs)
    (hown : ∀ j, j ∈ own' ↔ j = i \/ j ∈ own) : Ok K mg H0 own' (Od.set i (some (.lst ds))) (O.set i (some (.ref a))) G' H' := by
  have o' := o.step s
  have away : ∀ {j : Nat} {d : D}, j ∈ own -> j ≠ i -> Od[j]? = some (some d) -> O[j]? = some (some (.ref a)) -> False := fun {j d} hj _ hd hs => by
    obtain ⟨b, _, _, q1, _, q3, _⟩ := o.mine j d hj hd
    rw [q1] at hs; cases hs
    rw [n] at q3; cases q3
  refine ⟨o'.ext, by simp [o.len], fun j d hj q => ?_, fun j d hj q => ?_, fun j k b d1 d2 h1 h2 h3 h4 h5 h6 => ?_⟩
  · have hji : j ≠ i := fun z => hj ((hown j).mpr (.inl z))
    rw [xaf (xa3 hji)] at q ⊢
    exact o'.val j d (fun z => hj ((hown j).mpr (.inr z))) q
  · by_cases hji : j = i
    · subst hji
      obtain ⟨rfl, hl⟩ := get_set_self q
      exact ⟨a, ds, vs, by rw [xaz (by rw [<- o.len]; exact hl)], rfl, e, g, n0, r⟩
    · rw [xaf (xa3 hji)] at q ⊢
      exact o'.mine j d (((hown j).mp hj).resolve_left hji) q
  · by_cases hji : j = i
    · by_cases hki : k = i
      · rw [hji, hki]
      · subst hji
        obtain ⟨rfl, hl⟩ := get_set_self h3
        rw [xaz (by rw [<- o.len]; exact hl)] at h5
        cases h5
        rw [xaf (xa3 hki)] at h4 h6
        exact (away (((hown k).mp h2).resolve_left hki) hki h4 h6).elim
    · by_cases hki : k = i
      · subst hki
        obtain ⟨rfl, hl⟩ := get_set_self h4
        rw [xaz (by rw [<- o.len]; exact hl)] at h6
        cases h6
        rw [xaf (xa3 hji)] at h3 h5
        exact (away (((hown j).mp h1).resolve_left hji) hji h3 h5).elim
      · rw [xaf (xa3 hji)] at h3 h5
        rw [xaf (xa3 hki)] at h4 h6
        exact o.dj j k b d1 d2 (((hown j).mp h1).resolve_left hji) (((hown k).mp h2).resolve_left hki) h3 h4 h5 h6
theorem Ok.write {i : Nat} {d : D} {ds : List D} {vs : List V} {a : Addr} (o : Ok K mg H0 own Od O G H) (hi : i ∈ own) (hd : Od[i]? = some (some d)) (ha : O[i]? = some (some (.ref a))) (r : Reps K mg G ds vs) :
    Ok K mg H0 own (Od.set i (some (.lst ds))) O G (upd H a (.lst vs)) := by
  obtain ⟨b, ds0, vs0, q1, q2, q3, q4, q5, q6⟩ := o.mine i d hi hd
  rw [ha] at q1; cases q1
  have hl : i < Od.length := (xae.mp hd).1
  refine ⟨fun b u h => ?_, by simp [o.len], fun j e hj q => ?_, fun j e hj q => ?_, fun j k b d1 d2 h1 h2 h3 h4 h5 h6 => ?_⟩
  · rw [upd_ne (ne_of_none h q4)]; exact o.ext b u h
  · have hji : j ≠ i := fun z => hj (z ▸ hi)
    rw [xaf (xa3 hji)] at q
    exact o.val j e hj q
  · by_cases hji : j = i
    · subst hji
      obtain ⟨rfl, _⟩ := get_set_self q
      exact ⟨a, ds, vs, ha, rfl, upd_same, q4, q5, r⟩
    · rw [xaf (xa3 hji)] at q
      obtain ⟨c, es, ws, p1, p2, p3, p4⟩ := o.mine j e hj q
      have hc : c ≠ a := fun z => by subst z; exact hji (o.dj j i c e d hj hi q hd p1 ha)
      exact ⟨c, es, ws, p1, p2, by rw [upd_ne hc]; exact p3, p4⟩
  · have back : ∀ {j : Nat} {e : D}, (Od.set i (some (.lst ds)))[j]? = some (some e) -> ∃ e', Od[j]? = some (some e') := fun {j e} q => by
      by_cases hji : j = i
      · exact ⟨d, hji ▸ hd⟩
      · rw [xaf (xa3 hji)] at q; exact ⟨e, q⟩
    obtain ⟨e1, h3⟩ := back h3
    obtain ⟨e2, h4⟩ := back h4
    exact o.dj j k b e1 e2 h1 h2 h3 h4 h5 h6
theorem Step.write {a : Addr} {o u : HO} (s0 : Step G0 H0 G H) (n : H0 a = none) (g : G a = none) : Step G0 H0 G (upd H a u) :=
  ⟨s0.g, fun b v h => by rw [upd_ne (ne_of_none h n)]; exact s0.h b v h, fun b v h => by rw [upd_ne (ne_of_none h g)]; exact s0.e b v h, s0.c⟩
theorem Ok.release {i : Nat} {own' : List Nat} (o : Ok K mg H0 own Od O G H) (s0 : Step G0 H0 G H) (hi : i ∈ own) (hown : ∀ j, j ∈ own' ↔ j ≠ i /\ j ∈ own) : ∃ G', Ok K mg H0 own' Od O G' H /\ Step G0 H0 G' H /\ Same G G' := by
  by_cases hb : ∃ d, Od[i]? = some (some d)
  · obtain ⟨d, hd⟩ := hb
    obtain ⟨a, ds, vs, q1, rfl, q3, q4, q5, q6⟩ := o.mine i d hi hd
    have sg : Same G (upd G a (.lst vs)) := same_upd q4
    have eh : Same (upd G a (.lst vs)) H := fun b u h => by
      by_cases hb : b = a
      · subst hb; rw [upd_same] at h; cases h; exact q3
      · rw [upd_ne hb] at h; exact o.ext b u h
    refine ⟨upd G a (.lst vs), ⟨eh, o.len, fun j e hj q => ?_, fun j e hj q => ?_, fun j k b d1 d2 h1 h2 h3 h4 h5 h6 => ?_⟩, ⟨s0.g.trans sg, s0.h, eh, fun b u h1 h2 => ?_⟩, sg⟩
    · by_cases hji : j = i
      · subst hji
        rw [hd] at q; cases q
        exact ⟨_, q1, a, vs, rfl, SqL.of upd_same, q6.mono sg⟩
      · obtain ⟨v, h1, h2⟩ := o.val j e (fun z => hj ((hown j).mpr ⟨hji, z⟩)) q
        exact ⟨v, h1, h2.mono sg⟩
    · obtain ⟨hji, hj'⟩ := (hown j).mp hj
      obtain ⟨c, es, ws, p1, p2, p3, p4, p5, p6⟩ := o.mine j e hj' q
      have hc : c ≠ a := fun z => by subst z; exact hji (o.dj j i c e _ hj' hi q hd p1 q1)
      exact ⟨c, es, ws, p1, p2, p3, by rw [upd_ne hc]; exact p4, p5, p6.mono sg⟩
    · exact o.dj j k b d1 d2 ((hown j).mp h1).2 ((hown k).mp h2).2 h3 h4 h5 h6
    · rw [upd_ne (ne_of_none h1 q5)]; exact s0.c b u h1 h2
  · refine ⟨G, ⟨o.ext, o.len, fun j e hj q => ?_, fun j e hj q => o.mine j e ((hown j).mp hj).2 q, fun j k b d1 d2 h1 h2 => o.dj j k b d1 d2 ((hown j).mp h1).2 ((hown k).mp h2).2⟩, s0, Same.refl _⟩
    have hji : j ≠ i := fun z => hb ⟨e, z ▸ q⟩
    exact o.val j e (fun z => hj ((hown j).mpr ⟨hji, z⟩)) q
end
inductive Out where
  | nx (O : DSt) | rt (d : D) | bk (O : DSt) | ct (O : DSt) | rf (ds : List D)
section
variable (K : xFg) (mg : Str -> Option Value) (E : XK)
def OutW (G0 H0 : Hp) (own' ol : List Nat) (Dn : Ends) (G : Hp) : Out -> Prop
  | .nx Od' => ∀ O' G' H', Ok K mg H0 own' Od' O' G' H' -> Step G0 H0 G' H' -> Same G G' -> Dn.nx O' H'
  | .bk Od' => ∀ O' G' H', Ok K mg H0 ol Od' O' G' H' -> Step G0 H0 G' H' -> Same G G' -> Dn.bk O' H'
  | .ct Od' => ∀ O' G' H', Ok K mg H0 ol Od' O' G' H' -> Step G0 H0 G' H' -> Same G G' -> Dn.ct O' H'
  | .rt d => ∀ v G' H', Step G0 H0 G' H' -> Rep K mg G' d v -> Dn.rt v H'
  | .rf ds => ∀ a vs G' H', Step G0 H0 G' H' -> H0 a = none -> H' a = some (.lst vs) -> G' a = none -> Reps K mg G' ds vs -> Dn.rt (.ref a) H'
def tS (G0 H0 : Hp) (own own' ol : List Nat) (f : DSt -> R Out) : TS := fun Dn O H => ∃ G Od, Ok K mg H0 own Od O G H /\ Step G0 H0 G H /\ RW (f Od) (OutW K mg G0 H0 own' ol Dn G) (AfterX K mg E G0 H0)
end
theorem OutW.shift {K : xFg} {mg : Str -> Option Value} {G0 H0 G G' : Hp} {own' ol : List Nat} {Dn : Ends} (s : Same G G') {o : Out} (h : OutW K mg G0 H0 own' ol Dn G o) : OutW K mg G0 H0 own' ol Dn G' o := by
  cases o with
  | nx _ => exact fun a b c d e f => h a b c d e (s.trans f)
  | bk _ => exact fun a b c d e f => h a b c d e (s.trans f)
  | ct _ => exact fun a b c d e f => h a b c d e (s.trans f)
  | rt _ => exact h
  | rf _ => exact h
def DS (X : Cx) (E : XK) (own own' ol : List Nat) (st : Stmt) (f : DSt -> R Out) : Prop := ∀ G0, PS X st (tS X.K X.mg E G0 X.H₀ own own' ol f)
def DSs (X : Cx) (E : XK) (own own' ol : List Nat) (st : List Stmt) (f : DSt -> R Out) : Prop := ∀ G0, PSs X st (tS X.K X.mg E G0 X.H₀ own own' ol f)
def sSeq (f g : DSt -> R Out) : DSt -> R Out := fun O => (f O).bind fun o => match o with
  | .nx O' => g O'
  | o => .ok o
def sNext : DSt -> R Out := fun O => .ok (.nx O)
section
variable {X : Cx} {E : XK} {own own1 own2 own' ol : List Nat} {st : Stmt} {rest : List Stmt} {f g : DSt -> R Out} {pos : Pos}
theorem dss_nil : DSs X E own own ol [] sNext := fun G0 => PSs.mono' pss_nil fun Dn O H ⟨G, Od, ok, s0, q⟩ => (show OutW X.K X.mg G0 X.H₀ own ol Dn G (.nx Od) from q) O G H ok s0 (Same.refl _)
theorem dss_cons (h1 : DS X E own own1 ol st f) (h2 : DSs X E own1 own2 ol rest g) : DSs X E own own2 ol (st :: rest) (sSeq f g) := fun G0 => PSs.mono' (pss_cons (h1 G0) (h2 G0)) fun Dn O H ⟨G, Od, ok, s0, q⟩ => by
  refine ⟨G, Od, ok, s0, q.of_bind.mono (fun o _ z => ?_) fun _ z => z⟩
  cases o with
  | nx O1 =>
    intro O' G' H' ok' s' e'
    exact ⟨G', O1, ok', s', (show RW (g O1) _ _ from z).mono (fun o _ z => z.shift e') fun _ z => z⟩
  | rt d => exact z
  | rf d => exact z
  | bk d => exact z
  | ct d => exact z
theorem dss_one (h1 : DS X E own own1 ol st f) : DSs X E own own1 ol [st] f := fun G0 => pss_one (h1 G0)
theorem dss_rel (i : Nat) (hi : own.contains i = true) (ho : own' = own.filter fun j => j != i) (h : DSs X E own' own2 ol rest g) : DSs X E own own2 ol rest g := fun G0 => PSs.mono' (h G0) fun Dn O H ⟨G, Od, ok, s0, q⟩ => by
  obtain ⟨G', ok', s', e'⟩ := ok.release (i := i) (own' := own') s0 (by simpa using hi) fun j => by subst ho; simp [and_comm]
  exact ⟨G', Od, ok', s', q.mono (fun o _ z => z.shift e') fun _ z => z⟩
def sRet (fe : DSt -> R D) : DSt -> R Out := fun O => (fe O).bind fun d => .ok (.rt d)
theorem ds_ret {e : Expr} {fe : DSt -> R D} (h : DE X E e fe) : DS X E own own' ol (.Return (some e) pos) (sRet fe) := fun G0 => PS.mono' (ps_ret h) fun Dn O H ⟨G, Od, ok, s0, q⟩ => by
  have s1 := ok.pubStep s0
  exact ⟨_, Od, ok.pub.1, q.of_bind.mono (fun d _ z v G' H' s r => (show OutW X.K X.mg G0 X.H₀ own' ol Dn G (.rt d) from z) v G' H' (s1.trans s) r) fun _ z => z.step s1⟩
def sIf (c : DSt -> R Bool) (f g : DSt -> R Out) : DSt -> R Out := fun O => (c O).bind fun k => bif k then f O else g O
theorem ds_if {c : Expr} {a b : List Stmt} {fc : DSt -> R Bool} (hc : DT X E c fc) (ha : DSs X E own own' ol a f) (hb : DSs X E own own' ol b g) : DS X E own own' ol (.If c a b pos) (sIf fc f g) := fun G0 =>
  PS.mono' (ps_if hc (ha G0) (hb G0)) fun Dn O H ⟨G, Od, ok, s0, q⟩ => by
  have s1 := ok.pubStep s0
  refine ⟨_, Od, ok.pub.1, q.of_bind.mono (fun k _ z G' H' s => ?_) fun _ z => z.step s1⟩
  have ok' := ok.drop s.h
  have s' : Step G0 X.H₀ G H' := s0.trans (.heap ok.ext s.h)
  cases k with
  | true => exact iteT ⟨G, Od, ok', s', z⟩
  | false => exact iteF ⟨G, Od, ok', s', z⟩
def sExpr (fe : DSt -> R D) : DSt -> R Out := fun O => (fe O).bind fun _ => .ok (.nx O)
def sSet (own : List Nat) (i : Nat) (fe : DSt -> R D) : DSt -> R Out := fun O => (fe (mask own O)).bind fun d => .ok (.nx (O.set i (some d)))
def sSet0 (i : Nat) (fe : DSt -> R D) : DSt -> R Out := fun O => (fe O).bind fun d => .ok (.nx (O.set i (some d)))
def sSetP (i : Nat) (fe : DSt -> R D) : DSt -> R Out := fun O => (fe O).bind fun d => bif imm d then .ok (.nx (O.set i (some d))) else .bad
theorem mem_of {own : List Nat} {i : Nat} (h : own.contains i = false) : i ∉ own := by simpa using h
theorem mask_nil (O : DSt) : mask [] O = O := by
  have : ∀ (O : DSt) (k : Nat), maskF [] k O = O := fun O => by
    induction O with
    | nil => intro k; rfl
    | cons d ds ih => intro k; unfold maskF; rw [ih]; rfl
  exact this O 0
theorem asgV {te : TE} {fe : DSt -> R D} {i : Nat} {G0 : Hp} (h : ∀ O H Q, tE X.K X.mg E fe O H Q -> te O H Q) (ho : own.contains i = false) {Dn : Ends} {O : St} {H : Hp} (q : tS X.K X.mg E G0 X.H₀ own own ol (sSet own i fe) Dn O H) : tAsg te (gName i) Dn O H := by
  obtain ⟨G, Od, ok, s0, q⟩ := q
  refine h O H _ ⟨G, mask own Od, ok.masked, q.of_bind.mono (fun d _ z v G' H' s r => ?_) fun _ z => z.step s0⟩
  exact (show OutW X.K X.mg G0 X.H₀ own ol Dn G (.nx (Od.set i (some d))) from z) _ G' H' ((ok.step s).set (mem_of ho) r) (s0.trans s) s.g
def sNew (own : List Nat) (i : Nat) (fe : DSt -> R (List D)) : DSt -> R Out := fun O => (fe (mask own O)).bind fun ds => .ok (.nx (O.set i (some (.lst ds))))
def ownWith (own : List Nat) (i : Nat) : List Nat := if own.contains i then own else i :: own
theorem mem_ownWith {own : List Nat} {i j : Nat} : j ∈ ownWith own i ↔ j = i \/ j ∈ own := by
  unfold ownWith
  split
  · rename_i h
    have hi : i ∈ own := by simpa using h
    exact ⟨.inr, fun h => h.elim (fun e => e ▸ hi) id⟩
  · simp
theorem asgN {te : TE} {fe : DSt -> R (List D)} {i : Nat} {G0 : Hp} (h : ∀ O H Q, tFr X.K X.mg E fe O H Q -> te O H Q) {Dn : Ends} {O : St} {H : Hp} (q : tS X.K X.mg E G0 X.H₀ own (ownWith own i) ol (sNew own i fe) Dn O H) : tAsg te (gName i) Dn O H := by
  obtain ⟨G, Od, ok, s0, q⟩ := q
  refine h O H _ ⟨G, mask own Od, ok.masked, q.of_bind.mono (fun ds _ z a vs G' H' s n e g r => ?_) fun _ z => z.step s0⟩
  exact (show OutW X.K X.mg G0 X.H₀ (ownWith own i) ol Dn G (.nx (Od.set i (some (.lst ds)))) from z) _ G' H' (ok.new s n e g (s0.h.free n) r fun j => mem_ownWith) (s0.trans s) s.g
variable {i : Nat} {x : Str} {e : Expr} {pos' : Pos} {fe : DSt -> R D} {fl : DSt -> R (List D)}
theorem ds_set (i : Nat) (hN : X.N.Nodup) (he : DE X E e fe) (ho : own.contains i = false := by rfl) (hi : X.N[i]? = some x := by rfl) (hx : Loc X.env.scope x := by first | exact Or.inl rfl | exact Or.inr rfl) (hs : swapsWith e (some (.Name x pos')) pos.line X.env = pure false := by rfl)
    (hf : X.fn x = true \/ X.env.scope.names.lookup x = some .local := by first | exact .inl rfl | exact .inr rfl | assumption) : DS X E own own ol (.Assign [.Name x pos'] e pos) (sSet own i fe) := fun G0 =>
  PS.mono' (ps_set hN hi hx he hs hf) fun Dn O H q => asgV (fun _ _ _ z => z) ho q
theorem ds_set0 (i : Nat) (hN : X.N.Nodup) (he : DE X E e fe) (hi : X.N[i]? = some x := by rfl) (hx : Loc X.env.scope x := by first | exact Or.inl rfl | exact Or.inr rfl) (hs : swapsWith e (some (.Name x pos')) pos.line X.env = pure false := by rfl)
    (hf : X.fn x = true \/ X.env.scope.names.lookup x = some .local := by first | exact .inl rfl | exact .inr rfl | assumption) : DS X E [] [] ol (.Assign [.Name x pos'] e pos) (sSet0 i fe) := fun G0 => by
  have : sSet0 i fe = sSet [] i fe := by funext O; unfold sSet0 sSet; rw [mask_nil]
  rw [this]
  exact PS.mono' (ps_set hN hi hx he hs hf) fun Dn O H q => asgV (fun _ _ _ z => z) rfl q
theorem ds_new (i : Nat) (hN : X.N.Nodup) (he : DF X E e fl) (hw : own' = ownWith own i := by rfl) (hi : X.N[i]? = some x := by rfl) (hx : Loc X.env.scope x := by first | exact Or.inl rfl | exact Or.inr rfl) (hs : swapsWith e (some (.Name x pos')) pos.line X.env = pure false := by rfl)
    (hf : X.fn x = true \/ X.env.scope.names.lookup x = some .local := by first | exact .inl rfl | exact .inr rfl | assumption) : DS X E own own' ol (.Assign [.Name x pos'] e pos) (sNew own i fl) := fun G0 => by
  subst hw; exact PS.mono' (ps_set hN hi hx he hs hf) fun Dn O H q => asgN (fun _ _ _ z => z) q
def vLst (fl : DSt -> R (List D)) : DSt -> R D := fun O => (fl O).bind fun ds => .ok (.lst ds)
theorem DF.val (h : DF X E e fl) : DE X E e (vLst fl) := h.de
variable {tg elt iter : Expr} {ifs : List Expr} {scope : Scope} {NY : List Str} {k : Nat} {ks : List Nat} {fi : DSt -> R (List D)} {gp : D -> R (List D)} {fc : DSt -> R Bool} {lpos : Pos}
def sAsg (own : List Nat) (ks : List Nat) (gp : D -> R (List D)) (fe : DSt -> R D) : DSt -> R Out := fun O => (fe (mask own O)).bind fun d => (gp d).noerr.bind fun us => .ok (.nx (setAll O ks us))
def sPar (own : List Nat) (i j : Nat) (fs : DSt -> R (List D)) : DSt -> R Out := fun O => (fs (mask own O)).bind fun ds => match ds with
  | [a, b] => .ok (.nx ((O.set i (some a)).set j (some b)))
  | _ => .bad
def lstAt (O : DSt) (i : Nat) : R (List D) := match O[i]? with
  | some (some (.lst ds)) => .ok ds
  | _ => .bad
def sApp (own : List Nat) (i : Nat) (fe : DSt -> R D) : DSt -> R Out := fun O => (lstAt O i).bind fun ds => (fe (mask own O)).bind fun d => bif most ds.length then .ok (.nx (O.set i (some (.lst (ds ++ [d]))))) else .bad
def sAppP (i : Nat) (fe : DSt -> R D) : DSt -> R Out := fun O => (lstAt O i).bind fun ds => (fe O).bind fun d => bif most ds.length && imm d then .ok (.nx (O.set i (some (.lst (ds ++ [d]))))) else .bad
theorem lstAt_ok {O : DSt} {i : Nat} {ds : List D} (h : lstAt O i = .ok ds) : O[i]? = some (some (.lst ds)) := by
  unfold lstAt at h
  split at h
  · cases h; assumption
  · cases h
theorem lstAt_ne {O : DSt} {i : Nat} {e : D} : lstAt O i ≠ .err e := by
  unfold lstAt
  split <;> simp
theorem ds_app (i : Nat) {apos cpos : Pos} {np : Pos} (he : DE X E e fe) (ho : own.contains i = true := by rfl) (hN : X.N[i]? = some x := by rfl) (hv : Vis X.env.scope x := by first | exact Or.inl rfl | exact Or.inr (Or.inl rfl) | exact Or.inr (Or.inr rfl)) (hd : (x == ("__debug__" : Str)) = false := by decide)
    (hcd : (x == ("__classdict__" : Str)) = false := by decide)
    (hbase : attributeBase (.Name x np) "append" X.env (eval (.Name x np) X.env) = eval (.Name x np) X.env := by rfl)
    (hfew : ((backTo cpos (starEach [e] X.env)).all (fun x => !x.1) && (backToKw cpos (keywordEach [] X.env)).all (fun x => x.1.isSome) && decide ([e].length + ([] : List Keyword).length + (if ([] : List Keyword).isEmpty then 0 else 1) < 30)) = true := by rfl)
    (hline : (apos.endLine == cpos.line) = true := by rfl) (hs : starEach [e] X.env = (false, eval e X.env) :: starEach [] X.env := by rfl) (hplain : (backTo cpos (starEach [] X.env)).any (·.1) = false := by rfl)
    (hsw : swapsWith (.Call (.Attribute (.Name x np) "append" apos) [e] [] cpos) none pos.line X.env = pure false := by rfl) :
    DS X E own own ol (.Expr (.Call (.Attribute (.Name x np) "append" apos) [e] [] cpos) pos) (sApp own i fe) := fun G0 =>
  PS.mono' (ps_expr (pe_bm PySem.F.plainAttrs_list PySem.F.slot_list_append PySem.F.type_list_append mt_append (pv i hN hv hd hcd) (da_cons he da_nil hs) hbase hfew hline hs hplain) hsw) fun Dn O H ⟨G, Od, ok, s0, q⟩ => by
  have q1 := q.of_bind
  cases hL : lstAt Od i with
  | bad => rw [hL] at q1; exact q1.elim
  | err e => exact xag hL lstAt_ne
  | ok ds =>
    rw [hL] at q1
    have q2 : RW ((fe (mask own Od)).bind fun d => bif most ds.length then R.ok (.nx (Od.set i (some (.lst (ds ++ [d]))))) else .bad) (OutW X.K X.mg G0 X.H₀ own ol Dn G) (AfterX X.K X.mg E G0 X.H₀) := q1
    have hd := lstAt_ok hL
    have hi : i ∈ own := by simpa using ho
    obtain ⟨a, ds', vs, p1, p2, p3, p4, p5, p6⟩ := ok.mine i _ hi hd
    cases p2
    refine ⟨_, p1, .inl ⟨rfl, _, SqL.of p3⟩, ?_⟩
    refine ⟨G, mask own Od, ok.masked, (show RW ((aCons fe aNil) (mask own Od)) _ _ from ?_)⟩
    unfold aCons
    have q3 := q2.of_bind
    cases hf : fe (mask own Od) with
    | bad => rw [hf] at q3; exact q3.elim
    | err e => rw [hf] at q3; exact (show AfterX X.K X.mg E G0 X.H₀ e from q3).step s0
    | ok d =>
      rw [hf] at q3
      rintro ws G' H' s ⟨v, _, e1, r1, r2⟩
      subst e1
      cases r2
      cases hm : most ds.length with
      | false => rw [hm] at q3; exact (show False from q3).elim
      | true =>
        rw [hm] at q3
        have hlt : ds.length < sizeLine := xaj hm
        have ok' := ok.step s
        refine ⟨a, vs, v, rfl, rfl, s.h _ _ p3, by rw [<- p6.length]; exact hlt, ?_⟩
        exact (show OutW X.K X.mg G0 X.H₀ own ol Dn G (.nx (Od.set i (some (.lst (ds ++ [d]))))) from q3) O G' _ (ok'.write hi hd p1 ((p6.mono s.g).append (Reps.cons r1 Reps.nil))) ((s0.trans s).write (o := .lst vs) p5 (s.c _ _ p3 p4)) s.g
end
def forL (ks : List Nat) (gp : D -> R (List D)) (fb : DSt -> R Out) : List D -> DSt -> R Out
  | [], O => .ok (.nx O)
  | d :: ds, O => (gp d).noerr.bind fun us => (fb (setAll O ks us)).bind fun o => match o with
    | .nx O' => forL ks gp fb ds O'
    | .ct O' => forL ks gp fb ds O'
    | .bk O' => .ok (.nx O')
    | .rt d => .ok (.rt d)
    | .rf d => .ok (.rf d)
def sFor (own ks : List Nat) (gp : D -> R (List D)) (fi : DSt -> R (List D)) (fb : DSt -> R Out) : DSt -> R Out := fun O => (fi (mask own O)).bind fun ds => forL ks gp fb ds O
structure XL (X : Cx) : Prop where
  own : PassesOwn (model X.prog X.w) X.A X.env X.xe
section
variable {X : Cx} {E : XK} {own ol ks : List Nat} {tg iter : Expr} {body : List Stmt} {gp : D -> R (List D)} {fi : DSt -> R (List D)} {fb : DSt -> R Out} {pos : Pos}
theorem ds_for (L : XL X) (hc : X.calm = true) (hi : DI X E tg iter fi) (hg : DG X tg ks gp) (hb : DSs X E own own own body fb) (ho : ks.all (fun i => !own.contains i) = true := by rfl) (hs : ∀ x, foldedSetIterable iter X.env x = pure x := by intro _; rfl) :
    DS X E own own ol (.For tg iter body [] pos) (sFor own ks gp fi fb) := fun G0 => PS.mono' (ps_for L.own hc hi hg (hb G0) hs) fun Dn O H ⟨G, Od, ok, s0, q⟩ => by
  refine ⟨G, mask own Od, ok.masked, q.of_bind.mono (fun ds _ z J G1 H1 s1 it => ?_) fun _ z => z.step s0⟩
  have hko : ∀ k ∈ ks, k ∉ own := fun k hk => by simpa using xbh.mp ho k hk
  refine ⟨fun i m O' H' => m = ds.length - i /\ i <= ds.length /\ ∃ G' Od', Ok X.K X.mg X.H₀ own Od' O' G' H' /\ Same G1 G' /\ Step G0 X.H₀ G' H' /\ RW (forL ks gp fb (ds.drop i) Od') (OutW X.K X.mg G0 X.H₀ own ol Dn G1) (AfterX X.K X.mg E G0 X.H₀),
    ⟨ds.length, by simp, xcl _, G1, Od, ok.step s1, Same.refl _, s0.trans s1, z.mono (fun _ _ z => z.shift s1.g) fun _ z => z⟩, ?_⟩
  rintro i m O' H' ⟨rfl, hi, G', Od', ok', e', s', w⟩
  by_cases hlt : i < ds.length
  · right
    obtain ⟨d, hd⟩ : ∃ d, ds[i]? = some d := ⟨ds[i], by simp [hlt]⟩
    obtain ⟨g1, g2⟩ := it.turn H' i d (e'.trans ok'.ext) hd
    have hdrop : ds.drop i = d :: ds.drop (i + 1) := by
      rw [xcg hlt]
      congr 1
      exact xa4 ((xbf hlt).symm.trans hd)
    rw [hdrop] at w
    refine ⟨g1, fun O2 H2 => i + 1 <= ds.length /\ ∃ G' Od', Ok X.K X.mg X.H₀ own Od' O2 G' H2 /\ Same G1 G' /\ Step G0 X.H₀ G' H2 /\ RW (forL ks gp fb (ds.drop (i + 1)) Od') (OutW X.K X.mg G0 X.H₀ own ol Dn G1) (AfterX X.K X.mg E G0 X.H₀),
      fun O2 H2 ⟨h1, h2⟩ => ⟨ds.length - (i + 1), by omega, rfl, h1, h2⟩, fun x H2 hy => ?_⟩
    obtain ⟨G2, s2, r2⟩ := g2 x H2 hy G' e' ok'.ext
    unfold forL at w
    obtain ⟨us, e1, w⟩ := noerr_ok w.of_bind
    refine ⟨G2, d, s2.e, r2, RW.ok_of e1 fun ws rws => ?_⟩
    have ok2 := (ok'.step s2).setAll hko rws
    refine ⟨G2, _, ok2, s'.trans s2, w.of_bind.mono (fun o _ z => ?_) fun _ z => z⟩
    cases o with
    | nx O3 => exact fun O4 G4 H4 ok4 s4 e4 => ⟨hlt, G4, O3, ok4, (e'.trans s2.g).trans e4, s4, z⟩
    | ct O3 => exact fun O4 G4 H4 ok4 s4 e4 => ⟨hlt, G4, O3, ok4, (e'.trans s2.g).trans e4, s4, z⟩
    | bk O3 => exact fun O4 G4 H4 ok4 s4 e4 => (show OutW X.K X.mg G0 X.H₀ own ol Dn G1 (.nx O3) from z) O4 G4 H4 ok4 s4 ((e'.trans s2.g).trans e4)
    | rt d => exact z
    | rf d => exact z
  · left
    have hi2 : i = ds.length := by omega
    subst hi2
    rw [List.drop_length] at w
    refine ⟨it.stop H' (e'.trans ok'.ext), ?_⟩
    unfold forL at w
    exact (show OutW X.K X.mg G0 X.H₀ own ol Dn G1 (.nx Od') from w) O' G' H' ok' s' e'
def whileN (c : DSt -> R Bool) (fb : DSt -> R Out) : Nat -> DSt -> R Out
  | 0, _ => .bad
  | n + 1, O => (c O).bind fun k => bif k then (fb O).bind fun o => match o with
      | .nx O' => whileN c fb n O'
      | .ct O' => whileN c fb n O'
      | .bk O' => .ok (.nx O')
      | .rt d => .ok (.rt d)
      | .rf d => .ok (.rf d)
    else .ok (.nx O)
open Classical in
noncomputable def sWhile (c : DSt -> R Bool) (fb : DSt -> R Out) : DSt -> R Out := fun O => if h : ∃ n, whileN c fb n O ≠ .bad then whileN c fb (Classical.choose h) O else .bad
theorem whileN_more {c : DSt -> R Bool} {fb : DSt -> R Out} : ∀ (n : Nat) (O : DSt) (r : R Out), whileN c fb n O = r -> r ≠ .bad -> ∀ k, whileN c fb (n + k) O = r
  | 0, O, r, h, hr, k => xag h.symm hr
  | n + 1, O, r, h, hr, k => by
    rw [show n + 1 + k = (n + k) + 1 by omega]
    unfold whileN at h ⊢
    cases hc : c O with
    | bad => rw [hc] at h; exact xag h.symm hr
    | err e => rw [hc] at h; exact h
    | ok b =>
      rw [hc] at h
      cases b with
      | false => exact h
      | true =>
        have h' : (fb O).bind (fun o => match o with
          | .nx O' => whileN c fb n O'
          | .ct O' => whileN c fb n O'
          | .bk O' => .ok (.nx O')
          | .rt d => .ok (.rt d)
          | .rf d => .ok (.rf d)) = r := h
        show (fb O).bind (fun o => match o with
          | .nx O' => whileN c fb (n + k) O'
          | .ct O' => whileN c fb (n + k) O'
          | .bk O' => .ok (.nx O')
          | .rt d => .ok (.rt d)
          | .rf d => .ok (.rf d)) = r
        cases hf : fb O with
        | bad => rw [hf] at h'; exact xag h'.symm hr
        | err e => rw [hf] at h'; exact h'
        | ok o =>
          rw [hf] at h'
          cases o with
          | nx O' => exact whileN_more n O' r h' hr k
          | ct O' => exact whileN_more n O' r h' hr k
          | bk O' => exact h'
          | rt d => exact h'
          | rf d => exact h'
theorem sWhile_eq {c : DSt -> R Bool} {fb : DSt -> R Out} {n : Nat} {O : DSt} {r : R Out} (h : whileN c fb n O = r) (hr : r ≠ .bad) : sWhile c fb O = r := by
  unfold sWhile
  have hx : ∃ n, whileN c fb n O ≠ .bad := ⟨n, by rw [h]; exact hr⟩
  rw [dif_pos hx]
  have h1 := Classical.choose_spec hx
  have a := whileN_more _ O _ rfl h1 n
  have b := whileN_more _ O _ h hr (Classical.choose hx)
  rw [Nat.add_comm] at b
  rw [<- a, b]
theorem sWhile_step (c : DSt -> R Bool) (fb : DSt -> R Out) (O : DSt) : sWhile c fb O = (c O).bind fun k => bif k then (fb O).bind fun o => match o with
      | .nx O' => sWhile c fb O'
      | .ct O' => sWhile c fb O'
      | .bk O' => .ok (.nx O')
      | .rt d => .ok (.rt d)
      | .rf d => .ok (.rf d)
    else .ok (.nx O) := by
  cases hc : c O with
  | bad =>
    unfold sWhile
    rw [dif_neg]
    · rfl
    · rintro ⟨n, h⟩
      cases n with
      | zero => exact h rfl
      | succ n => unfold whileN at h; rw [hc] at h; exact h rfl
  | err e => exact sWhile_eq (n := 1) (by unfold whileN; rw [hc]; rfl) (by simp [R.bind])
  | ok b =>
    cases b with
    | false => exact sWhile_eq (n := 1) (by unfold whileN; rw [hc]; rfl) (by simp [R.bind])
    | true =>
      show sWhile c fb O = (fb O).bind _
      cases hf : fb O with
      | bad =>
        unfold sWhile
        rw [dif_neg]
        · rfl
        · rintro ⟨n, h⟩
          cases n with
          | zero => exact h rfl
          | succ n => unfold whileN at h; rw [hc] at h; simp only [R.bind, cond_true] at h; rw [hf] at h; exact h rfl
      | err e => exact sWhile_eq (n := 1) (by unfold whileN; rw [hc]; show (fb O).bind _ = _; rw [hf]; rfl) (by simp [R.bind])
      | ok o =>
        have go : ∀ O', (∀ n, whileN c fb (n + 1) O = whileN c fb n O') -> sWhile c fb O = sWhile c fb O' := fun O' hn => by
          by_cases hx : ∃ n, whileN c fb n O' ≠ .bad
          · obtain ⟨n, h⟩ := hx
            rw [sWhile_eq (n := n) rfl h, sWhile_eq (n := n + 1) (hn n) h]
          · have : sWhile c fb O' = .bad := by unfold sWhile; rw [dif_neg hx]
            rw [this]
            unfold sWhile
            rw [dif_neg]
            rintro ⟨n, h⟩
            cases n with
            | zero => exact h rfl
            | succ n => rw [hn n] at h; exact hx ⟨n, h⟩
        cases o with
        | nx O' => exact go O' fun n => by unfold whileN; rw [hc]; show (fb O).bind _ = _; rw [hf]; cases n <;> rfl
        | ct O' => exact go O' fun n => by unfold whileN; rw [hc]; show (fb O).bind _ = _; rw [hf]; cases n <;> rfl
        | bk O' => exact sWhile_eq (n := 1) (by unfold whileN; rw [hc]; show (fb O).bind _ = _; rw [hf]; rfl) (by simp [R.bind])
        | rt d => exact sWhile_eq (n := 1) (by unfold whileN; rw [hc]; show (fb O).bind _ = _; rw [hf]; rfl) (by simp [R.bind])
        | rf d => exact sWhile_eq (n := 1) (by unfold whileN; rw [hc]; show (fb O).bind _ = _; rw [hf]; rfl) (by simp [R.bind])
theorem ds_while {c : Expr} {fc : DSt -> R Bool} (L : XL X) (hc : DT X E c fc) (hb : DSs X E own own own body fb) : DS X E own own ol (.While c body [] pos) (sWhile fc fb) := fun G0 => PS.mono' (ps_while L.own hc (hb G0)) fun Dn O H ⟨G, Od, ok, s0, q⟩ => by
  have hx : ∃ n, whileN fc fb n Od ≠ .bad := by
    by_cases hx : ∃ n, whileN fc fb n Od ≠ .bad
    · exact hx
    · unfold sWhile at q; rw [dif_neg hx] at q; exact (show False from q).elim
  obtain ⟨n, hn⟩ := hx
  rw [sWhile_eq rfl hn] at q
  refine ⟨fun m O' H' => ∃ G' Od', Ok X.K X.mg X.H₀ own Od' O' G' H' /\ Same G G' /\ Step G0 X.H₀ G' H' /\ RW (whileN fc fb m Od') (OutW X.K X.mg G0 X.H₀ own ol Dn G) (AfterX X.K X.mg E G0 X.H₀), ⟨n, G, Od, ok, Same.refl _, s0, q⟩, ?_⟩
  rintro m O1 H1 ⟨G1, Od1, ok1, e1, s1, w⟩
  cases m with
  | zero => exact (show False from w).elim
  | succ m =>
    unfold whileN at w
    have sp := ok1.pubStep s1
    refine ⟨_, Od1, ok1.pub.1, w.of_bind.mono (fun k _ z G' H' s => ?_) fun _ z => z.step sp⟩
    have ok' := ok1.drop s.h
    have s' : Step G0 X.H₀ G1 H' := s1.trans (.heap ok1.ext s.h)
    cases k with
    | true =>
      refine iteT ?_
      refine ⟨fun O2 H2 => ∃ G' Od', Ok X.K X.mg X.H₀ own Od' O2 G' H2 /\ Same G G' /\ Step G0 X.H₀ G' H2 /\ RW (whileN fc fb m Od') (OutW X.K X.mg G0 X.H₀ own ol Dn G) (AfterX X.K X.mg E G0 X.H₀), fun O2 H2 h => ⟨m, Nat.lt_succ_self _, h⟩, ?_⟩
      refine ⟨G1, Od1, ok', s', (show RW ((fb Od1).bind _) _ _ from z).of_bind.mono (fun o _ z => ?_) fun _ z => z⟩
      cases o with
      | nx O3 => exact fun O4 G4 H4 ok4 s4 e4 => ⟨G4, O3, ok4, e1.trans e4, s4, z⟩
      | ct O3 => exact fun O4 G4 H4 ok4 s4 e4 => ⟨G4, O3, ok4, e1.trans e4, s4, z⟩
      | bk O3 => exact fun O4 G4 H4 ok4 s4 e4 => (show OutW X.K X.mg G0 X.H₀ own ol Dn G (.nx O3) from z) O4 G4 H4 ok4 s4 (e1.trans e4)
      | rt d => exact z
      | rf d => exact z
    | false =>
      refine iteF ?_
      exact (show OutW X.K X.mg G0 X.H₀ own ol Dn G (.nx Od1) from z) O1 G1 H' ok' s' e1
end
def startD (n : Nat) (ds : List D) : DSt := ds.map some ++ List.replicate (n - ds.length) none
def fin : R Out -> R D
  | .ok (.rt d) => .ok d
  | .ok (.rf ds) => .ok (.lst ds)
  | .ok (.nx _) => .ok .non
  | .ok _ => .bad
  | .err e => .err e
  | .bad => .bad
def fnM (n nN : Nat) (body : DSt -> R Out) : List D -> R D := fun ds => bif ds.length == n then fin (body (startD nN ds)) else .bad
theorem Reps.startOk {K : xFg} {mg : Str -> Option Value} {G H : Hp} (e : Same G H) : ∀ {ds : List D} {vs : List V} (k : Nat), Reps K mg G ds vs -> Ok0 K mg (ds.map some ++ List.replicate k none) (vs.map some ++ List.replicate k none) G H
  | [], _, k, h => by
    cases h
    have := Ok0.nones (K := K) (mg := mg) (G := G) (H := H) (Od := []) (O := []) ⟨e, rfl, fun i d q => by simp at q⟩ k
    simpa using this
  | d :: ds, _, k, ⟨v, r, h1, h2, h3⟩ => by
    subst h1
    exact (Reps.startOk e k h3).cons (x := some d) (y := some v) fun d' q => by cases q; exact ⟨v, rfl, h2⟩
section
variable {P : Program} {w : World} {K : xFg} {mg : Str -> Option Value} {base : Heap}
theorem FnAt.mk' {x qual : Str} {st : Stmt} {f : Addr} {fd : FuncData} {N ps : List Str} {k n nN : Nat} {own' : List Nat} {body : DSt -> R Out} (F : Fun K x qual st f fd) (S : FnScope N ps (defScope st)) (hm : mg x = some (.ref f)) (b : Binds K fd ps [])
    (hn : ps.length = n) (hN : N.length = nN)
    (hb : ∀ (X : Cx) (E : XK), (∃ cdv A outer s H, X = cxOf (CXe P w) P w K mg base N qual (defScope st) f cdv A outer s H E) -> XC X E k -> XL X -> DSs X E [] own' [] (defBody st) body) : FnAt P w K mg base (k + 1) x (fnM n nN body) := by
  refine ⟨f, fd, ps, F.okX S (fun vs H Q E h => ?_) (fun cdv A outer s H vs Q E hr hsp => ?_), hm, F.kp, b⟩
  · obtain ⟨G, ds, e, r, q⟩ := h
    by_cases hd : ds.length = n
    · rw [<- r.length, hd, hn]
    · have : (ds.length == n) = false := by simpa using hd
      unfold fnM at q
      rw [this] at q
      exact (show False from q).elim
  · obtain ⟨G, ds, e, r, q⟩ := hsp
    have hd : ds.length = n := by
      by_cases hd : ds.length = n
      · exact hd
      · have : (ds.length == n) = false := by simpa using hd
        unfold fnM at q
        rw [this] at q
        exact (show False from q).elim
    unfold fnM at q
    rw [show (ds.length == n) = true by simpa using hd] at q
    have q' : RW (fin (body (startD nN ds))) (After K mg Q G H) (AfterX K mg E G H) := q
    refine ⟨_, hb _ E ⟨cdv, A, outer, s, H, rfl⟩ ⟨rfl, hr, passE⟩ ⟨PassesOwn.leaving⟩ G, G, startD nN ds, ?_, .refl e, ?_⟩
    · have := Reps.startOk e (N.length - vs.length) r
      unfold L2.start startD
      rw [<- hN, r.length]
      exact .zero this
    · cases hbd : body (startD nN ds) with
      | bad => rw [hbd] at q'; exact q'
      | err e => rw [hbd] at q'; exact q'
      | ok o =>
        rw [hbd] at q'
        cases o with
        | rt d => exact fun v G' H' s r => (show After K mg Q G H d from q') v G' H' s r
        | rf es =>
          intro a vs G' H' s n e g r
          have q2 : After K mg Q G H (.lst es) := q'
          have sg : Same G' (upd G' a (.lst vs)) := same_upd g
          refine q2 (.ref a) (upd G' a (.lst vs)) H' ⟨s.g.trans sg, s.h, fun b u p => ?_, fun b u p1 p2 => ?_⟩ ⟨a, vs, rfl, SqL.of upd_same, r.mono sg⟩
          · by_cases hb : b = a
            · subst hb; rw [upd_same] at p; cases p; exact e
            · rw [upd_ne hb] at p; exact s.e b u p
          · have hb : b ≠ a := ne_of_none p1 n
            rw [upd_ne hb]; exact s.c b u p1 p2
        | nx O => exact fun O' G' H' ok s _ => (show After K mg Q G H .non from q') .non G' H' s rfl
        | bk O => exact (show False from q').elim
        | ct O => exact (show False from q').elim
end
theorem XC.lc {X : Cx} {E : XK} {k : Nat} (C : XC X E k) (scope : Scope) (NY : List Str) (s0 : Shared) (H0 : Hp) (Ca : Addr) (ex : List Addr) : XC (lcCx X scope NY s0 H0 Ca ex) E0 k := ⟨C.calm, C.room, passN⟩
end DL
namespace DL
open L2
mutual
def eqD : D -> D -> Bool
  | .non, .non => true
  | .bl a, .bl b => a == b
  | .int a, .int b => a == b
  | .str a, .str b => a == b
  | .bl a, .int b => (if a then (1 : Int) else 0) == b
  | .int a, .bl b => a == (if b then (1 : Int) else 0)
  | .tup xs, .tup ys => eqDs xs ys
  | .lst xs, .lst ys => eqDs xs ys
  | _, _ => false
def eqDs : List D -> List D -> Bool
  | [], [] => true
  | x :: xs, y :: ys => eqD x y && eqDs xs ys
  | _, _ => false
end
def datN : Nat -> D -> Bool
  | _, .non => true
  | _, .bl _ => true
  | _, .int _ => true
  | _, .str _ => true
  | n + 1, .tup xs => xs.all (datN n)
  | n + 1, .lst xs => xs.all (datN n)
  | _, _ => false
theorem eqDs_range : ∀ (xs ys : List D), ((List.range (min xs.length ys.length)).all (fun j => eqD (xs.getD j .non) (ys.getD j .non)) && xs.length == ys.length) = eqDs xs ys
  | [], [] => by unfold eqDs; rfl
  | [], _ :: _ => by unfold eqDs; simp
  | _ :: _, [] => by unfold eqDs; simp
  | x :: xs, y :: ys => by
    unfold eqDs
    rw [<- eqDs_range xs ys]
    simp only [xa0, Nat.succ_min_succ, List.range_succ_eq_map, List.all_cons, List.getD_cons_zero, List.all_map, Bool.and_assoc]
    congr 2
    rw [xbm]; simp
theorem eqD_refl : ∀ (n : Nat) (d : D), datN n d = true -> eqD d d = true := by
  intro n
  induction n with
  | zero => intro d h; cases d <;> first | (simp [datN] at h; done) | (unfold eqD; simp; done)
  | succ n ih =>
    have hl : ∀ xs : List D, xs.all (datN n) = true -> eqDs xs xs = true := fun xs => by
      induction xs with
      | nil => intro _; unfold eqDs; rfl
      | cons x xs ihx =>
        intro h
        rw [List.all_cons, xay] at h
        unfold eqDs
        rw [ih x h.1, ihx h.2]; rfl
    intro d h
    cases d with
    | tup xs => unfold eqD; exact hl xs (by unfold datN at h; exact h)
    | lst xs => unfold eqD; exact hl xs (by unfold datN at h; exact h)
    | _ => first | (simp [datN] at h; done) | (unfold eqD; simp; done)
def vOf : D -> Option V
  | .non => some .non
  | .bl b => some (.bl b)
  | .int i => some (.int i)
  | .str x => some (.str x)
  | _ => none
theorem rep_vOf {K : xFg} {mg : Str -> Option Value} {G : Hp} {d : D} {v x : V} (h : vOf d = some v) (r : Rep K mg G d x) : x = v /\ flatV v = true := by
  cases d <;> first | (simp [vOf] at h; done) | (simp only [vOf, Option.some.injEq] at h; subst h; simp only [Rep] at r; exact ⟨r, rfl⟩)
theorem eqD_flat {d d' : D} {v v' : V} (h : vOf d = some v) (h' : vOf d' = some v') : eqD d d' = eqV v v' := by
  cases d <;> first | (simp [vOf] at h; done) | (simp only [vOf, Option.some.injEq] at h; subst h; cases d' <;> first | (simp [vOf] at h'; done) | (simp only [vOf, Option.some.injEq] at h'; subst h'; unfold eqD eqV; first | rfl | simp))
theorem vOf_inj {d d' : D} {v : V} (h : vOf d = some v) (h' : vOf d' = some v) : d = d' := by
  cases d <;> first | (simp [vOf] at h; done) | (simp only [vOf, Option.some.injEq] at h; subst h; cases d' <;> first | (simp [vOf] at h'; done) | (simp only [vOf, Option.some.injEq] at h'; cases h'; rfl))
theorem dat_cases {n : Nat} {d : D} (h : datN n d = true) : (∃ v, vOf d = some v) \/ (∃ m xs, n = m + 1 /\ d = .tup xs /\ xs.all (datN m) = true) \/ (∃ m xs, n = m + 1 /\ d = .lst xs /\ xs.all (datN m) = true) := by
  cases d with
  | tup xs => cases n with
    | zero => simp [datN] at h
    | succ m => exact .inr (.inl ⟨m, xs, rfl, rfl, by unfold datN at h; exact h⟩)
  | lst xs => cases n with
    | zero => simp [datN] at h
    | succ m => exact .inr (.inr ⟨m, xs, rfl, rfl, by unfold datN at h; exact h⟩)
  | non => exact .inl ⟨_, rfl⟩
  | bl b => exact .inl ⟨_, rfl⟩
  | int i => exact .inl ⟨_, rfl⟩
  | str x => exact .inl ⟨_, rfl⟩
  | _ => simp [datN] at h
section
variable {X : Cx} {pins : List (Addr × Obj)} {O : St} {G H : Hp} {s : Shared}
theorem not_both (I : Inv X pins O H s) {a : Addr} {xs ys : List V} (h1 : SqT X.K H a xs) (h2 : SqL X.K H a ys) : False := by
  obtain ⟨_, _, ⟨o, e, c, _⟩, _⟩ := I.tuple h1
  obtain ⟨_, _, ⟨o', _, e', c', _⟩, _⟩ := I.list h2
  rw [e] at e'; cases e'
  rw [c] at c'
  exact xag c' (by simp)
theorem flat_noref {v : V} {a : Addr} (h : flatV v = true) : v ≠ .ref a := by rintro rfl; cases h
theorem rep_inj (I : Inv X pins O H s) (e : Same G H) : ∀ (n : Nat) {d d' : D} {v : V}, datN n d = true -> datN n d' = true -> Rep X.K X.mg G d v -> Rep X.K X.mg G d' v -> d = d' := by
  intro n
  induction n with
  | zero =>
    intro d d' v h h' r r'
    rcases dat_cases h with ⟨w, hw⟩ | ⟨_, _, z, _⟩ | ⟨_, _, z, _⟩ <;> try omega
    rcases dat_cases h' with ⟨w', hw'⟩ | ⟨_, _, z, _⟩ | ⟨_, _, z, _⟩ <;> try omega
    have e1 := (rep_vOf hw r).1
    have e2 := (rep_vOf hw' r').1
    rw [<- e1] at hw; rw [<- e2] at hw'
    exact vOf_inj hw hw'
  | succ n ih =>
    have hl : ∀ (xs ys : List D) (vs : List V), xs.all (datN n) = true -> ys.all (datN n) = true -> Reps X.K X.mg G xs vs -> Reps X.K X.mg G ys vs -> xs = ys := by
      intro xs
      induction xs with
      | nil =>
        intro ys vs _ _ r r'
        cases r
        cases ys with
        | nil => rfl
        | cons y ys => obtain ⟨_, _, z, _⟩ := r'; cases z
      | cons x xs ihx =>
        intro ys vs h h' r r'
        obtain ⟨v, t, rfl, r1, r2⟩ := r
        cases ys with
        | nil => cases r'
        | cons y ys =>
          obtain ⟨v', t', z, r1', r2'⟩ := r'
          cases z
          rw [List.all_cons, xay] at h h'
          rw [ih h.1 h'.1 r1 r1', ihx ys _ h.2 h'.2 r2 r2']
    intro d d' v h h' r r'
    rcases dat_cases h with ⟨w, hw⟩ | ⟨m, xs, hm, rfl, hx⟩ | ⟨m, xs, hm, rfl, hx⟩
    · rcases dat_cases h' with ⟨w', hw'⟩ | ⟨m', ys, hm', rfl, hy⟩ | ⟨m', ys, hm', rfl, hy⟩
      · have e1 := (rep_vOf hw r).1
        have e2 := (rep_vOf hw' r').1
        rw [<- e1] at hw; rw [<- e2] at hw'
        exact vOf_inj hw hw'
      · obtain ⟨e1, e2⟩ := rep_vOf hw r
        obtain ⟨a, vs, z, _⟩ := r'
        exact xag (e1.symm.trans z) (flat_noref e2)
      · obtain ⟨e1, e2⟩ := rep_vOf hw r
        obtain ⟨a, vs, z, _⟩ := r'
        exact xag (e1.symm.trans z) (flat_noref e2)
    · obtain rfl : n = m := by omega
      obtain ⟨a, vs, rfl, q1, q2⟩ := r
      rcases dat_cases h' with ⟨w', hw'⟩ | ⟨m', ys, hm', rfl, hy⟩ | ⟨m', ys, hm', rfl, hy⟩
      · obtain ⟨e1, e2⟩ := rep_vOf hw' r'
        exact xag e1.symm (flat_noref e2)
      · obtain rfl : n = m' := by omega
        obtain ⟨a', vs', z, q1', q2'⟩ := r'
        cases z
        have := I.tuple_inj (Same.sqT e q1) (Same.sqT e q1')
        subst this
        rw [hl xs ys _ hx hy q2 q2']
      · obtain ⟨a', vs', z, q1', q2'⟩ := r'
        cases z
        exact (not_both I (Same.sqT e q1) (e.seq q1')).elim
    · obtain rfl : n = m := by omega
      obtain ⟨a, vs, rfl, q1, q2⟩ := r
      rcases dat_cases h' with ⟨w', hw'⟩ | ⟨m', ys, hm', rfl, hy⟩ | ⟨m', ys, hm', rfl, hy⟩
      · obtain ⟨e1, e2⟩ := rep_vOf hw' r'
        exact xag e1.symm (flat_noref e2)
      · obtain ⟨a', vs', z, q1', q2'⟩ := r'
        cases z
        exact (not_both I (Same.sqT e q1') (e.seq q1)).elim
      · obtain rfl : n = m' := by omega
        obtain ⟨a', vs', z, q1', q2'⟩ := r'
        cases z
        have := I.list_inj (e.seq q1) (e.seq q1')
        subst this
        rw [hl xs ys _ hx hy q2 q2']
theorem atArr {α : Type} {us : List α} {j : Nat} (h : j < us.toArray.size) : us.toArray[j] = us[j]'(by simpa using h) := by simp
theorem getD_of {α : Type} {xs : List α} {d : α} {j : Nat} (h : j < xs.length) : xs.getD j d = xs[j] := by simp [List.getD, h]
open SeqAt in
theorem items_at {A : Around} {n : Nat} (ih : ∀ {d d' : D} {x x' : V} {u u' : Value}, datN n d = true -> datN n d' = true -> Rep X.K X.mg G d x -> RelV x u -> Rep X.K X.mg G d' x' -> RelV x' u' -> EqAt A s u u' (eqD d d'))
    {xs ys : List D} {vs ws : List V} {us us' : List Value} (h : xs.all (datN n) = true) (h' : ys.all (datN n) = true) (r : Reps X.K X.mg G xs vs) (q : Vals vs us) (r' : Reps X.K X.mg G ys ws) (q' : Vals ws us') :
    ∀ j (h1 : j < us.toArray.size) (h2 : j < us'.toArray.size), EqAt A s us.toArray[j] us'.toArray[j] (eqD (xs.getD j .non) (ys.getD j .non)) := by
  intro j h1 h2
  have l1 : j < vs.length := by rw [q.length]; simpa using h1
  have l2 : j < ws.length := by rw [q'.length]; simpa using h2
  have l3 : j < xs.length := by rw [r.length]; exact l1
  have l4 : j < ys.length := by rw [r'.length]; exact l2
  obtain ⟨v, e1, e2⟩ := r.get (i := j) (d := xs[j]) (by simp [l3])
  obtain ⟨w, e3, e4⟩ := r'.get (i := j) (d := ys[j]) (by simp [l4])
  obtain ⟨u, e5, e6⟩ := q.get e1
  obtain ⟨u', e7, e8⟩ := q'.get e3
  have z1 : us.toArray[j] = u := by rw [atArr h1]; exact (xae.mp e5).2
  have z2 : us'.toArray[j] = u' := by rw [atArr h2]; exact (xae.mp e7).2
  rw [z1, z2, getD_of l3, getD_of l4]
  exact ih (xbh.mp h _ (xbx l3)) (xbh.mp h' _ (xbx l4)) e2 e6 e4 e8
theorem in1_units (A : Around) : A.in1.units = A.units + 1 := rfl
open SeqAt in
theorem rcAt_V {A : Around} {x x' : V} {u u' : Value} (q : RelV x u) (q' : RelV x' u') (f : flatV x = true) (f' : flatV x' = true) : RcAt A s u u' (eqV x x') /\ RcNeAt A s u u' (!eqV x x') := by
  cases x with
  | non =>
    cases (show u = Value.none from q)
    cases x' with
    | non => cases (show u' = Value.none from q'); exact ⟨RcAt.none_none, RcNeAt.none_none⟩
    | bl b => cases (show u' = Value.bool b from q'); exact ⟨RcAt.none_bool b, RcNeAt.none_bool b⟩
    | int b => obtain ⟨tb, rfl⟩ := (show ∃ t, u' = Value.int b t from q'); exact ⟨RcAt.none_int b tb, RcNeAt.none_int b tb⟩
    | str b => obtain ⟨tb, rfl⟩ := (show ∃ t, u' = Value.str b t from q'); exact ⟨RcAt.none_str b tb, RcNeAt.none_str b tb⟩
    | _ => cases f'
  | bl a =>
    cases (show u = Value.bool a from q)
    cases x' with
    | non => cases (show u' = Value.none from q'); exact ⟨RcAt.bool_none a, RcNeAt.bool_none a⟩
    | bl b => cases (show u' = Value.bool b from q'); exact ⟨RcAt.bool_bool a b, RcNeAt.bool_bool a b⟩
    | int b => obtain ⟨tb, rfl⟩ := (show ∃ t, u' = Value.int b t from q'); exact ⟨RcAt.bool_int a b tb, RcNeAt.bool_int a b tb⟩
    | str b => obtain ⟨tb, rfl⟩ := (show ∃ t, u' = Value.str b t from q'); exact ⟨RcAt.bool_str a b tb, RcNeAt.bool_str a b tb⟩
    | _ => cases f'
  | int a =>
    obtain ⟨ta, rfl⟩ := (show ∃ t, u = Value.int a t from q)
    cases x' with
    | non => cases (show u' = Value.none from q'); exact ⟨RcAt.int_none a ta, RcNeAt.int_none a ta⟩
    | bl b => cases (show u' = Value.bool b from q'); exact ⟨RcAt.int_bool a ta b, RcNeAt.int_bool a ta b⟩
    | int b => obtain ⟨tb, rfl⟩ := (show ∃ t, u' = Value.int b t from q'); exact ⟨RcAt.int_int a ta b tb, RcNeAt.int_int a ta b tb⟩
    | str b => obtain ⟨tb, rfl⟩ := (show ∃ t, u' = Value.str b t from q'); exact ⟨RcAt.int_str a ta b tb, RcNeAt.int_str a ta b tb⟩
    | _ => cases f'
  | str a =>
    obtain ⟨ta, rfl⟩ := (show ∃ t, u = Value.str a t from q)
    cases x' with
    | non => cases (show u' = Value.none from q'); exact ⟨RcAt.str_none a ta, RcNeAt.str_none a ta⟩
    | bl b => cases (show u' = Value.bool b from q'); exact ⟨RcAt.str_bool a ta b, RcNeAt.str_bool a ta b⟩
    | int b => obtain ⟨tb, rfl⟩ := (show ∃ t, u' = Value.int b t from q'); exact ⟨RcAt.str_int a ta b tb, RcNeAt.str_int a ta b tb⟩
    | str b => obtain ⟨tb, rfl⟩ := (show ∃ t, u' = Value.str b t from q'); exact ⟨RcAt.str_str a ta b tb, RcNeAt.str_str a ta b tb⟩
    | _ => cases f'
  | _ => cases f
open SeqAt in
theorem eqAt_flatSeq {A : Around} {x : V} {u : Value} {b : Addr} {items : Array Value} (fx : flatV x = true) (q : RelV x u) (hA : A.units < cLine) (h : s.heap.IsTuple b items \/ s.heap.IsList b items) : EqAt A s u (.ref b) false /\ EqAt A s (.ref b) u false /\ RcAt A s u (.ref b) false /\ RcAt A s (.ref b) u false /\ RcNeAt A s u (.ref b) true /\ RcNeAt A s (.ref b) u true := by
  cases x with
  | non =>
    obtain rfl : u = Value.none := q
    rcases h with h | h
    · exact ⟨EqAt.none_tuple h hA, EqAt.tuple_none h hA, RcAt.none_tuple h hA, RcAt.tuple_none h hA, RcNeAt.none_tuple h hA, RcNeAt.tuple_none h hA⟩
    · exact ⟨EqAt.none_list h hA, EqAt.list_none h hA, RcAt.none_list h hA, RcAt.list_none h hA, RcNeAt.none_list h hA, RcNeAt.list_none h hA⟩
  | bl a =>
    obtain rfl : u = Value.bool a := q
    rcases h with h | h
    · exact ⟨EqAt.bool_tuple _ h hA, EqAt.tuple_bool _ h hA, RcAt.bool_tuple _ h hA, RcAt.tuple_bool _ h hA, RcNeAt.bool_tuple _ h hA, RcNeAt.tuple_bool _ h hA⟩
    · exact ⟨EqAt.bool_list _ h hA, EqAt.list_bool _ h hA, RcAt.bool_list _ h hA, RcAt.list_bool _ h hA, RcNeAt.bool_list _ h hA, RcNeAt.list_bool _ h hA⟩
  | int a =>
    obtain ⟨t, rfl⟩ : ∃ t, u = Value.int a t := q
    rcases h with h | h
    · exact ⟨EqAt.int_tuple _ _ h hA, EqAt.tuple_int _ _ h hA, RcAt.int_tuple _ _ h hA, RcAt.tuple_int _ _ h hA, RcNeAt.int_tuple _ _ h hA, RcNeAt.tuple_int _ _ h hA⟩
    · exact ⟨EqAt.int_list _ _ h hA, EqAt.list_int _ _ h hA, RcAt.int_list _ _ h hA, RcAt.list_int _ _ h hA, RcNeAt.int_list _ _ h hA, RcNeAt.list_int _ _ h hA⟩
  | str a =>
    obtain ⟨t, rfl⟩ : ∃ t, u = Value.str a t := q
    rcases h with h | h
    · exact ⟨EqAt.str_tuple _ _ h hA, EqAt.tuple_str _ _ h hA, RcAt.str_tuple _ _ h hA, RcAt.tuple_str _ _ h hA, RcNeAt.str_tuple _ _ h hA, RcNeAt.tuple_str _ _ h hA⟩
    · exact ⟨EqAt.str_list _ _ h hA, EqAt.list_str _ _ h hA, RcAt.str_list _ _ h hA, RcAt.list_str _ _ h hA, RcNeAt.str_list _ _ h hA, RcNeAt.list_str _ _ h hA⟩
  | _ => cases fx
theorem eqD_seqs {xs ys : List D} : eqD (.tup xs) (.tup ys) = eqDs xs ys /\ eqD (.lst xs) (.lst ys) = eqDs xs ys /\ eqD (.tup xs) (.lst ys) = false /\ eqD (.lst xs) (.tup ys) = false := by
  refine ⟨?_, ?_, ?_, ?_⟩ <;> (unfold eqD; rfl)
theorem eqD_flatSeq {d : D} {v : V} {ys : List D} (h : vOf d = some v) : eqD d (.tup ys) = false /\ eqD d (.lst ys) = false /\ eqD (.tup ys) d = false /\ eqD (.lst ys) d = false := by
  cases d <;> first | (simp [vOf] at h; done) | (refine ⟨?_, ?_, ?_, ?_⟩ <;> (unfold eqD; rfl))
set_option maxHeartbeats 4000000 in
open SeqAt in
theorem eqAt_D (I : Inv X pins O H s) (e : Same G H) : ∀ (n : Nat) {A : Around} {d d' : D} {x x' : V} {u u' : Value}, A.units + n < cLine -> datN n d = true -> datN n d' = true -> Rep X.K X.mg G d x -> RelV x u -> Rep X.K X.mg G d' x' -> RelV x' u' ->
    EqAt A s u u' (eqD d d') /\ RcAt A s u u' (eqD d d') /\ RcNeAt A s u u' (!eqD d d') := by
  have ff : ∀ {A : Around} {d d' : D} {v v' x x' : V} {u u' : Value}, vOf d = some v -> vOf d' = some v' -> Rep X.K X.mg G d x -> RelV x u -> Rep X.K X.mg G d' x' -> RelV x' u' -> EqAt A s u u' (eqD d d') /\ RcAt A s u u' (eqD d d') /\ RcNeAt A s u u' (!eqD d d') := by
    intro A d d' v v' x x' u u' hv hv' r q r' q'
    obtain ⟨rfl, f1⟩ := rep_vOf hv r
    obtain ⟨rfl, f2⟩ := rep_vOf hv' r'
    rw [eqD_flat hv hv']
    exact ⟨eqAt_V q q' f1 f2, rcAt_V q q' f1 f2⟩
  have seq : ∀ {d : D} {m : Nat} {xs : List D} {x : V} {u : Value}, d = .tup xs \/ d = .lst xs -> Rep X.K X.mg G d x -> RelV x u -> ∃ b items, u = .ref b /\ (s.heap.IsTuple b items \/ s.heap.IsList b items) := by
    intro d m xs x u hd r q
    rcases hd with rfl | rfl
    · obtain ⟨a, vs, rfl, q1, q2⟩ := r
      obtain ⟨us, v1, t1, _⟩ := I.tuple (Same.sqT e q1)
      exact ⟨a, _, q, .inl t1⟩
    · obtain ⟨a, vs, rfl, q1, q2⟩ := r
      obtain ⟨us, v1, t1, _⟩ := I.list (e.seq q1)
      exact ⟨a, _, q, .inr t1.isList⟩
  intro n
  induction n with
  | zero =>
    intro A d d' x x' u u' hu h h' r q r' q'
    rcases dat_cases h with ⟨w, hw⟩ | ⟨_, _, z, _⟩ | ⟨_, _, z, _⟩ <;> try omega
    rcases dat_cases h' with ⟨w', hw'⟩ | ⟨_, _, z, _⟩ | ⟨_, _, z, _⟩ <;> try omega
    exact ff hw hw' r q r' q'
  | succ n ih =>
    intro A d d' x x' u u' hu h h' r q r' q'
    have hA : A.units < cLine := by omega
    have ih' : ∀ {d d' : D} {x x' : V} {u u' : Value}, datN n d = true -> datN n d' = true -> Rep X.K X.mg G d x -> RelV x u -> Rep X.K X.mg G d' x' -> RelV x' u' -> EqAt A.in1 s u u' (eqD d d') :=
      fun a b c d e f => (ih (A := A.in1) (by rw [in1_units]; omega) a b c d e f).1
    rcases dat_cases h with ⟨w, hw⟩ | ⟨m, xs, hm, rfl, hx⟩ | ⟨m, xs, hm, rfl, hx⟩
    · rcases dat_cases h' with ⟨w', hw'⟩ | ⟨m', ys, hm', rfl, hy⟩ | ⟨m', ys, hm', rfl, hy⟩
      · exact ff hw hw' r q r' q'
      · obtain ⟨rfl, f1⟩ := rep_vOf hw r
        obtain ⟨b, items, rfl, hb⟩ := seq (m := m') (.inl rfl) r' q'
        obtain ⟨z1, _, z3, _, z5, _⟩ := eqAt_flatSeq f1 q hA hb
        rw [(eqD_flatSeq hw).1]; exact ⟨z1, z3, z5⟩
      · obtain ⟨rfl, f1⟩ := rep_vOf hw r
        obtain ⟨b, items, rfl, hb⟩ := seq (m := m') (.inr rfl) r' q'
        obtain ⟨z1, _, z3, _, z5, _⟩ := eqAt_flatSeq f1 q hA hb
        rw [(eqD_flatSeq hw).2.1]; exact ⟨z1, z3, z5⟩
    · obtain rfl : n = m := by omega
      rcases dat_cases h' with ⟨w', hw'⟩ | ⟨m', ys, hm', rfl, hy⟩ | ⟨m', ys, hm', rfl, hy⟩
      · obtain ⟨rfl, f1⟩ := rep_vOf hw' r'
        obtain ⟨b, items, rfl, hb⟩ := seq (m := n) (.inl rfl) r q
        obtain ⟨_, z2, _, z4, _, z6⟩ := eqAt_flatSeq f1 q' hA hb
        rw [(eqD_flatSeq hw').2.2.1]; exact ⟨z2, z4, z6⟩
      · obtain rfl : n = m' := by omega
        have hr := r; have hr' := r'
        obtain ⟨a, vs, rfl, q1, q2⟩ := r
        obtain rfl : u = Value.ref a := q
        obtain ⟨us, v1, t1, _⟩ := I.tuple (Same.sqT e q1)
        obtain ⟨b, ws, rfl, q1', q2'⟩ := r'
        obtain rfl : u' = Value.ref b := q'
        obtain ⟨us', v1', t1', _⟩ := I.tuple (Same.sqT e q1')
        have t1 : s.heap.IsTuple a us.toArray := t1
        have t1' : s.heap.IsTuple b us'.toArray := t1'
        have z := RcAt.tuples t1 t1' hA (items_at ih' hx hy q2 v1 q2' v1')
        have zn := RcNeAt.tuples t1 t1' hA (items_at ih' hx hy q2 v1 q2' v1')
        have hz : ((List.range (min us.toArray.size us'.toArray.size)).all (fun j => eqD (xs.getD j .non) (ys.getD j .non)) && us.toArray.size == us'.toArray.size) = eqD (.tup xs) (.tup ys) := by
          rw [eqD_seqs.1, <- eqDs_range]
          simp only [xal, <- v1.length, <- v1'.length, <- q2.length, <- q2'.length]
        rw [hz] at z zn
        refine ⟨?_, z, zn⟩
        by_cases hab : a = b
        · subst hab
          have ed := rep_inj I e (n + 1) h h' hr hr'
          rw [ed, eqD_refl _ _ h']; exact EqAt.same _
        · exact EqAt.of_refs hab z
      · obtain ⟨a, vs, rfl, q1, q2⟩ := r
        obtain rfl : u = Value.ref a := q
        obtain ⟨us, v1, t1, _⟩ := I.tuple (Same.sqT e q1)
        obtain ⟨b, ws, rfl, q1', q2'⟩ := r'
        obtain rfl : u' = Value.ref b := q'
        obtain ⟨us', v1', t1', _⟩ := I.list (e.seq q1')
        have t1 : s.heap.IsTuple a us.toArray := t1
        rw [eqD_seqs.2.2.1]
        exact ⟨EqAt.tuple_list t1 t1'.isList hA, RcAt.tuple_list t1 t1'.isList hA, RcNeAt.tuple_list t1 t1'.isList hA⟩
    · obtain rfl : n = m := by omega
      rcases dat_cases h' with ⟨w', hw'⟩ | ⟨m', ys, hm', rfl, hy⟩ | ⟨m', ys, hm', rfl, hy⟩
      · obtain ⟨rfl, f1⟩ := rep_vOf hw' r'
        obtain ⟨b, items, rfl, hb⟩ := seq (m := n) (.inr rfl) r q
        obtain ⟨_, z2, _, z4, _, z6⟩ := eqAt_flatSeq f1 q' hA hb
        rw [(eqD_flatSeq hw').2.2.2]; exact ⟨z2, z4, z6⟩
      · obtain ⟨a, vs, rfl, q1, q2⟩ := r
        obtain rfl : u = Value.ref a := q
        obtain ⟨us, v1, t1, _⟩ := I.list (e.seq q1)
        obtain ⟨b, ws, rfl, q1', q2'⟩ := r'
        obtain rfl : u' = Value.ref b := q'
        obtain ⟨us', v1', t1', _⟩ := I.tuple (Same.sqT e q1')
        have t1' : s.heap.IsTuple b us'.toArray := t1'
        rw [eqD_seqs.2.2.2]
        exact ⟨EqAt.list_tuple t1.isList t1' hA, RcAt.list_tuple t1.isList t1' hA, RcNeAt.list_tuple t1.isList t1' hA⟩
      · obtain rfl : n = m' := by omega
        have hr := r; have hr' := r'
        obtain ⟨a, vs, rfl, q1, q2⟩ := r
        obtain rfl : u = Value.ref a := q
        obtain ⟨us, v1, t1, _⟩ := I.list (e.seq q1)
        obtain ⟨b, ws, rfl, q1', q2'⟩ := r'
        obtain rfl : u' = Value.ref b := q'
        obtain ⟨us', v1', t1', _⟩ := I.list (e.seq q1')
        have both : RcAt A s (.ref a) (.ref b) (eqD (.lst xs) (.lst ys)) /\ RcNeAt A s (.ref a) (.ref b) (!eqD (.lst xs) (.lst ys)) := by
          by_cases hl : us.toArray.size = us'.toArray.size
          · have z := RcAt.lists t1.isList t1'.isList hl hA (items_at ih' hx hy q2 v1 q2' v1')
            have zn := RcNeAt.lists t1.isList t1'.isList hl hA (items_at ih' hx hy q2 v1 q2' v1')
            have hz : (List.range us.toArray.size).all (fun j => eqD (xs.getD j .non) (ys.getD j .non)) = eqD (.lst xs) (.lst ys) := by
              have hl' : xs.length = ys.length := by rw [q2.length, q2'.length, v1.length, v1'.length]; simpa using hl
              rw [eqD_seqs.2.1, <- eqDs_range, hl', Nat.min_self, xal, <- v1.length, <- q2.length, hl']
              simp
            rw [hz] at z zn
            exact ⟨z, zn⟩
          · have z := RcAt.lists_lengths t1.isList t1'.isList (by simpa using hl) hA
            have zn := RcNeAt.lists_lengths t1.isList t1'.isList (by simpa using hl) hA
            have hz : eqD (.lst xs) (.lst ys) = false := by
              have hl' : ¬ xs.length = ys.length := by rw [q2.length, q2'.length, v1.length, v1'.length]; simpa using hl
              rw [eqD_seqs.2.1, <- eqDs_range]
              simp [hl']
            rw [hz]
            exact ⟨z, zn⟩
        refine ⟨?_, both⟩
        by_cases hab : a = b
        · subst hab
          have ed := rep_inj I e (n + 1) h h' hr hr'
          rw [ed, eqD_refl _ _ h']; exact EqAt.same _
        · exact EqAt.of_refs hab both.1
end
end DL
namespace DL
open L2 PyProof.Rows
def B (n : Nat) (i : Int) : Prop := i.natAbs < 2 ^ n
theorem B.of {n : Nat} {i : Int} {k : Nat} (h : i.natAbs <= k) (hk : k < 2 ^ n := by decide +kernel) : B n i := xci h hk
theorem B.log {n : Nat} {i : Int} (h : B n i) (hn : 0 < n) : i.natAbs.log2 < n := log2_lt_of hn h
def mulB (i : Int) : Bool := decide (i.natAbs.log2 < 60000000)
theorem mulB_of {n : Nat} {i : Int} (h : B n i) (hn : n <= 60000000 := by decide) : mulB i = true := by
  refine xah ?_
  cases n with
  | zero =>
    have : i.natAbs = 0 := by unfold B at h; omega
    rw [this]; decide
  | succ k => exact xak (h.log (Nat.succ_pos _)) hn
theorem mulB_ok {i j : Int} (a : mulB i = true) (b : mulB j = true) : IntMulOk i j := by
  have h1 : i.natAbs.log2 < 60000000 := xaj a
  have h2 : j.natAbs.log2 < 60000000 := xaj b
  have bits : ∀ k : Int, k.natAbs.log2 < 60000000 -> Builtin.Int.intBits k <= 60000000 := fun k h => by
    unfold Builtin.Int.intBits
    split
    · exact xcl _
    · omega
  have b1 := bits i h1
  have b2 := bits j h2
  unfold IntMulOk
  intro z
  simp only [xay, decide_eq_true_eq, Builtin.Int.intTooBig] at z
  have e := z.2
  have l : (bitsLine : Int) = 134217728 := by decide
  rw [l] at e
  omega
def divB (i : Int) : Bool := decide (i ≠ 0 /\ i.natAbs.log2 < 9000)
theorem divB_of {n : Nat} {i : Int} (h : B n i) (h0 : i ≠ 0) (hn : n <= 9000 := by decide) : divB i = true := by
  refine xah ⟨h0, ?_⟩
  cases n with
  | zero =>
    have : i.natAbs = 0 := by unfold B at h; omega
    omega
  | succ k => exact xak (h.log (Nat.succ_pos _)) hn
def powB (i j : Int) : Bool := decide (0 <= j /\ j <= 1000000 /\ i.natAbs < 2 ^ 64)
section
variable {X : Cx} {K : xFg} {mg : Str -> Option Value}
def gI (C : Int -> Int -> Bool) (h : Int -> Int -> Int) : D -> D -> R D
  | .int i, .int j => bif C i j then .ok (.int (h i j)) else .bad
  | _, _ => .bad
def gB (h : Int -> Int -> Bool) : D -> D -> R D
  | .int i, .int j => .ok (.bl (h i j))
  | _, _ => .bad
theorem nx_I {C : Int -> Int -> Bool} {h : Int -> Int -> Int} : NoErr (gI C h) := by
  intro a b e
  cases a <;> cases b <;> simp only [gI] <;> first | (intro z; cases z) | (intro z; revert z; cases C _ _ <;> simp [cond])
theorem nx_B {h : Int -> Int -> Bool} : NoErr (gB h) := by
  intro a b e
  cases a <;> cases b <;> simp only [gB] <;> (intro z; cases z)
theorem od_I {C : Int -> Int -> Bool} {C' : Int -> Int -> Prop} {h : Int -> Int -> Int} (hc : ∀ i j, C i j = true -> C' i j) : OpD K mg (rI C' fun i j => .int (h i j)) (gI C h) := by
  intro G H a b x y Q e ra rb q
  cases a with
  | int i => cases b with
    | int j =>
      cases ra; cases rb
      cases hC : C i j with
      | false => simp only [gI, hC, cond_false] at q; exact q.elim
      | true =>
        simp only [gI, hC, cond_true] at q
        exact ⟨i, j, rfl, rfl, hc i j hC, After.now q e rfl⟩
    | _ => exact (show False from q).elim
  | _ => exact (show False from q).elim
theorem od_B {h : Int -> Int -> Bool} : OpD K mg (rI0 fun i j => .bl (h i j)) (gB h) := by
  intro G H a b x y Q e ra rb q
  cases a with
  | int i => cases b with
    | int j => cases ra; cases rb; exact ⟨i, j, rfl, rfl, After.now q e rfl⟩
    | _ => exact (show False from q).elim
  | _ => exact (show False from q).elim
theorem op_mulD : OpR X (binaryOp .Mult) (rI (fun i j => mulB i = true /\ mulB j = true) fun i j => .int (i * j)) := opI fun _ _ _ _ _ _ _ hc q => mul_int q (mulB_ok hc.1 hc.2)
theorem op_fdivD : OpR X (binaryOp .FloorDiv) (rI (fun _ j => divB j = true) fun i j => .int (i.fdiv j)) := opI fun i j _ _ _ _ _ hc q => by
  have h := xaj (p := j ≠ 0 /\ j.natAbs.log2 < 9000) hc
  exact floordiv_int h.1 q (.inl (PyProof.noPylong_of_log2 h.2))
def rCatL (K : xFg) : R2 := fun x y H Q => ∃ l b xs zs, x = .ref l /\ y = .ref b /\ SqL K H l xs /\ SqL K H b zs /\ xs.length + zs.length <= sizeLine /\ ∀ p, H p = none -> Q (.ref p) (upd H p (.lst (xs ++ zs)))
theorem op_catL : OpR X (binaryOp .Add) (rCatL X.K) := by
  intro pins s O H x y v u Q I rx ry h
  obtain ⟨l, b, xs, zs, rfl, rfl, hH, hB, hz, q⟩ := h
  cases rx
  cases ry
  obtain ⟨its, r, pl, _⟩ := I.list hH
  obtain ⟨its2, r2, pl2, _⟩ := I.list hB
  obtain ⟨⟨cls, dd, data, sl⟩, ho, hc, n, hd⟩ := id pl.isList
  obtain ⟨⟨cls2, dd2, data2, sl2⟩, ho2, hc2, n2, hd2⟩ := id pl2.isList
  simp only at hc hd hc2 hd2
  subst hc hd hc2 hd2
  refine concat_meets ⟨_, ho, rfl⟩ ⟨_, ho2, rfl⟩ noFill_list_add seq_list_add PySem.F.slot_list_add PySem.F.entry_list_add (PySem.F.args_list_add_2 _ _) (list_addW l b its.toArray its2.toArray n n2 dd dd2 sl sl2 (by rw [xal, xal, <- r.length, <- r2.length]; exact hz)) ⟨ho, ho2, ?_⟩
  have ea : its.toArray ++ its2.toArray = (its ++ its2).toArray := by simp
  rw [ea]
  exact ⟨.ref _, _, I.lnew (t' := s.toks) (r.append r2) (by rw [xar]; exact hz), rfl, q _ I.fresh⟩
def le24 (n : Nat) : Bool := decide (n <= sizeLine)
def gAdd : D -> D -> R D
  | .int i, .int j => .ok (.int (i + j))
  | .str x, .str y => bif le24 (x.length + y.length) then .ok (.str (x ++ y)) else .bad
  | .lst xs, .lst ys => bif le24 (xs.length + ys.length) then .ok (.lst (xs ++ ys)) else .bad
  | .tup xs, .tup ys => bif le24 (xs.length + ys.length) && !xs.isEmpty then .ok (.tup (xs ++ ys)) else .bad
  | _, _ => .bad
theorem nx_add : NoErr gAdd := by
  intro a b e
  cases a <;> cases b <;> simp only [gAdd] <;> first | (intro z; cases z; done) | (generalize le24 _ = k; cases k <;> simp [cond] <;> (try (generalize List.isEmpty _ = k2; cases k2 <;> simp)))
abbrev rAddD (K : xFg) : R2 := fun x y H Q => rI0 (fun i j => .int (i + j)) x y H Q \/ ((∃ i j, x = .str i /\ y = .str j /\ i.length + j.length <= sizeLine /\ Q (.str (i ++ j)) H) \/ (rCatL K x y H Q \/ rCatT K x y H Q))
theorem od_add : OpD K mg (rAddD K) gAdd := by
  intro G H a b x y Q e ra rb q
  cases a with
  | int i => cases b with
    | int j => cases ra; cases rb; exact .inl ⟨i, j, rfl, rfl, After.now q e rfl⟩
    | _ => exact (show False from q).elim
  | str i => cases b with
    | str j =>
      cases ra; cases rb
      cases hC : le24 (i.length + j.length) with
      | false => simp only [gAdd, hC, cond_false] at q; exact q.elim
      | true =>
        simp only [gAdd, hC, cond_true] at q
        exact .inr (.inl ⟨i, j, rfl, rfl, xaj hC, After.now q e rfl⟩)
    | _ => exact (show False from q).elim
  | lst xs => cases b with
    | lst ys =>
      obtain ⟨p, vs, rfl, h1, h2⟩ := ra
      obtain ⟨p', ws, rfl, h1', h2'⟩ := rb
      cases hC : le24 (xs.length + ys.length) with
      | false => simp only [gAdd, hC, cond_false] at q; exact q.elim
      | true =>
        simp only [gAdd, hC, cond_true] at q
        refine .inr (.inr (.inl ⟨p, p', vs, ws, rfl, rfl, e.seq h1, e.seq h1', by rw [<- h2.length, <- h2'.length]; exact xaj hC, fun l hl => ?_⟩))
        have s := Step.pub (o := .lst (vs ++ ws)) e hl
        exact (show After K mg Q G H (.lst (xs ++ ys)) from q) _ _ _ s ⟨l, _, rfl, SqL.of upd_same, (h2.append h2').mono s.g⟩
    | _ => exact (show False from q).elim
  | tup xs => cases b with
    | tup ys =>
      obtain ⟨p, vs, rfl, h1, h2⟩ := ra
      obtain ⟨p', ws, rfl, h1', h2'⟩ := rb
      cases hC : (le24 (xs.length + ys.length) && !xs.isEmpty) with
      | false => simp only [gAdd, hC, cond_false] at q; exact q.elim
      | true =>
        simp only [gAdd, hC, cond_true] at q
        rw [xay] at hC
        have q' : After K mg Q G H (.tup (xs ++ ys)) := q
        refine .inr (.inr (.inr ⟨p, p', vs, ws, rfl, rfl, Same.sqT e h1, Same.sqT e h1', fun z => ?_, by rw [<- h2.length, <- h2'.length]; exact xaj hC.1, fun z => ?_, fun z l hl => ?_⟩))
        · subst z
          have := h2.length
          have hx : xs = [] := List.length_eq_zero_iff.mp this
          subst hx; simp at hC
        · subst z
          have := h2'.length
          have hy : ys = [] := List.length_eq_zero_iff.mp this
          subst hy
          rw [xbo] at q'
          exact q'.now e ⟨p, vs, rfl, h1, h2⟩
        · have s := Step.pub (o := .tup (vs ++ ws)) e hl
          exact q' _ _ _ s ⟨l, _, rfl, SqT.of upd_same, (h2.append h2').mono s.g⟩
    | _ => exact (show False from q).elim
  | _ => exact (show False from q).elim
abbrev gSub : D -> D -> R D := gI (fun _ _ => true) fun i j => i - j
abbrev gMul : D -> D -> R D := gI (fun i j => mulB i && mulB j) fun i j => i * j
abbrev gFdiv : D -> D -> R D := gI (fun _ j => divB j) fun i j => i.fdiv j
abbrev gMod : D -> D -> R D := gI (fun _ j => decide (j ≠ 0)) fun i j => i.fmod j
abbrev gPow : D -> D -> R D := gI powB fun i j => i ^ j.toNat
abbrev gShr : D -> D -> R D := gI (fun _ j => decide (0 <= j)) fun i j => i / 2 ^ j.toNat
variable {E : XK} {a b c : Expr} {fa fb fc : DSt -> R D} {pos : Pos}
theorem de_add (ha : DE X E a fa) (hb : DE X E b fb) : DE X E (.BinOp a .Add b pos) (eOp gAdd fa fb) := de_op (op_add.or (op_add_str.or (op_catL.or op_catT))) od_add nx_add ha hb
theorem de_sub (ha : DE X E a fa) (hb : DE X E b fb) : DE X E (.BinOp a .Sub b pos) (eOp gSub fa fb) :=
  de_op (r := rI (fun _ _ => True) fun i j => .int (i - j)) (opI fun _ _ _ _ _ _ _ _ q => sub_int q) (od_I fun _ _ _ => trivial) nx_I ha hb
theorem de_mul (ha : DE X E a fa) (hb : DE X E b fb) : DE X E (.BinOp a .Mult b pos) (eOp gMul fa fb) := de_op op_mulD (od_I fun i j h => by simpa using h) nx_I ha hb
theorem de_fdiv (ha : DE X E a fa) (hb : DE X E b fb) : DE X E (.BinOp a .FloorDiv b pos) (eOp gFdiv fa fb) := de_op op_fdivD (od_I fun i j h => h) nx_I ha hb
theorem de_mod (ha : DE X E a fa) (hb : DE X E b fb) : DE X E (.BinOp a .Mod b pos) (eOp gMod fa fb) := de_op op_modN (od_I fun i j h => xaj h) nx_I ha hb
theorem de_pow (ha : DE X E a fa) (hb : DE X E b fb) : DE X E (.BinOp a .Pow b pos) (eOp gPow fa fb) := de_op op_pow (od_I fun i j h => xaj (p := 0 <= j /\ j <= 1000000 /\ i.natAbs < 2 ^ 64) h) nx_I ha hb
def gNeg : D -> R D
  | .int i => .ok (.int (-i))
  | _ => .bad
theorem de_neg (ha : DE X E a fa) : DE X E (.UnaryOp .USub a pos) (eUn gNeg fa) := by
  refine de_un un_neg (fun G H d x Q e r q => ?_) (fun d e => ?_) ha
  · cases d with
    | int i => cases r; exact ⟨i, rfl, After.now q e rfl⟩
    | _ => exact (show False from q).elim
  · cases d <;> simp [gNeg]
structure CmpF (X : Cx) (op : CmpOp) (g : D -> D -> R D) : Prop where
  ex : ∃ r, OpR X (compareOp op) r /\ OpD X.K X.mg r g /\ NoErr g
abbrev gLt : D -> D -> R D := gB fun i j => decide (i < j)
abbrev gLe : D -> D -> R D := gB fun i j => decide (i <= j)
abbrev gGt : D -> D -> R D := gB fun i j => decide (j < i)
abbrev gGe : D -> D -> R D := gB fun i j => decide (j <= i)
theorem cf_lt : CmpF X .Lt gLt := ⟨_, op_lt, od_B, nx_B⟩
theorem cf_le : CmpF X .LtE gLe := ⟨_, op_le, od_B, nx_B⟩
theorem cf_gt : CmpF X .Gt gGt := ⟨_, op_gt, od_B, nx_B⟩
theorem cf_ge : CmpF X .GtE gGe := ⟨_, op_ge, od_B, nx_B⟩
def cmp2 (a b : D) : Bool := datN 9 a && datN 9 b
def gEq (a b : D) : R D := bif cmp2 a b then .ok (.bl (eqD a b)) else .bad
def gNe (a b : D) : R D := bif cmp2 a b then .ok (.bl (!eqD a b)) else .bad
def rEqD (K : xFg) (mg : Str -> Option Value) (neg : Bool) : R2 := fun x y H Q => ∃ G d d', Same G H /\ Rep K mg G d x /\ Rep K mg G d' y /\ cmp2 d d' = true /\ Q (.bl (bif neg then !eqD d d' else eqD d d')) H
theorem op_eqD {k : Nat} (r : Room k X.A) : OpR X (compareOp .Eq) (rEqD X.K X.mg false) := by
  intro pins s O H x y v u Q I rx ry h
  obtain ⟨G, d, d', e, r1, r2, c, q⟩ := h
  unfold cmp2 at c
  rw [xay] at c
  have hu : X.A.units + 9 < cLine := by have := r.un; omega
  exact (eqAt_D I e 9 hu c.1 c.2 r1 rx r2 ry).2.1 _ _ _ _ ⟨.bl _, H, I, rfl, q⟩
theorem op_neD {k : Nat} (r : Room k X.A) : OpR X (compareOp .NotEq) (rEqD X.K X.mg true) := by
  intro pins s O H x y v u Q I rx ry h
  obtain ⟨G, d, d', e, r1, r2, c, q⟩ := h
  unfold cmp2 at c
  rw [xay] at c
  have hu : X.A.units + 9 < cLine := by have := r.un; omega
  exact (eqAt_D I e 9 hu c.1 c.2 r1 rx r2 ry).2.2 _ _ _ _ ⟨.bl _, H, I, rfl, q⟩
theorem cf_eq {k : Nat} (C : XC X E k) : CmpF X .Eq gEq := ⟨_, op_eqD C.room, fun G H a b x y Q e ra rb q => by
  unfold gEq at q
  cases hc : cmp2 a b with
  | false => rw [hc] at q; exact q.elim
  | true => rw [hc] at q; exact ⟨G, a, b, e, ra, rb, hc, After.now q e rfl⟩, fun a b e => by unfold gEq; cases cmp2 a b <;> simp [cond]⟩
theorem cf_ne {k : Nat} (C : XC X E k) : CmpF X .NotEq gNe := ⟨_, op_neD C.room, fun G H a b x y Q e ra rb q => by
  unfold gNe at q
  cases hc : cmp2 a b with
  | false => rw [hc] at q; exact q.elim
  | true => rw [hc] at q; exact ⟨G, a, b, e, ra, rb, hc, After.now q e rfl⟩, fun a b e => by unfold gNe; cases cmp2 a b <;> simp [cond]⟩
def isNon : D -> Bool
  | .non => true
  | _ => false
def gIs : D -> D -> R D
  | d, .non => .ok (.bl (isNon d))
  | .bl a, .bl b => .ok (.bl (a == b))
  | _, _ => .bad
def gIsn : D -> D -> R D
  | d, .non => .ok (.bl (!isNon d))
  | .bl a, .bl b => .ok (.bl (a != b))
  | _, _ => .bad
theorem rep_isNon {G : Hp} {d : D} {x : V} (r : Rep K mg G d x) : decide (x = .non) = isNon d := by
  have nr : ∀ a : Addr, decide (V.ref a = V.non) = false := fun a => by simp
  cases d with
  | non => cases r; rfl
  | bl b => cases r; rfl
  | int i => cases r; rfl
  | str y => cases r; rfl
  | ty n => cases r; rfl
  | cls c => obtain ⟨C, rfl, _⟩ := r; exact nr _
  | tup xs => obtain ⟨a, vs, rfl, _⟩ := r; exact nr _
  | lst xs => obtain ⟨a, vs, rfl, _⟩ := r; exact nr _
  | dct ks xs => obtain ⟨a, vs, rfl, _⟩ := r; exact nr _
  | exc c as => obtain ⟨a, C, dct, vs, rfl, _⟩ := r; exact nr _
theorem cf_is : CmpF X .Is gIs := ⟨_, op_isN.or op_is_bl, fun G H a b x y Q e ra rb q => by
  cases b with
  | non => cases rb; exact .inl ⟨rfl, by rw [rep_isNon ra]; cases a <;> exact After.now q e rfl⟩
  | bl k => cases a with
    | bl k' => cases ra; cases rb; exact .inr ⟨k', k, rfl, rfl, After.now q e rfl⟩
    | _ => exact (show False from q).elim
  | _ => cases a <;> exact (show False from q).elim, fun a b e => by cases a <;> cases b <;> simp [gIs]⟩
theorem cf_isn : CmpF X .IsNot gIsn := ⟨_, op_notN.or op_isnot_bl, fun G H a b x y Q e ra rb q => by
  cases b with
  | non => cases rb; exact .inl ⟨rfl, by rw [rep_isNon ra]; cases a <;> exact After.now q e rfl⟩
  | bl k => cases a with
    | bl k' => cases ra; cases rb; exact .inr ⟨k', k, rfl, rfl, After.now q e rfl⟩
    | _ => exact (show False from q).elim
  | _ => cases a <;> exact (show False from q).elim, fun a b e => by cases a <;> cases b <;> simp [gIsn]⟩
theorem de_cmp1 {op : CmpOp} {g : D -> D -> R D} (cf : CmpF X op g) (ha : DE X E a fa) (hb : DE X E b fb) (hm : behindInMarks op b = false := by first | exact nobehind _ (by decide) (by decide) | rfl) : DE X E (.Compare a [op] [b] pos) (eOp g fa fb) := by
  obtain ⟨r, h1, h2, h3⟩ := cf.ex
  exact de_cmp h1 h2 h3 ha hb hm
theorem dt_cmp1 {op : CmpOp} {g : D -> D -> R D} (cf : CmpF X op g) (ha : DE X E a fa) (hb : DE X E b fb) (hm : behindInMarks op b = false := by first | exact nobehind _ (by decide) (by decide) | rfl) : DT X E (.Compare a [op] [b] pos) (eTest (eOp g fa fb)) := by
  obtain ⟨r, h1, h2, h3⟩ := cf.ex
  exact dt_cmp h1 h2 h3 ha hb hm
theorem dt_chain2 {op op' : CmpOp} {g g' : D -> D -> R D} (cf : CmpF X op g) (cf' : CmpF X op' g') (ha : DE X E a fa) (hb : DE X E b fb) (hc : DE X E c fc) (hm : lastMarks [op, op'] [b, c] = false := by with_unfolding_all rfl) : DT X E (.Compare a [op, op'] [b, c] pos) (eTest (eChain g g' fa fb fc)) := by
  obtain ⟨r, h1, h2, h3⟩ := cf.ex
  obtain ⟨r', h1', h2', h3'⟩ := cf'.ex
  exact dt_chain h1 h2 h3 h1' h2' h3' ha hb hc hm
end
end DL
namespace DL
open L2 PyProof.Rows
section
variable {X : Cx} {E : XK} {K : xFg} {mg : Str -> Option Value} {G H : Hp}
theorem boot_all : bootBuiltins "all" = some (.builtin "all") := by rfl
theorem boot_isi : bootBuiltins "isinstance" = some (.builtin "isinstance") := by rfl
theorem bt_int : bootBuiltins "int" = some (.type "int") := by rfl
theorem bt_bool : bootBuiltins "bool" = some (.type "bool") := by rfl
theorem bt_str : bootBuiltins "str" = some (.type "str") := by rfl
theorem bt_tuple : bootBuiltins "tuple" = some (.type "tuple") := by rfl
theorem bt_ValueError : bootBuiltins "ValueError" = some (.type "ValueError") := by rfl
theorem Reps.one {d : D} {vs : List V} (h : Reps K mg G [d] vs) : ∃ v, vs = [v] /\ Rep K mg G d v := by
  obtain ⟨v, r, rfl, h2, h3⟩ := h
  cases h3
  exact ⟨v, rfl, h2⟩
theorem Reps.two {d d' : D} {vs : List V} (h : Reps K mg G [d, d'] vs) : ∃ v w, vs = [v, w] /\ Rep K mg G d v /\ Rep K mg G d' w := by
  obtain ⟨v, r, rfl, h2, h3⟩ := h
  obtain ⟨w, rfl, h4⟩ := h3.one
  exact ⟨v, w, rfl, h2, h4⟩
def g1 {α : Type} (g : D -> R α) : List D -> R α
  | [d] => g d
  | _ => .bad
def g2 {α : Type} (g : D -> D -> R α) : List D -> R α
  | [d, e] => g d e
  | _ => .bad
theorem cd1 {r : List V -> Hp -> VK -> Prop} {g : D -> R D} (h : ∀ (G H : Hp) (d : D) (v : V) (Q : VK), Same G H -> Rep K mg G d v -> RW (g d) (After K mg Q G H) (fun _ => False) -> r [v] H Q) : CallD K mg r (g1 g) := by
  intro G H ds vs Q e rp q
  match ds, rp, q with
  | [], rp, q => exact (show False from q).elim
  | [d], rp, q => obtain ⟨v, rfl, h1⟩ := rp.one; exact h G H d v Q e h1 q
  | _ :: _ :: _, rp, q => exact (show False from q).elim
theorem cd2 {r : List V -> Hp -> VK -> Prop} {g : D -> D -> R D} (h : ∀ (G H : Hp) (d d' : D) (v v' : V) (Q : VK), Same G H -> Rep K mg G d v -> Rep K mg G d' v' -> RW (g d d') (After K mg Q G H) (fun _ => False) -> r [v, v'] H Q) : CallD K mg r (g2 g) := by
  intro G H ds vs Q e rp q
  match ds, rp, q with
  | [], rp, q => exact (show False from q).elim
  | [d], rp, q => exact (show False from q).elim
  | [d, d'], rp, q => obtain ⟨v, w, rfl, h1, h2⟩ := rp.two; exact h G H d d' v w Q e h1 h2 q
  | _ :: _ :: _ :: _, rp, q => exact (show False from q).elim
variable {x : Str} {p pos : Pos} {e : Expr} {es : List Expr} {fs : DSt -> R (List D)}
def len1 : D -> R D
  | .lst xs => .ok (.int xs.length)
  | .tup xs => .ok (.int xs.length)
  | .str y => bif le24 y.length then .ok (.int y.length) else .bad
  | _ => .bad
abbrev gLen := g1 len1
theorem cd_len : CallD K mg (fun xs H Q => (∃ p ys, xs = [.ref p] /\ (SqL K H p ys \/ SqT K H p ys) /\ Q (.int ys.length) H) \/ (∃ z, xs = [.str z] /\ z.length <= sizeLine /\ Q (.int z.length) H)) gLen := cd1 fun G H d v Q e r q => by
  cases d with
  | lst xs =>
    obtain ⟨a, vs, rfl, h1, h2⟩ := r
    exact .inl ⟨a, vs, rfl, .inl (e.seq h1), by rw [<- h2.length]; exact After.now q e rfl⟩
  | tup xs =>
    obtain ⟨a, vs, rfl, h1, h2⟩ := r
    exact .inl ⟨a, vs, rfl, .inr (Same.sqT e h1), by rw [<- h2.length]; exact After.now q e rfl⟩
  | str y =>
    cases r
    cases hC : le24 y.length with
    | false => simp only [len1, hC, cond_false] at q; exact q.elim
    | true => simp only [len1, hC, cond_true] at q; exact .inr ⟨y, rfl, xaj hC, After.now q e rfl⟩
  | _ => exact (show False from q).elim
theorem de_len (hm : X.mg "len" = none) (ha : DA X E (e :: es) fs) (hg : Gl X "len" := by rfl) (he : starEach (e :: es) X.env = (false, eval e X.env) :: starEach es X.env := by rfl) (hpl : (backTo pos (starEach es X.env)).any (·.1) = false := by rfl) : DE X E (.Call (.Name "len" p) (e :: es) [] pos) (eBlt gLen fs) :=
  de_blt (call_len_seq.or call_len_str) cd_len hm PySem.boot_len ha hg (by decide) (by decide) he hpl
def abs1 : D -> R D
  | .int i => .ok (.int (i.natAbs : Int))
  | _ => .bad
abbrev gAbs := g1 abs1
def min2 : D -> D -> R D
  | .int i, .int j => .ok (.int (min i j))
  | _, _ => .bad
def max2 : D -> D -> R D
  | .int i, .int j => .ok (.int (max i j))
  | _, _ => .bad
abbrev gMin := g2 min2
abbrev gMax := g2 max2
theorem cd_max : CallD K mg (fun xs H Q => ∃ i j, xs = [.int i, .int j] /\ Q (.int (if j > i then j else i)) H) gMax := cd2 fun G H d d' v v' Q e r r' q => by
  cases d with
  | int i => cases d' with
    | int j =>
      cases r; cases r'
      have ea : (if j > i then j else i) = max i j := by split <;> omega
      exact ⟨i, j, rfl, by rw [ea]; exact After.now q e rfl⟩
    | _ => exact (show False from q).elim
  | _ => exact (show False from q).elim
theorem de_max (hc : X.calm = true) (hm : X.mg "max" = none) (ha : DA X E (e :: es) fs) (hg : Gl X "max" := by rfl) (he : starEach (e :: es) X.env = (false, eval e X.env) :: starEach es X.env := by rfl) (hpl : (backTo pos (starEach es X.env)).any (·.1) = false := by rfl) : DE X E (.Call (.Name "max" p) (e :: es) [] pos) (eBlt gMax fs) :=
  de_blt (call_max2 hc) cd_max hm PyProof.Rows.boot_max ha hg (by decide) (by decide) he hpl
def intsOf : List D -> Option (List Int)
  | [] => some []
  | .int i :: r => (intsOf r).map (i :: ·)
  | _ => none
def blsOf : List D -> Option (List Bool)
  | [] => some []
  | .bl b :: r => (blsOf r).map (b :: ·)
  | _ => none
theorem blsOf_is : ∀ {ds : List D} {bs : List Bool}, blsOf ds = some bs -> ds = bs.map D.bl
  | [], ns, h => by simp only [blsOf, Option.some.injEq] at h; subst h; rfl
  | .bl i :: r, ns, h => by
    simp only [blsOf, Option.map_eq_some_iff] at h
    obtain ⟨ms, h1, rfl⟩ := h
    rw [blsOf_is h1]; rfl
theorem blsOf_map : ∀ bs : List Bool, blsOf (bs.map D.bl) = some bs
  | [] => rfl
  | n :: r => by rw [xbe]; unfold blsOf; rw [blsOf_map r]; rfl
def sum1 : D -> R D
  | .lst xs => match intsOf xs with
    | some ns => .ok (.int ns.sum)
    | none => .bad
  | _ => .bad
def all1 : D -> R D
  | .lst xs => match blsOf xs with
    | some bs => .ok (.bl (bs.all id))
    | none => .bad
  | _ => .bad
abbrev gAll := g1 all1
theorem cd_all : CallD K mg (fun xs H Q => ∃ (p : Addr) (bs : List Bool), xs = [.ref p] /\ SqL K H p (bs.map V.bl) /\ Q (.bl (bs.all id)) H) gAll := cd1 fun G H d v Q e r q => by
  cases d with
  | lst xs =>
    obtain ⟨a, vs, rfl, h1, h2⟩ := r
    cases hn : blsOf xs with
    | none => simp only [all1, hn] at q; exact q.elim
    | some ns =>
      simp only [all1, hn] at q
      rw [blsOf_is hn] at h2
      rw [Reps.of_bools h2] at h1
      exact ⟨a, ns, rfl, e.seq h1, After.now q e rfl⟩
  | _ => exact (show False from q).elim
theorem de_all (hc : X.calm = true) (hm : X.mg "all" = none) (ha : DA X E (e :: es) fs) (hg : Gl X "all" := by rfl) (he : starEach (e :: es) X.env = (false, eval e X.env) :: starEach es X.env := by rfl) (hpl : (backTo pos (starEach es X.env)).any (·.1) = false := by rfl) : DE X E (.Call (.Name "all" p) (e :: es) [] pos) (eBlt gAll fs) :=
  de_blt (call_all hc) cd_all hm boot_all ha hg (by decide) (by decide) he hpl
def int1 : D -> R D
  | .int i => .ok (.int i)
  | .bl b => .ok (.int (if b then 1 else 0))
  | _ => .bad
abbrev gInt := g1 int1
theorem cd_int : CallD K mg (fun xs H Q => (∃ i, xs = [.int i] /\ Q (.int i) H) \/ ∃ k, xs = [.bl k] /\ Q (.int (if k then 1 else 0)) H) gInt := cd1 fun G H d v Q e r q => by
  cases d with
  | int i => cases r; exact .inl ⟨i, rfl, After.now q e rfl⟩
  | bl b => cases r; exact .inr ⟨b, rfl, After.now q e rfl⟩
  | _ => exact (show False from q).elim
theorem de_intc (hm : X.mg "int" = none) (ha : DA X E (e :: es) fs) (hg : Gl X "int" := by rfl) (he : starEach (e :: es) X.env = (false, eval e X.env) :: starEach es X.env := by rfl) (hpl : (backTo pos (starEach es X.env)).any (·.1) = false := by rfl) : DE X E (.Call (.Name "int" p) (e :: es) [] pos) (eBlt gInt fs) :=
  de_bty call_int1 cd_int hm ha bt_int hg (by decide) (by decide) he hpl
def eBltF (g : List D -> R (List D)) (fs : DSt -> R (List D)) : DSt -> R (List D) := fun O => (fs O).bind fun ds => (g ds).noerr
def tyName : D -> Option String
  | .non => some "NoneType"
  | .bl _ => some "bool"
  | .int _ => some "int"
  | .str _ => some "str"
  | .tup _ => some "tuple"
  | .lst _ => some "list"
  | .dct _ _ => some "dict"
  | _ => none
def tyOk (T : String) : Bool := ["int", "bool", "str", "tuple", "list", "dict"].contains T
def subT (t T : String) : Bool := t == T || (t == "bool" && T == "int")
theorem kit_ty (t T : String) (ht : ["NoneType", "bool", "int", "str", "tuple", "list", "dict"].contains t = true) (hT : tyOk T = true) : PySem.W.kitOne K (.type t) (.type T) = some (subT t T) := by
  simp only [List.contains_eq_mem, xam, xa1, or_false, decide_eq_true_eq] at ht
  simp only [tyOk, List.contains_eq_mem, xam, xa1, or_false, decide_eq_true_eq] at hT
  rcases ht with rfl | rfl | rfl | rfl | rfl | rfl | rfl <;> rcases hT with rfl | rfl | rfl | rfl | rfl | rfl <;> rfl
end
end DL
namespace DL
open L2 PyProof.Rows
section
variable {X : Cx} {E : XK} {K : xFg} {mg : Str -> Option Value} {G H : Hp}
variable {x : Str} {p pos : Pos} {e : Expr} {es : List Expr} {fs : DSt -> R (List D)}
def rIsi (K : xFg) (mg : Str -> Option Value) : List V -> Hp -> VK -> Prop := fun xs H Q => ∃ G d T v b, xs = [v, .ty T] /\ Same G H /\ Rep K mg G d v /\ (∃ t, tyName d = some t /\ tyOk T = true /\ b = subT t T) /\ Q (.bl b) H
theorem call_isiD : CallR X (.builtin "isinstance") (rIsi X.K X.mg) := by
  intro pins s O H xs us Q I r h
  obtain ⟨G, d, T, v, b, rfl, e, rp, ⟨t, ht, hT, rfl⟩, q⟩ := h
  obtain ⟨u, w', rfl, ru, rw'⟩ := vals2 r
  cases (show w' = Value.type T from rw')
  have fin : ∀ tk, EP X pins O Q (.bool (subT t T)) { s with toks := tk } := fun tk => ⟨.bl _, H, I.tok tk, rfl, q⟩
  cases d with
  | non => cases ht; cases rp; cases (show u = Value.none from ru); exact PySem.W.kia_one PySem.W.kitx_none I.kIn True.intro (kit_ty _ _ rfl hT) (fun z => nomatch z) fin
  | bl y => cases ht; cases rp; cases (show u = Value.bool y from ru); exact PySem.W.kia_one PySem.W.kitx_bool I.kIn True.intro (kit_ty _ _ rfl hT) (fun z => nomatch z) fin
  | int i => cases ht; cases rp; obtain ⟨tk, rfl⟩ := (show ∃ tk, u = Value.int i tk from ru); exact PySem.W.kia_one PySem.W.kitx_int I.kIn True.intro (kit_ty _ _ rfl hT) (fun z => nomatch z) fin
  | str y => cases ht; cases rp; obtain ⟨tk, rfl⟩ := (show ∃ tk, u = Value.str y tk from ru); exact PySem.W.kia_one PySem.W.kitx_str I.kIn True.intro (kit_ty _ _ rfl hT) (fun z => nomatch z) fin
  | tup ds =>
    cases ht
    obtain ⟨a, vs, rfl, h1, h2⟩ := rp
    cases (show u = Value.ref a from ru)
    obtain ⟨_, _, ⟨o, h3, h4, _⟩, _⟩ := I.tuple (Same.sqT e h1)
    exact PySem.W.kia_one PySem.W.kitx_tuple I.kIn ⟨o, h3, h4⟩ (kit_ty _ _ rfl hT) (fun z => nomatch z) fin
  | lst ds =>
    cases ht
    obtain ⟨a, vs, rfl, h1, h2⟩ := rp
    cases (show u = Value.ref a from ru)
    obtain ⟨_, _, ⟨o, n, h3, h4, _⟩, _⟩ := I.list (e.seq h1)
    exact PySem.W.kia_one PySem.W.kitx_list I.kIn ⟨o, h3, h4⟩ (kit_ty _ _ rfl hT) (fun z => nomatch z) fin
  | dct ks ds =>
    cases ht
    obtain ⟨a, vs, rfl, h1, _⟩ := rp
    cases (show u = Value.ref a from ru)
    obtain ⟨_, _, _, _, p⟩ := (show ObjOk X.prog X.w H s.heap a (.dK (ks.zip vs)) from (Same.rd e h1).ok I.hok)
    obtain ⟨o, es, ep, h3, h4, _⟩ := p
    exact PySem.W.kia_one PySem.W.kitx_dict I.kIn ⟨o, h3, h4.1⟩ (kit_ty _ _ rfl hT) (fun z => nomatch z) fin
  | _ => cases ht
abbrev rIsiX (K : xFg) : List V -> Hp -> VK -> Prop := fun xs H Q => ∃ (a C : Addr) (c : V) (cv : Value) (b : Bool), xs = [.ref a, c] /\ H a = some (excO a C none) /\ ((∃ D, c = .ref D /\ cv = .ref D) \/ ∃ T, c = .ty T /\ cv = .type T) /\ ExcC K C /\ PySem.W.kitOne K (.ref C) cv = some b /\ Q (.bl b) H
def isi3 : D -> D -> R D
  | d, .ty T => match tyName d with
    | some t => bif tyOk T then .ok (.bl (subT t T)) else .bad
    | none => match d with
      | .exc _ [] => bif T == "ValueError" then .ok (.bl true) else .bad
      | _ => .bad
  | .exc c [], .cls d => match subX c d with
    | some b => .ok (.bl b)
    | none => .bad
  | _, _ => .bad
theorem cd_isi : CallD K mg (fun xs H Q => rIsi K mg xs H Q \/ rIsiX K xs H Q) (g2 isi3) := cd2 fun G H d d' v v' Q e r r' q => by
  have exc : ∀ {c as}, d = .exc c as -> as = [] -> ∃ a C, v = .ref a /\ H a = some (excO a C none) /\ XcOk K mg c C := fun {c as} hd ha => by
    subst hd; subst ha
    obtain ⟨a, C, dct, vs, rfl, h2, h3, h4, h5⟩ := r
    cases h5
    rcases h4 with ⟨rfl, _⟩ | ⟨dx, w, _, z, _⟩
    · exact ⟨a, C, rfl, e _ _ h2, h3⟩
    · cases z
  cases d' with
  | ty T =>
    cases r'
    cases ht : tyName d with
    | some t =>
      cases hT : tyOk T with
      | false => simp only [isi3, ht, hT, cond_false] at q; exact q.elim
      | true => simp only [isi3, ht, hT, cond_true] at q; exact .inl ⟨G, d, T, v, _, rfl, e, r, ⟨t, ht, hT, rfl⟩, After.now q e rfl⟩
    | none =>
      cases d with
      | exc c as =>
        cases as with
        | nil =>
          cases hT : T == "ValueError" with
          | false => simp only [isi3, ht, hT, cond_false] at q; exact q.elim
          | true =>
            simp only [isi3, ht, hT, cond_true] at q
            obtain ⟨a, C, rfl, h1, h2⟩ := exc rfl rfl
            have := eq_of_beq hT
            subst this
            exact .inr ⟨a, C, _, _, true, rfl, h1, .inr ⟨_, rfl, rfl⟩, h2.exc, h2.val, After.now q e rfl⟩
        | cons b bs => simp only [isi3, ht] at q; exact q.elim
      | _ => simp only [isi3, ht] at q; exact q.elim
  | cls c' =>
    cases d with
    | exc c as =>
      cases as with
      | nil =>
        obtain ⟨Dd, rfl, hD⟩ := r'
        cases hs : subX c c' with
        | none => simp only [isi3, hs] at q; exact q.elim
        | some b =>
          simp only [isi3, hs] at q
          obtain ⟨a, C, rfl, h1, h2⟩ := exc rfl rfl
          exact .inr ⟨a, C, _, _, b, rfl, h1, .inl ⟨Dd, rfl, rfl⟩, h2.exc, h2.isi c' Dd b hs hD, After.now q e rfl⟩
      | cons b bs => exact (show False from q).elim
    | _ => exact (show False from q).elim
  | _ => cases d <;> first | exact (show False from q).elim | (rename_i as; cases as <;> exact (show False from q).elim)
theorem de_isi (hm : X.mg "isinstance" = none) (ha : DA X E (e :: es) fs) (hg : Gl X "isinstance" := by rfl) (he : starEach (e :: es) X.env = (false, eval e X.env) :: starEach es X.env := by rfl) (hpl : (backTo pos (starEach es X.env)).any (·.1) = false := by rfl) : DE X E (.Call (.Name "isinstance" p) (e :: es) [] pos) (eBlt (g2 isi3) fs) :=
  de_blt (call_isiD.or call_isiX) cd_isi hm boot_isi ha hg (by decide) (by decide) he hpl
def tO (K : xFg) (mg : Str -> Option Value) (E : XK) (f : DSt -> R (Option Int)) : TO := fun O H Q => ∃ G Od, Ok0 K mg Od O G H /\ RW (f Od) (fun o => ∀ G' H', Step G H G' H' -> Q o H') (AfterX K mg E G H)
def DO (X : Cx) (E : XK) (e : Option Expr) (f : DSt -> R (Option Int)) : Prop := PO X e (tO X.K X.mg E f)
def oNone : DSt -> R (Option Int) := fun _ => .ok none
def asI : D -> R (Option Int)
  | .int i => .ok (some i)
  | _ => .bad
def oSome (f : DSt -> R D) : DSt -> R (Option Int) := fun O => (f O).bind asI
theorem PO.mono' {e : Option Expr} {t t' : TO} (h : PO X e t) (m : ∀ O H Q, t' O H Q -> t O H Q) : PO X e t' := fun pins s O H Q I q => h pins s O H Q I (m O H Q q)
theorem do_none : DO X E none oNone := PO.mono' po_none fun O H Q ⟨G, Od, ok, q⟩ => (show ∀ G' H', Step G H G' H' -> Q none H' from q) G H (.refl ok.ext)
theorem do_some {f : DSt -> R D} (h : DE X E e f) : DO X E (some e) (oSome f) := PO.mono' (po_some h) fun O H Q ⟨G, Od, ok, q⟩ => ⟨G, Od, ok, q.of_bind.mono (fun d _ z v G' H' s r => by
  cases d with
  | int i => cases r; exact ⟨i, rfl, (show ∀ G' H', Step G H G' H' -> Q (some i) H' from z) G' H' s⟩
  | _ => exact (show False from z).elim) fun _ z => z⟩
def cutD {α : Type} (xs : List α) (lo hi : Option Int) : List α := (xs.drop (HT.sIx xs.length 0 lo)).take (HT.sIx xs.length xs.length hi - HT.sIx xs.length 0 lo)
def isWhole {α : Type} (xs : List α) (lo hi : Option Int) : Bool := decide (HT.sIx xs.length 0 lo = 0 /\ HT.sIx xs.length xs.length hi = xs.length)
def gSl : D -> Option Int -> Option Int -> R D
  | .lst xs, lo, hi => .ok (.lst (cutD xs lo hi))
  | .tup xs, lo, hi => bif isWhole xs lo hi then .bad else .ok (.tup (cutD xs lo hi))
  | _, _, _ => .bad
def eSl (fe : DSt -> R D) (fl fh : DSt -> R (Option Int)) : DSt -> R D := fun O => (fe O).bind fun d => (fl O).bind fun lo => (fh O).bind fun hi => gSl d lo hi
theorem Reps.cut {ds : List D} {vs : List V} (h : Reps K mg G ds vs) (lo hi : Option Int) : Reps K mg G (cutD ds lo hi) (cutV vs lo hi) := by
  unfold cutD cutV
  rw [h.length]
  exact (h.drop _).take _
theorem de_sl {fe : DSt -> R D} {lo hi : Option Expr} {fl fh : DSt -> R (Option Int)} {p2 : Pos} (he : DE X E e fe) (hl : DO X E lo fl) (hh : DO X E hi fh) : DE X E (.Subscript e (.Slice lo hi none p2) pos) (eSl fe fl fh) := by
  refine PE.mono' (pe_slice (sl_list.or sl_tup) he hl hh) fun O H Q ⟨G, Od, ok, q⟩ => ?_
  refine tE_then (P := After X.K X.mg Q) ok q fun d v G1 H1 s1 ok1 r1 q1 => ?_
  refine ⟨G1, Od, ok1, q1.of_bind.mono (fun l _ q2 G2 H2 s2 => ?_) fun _ z => z⟩
  refine ⟨G2, Od, ok1.step s2, q2.of_bind.mono (fun u _ q3 G3 H3 s3 => ?_) fun _ z => z.step s2⟩
  have s := (s1.trans s2).trans s3
  have r3 := r1.mono (s2.g.trans s3.g)
  cases d with
  | lst xs =>
    obtain ⟨a, vs, rfl, h1, h2⟩ := r3
    refine .inl ⟨a, vs, rfl, s3.e.seq h1, fun pp hp => ?_⟩
    have sp := Step.pub (o := .lst (cutV vs l u)) s3.e hp
    exact (show After X.K X.mg Q G H (.lst (cutD xs l u)) from q3) _ _ _ (s.trans sp) ⟨pp, _, rfl, SqL.of upd_same, (h2.cut l u).mono sp.g⟩
  | tup xs =>
    obtain ⟨a, vs, rfl, h1, h2⟩ := r3
    cases hw : isWhole xs l u with
    | true => simp only [gSl, hw, cond_true] at q3; exact q3.elim
    | false =>
      simp only [gSl, hw, cond_false] at q3
      refine .inr ⟨a, vs, rfl, Same.sqT s3.e h1, by rw [<- h2.length]; exact of_decide_eq_false hw, fun pp hp => ?_⟩
      have sp := Step.pub (o := .tup (cutV vs l u)) s3.e hp
      exact (show After X.K X.mg Q G H (.tup (cutD xs l u)) from q3) _ _ _ (s.trans sp) ⟨pp, _, rfl, SqT.of upd_same, (h2.cut l u).mono sp.g⟩
  | _ => exact (show False from q3).elim
end
def sRaise (c : Str) (fs : DSt -> R (List D)) : DSt -> R Out := fun O => (fs O).bind fun ds => bif few ds.length then .err (.exc c []) else .bad
section
variable {P : Program} {w : World} {K : xFg} {mg : Str -> Option Value} {base : Heap} {N : List Str} {qual : Str} {scope : Scope} {f : Addr} {cdv : Value} {A : Around} {outer : List Env} {s0 : Shared} {H0 : Hp} {E : XK} {own own' ol : List Nat}
theorem ds_raise {x : Str} {C : Addr} {e0 : Expr} {rest : List Expr} {np cpos pos : Pos} {fs : DSt -> R (List D)} (q : PySem.W.excIn K C [.type "ValueError", .type "Exception", .type "BaseException", .type "object"] "ValueError.__new__" = true) (hx : XcOk K mg x C)
    (ha : DA (cxOf (CXe P w) P w K mg base N qual scope f cdv A outer s0 H0 E) E (e0 :: rest) fs) (hg : Gl (cxOf (CXe P w) P w K mg base N qual scope f cdv A outer s0 H0 E) x := by rfl)
    (hdb : (x == ("__debug__" : Str)) = false := by decide)
    (he : starEach (e0 :: rest) (envOfC qual scope s0.heap.objs.size f cdv) = (false, eval e0 (envOfC qual scope s0.heap.objs.size f cdv)) :: starEach rest (envOfC qual scope s0.heap.objs.size f cdv) := by rfl)
    (hpl : (backTo cpos (starEach rest (envOfC qual scope s0.heap.objs.size f cdv))).any (·.1) = false := by rfl) :
    DS (cxOf (CXe P w) P w K mg base N qual scope f cdv A outer s0 H0 E) E own own' ol (.Raise (some (.Call (.Name x np) (e0 :: rest) [] cpos)) none pos) (sRaise x fs) := fun G0 =>
  PS.mono' (ps_raise q hg hx.here ha hdb he hpl) fun Dn O H ⟨G, Od, ok, s1, z⟩ => by
  have sp := ok.pubStep s1
  refine ⟨_, Od, ok.pub.1, z.of_bind.mono (fun ds _ z vs G' H' s r => ?_) fun _ z => z.step sp⟩
  cases hf : few ds.length with
  | false => rw [hf] at z; exact (show False from z).elim
  | true =>
    rw [hf] at z
    refine ⟨by rw [<- r.length]; exact few_le hf, ?_⟩
    exact (show AfterX K mg E G0 H0 (.exc x []) from z) G' H' C none (sp.trans s) ⟨x, [], [], rfl, hx, .inl ⟨rfl, rfl⟩, Reps.nil⟩
end
def sRaise1 (c : Str) : DSt -> R Out := fun _ => .err (.exc c [])
theorem ds_raise1 {P : Program} {w : World} {K : xFg} {mg : Str -> Option Value} {base : Heap} {N : List Str} {qual : Str} {scope : Scope} {f : Addr} {cdv : Value} {A : Around} {outer : List Env} {s0 : Shared} {H0 : Hp} {E : XK} {own own' ol : List Nat} {x t : Str} {C : Addr} {np cpos pos tp : Pos} {j} (q : PySem.W.excIn K C [.type "ValueError", .type "Exception", .type "BaseException", .type "object"] "ValueError.__new__" = true) (hx : XcOk K mg x C)
    (hg : Gl (cxOf (CXe P w) P w K mg base N qual scope f cdv A outer s0 H0 E) x := by rfl) (hdb : (x == ("__debug__" : Str)) = false := by decide) :
    DS (cxOf (CXe P w) P w K mg base N qual scope f cdv A outer s0 H0 E) E own own' ol (.Raise (some (.Call (.Name x np) [.Constant (.str t) j tp] [] cpos)) none pos) (sRaise1 x) :=
  ds_raise (fs := aCons (eC (.str t)) aNil) q hx (da_cons de_str da_nil) hg hdb
section
variable (K : xFg) (mg : Str -> Option Value)
def tSX (G0 H0 : Hp) (f : DSt -> R Out) : TSX := fun Dn E O H => ∃ G Od, Ok0 K mg Od O G H /\ Step G0 H0 G H /\ RW (f Od) (OutW K mg G0 H0 [] [] Dn G) (AfterX K mg E G H)
end
def DSX (X : Cx) (st : Stmt) (f : DSt -> R Out) : Prop := ∀ G0, PSX X (CXe X.prog X.w) st (tSX X.K X.mg G0 X.H₀ f)
def DSXs (X : Cx) (st : List Stmt) (f : DSt -> R Out) : Prop := ∀ G0, PSXs X (CXe X.prog X.w) st (tSX X.K X.mg G0 X.H₀ f)
theorem PSX.mono' {X : Cx} {CX : CXT} {st : Stmt} {t t' : TSX} (h : PSX X CX st t) (m : ∀ D E O H, t' D E O H -> t D E O H) : PSX X CX st t' := fun pins s O H D E I q => h pins s O H D E I (m D E O H q)
section
variable {X : Cx} {ol : List Nat} {k : Nat} {x y : Str} {m : List D -> R D} {p pos cpos npos : Pos} {e : Expr} {es : List Expr} {fs : DSt -> R (List D)} {f g : DSt -> R Out}
theorem dsxs_one {st : Stmt} (h : DSX X st f) : DSXs X [st] f := fun G0 => psxs_one (h G0)
def xCallD (m : List D -> R D) (fs : DSt -> R (List D)) : DSt -> R D := fun O => (fs O).noerr.bind m
theorem xCall_of {G0 G H : Hp} {Od : DSt} {O : L2.St} {Q : VK} {E : XK} {S : D -> R Out} {PO : Out -> Prop} (ok : Ok0 X.K X.mg Od O G H) (q : RW ((xCallD m fs Od).bind S) PO (AfterX X.K X.mg E G H))
    (h : ∀ d v G' H', Step G H G' H' -> Rep X.K X.mg G' d v -> RW (S d) PO (AfterX X.K X.mg E G H) -> Q v H') : xCall (spD X.K X.mg m) [] (tAr X.K X.mg E0 fs) O H Q E := by
  obtain ⟨ds, e1, q⟩ := noerr_ok q.of_bind.of_bind
  refine ⟨G, Od, ok, RW.ok_of e1 fun vs G' H' s r => ?_⟩
  show spD X.K X.mg m (vs ++ []) H' _ E
  rw [xbo]
  exact ⟨G', ds, s.e, r, q.mono (fun d _ z v G2 H2 s2 r2 => h d v G2 H2 (s.trans s2) r2 z) fun _ z => z.step s⟩
theorem dsx_call (hr : Room k X.A) (F : FnAt X.prog X.w X.K X.mg X.base k x m) (ha : DA X.nox E0 (e :: es) fs) (hg : Gl X x := by rfl) (hdb : (x == ("__debug__" : Str)) = false := by decide)
    (he : starEach (e :: es) X.env = (false, eval e X.env) :: starEach es X.env := by rfl) (hpl : (backTo cpos (starEach es X.env)).any (·.1) = false := by rfl) (hs : swapsWith (.Call (.Name x p) (e :: es) [] cpos) none pos.line X.env = pure false := by rfl) :
    DSX X (.Expr (.Call (.Name x p) (e :: es) [] cpos) pos) (sExpr (xCallD m fs)) := fun G0 => by
  obtain ⟨fa, fd, ps, h1, h2, h3, h4⟩ := F.ex
  refine PSX.mono' (psx_expr (pex_call (dvs := []) (ds := []) h1 hr hg h2 h3 h4 .nil ha hdb he hpl) hs) fun Dn E O H ⟨G, Od, ok, s0, q⟩ => ?_
  exact xCall_of (G0 := G0) ok q fun d v G' H' s r z => (show OutW X.K X.mg G0 X.H₀ [] [] Dn G (.nx Od) from z) O G' H' (.zero (ok.step s)) (s0.trans s) s.g
def sTry (i : Nat) (c : Str) (body hnd : DSt -> R Out) : DSt -> R Out := fun O => match body O with
  | .ok o => .ok o
  | .err (.exc cc as) => bif subX cc c == some true then (hnd (O.set i (some (.exc cc as)))).noerr.bind fun o => match o with
      | .nx O' => .ok (.nx (O'.set i none))
      | _ => .bad
    else .bad
  | _ => .bad
theorem Ok.unset {K : xFg} {mg : Str -> Option Value} {H0 G H : Hp} {Od : DSt} {O : L2.St} {i : Nat} {own : List Nat} (o : Ok K mg H0 own Od O G H) (hi : i ∉ own) : Ok K mg H0 own (Od.set i none) (O.set i none) G H := by
  have back : ∀ {j : Nat} {d : D}, (Od.set i none)[j]? = some (some d) -> j ≠ i /\ Od[j]? = some (some d) := fun {j d} q => by
    by_cases hj : j = i
    · subst hj
      have hl : j < Od.length := by have := (xae.mp q).1; simpa using this
      rw [xaz hl] at q; cases q
    · rw [xaf (xa3 hj)] at q; exact ⟨hj, q⟩
  refine ⟨o.ext, by simp [o.len], fun j d hj q => ?_, fun j d hj q => ?_, fun j l a d1 d2 h1 h2 h3 h4 h5 h6 => ?_⟩
  · obtain ⟨hj', q'⟩ := back q
    rw [xaf (xa3 hj')]; exact o.val j d hj q'
  · obtain ⟨hj', q'⟩ := back q
    rw [xaf (xa3 hj')]; exact o.mine j d hj q'
  · obtain ⟨hj', q3⟩ := back h3
    obtain ⟨hl', q4⟩ := back h4
    rw [xaf (xa3 hj')] at h5
    rw [xaf (xa3 hl')] at h6
    exact o.dj j l a d1 d2 h1 h2 q3 q4 h5 h6
theorem ds_try (i : Nat) {E : XK} {body : List Stmt} {c n : Str} {np hpos : Pos} {b0 : Stmt} {suite : List Stmt} {Dc : Addr} (hst : X.stack = X.env :: X.outer) (hf : X.env.frame = some X.env.locals) (hN : X.N.Nodup)
    (hm : X.mg c = some (.ref Dc)) (hb : DSXs X body f) (hh : ∀ x, DSs (hdl X x) E0 [] [] [] (b0 :: suite) g) (hi : X.N[i]? = some n := by rfl) (hn : X.env.scope.names.lookup n = some .local := by rfl) (hg : Gl X c := by rfl)
    (hdb : (c == ("__debug__" : Str)) = false := by decide) : DS X E [] [] [] (.Try body [.ExceptHandler (some (.Name c np)) (some n) (b0 :: suite) hpos] [] [] pos) (sTry i c f g) := fun G0 =>
  PS.mono' (ps_try (th := tS X.K X.mg E0 G0 X.H₀ [] [] [] g) hst hf hN hi hn hg hm (hb G0) (fun x => hh x G0) hdb) fun Dn O H ⟨G, Od, ok, s0, q⟩ => by
  have ok0 : Ok0 X.K X.mg Od O G H := by have := ok.masked; rw [mask_nil] at this; exact this
  unfold sTry at q
  cases hbd : f Od with
  | bad => rw [hbd] at q; exact (show False from q).elim
  | ok o =>
    rw [hbd] at q
    exact ⟨fun _ _ _ => False, ⟨G, Od, ok0, s0, RW.ok_of hbd q⟩, fun C dct H' x z => z.elim⟩
  | err ex =>
    rw [hbd] at q
    cases ex with
    | exc cc as =>
      cases hsub : (subX cc c == some true) with
      | false => simp only [hsub, cond_false] at q; exact q.elim
      | true =>
        simp only [hsub, cond_true] at q
        obtain ⟨o, ho1, q⟩ := noerr_ok q.of_bind
        refine ⟨fun cv dct H' => ∃ C G', cv = .ref C /\ Step G H G' H' /\ ExcR X.K X.mg G' (.exc cc as) C dct, ⟨G, Od, ok0, s0, ?_⟩, ?_⟩
        · rw [hbd]
          exact fun G' H' C dct s r => ⟨C, G', rfl, s, r⟩
        · rintro C dct H' x ⟨C', G', e1, s', hr⟩ nx
          cases e1
          obtain ⟨c2, as2, vs, e2, hxc, hd, hrs⟩ := hr
          cases e2
          refine ⟨hxc.ctc c Dc (eq_of_beq hsub) hm, ?_⟩
          have sp := Step.pub (o := excO x C dct) s'.e nx
          have st := s'.trans sp
          refine ⟨_, Od.set i (some (.exc cc as)), .zero ((ok0.step st).set ⟨x, C, dct, vs, rfl, upd_same, hxc, hd.mono sp.g, hrs.mono sp.g⟩), s0.trans st, RW.ok_of ho1 ?_⟩
          cases o with
          | nx O1 =>
            have q' : OutW X.K X.mg G0 X.H₀ [] [] Dn G (.nx (O1.set i none)) := q
            exact fun O2 G2 H2 ok2 s2 e2 => q' _ G2 H2 (ok2.unset (by simp)) s2 (st.g.trans e2)
          | _ => exact (show False from q).elim
    | _ => exact (show False from q).elim
end
end DL
namespace DL
open L2 PyProof.Rows
theorem fnM_go {n nN : Nat} {b : DSt -> R Out} {ds : List D} {O : DSt} (hl : ds.length = n) (hs : startD nN ds = O) : fnM n nN b ds = fin (b O) := by
  subst hl; subst hs; unfold fnM; rw [beq_self_eq_true]; rfl
theorem XC.nox {X : Cx} {E : XK} {k : Nat} (C : XC X E k) : XC X.nox E0 k := ⟨C.calm, C.room, passN⟩
theorem de_k {X : Cx} {E : XK} {x : Str} {d : D} {pos : Pos} (h : ∃ u v, X.mg x = some u /\ RelV v u /\ ∀ G, Rep X.K X.mg G d v) (hg : Gl X x := by rfl) (hd : (x == ("__debug__" : Str)) = false := by decide) : DE X E (.Name x pos) (eC d) := by
  obtain ⟨u, v, h1, h2, h3⟩ := h
  exact de_glob h1 h2 h3 hg hd
section
variable {K : xFg} {mg : Str -> Option Value}
def subB (c d : Str) : Bool := c == d || d == "ChalkError"
def XcRow (K : xFg) (mg : Str -> Option Value) (C : Addr) (d : Str) (b : Bool) : Prop :=
  (∀ D, mg d = some (.ref D) -> PySem.W.kitOne K (.ref C) (.ref D) = some b) /\ (b = true -> ∀ D, mg d = some (.ref D) -> PySem.W.exmOne K (.ref C) (.ref D) = some true)
theorem XcOk.mk' {c : Str} {C : Addr} (here : mg c = some (.ref C)) (exc : ExcC K C) (val : PySem.W.kitOne K (.ref C) (.type "ValueError") = some true) (rows : ∀ d ∈ clsNames, XcRow K mg C d (subB c d)) : XcOk K mg c C := by
  have sub : ∀ d b, subX c d = some b -> d ∈ clsNames /\ b = subB c d := fun d b h => by
    unfold subX at h
    cases hc : (clsNames.contains c && clsNames.contains d) with
    | false => rw [hc] at h; cases h
    | true =>
      rw [hc] at h
      have h' : some (c == d || d == "ChalkError") = some b := h
      rw [xay] at hc
      exact ⟨by simpa using hc.2, by cases h'; rfl⟩
  refine ⟨here, exc, fun d Dd b h hd => ?_, val, fun d Dd h hd => ?_⟩
  · obtain ⟨h1, rfl⟩ := sub d b h
    exact (rows d h1).1 Dd hd
  · obtain ⟨h1, h2⟩ := sub d true h
    exact (rows d h1).2 h2.symm Dd hd
theorem XcRow.of {C D0 : Addr} {d : Str} {b : Bool} (h : mg d = some (.ref D0)) (t : PySem.W.kitOne K (.ref C) (.ref D0) = some b) (u : b = true -> PySem.W.exmOne K (.ref C) (.ref D0) = some true) : XcRow K mg C d b :=
  ⟨fun D hD => by rw [h] at hD; cases hD; exact t, fun hb D hD => by rw [h] at hD; cases hD; exact u hb⟩
theorem XcRow.no {C : Addr} {d : Str} {b : Bool} (h : mg d = none) : XcRow K mg C d b := ⟨fun D hD => (by rw [h] at hD; cases hD), fun _ D hD => (by rw [h] at hD; cases hD)⟩
end
section
variable {P : Program} {w : World} {K : xFg} {mg : Str -> Option Value} {base : Heap}
theorem fnOk_mk {x qual : Str} {st : Stmt} {f : Addr} {fd : FuncData} {N ps : List Str} {k n nN : Nat} {own' : List Nat} {body : DSt -> R Out} (F : Fun K x qual st f fd) (S : FnScope N ps (defScope st))
    (hn : ps.length = n) (hN : N.length = nN)
    (hb : ∀ (X : Cx) (E : XK), (∃ cdv A outer s H, X = cxOf (CXe P w) P w K mg base N qual (defScope st) f cdv A outer s H E) -> XC X E k -> XL X -> DSs X E [] own' [] (defBody st) body) : FnOk P w K mg base (CXe P w) (k + 1) f fd ps (spD K mg (fnM n nN body)) := by
  refine F.okX S (fun vs H Q E h => ?_) (fun cdv A outer s H vs Q E hr hsp => ?_)
  · obtain ⟨G, ds, e, r, q⟩ := h
    by_cases hd : ds.length = n
    · rw [<- r.length, hd, hn]
    · have : (ds.length == n) = false := by simpa using hd
      unfold fnM at q
      rw [this] at q
      exact (show False from q).elim
  · obtain ⟨G, ds, e, r, q⟩ := hsp
    have hd : ds.length = n := by
      by_cases hd : ds.length = n
      · exact hd
      · have : (ds.length == n) = false := by simpa using hd
        unfold fnM at q
        rw [this] at q
        exact (show False from q).elim
    unfold fnM at q
    rw [show (ds.length == n) = true by simpa using hd] at q
    have q' : RW (fin (body (startD nN ds))) (After K mg Q G H) (AfterX K mg E G H) := q
    refine ⟨_, hb _ E ⟨cdv, A, outer, s, H, rfl⟩ ⟨rfl, hr, passE⟩ ⟨PassesOwn.leaving⟩ G, G, startD nN ds, ?_, .refl e, ?_⟩
    · have := Reps.startOk e (N.length - vs.length) r
      unfold L2.start startD
      rw [<- hN, r.length]
      exact .zero this
    · cases hbd : body (startD nN ds) with
      | bad => rw [hbd] at q'; exact q'
      | err e => rw [hbd] at q'; exact q'
      | ok o =>
        rw [hbd] at q'
        cases o with
        | rt d => exact fun v G' H' s r => (show After K mg Q G H d from q') v G' H' s r
        | rf es =>
          intro a vs G' H' s n e g r
          have q2 : After K mg Q G H (.lst es) := q'
          have sg : Same G' (upd G' a (.lst vs)) := same_upd g
          refine q2 (.ref a) (upd G' a (.lst vs)) H' ⟨s.g.trans sg, s.h, fun b u p => ?_, fun b u p1 p2 => ?_⟩ ⟨a, vs, rfl, SqL.of upd_same, r.mono sg⟩
          · by_cases hb : b = a
            · subst hb; rw [upd_same] at p; cases p; exact e
            · rw [upd_ne hb] at p; exact s.e b u p
          · have hb : b ≠ a := ne_of_none p1 n
            rw [upd_ne hb]; exact s.c b u p1 p2
        | nx O => exact fun O' G' H' ok s _ => (show After K mg Q G H .non from q') .non G' H' s rfl
        | bk O => exact (show False from q').elim
        | ct O => exact (show False from q').elim
def spLaw (K : xFg) : Sp := fun vs H Q _ => ∃ (a : Addr) (ns : List Int), vs = [.ref a] /\ SqL K H a (ns.map V.int) /\ ns.length <= 63 /\ ∀ H', Q (.bl true) H'
theorem law_of {k : Nat} {f : Addr} {fd : FuncData} {m : List D -> R D} (F : FnOk P w K mg base (CXe P w) k f fd ["_law_script"] (spD K mg m)) (hm : ∀ ns : List Int, ns.length <= 63 -> m [.lst (ns.map .int)] = .ok (.bl true)) :
    FnOk P w K mg base (CXe P w) k f fd ["_law_script"] (spLaw K) := F.imp fun vs H Q E h => by
  obtain ⟨a, ns, rfl, hS, hl, q⟩ := h
  refine ⟨H, [.lst (ns.map .int)], Same.refl _, Reps.cons ⟨a, _, rfl, hS, Reps.ints ns⟩ Reps.nil, RW.ok_of (hm ns hl) fun v G' H' s r => ?_⟩
  cases r; exact q H'
end
theorem walkD {l : PySem.W.OpenLaw} {q : Program} {loose : List Str} {XP : (Str -> Option Value) -> Heap -> Prop} {YP : World -> Heap -> Prop} {d : DefRec} {K : Params -> xFg} (k : Nat) (hr : Room k callerA) (hn : l.most = some 63) (hdf : d.params.defaults = [])
    (hY : ∀ (w : World) (h : Heap), YP w h -> (K w.params).In h)
    (F : ∀ (w : World) (mg : Str -> Option Value) (fa : Addr) (h : Heap), (K w.params).In h -> h.Ns mainGlobals mg -> mg d.name = some (.ref fa) ->
      ∃ fd : FuncData, (∀ (s : Shared) (u : Value), BindsTo s fd ⟨[u], []⟩ [("_law_script", u)]) /\ ∀ base : Heap, (K w.params).In base -> base.Ns mainGlobals mg -> FnOk l.prog w (K w.params) mg base (CXe l.prog w) k fa fd ["_law_script"] (spLaw (K w.params))) :
    PySem.W.WalkO q loose XP YP l.row.toRowW d [] (fun f vs => PySem.call f vs) :=
  L2.walk_of (n := 63) (k := k) (x := "_law_script") (CX := fun w => CXe l.prog w) (sp := fun w => spLaw (K w.params)) hn (by decide) hdf hr hY F (fun _ _ a ns hl _ hS => ⟨a, ns, rfl, hS, hl, fun _ => rfl⟩) fun w H s e s' z => by
    obtain ⟨_, _, _, _, _, _, _, _, _, _, _, _, _, z⟩ := z
    exact z.elim
end DL
namespace DL
open L2
def seqK (r : R Out) (g : DSt -> R Out) : R Out := r.bind fun o => match o with
  | .nx O' => g O'
  | o => .ok o
theorem sSeq_def (f g : DSt -> R Out) (O : DSt) : sSeq f g O = seqK (f O) g := rfl
theorem seqK_nx (O : DSt) (g : DSt -> R Out) : seqK (.ok (.nx O)) g = g O := rfl
theorem seqK_rt (d : D) (g : DSt -> R Out) : seqK (.ok (.rt d)) g = .ok (.rt d) := rfl
theorem seqK_bk (O : DSt) (g : DSt -> R Out) : seqK (.ok (.bk O)) g = .ok (.bk O) := rfl
theorem seqK_ct (O : DSt) (g : DSt -> R Out) : seqK (.ok (.ct O)) g = .ok (.ct O) := rfl
theorem seqK_err (e : D) (g : DSt -> R Out) : seqK (.err e) g = .err e := rfl
theorem sNext_def (O : DSt) : sNext O = .ok (.nx O) := rfl
theorem eVar_zero (d : D) (O : DSt) : eVar 0 (some d :: O) = .ok d := rfl
theorem eVar_succ (n : Nat) (x : Option D) (O : DSt) : eVar (n + 1) (x :: O) = eVar n O := rfl
theorem eC_def (d : D) (O : DSt) : eC d O = .ok d := rfl
def opK (g : D -> D -> R D) (a b : R D) : R D := a.bind fun x => b.bind fun y => g x y
theorem eOp_def (g : D -> D -> R D) (fa fb : DSt -> R D) (O : DSt) : eOp g fa fb O = opK g (fa O) (fb O) := rfl
theorem opK_ok (g : D -> D -> R D) (x y : D) : opK g (.ok x) (.ok y) = g x y := rfl
def unK (g : D -> R D) (a : R D) : R D := a.bind g
theorem eUn_def (g : D -> R D) (fa : DSt -> R D) (O : DSt) : eUn g fa O = unK g (fa O) := rfl
theorem unK_ok (g : D -> R D) (x : D) : unK g (.ok x) = g x := rfl
def callK (m : List D -> R D) (a : R (List D)) : R D := a.bind m
theorem eCall_def (m : List D -> R D) (fs : DSt -> R (List D)) (O : DSt) : eCall m fs O = callK m (fs O) := rfl
theorem callK_ok (m : List D -> R D) (ds : List D) : callK m (.ok ds) = m ds := rfl
theorem callK_err (m : List D -> R D) (e : D) : callK m (.err e) = .err e := rfl
def xcallK (m : List D -> R D) (a : R (List D)) : R D := a.noerr.bind m
theorem xCallD_def (m : List D -> R D) (fs : DSt -> R (List D)) (O : DSt) : xCallD m fs O = xcallK m (fs O) := rfl
theorem xcallK_ok (m : List D -> R D) (ds : List D) : xcallK m (.ok ds) = m ds := rfl
def bltK (g : List D -> R D) (a : R (List D)) : R D := a.bind fun ds => (g ds).noerr
theorem eBlt_def (g : List D -> R D) (fs : DSt -> R (List D)) (O : DSt) : eBlt g fs O = bltK g (fs O) := rfl
theorem bltK_ok (g : List D -> R D) (ds : List D) : bltK g (.ok ds) = (g ds).noerr := rfl
def bltFK (g : List D -> R (List D)) (a : R (List D)) : R (List D) := a.bind fun ds => (g ds).noerr
theorem eBltF_def (g : List D -> R (List D)) (fs : DSt -> R (List D)) (O : DSt) : eBltF g fs O = bltFK g (fs O) := rfl
theorem bltFK_ok (g : List D -> R (List D)) (ds : List D) : bltFK g (.ok ds) = (g ds).noerr := rfl
theorem noerr_okk {α : Type} (a : α) : (R.ok a).noerr = .ok a := rfl
theorem aNil_def (O : DSt) : aNil O = .ok [] := rfl
def consK (a : R D) (b : R (List D)) : R (List D) := a.bind fun x => b.bind fun xs => .ok (x :: xs)
theorem aCons_def (fa : DSt -> R D) (fs : DSt -> R (List D)) (O : DSt) : aCons fa fs O = consK (fa O) (fs O) := rfl
theorem consK_ok (x : D) (xs : List D) : consK (.ok x) (.ok xs) = .ok (x :: xs) := rfl
theorem consK_err (e : D) (b : R (List D)) : consK (.err e) b = .err e := rfl
def tupK (a : R (List D)) : R D := a.bind fun ds => bif few ds.length then .ok (.tup ds) else .bad
theorem eTup_def (fs : DSt -> R (List D)) (O : DSt) : eTup fs O = tupK (fs O) := rfl
theorem tupK_0 : tupK (.ok []) = .ok (.tup []) := rfl
theorem tupK_1 (a : D) : tupK (.ok [a]) = .ok (.tup [a]) := rfl
theorem tupK_2 (a b : D) : tupK (.ok [a, b]) = .ok (.tup [a, b]) := rfl
theorem tupK_3 (a b c : D) : tupK (.ok [a, b, c]) = .ok (.tup [a, b, c]) := rfl
theorem tupK_4 (a b c d : D) : tupK (.ok [a, b, c, d]) = .ok (.tup [a, b, c, d]) := rfl
theorem tupK_5 (a b c d e : D) : tupK (.ok [a, b, c, d, e]) = .ok (.tup [a, b, c, d, e]) := rfl
theorem tupK_6 (a b c d e f : D) : tupK (.ok [a, b, c, d, e, f]) = .ok (.tup [a, b, c, d, e, f]) := rfl
theorem tupK_9 (a b c d e f g h i : D) : tupK (.ok [a, b, c, d, e, f, g, h, i]) = .ok (.tup [a, b, c, d, e, f, g, h, i]) := rfl
def lstK (a : R (List D)) : R (List D) := a.bind fun ds => bif few ds.length then .ok ds else .bad
theorem eLst_def (fs : DSt -> R (List D)) (O : DSt) : eLst fs O = lstK (fs O) := rfl
theorem lstK_0 : lstK (.ok []) = .ok [] := rfl
theorem lstK_1 (a : D) : lstK (.ok [a]) = .ok [a] := rfl
theorem lstK_2 (a b : D) : lstK (.ok [a, b]) = .ok [a, b] := rfl
theorem lstK_3 (a b c : D) : lstK (.ok [a, b, c]) = .ok [a, b, c] := rfl
theorem lstK_4 (a b c d : D) : lstK (.ok [a, b, c, d]) = .ok [a, b, c, d] := rfl
theorem lstK_5 (a b c d e : D) : lstK (.ok [a, b, c, d, e]) = .ok [a, b, c, d, e] := rfl
theorem lstK_6 (a b c d e f : D) : lstK (.ok [a, b, c, d, e, f]) = .ok [a, b, c, d, e, f] := rfl
def vlstK (a : R (List D)) : R D := a.bind fun ds => .ok (.lst ds)
theorem vLst_def (fl : DSt -> R (List D)) (O : DSt) : vLst fl O = vlstK (fl O) := rfl
theorem vlstK_ok (ds : List D) : vlstK (.ok ds) = .ok (.lst ds) := rfl
def testK (a : R D) : R Bool := a.bind asB
theorem eTest_def (f : DSt -> R D) (O : DSt) : eTest f O = testK (f O) := rfl
theorem testK_bl (b : Bool) : testK (.ok (.bl b)) = .ok b := rfl
def andK (a : R Bool) (fb : DSt -> R Bool) (O : DSt) : R Bool := a.bind fun k => bif k then fb O else .ok false
theorem eAnd_def (fa fb : DSt -> R Bool) (O : DSt) : eAnd fa fb O = andK (fa O) fb O := rfl
theorem andK_t (fb : DSt -> R Bool) (O : DSt) : andK (.ok true) fb O = fb O := rfl
theorem andK_f (fb : DSt -> R Bool) (O : DSt) : andK (.ok false) fb O = .ok false := rfl
def orK (a : R Bool) (fb : DSt -> R Bool) (O : DSt) : R Bool := a.bind fun k => bif k then .ok true else fb O
theorem eOr_def (fa fb : DSt -> R Bool) (O : DSt) : eOr fa fb O = orK (fa O) fb O := rfl
theorem orK_t (fb : DSt -> R Bool) (O : DSt) : orK (.ok true) fb O = .ok true := rfl
theorem orK_f (fb : DSt -> R Bool) (O : DSt) : orK (.ok false) fb O = fb O := rfl
def notK (a : R Bool) : R Bool := a.bind fun k => .ok (!k)
theorem eNot_def (fa : DSt -> R Bool) (O : DSt) : eNot fa O = notK (fa O) := rfl
theorem notK_ok (b : Bool) : notK (.ok b) = .ok (!b) := rfl
def vandK (a : R D) (fb : DSt -> R D) (O : DSt) : R D := a.bind fun x => (asB x).bind fun k => bif k then fb O else .ok (.bl false)
theorem vAnd_def (fa fb : DSt -> R D) (O : DSt) : vAnd fa fb O = vandK (fa O) fb O := rfl
theorem vandK_t (fb : DSt -> R D) (O : DSt) : vandK (.ok (.bl true)) fb O = fb O := rfl
theorem vandK_f (fb : DSt -> R D) (O : DSt) : vandK (.ok (.bl false)) fb O = .ok (.bl false) := rfl
def vorK (a : R D) (fb : DSt -> R D) (O : DSt) : R D := a.bind fun x => (asB x).bind fun k => bif k then .ok (.bl true) else fb O
theorem vOr_def (fa fb : DSt -> R D) (O : DSt) : vOr fa fb O = vorK (fa O) fb O := rfl
theorem vorK_t (fb : DSt -> R D) (O : DSt) : vorK (.ok (.bl true)) fb O = .ok (.bl true) := rfl
theorem vorK_f (fb : DSt -> R D) (O : DSt) : vorK (.ok (.bl false)) fb O = fb O := rfl
def vnotK (a : R D) : R D := a.bind fun x => (asB x).bind fun k => .ok (.bl !k)
theorem vNot_def (fa : DSt -> R D) (O : DSt) : vNot fa O = vnotK (fa O) := rfl
theorem vnotK_ok (b : Bool) : vnotK (.ok (.bl b)) = .ok (.bl !b) := rfl
def eifK (c : R Bool) (fa fb : DSt -> R D) (O : DSt) : R D := c.bind fun k => bif k then fa O else fb O
theorem eIf_def (c : DSt -> R Bool) (fa fb : DSt -> R D) (O : DSt) : eIf c fa fb O = eifK (c O) fa fb O := rfl
theorem eifK_t (fa fb : DSt -> R D) (O : DSt) : eifK (.ok true) fa fb O = fa O := rfl
theorem eifK_f (fa fb : DSt -> R D) (O : DSt) : eifK (.ok false) fa fb O = fb O := rfl
def ifK (c : R Bool) (f g : DSt -> R Out) (O : DSt) : R Out := c.bind fun k => bif k then f O else g O
theorem sIf_def (c : DSt -> R Bool) (f g : DSt -> R Out) (O : DSt) : sIf c f g O = ifK (c O) f g O := rfl
theorem ifK_t (f g : DSt -> R Out) (O : DSt) : ifK (.ok true) f g O = f O := rfl
theorem ifK_f (f g : DSt -> R Out) (O : DSt) : ifK (.ok false) f g O = g O := rfl
def chainS (g g' : D -> D -> R D) (a b c : R D) : R D := a.bind fun x => b.bind fun y => (g x y).bind fun z => (asB z).bind fun k => bif k then c.bind fun w => g' y w else .ok (.bl false)
theorem eChain_def (g g' : D -> D -> R D) (fa fb fc : DSt -> R D) (O : DSt) : eChain g g' fa fb fc O = chainS g g' (fa O) (fb O) (fc O) := rfl
theorem chain_ints (p q : Int -> Int -> Bool) (i j k : Int) : chainS (gB p) (gB q) (.ok (.int i)) (.ok (.int j)) (.ok (.int k)) = .ok (.bl (p i j && q j k)) := by
  show (bif p i j then R.ok (D.bl (q j k)) else R.ok (D.bl false)) = _
  cases p i j <;> rfl
def appK (i : Nat) (l : R (List D)) (a : R D) (O : DSt) : R Out := l.bind fun ds => a.bind fun d => bif most ds.length then .ok (.nx (O.set i (some (.lst (ds ++ [d]))))) else .bad
theorem sApp_def (own : List Nat) (i : Nat) (fe : DSt -> R D) (O : DSt) : sApp own i fe O = appK i (lstAt O i) (fe (mask own O)) O := rfl
theorem most_of' {n : Nat} (h : n <= 1000000) : most n = true := xah (xci h (by decide))
theorem appK_ok (i : Nat) (ds : List D) (d : D) (O : DSt) (h : ds.length <= 1000000) : appK i (.ok ds) (.ok d) O = .ok (.nx (O.set i (some (.lst (ds ++ [d]))))) := by
  show (bif most ds.length then _ else _) = _
  rw [most_of' h]; rfl
def appPK (i : Nat) (l : R (List D)) (a : R D) (O : DSt) : R Out := l.bind fun ds => a.bind fun d => bif most ds.length && imm d then .ok (.nx (O.set i (some (.lst (ds ++ [d]))))) else .bad
theorem sAppP_def (i : Nat) (fe : DSt -> R D) (O : DSt) : sAppP i fe O = appPK i (lstAt O i) (fe O) O := rfl
theorem appPK_ok (i : Nat) (ds : List D) (d : D) (O : DSt) (h : ds.length <= 1000000) (h' : imm d = true) : appPK i (.ok ds) (.ok d) O = .ok (.nx (O.set i (some (.lst (ds ++ [d]))))) := by
  show (bif most ds.length && imm d then _ else _) = _
  rw [most_of' h, h']; rfl
theorem lstAt_zero (ds : List D) (O : DSt) : lstAt (some (.lst ds) :: O) 0 = .ok ds := rfl
theorem lstAt_succ (x : Option D) (O : DSt) (n : Nat) : lstAt (x :: O) (n + 1) = lstAt O n := rfl
theorem mulB_le {i : Int} (h1 : -(10 ^ 100) <= i) (h2 : i <= 10 ^ 100) : mulB i = true := mulB_of (n := 400) (B.of (k := 10 ^ 100) (by omega))
theorem divB_le {i : Int} (h1 : -(10 ^ 100) <= i) (h2 : i <= 10 ^ 100) (h : i ≠ 0) : divB i = true := divB_of (n := 400) (B.of (k := 10 ^ 100) (by omega)) h
def retK (a : R D) : R Out := a.bind fun d => .ok (.rt d)
theorem sRet_def (fe : DSt -> R D) (O : DSt) : sRet fe O = retK (fe O) := rfl
theorem retK_ok (d : D) : retK (.ok d) = .ok (.rt d) := rfl
theorem retK_err (e : D) : retK (.err e) = .err e := rfl
def exprK (a : R D) (O : DSt) : R Out := a.bind fun _ => .ok (.nx O)
theorem sExpr_def (fe : DSt -> R D) (O : DSt) : sExpr fe O = exprK (fe O) O := rfl
theorem exprK_ok (d : D) (O : DSt) : exprK (.ok d) O = .ok (.nx O) := rfl
theorem exprK_err (e : D) (O : DSt) : exprK (.err e) O = .err e := rfl
def setK (i : Nat) (a : R D) (O : DSt) : R Out := a.bind fun d => .ok (.nx (O.set i (some d)))
theorem sSet0_def (i : Nat) (fe : DSt -> R D) (O : DSt) : sSet0 i fe O = setK i (fe O) O := rfl
theorem sSet_def (own : List Nat) (i : Nat) (fe : DSt -> R D) (O : DSt) : sSet own i fe O = setK i (fe (mask own O)) O := rfl
theorem setK_ok (i : Nat) (d : D) (O : DSt) : setK i (.ok d) O = .ok (.nx (O.set i (some d))) := rfl
theorem setK_err (i : Nat) (e : D) (O : DSt) : setK i (.err e) O = .err e := rfl
def setPK (i : Nat) (a : R D) (O : DSt) : R Out := a.bind fun d => bif imm d then .ok (.nx (O.set i (some d))) else .bad
theorem sSetP_def (i : Nat) (fe : DSt -> R D) (O : DSt) : sSetP i fe O = setPK i (fe O) O := rfl
theorem setPK_ok (i : Nat) (d : D) (O : DSt) (h : imm d = true) : setPK i (.ok d) O = .ok (.nx (O.set i (some d))) := by
  show (bif imm d then _ else _) = _
  rw [h]; rfl
def newK (i : Nat) (a : R (List D)) (O : DSt) : R Out := a.bind fun ds => .ok (.nx (O.set i (some (.lst ds))))
theorem sNew_def (own : List Nat) (i : Nat) (fe : DSt -> R (List D)) (O : DSt) : sNew own i fe O = newK i (fe (mask own O)) O := rfl
theorem newK_ok (i : Nat) (ds : List D) (O : DSt) : newK i (.ok ds) O = .ok (.nx (O.set i (some (.lst ds)))) := rfl
def asgK (ks : List Nat) (gp : D -> R (List D)) (a : R D) (O : DSt) : R Out := a.bind fun d => (gp d).noerr.bind fun us => .ok (.nx (setAll O ks us))
theorem sAsg_def (own ks : List Nat) (gp : D -> R (List D)) (fe : DSt -> R D) (O : DSt) : sAsg own ks gp fe O = asgK ks gp (fe (mask own O)) O := rfl
theorem asgK_2t (i j : Nat) (a b : D) (O : DSt) : asgK [i, j] (gpSeq 2) (.ok (.tup [a, b])) O = .ok (.nx ((O.set i (some a)).set j (some b))) := rfl
theorem asgK_2l (i j : Nat) (a b : D) (O : DSt) : asgK [i, j] (gpSeq 2) (.ok (.lst [a, b])) O = .ok (.nx ((O.set i (some a)).set j (some b))) := rfl
theorem asgK_3t (i j k : Nat) (a b c : D) (O : DSt) : asgK [i, j, k] (gpSeq 3) (.ok (.tup [a, b, c])) O = .ok (.nx (((O.set i (some a)).set j (some b)).set k (some c))) := rfl
theorem asgK_3l (i j k : Nat) (a b c : D) (O : DSt) : asgK [i, j, k] (gpSeq 3) (.ok (.lst [a, b, c])) O = .ok (.nx (((O.set i (some a)).set j (some b)).set k (some c))) := rfl
def parK (i j : Nat) (a : R (List D)) (O : DSt) : R Out := a.bind fun ds => match ds with
  | [a, b] => .ok (.nx ((O.set i (some a)).set j (some b)))
  | _ => .bad
theorem sPar_def (own : List Nat) (i j : Nat) (fs : DSt -> R (List D)) (O : DSt) : sPar own i j fs O = parK i j (fs (mask own O)) O := rfl
theorem parK_ok (i j : Nat) (a b : D) (O : DSt) : parK i j (.ok [a, b]) O = .ok (.nx ((O.set i (some a)).set j (some b))) := rfl
def raiseK (c : Str) (a : R (List D)) : R Out := a.bind fun ds => bif few ds.length then .err (.exc c []) else .bad
theorem sRaise_def (c : Str) (fs : DSt -> R (List D)) (O : DSt) : sRaise c fs O = raiseK c (fs O) := rfl
theorem raiseK_1 (c : Str) (a : D) : raiseK c (.ok [a]) = .err (.exc c []) := rfl
theorem sRaise1_def (c : Str) (O : DSt) : sRaise1 c O = .err (.exc c []) := rfl
def tryK (i : Nat) (c : Str) (r : R Out) (hnd : DSt -> R Out) (O : DSt) : R Out := match r with
  | .ok o => .ok o
  | .err (.exc cc as) => bif subX cc c == some true then (hnd (O.set i (some (.exc cc as)))).noerr.bind fun o => match o with
      | .nx O' => .ok (.nx (O'.set i none))
      | _ => .bad
    else .bad
  | _ => .bad
theorem sTry_def (i : Nat) (c : Str) (body hnd : DSt -> R Out) (O : DSt) : sTry i c body hnd O = tryK i c (body O) hnd O := rfl
theorem tryK_ok (i : Nat) (c : Str) (o : Out) (hnd : DSt -> R Out) (O : DSt) : tryK i c (.ok o) hnd O = .ok o := rfl
def handK (i : Nat) (r : R Out) : R Out := r.noerr.bind fun o => match o with
  | .nx O' => .ok (.nx (O'.set i none))
  | _ => .bad
theorem handK_nx (i : Nat) (O : DSt) : handK i (.ok (.nx O)) = .ok (.nx (O.set i none)) := rfl
theorem tryK_err (i : Nat) (c cc : Str) (as : List D) (hnd : DSt -> R Out) (O : DSt) (h : subX cc c = some true) : tryK i c (.err (.exc cc as)) hnd O = handK i (hnd (O.set i (some (.exc cc as)))) := by
  show (bif subX cc c == some true then _ else _) = _
  rw [h]; rfl
theorem fin_rt (d : D) : fin (.ok (.rt d)) = .ok d := rfl
theorem fin_nx (O : DSt) : fin (.ok (.nx O)) = .ok .non := rfl
theorem fin_err (e : D) : fin (.err e) = .err e := rfl
theorem gAdd_ii (i j : Int) : gAdd (.int i) (.int j) = .ok (.int (i + j)) := rfl
theorem gSub_ii (i j : Int) : gSub (.int i) (.int j) = .ok (.int (i - j)) := rfl
theorem gMul_ii (i j : Int) (hi : mulB i = true) (hj : mulB j = true) : gMul (.int i) (.int j) = .ok (.int (i * j)) := by
  show (bif mulB i && mulB j then _ else _) = _
  rw [hi, hj]; rfl
theorem gFdiv_pos (i j : Int) (h : divB j = true) (h0 : 0 < j) : gFdiv (.int i) (.int j) = .ok (.int (i / j)) := by
  show (bif divB j then R.ok (D.int (i.fdiv j)) else .bad) = _
  rw [h, Int.fdiv_eq_ediv_of_nonneg _ (Int.le_of_lt h0)]; rfl
theorem gMod_pos (i j : Int) (h0 : 0 < j) : gMod (.int i) (.int j) = .ok (.int (i % j)) := by
  have : decide (j ≠ 0) = true := xah (by omega)
  show (bif decide (j ≠ 0) then R.ok (D.int (i.fmod j)) else .bad) = _
  rw [this, Int.fmod_eq_emod_of_nonneg _ (Int.le_of_lt h0)]; rfl
theorem gPow_ii (i j : Int) (h : powB i j = true) : gPow (.int i) (.int j) = .ok (.int (i ^ j.toNat)) := by
  show (bif powB i j then _ else _) = _
  rw [h]; rfl
theorem gShr_ii (i j : Int) (h : 0 <= j) : gShr (.int i) (.int j) = .ok (.int (i / 2 ^ j.toNat)) := by
  show (bif decide (0 <= j) then _ else _) = _
  rw [xah h]; rfl
theorem gNeg_i (i : Int) : gNeg (.int i) = .ok (.int (-i)) := rfl
theorem gLt_ii (i j : Int) : gLt (.int i) (.int j) = .ok (.bl (decide (i < j))) := rfl
theorem gLe_ii (i j : Int) : gLe (.int i) (.int j) = .ok (.bl (decide (i <= j))) := rfl
theorem gGt_ii (i j : Int) : gGt (.int i) (.int j) = .ok (.bl (decide (j < i))) := rfl
theorem gGe_ii (i j : Int) : gGe (.int i) (.int j) = .ok (.bl (decide (j <= i))) := rfl
theorem gEq_of {a b : D} (h : cmp2 a b = true) : gEq a b = .ok (.bl (eqD a b)) := by unfold gEq; rw [h]; rfl
theorem gNe_of {a b : D} (h : cmp2 a b = true) : gNe a b = .ok (.bl (!eqD a b)) := by unfold gNe; rw [h]; rfl
theorem eqD_ii (i j : Int) : eqD (.int i) (.int j) = decide (i = j) := by unfold eqD; rfl
theorem gEq_ii (i j : Int) : gEq (.int i) (.int j) = .ok (.bl (decide (i = j))) := by rw [gEq_of rfl, eqD_ii]
theorem gNe_ii (i j : Int) : gNe (.int i) (.int j) = .ok (.bl (!decide (i = j))) := by rw [gNe_of rfl, eqD_ii]
theorem gEq_bb (i j : Bool) : gEq (.bl i) (.bl j) = .ok (.bl (i == j)) := by rw [gEq_of rfl]; unfold eqD; rfl
theorem gNe_bb (i j : Bool) : gNe (.bl i) (.bl j) = .ok (.bl (!(i == j))) := by rw [gNe_of rfl]; unfold eqD; rfl
abbrev t3 (x y z : Int) : D := .tup [.int x, .int y, .int z]
abbrev l3 (x y z : Int) : D := .lst [.int x, .int y, .int z]
theorem eqDs_ints : ∀ (ns ms : List Int), eqDs (ns.map D.int) (ms.map D.int) = decide (ns = ms)
  | [], [] => by unfold eqDs; rfl
  | [], _ :: _ => by unfold eqDs; rfl
  | _ :: _, [] => by unfold eqDs; rfl
  | n :: ns, m :: ms => by
    show eqDs (D.int n :: ns.map D.int) (D.int m :: ms.map D.int) = _
    unfold eqDs
    rw [eqDs_ints ns ms, eqD_ii, xbm]
    simp
theorem eqD_t3 (a b c x y z : Int) : eqD (t3 a b c) (t3 x y z) = decide (a = x /\ b = y /\ c = z) := by
  have := eqDs_ints [a, b, c] [x, y, z]
  unfold eqD
  rw [show ([D.int a, .int b, .int c] : List D) = [a, b, c].map D.int from rfl, show ([D.int x, .int y, .int z] : List D) = [x, y, z].map D.int from rfl, this, xbm]
  simp
theorem eqD_l3 (a b c x y z : Int) : eqD (l3 a b c) (l3 x y z) = decide (a = x /\ b = y /\ c = z) := by
  have := eqD_t3 a b c x y z
  unfold eqD at this ⊢
  exact this
theorem gEq_t3 (a b c x y z : Int) : gEq (t3 a b c) (t3 x y z) = .ok (.bl (decide (a = x /\ b = y /\ c = z))) := by rw [gEq_of rfl, eqD_t3]
theorem gNe_t3 (a b c x y z : Int) : gNe (t3 a b c) (t3 x y z) = .ok (.bl (!decide (a = x /\ b = y /\ c = z))) := by rw [gNe_of rfl, eqD_t3]
theorem gEq_l3 (a b c x y z : Int) : gEq (l3 a b c) (l3 x y z) = .ok (.bl (decide (a = x /\ b = y /\ c = z))) := by rw [gEq_of rfl, eqD_l3]
theorem gIs_bb (a b : Bool) : gIs (.bl a) (.bl b) = .ok (.bl (a == b)) := rfl
theorem gIsn_bb (a b : Bool) : gIsn (.bl a) (.bl b) = .ok (.bl (a != b)) := rfl
theorem gIs_non (d : D) : gIs d .non = .ok (.bl (isNon d)) := by cases d <;> rfl
theorem gIsn_non (d : D) : gIsn d .non = .ok (.bl (!isNon d)) := by cases d <;> rfl
theorem gIx_t3_0 (a b c : D) : gIx (.tup [a, b, c]) (.int 0) = .ok a := rfl
theorem gIx_t3_1 (a b c : D) : gIx (.tup [a, b, c]) (.int 1) = .ok b := rfl
theorem gIx_t3_2 (a b c : D) : gIx (.tup [a, b, c]) (.int 2) = .ok c := rfl
theorem gIx_l3_0 (a b c : D) : gIx (.lst [a, b, c]) (.int 0) = .ok a := rfl
theorem gIx_l3_1 (a b c : D) : gIx (.lst [a, b, c]) (.int 1) = .ok b := rfl
theorem gIx_l3_2 (a b c : D) : gIx (.lst [a, b, c]) (.int 2) = .ok c := rfl
theorem gIx_nat {xs : List D} {j : Nat} {d : D} (h : xs[j]? = some d) : gIx (.lst xs) (.int (j : Int)) = .ok d := by
  show (match atI xs (j : Int) with | some d => R.ok d | none => .bad) = _
  rw [atI_nat h]
theorem gIx_last (xs : List D) (d : D) : gIx (.lst (xs ++ [d])) (.int (-1)) = .ok d := by
  show (match atI (xs ++ [d]) (-1) with | some d => R.ok d | none => .bad) = _
  rw [atI_last]
theorem gLen_l (xs : List D) : gLen [.lst xs] = .ok (.int xs.length) := rfl
theorem gLen_t0 : gLen [.tup []] = .ok (.int 0) := rfl
theorem gLen_t1 (a : D) : gLen [.tup [a]] = .ok (.int 1) := rfl
theorem gLen_t2 (a b : D) : gLen [.tup [a, b]] = .ok (.int 2) := rfl
theorem gLen_t3 (a b c : D) : gLen [.tup [a, b, c]] = .ok (.int 3) := rfl
theorem gLen_t4 (a b c d : D) : gLen [.tup [a, b, c, d]] = .ok (.int 4) := rfl
theorem gAbs_i (i : Int) : gAbs [.int i] = .ok (.int (i.natAbs : Int)) := rfl
theorem gMin_ii (i j : Int) : gMin [.int i, .int j] = .ok (.int (min i j)) := rfl
theorem gMax_ii (i j : Int) : gMax [.int i, .int j] = .ok (.int (max i j)) := rfl
theorem gInt_b (b : Bool) : gInt [.bl b] = .ok (.int (if b then 1 else 0)) := rfl
theorem isi_int_int (i : Int) : g2 isi3 [.int i, .ty "int"] = .ok (.bl true) := rfl
theorem isi_int_bool (i : Int) : g2 isi3 [.int i, .ty "bool"] = .ok (.bl false) := rfl
theorem isi_bl_bool (i : Bool) : g2 isi3 [.bl i, .ty "bool"] = .ok (.bl true) := rfl
theorem isi_bl_int (i : Bool) : g2 isi3 [.bl i, .ty "int"] = .ok (.bl true) := rfl
theorem isi_tup_tup (xs : List D) : g2 isi3 [.tup xs, .ty "tuple"] = .ok (.bl true) := rfl
theorem isi_lst_lst (xs : List D) : g2 isi3 [.lst xs, .ty "list"] = .ok (.bl true) := rfl
theorem isi_lst_tup (xs : List D) : g2 isi3 [.lst xs, .ty "tuple"] = .ok (.bl false) := rfl
theorem isi_tup_lst (xs : List D) : g2 isi3 [.tup xs, .ty "list"] = .ok (.bl false) := rfl
theorem isi_exc {c d : Str} {b : Bool} (h : subX c d = some b) : g2 isi3 [.exc c [], .cls d] = .ok (.bl b) := by
  show (match subX c d with | some b => R.ok (D.bl b) | none => .bad) = _
  rw [h]
theorem isi_excV (c : Str) : g2 isi3 [.exc c [], .ty "ValueError"] = .ok (.bl true) := rfl
theorem rng1_i (j : Int) (h : rOk j = true) : rng1 [.int j] = .ok (rngD 0 j.toNat) := by
  show (bif rOk j then _ else _) = _
  rw [h]; rfl
theorem rng2_ii (i j : Int) (h : rOk i = true) (h' : rOk j = true) : rng2 [.int i, .int j] = .ok (rngD i (j - i).toNat) := by
  show (bif rOk i && rOk j then _ else _) = _
  rw [h, h']; rfl
theorem rOk_of {i : Int} (h : -1000000000 <= i) (h' : i <= 1000000000) : rOk i = true := by
  unfold rOk
  rw [Nat.blt_eq]
  omega
def argsK (g : List D -> R (List D)) (a : R (List D)) : R (List D) := a.bind g
theorem iArgs_def (g : List D -> R (List D)) (fs : DSt -> R (List D)) (O : DSt) : iArgs g fs O = argsK g (fs O) := (rfl)
theorem argsK_ok (g : List D -> R (List D)) (ds : List D) : argsK g (.ok ds) = g ds := (rfl)
def seqKi (a : R D) : R (List D) := a.bind asSeq
theorem iSeq_def (f : DSt -> R D) (O : DSt) : iSeq f O = seqKi (f O) := rfl
theorem seqKi_t (xs : List D) : seqKi (.ok (.tup xs)) = .ok xs := rfl
theorem seqKi_l (xs : List D) : seqKi (.ok (.lst xs)) = .ok xs := rfl
def forK (ks : List Nat) (gp : D -> R (List D)) (fb : DSt -> R Out) (a : R (List D)) (O : DSt) : R Out := a.bind fun ds => forL ks gp fb ds O
theorem sFor_def (own ks : List Nat) (gp : D -> R (List D)) (fi : DSt -> R (List D)) (fb : DSt -> R Out) (O : DSt) : sFor own ks gp fi fb O = forK ks gp fb (fi (mask own O)) O := rfl
theorem forK_ok (ks : List Nat) (gp : D -> R (List D)) (fb : DSt -> R Out) (ds : List D) (O : DSt) : forK ks gp fb (.ok ds) O = forL ks gp fb ds O := rfl
def turnK (r : R Out) (k : DSt -> R Out) : R Out := r.bind fun o => match o with
  | .nx O' => k O'
  | .ct O' => k O'
  | .bk O' => .ok (.nx O')
  | .rt d => .ok (.rt d)
  | .rf d => .ok (.rf d)
theorem turnK_nx (O : DSt) (k : DSt -> R Out) : turnK (.ok (.nx O)) k = k O := rfl
theorem turnK_ct (O : DSt) (k : DSt -> R Out) : turnK (.ok (.ct O)) k = k O := rfl
theorem turnK_bk (O : DSt) (k : DSt -> R Out) : turnK (.ok (.bk O)) k = .ok (.nx O) := rfl
theorem turnK_rt (d : D) (k : DSt -> R Out) : turnK (.ok (.rt d)) k = .ok (.rt d) := rfl
theorem turnK_err (d : D) (k : DSt -> R Out) : turnK (.err d) k = .err d := rfl
theorem forL_nil (ks : List Nat) (gp : D -> R (List D)) (fb : DSt -> R Out) (O : DSt) : forL ks gp fb [] O = .ok (.nx O) := rfl
theorem forL_one (i : Nat) (fb : DSt -> R Out) (d : D) (ds : List D) (O : DSt) : forL [i] gpOne fb (d :: ds) O = turnK (fb (O.set i (some d))) (forL [i] gpOne fb ds) := by
  show (fb (O.set i (some d))).bind _ = _
  unfold turnK
  cases fb (O.set i (some d)) with
  | ok o => cases o <;> rfl
  | err e => rfl
  | bad => rfl
theorem forL_nth {i : Nat} {fb : DSt -> R Out} (I : Nat -> DSt -> Prop) (ds : List D) (hs : ∀ (k : Nat) (d : D) (O : DSt), ds[k]? = some d -> I k O -> ∃ O', (fb (O.set i (some d)) = .ok (.nx O') \/ fb (O.set i (some d)) = .ok (.ct O')) /\ I (k + 1) O') (O : DSt) (h : I 0 O) : ∃ O', forL [i] gpOne fb ds O = .ok (.nx O') /\ I ds.length O' := by
  have go : ∀ (ds : List D) (n : Nat), (∀ (k : Nat) (d : D) (O : DSt), ds[k]? = some d -> I (n + k) O -> ∃ O', (fb (O.set i (some d)) = .ok (.nx O') \/ fb (O.set i (some d)) = .ok (.ct O')) /\ I (n + k + 1) O') -> ∀ O, I n O -> ∃ O', forL [i] gpOne fb ds O = .ok (.nx O') /\ I (n + ds.length) O' := by
    intro ds
    induction ds with
    | nil => intro n _ O h; exact ⟨O, rfl, h⟩
    | cons d ds ih =>
      intro n hs O h
      obtain ⟨O1, h1, h2⟩ := hs 0 d O rfl h
      obtain ⟨O2, h3, h4⟩ := ih (n + 1) (fun k d' O hd hI => by
        have := hs (k + 1) d' O (by simpa using hd) (by rw [show n + (k + 1) = n + 1 + k by omega]; exact hI)
        rw [show n + (k + 1) + 1 = n + 1 + k + 1 by omega] at this
        exact this) O1 h2
      refine ⟨O2, ?_, by rw [xa0, show n + (ds.length + 1) = n + 1 + ds.length by omega]; exact h4⟩
      rw [forL_one]
      rcases h1 with h1 | h1 <;> rw [h1]
      · exact h3
      · exact h3
  obtain ⟨O', h1, h2⟩ := go ds 0 (fun k d O hd hI => by
    rw [xb3] at hI ⊢
    exact hs k d O hd hI) O h
  exact ⟨O', h1, by rw [xb3] at h2; exact h2⟩
theorem sWhile_t {c : DSt -> R Bool} {fb : DSt -> R Out} {O O' : DSt} (h : c O = .ok true) (h' : fb O = .ok (.nx O')) : sWhile c fb O = sWhile c fb O' := by rw [sWhile_step, h]; show (fb O).bind _ = _; rw [h']; rfl
theorem sWhile_f {c : DSt -> R Bool} {fb : DSt -> R Out} {O : DSt} (h : c O = .ok false) : sWhile c fb O = .ok (.nx O) := by rw [sWhile_step, h]; rfl
def lcK (k : Nat) (ks : List Nat) (a : R (List D)) (gp : D -> R (List D)) (c : DSt -> R Bool) (e : DSt -> R D) (O : DSt) : R (List D) := a.bind fun ds => bif most ds.length then (lcD ks gp c e (List.replicate k none ++ O) ds).noerr else .bad
theorem eLC_def (k : Nat) (ks : List Nat) (fi : DSt -> R (List D)) (gp : D -> R (List D)) (c : DSt -> R Bool) (e : DSt -> R D) (O : DSt) : eLC k ks fi gp c e O = lcK k ks (fi O) gp c e O := rfl
theorem most_of {n : Nat} (h : n <= 1000000) : most n = true := xah (xci h (by decide))
theorem lc_map {ds : List D} {e : DSt -> R D} {O : DSt} {g : D -> D} (hl : ds.length <= 1000000) (h : ∀ d ∈ ds, e (some d :: O) = .ok (g d)) : lcK 1 [0] (.ok ds) gpOne eTrue e O = .ok (ds.map g) := by
  have go : ∀ ds : List D, (∀ d ∈ ds, e (some d :: O) = .ok (g d)) -> lcD [0] gpOne eTrue e (List.replicate 1 none ++ O) ds = .ok (ds.map g) := by
    intro ds
    induction ds with
    | nil => intro _; rfl
    | cons d ds ih =>
      intro h
      show (e (some d :: O)).bind (fun y => (lcD [0] gpOne eTrue e (List.replicate 1 none ++ O) ds).bind fun ys => .ok (y :: ys)) = _
      rw [h d xa5, ih fun d' hd => h d' (xaq _ hd)]; rfl
  show (bif most ds.length then _ else _) = _
  rw [most_of hl, go ds h]; rfl
end DL
namespace DL
open L2 PyProof.Rows
section
variable {X : Cx} {E : XK} {e : Expr} {te : TE} {pos : Pos}
def putK (i : Nat) (l : R (List D)) (a k : R D) (O : DSt) : R Out := l.bind fun ds => a.bind fun d => k.bind fun kd => match kd with
  | .int n => match ixN ds.length n with
    | some j => .ok (.nx (O.set i (some (.lst (ds.set j d)))))
    | none => .bad
  | _ => .bad
variable {own ol : List Nat} {x : Str} {k : Expr} {fk fe : DSt -> R D} {np tpos : Pos}
end
section
variable {X : Cx} {E : XK} {K : xFg} {mg : Str -> Option Value} {p pos : Pos} {e : Expr} {es : List Expr} {fs : DSt -> R (List D)}
def str1 : D -> R D
  | .int i => bif decide (i.natAbs.log2 < 1920) then .ok (.str (toString i)) else .bad
  | _ => .bad
abbrev gStr := g1 str1
theorem cd_str : CallD K mg (fun xs H Q => ∃ i, xs = [.int i] /\ i.natAbs.log2 < 1920 /\ Q (.str (toString i)) H) gStr := cd1 fun G H d v Q e r q => by
  cases d with
  | int i =>
    cases r
    cases hC : decide (i.natAbs.log2 < 1920) with
    | false => simp only [str1, hC, cond_false] at q; exact q.elim
    | true => simp only [str1, hC, cond_true] at q; exact ⟨i, rfl, xaj hC, After.now q e rfl⟩
  | _ => exact (show False from q).elim
theorem de_strc (hm : X.mg "str" = none) (ha : DA X E (e :: es) fs) (hg : Gl X "str" := by rfl) (he : starEach (e :: es) X.env = (false, eval e X.env) :: starEach es X.env := by rfl) (hpl : (backTo pos (starEach es X.env)).any (·.1) = false := by rfl) : DE X E (.Call (.Name "str" p) (e :: es) [] pos) (eBlt gStr fs) :=
  de_bty call_str_int cd_str hm ha bt_str hg (by decide) (by decide) he hpl
end
end DL
namespace DL
open L2 PyProof.Rows
theorem list_extendW (l : Addr) (items : Array Value) (n : Nat) (b : Addr) (items2 : Array Value) (n2 : Nat) (dd : Option Addr) (sl : Array (Option Value)) (hc0 : ¬(!items.isEmpty && Builtin.List.listTooLong (items.size + items2.size)) = true) (hc1 : items.size <= sizeLine) (hs2 : items.size + items2.size <= sizeLine + 1) :
    Meets (Builtin.«list.extend» ⟨[.ref l, .ref b], []⟩) (fun _ R s => s.heap.get? l = some { cls := .type "list", dict := none, data := .seq items n, slots := #[] } /\ s.heap.get? b = some { cls := .type "list", dict := dd, data := .seq items2 n2, slots := sl } /\ R (.ok (.ret Value.none)) { s with heap := s.heap.update l (Obj.mapSeq fun x => x ++ items2), toks := s.toks }) :=
  .of_wp fun _ _ _ _ s q => by
    obtain ⟨hp, gg, dr, tk, os⟩ := s
    obtain ⟨e1, e2, q⟩ := q
    have i1 := AutoSeq1.idx_int
    have i2 := AutoSeq1.sub_tuple_tuple
    have i3 := AutoSeq1.sub_list_list
    have i4 := AutoSeq1.sub_tuple_list
    have i5 := AutoSeq1.sub_list_tuple
    have room : (items ++ items2).size <= sizeLine + 1 := by
      rw [Array.size_append]
      exact hs2
    wp_walk using (wpAny_updateSeq e1 rfl (hz := hc1) (_hz' := room)), wpAny_loadPart' e1, wpAny_loadPart' e2
    exact ⟨_, rfl, q⟩
section
variable {X : Cx}
def rExtL (K : xFg) : V -> List V -> Hp -> VK -> Prop := fun x vs H Q => ∃ l b xs zs, x = .ref l /\ vs = [.ref b] /\ H l = some (.lst xs) /\ SqL K H b zs /\ xs.length + zs.length <= sizeLine /\ Q .non (upd H l (.lst (xs ++ zs)))
theorem mt_extL : MtM X "list.extend" (rExtL X.K) := by
  intro pins s O H x vs v us Q I rx rv h
  obtain ⟨l, b, xs, zs, rfl, rfl, hH, hB, hz, q⟩ := h
  cases rx
  obtain ⟨u, rfl, ru⟩ := rv.one
  cases ru
  obtain ⟨z, its, n, r, hl, e⟩ := I.lstM hH
  obtain ⟨its2, r2, pl2, z2⟩ := I.list hB
  have hl2 := r2.length
  obtain ⟨⟨cls2, dd2, data2, sl2⟩, ho2, hc2, n2, hd2⟩ := id pl2.isList
  simp only at hc2 hd2
  subst hc2 hd2
  have hsz : its.toArray.size + its2.toArray.size <= sizeLine := by rw [xal, xal]; omega
  have hlong : ¬ (!its.toArray.isEmpty && Builtin.List.listTooLong (its.toArray.size + its2.toArray.size)) = true := by
    rw [notLongL hsz, xcq]
    exact xaw
  refine call_meets F.slot_list_extend ⟨_, e, rfl⟩ F.entry_list_extend (F.args_list_extend_2 _ _)
    (list_extendW l its.toArray n b its2.toArray n2 dd2 sl2 hlong (by rw [xal]; omega) (by omega)) ⟨e, ho2, ?_⟩
  refine ⟨.non, _, I.lset (its' := its ++ its2) hH e (by simp) (r.append r2) ?_, rfl, q⟩
  rw [xar]
  omega
end
end DL
namespace DL
open L2 PyProof.Rows
def inD (d : D) (xs : List D) : Bool := xs.any fun y => eqD y d
def in2 (d : D) (xs : List D) : Bool := datN 9 d && xs.all (datN 9)
def gIn : D -> D -> R D
  | d, .lst xs => bif in2 d xs then .ok (.bl (inD d xs)) else .bad
  | d, .tup xs => bif in2 d xs then .ok (.bl (inD d xs)) else .bad
  | .str i, .str j => .ok (.bl (!(Builtin.Str.occurrences j i 0 j.length 1).isEmpty))
  | _, _ => .bad
def gNin : D -> D -> R D
  | d, .lst xs => bif in2 d xs then .ok (.bl (!inD d xs)) else .bad
  | d, .tup xs => bif in2 d xs then .ok (.bl (!inD d xs)) else .bad
  | .str i, .str j => .ok (.bl (!(!(Builtin.Str.occurrences j i 0 j.length 1).isEmpty)))
  | _, _ => .bad
section
variable {X : Cx} {E : XK}
theorem any_e {K : xFg} {mg : Str -> Option Value} {G : Hp} {d : D} (f : Value -> Bool) : ∀ {ds : List D} {vs : List V} {its : List Value}, (∀ d' v' u, d' ∈ ds -> Rep K mg G d' v' -> RelV v' u -> f u = eqD d' d) -> Reps K mg G ds vs -> Vals vs its -> its.any f = ds.any fun y => eqD y d
  | [], _, _, _, r, t => by cases r; cases t; rfl
  | d' :: ds, _, _, h, ⟨v, vs, e, r1, r2⟩, t => by
    subst e
    cases t with
    | cons q t =>
      rw [List.any_cons, List.any_cons, h d' _ _ xa5 r1 q, any_e f (fun d'' v'' u hd => h d'' v'' u (xaq _ hd)) r2 t]
theorem mem_of_vals {K : xFg} {mg : Str -> Option Value} {G : Hp} : ∀ {ds : List D} {vs : List V} {its : List Value}, Reps K mg G ds vs -> Vals vs its -> ∀ u ∈ its, ∃ d' v', d' ∈ ds /\ Rep K mg G d' v' /\ RelV v' u
  | [], _, _, r, t, u, hu => by cases r; cases t; cases hu
  | d' :: ds, _, _, ⟨v, vs, e, r1, r2⟩, t, u, hu => by
    subst e
    cases t with
    | cons q t =>
      rcases xam.mp hu with rfl | hu
      · exact ⟨d', v, xa5, r1, q⟩
      · obtain ⟨d'', v'', h1, h2, h3⟩ := mem_of_vals r2 t u hu
        exact ⟨d'', v'', xaq _ h1, h2, h3⟩
def rInD (K : xFg) (mg : Str -> Option Value) (neg : Bool) : R2 := fun x y H Q => ∃ G d ds p vs, Same G H /\ Rep K mg G d x /\ y = .ref p /\ (SqL K G p vs \/ SqT K G p vs) /\ Reps K mg G ds vs /\ in2 d ds = true /\ Q (.bl (bif neg then !inD d ds else inD d ds)) H
open Classical in
theorem in_facts {pins : List (Addr × Obj)} {O : L2.St} {G H : Hp} {s : Shared} (I : Inv X pins O H s) {k : Nat} (r : Room k X.A) (e : Same G H) {d : D} {x : V} {v : Value} {ds : List D} {vs : List V} {its : List Value} (rx : Rep X.K X.mg G d x) (qx : RelV x v) (rs : Reps X.K X.mg G ds vs) (t : Vals vs its) (h : in2 d ds = true) :
    ∃ f : Value -> Bool, (∀ u ∈ its, SeqAt.EqAt X.A.in1 s u v (f u)) /\ its.any f = inD d ds := by
  unfold in2 at h
  rw [xay, xbh] at h
  obtain ⟨h1, h2⟩ := h
  have key : ∀ d' v' u, d' ∈ ds -> Rep X.K X.mg G d' v' -> RelV v' u -> decide (∃ d'' v'', d'' ∈ ds /\ Rep X.K X.mg G d'' v'' /\ RelV v'' u /\ eqD d'' d = true) = eqD d' d := by
    intro d' v' u hd r1 q1
    by_cases hq : eqD d' d = true
    · rw [hq]; exact xah ⟨d', v', hd, r1, q1, hq⟩
    · rw [Bool.not_eq_true] at hq
      rw [hq]
      refine xat ?_
      rintro ⟨d'', v'', hd', r2, q2, hq'⟩
      have ev := q1.inj q2
      subst ev
      have := rep_inj I e 9 (h2 _ hd) (h2 _ hd') r1 r2
      subst this
      rw [hq] at hq'; cases hq'
  refine ⟨fun u => decide (∃ d'' v'', d'' ∈ ds /\ Rep X.K X.mg G d'' v'' /\ RelV v'' u /\ eqD d'' d = true), fun u hu => ?_, any_e _ key rs t⟩
  obtain ⟨d', v', hd, r1, q1⟩ := mem_of_vals rs t u hu
  show SeqAt.EqAt X.A.in1 s u v (decide _)
  rw [key d' v' u hd r1 q1]
  exact (eqAt_D I e 9 (by rw [in1_units]; have := r.un; omega) (h2 _ hd) h1 r1 q1 rx qx).1
theorem op_inD {k : Nat} (r : Room k X.A) : OpR X (compareOp .In) (rInD X.K X.mg false) := by
  intro pins s O H x y v u Q I rx ry h
  obtain ⟨G, d, ds, p, vs, e, r1, rfl, hq, rs, c, q⟩ := h
  cases ry
  rcases hq with hq | hq
  · obtain ⟨its, t, pl, hz⟩ := I.list (e.seq hq)
    obtain ⟨f, h1, h2⟩ := in_facts I r e r1 rx rs t c
    refine SeqAt.in_listAt f pl.isList (fun w hw => h1 w (by simpa using hw)) ⟨.bl _, H, I, rfl, ?_⟩
    rw [show its.toArray.any f = its.any f by simp, h2]; exact q
  · obtain ⟨its, t, pl, hz⟩ := I.tuple (Same.sqT e hq)
    obtain ⟨f, h1, h2⟩ := in_facts I r e r1 rx rs t c
    refine SeqAt.in_tupleAt f pl (fun w hw => h1 w (by simpa using hw)) ⟨.bl _, H, I, rfl, ?_⟩
    rw [show its.toArray.any f = its.any f by simp, h2]; exact q
theorem op_ninD {k : Nat} (r : Room k X.A) : OpR X (compareOp .NotIn) (rInD X.K X.mg true) := by
  intro pins s O H x y v u Q I rx ry h
  obtain ⟨G, d, ds, p, vs, e, r1, rfl, hq, rs, c, q⟩ := h
  cases ry
  rcases hq with hq | hq
  · obtain ⟨its, t, pl, hz⟩ := I.list (e.seq hq)
    obtain ⟨f, h1, h2⟩ := in_facts I r e r1 rx rs t c
    refine SeqAt.notIn_listAt f pl.isList (fun w hw => h1 w (by simpa using hw)) ⟨.bl _, H, I, rfl, ?_⟩
    rw [show its.toArray.any f = its.any f by simp, h2]; exact q
  · obtain ⟨its, t, pl, hz⟩ := I.tuple (Same.sqT e hq)
    obtain ⟨f, h1, h2⟩ := in_facts I r e r1 rx rs t c
    refine SeqAt.notIn_tupleAt f pl (fun w hw => h1 w (by simpa using hw)) ⟨.bl _, H, I, rfl, ?_⟩
    rw [show its.toArray.any f = its.any f by simp, h2]; exact q
abbrev rInS (neg : Bool) : R2 := fun x y H Q => ∃ i j, x = .str i /\ y = .str j /\ Q (.bl (bif neg then !(!(Builtin.Str.occurrences j i 0 j.length 1).isEmpty) else !(Builtin.Str.occurrences j i 0 j.length 1).isEmpty)) H
theorem cf_in {k : Nat} (C : XC X E k) : CmpF X .In gIn := ⟨_, (op_inD C.room).or (op_in_str : OpR X _ (rInS false)), fun G H a b x y Q e ra rb q => by
  cases b with
  | lst xs =>
    obtain ⟨p, vs, rfl, h1, h2⟩ := rb
    cases hc : in2 a xs with
    | false => simp only [gIn, hc, cond_false] at q; exact q.elim
    | true => simp only [gIn, hc, cond_true] at q; exact .inl ⟨G, a, xs, p, vs, e, ra, rfl, .inl h1, h2, hc, After.now q e rfl⟩
  | tup xs =>
    obtain ⟨p, vs, rfl, h1, h2⟩ := rb
    cases hc : in2 a xs with
    | false => simp only [gIn, hc, cond_false] at q; exact q.elim
    | true => simp only [gIn, hc, cond_true] at q; exact .inl ⟨G, a, xs, p, vs, e, ra, rfl, .inr h1, h2, hc, After.now q e rfl⟩
  | str j => cases a with
    | str i => cases ra; cases rb; exact .inr ⟨i, j, rfl, rfl, After.now q e rfl⟩
    | _ => exact (show False from q).elim
  | _ => cases a <;> exact (show False from q).elim, fun a b e => by
    cases b with
    | lst xs => simp only [gIn]; cases in2 a xs <;> simp [cond]
    | tup xs => simp only [gIn]; cases in2 a xs <;> simp [cond]
    | _ => cases a <;> simp [gIn]⟩
theorem cf_nin {k : Nat} (C : XC X E k) : CmpF X .NotIn gNin := ⟨_, (op_ninD C.room).or (op_notIn_str : OpR X _ (rInS true)), fun G H a b x y Q e ra rb q => by
  cases b with
  | lst xs =>
    obtain ⟨p, vs, rfl, h1, h2⟩ := rb
    cases hc : in2 a xs with
    | false => simp only [gNin, hc, cond_false] at q; exact q.elim
    | true => simp only [gNin, hc, cond_true] at q; exact .inl ⟨G, a, xs, p, vs, e, ra, rfl, .inl h1, h2, hc, After.now q e rfl⟩
  | tup xs =>
    obtain ⟨p, vs, rfl, h1, h2⟩ := rb
    cases hc : in2 a xs with
    | false => simp only [gNin, hc, cond_false] at q; exact q.elim
    | true => simp only [gNin, hc, cond_true] at q; exact .inl ⟨G, a, xs, p, vs, e, ra, rfl, .inr h1, h2, hc, After.now q e rfl⟩
  | str j => cases a with
    | str i => cases ra; cases rb; exact .inr ⟨i, j, rfl, rfl, After.now q e rfl⟩
    | _ => exact (show False from q).elim
  | _ => cases a <;> exact (show False from q).elim, fun a b e => by
    cases b with
    | lst xs => simp only [gNin]; cases in2 a xs <;> simp [cond]
    | tup xs => simp only [gNin]; cases in2 a xs <;> simp [cond]
    | _ => cases a <;> simp [gNin]⟩
end
end DL
namespace DL
open L2 PyProof.Rows
def sign (c : Nat) : Str := ⟨#[c]⟩
def Its (z : Str) : It := ⟨fun i _ => i < z.cps.size, fun i H x H' => H' = H /\ ∃ c, z.cps[i]? = some c /\ x = .str (sign c), fun i _ => z.cps.size <= i⟩
theorem turn_text {P : Program} {w : World} {K : xFg} {tg : Expr} (z : Str) (it : Addr) (nm : String) (t : Tok) (hnm : nm = "str_ascii_iterator" \/ nm = "str_iterator") : Turn P w K tg (Its z) [it] it (fun i h => h.IsStrIter it nm z t i) where
  mem := by simp
  obj := fun i h st b hb => by
    have e : b = it := by simpa using hb
    subst e
    obtain ⟨o, e, c, d⟩ := st
    exact ⟨o, e, fun v z => by rw [d] at z; cases z⟩
  keep := fun i h h' st k => by
    obtain ⟨o, e, r⟩ := st
    exact ⟨o, k it (by simp) o e, r⟩
  item := by
    intro X hP hw hK hc i pins s O H E I hf st hg
    subst hP hw hK
    obtain ⟨f0, f1, f2, f3, f4, f5⟩ := hf it (by simp)
    have go : ∀ (W : Walks X.prog X.w X.A it [it] [it] z.cps.size (SignAt z) (fun i h => h.IsStrIter it nm z t i)), wpAny (model X.prog X.w) X.A (pyNext (.ref it)) (fun r s1 => ∃ u, r = some u /\ wpAny (model X.prog X.w) X.A (letOwnedTupleGo tg (.ref it) u) (fun _ s2 => ∃ x H', Inv X pins O H' s2 /\ RelV x u /\ (Its z).yld i H x H' /\ s2.heap.IsStrIter it nm z t (i + 1) /\ ∀ b ∈ [it], H' b = none) E s1) E s := by
      intro W
      refine W.item i s _ _ hg st fun v h' tk hv st' kk => ?_
      obtain ⟨c, u, hc', rfl⟩ := hv
      have I1 : Inv X pins O H { s with heap := h', toks := tk } := I.turned (fun b o hb e => kk b o (by simpa using hb) e) f0 f1 f3 f4 f5
      obtain ⟨o, e, cl, d⟩ := id st'
      exact ⟨_, rfl, go_of (s := { s with heap := h', toks := tk }) e cl d (by rcases hnm with rfl | rfl <;> decide) ⟨.str (sign c), H, I1, ⟨u, rfl⟩, ⟨rfl, c, hc', rfl⟩, st', fun b hb => (hf b hb).1⟩⟩
    rcases hnm with rfl | rfl
    · exact go (Walks.strAscii (I.ok.hd hc) it z t)
    · exact go (Walks.strWide (I.ok.hd hc) it z t)
  done := by
    intro X hP hw hK hc i pins s O H E I hf st hg
    subst hP hw hK
    obtain ⟨f0, f1, f2, f3, f4, f5⟩ := hf it (by simp)
    rcases hnm with rfl | rfl
    · exact wpAny_pyNext_ascii_end (I.ok.hd hc) st (by have : z.cps.size <= i := hg; simp; omega) fun h' eb => ⟨rfl, I.turned (t' := s.toks) (fun b o hb e => eb b o hb e) f0 f1 f3 f4 f5⟩
    · exact wpAny_pyNext_wide_end (I.ok.hd hc) st (by have : z.cps.size <= i := hg; simp; omega) fun h' eb => ⟨rfl, I.turned (t' := s.toks) (fun b o hb e => eb b o hb e) f0 f1 f3 f4 f5⟩
  self := fun A i s Q E st h => by
    rcases hnm with rfl | rfl
    · exact wpAny_pyIter_striter_ascii st h
    · exact wpAny_pyIter_striter_wide st h
section
variable {X : Cx} {E : XK} {tg : Expr}
def iTxt (tl : TE) : TI := fun O H R => tl O H fun x H1 => ∃ z, x = .str z /\ R (Its z) H1
theorem pi_text {l : Expr} {tl : TE} (hl : PE X l tl) : PI X tg l (iTxt tl) := by
  intro pins s O H R I h
  refine thn (hl pins s O H _ I h) fun v s1 ⟨x, H1, I1, r1, q1⟩ => ?_
  obtain ⟨z, e, q⟩ := q1
  subst e
  obtain ⟨t, rfl⟩ := r1
  have fpo : ∀ b ∈ [s1.heap.objs.size], FpOk X pins H1 b := fun b hb => by
    have e : b = s1.heap.objs.size := by simpa using hb
    subst e
    exact I1.fpOk (xad _) (I1.hok.fresh (xad _))
  cases ha : z.cps.all (· < 128)
  · exact wpAny_pyIter_wide ha ⟨s1.heap.objs.size, [s1.heap.objs.size], _, _, H1, rfl, I1.kept (t' := s1.toks) fun b o e => xab _ e, turn_text z _ "str_iterator" t (.inr rfl), ⟨_, xau _ rfl, rfl, rfl⟩, fpo, q⟩
  · exact wpAny_pyIter_ascii ha ⟨s1.heap.objs.size, [s1.heap.objs.size], _, _, H1, rfl, I1.kept (t' := s1.toks) fun b o e => xab _ e, turn_text z _ "str_ascii_iterator" t (.inl rfl), ⟨_, xau _ rfl, rfl, rfl⟩, fpo, q⟩
def signsD (z : Str) : List D := z.cps.toList.map fun c => .str (sign c)
def asTxt : D -> R (List D)
  | .str z => .ok (signsD z)
  | _ => .bad
def iStr (f : DSt -> R D) : DSt -> R (List D) := fun O => (f O).bind asTxt
theorem IterD.text {K : xFg} {mg : Str -> Option Value} {G : Hp} (z : Str) : IterD K mg (Its z) G (signsD z) := by
  have hl : (signsD z).length = z.cps.size := by simp [signsD]
  refine ⟨fun H e => by rw [hl]; exact xad _, fun H i d e hd => ?_⟩
  have hi : i < z.cps.size := by have := (xae.mp hd).1; omega
  refine ⟨hi, fun x H' y G1 e1 e2 => ?_⟩
  obtain ⟨rfl, c, hc, rfl⟩ := y
  have : d = .str (sign c) := by
    unfold signsD at hd
    rw [xbd, Array.getElem?_toList, hc] at hd
    simpa using hd.symm
  subst this
  exact ⟨G1, .refl e2, rfl⟩
theorem di_text {l : Expr} {f : DSt -> R D} (hl : DE X E l f) : DI X E tg l (iStr f) := by
  have hT : PI X tg l (iTxt (tE X.K X.mg E f)) := pi_text hl
  intro pins s O H R I ⟨G, Od, ok, q⟩
  refine hT pins s O H R I ⟨G, Od, ok, ?_⟩
  refine q.of_bind.mono (fun d _ z => ?_) fun _ z => z
  rintro v G' H' st r
  cases d with
  | str y =>
    cases r
    exact ⟨y, rfl, (show ∀ J G' H', Step G H G' H' -> IterD X.K X.mg J G' (signsD y) -> R J H' from z) _ G' H' st (.text y)⟩
  | _ => exact (show False from z).elim
variable {a b : Expr} {fa fb : DSt -> R D} {pos : Pos}
def gIxS : D -> D -> R D
  | .str z, .int i => bif decide (0 <= i) && Nat.blt i.natAbs 1073741824 then (match z.cps[i.toNat]? with
    | some c => .ok (.str (sign c))
    | none => .bad) else .bad
  | _, _ => .bad
abbrev rIxS : R2 := fun x y H Q => ∃ z i c, x = .str z /\ y = .int i /\ 0 <= i /\ i < 2 ^ 63 /\ i < z.length /\ z.cps[i.toNat]? = some c /\ Q (.str ⟨#[c]⟩) H
theorem nx_ixS : NoErr gIxS := by
  intro a b e h
  cases a with
  | str z => cases b with
    | int i =>
      cases hC : (decide (0 <= i) && Nat.blt i.natAbs 1073741824) with
      | false => simp only [gIxS, hC, cond_false] at h; cases h
      | true =>
        simp only [gIxS, hC, cond_true] at h
        split at h <;> cases h
    | _ => cases h
  | _ => cases b <;> cases h
theorem od_ixS {K : xFg} {mg : Str -> Option Value} : OpD K mg rIxS gIxS := by
  intro G H a b x y Q e ra rb q
  cases a with
  | str z => cases b with
    | int i =>
      cases ra; cases rb
      cases hC : (decide (0 <= i) && Nat.blt i.natAbs 1073741824) with
      | false => simp only [gIxS, hC, cond_false] at q; exact q.elim
      | true =>
        simp only [gIxS, hC, cond_true] at q
        rw [xay, decide_eq_true_eq, Nat.blt_eq] at hC
        cases hc : z.cps[i.toNat]? with
        | none => rw [hc] at q; exact q.elim
        | some c =>
          rw [hc] at q
          have hlt : i.toNat < z.cps.size := (xbk.mp hc).1
          have hlt' : i < (z.length : Int) := by
            show i < (z.cps.size : Int)
            omega
          exact ⟨z, i, c, rfl, rfl, hC.1, by omega, hlt', hc, After.now q e rfl⟩
    | _ => exact (show False from q).elim
  | _ => cases b <;> exact (show False from q).elim
theorem de_ixS (ha : DE X E a fa) (hb : DE X E b fb) (hs : PlainIxT b := by intro _ _; rfl) : DE X E (.Subscript a b pos) (eOp gIxS fa fb) :=
  PE.mono' (pe_item_str ha hb hs) fun _ _ _ h => tOp_of od_ixS nx_ixS h
def joinT (sep : Str) : List Str -> Str
  | [y] => y
  | ys => Builtin.Str.glued sep ys
def strsOf : List D -> Option (List Str)
  | [] => some []
  | .str y :: ds => (strsOf ds).map (y :: ·)
  | _ => none
theorem Reps.strs {K : xFg} {mg : Str -> Option Value} {G : Hp} : ∀ {ds : List D} {ys : List Str} {vs : List V}, strsOf ds = some ys -> Reps K mg G ds vs -> vs = ys.map V.str
  | [], _, _, h, r => by cases h; cases r; rfl
  | .str y :: ds, _, _, h, ⟨v, t, e1, r1, r2⟩ => by
    subst e1
    cases hd : strsOf ds with
    | none => simp [strsOf, hd] at h
    | some ys' =>
      simp [strsOf, hd] at h
      subst h
      rw [Reps.strs hd r2]
      have : v = V.str y := r1
      rw [this]; rfl
  | .non :: _, _, _, h, _ => by simp [strsOf] at h
  | .bl _ :: _, _, _, h, _ => by simp [strsOf] at h
  | .int _ :: _, _, _, h, _ => by simp [strsOf] at h
  | .ty _ :: _, _, _, h, _ => by simp [strsOf] at h
  | .cls _ :: _, _, _, h, _ => by simp [strsOf] at h
  | .tup _ :: _, _, _, h, _ => by simp [strsOf] at h
  | .lst _ :: _, _, _, h, _ => by simp [strsOf] at h
  | .dct _ _ :: _, _, _, h, _ => by simp [strsOf] at h
  | .exc _ _ :: _, _, _, h, _ => by simp [strsOf] at h
theorem vals_strs : ∀ {ys : List Str} {us : List Value}, Vals (ys.map V.str) us -> ∃ l : List (Str × Tok), us = strValues l /\ l.map (·.1) = ys
  | [], _, h => by cases h; exact ⟨[], rfl, rfl⟩
  | y :: ys, _, h => by
    cases h with
    | cons q t =>
      obtain ⟨l, rfl, hl⟩ := vals_strs t
      obtain ⟨tk, rfl⟩ := q
      exact ⟨(y, tk) :: l, rfl, by rw [xbe, hl]⟩
def sumL (sep : Str) (ys : List Str) : Nat := ys.toArray.foldl (· + ·.length + sep.length) 0
def rJoin (K : xFg) : V -> List V -> Hp -> VK -> Prop := fun x vs H Q => ∃ sep b ys, x = .str sep /\ vs = [.ref b] /\ SqL K H b (ys.map V.str) /\ sumL sep ys <= sizeLine /\ (joinT sep ys).length <= sizeLine /\ Q (.str (joinT sep ys)) H
theorem mt_join : MtM X "str.join" (rJoin X.K) := by
  intro pins s O H x vs v us Q I rx rv h
  obtain ⟨sep, b, ys, rfl, rfl, hB, hz, hz2, q⟩ := h
  obtain ⟨t, rfl⟩ := rx
  obtain ⟨u, rfl, ru⟩ := rv.one
  cases ru
  obtain ⟨its, r, pl, _⟩ := I.list hB
  obtain ⟨l, rfl, hl⟩ := vals_strs r
  subst hl
  refine call_meets F.slot_str_join (typeIs_str s sep t) F.entry_str_join (F.args_str_join_2 _ _) (meets_str_join_list sep t b l (xat (by show ¬ sizeLine < _; exact Nat.not_lt.mpr hz))) ⟨pl.isList, ?_⟩
  match l, hz2, q with
  | [], hz2, q => exact ⟨hz2, .str _, H, I.tok _, ⟨_, rfl⟩, q⟩
  | [p], hz2, q => exact ⟨.str _, H, I, ⟨_, rfl⟩, q⟩
  | _ :: _ :: _, hz2, q => exact ⟨hz2, .str _, H, I.tok _, ⟨_, rfl⟩, q⟩
def joinD (sep : D) (d : D) : R D := match sep, d with
  | .str z, .lst ds => match strsOf ds with
    | some ys => bif le24 (sumL z ys) && le24 (joinT z ys).length then .ok (.str (joinT z ys)) else .bad
    | none => .bad
  | _, _ => .bad
def joinE (fe : DSt -> R D) (O : DSt) : D -> R D
  | .str z => (fe O).bind fun d => joinD (.str z) d
  | _ => .bad
def eJoin (fo fe : DSt -> R D) : DSt -> R D := fun O => (fo O).bind fun z => joinE fe O z
theorem de_join {o e : Expr} {fo fe : DSt -> R D} {apos cpos : Pos} (ho : DE X E o fo) (he : DE X E e fe)
    (hbase : attributeBase o "join" X.env (eval o X.env) = eval o X.env := by rfl)
    (hfew : ((backTo cpos (starEach [e] X.env)).all (fun x => !x.1) && (backToKw cpos (keywordEach [] X.env)).all (fun x => x.1.isSome) && decide ([e].length + ([] : List Keyword).length + (if ([] : List Keyword).isEmpty then 0 else 1) < 30)) = true := by rfl)
    (hline : (apos.endLine == cpos.line) = true := by rfl) (hs : starEach [e] X.env = (false, eval e X.env) :: starEach [] X.env := by rfl) (hplain : (backTo cpos (starEach [] X.env)).any (·.1) = false := by rfl) :
    DE X E (.Call (.Attribute o "join" apos) [e] [] cpos) (eJoin fo fe) := by
  refine PE.mono' (pe_bm PySem.F.plainAttrs_str PySem.F.slot_str_join PySem.F.type_str_join mt_join ho (da_cons he da_nil hs) hbase hfew hline hs hplain) fun O H Q ⟨G, Od, ok, q⟩ => ?_
  refine tE_then (P := After X.K X.mg Q) ok q fun z x G1 H1 s1 ok1 r1 q1 => ?_
  cases z with
  | str y =>
    cases r1
    refine ⟨rfl, G1, Od, ok1, (show RW ((aCons fe aNil) Od) _ _ from ?_)⟩
    unfold aCons
    have q2 := (show RW ((fe Od).bind fun d => joinD (.str y) d) _ _ from q1).of_bind
    cases hf : fe Od with
    | bad => rw [hf] at q2; exact q2.elim
    | err e => rw [hf] at q2; exact (show AfterX X.K X.mg E G1 H1 e from q2)
    | ok d =>
      rw [hf] at q2
      have q3 : RW (joinD (.str y) d) (After X.K X.mg Q G H) (AfterX X.K X.mg E G1 H1) := q2
      rintro ws G2 H2 s2 ⟨v, _, e1, r3, r4⟩
      subst e1
      cases r4
      cases d with
      | lst ds =>
        obtain ⟨b, vs, rfl, hb, hv⟩ := r3
        cases hs' : strsOf ds with
        | none => simp only [joinD, hs'] at q3; exact q3.elim
        | some ys =>
          have ev := Reps.strs hs' hv
          subst ev
          cases hC : (le24 (sumL y ys) && le24 (joinT y ys).length) with
          | false => simp only [joinD, hs', hC, cond_false] at q3; exact q3.elim
          | true =>
            simp only [joinD, hs', hC, cond_true] at q3
            rw [xay] at hC
            exact ⟨y, b, ys, rfl, rfl, s2.e.seq hb, xaj hC.1, xaj hC.2, After.now ((show After X.K X.mg Q G H (.str (joinT y ys)) from q3).step (s1.trans s2)) s2.e rfl⟩
      | _ => exact (show False from q3).elim
  | _ => exact (show False from q1).elim
theorem vals_of_strs : ∀ l : List (Str × Tok), Vals (l.map fun p => V.str p.1) (strValues l)
  | [] => .nil
  | p :: l => .cons ⟨p.2, rfl⟩ (vals_of_strs l)
theorem reps_of_strs {K : xFg} {mg : Str -> Option Value} {G : Hp} : ∀ l : List (Str × Tok), Reps K mg G (l.map fun p => D.str p.1) (l.map fun p => V.str p.1)
  | [] => Reps.nil
  | p :: l => Reps.cons rfl (reps_of_strs l)
theorem rep_ktup {K : xFg} {mg : Str -> Option Value} {G : Hp} {a : Addr} {its : Array Value} {n : Nat} {sl : Array (Option Value)} {l : List (Str × Tok)} (lk : K.lookup a = some ⟨.type "tuple", none, .seq its n, sl⟩) (h : its.toList = strValues l) (hz : l.length <= 100) : Rep K mg G (.tup (l.map fun p => D.str p.1)) (.ref a) := by
  refine ⟨a, _, rfl, .inr ⟨_, its, n, lk, rfl, rfl, ?_, by rw [h]; exact vals_of_strs l, rfl⟩, reps_of_strs l⟩
  rw [<- xby, h]
  unfold strValues
  rw [xao]
  exact xax hz (by decide)
end
end DL
namespace DL
open L2 PyProof.Rows
section
variable {prog : Program} {w : World} {A : Around} {E : Value -> Shared -> Prop} {s : Shared}
theorem items_int {ks : List Int} {vs : List Value} (h : ItemsAre (intKind prog w) ks vs) : ∀ v ∈ vs, ∃ i t, v = .int i t := by
  induction h with
  | nil => intro v hv; cases hv
  | cons q _ ih =>
    intro v hv
    rcases xam.mp hv with rfl | hv
    · cases v with
      | int i t => exact ⟨i, t, rfl⟩
      | _ => cases q
    · exact ih v hv
structure TSet (prog : Program) (w : World) (h : Heap) (a : Addr) (o : Obj) (es : Array (Int × Value)) (ep : Nat) (t : SetTable) (kss : List (List Int)) : Prop where
  get : h.get? a = some o
  ex : o.ExactSet
  dat : o.data = .set es ep t
  dm : t.dummies = #[]
  pl : t.place.size = es.size
  msk : (t.mask = 7 /\ es.size <= 4) \/ (t.mask = 31 /\ es.size <= 18)
  n : es.size = kss.length
  el : ∀ e ∈ es.toList, ∃ c ls, e.2 = .ref c /\ IsTupleKey (intKind prog w) h ls c /\ ls ∈ kss
variable {h : Heap} {a : Addr} {o : Obj} {es : Array (Int × Value)} {ep : Nat} {t : SetTable} {kss : List (List Int)}
end
end DL
namespace L2
open PyProof.Rows
section
variable {prog : Program} {w : World} {A : Around} {E : Value -> Shared -> Prop} {s : Shared}
theorem nx_tup {it t : Addr} {k : Nat} {its : Array Value} {x : Value} {Q : Value -> Shared -> Prop} (st : s.heap.IsTupleIter it t k) (ht : s.heap.IsTuple t its) (hx : its[k]? = some x)
    (q : ∀ g, g.IsTupleIter it t (k + 1) -> Heap.SameBut it s.heap g -> Q x { s with heap := g }) : wpAny (model prog w) A (Builtin.SmallTypes.nextOf (.ref it)) Q E s := by
  obtain ⟨o, eo, co, d⟩ := id st
  obtain ⟨l, el, _, n, dl⟩ := ht
  unfold Builtin.SmallTypes.nextOf
  apply xaa
  refine wpAny_callSpecial?_slot (name := "__next__") st.typeIs F.slot_tuple_iterator_next ?_
  refine wpAny_call_entry F.slot_tuple_iterator_next st.typeIs F.entry_tuple_iterator_next ?_ (F.args_tuple_iterator_next_1 _)
  show wpAny _ _ (field (.ref it) 0 >>= _) _ _ s
  apply xaa
  refine wpAny_field eo d (x := .ref t) rfl ?_
  show wpAny _ _ (if (Value.ref t == .none) = true then _ else _) _ _ s
  have nn : ¬ (Value.ref t == .none) = true := xaw
  rw [xap nn]
  show wpAny _ _ (field (.ref it) 1 >>= _) _ _ s
  apply xaa
  refine wpAny_field eo d (x := .int k 0) rfl ?_
  show wpAny _ _ (seqItems? (.ref t) >>= _) _ _ s
  apply xaa
  refine wpAny_seqItems el dl ?_
  simp only [hx, xbs]
  apply xaa
  refine wpAny_setField eo d (by simp) (xan ⟨x, rfl, xan (q _ ⟨_, xcn _ eo (Obj.isFreed_of_fields (Obj.data_mapFields d _)), (Obj.cls_mapFields ..).trans co, ?_⟩ (.update ..))⟩)
  rw [Obj.data_mapFields d]; simp [rawInt]
theorem nx_tup_end {it t : Addr} {k : Nat} {its : Array Value} {Q : Value -> Shared -> Prop} (hh : A.handled = none) (st : s.heap.IsTupleIter it t k) (ht : s.heap.IsTuple t its) (hx : its[k]? = none)
    (q : ∀ g e, Heap.ExtBut it s.heap g -> (∃ o, g.get? e = some o /\ o.cls = .type "StopIteration") -> E (.ref e) { s with heap := g }) : wpAny (model prog w) A (Builtin.SmallTypes.nextOf (.ref it)) Q E s := by
  obtain ⟨o, eo, co, d⟩ := id st
  obtain ⟨l, el, _, n, dl⟩ := ht
  unfold Builtin.SmallTypes.nextOf
  apply xaa
  refine wpAny_callSpecial?_slot (name := "__next__") st.typeIs F.slot_tuple_iterator_next ?_
  refine wpAny_call_entry F.slot_tuple_iterator_next st.typeIs F.entry_tuple_iterator_next ?_ (F.args_tuple_iterator_next_1 _)
  show wpAny _ _ (field (.ref it) 0 >>= _) _ _ s
  apply xaa
  refine wpAny_field eo d (x := .ref t) rfl ?_
  show wpAny _ _ (if (Value.ref t == .none) = true then _ else _) _ _ s
  have nn : ¬ (Value.ref t == .none) = true := xaw
  rw [xap nn]
  show wpAny _ _ (field (.ref it) 1 >>= _) _ _ s
  apply xaa
  refine wpAny_field eo d (x := .int k 0) rfl ?_
  show wpAny _ _ (seqItems? (.ref t) >>= _) _ _ s
  apply xaa
  refine wpAny_seqItems el dl ?_
  simp only [hx, xbs]
  apply xaa; apply wpAny_rule; apply xaa
  refine wpAny_setField eo d (by simp) ?_
  show wpAny _ _ (newExc (.type "StopIteration") [] >>= _) _ _ _
  apply xaa
  simp only [newExc, newTuple]
  apply xaa
  refine wpAny_newObj_type ?_ (by size_fits)
  apply xaa (m := firstArgMember _ _)
  refine wpAny_of_eq (a := Value.none) (by first | rfl | (simp only [firstArgMember]; rfl)) ?_
  refine wpAny_newObj_type ?_ (by size_fits)
  simp only [raiseNew]
  apply xaa
  refine wpAny_handled ?_
  first | rw [show A.in1.handled = none from hh] | rw [hh]
  exact xaa (xan (wpAny_throw (q _ _ (((Heap.SameBut.update ..).extBut.push _).push _) ⟨_, xau _ rfl, rfl⟩)))
structure ZAt (h : Heap) (z TI TO i1 i2 t1 t2 : Addr) (k : Nat) (xs ys : Array Value) (f : Value) : Prop where
  z : IsZip h z TI TO f
  ti : IsPair h TI (.ref i1) (.ref i2)
  to : ∃ a b, IsPair h TO a b
  i1 : h.IsTupleIter i1 t1 k
  i2 : h.IsTupleIter i2 t2 k
  t1 : h.IsTuple t1 xs
  t2 : h.IsTuple t2 ys
theorem ZAt.next {z TI TO i1 i2 t1 t2 : Addr} {k : Nat} {xs ys : Array Value} {x y : Value} {Q : Value -> Shared -> Prop} (D : ZipApart z TI TO i1 i2 t1 t2) (Z : ZAt s.heap z TI TO i1 i2 t1 t2 k xs ys .none) (hx : xs[k]? = some x) (hy : ys[k]? = some y)
    (q : ∀ g, ZAt g z TI TO i1 i2 t1 t2 (k + 1) xs ys (rawInt s.heap.objs.size) -> IsPair g s.heap.objs.size x y -> g.objs.size = s.heap.objs.size + 1 -> (∀ c o, c ≠ z -> c ≠ TO -> c ≠ i1 -> c ≠ i2 -> s.heap.get? c = some o -> g.get? c = some o) -> Q (.ref s.heap.objs.size) { s with heap := g }) :
    wpAny (model prog w) A (Builtin.«zip.__next__» ⟨[.ref z], []⟩) (fun fin s' => ∃ v, fin = .done (.ret v) /\ Q v s') E s := by
  obtain ⟨a, b, hTO⟩ := Z.to
  show wpAny _ _ (field (.ref z) 2 >>= _) _ _ _
  apply xaa
  refine wpAny_field Z.z rfl (x := .bool false) rfl ?_
  show wpAny _ _ (field (.ref z) 3 >>= _) _ _ _
  apply xaa
  refine wpAny_field Z.z rfl (x := .ref TI) rfl ?_
  apply xaa
  refine wpAny_seqItems Z.ti rfl ?_
  show wpAny _ _ (Builtin.SmallTypes.ownedTupleIsFree (.ref z) >>= _) _ _ _
  apply xaa
  unfold Builtin.SmallTypes.ownedTupleIsFree
  apply xaa
  refine wpAny_field Z.z rfl (x := .none) rfl (xan ?_)
  simp only [if_true]
  apply xaa; apply wpAny_rule; apply xaa
  refine wpAny_field Z.z rfl (x := .ref TO) rfl ?_
  apply xaa
  refine wpAny_setField_rec Z.z (by simp) fun g1 z1 s1 => ?_
  have z1 : IsZip g1 z TI TO .ellipsis := z1
  apply xaa
  simp only [List.zipIdx_cons, List.zipIdx_nil, xbp, List.forIn_nil]
  apply xaa; apply xaa; apply wpAny_onRaise
  show wpAny _ _ (Builtin.SmallTypes.nextOf (.ref i1) >>= _) _ _ _
  apply xaa
  refine nx_tup (Z.i1.extBut s1.extBut D.i1z) (Z.t1.extBut s1.extBut D.l1z) hx fun g2 j2 s2 => xan ?_
  have o2 : IsPair g2 TO a b := s2.extBut _ _ D.TOi1 (s1.extBut _ _ D.TOz hTO)
  apply xaa
  refine wpAny_seqItems o2 rfl ?_
  apply xaa
  refine wpAny_updateSeq_pair o2 fun g3 o3 s3 => ?_
  have o3 : IsPair g3 TO x b := o3
  apply xaa
  refine wpAny_letGo (xan ?_)
  apply xaa; apply xaa; apply wpAny_onRaise
  show wpAny _ _ (Builtin.SmallTypes.nextOf (.ref i2) >>= _) _ _ _
  apply xaa
  have u3 : ∀ c o, c ≠ z -> c ≠ TO -> c ≠ i1 -> s.heap.get? c = some o -> g3.get? c = some o := fun c o n1 n2 n3 e => s3.extBut _ _ n2 (s2.extBut _ _ n3 (s1.extBut _ _ n1 e))
  refine nx_tup (Z.i2.at fun o e => u3 _ o D.i2z D.TOi2.symm D.i12.symm e) (Z.t2.at fun o e => u3 _ o D.l2z D.l2TO D.l2i1 e) hy fun g4 j4 s4 => xan ?_
  have o4 : IsPair g4 TO x b := s4.extBut _ _ D.TOi2 o3
  apply xaa
  refine wpAny_seqItems o4 rfl ?_
  apply xaa
  refine wpAny_updateSeq_pair o4 fun g5 o5 s5 => ?_
  have o5 : IsPair g5 TO x y := o5
  apply xaa
  refine wpAny_letGo (xan (xan ?_))
  apply xaa
  refine wpAny_seqItems o5 rfl ?_
  apply xaa
  refine wpAny_newTuple ?_
  have sz : g5.objs.size = s.heap.objs.size := s5.1.trans (s4.1.trans (s3.1.trans (s2.1.trans s1.1)))
  have z5 : IsZip g5 z TI TO .ellipsis := s5.extBut _ _ D.TOz.symm (s4.extBut _ _ D.i2z.symm (s3.extBut _ _ D.TOz.symm (s2.extBut _ _ D.i1z.symm z1)))
  have u5 : ∀ c o, c ≠ z -> c ≠ TO -> c ≠ i1 -> c ≠ i2 -> s.heap.get? c = some o -> g5.get? c = some o := fun c o n1 n2 n3 n4 e => s5.extBut _ _ n2 (s4.extBut _ _ n4 (u3 c o n1 n2 n3 e))
  have a5 : g5.IsTupleIter i1 t1 (k + 1) := j2.at fun o e => s5.extBut _ _ D.TOi1.symm (s4.extBut _ _ D.i12 (s3.extBut _ _ D.TOi1.symm e))
  have b5 : g5.IsTupleIter i2 t2 (k + 1) := j4.at fun o e => s5.extBut _ _ D.TOi2.symm e
  have lz : z < g5.objs.size := xai z5
  show wpAny _ _ (Builtin.SmallTypes.ownedTupleHandOut (.ref z) (.ref g5.objs.size) >>= _) _ _ _
  apply xaa
  unfold Builtin.SmallTypes.ownedTupleHandOut
  have z6 : IsZip (g5.push { cls := .type "tuple", data := .seq #[x, y] }) z TI TO .ellipsis := xab _ z5
  apply xaa
  refine wpAny_setField_rec z6 (by simp) fun g7 z7 s7 => ?_
  have z7 : IsZip g7 z TI TO (rawInt g5.objs.size) := z7
  refine wpAny_setField_rec z7 (by simp) fun g8 z8 s8 => ?_
  have z8 : IsZip g8 z TI TO (rawInt g5.objs.size) := z8
  have up : ∀ c o, c ≠ z -> g5.get? c = some o -> g8.get? c = some o := fun c o n e => s8.extBut _ _ n (s7.extBut _ _ n (xab _ e))
  have p8 : IsPair g8 g5.objs.size x y := s8.extBut _ _ (xb1 lz) (s7.extBut _ _ (xb1 lz) (xau _ rfl))
  have w8 : g8.objs.size = g5.objs.size + 1 := s8.1.trans (s7.1.trans (xb2 ..))
  rw [sz] at z8 p8 w8
  refine xan ⟨_, rfl, ?_⟩
  show Q (.ref g5.objs.size) _
  rw [sz]
  have nT : ∀ c o, s.heap.get? c = some o -> c ≠ z -> c ≠ TO -> c ≠ i1 -> c ≠ i2 -> g8.get? c = some o := fun c o e n1 n2 n3 n4 => up c o n1 (u5 c o n1 n2 n3 n4 e)
  exact q g8 ⟨z8, nT _ _ Z.ti D.TIz D.TITO D.TIi1 D.TIi2, ⟨_, _, up _ _ D.TOz o5⟩, a5.at fun o e => up _ o D.i1z e, b5.at fun o e => up _ o D.i2z e, Z.t1.at fun o e => nT _ o e D.l1z D.l1TO D.l1i1 D.l1i2, Z.t2.at fun o e => nT _ o e D.l2z D.l2TO D.l2i1 D.l2i2⟩ p8 w8 fun c o n1 n2 n3 n4 e => nT c o e n1 n2 n3 n4
theorem ZAt.last {z TI TO i1 i2 t1 t2 : Addr} {k : Nat} {xs ys : Array Value} {Q : Fin -> Shared -> Prop} (hh : A.handled = none) (D : ZipApart z TI TO i1 i2 t1 t2) (Z : ZAt s.heap z TI TO i1 i2 t1 t2 k xs ys .none) (hx : xs[k]? = none)
    (q : ∀ g e, (∀ c o, c ≠ z -> c ≠ TO -> c ≠ i1 -> c ≠ i2 -> s.heap.get? c = some o -> g.get? c = some o) -> (∃ o, g.get? e = some o /\ o.cls = .type "StopIteration") -> E (.ref e) { s with heap := g }) :
    wpAny (model prog w) A (Builtin.«zip.__next__» ⟨[.ref z], []⟩) Q E s := by
  show wpAny _ _ (field (.ref z) 2 >>= _) _ _ _
  apply xaa
  refine wpAny_field Z.z rfl (x := .bool false) rfl ?_
  show wpAny _ _ (field (.ref z) 3 >>= _) _ _ _
  apply xaa
  refine wpAny_field Z.z rfl (x := .ref TI) rfl ?_
  apply xaa
  refine wpAny_seqItems Z.ti rfl ?_
  show wpAny _ _ (Builtin.SmallTypes.ownedTupleIsFree (.ref z) >>= _) _ _ _
  apply xaa
  unfold Builtin.SmallTypes.ownedTupleIsFree
  apply xaa
  refine wpAny_field Z.z rfl (x := .none) rfl (xan ?_)
  simp only [if_true]
  apply xaa; apply wpAny_rule; apply xaa
  refine wpAny_field Z.z rfl (x := .ref TO) rfl ?_
  apply xaa
  refine wpAny_setField_rec Z.z (by simp) fun g1 z1 s1 => ?_
  have z1 : IsZip g1 z TI TO .ellipsis := z1
  apply xaa
  simp only [List.zipIdx_cons, List.zipIdx_nil, xbp, List.forIn_nil]
  apply xaa; apply xaa; apply wpAny_onRaise
  show wpAny _ _ (Builtin.SmallTypes.nextOf (.ref i1) >>= _) _ _ _
  apply xaa
  refine nx_tup_end hh (Z.i1.extBut s1.extBut D.i1z) (Z.t1.extBut s1.extBut D.l1z) hx fun g2 e s2 he => ?_
  obtain ⟨o, eo, co⟩ := he
  have z2 : IsZip g2 z TI TO .ellipsis := s2 _ _ D.i1z.symm z1
  have ez : e ≠ z := fun w => by subst w; rw [z2] at eo; cases eo; simp at co
  refine wpAny_setField_rec z2 (by simp) fun g3 _ s3 => ?_
  exact q g3 e (fun c o n1 _ n3 _ w => s3.extBut _ _ n1 (s2 _ _ n3 (s1.extBut _ _ n1 w))) ⟨o, s3.extBut _ _ ez eo, co⟩
theorem zip_on {z TI TO i1 i2 t1 t2 : Addr} {k : Nat} {xs ys : Array Value} {x y : Value} {Q : Option Value -> Shared -> Prop} (D : ZipApart z TI TO i1 i2 t1 t2) (Z : ZAt s.heap z TI TO i1 i2 t1 t2 k xs ys .none) (hx : xs[k]? = some x) (hy : ys[k]? = some y)
    (q : ∀ g, ZAt g z TI TO i1 i2 t1 t2 (k + 1) xs ys (rawInt s.heap.objs.size) -> IsPair g s.heap.objs.size x y -> g.objs.size = s.heap.objs.size + 1 -> (∀ c o, c ≠ z -> c ≠ TO -> c ≠ i1 -> c ≠ i2 -> s.heap.get? c = some o -> g.get? c = some o) -> Q (some (.ref s.heap.objs.size)) { s with heap := g }) :
    wpAny (model prog w) A (pyNext (.ref z)) Q E s := by
  have T : s.TypeIs (.ref z) "zip" := ⟨_, Z.z, rfl⟩
  unfold pyNext
  apply xaa; apply wpAny_attempt
  refine wpAny_callSpecial?_slot (name := "__next__") T F.slot_zip_next ?_
  refine wpAny_call_entry F.slot_zip_next T F.entry_zip_next ?_ (F.args_zip_next_1 _)
  exact Z.next D hx hy fun g a1 a2 a3 a4 => xan (q g a1 a2 a3 a4)
theorem zip_off {z TI TO i1 i2 t1 t2 : Addr} {k : Nat} {xs ys : Array Value} {Q : Option Value -> Shared -> Prop} (hh : A.handled = none) (D : ZipApart z TI TO i1 i2 t1 t2) (Z : ZAt s.heap z TI TO i1 i2 t1 t2 k xs ys .none) (hx : xs[k]? = none)
    (q : ∀ g, (∀ c o, c ≠ z -> c ≠ TO -> c ≠ i1 -> c ≠ i2 -> s.heap.get? c = some o -> g.get? c = some o) -> Q none { s with heap := g }) : wpAny (model prog w) A (pyNext (.ref z)) Q E s := by
  have T : s.TypeIs (.ref z) "zip" := ⟨_, Z.z, rfl⟩
  unfold pyNext
  apply xaa; apply wpAny_attempt
  refine wpAny_callSpecial?_slot (name := "__next__") T F.slot_zip_next ?_
  refine wpAny_call_entry F.slot_zip_next T F.entry_zip_next ?_ (F.args_zip_next_1 _)
  refine Z.last hh D hx fun g e hk he => ?_
  obtain ⟨o, ho, hc⟩ := he
  apply xaa
  exact wpAny_isInstance (T := "StopIteration") (b := true) ⟨o, ho, hc⟩ isSubtype_stop (xan (q _ hk))
def ti0 (t : Addr) : Obj := { cls := .type "tuple_iterator", data := .fields #[.ref t, .int 0 0] }
def tp2 (a b : Value) : Obj := { cls := .type "tuple", data := .seq #[a, b] }
def zp0 (TI TO : Addr) : Obj := { cls := .type "zip", data := .fields #[.none, .bool false, .bool false, .ref TI, .ref TO] }
def zpH (h : Heap) (t1 t2 : Addr) : Heap :=
  ((((h.push (ti0 t1)).push (ti0 t2)).push (tp2 (.ref h.objs.size) (.ref (h.push (ti0 t1)).objs.size))).push (tp2 .none .none)).push (zp0 ((h.push (ti0 t1)).push (ti0 t2)).objs.size (((h.push (ti0 t1)).push (ti0 t2)).push (tp2 (.ref h.objs.size) (.ref (h.push (ti0 t1)).objs.size))).objs.size)
theorem meets_zipT (t1 t2 : Addr) (xs ys : Array Value) : Meets (Builtin.«zip.__new__» ⟨[.type "zip", .ref t1, .ref t2], []⟩) (fun _ R s => s.heap.IsTuple t1 xs /\ s.heap.IsTuple t2 ys /\
    R (.ok (.ret (.ref ((((s.heap.push (ti0 t1)).push (ti0 t2)).push (tp2 (.ref s.heap.objs.size) (.ref (s.heap.push (ti0 t1)).objs.size))).push (tp2 .none .none)).objs.size))) { s with heap := zpH s.heap t1 t2 }) :=
  .of_wp fun prog w A R s h => by
    obtain ⟨hp, g, d, tk, os⟩ := s; obtain ⟨h1, h2, h⟩ := h
    have sub := sub_zip
    have L1 : Heap.IsTuple (Shared.heap ⟨hp, g, d, tk, os⟩) t1 xs := h1
    have L2 : Heap.IsTuple (Shared.heap ⟨hp.push { cls := .type "tuple_iterator", data := .fields #[.ref t1, .int 0 0] }, g, d, tk, os⟩) t2 ys := h2.at fun o e => xab _ e
    wp_walk using wpAny_pyIter_tuple L1, wpAny_pyIter_tuple L2
    exact ⟨_, rfl, h⟩
theorem call_zipT {t1 t2 : Addr} {xs ys : Array Value} {Q : Value -> Shared -> Prop} (h1 : s.heap.IsTuple t1 xs) (h2 : s.heap.IsTuple t2 ys)
    (q : ∀ g, ZAt g (s.heap.objs.size + 4) (s.heap.objs.size + 2) (s.heap.objs.size + 3) s.heap.objs.size (s.heap.objs.size + 1) t1 t2 0 xs ys .none -> (∀ c o, s.heap.get? c = some o -> g.get? c = some o) -> Q (.ref (s.heap.objs.size + 4)) { s with heap := g }) :
    wpAny (model prog w) A (call (.type "zip") [.ref t1, .ref t2]) Q E s := by
  refine callType_new F.called_zip (by decide) (F.typeCall_zip_2 _ _) (F.newCall_zip_2 _ _) (fun obj => F.args_object_init_3 obj _ _) F.entry_zip_new (meets_zipT t1 t2 xs ys) ⟨h1, h2, ?_⟩
  have a1 : (s.heap.push (ti0 t1)).objs.size = s.heap.objs.size + 1 := xb2 ..
  have a2 : ((s.heap.push (ti0 t1)).push (ti0 t2)).objs.size = s.heap.objs.size + 2 := by rw [xb2, a1]
  have a3 : (((s.heap.push (ti0 t1)).push (ti0 t2)).push (tp2 (.ref s.heap.objs.size) (.ref (s.heap.push (ti0 t1)).objs.size))).objs.size = s.heap.objs.size + 3 := by rw [xb2, a2]
  have a4 : ((((s.heap.push (ti0 t1)).push (ti0 t2)).push (tp2 (.ref s.heap.objs.size) (.ref (s.heap.push (ti0 t1)).objs.size))).push (tp2 .none .none)).objs.size = s.heap.objs.size + 4 := by rw [xb2, a3]
  have k : ∀ c o, s.heap.get? c = some o -> (zpH s.heap t1 t2).get? c = some o := fun c o e => xab _ (xab _ (xab _ (xab _ (xab _ e))))
  have b5 : (zpH s.heap t1 t2).get? (s.heap.objs.size + 4) = some (zp0 (s.heap.objs.size + 2) (s.heap.objs.size + 3)) := by
    unfold zpH; rw [a2, a3]; exact xck a4.symm rfl
  have b4 : (zpH s.heap t1 t2).get? (s.heap.objs.size + 3) = some (tp2 .none .none) := xab _ (xck a3.symm rfl)
  have b3 : (zpH s.heap t1 t2).get? (s.heap.objs.size + 2) = some (tp2 (.ref s.heap.objs.size) (.ref (s.heap.objs.size + 1))) := xab _ (xab _ (by rw [a1]; exact xck a2.symm rfl))
  have b2 : (zpH s.heap t1 t2).get? (s.heap.objs.size + 1) = some (ti0 t2) := xab _ (xab _ (xab _ (xck a1.symm rfl)))
  have b1 : (zpH s.heap t1 t2).get? s.heap.objs.size = some (ti0 t1) := xab _ (xab _ (xab _ (xab _ (xau _ rfl))))
  show _ /\ _
  rw [a4]
  exact ⟨⟨_, b5, rfl⟩, q _ ⟨b5, b3, ⟨_, _, b4⟩, ⟨_, b1, rfl, rfl⟩, ⟨_, b2, rfl, rfl⟩, h1.at fun o e => k _ o e, h2.at fun o e => k _ o e⟩ k⟩
end
section
variable {X : Cx} {pins : List (Addr × Obj)} {O : St} {H : Hp} {s : Shared} {h' : Heap}
theorem Inv.turnedL {t' : Nat} {ch : List Addr} (I : Inv X pins O H s) (k : ∀ b o, b ∉ ch -> s.heap.get? b = some o -> h'.get? b = some o) (f : ∀ b ∈ ch, FpOk X pins H b) : Inv X pins O H { s with heap := h', toks := t' } := by
  have nit : ∀ b u, H b = some u -> b ∉ ch := fun b u e z => by rw [(f b z).1] at e; cases e
  refine I.step (g' := s.gens) (d' := s.drawn) (ch := ch) (fun b hb => ?_) (fun b o _ _ hc e _ => k b o hc e) (fun b o _ _ hc e _ => ⟨o.slots, k b o hc e⟩) (fun _ _ _ _ n => n) (fun b o hc e => ⟨o, k b o hc e⟩) (fun _ _ e => e) (fun _ _ _ e => e) (fun b ps e => ⟨#[], by rw [e]; simp⟩) (fun m hm => ?_) (fun b u e => ?_) I.bare
  · obtain ⟨_, f1, _, f3, f4, f5⟩ := f b hb
    exact ⟨f3, f1, f4, f5⟩
  · obtain ⟨o, es, ep, ho, r⟩ := hm
    exact ⟨o, es, ep, k _ o (fun z => (f _ z).2.1 rfl) ho, r⟩
  · refine (I.hok b u e).stay (fun c v hc q => k c v ?_ q) (fun _ q => q) fun _ _ q => q
    rcases hc with z | z
    · rw [z]; exact nit b u e
    · exact nit c _ z
end
def Itz (K : xFg) (a b : Addr) : It :=
  ⟨fun i H => ∃ xs ys x y, SqT K H a xs /\ SqT K H b ys /\ xs[i]? = some x /\ ys[i]? = some y,
   fun i H v H' => ∃ T x y, v = .ref T /\ H T = none /\ H' = upd H T (.tup [x, y]) /\ (∀ xs, SqT K H a xs -> xs[i]? = some x) /\ ∀ ys, SqT K H b ys -> ys[i]? = some y,
   fun i H => ∃ xs ys, SqT K H a xs /\ SqT K H b ys /\ xs.length <= i⟩
structure ZT (z TI TO i1 i2 a b : Addr) (k : Nat) (h : Heap) : Prop where
  z : IsZip h z TI TO .none
  ti : IsPair h TI (.ref i1) (.ref i2)
  to : ∃ u v, IsPair h TO u v
  i1 : h.IsTupleIter i1 a k
  i2 : h.IsTupleIter i2 b k
theorem turn_zip {P : Program} {w : World} {K : xFg} {es : List Expr} {ct : Nat} {ps : Pos} {z TI TO i1 i2 a b : Addr} (D : ZipApart z TI TO i1 i2 a b) : Turn P w K (.Tuple es ct ps) (Itz K a b) [z, TI, TO, i1, i2] z (ZT z TI TO i1 i2 a b) where
  mem := by simp
  obj := fun i h st c hc => by
    simp only [xam, xa1, or_false] at hc
    rcases hc with rfl | rfl | rfl | rfl | rfl
    · exact ⟨_, st.z, fun v q => by cases q⟩
    · exact ⟨_, st.ti, fun v q => by cases q⟩
    · obtain ⟨u, v, e⟩ := st.to
      exact ⟨_, e, fun v q => by cases q⟩
    · obtain ⟨o, e, c, d⟩ := st.i1
      exact ⟨o, e, fun v q => by rw [d] at q; cases q⟩
    · obtain ⟨o, e, c, d⟩ := st.i2
      exact ⟨o, e, fun v q => by rw [d] at q; cases q⟩
  keep := fun i h h' st k => by
    obtain ⟨u, v, e⟩ := st.to
    exact ⟨k _ (by simp) _ st.z, k _ (by simp) _ st.ti, ⟨u, v, k _ (by simp) _ e⟩, st.i1.at fun o e => k _ (by simp) o e, st.i2.at fun o e => k _ (by simp) o e⟩
  item := by
    intro X hP hw hK hc i pins s O H E I hf st hg
    subst hP hw hK
    obtain ⟨xs, ys, x, y, h1, h2, hx, hy⟩ := hg
    obtain ⟨its, rv, p, _⟩ := I.tuple h1
    obtain ⟨jts, rw', p', _⟩ := I.tuple h2
    obtain ⟨u, hu, ru⟩ := rv.get hx
    obtain ⟨v, hv, rr⟩ := rw'.get hy
    have Z : ZAt s.heap z TI TO i1 i2 a b i its.toArray jts.toArray .none := ⟨st.z, st.ti, st.to, st.i1, st.i2, p, p'⟩
    refine zip_on D Z (x := u) (y := v) (by simpa using hu) (by simpa using hv) fun g Zg pg sg kg => ⟨_, rfl, ?_⟩
    refine wpAny_letOwnedTupleGo_zip Zg.z fun g' zg sb => ?_
    have lz : z < s.heap.objs.size := xai st.z
    have I1 : Inv X pins O (upd H s.heap.objs.size (.tup [x, y])) { s with heap := s.heap.push (tp2 u v), toks := s.toks } :=
      I.laid (fun _ _ q => xab _ q) (xad _) ⟨by show 2 <= sizeLine; decide, [u, v], .cons ru (.cons rr .nil), ⟨_, xau _ rfl, rfl, ⟨0, rfl⟩, rfl⟩⟩
    have fr : ∀ c ∈ [z, TI, TO, i1, i2], c ≠ s.heap.objs.size := fun c hc e => by
      simp only [xam, xa1, or_false] at hc
      obtain ⟨u, v, eTO⟩ := st.to
      obtain ⟨o1, q1, _⟩ := st.i1
      obtain ⟨o2, q2, _⟩ := st.i2
      rcases hc with rfl | rfl | rfl | rfl | rfl
      · exact xa2 lz e
      · exact xa2 (xai st.ti) e
      · exact xa2 (xai eTO) e
      · exact xa2 (xai q1) e
      · exact xa2 (xai q2) e
    have I2 : Inv X pins O (upd H s.heap.objs.size (.tup [x, y])) { s with heap := g', toks := s.toks } := by
      refine Inv.turnedL (s := { s with heap := s.heap.push (tp2 u v), toks := s.toks }) (h' := g') (t' := s.toks) (ch := [z, TI, TO, i1, i2]) I1 (fun c o hc e => ?_) fun c hc => ?_
      · have cz : c ≠ z := fun q => hc (by simp [q])
        rcases Heap.get?_push_cases e with ⟨rfl, rfl⟩ | e
        · exact sb.extBut _ _ cz pg
        · exact sb.extBut _ _ cz (kg c o cz (fun q => hc (by simp [q])) (fun q => hc (by simp [q])) (fun q => hc (by simp [q])) e)
      · exact ⟨by rw [upd_ne (fr c hc)]; exact (hf c hc).1, (hf c hc).2⟩
    obtain ⟨u', v', eTO⟩ := Zg.to
    refine ⟨.ref s.heap.objs.size, _, I2, rfl, ⟨_, x, y, rfl, I.fresh, rfl, fun zs hz => by rw [I.tuple_inj hz h1]; exact hx, fun zs hz => by rw [I.tuple_inj hz h2]; exact hy⟩, ⟨zg, sb.extBut _ _ D.TIz Zg.ti, ⟨u', v', sb.extBut _ _ D.TOz eTO⟩, Zg.i1.at fun o e => sb.extBut _ _ D.i1z e, Zg.i2.at fun o e => sb.extBut _ _ D.i2z e⟩, fun c hc => by rw [upd_ne (fr c hc)]; exact (hf c hc).1⟩
  done := by
    intro X hP hw hK hc i pins s O H E I hf st hg
    subst hP hw hK
    obtain ⟨xs, ys, h1, h2, hx⟩ := hg
    obtain ⟨its, rv, p, _⟩ := I.tuple h1
    obtain ⟨jts, rw', p', _⟩ := I.tuple h2
    have Z : ZAt s.heap z TI TO i1 i2 a b i its.toArray jts.toArray .none := ⟨st.z, st.ti, st.to, st.i1, st.i2, p, p'⟩
    have hl := rv.length
    refine zip_off (I.ok.hd hc) D Z (by simp; omega) fun g kg => ⟨rfl, I.turnedL (t' := s.toks) (ch := [z, TI, TO, i1, i2]) (fun c o hc e => ?_) hf⟩
    exact kg c o (fun q => hc (by simp [q])) (fun q => hc (by simp [q])) (fun q => hc (by simp [q])) (fun q => hc (by simp [q])) e
  self := fun _ _ _ _ _ st h => wpAny_pyIter_zip st.z h
end L2
namespace DL
open L2 PyProof.Rows
section
variable {X : Cx} {E : XK}
def iZipV (K : xFg) (ta : TA) : TI := fun O H R => ta O H fun vs H1 => ∃ a b, vs = [.ref a, .ref b] /\ (∃ xs, SqT K H1 a xs) /\ (∃ ys, SqT K H1 b ys) /\ R (Itz K a b) H1
theorem pi_zip {a b : Expr} {ta : TA} {p pos ps : Pos} {es : List Expr} {ct : Nat} (hg : Gl X "zip") (hm : X.mg "zip" = none) (ha : PA X [a, b] ta) (hs : starEach [a, b] X.env = [(false, eval a X.env), (false, eval b X.env)] := by rfl) (hs2 : starEach [b] X.env = [(false, eval b X.env)] := by rfl) :
    PI X (.Tuple es ct ps) (.Call (.Name "zip" p) [a, b] [] pos) (iZipV X.K ta) := by
  intro pins s O H R I h
  refine Call_ (ld_blt I hg hm boot_zip (PyProof.Rows.callWith_type1 (thn (ha pos pins s O H _ I h) fun us s1 ⟨vs, H1, I1, r1, q1⟩ => ?_) (by rw [hs, hs2]) (by rw [hs2]; rfl)))
  obtain ⟨a, b, e, ⟨xs, hx⟩, ⟨ys, hy⟩, q⟩ := q1
  subst e
  cases r1 with
  | cons r rr =>
    cases rr with
    | cons r' rr =>
      cases rr
      cases r
      cases r'
      obtain ⟨its, _, p1, _⟩ := I1.tuple hx
      obtain ⟨jts, _, p2, _⟩ := I1.tuple hy
      have l1 : a < s1.heap.objs.size := by obtain ⟨o, e, _⟩ := p1; exact xai e
      have l2 : b < s1.heap.objs.size := by obtain ⟨o, e, _⟩ := p2; exact xai e
      refine call_zipT p1 p2 fun g Z kg => ?_
      refine wpAny_pyIter_zip Z.z ?_
      refine ⟨_, [s1.heap.objs.size + 4, s1.heap.objs.size + 2, s1.heap.objs.size + 3, s1.heap.objs.size, s1.heap.objs.size + 1], _, _, H1, rfl, I1.kept (t' := s1.toks) kg, turn_zip (zipApart_new l1 l2), ⟨Z.z, Z.ti, Z.to, Z.i1, Z.i2⟩, fun c hc => ?_, q⟩
      have hc : s1.heap.objs.size <= c := by
        simp only [xam, xa1, or_false] at hc
        rcases hc with rfl | rfl | rfl | rfl | rfl
        · exact xb8 _ _
        · exact xb8 _ _
        · exact xb8 _ _
        · exact xad _
        · exact xb8 _ _
      exact I1.fpOk hc (I1.hok.fresh hc)
def zipD (xs ys : List D) : List D := List.zipWith (fun x y => .tup [x, y]) xs ys
def iZip2 : List D -> R (List D)
  | [.tup xs, .tup ys] => bif xs.length == ys.length then .ok (zipD xs ys) else .bad
  | _ => .bad
theorem IterD.zip {K : xFg} {mg : Str -> Option Value} {G : Hp} {a b : Addr} {vs us : List V} {xs ys : List D} (h : SqT K G a vs) (h' : SqT K G b us) (r : Reps K mg G xs vs) (r' : Reps K mg G ys us) (hl : xs.length = ys.length) : IterD K mg (Itz K a b) G (zipD xs ys) := by
  have ln : (zipD xs ys).length = vs.length := by unfold zipD; rw [List.length_zipWith, <- hl, Nat.min_self, r.length]
  refine ⟨fun H e => ⟨vs, us, Same.sqT e h, Same.sqT e h', by rw [ln]; exact xad _⟩, fun H i d e hd => ?_⟩
  obtain ⟨x, y, hx, hy, rfl⟩ : ∃ x y, xs[i]? = some x /\ ys[i]? = some y /\ d = .tup [x, y] := by
    unfold zipD at hd
    rw [List.getElem?_zipWith] at hd
    cases ex : xs[i]? with
    | none => rw [ex] at hd; cases hd
    | some x =>
      cases ey : ys[i]? with
      | none => rw [ex, ey] at hd; cases hd
      | some y => rw [ex, ey] at hd; exact ⟨x, y, rfl, rfl, (xa4 hd).symm⟩
  obtain ⟨v, hv, rv⟩ := r.get hx
  obtain ⟨u, hu, ru⟩ := r'.get hy
  refine ⟨⟨vs, us, v, u, Same.sqT e h, Same.sqT e h', hv, hu⟩, ?_⟩
  rintro _ H' ⟨T, v', u', rfl, hn, rfl, q1, q2⟩ G1 e1 e2
  have z1 := q1 _ (Same.sqT e h)
  have z2 := q2 _ (Same.sqT e h')
  rw [hv] at z1; cases z1
  rw [hu] at z2; cases z2
  have st := Step.pub (o := .tup [v, u]) e2 hn
  exact ⟨upd G1 T (.tup [v, u]), st, T, [v, u], rfl, SqT.of upd_same, .cons (rv.mono (e1.trans st.g)) (.cons (ru.mono (e1.trans st.g)) rfl)⟩
theorem di_zip2 {a b : Expr} {fs : DSt -> R (List D)} {p pos ps : Pos} {es : List Expr} {ct : Nat} (hm : X.mg "zip" = none) (ha : DA X E [a, b] fs) (hg : Gl X "zip" := by rfl) (hs : starEach [a, b] X.env = [(false, eval a X.env), (false, eval b X.env)] := by rfl) (hs2 : starEach [b] X.env = [(false, eval b X.env)] := by rfl) :
    DI X E (.Tuple es ct ps) (.Call (.Name "zip" p) [a, b] [] pos) (iArgs iZip2 fs) := by
  refine PI.mono' (pi_zip hg hm ha hs hs2) fun O H R ⟨G, Od, ok, q⟩ => ?_
  refine ⟨G, Od, ok, q.of_bind.mono (fun ds _ z vs G' H' s r => ?_) fun _ z => z⟩
  match ds, z, r with
  | [.tup xs, .tup ys], z, r =>
    obtain ⟨v, r1, rfl, ⟨a, as, rfl, h1, k1⟩, r2⟩ := r
    obtain ⟨v', r3, rfl, ⟨b, bs, rfl, h2, k2⟩, r4⟩ := r2
    cases r4
    cases hl : (xs.length == ys.length) with
    | false => simp only [iZip2, hl, cond_false] at z; exact z.elim
    | true =>
      simp only [iZip2, hl, cond_true] at z
      exact ⟨a, b, rfl, ⟨as, Same.sqT s.e h1⟩, ⟨bs, Same.sqT s.e h2⟩, z _ G' H' s (.zip h1 h2 k1 k2 (by simpa using hl))⟩
end
end DL
section
namespace L2
open PyProof.Rows
def Ite (K : xFg) (a : Addr) : It :=
  ⟨fun i H => ∃ xs x, SqL K H a xs /\ xs[i]? = some x,
   fun i H v H' => ∃ T x, v = .ref T /\ H T = none /\ H' = upd H T (.tup [.int i, x]) /\ ∀ xs, SqL K H a xs -> xs[i]? = some x,
   fun i H => ∃ xs, SqL K H a xs /\ xs.length <= i⟩
structure EL (e it a : Addr) (k : Nat) (h : Heap) : Prop where
  e : ∃ old, IsEnum h e it k old
  it : h.IsListIter it a k
theorem turn_enum {P : Program} {w : World} {K : xFg} {es : List Expr} {ct : Nat} {ps : Pos} {e it a : Addr} (ne : e ≠ it) : Turn P w K (.Tuple es ct ps) (Ite K a) [e, it] e (EL e it a) where
  mem := by simp
  obj := fun i h st c hc => by
    simp only [xam, xa1, or_false] at hc
    rcases hc with rfl | rfl
    · obtain ⟨old, q⟩ := st.e
      exact ⟨_, q, fun v q => by cases q⟩
    · obtain ⟨o, e, c, d⟩ := st.it
      exact ⟨o, e, fun v q => by rw [d] at q; cases q⟩
  keep := fun i h h' st k => by
    obtain ⟨old, q⟩ := st.e
    exact ⟨⟨old, k _ (by simp) _ q⟩, st.it.at fun o e => k _ (by simp) o e⟩
  item := by
    intro X hP hw hK hc i pins s O H E I hf st hg
    subst hP hw hK
    obtain ⟨xs, x, h1, hx⟩ := hg
    obtain ⟨its, rv, p, _⟩ := I.list h1
    obtain ⟨u, hu, ru⟩ := rv.get hx
    obtain ⟨old, q0⟩ := st.e
    refine wpAny_pyNext_enum_item q0 st.it p.isList (x := u) (by simpa using hu) ne fun g Zz Zi pg sg kg => ⟨_, rfl, ?_⟩
    refine wpAny_letOwnedTupleGo_enum Zz fun g' zg sb => ?_
    obtain ⟨oi, qi, _⟩ := st.it
    have I1 : Inv X pins O (upd H s.heap.objs.size (.tup [.int i, x])) { s with heap := s.heap.push (tp2 (.int i s.toks) u), toks := s.toks } :=
      I.laid (fun _ _ q => xab _ q) (xad _) ⟨by show 2 <= sizeLine; decide, [.int i s.toks, u], .cons ⟨s.toks, rfl⟩ (.cons ru .nil), ⟨_, xau _ rfl, rfl, ⟨0, rfl⟩, rfl⟩⟩
    have fr : ∀ c ∈ [e, it], c ≠ s.heap.objs.size := fun c hc ec => by
      simp only [xam, xa1, or_false] at hc
      rcases hc with rfl | rfl
      · exact xa2 (xai q0) ec
      · exact xa2 (xai qi) ec
    have I2 : Inv X pins O (upd H s.heap.objs.size (.tup [.int i, x])) { s with heap := g', toks := s.toks + 1 } := by
      refine Inv.turnedL (s := { s with heap := s.heap.push (tp2 (.int i s.toks) u), toks := s.toks }) (h' := g') (t' := s.toks + 1) (ch := [e, it]) I1 (fun c o hc ec => ?_) fun c hc => ?_
      · have cz : c ≠ e := fun q => hc (by simp [q])
        rcases Heap.get?_push_cases ec with ⟨rfl, rfl⟩ | ec
        · exact sb.extBut _ _ cz pg
        · exact sb.extBut _ _ cz (kg c o cz (fun q => hc (by simp [q])) ec)
      · exact ⟨by rw [upd_ne (fr c hc)]; exact (hf c hc).1, (hf c hc).2⟩
    refine ⟨.ref s.heap.objs.size, _, I2, rfl, ⟨_, x, rfl, I.fresh, rfl, fun zs hz => by rw [I.list_inj hz h1]; exact hx⟩, ⟨⟨_, by simpa using zg⟩, Zi.at fun o eo => sb.extBut _ _ ne.symm eo⟩, fun c hc => by rw [upd_ne (fr c hc)]; exact (hf c hc).1⟩
  done := by
    intro X hP hw hK hc i pins s O H E I hf st hg
    subst hP hw hK
    obtain ⟨xs, h1, hx⟩ := hg
    obtain ⟨its, rv, p, _⟩ := I.list h1
    obtain ⟨old, q0⟩ := st.e
    have hl := rv.length
    refine wpAny_pyNext_enum_end (I.ok.hd hc) q0 st.it p.isList (by simp; omega) fun g kg => ⟨rfl, I.turnedL (t' := s.toks) (ch := [e, it]) (fun c o hc ec => ?_) hf⟩
    exact kg c o (fun q => hc (by simp [q])) ec
  self := fun A i s Q E st h => by
    obtain ⟨old, q0⟩ := st.e
    exact wpAny_pyIter_enum q0 h
end L2
namespace DL
open L2 PyProof.Rows
section
variable {X : Cx} {E : XK}
def iEnumE (K : xFg) (ta : TA) : TI := fun O H R => ta O H fun vs H1 => ∃ a, vs = [.ref a] /\ (∃ xs, SqL K H1 a xs) /\ R (Ite K a) H1
theorem boot_enum : bootBuiltins "enumerate" = some (.type "enumerate") := by decide +kernel
theorem pi_enum {a : Expr} {ta : TA} {p pos ps : Pos} {es : List Expr} {ct : Nat} (hg : Gl X "enumerate") (hm : X.mg "enumerate" = none) (ha : PA X [a] ta) (hs : starEach [a] X.env = [(false, eval a X.env)] := by rfl) :
    PI X (.Tuple es ct ps) (.Call (.Name "enumerate" p) [a] [] pos) (iEnumE X.K ta) := by
  intro pins s O H R I h
  refine Call_ (ld_blt I hg hm boot_enum (PyProof.Rows.callWith_type1 (thn (ha pos pins s O H _ I h) fun us s1 ⟨vs, H1, I1, r1, q1⟩ => ?_) hs rfl))
  obtain ⟨a, e, ⟨xs, hx⟩, q⟩ := q1
  subst e
  cases r1 with
  | cons r rr =>
    cases rr
    cases r
    obtain ⟨its, _, p1, _⟩ := I1.list hx
    refine call_enumerate_list p1.isList fun g zz zi _ kg => ?_
    have st : EL (s1.heap.objs.size + 1) s1.heap.objs.size a 0 g := ⟨⟨_, zz⟩, zi⟩
    have ne : s1.heap.objs.size + 1 ≠ s1.heap.objs.size := xb1 (Nat.lt_succ_self _)
    refine (turn_enum (P := X.prog) (w := X.w) (K := X.K) (es := es) (ct := ct) (ps := ps) ne).self X.A 0 { s1 with heap := g } _ _ st ?_
    refine ⟨_, [s1.heap.objs.size + 1, s1.heap.objs.size], _, _, H1, rfl, I1.kept (t' := s1.toks) kg, turn_enum ne, st, fun c hc => ?_, q⟩
    have hc : s1.heap.objs.size <= c := by
      simp only [xam, xa1, or_false] at hc
      rcases hc with rfl | rfl
      · exact xb8 _ _
      · exact xad _
    exact I1.fpOk hc (I1.hok.fresh hc)
def enumD (k : Nat) : List D -> List D
  | [] => []
  | d :: ds => .tup [.int k, d] :: enumD (k + 1) ds
theorem enumD_len : ∀ (ds : List D) (k : Nat), (enumD k ds).length = ds.length
  | [], _ => rfl
  | _ :: ds, k => by rw [enumD, xa0, xa0, enumD_len ds]
theorem enumD_get : ∀ (ds : List D) (k i : Nat) (d : D), (enumD k ds)[i]? = some d -> ∃ x, ds[i]? = some x /\ d = .tup [.int ((k + i : Nat) : Int), x]
  | [], _, i, d, h => by cases i <;> cases h
  | y :: ds, k, 0, d, h => ⟨y, rfl, (xa4 h).symm⟩
  | y :: ds, k, i + 1, d, h => by
    obtain ⟨x, h1, h2⟩ := enumD_get ds (k + 1) i d h
    exact ⟨x, h1, by rw [h2, show k + 1 + i = k + (i + 1) by omega]⟩
def iEnumerate1 : List D -> R (List D)
  | [.lst xs] => .ok (enumD 0 xs)
  | _ => .bad
theorem IterD.enum {K : xFg} {mg : Str -> Option Value} {G : Hp} {a : Addr} {vs : List V} {xs : List D} (h : SqL K G a vs) (r : Reps K mg G xs vs) : IterD K mg (Ite K a) G (enumD 0 xs) := by
  refine ⟨fun H e => ⟨vs, e.seq h, by rw [enumD_len, r.length]; exact xad _⟩, fun H i d e hd => ?_⟩
  obtain ⟨x, hx, rfl⟩ := enumD_get xs 0 i d hd
  obtain ⟨v, hv, rv⟩ := r.get hx
  refine ⟨⟨vs, v, e.seq h, hv⟩, ?_⟩
  rintro _ H' ⟨T, v', rfl, hn, rfl, q1⟩ G1 e1 e2
  have z1 := q1 _ (e.seq h)
  rw [hv] at z1; cases z1
  have st := Step.pub (o := .tup [.int i, v]) e2 hn
  exact ⟨upd G1 T (.tup [.int i, v]), st, T, [.int i, v], rfl, SqT.of upd_same, .cons (by rw [xb3]; rfl) (.cons (rv.mono (e1.trans st.g)) rfl)⟩
theorem di_enumerate1 {a : Expr} {fs : DSt -> R (List D)} {p pos ps : Pos} {es : List Expr} {ct : Nat} (hm : X.mg "enumerate" = none) (ha : DA X E [a] fs) (hg : Gl X "enumerate" := by rfl) (hs : starEach [a] X.env = [(false, eval a X.env)] := by rfl) :
    DI X E (.Tuple es ct ps) (.Call (.Name "enumerate" p) [a] [] pos) (iArgs iEnumerate1 fs) := by
  refine PI.mono' (pi_enum hg hm ha hs) fun O H R ⟨G, Od, ok, q⟩ => ?_
  refine ⟨G, Od, ok, q.of_bind.mono (fun ds _ z vs G' H' s r => ?_) fun _ z => z⟩
  match ds, z, r with
  | [.lst xs], z, r =>
    obtain ⟨v, r1, rfl, ⟨a, as, rfl, h1, k1⟩, r2⟩ := r
    cases r2
    exact ⟨a, rfl, ⟨as, s.e.seq h1⟩, z _ G' H' s (.enum h1 k1)⟩
end
end DL
end
namespace DL
open L2 PyProof.Rows
section
variable {P : Program} {w : World} {K : xFg} {mg : Str -> Option Value} {base : Heap} {x : Str} {st : Stmt} {f : Addr} {fd : FuncData} {N ps : List Str} {k n nN : Nat} {own' : List Nat} {body : DSt -> R Out}
structure FD (K : xFg) (x : Str) (st : Stmt) : Prop where
  ex : ∃ f fd, PySem.W.nsIn K mainGlobals x = some (some (.ref f)) /\ Fun K x x st f fd
theorem FD.mk' {oc : Value} {od an : Option Addr} {osl : Array (Option Value)} {kV doc pm cdv ct : Value} (a : PySem.W.nsIn K mainGlobals x = some (some (.ref f))) (l : K.lookup f = some ⟨oc, od, .func (PySem.W.fnOf x x (defArgs st) (defBody st) (defScope st) .none kV doc pm an cdv ct), osl⟩)
    (c : PySem.W.codeIn K cdv x = true) (k : PySem.W.keepIn K (.ref f) = true) : FD K x st := ⟨f, _, a, fun_mk l c k⟩
structure FA (K : xFg) (mg : Str -> Option Value) (x : Str) (st : Stmt) (ps : List Str) (f : Addr) (fd : FuncData) : Prop where
  F : Fun K x x st f fd
  m : mg x = some (.ref f)
  b : Binds K fd ps []
theorem FD.go {h : Heap} (d : FD K x st) (X : K.In h) (G : h.Ns mainGlobals mg) (ps : List Str)
    (b : ∀ (kV doc pm : Value) (an : Option Addr) (cdv ct : Value) (us : List Value), us.length = ps.length -> bindArgs (PySem.W.fnOf x x (defArgs st) (defBody st) (defScope st) .none kV doc pm an cdv ct) ⟨us, []⟩ = pure (ps.zip us)) : ∃ f fd, FA K mg x st ps f fd := by
  obtain ⟨f, fd, a, F⟩ := d.ex
  exact ⟨f, fd, F, xas X G a, F.binds b⟩
abbrev XX (P : Program) (w : World) (K : xFg) (mg : Str -> Option Value) (base : Heap) (x : Str) (st : Stmt) (f : Addr) (N : List Str) (k : Nat) (D : Cx -> XK -> Prop) : Prop :=
  ∀ cdv A outer s H E, XC (cxOf (CXe P w) P w K mg base N x (defScope st) f cdv A outer s H E) E k -> XL (cxOf (CXe P w) P w K mg base N x (defScope st) f cdv A outer s H E) -> N.Nodup -> D (cxOf (CXe P w) P w K mg base N x (defScope st) f cdv A outer s H E) E
theorem FA.ok (F : FA K mg x st ps f fd) (S : FnScope N ps (defScope st)) (hn : ps.length = n) (hN : N.length = nN)
    (hb : XX P w K mg base x st f N k fun X E => DSs X E [] own' [] (defBody st) body) : FnAt P w K mg base (k + 1) x (fnM n nN body) :=
  FnAt.mk' F.F S F.m F.b hn hN fun X E hX C L => by
    obtain ⟨cdv, A, outer, s, H, rfl⟩ := hX
    exact hb cdv A outer s H E C L S.nd
end
end DL
namespace DL
open L2 PyProof.Rows
section
variable {X : Cx} {E : XK} {K : xFg} {mg : Str -> Option Value} {p pos : Pos} {e : Expr} {es : List Expr} {fs : DSt -> R (List D)}
def rSplit : V -> List V -> Hp -> VK -> Prop := fun x vs H Q => ∃ a b, x = .str a /\ vs = [.str b] /\ (b.length == 0) = false /\ a.length + 2 <= sizeLine /\ ∀ p, H p = none -> Q (.ref p) (upd H p (.lst ((Txt.split a b).map V.str)))
theorem split_len (x y : Str) : (Txt.split x y).length <= x.length + 2 := by
  unfold Txt.split
  split
  · exact Nat.succ_le_of_lt (by simp)
  · split
    · exact Nat.succ_le_of_lt (by simp)
    · have e1 := StrLaws.occ_length_le x y 0 x.length (x.length + 1)
      rw [length_partsBetween]; omega
theorem mt_split : MtM X "str.split" rSplit := by
  intro pins s O H x vs v us Q I rx rv h
  obtain ⟨a, b, rfl, rfl, hy, hz, q⟩ := h
  obtain ⟨t, rfl⟩ := rx
  obtain ⟨u, rfl, ru⟩ := rv.one
  obtain ⟨tb, rfl⟩ := ru
  have fin : ∀ (l : List (Str × Tok)) (tk : Nat), l.map (·.1) = Txt.split a b -> EP X pins O Q (.ref s.heap.objs.size) { s with heap := s.heap.push { cls := .type "list", data := .seq (strValues l).toArray }, toks := tk } := fun l tk e => by
    have hf : H s.heap.objs.size = none := I.hok.fresh (xad _)
    refine ⟨.ref s.heap.objs.size, upd H s.heap.objs.size (.lst ((Txt.split a b).map V.str)), I.laid (t' := tk) (fun b u e => xab _ e) (xad _) ?_, rfl, q _ hf⟩
    refine ⟨by rw [xao]; exact xax (split_len a b) hz, strValues l, 0, by rw [<- e, xb4]; exact vals_of_strs l, xau _ rfl⟩
  have hn : (Builtin.Str.partsBetween a (Builtin.Str.occurrences a b 0 a.length (a.length + 1)) b.length).length <= sizeLine := by
    have e1 := StrLaws.occ_length_le a b 0 a.length (a.length + 1)
    rw [length_partsBetween]; omega
  cases h1 : (decide (a.length < b.length) || decide (Builtin.Str.strKind a < Builtin.Str.strKind b))
  · cases hf : (Builtin.Str.occurrences a b 0 a.length (a.length + 1)).isEmpty
    · refine call_meets F.slot_str_split (typeIs_str _ _ _) F.entry_str_split (F.args_str_split_2 _ _) (meets_str_split_sep a b t tb h1 hy hf (by omega) hn) ?_
      show wants _ _ _ { s with toks := _, heap := s.heap.push { cls := .type "list", data := .seq (strsFrom s.toks (Builtin.Str.partsBetween a (Builtin.Str.occurrences a b 0 a.length (a.length + 1)) b.length)).toArray } }
      rw [strsFrom_eq]
      exact fin (numbered s.toks _) _ ((numbered_texts _ _).trans ((xap (ne_true_of_eq_false h1)).trans (xap (ne_true_of_eq_false hf))).symm)
    · exact call_meets F.slot_str_split (typeIs_str _ _ _) F.entry_str_split (F.args_str_split_2 _ _) (meets_str_split_not_found a b t tb h1 hy hf) (fin [(a, t)] s.toks ((xap (ne_true_of_eq_false h1)).trans (xav hf)).symm)
  · exact call_meets F.slot_str_split (typeIs_str _ _ _) F.entry_str_split (F.args_str_split_2 _ _) (meets_str_split_cannot_occur a b t tb h1) (fin [(a, t)] s.toks (xav h1).symm)
def splitD : D -> D -> R (List D)
  | .str x, .str y => bif (!(y.length == 0)) && le24 (x.length + 2) then .ok ((Txt.split x y).map D.str) else .bad
  | _, _ => .bad
def splitE (fe : DSt -> R D) (O : DSt) : D -> R (List D)
  | .str z => (fe O).bind fun d => splitD (.str z) d
  | _ => .bad
def eSplit (fo fe : DSt -> R D) : DSt -> R (List D) := fun O => (fo O).bind fun z => splitE fe O z
theorem reps_strs {G : Hp} : ∀ ys : List Str, Reps K mg G (ys.map D.str) (ys.map V.str)
  | [] => Reps.nil
  | _ :: ys => Reps.cons rfl (reps_strs ys)
theorem df_split {o e : Expr} {fo fe : DSt -> R D} {apos cpos : Pos} (ho : DE X E o fo) (he : DE X E e fe)
    (hbase : attributeBase o "split" X.env (eval o X.env) = eval o X.env := by rfl)
    (hfew : ((backTo cpos (starEach [e] X.env)).all (fun x => !x.1) && (backToKw cpos (keywordEach [] X.env)).all (fun x => x.1.isSome) && decide ([e].length + ([] : List Keyword).length + (if ([] : List Keyword).isEmpty then 0 else 1) < 30)) = true := by rfl)
    (hline : (apos.endLine == cpos.line) = true := by rfl) (hs : starEach [e] X.env = (false, eval e X.env) :: starEach [] X.env := by rfl) (hplain : (backTo cpos (starEach [] X.env)).any (·.1) = false := by rfl) :
    DF X E (.Call (.Attribute o "split" apos) [e] [] cpos) (eSplit fo fe) := by
  refine PE.mono' (pe_bm PySem.F.plainAttrs_str PySem.F.slot_str_split PySem.F.type_str_split mt_split ho (da_cons he da_nil hs) hbase hfew hline hs hplain) fun O H Q ⟨G, Od, ok, q⟩ => ?_
  refine tE_then (P := AfterF X.K X.mg Q) ok q fun z x G1 H1 s1 ok1 r1 q1 => ?_
  cases z with
  | str y =>
    cases r1
    refine ⟨rfl, G1, Od, ok1, (show RW ((aCons fe aNil) Od) _ _ from ?_)⟩
    unfold aCons
    have q2 := (show RW ((fe Od).bind fun d => splitD (.str y) d) _ _ from q1).of_bind
    cases hf : fe Od with
    | bad => rw [hf] at q2; exact q2.elim
    | err e => rw [hf] at q2; exact (show AfterX X.K X.mg E G1 H1 e from q2)
    | ok d =>
      rw [hf] at q2
      have q3 : RW (splitD (.str y) d) (AfterF X.K X.mg Q G H) (AfterX X.K X.mg E G1 H1) := q2
      rintro ws G2 H2 s2 ⟨v, _, e1, r3, r4⟩
      subst e1
      cases r4
      cases d with
      | str z =>
        cases r3
        cases hC : ((!(z.length == 0)) && le24 (y.length + 2)) with
        | false => simp only [splitD, hC, cond_false] at q3; exact q3.elim
        | true =>
          simp only [splitD, hC, cond_true] at q3
          rw [xay, Bool.not_eq_true'] at hC
          refine ⟨y, z, rfl, rfl, hC.1, xaj hC.2, fun p hp => ?_⟩
          have st := s1.trans s2
          have sp := Step.hid (o := .lst ((Txt.split y z).map V.str)) s2.e hp
          exact (show AfterF X.K X.mg Q G H ((Txt.split y z).map D.str) from q3) p _ G2 _ (st.trans sp) (st.h.free hp) upd_same (s2.e.free hp) (reps_strs _)
      | _ => exact (show False from q3).elim
  | _ => exact (show False from q1).elim
theorem call_intT : CallR X (.type "int") (fun xs H Q => ∃ x n, xs = [.str x] /\ x.length <= 640 /\ PySem.intText? x = some n /\ Q (.int n) H) := by
  intro pins s O H xs us Q I r h
  obtain ⟨x, n, rfl, hl, hn, q⟩ := h
  obtain ⟨u, rfl, t, rfl⟩ := vals1 r
  exact call_int_1 (PySem.W.KIN.gives_text hl hn).meets ⟨typeIs_int _ _ _, .int n, H, I.tok _, ⟨_, rfl⟩, q⟩
def intT1 : D -> R D
  | .str x => match PySem.intText? x with
    | some n => bif decide (x.length <= 640) then .ok (.int n) else .bad
    | none => .bad
  | _ => .bad
abbrev gIntT := g1 intT1
theorem cd_intT : CallD K mg (fun xs H Q => ∃ x n, xs = [.str x] /\ x.length <= 640 /\ PySem.intText? x = some n /\ Q (.int n) H) gIntT := cd1 fun G H d v Q e r q => by
  cases d with
  | str x =>
    cases r
    cases hT : PySem.intText? x with
    | none => simp only [intT1, hT] at q; exact q.elim
    | some n =>
      cases hC : decide (x.length <= 640) with
      | false => simp only [intT1, hT, hC, cond_false] at q; exact q.elim
      | true => simp only [intT1, hT, hC, cond_true] at q; exact ⟨x, n, rfl, xaj hC, hT, After.now q e rfl⟩
  | _ => exact (show False from q).elim
theorem de_intT (hm : X.mg "int" = none) (ha : DA X E (e :: es) fs) (hg : Gl X "int" := by rfl) (he : starEach (e :: es) X.env = (false, eval e X.env) :: starEach es X.env := by rfl) (hpl : (backTo pos (starEach es X.env)).any (·.1) = false := by rfl) : DE X E (.Call (.Name "int" p) (e :: es) [] pos) (eBlt gIntT fs) :=
  de_bty call_intT cd_intT hm ha bt_int hg (by decide) (by decide) he hpl
end
end DL
namespace DL
open L2 PyProof.Rows
def repD (ds : List D) : D -> R (List D)
  | .int k => bif decide (0 <= k /\ k <= 1000) && le24 (ds.length * k.toNat) then .ok (List.replicate k.toNat ds).flatten else .bad
  | _ => .bad
def eRep (fl : DSt -> R (List D)) (fe : DSt -> R D) : DSt -> R (List D) := fun O => (fl O).bind fun ds => (fe O).bind fun d => repD ds d
theorem Reps.rep {K : xFg} {mg : Str -> Option Value} {G : Hp} {ds : List D} {vs : List V} (h : Reps K mg G ds vs) : ∀ k : Nat, Reps K mg G (List.replicate k ds).flatten (List.replicate k vs).flatten
  | 0 => Reps.nil
  | k + 1 => by
    rw [xa9, xa9, xbt, xbt]
    exact h.append (Reps.rep h k)
theorem df_rep {X : Cx} {E : XK} {a b : Expr} {pos : Pos} {fl : DSt -> R (List D)} {fe : DSt -> R D} (ha : DF X E a fl) (hb : DE X E b fe) : DF X E (.BinOp a .Mult b pos) (eRep fl fe) := PE.mono' (pe_op op_rep ha hb) fun O H Q ⟨G, Od, ok, q⟩ => by
  refine ⟨G, Od, ok, q.of_bind.mono (fun ds _ q1 p vs G1 H1 s1 n0 h1 g1 r1 => ?_) fun _ z => z⟩
  have ok1 := ok.step s1
  refine ⟨G1, Od, ok1, q1.of_bind.mono (fun d _ q2 v G2 H2 s2 r2 => ?_) fun _ z => z.step s1⟩
  cases d with
  | int k =>
    cases r2
    cases hC : (decide (0 <= k /\ k <= 1000) && le24 (ds.length * k.toNat)) with
    | false => simp only [repD, hC, cond_false] at q2; exact q2.elim
    | true =>
      simp only [repD, hC, cond_true] at q2
      rw [xay] at hC
      have hk := xaj hC.1
      refine ⟨p, k, vs, rfl, rfl, s2.h _ _ h1, by omega, by omega, ?_, fun l hl => ?_⟩
      · rw [<- r1.length]; exact xaj hC.2
      · have st := s1.trans s2
        exact (show AfterF X.K X.mg Q G H (List.replicate k.toNat ds).flatten from q2) l _ G2 _ (st.trans (.hid st.e hl)) (st.h.free hl) upd_same (st.e.free hl) ((r1.mono s2.g).rep _)
  | _ => exact (show False from q2).elim
end DL
namespace DL
open PySem.W PyProof.Rows
section
variable {n : Nat} {lt : Nat -> Nat -> Bool}
abbrev sg (p : Array Nat) (i : Nat) : Nat := p.getD i 0
def Dn (lt : Nat -> Nat -> Bool) (p : Array Nat) (m : Nat) : Prop := ∀ i j, i < j -> j < m -> lt (sg p j) (sg p i) = true
end
end DL
section
set_option maxHeartbeats 2000000
namespace DL
open L2 PyProof.Rows
theorem maskF_self {own : List Nat} : ∀ (O : DSt) (k j : Nat) (x : Option D), own.contains (k + j) = true -> maskF own k (O.set j x) = maskF own k O
  | [], _, _, _, _ => rfl
  | d :: ds, k, 0, x, h => by
    show (bif own.contains k then none else x) :: maskF own (k + 1) ds = (bif own.contains k then none else d) :: maskF own (k + 1) ds
    rw [show own.contains k = true from h]; rfl
  | d :: ds, k, j + 1, x, h => by
    show (bif own.contains k then none else d) :: maskF own (k + 1) (ds.set j x) = (bif own.contains k then none else d) :: maskF own (k + 1) ds
    rw [maskF_self ds (k + 1) j x (by rw [show k + 1 + j = k + (j + 1) by omega]; exact h)]
end DL
end
namespace DL
open L2 PyProof.Rows
section
variable {K : xFg} {mg : Str -> Option Value} {c d : Str} {C D0 : Addr}
def NR (K : xFg) (C : Addr) (c d : Str) : Prop := PySem.W.nsIn K mainGlobals d = some none \/ ∃ D0, PySem.W.nsIn K mainGlobals d = some (some (.ref D0)) /\ PySem.W.kitOne K (.ref C) (.ref D0) = some (subB c d) /\ (subB c d = true -> PySem.W.exmOne K (.ref C) (.ref D0) = some true)
theorem NR.no (a : PySem.W.nsIn K mainGlobals d = some none) : NR K C c d := .inl a
theorem NR.ff (h : subB c d = false) (a : PySem.W.nsIn K mainGlobals d = some (some (.ref D0))) (t : PySem.W.kitOne K (.ref C) (.ref D0) = some false) : NR K C c d := .inr ⟨D0, a, by rw [h]; exact t, fun z => by rw [h] at z; cases z⟩
theorem NR.tt (h : subB c d = true) (a : PySem.W.nsIn K mainGlobals d = some (some (.ref D0))) (t : PySem.W.kitOne K (.ref C) (.ref D0) = some true) (u : PySem.W.exmOne K (.ref C) (.ref D0) = some true) : NR K C c d := .inr ⟨D0, a, by rw [h]; exact t, fun _ => u⟩
theorem NR.row {h : Heap} (r : NR K C c d) (X : K.In h) (G : h.Ns mainGlobals mg) : XcRow K mg C d (subB c d) := by
  rcases r with a | ⟨D0, a, t, u⟩
  · exact XcRow.no (xa6 X G a)
  · exact XcRow.of (xas X G a) t u
structure XD (K : xFg) (c : Str) : Prop where
  ex : ∃ C, PySem.W.nsIn K mainGlobals c = some (some (.ref C)) /\ PySem.W.excIn K C [.type "ValueError", .type "Exception", .type "BaseException", .type "object"] "ValueError.__new__" = true /\ ExcC K C /\ PySem.W.kitOne K (.ref C) (.type "ValueError") = some true /\ ∀ d ∈ clsNames, NR K C c d
theorem XD.mk' (e : PySem.W.nsIn K mainGlobals c = some (some (.ref C))) (y : PySem.W.excIn K C [.type "ValueError", .type "Exception", .type "BaseException", .type "object"] "ValueError.__new__" = true)
    (ga : PySem.W.findIn K (.ref C) "__getattribute__" = some (some (.builtin "BaseException.__getattribute__"))) (gh : PySem.W.findIn K (.ref C) "__getattr__" = some none) (bs : PySem.W.mroIn K C (.type "BaseException") = some true) (ob : PySem.W.mroIn K C (.type "object") = some true) (ca : PySem.W.findIn K (.ref C) "__class__" = some (some (.builtin "object.__class__")))
    (cg : PySem.W.specialIn K (.builtin "object.__class__") "__get__" = some (some (.builtin "getset_descriptor.__get__"))) (ct : PySem.W.takesIn K (.builtin "object.__class__") = some true) (vv : PySem.W.kitOne K (.ref C) (.type "ValueError") = some true)
    (r0 : NR K C c "ChalkError") (r1 : NR K C c "NoPlace") (r2 : NR K C c "Same") (r3 : NR K C c "NoFloor") (r4 : NR K C c "Endless") (r5 : NR K C c "NoDeed") (r6 : NR K C c "NoText") (r7 : NR K C c "NoName") (r8 : NR K C c "TooMany") (r9 : NR K C c "NoChange") (r10 : NR K C c "NoFrame") (r11 : NR K C c "NoValue") (r12 : NR K C c "Unlike") (r13 : NR K C c "NoRatio") (r14 : NR K C c "NoBow") (r15 : NR K C c "NoRow") : XD K c := by
  refine ⟨C, e, y, ⟨by (obtain ⟨_, hc, _⟩ := PySem.W.kw_along ga; rw [hc]; rfl), ga, gh, bs, ob, ca, cg, ct⟩, vv, fun d hd => ?_⟩
  simp only [clsNames, xam, xa1, or_false] at hd
  rcases hd with rfl | rfl | rfl | rfl | rfl | rfl | rfl | rfl | rfl | rfl | rfl | rfl | rfl | rfl | rfl | rfl <;> assumption
theorem XD.go {h : Heap} (x : XD K c) (X : K.In h) (G : h.Ns mainGlobals mg) : ∃ C, mg c = some (.ref C) /\ PySem.W.excIn K C [.type "ValueError", .type "Exception", .type "BaseException", .type "object"] "ValueError.__new__" = true /\ XcOk K mg c C := by
  obtain ⟨C, e, y, ec, vv, r⟩ := x.ex
  exact ⟨C, xas X G e, y, XcOk.mk' (xas X G e) ec vv fun d hd => (r d hd).row X G⟩
end
end DL
namespace DL
open PySem
theorem us0 {P : List Value -> Prop} (h : P []) : ∀ us : List Value, us.length = 0 -> P us := fun us hl => by
  cases us with
  | nil => exact h
  | cons => cases hl
theorem us1 {P : List Value -> Prop} (h : ∀ a, P [a]) : ∀ us : List Value, us.length = 1 -> P us := fun us hl => by
  cases us with
  | nil => cases hl
  | cons a us => exact us0 (P := fun l => P (a :: l)) (h a) us (Nat.succ.inj hl)
theorem us2 {P : List Value -> Prop} (h : ∀ a b, P [a, b]) : ∀ us : List Value, us.length = 2 -> P us := fun us hl => by
  cases us with
  | nil => cases hl
  | cons a us => exact us1 (P := fun l => P (a :: l)) (h a) us (Nat.succ.inj hl)
theorem us3 {P : List Value -> Prop} (h : ∀ a b c, P [a, b, c]) : ∀ us : List Value, us.length = 3 -> P us := fun us hl => by
  cases us with
  | nil => cases hl
  | cons a us => exact us2 (P := fun l => P (a :: l)) (h a) us (Nat.succ.inj hl)
theorem us4 {P : List Value -> Prop} (h : ∀ a b c d, P [a, b, c, d]) : ∀ us : List Value, us.length = 4 -> P us := fun us hl => by
  cases us with
  | nil => cases hl
  | cons a us => exact us3 (P := fun l => P (a :: l)) (h a) us (Nat.succ.inj hl)
theorem us5 {P : List Value -> Prop} (h : ∀ a b c d e, P [a, b, c, d, e]) : ∀ us : List Value, us.length = 5 -> P us := fun us hl => by
  cases us with
  | nil => cases hl
  | cons a us => exact us4 (P := fun l => P (a :: l)) (h a) us (Nat.succ.inj hl)
end DL
namespace DL
open L2 PyProof.Rows
variable {X : Cx} {E : XK} {own ol : List Nat} {x y : Str} {pos pos' np : Pos}
def sPop (i j : Nat) : DSt -> R Out := fun O => (lstAt O i).bind fun ds => match ds[ds.length - 1]? with
  | some d => .ok (.nx ((O.set i (some (.lst ds.dropLast))).set j (some d)))
  | none => .bad
theorem Reps.dropLast {K : xFg} {mg : Str -> Option Value} {G : Hp} {ds : List D} {vs : List V} (h : Reps K mg G ds vs) : Reps K mg G ds.dropLast vs.dropLast := by
  rw [List.dropLast_eq_take, List.dropLast_eq_take, h.length]; exact h.take _
theorem ds_pop (i j : Nat) {apos cpos : Pos} (hN : X.N.Nodup) (ho : own.contains i = true := by rfl) (ho' : own.contains j = false := by rfl) (hi : X.N[i]? = some x := by rfl) (hj : X.N[j]? = some y := by rfl) (hv : Vis X.env.scope x := by first | exact Or.inl rfl | exact Or.inr (Or.inl rfl) | exact Or.inr (Or.inr rfl)) (hd : (x == ("__debug__" : Str)) = false := by decide)
    (hcd : (x == ("__classdict__" : Str)) = false := by decide) (hy : Loc X.env.scope y := by first | exact Or.inl rfl | exact Or.inr rfl)
    (hbase : attributeBase (.Name x np) "pop" X.env (eval (.Name x np) X.env) = eval (.Name x np) X.env := by rfl) (hline : (apos.endLine == cpos.line) = true := by rfl)
    (hs : swapsWith (.Call (.Attribute (.Name x np) "pop" apos) [] [] cpos) (some (.Name y pos')) pos.line X.env = pure false := by rfl)
    (hf : X.fn y = true \/ X.env.scope.names.lookup y = some .local := by first | exact .inl rfl | exact .inr rfl | assumption) :
    DS X E own own ol (.Assign [.Name y pos'] (.Call (.Attribute (.Name x np) "pop" apos) [] [] cpos) pos) (sPop i j) := fun G0 =>
  PS.mono' (ps_set hN hj hy (pe_bm0 PySem.F.plainAttrs_list PySem.F.slot_list_pop PySem.F.type_list_pop mt_pop (pv i hi hv hd hcd) hbase hline) hs hf) fun Dn O H ⟨G, Od, ok, s0, q⟩ => by
  have q1 := q.of_bind
  cases hL : lstAt Od i with
  | bad => rw [hL] at q1; exact q1.elim
  | err e => exact xag hL lstAt_ne
  | ok ds =>
    rw [hL] at q1
    have hd := lstAt_ok hL
    have hm : i ∈ own := by simpa using ho
    obtain ⟨a, ds', vs, p1, p2, p3, p4, p5, p6⟩ := ok.mine i _ hm hd
    cases p2
    cases hg : ds[ds.length - 1]? with
    | none =>
      have q2 : RW (match ds[ds.length - 1]? with
        | some d => R.ok (.nx ((Od.set i (some (.lst ds.dropLast))).set j (some d)))
        | none => .bad) (OutW X.K X.mg G0 X.H₀ own ol Dn G) (AfterX X.K X.mg E G0 X.H₀) := q1
      rw [hg] at q2; exact (show False from q2).elim
    | some d =>
      have q2 : RW (match ds[ds.length - 1]? with
        | some d => R.ok (.nx ((Od.set i (some (.lst ds.dropLast))).set j (some d)))
        | none => .bad) (OutW X.K X.mg G0 X.H₀ own ol Dn G) (AfterX X.K X.mg E G0 X.H₀) := q1
      rw [hg] at q2
      obtain ⟨v, hv', r⟩ := p6.get hg
      rw [p6.length] at hv'
      refine ⟨_, p1, .inl ⟨rfl, _, SqL.of p3⟩, a, vs, v, rfl, rfl, p3, hv', ?_⟩
      exact (show OutW X.K X.mg G0 X.H₀ own ol Dn G (.nx ((Od.set i (some (.lst ds.dropLast))).set j (some d))) from q2) _ G _ ((ok.write hm hd p1 p6.dropLast).set (mem_of ho') r) (s0.write (o := .lst vs) p5 p4) (Same.refl _)
end DL
namespace DL
open L2 PyProof.Rows
variable {P : Program} {w : World} {K : xFg} {mg : Str -> Option Value} {base : Heap} {x : Str} {st : Stmt} {ps N : List Str} {f : Addr} {fd : FuncData} {k n nN : Nat} {own' : List Nat}
def badM : List D -> R D := fun _ => .bad
def recM (g : (List D -> R D) -> List D -> R D) : Nat -> List D -> R D
  | 0 => badM
  | n + 1 => g (recM g n)
theorem FA.bad (F : FA K mg x st ps f fd) (S : FnScope N ps (defScope st)) : FnAt P w K mg base (k + 1) x badM := by
  refine ⟨f, fd, ps, F.F.okX S (fun vs H Q E h => ?_) (fun cdv A outer s H vs Q E hr hsp => ?_), F.m, F.F.kp, F.b⟩
  · obtain ⟨G, ds, e, r, q⟩ := h
    exact (show False from q).elim
  · obtain ⟨G, ds, e, r, q⟩ := hsp
    exact (show False from q).elim
theorem FA.deep (F : FA K mg x st ps f fd) (S : FnScope N ps (defScope st)) (hn : ps.length = n) (hN : N.length = nN) {body : (List D -> R D) -> DSt -> R Out}
    (hb : ∀ (j : Nat) (m : List D -> R D), FnAt P w K mg base (k + 1 + j) x m -> XX P w K mg base x st f N (k + 1 + j) fun X E => DSs X E [] own' [] (defBody st) (body m)) :
    ∀ j, FnAt P w K mg base (k + 1 + j) x (recM (fun m => fnM n nN (body m)) j)
  | 0 => FA.bad F S
  | j + 1 => F.ok S hn hN (hb j _ (FA.deep F S hn hN hb j))
end DL
namespace DL
open L2 PyProof.Rows
variable {X : Cx} {E : XK} {own ol : List Nat} {x y : Str} {pos np nq : Pos} {e1 e2 : Expr} {f1 f2 : DSt -> R D}
def sAppPop (own : List Nat) (i j : Nat) (f1 f2 : DSt -> R D) : DSt -> R Out := fun O => (lstAt O i).bind fun _ => (f1 (mask own O)).bind fun d1 => (lstAt O j).bind fun ds => match ds[ds.length - 1]? with
  | some d => (f2 (mask own (O.set j (some (.lst ds.dropLast))))).bind fun d2 => (lstAt (O.set j (some (.lst ds.dropLast))) i).bind fun xs => bif most xs.length then .ok (.nx ((O.set j (some (.lst ds.dropLast))).set i (some (.lst (xs ++ [.tup [d1, d, d2]]))))) else .bad
  | none => .bad
theorem ds_appPop (i j : Nat) {apos bpos cpos dpos tpos : Pos} {x1} (h1 : DE X E e1 f1) (h2 : DE X E e2 f2) (ho : own.contains i = true := by rfl) (ho' : own.contains j = true := by rfl) (hN : X.N[i]? = some x := by rfl) (hM : X.N[j]? = some y := by rfl)
    (hv : Vis X.env.scope x := by first | exact Or.inl rfl | exact Or.inr (Or.inl rfl) | exact Or.inr (Or.inr rfl)) (hd : (x == ("__debug__" : Str)) = false := by decide) (hcd : (x == ("__classdict__" : Str)) = false := by decide)
    (hv' : Vis X.env.scope y := by first | exact Or.inl rfl | exact Or.inr (Or.inl rfl) | exact Or.inr (Or.inr rfl)) (hd' : (y == ("__debug__" : Str)) = false := by decide) (hcd' : (y == ("__classdict__" : Str)) = false := by decide)
    (hbase : attributeBase (.Name x np) "append" X.env (eval (.Name x np) X.env) = eval (.Name x np) X.env := by rfl) (hbase' : attributeBase (.Name y nq) "pop" X.env (eval (.Name y nq) X.env) = eval (.Name y nq) X.env := by rfl)
    (hfew : ((backTo cpos (starEach [.Tuple [e1, .Call (.Attribute (.Name y nq) "pop" bpos) [] [] dpos, e2] x1 tpos] X.env)).all (fun x => !x.1) && (backToKw cpos (keywordEach [] X.env)).all (fun x => x.1.isSome) && decide ([Expr.Tuple [e1, .Call (.Attribute (.Name y nq) "pop" bpos) [] [] dpos, e2] x1 tpos].length + ([] : List Keyword).length + (if ([] : List Keyword).isEmpty then 0 else 1) < 30)) = true := by rfl)
    (hline : (apos.endLine == cpos.line) = true := by rfl) (hline' : (bpos.endLine == dpos.line) = true := by rfl)
    (hs : starEach [.Tuple [e1, .Call (.Attribute (.Name y nq) "pop" bpos) [] [] dpos, e2] x1 tpos] X.env = (false, eval (.Tuple [e1, .Call (.Attribute (.Name y nq) "pop" bpos) [] [] dpos, e2] x1 tpos) X.env) :: starEach [] X.env := by rfl) (hplain : (backTo cpos (starEach [] X.env)).any (·.1) = false := by rfl)
    (hs1 : starEach [e1, .Call (.Attribute (.Name y nq) "pop" bpos) [] [] dpos, e2] X.env = (false, eval e1 X.env) :: starEach [.Call (.Attribute (.Name y nq) "pop" bpos) [] [] dpos, e2] X.env := by rfl)
    (hs2 : starEach [.Call (.Attribute (.Name y nq) "pop" bpos) [] [] dpos, e2] X.env = (false, eval (.Call (.Attribute (.Name y nq) "pop" bpos) [] [] dpos) X.env) :: starEach [e2] X.env := by rfl)
    (hs3 : starEach [e2] X.env = (false, eval e2 X.env) :: starEach [] X.env := by rfl)
    (hsw : swapsWith (.Call (.Attribute (.Name x np) "append" apos) [.Tuple [e1, .Call (.Attribute (.Name y nq) "pop" bpos) [] [] dpos, e2] x1 tpos] [] cpos) none pos.line X.env = pure false := by rfl) :
    DS X E own own ol (.Expr (.Call (.Attribute (.Name x np) "append" apos) [.Tuple [e1, .Call (.Attribute (.Name y nq) "pop" bpos) [] [] dpos, e2] x1 tpos] [] cpos) pos) (sAppPop own i j f1 f2) := fun G0 =>
  PS.mono' (ps_expr (pe_bm PySem.F.plainAttrs_list PySem.F.slot_list_append PySem.F.type_list_append mt_append (pv i hN hv hd hcd)
    (pa_cons (pe_tup (pa_cons h1 (pa_cons (pe_bm0 PySem.F.plainAttrs_list PySem.F.slot_list_pop PySem.F.type_list_pop mt_pop (pv j hM hv' hd' hcd') hbase' hline') (pa_cons h2 pa_nil hs3) hs2) hs1)) pa_nil hs) hbase hfew hline hs hplain) hsw) fun Dn O H ⟨G, Od, ok, s0, q⟩ => by
  have hi : i ∈ own := by simpa using ho
  have hj : j ∈ own := by simpa using ho'
  have q0 := q.of_bind
  cases hL : lstAt Od i with
  | bad => rw [hL] at q0; exact q0.elim
  | err e => exact xag hL lstAt_ne
  | ok xs0 =>
    rw [hL] at q0
    obtain ⟨a, _, vs0, p1, _, p0, _⟩ := ok.mine i _ hi (lstAt_ok hL)
    refine ⟨_, p1, .inl ⟨rfl, _, SqL.of p0⟩, ?_⟩
    refine ⟨G, mask own Od, ok.masked, (show RW ((f1 (mask own Od)).bind _) (OutW X.K X.mg G0 X.H₀ own ol Dn G) (AfterX X.K X.mg E G0 X.H₀) from q0).of_bind.mono (fun d1 _ q1 v1 G1 H1 st1 r1 => ?_) fun _ z => z.step s0⟩
    have ok1 := ok.step st1
    have s1 := s0.trans st1
    have q2 := q1.of_bind
    cases hJ : lstAt Od j with
    | bad => rw [hJ] at q2; exact q2.elim
    | err e => exact xag hJ lstAt_ne
    | ok ds =>
      rw [hJ] at q2
      obtain ⟨b, ds', vs, p3, p4, p5, p6, p7, p8⟩ := ok1.mine j _ hj (lstAt_ok hJ)
      cases p4
      cases hg : ds[ds.length - 1]? with
      | none =>
        have q3 : RW (match ds[ds.length - 1]? with
          | some d => (f2 (mask own (Od.set j (some (.lst ds.dropLast))))).bind fun d2 => (lstAt (Od.set j (some (.lst ds.dropLast))) i).bind fun xs => bif most xs.length then R.ok (.nx ((Od.set j (some (.lst ds.dropLast))).set i (some (.lst (xs ++ [.tup [d1, d, d2]]))))) else .bad
          | none => .bad) (OutW X.K X.mg G0 X.H₀ own ol Dn G) (AfterX X.K X.mg E G0 X.H₀) := q2
        rw [hg] at q3; exact (show False from q3).elim
      | some d =>
        have q3 : RW (match ds[ds.length - 1]? with
          | some d => (f2 (mask own (Od.set j (some (.lst ds.dropLast))))).bind fun d2 => (lstAt (Od.set j (some (.lst ds.dropLast))) i).bind fun xs => bif most xs.length then R.ok (.nx ((Od.set j (some (.lst ds.dropLast))).set i (some (.lst (xs ++ [.tup [d1, d, d2]]))))) else .bad
          | none => .bad) (OutW X.K X.mg G0 X.H₀ own ol Dn G) (AfterX X.K X.mg E G0 X.H₀) := q2
        rw [hg] at q3
        obtain ⟨v, hv1, rv⟩ := p8.get hg
        rw [p8.length] at hv1
        refine ⟨_, p3, .inl ⟨rfl, _, SqL.of p5⟩, b, vs, v, rfl, rfl, p5, hv1, ?_⟩
        have ok2 := ok1.write hj (lstAt_ok hJ) p3 p8.dropLast
        have s2 := s1.write (o := .lst vs) (u := .lst vs.dropLast) p7 p6
        refine ⟨G1, mask own (Od.set j (some (.lst ds.dropLast))), ok2.masked, (show RW ((f2 (mask own (Od.set j (some (.lst ds.dropLast))))).bind _) (OutW X.K X.mg G0 X.H₀ own ol Dn G) (AfterX X.K X.mg E G0 X.H₀) from q3).of_bind.mono (fun d2 _ q4 v2 G3 H3 st3 r3 => ?_) fun _ z => z.step s2⟩
        refine ⟨by show 3 <= sizeLine; decide, fun p hp => ?_⟩
        have ok3 := ok2.step st3
        have sp : Step G3 H3 (upd G3 p (.tup [v1, v, v2])) (upd H3 p (.tup [v1, v, v2])) := .pub ok3.ext hp
        have ok4 := ok3.step sp
        have q5 := q4.of_bind
        cases hI : lstAt (Od.set j (some (.lst ds.dropLast))) i with
        | bad => rw [hI] at q5; exact q5.elim
        | err e => exact xag hI lstAt_ne
        | ok xs =>
          rw [hI] at q5
          have q6 : RW (bif most xs.length then R.ok (.nx ((Od.set j (some (.lst ds.dropLast))).set i (some (.lst (xs ++ [.tup [d1, d, d2]]))))) else .bad) (OutW X.K X.mg G0 X.H₀ own ol Dn G) (AfterX X.K X.mg E G0 X.H₀) := q5
          obtain ⟨a', xs', ws, p9, p10, p11, p12, p13, p14⟩ := ok4.mine i _ hi (lstAt_ok hI)
          cases p10
          rw [p1] at p9
          cases p9
          cases hm : most xs.length with
          | false => rw [hm] at q6; exact (show False from q6).elim
          | true =>
            rw [hm] at q6
            have hlt : xs.length < sizeLine := xaj hm
            refine ⟨a, ws, .ref p, rfl, rfl, p11, by rw [<- p14.length]; exact hlt, ?_⟩
            have rt : Rep X.K X.mg (upd G3 p (.tup [v1, v, v2])) (.tup [d1, d, d2]) (.ref p) := ⟨p, [v1, v, v2], rfl, SqT.of upd_same, Reps.cons (r1.mono (st3.g.trans sp.g)) (Reps.cons (rv.mono (st3.g.trans sp.g)) (Reps.cons (r3.mono sp.g) Reps.nil))⟩
            exact (show OutW X.K X.mg G0 X.H₀ own ol Dn G (.nx ((Od.set j (some (.lst ds.dropLast))).set i (some (.lst (xs ++ [.tup [d1, d, d2]]))))) from q6) O _ _ (ok4.write hi (lstAt_ok hI) p1 (p14.append (Reps.cons rt Reps.nil))) ((s2.trans (st3.trans sp)).write (o := .lst ws) p13 p12) (st1.g.trans (st3.g.trans sp.g))
end DL
namespace L2
open PySem.Spec PyProof.Rows
section
variable {κ : Type} [DecidableEq κ]
def putK (kvs : List (κ × V)) (k : κ) (v : V) : List (κ × V) :=
  if (kvs.any fun kv => decide (kv.1 = k)) = true then kvs.map (fun kv => if kv.1 = k then (kv.1, v) else kv) else kvs ++ [(k, v)]
end
def NoSl (i : Expr) : Prop := ∀ ov iv, subscripted i false ov iv = operate [ov, iv] (getItem ov iv)
theorem subD_of {prog : Program} {w : World} {A : Around} {E : Value -> Shared -> Prop} {s : Shared} {env : Env} {value slice : Expr} {pos : Pos} {T id : String} {Q : Value -> Shared -> Prop}
    (hl : typeLookup (.type T) "__getitem__" = pure (some (.builtin id))) (hs : NoSl slice)
    (h : wpAny (model prog w) A (eval value env) (fun o s₁ => wpAny (model prog w) A (eval slice env) (fun i s₂ => s₂.TypeIs o T /\ wpAny (model prog w) A (getItem o i) Q E s₂) E s₁) E s) :
    wpAny (model prog w) A (eval (.Subscript value slice pos) env) Q E s := by
  refine Subscript_ (wpAny_mono h (fun o s₁ h₁ => wpAny_mono h₁ (fun i s₂ h₂ => ?_) fun _ _ x => x) fun _ _ x => x)
  obtain ⟨hT, h₂⟩ := h₂
  unfold subscriptTail
  refine xaa ?_
  rw [getitemInPython_of_ne hT.not_modules]
  refine xaa (wpAny_specialOf hT hl ?_)
  have fin : wpAny (model prog w) A (subscripted slice false o i) (fun r s₃ => wpAny (model prog w) A (letTemporaryGo value o r >>= fun _ => pure r) Q E s₃) E s₂ := by
    rw [hs o i]
    exact wpAny_operating (wpAny_mono h₂ (fun r s₃ h₃ => xaa (wpAny_letTemporaryGo (xan h₃))) fun _ _ x => x)
  first
    | exact xan (xaa fin)
    | exact xaa (xan (xaa fin))
    | exact xaa fin
end L2
section
set_option maxHeartbeats 2000000
namespace DL
open L2 PyProof.Rows
def kNext : DSt -> R DSt := fun O => .ok O
def kSeq (f g : DSt -> R DSt) : DSt -> R DSt := fun O => (f O).bind g
def kIf (c : DSt -> R Bool) (f g : DSt -> R DSt) : DSt -> R DSt := fun O => (c O).bind fun k => bif k then f O else g O
def kForL (k : Nat) (fb : DSt -> R DSt) : List D -> DSt -> R DSt
  | [], O => .ok O
  | d :: ds, O => (fb (O.set k (some d))).bind (kForL k fb ds)
end DL
end
namespace DL
open L2 PyProof.Rows
variable {X : Cx} {E : XK} {own ol : List Nat} {x y : Str} {pos np nq : Pos} {e1 e2 : Expr} {f1 f2 : DSt -> R D}
def sAppPopP (own : List Nat) (i j : Nat) (f1 f2 : DSt -> R D) : DSt -> R Out := fun O => (lstAt O i).bind fun _ => (f1 O).bind fun d1 => bif imm d1 then (lstAt O j).bind fun ds => match ds[ds.length - 1]? with
  | some d => (f2 (mask own (O.set j (some (.lst ds.dropLast))))).bind fun d2 => (lstAt (O.set j (some (.lst ds.dropLast))) i).bind fun xs => bif most xs.length then .ok (.nx ((O.set j (some (.lst ds.dropLast))).set i (some (.lst (xs ++ [.tup [d1, d, d2]]))))) else .bad
  | none => .bad
  else .bad
theorem ds_appPopP (i j : Nat) {apos bpos cpos dpos tpos : Pos} {x1} (h1 : DE X E e1 f1) (h2 : DE X E e2 f2) (ho : own.contains i = true := by rfl) (ho' : own.contains j = true := by rfl) (hN : X.N[i]? = some x := by rfl) (hM : X.N[j]? = some y := by rfl)
    (hv : Vis X.env.scope x := by first | exact Or.inl rfl | exact Or.inr (Or.inl rfl) | exact Or.inr (Or.inr rfl)) (hd : (x == ("__debug__" : Str)) = false := by decide) (hcd : (x == ("__classdict__" : Str)) = false := by decide)
    (hv' : Vis X.env.scope y := by first | exact Or.inl rfl | exact Or.inr (Or.inl rfl) | exact Or.inr (Or.inr rfl)) (hd' : (y == ("__debug__" : Str)) = false := by decide) (hcd' : (y == ("__classdict__" : Str)) = false := by decide)
    (hbase : attributeBase (.Name x np) "append" X.env (eval (.Name x np) X.env) = eval (.Name x np) X.env := by rfl) (hbase' : attributeBase (.Name y nq) "pop" X.env (eval (.Name y nq) X.env) = eval (.Name y nq) X.env := by rfl)
    (hfew : ((backTo cpos (starEach [.Tuple [e1, .Call (.Attribute (.Name y nq) "pop" bpos) [] [] dpos, e2] x1 tpos] X.env)).all (fun x => !x.1) && (backToKw cpos (keywordEach [] X.env)).all (fun x => x.1.isSome) && decide ([Expr.Tuple [e1, .Call (.Attribute (.Name y nq) "pop" bpos) [] [] dpos, e2] x1 tpos].length + ([] : List Keyword).length + (if ([] : List Keyword).isEmpty then 0 else 1) < 30)) = true := by rfl)
    (hline : (apos.endLine == cpos.line) = true := by rfl) (hline' : (bpos.endLine == dpos.line) = true := by rfl)
    (hs : starEach [.Tuple [e1, .Call (.Attribute (.Name y nq) "pop" bpos) [] [] dpos, e2] x1 tpos] X.env = (false, eval (.Tuple [e1, .Call (.Attribute (.Name y nq) "pop" bpos) [] [] dpos, e2] x1 tpos) X.env) :: starEach [] X.env := by rfl) (hplain : (backTo cpos (starEach [] X.env)).any (·.1) = false := by rfl)
    (hs1 : starEach [e1, .Call (.Attribute (.Name y nq) "pop" bpos) [] [] dpos, e2] X.env = (false, eval e1 X.env) :: starEach [.Call (.Attribute (.Name y nq) "pop" bpos) [] [] dpos, e2] X.env := by rfl)
    (hs2 : starEach [.Call (.Attribute (.Name y nq) "pop" bpos) [] [] dpos, e2] X.env = (false, eval (.Call (.Attribute (.Name y nq) "pop" bpos) [] [] dpos) X.env) :: starEach [e2] X.env := by rfl)
    (hs3 : starEach [e2] X.env = (false, eval e2 X.env) :: starEach [] X.env := by rfl)
    (hsw : swapsWith (.Call (.Attribute (.Name x np) "append" apos) [.Tuple [e1, .Call (.Attribute (.Name y nq) "pop" bpos) [] [] dpos, e2] x1 tpos] [] cpos) none pos.line X.env = pure false := by rfl) :
    DS X E own own ol (.Expr (.Call (.Attribute (.Name x np) "append" apos) [.Tuple [e1, .Call (.Attribute (.Name y nq) "pop" bpos) [] [] dpos, e2] x1 tpos] [] cpos) pos) (sAppPopP own i j f1 f2) := fun G0 =>
  PS.mono' (ps_expr (pe_bm PySem.F.plainAttrs_list PySem.F.slot_list_append PySem.F.type_list_append mt_append (pv i hN hv hd hcd)
    (pa_cons (pe_tup (pa_cons h1 (pa_cons (pe_bm0 PySem.F.plainAttrs_list PySem.F.slot_list_pop PySem.F.type_list_pop mt_pop (pv j hM hv' hd' hcd') hbase' hline') (pa_cons h2 pa_nil hs3) hs2) hs1)) pa_nil hs) hbase hfew hline hs hplain) hsw) fun Dn O H ⟨G, Od, ok, s0, q⟩ => by
  have hi : i ∈ own := by simpa using ho
  have hj : j ∈ own := by simpa using ho'
  have q0 := q.of_bind
  cases hL : lstAt Od i with
  | bad => rw [hL] at q0; exact q0.elim
  | err e => exact xag hL lstAt_ne
  | ok xs0 =>
    rw [hL] at q0
    obtain ⟨a, _, vs0, p1, _, p0, _⟩ := ok.mine i _ hi (lstAt_ok hL)
    refine ⟨_, p1, .inl ⟨rfl, _, SqL.of p0⟩, ?_⟩
    refine ⟨_, Od, ok.pub.1, (show RW ((f1 Od).bind _) (OutW X.K X.mg G0 X.H₀ own ol Dn G) (AfterX X.K X.mg E G0 X.H₀) from q0).of_bind.mono (fun d1 _ q1 v1 Gp H1 stp rp => ?_) fun _ z => z.step (ok.pubStep s0)⟩
    cases him : imm d1 with
    | false => rw [him] at q1; exact (show False from q1).elim
    | true =>
    rw [him] at q1
    obtain ⟨G1, st1, r1⟩ : ∃ G1, Step G H G1 H1 /\ Rep X.K X.mg G1 d1 v1 := ⟨_, (ok.hide stp).1, rp.imm (ok.hide stp).2 him⟩
    have ok1 := ok.step st1
    have s1 := s0.trans st1
    have q1 : RW ((lstAt Od j).bind _) (OutW X.K X.mg G0 X.H₀ own ol Dn G) (AfterX X.K X.mg E G0 X.H₀) := q1
    have q2 := q1.of_bind
    cases hJ : lstAt Od j with
    | bad => rw [hJ] at q2; exact q2.elim
    | err e => exact xag hJ lstAt_ne
    | ok ds =>
      rw [hJ] at q2
      obtain ⟨b, ds', vs, p3, p4, p5, p6, p7, p8⟩ := ok1.mine j _ hj (lstAt_ok hJ)
      cases p4
      cases hg : ds[ds.length - 1]? with
      | none =>
        have q3 : RW (match ds[ds.length - 1]? with
          | some d => (f2 (mask own (Od.set j (some (.lst ds.dropLast))))).bind fun d2 => (lstAt (Od.set j (some (.lst ds.dropLast))) i).bind fun xs => bif most xs.length then R.ok (.nx ((Od.set j (some (.lst ds.dropLast))).set i (some (.lst (xs ++ [.tup [d1, d, d2]]))))) else .bad
          | none => .bad) (OutW X.K X.mg G0 X.H₀ own ol Dn G) (AfterX X.K X.mg E G0 X.H₀) := q2
        rw [hg] at q3; exact (show False from q3).elim
      | some d =>
        have q3 : RW (match ds[ds.length - 1]? with
          | some d => (f2 (mask own (Od.set j (some (.lst ds.dropLast))))).bind fun d2 => (lstAt (Od.set j (some (.lst ds.dropLast))) i).bind fun xs => bif most xs.length then R.ok (.nx ((Od.set j (some (.lst ds.dropLast))).set i (some (.lst (xs ++ [.tup [d1, d, d2]]))))) else .bad
          | none => .bad) (OutW X.K X.mg G0 X.H₀ own ol Dn G) (AfterX X.K X.mg E G0 X.H₀) := q2
        rw [hg] at q3
        obtain ⟨v, hv1, rv⟩ := p8.get hg
        rw [p8.length] at hv1
        refine ⟨_, p3, .inl ⟨rfl, _, SqL.of p5⟩, b, vs, v, rfl, rfl, p5, hv1, ?_⟩
        have ok2 := ok1.write hj (lstAt_ok hJ) p3 p8.dropLast
        have s2 := s1.write (o := .lst vs) (u := .lst vs.dropLast) p7 p6
        refine ⟨G1, mask own (Od.set j (some (.lst ds.dropLast))), ok2.masked, (show RW ((f2 (mask own (Od.set j (some (.lst ds.dropLast))))).bind _) (OutW X.K X.mg G0 X.H₀ own ol Dn G) (AfterX X.K X.mg E G0 X.H₀) from q3).of_bind.mono (fun d2 _ q4 v2 G3 H3 st3 r3 => ?_) fun _ z => z.step s2⟩
        refine ⟨by show 3 <= sizeLine; decide, fun p hp => ?_⟩
        have ok3 := ok2.step st3
        have sp : Step G3 H3 (upd G3 p (.tup [v1, v, v2])) (upd H3 p (.tup [v1, v, v2])) := .pub ok3.ext hp
        have ok4 := ok3.step sp
        have q5 := q4.of_bind
        cases hI : lstAt (Od.set j (some (.lst ds.dropLast))) i with
        | bad => rw [hI] at q5; exact q5.elim
        | err e => exact xag hI lstAt_ne
        | ok xs =>
          rw [hI] at q5
          have q6 : RW (bif most xs.length then R.ok (.nx ((Od.set j (some (.lst ds.dropLast))).set i (some (.lst (xs ++ [.tup [d1, d, d2]]))))) else .bad) (OutW X.K X.mg G0 X.H₀ own ol Dn G) (AfterX X.K X.mg E G0 X.H₀) := q5
          obtain ⟨a', xs', ws, p9, p10, p11, p12, p13, p14⟩ := ok4.mine i _ hi (lstAt_ok hI)
          cases p10
          rw [p1] at p9
          cases p9
          cases hm : most xs.length with
          | false => rw [hm] at q6; exact (show False from q6).elim
          | true =>
            rw [hm] at q6
            have hlt : xs.length < sizeLine := xaj hm
            refine ⟨a, ws, .ref p, rfl, rfl, p11, by rw [<- p14.length]; exact hlt, ?_⟩
            have rt : Rep X.K X.mg (upd G3 p (.tup [v1, v, v2])) (.tup [d1, d, d2]) (.ref p) := ⟨p, [v1, v, v2], rfl, SqT.of upd_same, Reps.cons (r1.mono (st3.g.trans sp.g)) (Reps.cons (rv.mono (st3.g.trans sp.g)) (Reps.cons (r3.mono sp.g) Reps.nil))⟩
            exact (show OutW X.K X.mg G0 X.H₀ own ol Dn G (.nx ((Od.set j (some (.lst ds.dropLast))).set i (some (.lst (xs ++ [.tup [d1, d, d2]]))))) from q6) O _ _ (ok4.write hi (lstAt_ok hI) p1 (p14.append (Reps.cons rt Reps.nil))) ((s2.trans (st3.trans sp)).write (o := .lst ws) p13 p12) (st1.g.trans (st3.g.trans sp.g))
end DL
section
set_option maxHeartbeats 2000000
namespace DL
open L2 PyProof.Rows
abbrev ow (L : List (Nat × Addr)) : List Nat := L.map (·.1)
def Lk (L : List (Nat × Addr)) (Od : DSt) (O : L2.St) : Prop := ∀ p ∈ L, O[p.1]? = some (some (.ref p.2)) /\ ∃ ds, Od[p.1]? = some (some (.lst ds))
section
variable {L : List (Nat × Addr)} {Od : DSt} {O : L2.St}
theorem Lk.set {j : Nat} {x : Option D} {y : Option V} (h : Lk L Od O) (hj : j ∉ ow L) : Lk L (Od.set j x) (O.set j y) := fun p hp => by
  obtain ⟨h1, ds, h2⟩ := h p hp
  have hne : j ≠ p.1 := fun e => hj (e ▸ xcj.mpr ⟨p, hp, rfl⟩)
  exact ⟨by rw [xaf hne]; exact h1, ds, by rw [xaf hne]; exact h2⟩
theorem Lk.write {i : Nat} {ds : List D} (h : Lk L Od O) : Lk L (Od.set i (some (.lst ds))) O := fun p hp => by
  obtain ⟨h1, ds', h2⟩ := h p hp
  refine ⟨h1, ?_⟩
  by_cases e : i = p.1
  · subst e
    exact ⟨ds, xaz (xae.mp h2).1⟩
  · exact ⟨ds', by rw [xaf e]; exact h2⟩
end
section
variable (K : xFg) (mg : Str -> Option Value) (E : XK)
def OutL (G0 H0 : Hp) (L : List (Nat × Addr)) (Dn : Ends) (G : Hp) (Od' : DSt) : Prop := ∀ O' G' H', Ok K mg H0 (ow L) Od' O' G' H' -> Lk L Od' O' -> Step G0 H0 G' H' -> Same G G' -> Dn.nx O' H'
def tL (G0 H0 : Hp) (L : List (Nat × Addr)) (f : DSt -> R DSt) : TS := fun Dn O H => ∃ G Od, Ok K mg H0 (ow L) Od O G H /\ Lk L Od O /\ Step G0 H0 G H /\ RW (f Od) (OutL K mg G0 H0 L Dn G) (AfterX K mg E G0 H0)
end
theorem OutL.shift {K : xFg} {mg : Str -> Option Value} {G0 H0 G G' : Hp} {L : List (Nat × Addr)} {Dn : Ends} (s : Same G G') {o : DSt} (h : OutL K mg G0 H0 L Dn G o) : OutL K mg G0 H0 L Dn G' o := fun a b c d l e f => h a b c d l e (s.trans f)
def DH (X : Cx) (E : XK) (L : List (Nat × Addr)) (st : Stmt) (f : DSt -> R DSt) : Prop := ∀ G0 H0, PS X st (tL X.K X.mg E G0 H0 L f)
def DHs (X : Cx) (E : XK) (L : List (Nat × Addr)) (st : List Stmt) (f : DSt -> R DSt) : Prop := ∀ G0 H0, PSs X st (tL X.K X.mg E G0 H0 L f)
def hSet (own : List Nat) (j : Nat) (fe : DSt -> R D) : DSt -> R DSt := fun O => (fe (mask own O)).bind fun d => .ok (O.set j (some d))
def hPop (i j : Nat) : DSt -> R DSt := fun O => (lstAt O i).bind fun ds => match ds[ds.length - 1]? with
  | some d => .ok ((O.set i (some (.lst ds.dropLast))).set j (some d))
  | none => .bad
def hPopE (i : Nat) : DSt -> R DSt := fun O => (lstAt O i).bind fun ds => match ds[ds.length - 1]? with
  | some _ => .ok (O.set i (some (.lst ds.dropLast)))
  | none => .bad
def hApp (own : List Nat) (i : Nat) (fe : DSt -> R D) : DSt -> R DSt := fun O => (lstAt O i).bind fun ds => (fe (mask own O)).bind fun d => bif most ds.length then .ok (O.set i (some (.lst (ds ++ [d])))) else .bad
def hExt (own : List Nat) (i : Nat) (fe : DSt -> R D) : DSt -> R DSt := fun O => (lstAt O i).bind fun ds => (fe (mask own O)).bind fun d => match d with
  | .lst es => bif le24 (ds.length + es.length) then .ok (O.set i (some (.lst (ds ++ es)))) else .bad
  | _ => .bad
def hAppPop (own : List Nat) (i j : Nat) (f1 f2 : DSt -> R D) : DSt -> R DSt := fun O => (lstAt O i).bind fun xs => (lstAt O j).bind fun ds => match ds[ds.length - 1]? with
  | some d => (f1 (mask own O)).bind fun d1 => (f2 (mask own O)).bind fun d2 => bif most xs.length && decide (i ≠ j) then .ok ((O.set j (some (.lst ds.dropLast))).set i (some (.lst (xs ++ [.tup [d, d1, d2]])))) else .bad
  | none => .bad
def nxO (f : DSt -> R DSt) : DSt -> R Out := fun O => (f O).bind fun O' => .ok (.nx O')
def onlyNx : Out -> R DSt
  | .nx O => .ok O
  | _ => .bad
noncomputable def hWhile (c : DSt -> R Bool) (f : DSt -> R DSt) : DSt -> R DSt := fun O => (sWhile c (nxO f) O).bind onlyNx
def hFor (own : List Nat) (k : Nat) (fi : DSt -> R (List D)) (fb : DSt -> R DSt) : DSt -> R DSt := fun O => (fi (mask own O)).bind fun ds => kForL k fb ds O
section
variable {X : Cx} {E : XK} {L : List (Nat × Addr)} {st : Stmt} {rest : List Stmt} {f g : DSt -> R DSt} {pos np pos' nq : Pos} {x y : Str} {e e1 e2 c : Expr} {fe f1 f2 : DSt -> R D} {fc : DSt -> R Bool}
theorem dhs_nil : DHs X E L [] kNext := fun G0 H0 => PSs.mono' pss_nil fun Dn O H ⟨G, Od, ok, lk, s0, q⟩ => (show OutL X.K X.mg G0 H0 L Dn G Od from q) O G H ok lk s0 (Same.refl _)
theorem dhs_one (h1 : DH X E L st f) : DHs X E L [st] f := fun G0 H0 => pss_one (h1 G0 H0)
theorem dhs_cons (h1 : DH X E L st f) (h2 : DHs X E L rest g) : DHs X E L (st :: rest) (kSeq f g) := fun G0 H0 => PSs.mono' (pss_cons (h1 G0 H0) (h2 G0 H0)) fun Dn O H ⟨G, Od, ok, lk, s0, q⟩ => by
  refine ⟨G, Od, ok, lk, s0, q.of_bind.mono (fun O1 _ z => ?_) fun _ z => z⟩
  intro O' G' H' ok' lk' s' e'
  exact ⟨G', O1, ok', lk', s', (show RW (g O1) _ _ from z).mono (fun o _ z => z.shift e') fun _ z => z⟩
theorem dh_if {a b : List Stmt} (hc : DT X E c fc) (ha : DHs X E L a f) (hb : DHs X E L b g) : DH X E L (.If c a b pos) (kIf fc f g) := fun G0 H0 =>
  PS.mono' (ps_if hc (ha G0 H0) (hb G0 H0)) fun Dn O H ⟨G, Od, ok, lk, s0, q⟩ => by
  refine ⟨_, Od, ok.pub.1, q.of_bind.mono (fun k _ z G' H' s => ?_) fun _ z => z.step (ok.pubStep s0)⟩
  have ok' := ok.drop s.h
  have s' : Step G0 H0 G H' := s0.trans (.heap ok.ext s.h)
  cases k with
  | true => exact iteT ⟨G, Od, ok', lk, s', (show RW (f Od) _ _ from z)⟩
  | false => exact iteF ⟨G, Od, ok', lk, s', (show RW (g Od) _ _ from z)⟩
theorem dh_set (j : Nat) (hN : X.N.Nodup) (he : DE X E e fe) (ho : (ow L).contains j = false := by rfl) (hi : X.N[j]? = some x := by rfl) (hx : Loc X.env.scope x := by first | exact Or.inl rfl | exact Or.inr rfl) (hs : swapsWith e (some (.Name x pos')) pos.line X.env = pure false := by rfl)
    (hf : X.fn x = true \/ X.env.scope.names.lookup x = some .local := by first | exact .inl rfl | exact .inr rfl | assumption) : DH X E L (.Assign [.Name x pos'] e pos) (hSet (ow L) j fe) := fun G0 H0 =>
  PS.mono' (ps_set hN hi hx he hs hf) fun Dn O H ⟨G, Od, ok, lk, s0, q⟩ => by
  refine ⟨G, mask (ow L) Od, ok.masked, q.of_bind.mono (fun d _ z v G' H' s r => ?_) fun _ z => z.step s0⟩
  exact (show OutL X.K X.mg G0 H0 L Dn G (Od.set j (some d)) from z) _ G' H' ((ok.step s).set (mem_of ho) r) (lk.set (mem_of ho)) (s0.trans s) s.g
theorem dh_pop (i j : Nat) {apos cpos : Pos} (hN : X.N.Nodup) (ho : (ow L).contains i = true := by rfl) (ho' : (ow L).contains j = false := by rfl) (hi : X.N[i]? = some x := by rfl) (hj : X.N[j]? = some y := by rfl) (hv : Vis X.env.scope x := by first | exact Or.inl rfl | exact Or.inr (Or.inl rfl) | exact Or.inr (Or.inr rfl)) (hd : (x == ("__debug__" : Str)) = false := by decide)
    (hcd : (x == ("__classdict__" : Str)) = false := by decide) (hy : Loc X.env.scope y := by first | exact Or.inl rfl | exact Or.inr rfl)
    (hbase : attributeBase (.Name x np) "pop" X.env (eval (.Name x np) X.env) = eval (.Name x np) X.env := by rfl) (hline : (apos.endLine == cpos.line) = true := by rfl)
    (hs : swapsWith (.Call (.Attribute (.Name x np) "pop" apos) [] [] cpos) (some (.Name y pos')) pos.line X.env = pure false := by rfl)
    (hf : X.fn y = true \/ X.env.scope.names.lookup y = some .local := by first | exact .inl rfl | exact .inr rfl | assumption) :
    DH X E L (.Assign [.Name y pos'] (.Call (.Attribute (.Name x np) "pop" apos) [] [] cpos) pos) (hPop i j) := fun G0 H0 =>
  PS.mono' (ps_set hN hj hy (pe_bm0 PySem.F.plainAttrs_list PySem.F.slot_list_pop PySem.F.type_list_pop mt_pop (pv i hi hv hd hcd) hbase hline) hs hf) fun Dn O H ⟨G, Od, ok, lk, s0, q⟩ => by
  have q1 := q.of_bind
  cases hL : lstAt Od i with
  | bad => rw [hL] at q1; exact q1.elim
  | err e => exact xag hL lstAt_ne
  | ok ds =>
    rw [hL] at q1
    have hd := lstAt_ok hL
    have hm : i ∈ ow L := by simpa using ho
    obtain ⟨a, ds', vs, p1, p2, p3, p4, p5, p6⟩ := ok.mine i _ hm hd
    cases p2
    have q2 : RW (match ds[ds.length - 1]? with
      | some d => R.ok ((Od.set i (some (.lst ds.dropLast))).set j (some d))
      | none => .bad) (OutL X.K X.mg G0 H0 L Dn G) (AfterX X.K X.mg E G0 H0) := q1
    cases hg : ds[ds.length - 1]? with
    | none => rw [hg] at q2; exact (show False from q2).elim
    | some d =>
      rw [hg] at q2
      obtain ⟨v, hv', r⟩ := p6.get hg
      rw [p6.length] at hv'
      refine ⟨_, p1, .inl ⟨rfl, _, SqL.of p3⟩, a, vs, v, rfl, rfl, p3, hv', ?_⟩
      exact (show OutL X.K X.mg G0 H0 L Dn G ((Od.set i (some (.lst ds.dropLast))).set j (some d)) from q2) _ G _ ((ok.write hm hd p1 p6.dropLast).set (mem_of ho') r) (lk.write.set (mem_of ho')) (s0.write (o := .lst vs) p5 p4) (Same.refl _)
theorem dh_popE (i : Nat) {apos cpos : Pos} (ho : (ow L).contains i = true := by rfl) (hi : X.N[i]? = some x := by rfl) (hv : Vis X.env.scope x := by first | exact Or.inl rfl | exact Or.inr (Or.inl rfl) | exact Or.inr (Or.inr rfl)) (hd : (x == ("__debug__" : Str)) = false := by decide)
    (hcd : (x == ("__classdict__" : Str)) = false := by decide)
    (hbase : attributeBase (.Name x np) "pop" X.env (eval (.Name x np) X.env) = eval (.Name x np) X.env := by rfl) (hline : (apos.endLine == cpos.line) = true := by rfl)
    (hs : swapsWith (.Call (.Attribute (.Name x np) "pop" apos) [] [] cpos) none pos.line X.env = pure false := by rfl) :
    DH X E L (.Expr (.Call (.Attribute (.Name x np) "pop" apos) [] [] cpos) pos) (hPopE i) := fun G0 H0 =>
  PS.mono' (ps_expr (pe_bm0 PySem.F.plainAttrs_list PySem.F.slot_list_pop PySem.F.type_list_pop mt_pop (pv i hi hv hd hcd) hbase hline) hs) fun Dn O H ⟨G, Od, ok, lk, s0, q⟩ => by
  have q1 := q.of_bind
  cases hL : lstAt Od i with
  | bad => rw [hL] at q1; exact q1.elim
  | err e => exact xag hL lstAt_ne
  | ok ds =>
    rw [hL] at q1
    have hd := lstAt_ok hL
    have hm : i ∈ ow L := by simpa using ho
    obtain ⟨a, ds', vs, p1, p2, p3, p4, p5, p6⟩ := ok.mine i _ hm hd
    cases p2
    have q2 : RW (match ds[ds.length - 1]? with
      | some d => R.ok (Od.set i (some (.lst ds.dropLast)))
      | none => .bad) (OutL X.K X.mg G0 H0 L Dn G) (AfterX X.K X.mg E G0 H0) := q1
    cases hg : ds[ds.length - 1]? with
    | none => rw [hg] at q2; exact (show False from q2).elim
    | some d =>
      rw [hg] at q2
      obtain ⟨v, hv', r⟩ := p6.get hg
      rw [p6.length] at hv'
      refine ⟨_, p1, .inl ⟨rfl, _, SqL.of p3⟩, a, vs, v, rfl, rfl, p3, hv', ?_⟩
      exact (show OutL X.K X.mg G0 H0 L Dn G (Od.set i (some (.lst ds.dropLast))) from q2) _ G _ (ok.write hm hd p1 p6.dropLast) lk.write (s0.write (o := .lst vs) p5 p4) (Same.refl _)
theorem dh_app (i : Nat) {apos cpos : Pos} (he : DE X E e fe) (ho : (ow L).contains i = true := by rfl) (hN : X.N[i]? = some x := by rfl) (hv : Vis X.env.scope x := by first | exact Or.inl rfl | exact Or.inr (Or.inl rfl) | exact Or.inr (Or.inr rfl)) (hd : (x == ("__debug__" : Str)) = false := by decide)
    (hcd : (x == ("__classdict__" : Str)) = false := by decide)
    (hbase : attributeBase (.Name x np) "append" X.env (eval (.Name x np) X.env) = eval (.Name x np) X.env := by rfl)
    (hfew : ((backTo cpos (starEach [e] X.env)).all (fun x => !x.1) && (backToKw cpos (keywordEach [] X.env)).all (fun x => x.1.isSome) && decide ([e].length + ([] : List Keyword).length + (if ([] : List Keyword).isEmpty then 0 else 1) < 30)) = true := by rfl)
    (hline : (apos.endLine == cpos.line) = true := by rfl) (hs : starEach [e] X.env = (false, eval e X.env) :: starEach [] X.env := by rfl) (hplain : (backTo cpos (starEach [] X.env)).any (·.1) = false := by rfl)
    (hsw : swapsWith (.Call (.Attribute (.Name x np) "append" apos) [e] [] cpos) none pos.line X.env = pure false := by rfl) :
    DH X E L (.Expr (.Call (.Attribute (.Name x np) "append" apos) [e] [] cpos) pos) (hApp (ow L) i fe) := fun G0 H0 =>
  PS.mono' (ps_expr (pe_bm PySem.F.plainAttrs_list PySem.F.slot_list_append PySem.F.type_list_append mt_append (pv i hN hv hd hcd) (pa_cons he pa_nil hs) hbase hfew hline hs hplain) hsw) fun Dn O H ⟨G, Od, ok, lk, s0, q⟩ => by
  have q1 := q.of_bind
  cases hL : lstAt Od i with
  | bad => rw [hL] at q1; exact q1.elim
  | err e => exact xag hL lstAt_ne
  | ok ds =>
    rw [hL] at q1
    have hd := lstAt_ok hL
    have hi : i ∈ ow L := by simpa using ho
    obtain ⟨a, ds', vs, p1, p2, p3, p4, p5, p6⟩ := ok.mine i _ hi hd
    cases p2
    refine ⟨_, p1, .inl ⟨rfl, _, SqL.of p3⟩, G, mask (ow L) Od, ok.masked, (show RW ((fe (mask (ow L) Od)).bind _) _ _ from q1).of_bind.mono (fun d _ z v G' H' s r => ?_) fun _ z => z.step s0⟩
    have z : RW (bif most ds.length then R.ok (Od.set i (some (.lst (ds ++ [d])))) else .bad) (OutL X.K X.mg G0 H0 L Dn G) (AfterX X.K X.mg E G0 H0) := z
    cases hm : most ds.length with
    | false => rw [hm] at z; exact (show False from z).elim
    | true =>
      rw [hm] at z
      have hlt : ds.length < sizeLine := xaj hm
      have ok' := ok.step s
      refine ⟨a, vs, v, rfl, rfl, s.h _ _ p3, by rw [<- p6.length]; exact hlt, ?_⟩
      exact (show OutL X.K X.mg G0 H0 L Dn G (Od.set i (some (.lst (ds ++ [d])))) from z) O G' _ (ok'.write hi hd p1 ((p6.mono s.g).append (Reps.cons r Reps.nil))) lk.write ((s0.trans s).write (o := .lst vs) p5 (s.c _ _ p3 p4)) s.g
theorem dh_ext (i : Nat) {apos cpos : Pos} (he : DE X E e fe) (ho : (ow L).contains i = true := by rfl) (hN : X.N[i]? = some x := by rfl) (hv : Vis X.env.scope x := by first | exact Or.inl rfl | exact Or.inr (Or.inl rfl) | exact Or.inr (Or.inr rfl)) (hd : (x == ("__debug__" : Str)) = false := by decide)
    (hcd : (x == ("__classdict__" : Str)) = false := by decide)
    (hbase : attributeBase (.Name x np) "extend" X.env (eval (.Name x np) X.env) = eval (.Name x np) X.env := by rfl)
    (hfew : ((backTo cpos (starEach [e] X.env)).all (fun x => !x.1) && (backToKw cpos (keywordEach [] X.env)).all (fun x => x.1.isSome) && decide ([e].length + ([] : List Keyword).length + (if ([] : List Keyword).isEmpty then 0 else 1) < 30)) = true := by rfl)
    (hline : (apos.endLine == cpos.line) = true := by rfl) (hs : starEach [e] X.env = (false, eval e X.env) :: starEach [] X.env := by rfl) (hplain : (backTo cpos (starEach [] X.env)).any (·.1) = false := by rfl)
    (hsw : swapsWith (.Call (.Attribute (.Name x np) "extend" apos) [e] [] cpos) none pos.line X.env = pure false := by rfl) :
    DH X E L (.Expr (.Call (.Attribute (.Name x np) "extend" apos) [e] [] cpos) pos) (hExt (ow L) i fe) := fun G0 H0 =>
  PS.mono' (ps_expr (pe_bm PySem.F.plainAttrs_list PySem.F.slot_list_extend PySem.F.type_list_extend mt_extL (pv i hN hv hd hcd) (pa_cons he pa_nil hs) hbase hfew hline hs hplain) hsw) fun Dn O H ⟨G, Od, ok, lk, s0, q⟩ => by
  have q1 := q.of_bind
  cases hL : lstAt Od i with
  | bad => rw [hL] at q1; exact q1.elim
  | err e => exact xag hL lstAt_ne
  | ok ds =>
    rw [hL] at q1
    have hd := lstAt_ok hL
    have hi : i ∈ ow L := by simpa using ho
    obtain ⟨a, ds', vs, p1, p2, p3, p4, p5, p6⟩ := ok.mine i _ hi hd
    cases p2
    refine ⟨_, p1, .inl ⟨rfl, _, SqL.of p3⟩, G, mask (ow L) Od, ok.masked, (show RW ((fe (mask (ow L) Od)).bind _) _ _ from q1).of_bind.mono (fun d _ z v G' H' s r => ?_) fun _ z => z.step s0⟩
    cases d with
    | lst es =>
      obtain ⟨b, ys, rfl, hb, hy⟩ := r
      have z : RW (bif le24 (ds.length + es.length) then R.ok (Od.set i (some (.lst (ds ++ es)))) else .bad) (OutL X.K X.mg G0 H0 L Dn G) (AfterX X.K X.mg E G0 H0) := z
      cases hm : le24 (ds.length + es.length) with
      | false => rw [hm] at z; exact (show False from z).elim
      | true =>
        rw [hm] at z
        have hle : ds.length + es.length <= sizeLine := xaj hm
        have ok' := ok.step s
        refine ⟨a, b, vs, ys, rfl, rfl, s.h _ _ p3, s.e.seq hb, by rw [<- p6.length, <- hy.length]; exact hle, ?_⟩
        exact (show OutL X.K X.mg G0 H0 L Dn G (Od.set i (some (.lst (ds ++ es)))) from z) O G' _ (ok'.write hi hd p1 ((p6.mono s.g).append hy)) lk.write ((s0.trans s).write (o := .lst vs) p5 (s.c _ _ p3 p4)) s.g
    | _ => exact (show False from z).elim
end
end DL
end
section
set_option maxHeartbeats 2000000
namespace DL
open L2 PyProof.Rows
def kRaise1 (c : Str) : DSt -> R DSt := fun _ => .err (.exc c [])
section
variable {P : Program} {w : World} {K : xFg} {mg : Str -> Option Value} {base : Heap} {N : List Str} {qual : Str} {scope : Scope} {f : Addr} {cdv : Value} {A : Around} {outer : List Env} {s0 : Shared} {H1 : Hp} {E : XK} {L : List (Nat × Addr)}
theorem dh_raise1 {x t : Str} {C : Addr} {np cpos pos tp : Pos} {j} (q : PySem.W.excIn K C [.type "ValueError", .type "Exception", .type "BaseException", .type "object"] "ValueError.__new__" = true) (hx : XcOk K mg x C)
    (hg : Gl (cxOf (CXe P w) P w K mg base N qual scope f cdv A outer s0 H1 E) x := by rfl) (hdb : (x == ("__debug__" : Str)) = false := by decide) :
    DH (cxOf (CXe P w) P w K mg base N qual scope f cdv A outer s0 H1 E) E L (.Raise (some (.Call (.Name x np) [.Constant (.str t) j tp] [] cpos)) none pos) (kRaise1 x) := fun G0 H0 =>
  PS.mono' (ps_raise q hg hx.here (da_cons (de_str (x := t)) (da_nil (E := E))) hdb) fun Dn O H ⟨G, Od, ok, lk, s1, z⟩ => by
  have sp := ok.pubStep s1
  refine ⟨_, Od, ok.pub.1, ?_⟩
  show AfterA K mg _ _ _ [.str t]
  intro vs G' H' s r
  refine ⟨by rw [<- r.length]; show 1 <= sizeLine; decide, ?_⟩
  exact (show AfterX K mg E G0 H0 (.exc x []) from z) G' H' C none (sp.trans s) ⟨x, [], [], rfl, hx, .inl ⟨rfl, rfl⟩, Reps.nil⟩
end
section
variable {X : Cx} {E : XK} {L : List (Nat × Addr)} {st : Stmt} {rest body : List Stmt} {f g : DSt -> R DSt} {pos np pos' nq : Pos} {x y : Str} {e e1 e2 c iter : Expr} {fe f1 f2 : DSt -> R D} {fc : DSt -> R Bool} {fi : DSt -> R (List D)}
theorem dh_for (k : Nat) {tp : Pos} (Lo : XL X) (hc : X.calm = true) (hi : DI X E (.Name x tp) iter fi) (hg : DG X (.Name x tp) [k] gpOne) (hb : DHs X E L body f) (ho : (ow L).contains k = false := by rfl) (hs : ∀ x, foldedSetIterable iter X.env x = pure x := by intro _; rfl) :
    DH X E L (.For (.Name x tp) iter body [] pos) (hFor (ow L) k fi f) := fun G0 H0 => PS.mono' (ps_for Lo.own hc hi hg (hb G0 H0) hs) fun Dn O H ⟨G, Od, ok, lk, s0, q⟩ => by
  refine ⟨G, mask (ow L) Od, ok.masked, q.of_bind.mono (fun ds _ z J G1 H1 s1 it => ?_) fun _ z => z.step s0⟩
  have hk := mem_of ho
  refine ⟨fun n m O' H' => m = ds.length - n /\ n <= ds.length /\ ∃ G' Od', Ok X.K X.mg H0 (ow L) Od' O' G' H' /\ Lk L Od' O' /\ Same G1 G' /\ Step G0 H0 G' H' /\ RW (kForL k f (ds.drop n) Od') (OutL X.K X.mg G0 H0 L Dn G1) (AfterX X.K X.mg E G0 H0),
    ⟨ds.length, by simp, xcl _, G1, Od, ok.step s1, lk, Same.refl _, s0.trans s1, (show RW (kForL k f ds Od) _ _ from z).mono (fun _ _ z => z.shift s1.g) fun _ z => z⟩, ?_⟩
  rintro n m O' H' ⟨rfl, hn, G', Od', ok', lk', e', s', w⟩
  by_cases hlt : n < ds.length
  · right
    obtain ⟨d, hd⟩ : ∃ d, ds[n]? = some d := ⟨ds[n], by simp [hlt]⟩
    obtain ⟨g1, g2⟩ := it.turn H' n d (e'.trans ok'.ext) hd
    have hdrop : ds.drop n = d :: ds.drop (n + 1) := by
      rw [xcg hlt]
      congr 1
      exact xa4 ((xbf hlt).symm.trans hd)
    rw [hdrop] at w
    refine ⟨g1, fun O2 H2 => n + 1 <= ds.length /\ ∃ G' Od', Ok X.K X.mg H0 (ow L) Od' O2 G' H2 /\ Lk L Od' O2 /\ Same G1 G' /\ Step G0 H0 G' H2 /\ RW (kForL k f (ds.drop (n + 1)) Od') (OutL X.K X.mg G0 H0 L Dn G1) (AfterX X.K X.mg E G0 H0),
      fun O2 H2 ⟨h1, h2⟩ => ⟨ds.length - (n + 1), by omega, rfl, h1, h2⟩, fun x H2 hy => ?_⟩
    obtain ⟨G2, s2, r2⟩ := g2 x H2 hy G' e' ok'.ext
    unfold kForL at w
    refine ⟨G2, d, s2.e, r2, RW.ok_of (a := [d]) rfl fun ws rws => ?_⟩
    obtain ⟨v, r, rfl, r3, r4⟩ := rws
    cases r4
    have ok2 := (ok'.step s2).set (i := k) hk r3
    refine ⟨G2, _, ok2, lk'.set hk, s'.trans s2, w.of_bind.mono (fun o _ z => ?_) fun _ z => z⟩
    exact fun O4 G4 H4 ok4 lk4 s4 e4 => ⟨hlt, G4, o, ok4, lk4, (e'.trans s2.g).trans e4, s4, z⟩
  · left
    have hn2 : n = ds.length := by omega
    subst hn2
    rw [List.drop_length] at w
    refine ⟨it.stop H' (e'.trans ok'.ext), ?_⟩
    unfold kForL at w
    exact (show OutL X.K X.mg G0 H0 L Dn G1 Od' from w) O' G' H' ok' lk' s' e'
theorem dh_while (Lo : XL X) (hc : DT X E c fc) (hb : DHs X E L body f) : DH X E L (.While c body [] pos) (hWhile fc f) := fun G0 H0 => PS.mono' (ps_while Lo.own hc (hb G0 H0)) fun Dn O H ⟨G, Od, ok, lk, s0, q⟩ => by
  have q := (show RW ((sWhile fc (nxO f) Od).bind onlyNx) _ _ from q).of_bind
  have hx : ∃ n, whileN fc (nxO f) n Od ≠ .bad := by
    by_cases hx : ∃ n, whileN fc (nxO f) n Od ≠ .bad
    · exact hx
    · unfold sWhile at q; rw [dif_neg hx] at q; exact (show False from q).elim
  obtain ⟨n, hn⟩ := hx
  rw [sWhile_eq rfl hn] at q
  refine ⟨fun m O' H' => ∃ G' Od', Ok X.K X.mg H0 (ow L) Od' O' G' H' /\ Lk L Od' O' /\ Same G G' /\ Step G0 H0 G' H' /\ RW (whileN fc (nxO f) m Od') (fun o => RW (onlyNx o) (OutL X.K X.mg G0 H0 L Dn G) (AfterX X.K X.mg E G0 H0)) (AfterX X.K X.mg E G0 H0), ⟨n, G, Od, ok, lk, Same.refl _, s0, q⟩, ?_⟩
  rintro m O1 H1 ⟨G1, Od1, ok1, lk1, e1, s1, w⟩
  cases m with
  | zero => exact (show False from w).elim
  | succ m =>
    unfold whileN at w
    have sp := ok1.pubStep s1
    refine ⟨_, Od1, ok1.pub.1, w.of_bind.mono (fun k _ z G' H' s => ?_) fun _ z => z.step sp⟩
    have ok' := ok1.drop s.h
    have s' : Step G0 H0 G1 H' := s1.trans (.heap ok1.ext s.h)
    cases k with
    | true =>
      refine iteT ?_
      refine ⟨fun O2 H2 => ∃ G' Od', Ok X.K X.mg H0 (ow L) Od' O2 G' H2 /\ Lk L Od' O2 /\ Same G G' /\ Step G0 H0 G' H2 /\ RW (whileN fc (nxO f) m Od') (fun o => RW (onlyNx o) (OutL X.K X.mg G0 H0 L Dn G) (AfterX X.K X.mg E G0 H0)) (AfterX X.K X.mg E G0 H0), fun O2 H2 h => ⟨m, Nat.lt_succ_self _, h⟩, ?_⟩
      refine ⟨G1, Od1, ok', lk1, s', (show RW (((f Od1).bind fun O' => R.ok (Out.nx O')).bind _) _ _ from z).of_bind.of_bind.mono (fun O3 _ z => ?_) fun _ z => z⟩
      exact fun O4 G4 H4 ok4 lk4 s4 e4 => ⟨G4, O3, ok4, lk4, e1.trans e4, s4, z⟩
    | false =>
      refine iteF ?_
      exact (show OutL X.K X.mg G0 H0 L Dn G Od1 from z) O1 G1 H' ok' lk1 s' e1
theorem dh_appPop (i j : Nat) {apos bpos cpos dpos tpos : Pos} {x1} (h1 : DE X E e1 f1) (h2 : DE X E e2 f2) (ho : (ow L).contains i = true := by rfl) (ho' : (ow L).contains j = true := by rfl) (hN : X.N[i]? = some x := by rfl) (hM : X.N[j]? = some y := by rfl)
    (hv : Vis X.env.scope x := by first | exact Or.inl rfl | exact Or.inr (Or.inl rfl) | exact Or.inr (Or.inr rfl)) (hd : (x == ("__debug__" : Str)) = false := by decide) (hcd : (x == ("__classdict__" : Str)) = false := by decide)
    (hv' : Vis X.env.scope y := by first | exact Or.inl rfl | exact Or.inr (Or.inl rfl) | exact Or.inr (Or.inr rfl)) (hd' : (y == ("__debug__" : Str)) = false := by decide) (hcd' : (y == ("__classdict__" : Str)) = false := by decide)
    (hbase : attributeBase (.Name x np) "append" X.env (eval (.Name x np) X.env) = eval (.Name x np) X.env := by rfl) (hbase' : attributeBase (.Name y nq) "pop" X.env (eval (.Name y nq) X.env) = eval (.Name y nq) X.env := by rfl)
    (hfew : ((backTo cpos (starEach [.Tuple [.Call (.Attribute (.Name y nq) "pop" bpos) [] [] dpos, e1, e2] x1 tpos] X.env)).all (fun x => !x.1) && (backToKw cpos (keywordEach [] X.env)).all (fun x => x.1.isSome) && decide ([Expr.Tuple [.Call (.Attribute (.Name y nq) "pop" bpos) [] [] dpos, e1, e2] x1 tpos].length + ([] : List Keyword).length + (if ([] : List Keyword).isEmpty then 0 else 1) < 30)) = true := by rfl)
    (hline : (apos.endLine == cpos.line) = true := by rfl) (hline' : (bpos.endLine == dpos.line) = true := by rfl)
    (hs : starEach [.Tuple [.Call (.Attribute (.Name y nq) "pop" bpos) [] [] dpos, e1, e2] x1 tpos] X.env = (false, eval (.Tuple [.Call (.Attribute (.Name y nq) "pop" bpos) [] [] dpos, e1, e2] x1 tpos) X.env) :: starEach [] X.env := by rfl) (hplain : (backTo cpos (starEach [] X.env)).any (·.1) = false := by rfl)
    (hs1 : starEach [.Call (.Attribute (.Name y nq) "pop" bpos) [] [] dpos, e1, e2] X.env = (false, eval (.Call (.Attribute (.Name y nq) "pop" bpos) [] [] dpos) X.env) :: starEach [e1, e2] X.env := by rfl)
    (hs2 : starEach [e1, e2] X.env = (false, eval e1 X.env) :: starEach [e2] X.env := by rfl)
    (hs3 : starEach [e2] X.env = (false, eval e2 X.env) :: starEach [] X.env := by rfl)
    (hsw : swapsWith (.Call (.Attribute (.Name x np) "append" apos) [.Tuple [.Call (.Attribute (.Name y nq) "pop" bpos) [] [] dpos, e1, e2] x1 tpos] [] cpos) none pos.line X.env = pure false := by rfl) :
    DH X E L (.Expr (.Call (.Attribute (.Name x np) "append" apos) [.Tuple [.Call (.Attribute (.Name y nq) "pop" bpos) [] [] dpos, e1, e2] x1 tpos] [] cpos) pos) (hAppPop (ow L) i j f1 f2) := fun G0 H0 =>
  PS.mono' (ps_expr (pe_bm PySem.F.plainAttrs_list PySem.F.slot_list_append PySem.F.type_list_append mt_append (pv i hN hv hd hcd)
    (pa_cons (pe_tup (pa_cons (pe_bm0 PySem.F.plainAttrs_list PySem.F.slot_list_pop PySem.F.type_list_pop mt_pop (pv j hM hv' hd' hcd') hbase' hline') (pa_cons h1 (pa_cons h2 pa_nil hs3) hs2) hs1)) pa_nil hs) hbase hfew hline hs hplain) hsw) fun Dn O H ⟨G, Od, ok, lk, s0, q⟩ => by
  have hi : i ∈ ow L := by simpa using ho
  have hj : j ∈ ow L := by simpa using ho'
  have q0 := q.of_bind
  cases hL : lstAt Od i with
  | bad => rw [hL] at q0; exact q0.elim
  | err e => exact xag hL lstAt_ne
  | ok xs =>
    rw [hL] at q0
    have hdi := lstAt_ok hL
    obtain ⟨a, xs', vs0, p1, px, p0, pg, ph, pr⟩ := ok.mine i _ hi hdi
    cases px
    refine ⟨_, p1, .inl ⟨rfl, _, SqL.of p0⟩, ?_⟩
    have q1 := (show RW ((lstAt Od j).bind _) (OutL X.K X.mg G0 H0 L Dn G) (AfterX X.K X.mg E G0 H0) from q0).of_bind
    cases hJ : lstAt Od j with
    | bad => rw [hJ] at q1; exact q1.elim
    | err e => exact xag hJ lstAt_ne
    | ok ds =>
      rw [hJ] at q1
      have hdj := lstAt_ok hJ
      obtain ⟨b, ds', vs, p3, p4, p5, p6, p7, p8⟩ := ok.mine j _ hj hdj
      cases p4
      have q2 : RW (match ds[ds.length - 1]? with
        | some d => (f1 (mask (ow L) Od)).bind fun d1 => (f2 (mask (ow L) Od)).bind fun d2 => bif most xs.length && decide (i ≠ j) then R.ok ((Od.set j (some (.lst ds.dropLast))).set i (some (.lst (xs ++ [.tup [d, d1, d2]])))) else .bad
        | none => .bad) (OutL X.K X.mg G0 H0 L Dn G) (AfterX X.K X.mg E G0 H0) := q1
      cases hg : ds[ds.length - 1]? with
      | none => rw [hg] at q2; exact (show False from q2).elim
      | some d =>
        rw [hg] at q2
        obtain ⟨v, hv1, rv⟩ := p8.get hg
        rw [p8.length] at hv1
        refine ⟨_, p3, .inl ⟨rfl, _, SqL.of p5⟩, b, vs, v, rfl, rfl, p5, hv1, ?_⟩
        have ok1 := ok.write hj hdj p3 p8.dropLast
        have lk1 : Lk L (Od.set j (some (.lst ds.dropLast))) O := lk.write
        have s1 := s0.write (o := .lst vs) (u := .lst vs.dropLast) p7 p6
        have em : mask (ow L) (Od.set j (some (.lst ds.dropLast))) = mask (ow L) Od := maskF_self Od 0 j _ (by rw [xb3]; exact ho')
        have q3 := (show RW ((f1 (mask (ow L) Od)).bind _) (OutL X.K X.mg G0 H0 L Dn G) (AfterX X.K X.mg E G0 H0) from q2).of_bind
        refine ⟨G, mask (ow L) Od, by rw [<- em]; exact ok1.masked, q3.mono (fun d1 _ q4 v1 G1 H1 st1 r1 => ?_) fun _ z => z.step s1⟩
        have ok2 := ok1.step st1
        refine ⟨G1, mask (ow L) Od, by rw [<- em]; exact ok2.masked, (show RW ((f2 (mask (ow L) Od)).bind _) (OutL X.K X.mg G0 H0 L Dn G) (AfterX X.K X.mg E G0 H0) from q4).of_bind.mono (fun d2 _ q5 v2 G2 H2 st2 r2 => ?_) fun _ z => z.step (s1.trans st1)⟩
        have ok3 := ok2.step st2
        refine ⟨by show 3 <= sizeLine; decide, fun p hp => ?_⟩
        have sp : Step G2 H2 (upd G2 p (.tup [v, v1, v2])) (upd H2 p (.tup [v, v1, v2])) := .pub ok3.ext hp
        have ok4 := ok3.step sp
        have q6 : RW (bif most xs.length && decide (i ≠ j) then R.ok ((Od.set j (some (.lst ds.dropLast))).set i (some (.lst (xs ++ [.tup [d, d1, d2]])))) else .bad) (OutL X.K X.mg G0 H0 L Dn G) (AfterX X.K X.mg E G0 H0) := q5
        cases hm : (most xs.length && decide (i ≠ j)) with
        | false => rw [hm] at q6; exact (show False from q6).elim
        | true =>
          rw [hm] at q6
          obtain ⟨m1, m2⟩ := Bool.and_eq_true_iff.mp hm
          have hij : i ≠ j := xaj m2
          have hlt : xs.length < sizeLine := xaj m1
          have hdi' : (Od.set j (some (.lst ds.dropLast)))[i]? = some (some (.lst xs)) := by rw [xaf (xa3 hij)]; exact hdi
          obtain ⟨a', xs', ws, t1, t2, t3, t4, t5, t6⟩ := ok4.mine i _ hi hdi'
          cases t2
          rw [p1] at t1
          cases t1
          refine ⟨a, ws, .ref p, rfl, rfl, t3, by rw [<- t6.length]; exact hlt, ?_⟩
          have gg := st1.g.trans (st2.g.trans sp.g)
          have rt : Rep X.K X.mg (upd G2 p (.tup [v, v1, v2])) (.tup [d, d1, d2]) (.ref p) := ⟨p, [v, v1, v2], rfl, SqT.of upd_same, Reps.cons (rv.mono gg) (Reps.cons (r1.mono (st2.g.trans sp.g)) (Reps.cons (r2.mono sp.g) Reps.nil))⟩
          exact (show OutL X.K X.mg G0 H0 L Dn G ((Od.set j (some (.lst ds.dropLast))).set i (some (.lst (xs ++ [.tup [d, d1, d2]])))) from q6) O _ _ (ok4.write hi hdi' p1 (t6.append (Reps.cons rt Reps.nil))) lk1.write ((s1.trans (st1.trans (st2.trans sp))).write (o := .lst ws) t5 t4) gg
end
end DL
end
section
set_option maxHeartbeats 2000000
namespace DL
open L2 PyProof.Rows
def hid2 (a b : Addr) (H : Hp) : Hp := fun c => if c = a \/ c = b then none else H c
structure In2 (K : xFg) (mg : Str -> Option Value) (i j : Nat) (ds : List D) (vs : List V) (a b : Addr) (xs ys : List D) (G H : Hp) : Prop where
  ext : Same G H
  ab : a ≠ b
  ij : i ≠ j
  ga : G a = none
  gb : G b = none
  la : ∃ us, H a = some (.lst us) /\ Reps K mg G xs us
  lb : ∃ us, H b = some (.lst us) /\ Reps K mg G ys us
  len : ds.length = vs.length
  di : ds[i]? = some (.lst xs)
  dj : ds[j]? = some (.lst ys)
  vi : vs[i]? = some (.ref a)
  vj : vs[j]? = some (.ref b)
  oth : ∀ k d, k ≠ i -> k ≠ j -> ds[k]? = some d -> ∃ v, vs[k]? = some v /\ Rep K mg G d v
def After2 (K : xFg) (mg : Str -> Option Value) (i j : Nat) (a b : Addr) (G H : Hp) (Q : VK) (O' : DSt) : Prop :=
  ∀ xs' ys', O'[i]? = some (some (.lst xs')) -> O'[j]? = some (some (.lst ys')) -> ∀ G' H' us ws, H' a = some (.lst us) -> H' b = some (.lst ws) -> G' a = none -> G' b = none -> Reps K mg G' xs' us -> Reps K mg G' ys' ws -> Step G (hid2 a b H) G' H' -> Q .non H'
def spO (K : xFg) (mg : Str -> Option Value) (i j : Nat) (m : List D -> R DSt) : Sp := fun vs H Q E => ∃ G ds a b xs ys, In2 K mg i j ds vs a b xs ys G H /\ RW (m ds) (After2 K mg i j a b G H Q) (AfterX K mg E G (hid2 a b H))
structure FnAtO (P : Program) (w : World) (K : xFg) (mg : Str -> Option Value) (base : Heap) (k : Nat) (x : Str) (i j : Nat) (m : List D -> R DSt) : Prop where
  ex : ∃ (f : Addr) (fd : FuncData) (ps : List Str), FnOk P w K mg base (CXe P w) k f fd ps (spO K mg i j m) /\ mg x = some (.ref f) /\ PySem.W.keepIn K (.ref f) = true /\ Binds K fd ps []
theorem FnAtO.mono {P : Program} {w : World} {K : xFg} {mg : Str -> Option Value} {base : Heap} {l k : Nat} {x : Str} {i j : Nat} {m : List D -> R DSt} (F : FnAtO P w K mg base l x i j m) (h : l <= k) : FnAtO P w K mg base k x i j m := by
  obtain ⟨f, fd, ps, h1, h2⟩ := F.ex
  exact ⟨f, fd, ps, h1.mono h, h2⟩
def fnMO (n nN : Nat) (body : DSt -> R DSt) : List D -> R DSt := fun ds => bif ds.length == n then body (startD nN ds) else .bad
theorem fnMO_go {n nN : Nat} {b : DSt -> R DSt} {ds : List D} (h : ds.length = n) : fnMO n nN b ds = b (startD nN ds) := by
  unfold fnMO; rw [show (ds.length == n) = true by simpa using h]; rfl
theorem start_get {n k : Nat} {ds : List D} {d : D} (h : (startD n ds)[k]? = some (some d)) : ds[k]? = some d := by
  unfold startD at h
  by_cases hk : k < ds.length
  · rw [xbc (by simpa using hk), xbd] at h
    obtain ⟨x, h1, h2⟩ := Option.map_eq_some_iff.mp h
    cases h2; exact h1
  · rw [xbr (by simpa using hk), xbz] at h
    split at h <;> cases h
theorem get_start {α : Type} {n k : Nat} {ds : List α} {d : α} (h : ds[k]? = some d) : (ds.map some ++ List.replicate n none)[k]? = some (some d) := by
  have hk := (xae.mp h).1
  rw [xbc (by simpa using hk), xbd, h]; rfl
section
variable {P : Program} {w : World} {K : xFg} {mg : Str -> Option Value} {base : Heap} {x : Str} {st : Stmt} {ps N : List Str} {f : Addr} {fd : FuncData} {k n nN i j : Nat} {body : DSt -> R DSt}
theorem FA.okO (F : FA K mg x st ps f fd) (S : FnScope N ps (defScope st)) (hn : ps.length = n) (hN : N.length = nN)
    (hb : ∀ a b, XX P w K mg base x st f N k fun X E => DHs X E [(i, a), (j, b)] (defBody st) body) : FnAtO P w K mg base (k + 1) x i j (fnMO n nN body) := by
  refine ⟨f, fd, ps, F.F.okX S (fun vs H Q E h => ?_) (fun cdv A outer s H vs Q E hr hsp => ?_), F.m, F.F.kp, F.b⟩
  · obtain ⟨G, ds, a, b, xs, ys, I, q⟩ := h
    by_cases hd : ds.length = n
    · rw [<- I.len, hd, hn]
    · have : (ds.length == n) = false := by simpa using hd
      unfold fnMO at q
      rw [this] at q
      exact (show False from q).elim
  · obtain ⟨G, ds, a, b, xs, ys, I, q⟩ := hsp
    have hd : ds.length = n := by
      by_cases hd : ds.length = n
      · exact hd
      · have : (ds.length == n) = false := by simpa using hd
        unfold fnMO at q
        rw [this] at q
        exact (show False from q).elim
    rw [fnMO_go hd] at q
    obtain ⟨us, ha1, ha2⟩ := I.la
    obtain ⟨ws, hb1, hb2⟩ := I.lb
    have si : (startD nN ds)[i]? = some (some (.lst xs)) := get_start I.di
    have sj : (startD nN ds)[j]? = some (some (.lst ys)) := get_start I.dj
    have vi : (L2.start N vs)[i]? = some (some (.ref a)) := get_start I.vi
    have vj : (L2.start N vs)[j]? = some (some (.ref b)) := get_start I.vj
    have ha0 : hid2 a b H a = none := by unfold hid2; rw [xav (.inl rfl)]
    have hb0 : hid2 a b H b = none := by unfold hid2; rw [xav (.inr rfl)]
    refine ⟨_, hb a b cdv A outer s H E ⟨rfl, hr, passE⟩ ⟨PassesOwn.leaving⟩ S.nd G (hid2 a b H), G, startD nN ds, ⟨I.ext, ?_, ?_, ?_, ?_⟩, ?_, ⟨Same.refl _, ?_, I.ext, fun _ _ _ h => h⟩, q.mono (fun O' _ z => ?_) fun _ z => z⟩
    · unfold L2.start startD
      rw [xar, xar, xao, xao, xba, xba, hN, I.len]
    · intro l d hl h
      have hl : l ≠ i /\ l ≠ j := by simpa using hl
      obtain ⟨v, h1, h2⟩ := I.oth l d hl.1 hl.2 (start_get h)
      exact ⟨v, get_start h1, h2⟩
    · intro l d hl h
      have hl : l = i \/ l = j := by simpa using hl
      rcases hl with rfl | rfl
      · rw [si] at h; cases h
        exact ⟨a, xs, us, vi, rfl, ha1, I.ga, ha0, ha2⟩
      · rw [sj] at h; cases h
        exact ⟨b, ys, ws, vj, rfl, hb1, I.gb, hb0, hb2⟩
    · intro l l' c d d' hl hl' _ _ h h'
      have hl : l = i \/ l = j := by simpa using hl
      have hl' : l' = i \/ l' = j := by simpa using hl'
      rcases hl with rfl | rfl <;> rcases hl' with rfl | rfl
      · rfl
      · rw [vi] at h; rw [vj] at h'; cases h; cases h'; exact xag rfl I.ab
      · rw [vj] at h; rw [vi] at h'; cases h; cases h'; exact xag rfl I.ab
      · rfl
    · intro p hp
      have hp : p = (i, a) \/ p = (j, b) := by simpa using hp
      rcases hp with rfl | rfl
      · exact ⟨vi, xs, si⟩
      · exact ⟨vj, ys, sj⟩
    · intro c u h
      unfold hid2 at h
      split at h
      · cases h
      · exact h
    · intro τ G' H' ok lk s _
      obtain ⟨t1, xs', t2⟩ := lk (i, a) (by simp)
      obtain ⟨t3, ys', t4⟩ := lk (j, b) (by simp)
      obtain ⟨a', _, us', m1, m2, m3, m4, m5, m6⟩ := ok.mine i _ (by simp) t2
      obtain ⟨b', _, ws', n1, n2, n3, n4, n5, n6⟩ := ok.mine j _ (by simp) t4
      cases m2; cases n2
      rw [t1] at m1; rw [t3] at n1
      cases m1; cases n1
      exact z xs' ys' t2 t4 G' H' us' ws' m3 n3 m4 n4 m6 n6 s
end
section
variable {K : xFg} {mg : Str -> Option Value} {G G' G0 H H' H0 : Hp} {own : List Nat} {Od : DSt} {O : L2.St} {a b : Addr} {i j : Nat}
theorem hid_ne {c : Addr} {u : HO} (h : H c = some u) (ha : c ≠ a) (hb : c ≠ b) : hid2 a b H c = some u := by
  unfold hid2; rw [xap (fun z => z.elim ha hb)]; exact h
theorem Step.called (s0 : Step G0 H0 G H) (s : Step G (hid2 a b H) G' H') (ha : H0 a = none) (hb : H0 b = none) : Step G0 H0 G' H' :=
  ⟨s0.g.trans s.g, fun c u h => s.h c u (hid_ne (s0.h c u h) (ne_of_none h ha) (ne_of_none h hb)), s.e, fun c u h1 h2 => s.c c u (hid_ne (s0.h c u h1) (ne_of_none h1 ha) (ne_of_none h1 hb)) (s0.c c u h1 h2)⟩
theorem AfterX.called {E : XK} {e : D} (h : AfterX K mg E G0 H0 e) (s0 : Step G0 H0 G H) (ha : H0 a = none) (hb : H0 b = none) : AfterX K mg E G (hid2 a b H) e := fun G' H' C dct s r => h G' H' C dct (s0.called s ha hb) r
theorem Ok.called {di dj : D} {xs ys : List D} {us ws : List V} (o : Ok K mg H0 own Od O G H) (hi : i ∈ own) (hj : j ∈ own) (hij : i ≠ j) (hdi : Od[i]? = some (some di)) (hdj : Od[j]? = some (some dj)) (hai : O[i]? = some (some (.ref a))) (haj : O[j]? = some (some (.ref b)))
    (s : Step G (hid2 a b H) G' H') (h1 : H' a = some (.lst us)) (h2 : H' b = some (.lst ws)) (g1 : G' a = none) (g2 : G' b = none) (r1 : Reps K mg G' xs us) (r2 : Reps K mg G' ys ws) (n1 : H0 a = none) (n2 : H0 b = none) :
    Ok K mg H0 own ((Od.set i (some (.lst xs))).set j (some (.lst ys))) O G' H' := by
  have li := (xae.mp hdi).1
  have lj := (xae.mp hdj).1
  have gi : ((Od.set i (some (.lst xs))).set j (some (.lst ys)))[i]? = some (some (.lst xs)) := by rw [xaf (xa3 hij), xaz li]
  have gj : ((Od.set i (some (.lst xs))).set j (some (.lst ys)))[j]? = some (some (.lst ys)) := by rw [xaz (by simpa using lj)]
  have go : ∀ k, k ≠ i -> k ≠ j -> ((Od.set i (some (.lst xs))).set j (some (.lst ys)))[k]? = Od[k]? := fun k h1 h2 => by rw [xaf (xa3 h2), xaf (xa3 h1)]
  refine ⟨s.e, by rw [List.length_set, List.length_set]; exact o.len, fun k d hk h => ?_, fun k d hk h => ?_, fun k l c d d' hk hl h h' e e' => ?_⟩
  · have h1 : k ≠ i := fun e => hk (e ▸ hi)
    have h2 : k ≠ j := fun e => hk (e ▸ hj)
    rw [go k h1 h2] at h
    obtain ⟨v, z1, z2⟩ := o.val k d hk h
    exact ⟨v, z1, z2.mono s.g⟩
  · by_cases e1 : k = i
    · subst e1; rw [gi] at h; cases h
      exact ⟨a, xs, us, hai, rfl, h1, g1, n1, r1⟩
    · by_cases e2 : k = j
      · subst e2; rw [gj] at h; cases h
        exact ⟨b, ys, ws, haj, rfl, h2, g2, n2, r2⟩
      · rw [go k e1 e2] at h
        obtain ⟨c, zs, vs, z1, z2, z3, z4, z5, z6⟩ := o.mine k d hk h
        have ca : c ≠ a := fun e => e1 (o.dj k i a _ _ hk hi h hdi (e ▸ z1) hai)
        have cb : c ≠ b := fun e => e2 (o.dj k j b _ _ hk hj h hdj (e ▸ z1) haj)
        have hh := hid_ne (a := a) (b := b) z3 ca cb
        exact ⟨c, zs, vs, z1, z2, s.h _ _ hh, s.c _ _ hh z4, z5, z6.mono s.g⟩
  · have old : ∀ k d, k ∈ own -> ((Od.set i (some (.lst xs))).set j (some (.lst ys)))[k]? = some (some d) -> ∃ d', Od[k]? = some (some d') := fun k d hk h => by
      by_cases e1 : k = i
      · exact ⟨_, e1 ▸ hdi⟩
      · by_cases e2 : k = j
        · exact ⟨_, e2 ▸ hdj⟩
        · rw [go k e1 e2] at h; exact ⟨d, h⟩
    obtain ⟨x1, y1⟩ := old k d hk h
    obtain ⟨x2, y2⟩ := old l d' hl h'
    exact o.dj k l c x1 x2 hk hl y1 y2 e e'
end
def callEOO (own : List Nat) (i j : Nat) (m : List D -> R DSt) (fe : DSt -> R D) : DSt -> R DSt := fun O => (fe (mask own O)).bind fun d => (lstAt O i).bind fun xs => (lstAt O j).bind fun ys => (m [d, .lst xs, .lst ys]).bind fun τ => (lstAt τ 1).bind fun xs' => (lstAt τ 2).bind fun ys' => .ok ((O.set i (some (.lst xs'))).set j (some (.lst ys')))
def callOOE (own : List Nat) (i j : Nat) (m : List D -> R DSt) (fe : DSt -> R D) : DSt -> R DSt := fun O => (lstAt O i).bind fun xs => (lstAt O j).bind fun ys => (fe (mask own O)).bind fun d => (m [.lst xs, .lst ys, d]).bind fun τ => (lstAt τ 0).bind fun xs' => (lstAt τ 1).bind fun ys' => .ok ((O.set i (some (.lst xs'))).set j (some (.lst ys')))
section
variable {X : Cx} {E : XK} {own : List Nat} {fe : DSt -> R D} {e : Expr} {f x y : Str} {k i j : Nat} {m : List D -> R DSt} {p np nq cpos pos : Pos}
def tCO (X : Cx) (E : XK) (G0 H0 : Hp) (own : List Nat) (g : DSt -> R DSt) : TE := fun O H Q => ∃ G Od, Ok X.K X.mg H0 own Od O G H /\ Step G0 H0 G H /\ RW (g Od) (fun Od' => ∀ G' H', Ok X.K X.mg H0 own Od' O G' H' -> Step G0 H0 G' H' -> Same G G' -> Q .non H') (AfterX X.K X.mg E G0 H0)
theorem pe_eoo (C : XC X E k) (F : FnAtO X.prog X.w X.K X.mg X.base k f 1 2 m) (he : DE X E e fe) {G0 H0 : Hp} (ho : own.contains i = true) (ho' : own.contains j = true) (hij : i ≠ j) (hN : X.N[i]? = some x) (hM : X.N[j]? = some y)
    (hv : Vis X.env.scope x) (hd : (x == ("__debug__" : Str)) = false) (hcd : (x == ("__classdict__" : Str)) = false) (hv' : Vis X.env.scope y) (hd' : (y == ("__debug__" : Str)) = false) (hcd' : (y == ("__classdict__" : Str)) = false) (hg : Gl X f) (hdb : (f == ("__debug__" : Str)) = false)
    (hs1 : starEach [e, .Name x np, .Name y nq] X.env = (false, eval e X.env) :: starEach [.Name x np, .Name y nq] X.env) (hs2 : starEach [.Name x np, .Name y nq] X.env = (false, eval (.Name x np) X.env) :: starEach [.Name y nq] X.env) (hs3 : starEach [.Name y nq] X.env = (false, eval (.Name y nq) X.env) :: starEach [] X.env)
    (hpl : (backTo cpos (starEach [.Name x np, .Name y nq] X.env)).any (·.1) = false) : PE X (.Call (.Name f p) [e, .Name x np, .Name y nq] [] cpos) (tCO X E G0 H0 own (callEOO own i j m fe)) := by
  obtain ⟨fa, fd, ps, h1, h2, h3, h4⟩ := F.ex
  refine PE.mono' (pe_call h1 C.room hg h2 h3 h4 .nil C.pass (pa_cons he (pa_cons (pv i hN hv hd hcd) (pa_cons (pv j hM hv' hd' hcd') pa_nil hs3) hs2) hs1) hdb hs1 hpl) fun O H Q ⟨G, Od, ok, s0, q⟩ => ?_
  have hi : i ∈ own := by simpa using ho
  have hj : j ∈ own := by simpa using ho'
  refine ⟨G, mask own Od, ok.masked, q.of_bind.mono (fun d _ z v G1 H1 s1 r => ?_) fun _ z => z.step s0⟩
  have ok1 := ok.step s1
  have s01 := s0.trans s1
  have z := (show RW ((lstAt Od i).bind _) _ _ from z).of_bind
  cases hL : lstAt Od i with
  | bad => rw [hL] at z; exact z.elim
  | err e => exact xag hL lstAt_ne
  | ok xs =>
    rw [hL] at z
    have z := (show RW ((lstAt Od j).bind _) _ _ from z).of_bind
    cases hJ : lstAt Od j with
    | bad => rw [hJ] at z; exact z.elim
    | err e => exact xag hJ lstAt_ne
    | ok ys =>
      rw [hJ] at z
      have hdi := lstAt_ok hL
      have hdj := lstAt_ok hJ
      obtain ⟨a, _, us, p1, p2, p3, p4, p5, p6⟩ := ok1.mine i _ hi hdi
      obtain ⟨b, _, ws, n1, n2, n3, n4, n5, n6⟩ := ok1.mine j _ hj hdj
      cases p2; cases n2
      refine ⟨_, p1, _, n1, ?_⟩
      have hab : a ≠ b := fun e => hij (ok1.dj i j a _ _ hi hj hdi hdj p1 (e ▸ n1))
      refine ⟨G1, [d, .lst xs, .lst ys], a, b, xs, ys, ⟨ok1.ext, hab, by decide, p4, n4, ⟨us, p3, p6⟩, ⟨ws, n3, n6⟩, rfl, rfl, rfl, rfl, rfl, fun l d' hl1 hl2 h => ?_⟩, (show RW ((m [d, .lst xs, .lst ys]).bind _) _ _ from z).of_bind.mono (fun τ _ z => ?_) fun _ z => z.called s01 p5 n5⟩
      · match l, hl1, hl2, h with
        | 0, _, _, h => cases h; exact ⟨v, rfl, r⟩
        | 1, hl1, _, _ => exact xag rfl hl1
        | 2, _, hl2, _ => exact xag rfl hl2
        | l + 3, _, _, h => simp at h
      · intro xs' ys' t1 t2 G' H' us' ws' q1 q2 q3 q4 q5 q6 s2
        rw [show lstAt τ 1 = .ok xs' from by unfold lstAt; rw [t1]] at z
        have z : RW ((lstAt τ 2).bind _) _ _ := z
        rw [show lstAt τ 2 = .ok ys' from by unfold lstAt; rw [t2]] at z
        exact (show ∀ G' H', Ok X.K X.mg H0 own ((Od.set i (some (.lst xs'))).set j (some (.lst ys'))) O G' H' -> Step G0 H0 G' H' -> Same G G' -> Q .non H' from z) G' H' (ok1.called hi hj hij hdi hdj p1 n1 s2 q1 q2 q3 q4 q5 q6 p5 n5) (s01.called s2 p5 n5) (s1.g.trans s2.g)
theorem pe_ooe (C : XC X E k) (F : FnAtO X.prog X.w X.K X.mg X.base k f 0 1 m) (he : DE X E e fe) {G0 H0 : Hp} (ho : own.contains i = true) (ho' : own.contains j = true) (hij : i ≠ j) (hN : X.N[i]? = some x) (hM : X.N[j]? = some y)
    (hv : Vis X.env.scope x) (hd : (x == ("__debug__" : Str)) = false) (hcd : (x == ("__classdict__" : Str)) = false) (hv' : Vis X.env.scope y) (hd' : (y == ("__debug__" : Str)) = false) (hcd' : (y == ("__classdict__" : Str)) = false) (hg : Gl X f) (hdb : (f == ("__debug__" : Str)) = false)
    (hs1 : starEach [.Name x np, .Name y nq, e] X.env = (false, eval (.Name x np) X.env) :: starEach [.Name y nq, e] X.env) (hs2 : starEach [.Name y nq, e] X.env = (false, eval (.Name y nq) X.env) :: starEach [e] X.env) (hs3 : starEach [e] X.env = (false, eval e X.env) :: starEach [] X.env)
    (hpl : (backTo cpos (starEach [.Name y nq, e] X.env)).any (·.1) = false) : PE X (.Call (.Name f p) [.Name x np, .Name y nq, e] [] cpos) (tCO X E G0 H0 own (callOOE own i j m fe)) := by
  obtain ⟨fa, fd, ps, h1, h2, h3, h4⟩ := F.ex
  refine PE.mono' (pe_call h1 C.room hg h2 h3 h4 .nil C.pass (pa_cons (pv i hN hv hd hcd) (pa_cons (pv j hM hv' hd' hcd') (pa_cons he pa_nil hs3) hs2) hs1) hdb hs1 hpl) fun O H Q ⟨G, Od, ok, s0, q⟩ => ?_
  have hi : i ∈ own := by simpa using ho
  have hj : j ∈ own := by simpa using ho'
  have z := q.of_bind
  cases hL : lstAt Od i with
  | bad => rw [hL] at z; exact z.elim
  | err e => exact xag hL lstAt_ne
  | ok xs =>
    rw [hL] at z
    have z := (show RW ((lstAt Od j).bind _) _ _ from z).of_bind
    cases hJ : lstAt Od j with
    | bad => rw [hJ] at z; exact z.elim
    | err e => exact xag hJ lstAt_ne
    | ok ys =>
      rw [hJ] at z
      have hdi := lstAt_ok hL
      have hdj := lstAt_ok hJ
      obtain ⟨a, _, _, p1, _⟩ := ok.mine i _ hi hdi
      obtain ⟨b, _, _, n1, _⟩ := ok.mine j _ hj hdj
      refine ⟨_, p1, _, n1, G, mask own Od, ok.masked, (show RW ((fe (mask own Od)).bind _) _ _ from z).of_bind.mono (fun d _ z v G1 H1 s1 r => ?_) fun _ z => z.step s0⟩
      have ok1 := ok.step s1
      have s01 := s0.trans s1
      obtain ⟨a', _, us, p1', p2, p3, p4, p5, p6⟩ := ok1.mine i _ hi hdi
      obtain ⟨b', _, ws, n1', n2, n3, n4, n5, n6⟩ := ok1.mine j _ hj hdj
      cases p2; cases n2
      rw [p1] at p1'; cases p1'
      rw [n1] at n1'; cases n1'
      have hab : a ≠ b := fun e => hij (ok1.dj i j a _ _ hi hj hdi hdj p1 (e ▸ n1))
      refine ⟨G1, [.lst xs, .lst ys, d], a, b, xs, ys, ⟨ok1.ext, hab, by decide, p4, n4, ⟨us, p3, p6⟩, ⟨ws, n3, n6⟩, rfl, rfl, rfl, rfl, rfl, fun l d' hl1 hl2 h => ?_⟩, (show RW ((m [.lst xs, .lst ys, d]).bind _) _ _ from z).of_bind.mono (fun τ _ z => ?_) fun _ z => z.called s01 p5 n5⟩
      · match l, hl1, hl2, h with
        | 0, hl1, _, _ => exact xag rfl hl1
        | 1, _, hl2, _ => exact xag rfl hl2
        | 2, _, _, h => cases h; exact ⟨v, rfl, r⟩
        | l + 3, _, _, h => simp at h
      · intro xs' ys' t1 t2 G' H' us' ws' q1 q2 q3 q4 q5 q6 s2
        rw [show lstAt τ 0 = .ok xs' from by unfold lstAt; rw [t1]] at z
        have z : RW ((lstAt τ 1).bind _) _ _ := z
        rw [show lstAt τ 1 = .ok ys' from by unfold lstAt; rw [t2]] at z
        exact (show ∀ G' H', Ok X.K X.mg H0 own ((Od.set i (some (.lst xs'))).set j (some (.lst ys'))) O G' H' -> Step G0 H0 G' H' -> Same G G' -> Q .non H' from z) G' H' (ok1.called hi hj hij hdi hdj p1 n1 s2 q1 q2 q3 q4 q5 q6 p5 n5) (s01.called s2 p5 n5) (s1.g.trans s2.g)
variable {ol : List Nat} {L : List (Nat × Addr)}
def sCO (g : DSt -> R DSt) : DSt -> R Out := nxO g
theorem ds_eoo (i j : Nat) (C : XC X E k) (F : FnAtO X.prog X.w X.K X.mg X.base k f 1 2 m) (he : DE X E e fe) (ho : own.contains i = true := by rfl) (ho' : own.contains j = true := by rfl) (hij : i ≠ j := by decide) (hN : X.N[i]? = some x := by rfl) (hM : X.N[j]? = some y := by rfl)
    (hv : Vis X.env.scope x := by first | exact Or.inl rfl | exact Or.inr (Or.inl rfl) | exact Or.inr (Or.inr rfl)) (hd : (x == ("__debug__" : Str)) = false := by decide) (hcd : (x == ("__classdict__" : Str)) = false := by decide) (hv' : Vis X.env.scope y := by first | exact Or.inl rfl | exact Or.inr (Or.inl rfl) | exact Or.inr (Or.inr rfl)) (hd' : (y == ("__debug__" : Str)) = false := by decide) (hcd' : (y == ("__classdict__" : Str)) = false := by decide) (hg : Gl X f := by rfl) (hdb : (f == ("__debug__" : Str)) = false := by decide)
    (hs1 : starEach [e, .Name x np, .Name y nq] X.env = (false, eval e X.env) :: starEach [.Name x np, .Name y nq] X.env := by rfl) (hs2 : starEach [.Name x np, .Name y nq] X.env = (false, eval (.Name x np) X.env) :: starEach [.Name y nq] X.env := by rfl) (hs3 : starEach [.Name y nq] X.env = (false, eval (.Name y nq) X.env) :: starEach [] X.env := by rfl)
    (hpl : (backTo cpos (starEach [.Name x np, .Name y nq] X.env)).any (·.1) = false := by rfl) (hsw : swapsWith (.Call (.Name f p) [e, .Name x np, .Name y nq] [] cpos) none pos.line X.env = pure false := by rfl) :
    DS X E own own ol (.Expr (.Call (.Name f p) [e, .Name x np, .Name y nq] [] cpos) pos) (sCO (callEOO own i j m fe)) := fun G0 =>
  PS.mono' (ps_expr (pe_eoo (G0 := G0) (H0 := X.H₀) C F he ho ho' hij hN hM hv hd hcd hv' hd' hcd' hg hdb hs1 hs2 hs3 hpl) hsw) fun Dn O H ⟨G, Od, ok, s0, q⟩ =>
  ⟨G, Od, ok, s0, q.of_bind.mono (fun O' _ z G' H' ok' s' e' => (show OutW X.K X.mg G0 X.H₀ own ol Dn G (.nx O') from z) O G' H' ok' s' e') fun _ z => z⟩
theorem ds_ooe (i j : Nat) (C : XC X E k) (F : FnAtO X.prog X.w X.K X.mg X.base k f 0 1 m) (he : DE X E e fe) (ho : own.contains i = true := by rfl) (ho' : own.contains j = true := by rfl) (hij : i ≠ j := by decide) (hN : X.N[i]? = some x := by rfl) (hM : X.N[j]? = some y := by rfl)
    (hv : Vis X.env.scope x := by first | exact Or.inl rfl | exact Or.inr (Or.inl rfl) | exact Or.inr (Or.inr rfl)) (hd : (x == ("__debug__" : Str)) = false := by decide) (hcd : (x == ("__classdict__" : Str)) = false := by decide) (hv' : Vis X.env.scope y := by first | exact Or.inl rfl | exact Or.inr (Or.inl rfl) | exact Or.inr (Or.inr rfl)) (hd' : (y == ("__debug__" : Str)) = false := by decide) (hcd' : (y == ("__classdict__" : Str)) = false := by decide) (hg : Gl X f := by rfl) (hdb : (f == ("__debug__" : Str)) = false := by decide)
    (hs1 : starEach [.Name x np, .Name y nq, e] X.env = (false, eval (.Name x np) X.env) :: starEach [.Name y nq, e] X.env := by rfl) (hs2 : starEach [.Name y nq, e] X.env = (false, eval (.Name y nq) X.env) :: starEach [e] X.env := by rfl) (hs3 : starEach [e] X.env = (false, eval e X.env) :: starEach [] X.env := by rfl)
    (hpl : (backTo cpos (starEach [.Name y nq, e] X.env)).any (·.1) = false := by rfl) (hsw : swapsWith (.Call (.Name f p) [.Name x np, .Name y nq, e] [] cpos) none pos.line X.env = pure false := by rfl) :
    DS X E own own ol (.Expr (.Call (.Name f p) [.Name x np, .Name y nq, e] [] cpos) pos) (sCO (callOOE own i j m fe)) := fun G0 =>
  PS.mono' (ps_expr (pe_ooe (G0 := G0) (H0 := X.H₀) C F he ho ho' hij hN hM hv hd hcd hv' hd' hcd' hg hdb hs1 hs2 hs3 hpl) hsw) fun Dn O H ⟨G, Od, ok, s0, q⟩ =>
  ⟨G, Od, ok, s0, q.of_bind.mono (fun O' _ z G' H' ok' s' e' => (show OutW X.K X.mg G0 X.H₀ own ol Dn G (.nx O') from z) O G' H' ok' s' e') fun _ z => z⟩
theorem ooe_form {Od Od' : DSt} (h : callOOE own i j m fe Od = .ok Od') : ∃ i j xs ys, Od' = (Od.set i (some (.lst xs))).set j (some (.lst ys)) := by
  unfold callOOE at h
  cases h1 : lstAt Od i with
  | bad => rw [h1] at h; cases h
  | err e => rw [h1] at h; cases h
  | ok xs =>
    rw [h1] at h
    cases h2 : lstAt Od j with
    | bad => rw [R.ok_bind, h2] at h; cases h
    | err e => rw [R.ok_bind, h2] at h; cases h
    | ok ys =>
      rw [R.ok_bind, h2, R.ok_bind] at h
      cases h3 : fe (mask own Od) with
      | bad => rw [h3] at h; cases h
      | err e => rw [h3] at h; cases h
      | ok d =>
        rw [h3, R.ok_bind] at h
        cases h4 : m [.lst xs, .lst ys, d] with
        | bad => rw [h4] at h; cases h
        | err e => rw [h4] at h; cases h
        | ok τ =>
          rw [h4, R.ok_bind] at h
          cases h5 : lstAt τ 0 with
          | bad => rw [h5] at h; cases h
          | err e => rw [h5] at h; cases h
          | ok xs' =>
            rw [h5, R.ok_bind] at h
            cases h6 : lstAt τ 1 with
            | bad => rw [h6] at h; cases h
            | err e => rw [h6] at h; cases h
            | ok ys' => rw [h6] at h; cases h; exact ⟨_, _, _, _, rfl⟩
theorem dh_ooe (i j : Nat) (C : XC X E k) (F : FnAtO X.prog X.w X.K X.mg X.base k f 0 1 m) (he : DE X E e fe) (ho : (ow L).contains i = true := by rfl) (ho' : (ow L).contains j = true := by rfl) (hij : i ≠ j := by decide) (hN : X.N[i]? = some x := by rfl) (hM : X.N[j]? = some y := by rfl)
    (hv : Vis X.env.scope x := by first | exact Or.inl rfl | exact Or.inr (Or.inl rfl) | exact Or.inr (Or.inr rfl)) (hd : (x == ("__debug__" : Str)) = false := by decide) (hcd : (x == ("__classdict__" : Str)) = false := by decide) (hv' : Vis X.env.scope y := by first | exact Or.inl rfl | exact Or.inr (Or.inl rfl) | exact Or.inr (Or.inr rfl)) (hd' : (y == ("__debug__" : Str)) = false := by decide) (hcd' : (y == ("__classdict__" : Str)) = false := by decide) (hg : Gl X f := by rfl) (hdb : (f == ("__debug__" : Str)) = false := by decide)
    (hs1 : starEach [.Name x np, .Name y nq, e] X.env = (false, eval (.Name x np) X.env) :: starEach [.Name y nq, e] X.env := by rfl) (hs2 : starEach [.Name y nq, e] X.env = (false, eval (.Name y nq) X.env) :: starEach [e] X.env := by rfl) (hs3 : starEach [e] X.env = (false, eval e X.env) :: starEach [] X.env := by rfl)
    (hpl : (backTo cpos (starEach [.Name y nq, e] X.env)).any (·.1) = false := by rfl) (hsw : swapsWith (.Call (.Name f p) [.Name x np, .Name y nq, e] [] cpos) none pos.line X.env = pure false := by rfl) :
    DH X E L (.Expr (.Call (.Name f p) [.Name x np, .Name y nq, e] [] cpos) pos) (callOOE (ow L) i j m fe) := fun G0 H0 =>
  PS.mono' (ps_expr (pe_ooe (G0 := G0) (H0 := H0) C F he ho ho' hij hN hM hv hd hcd hv' hd' hcd' hg hdb hs1 hs2 hs3 hpl) hsw) fun Dn O H ⟨G, Od, ok, lk, s0, q⟩ =>
  ⟨G, Od, ok, s0, q.mono (fun O' hr z G' H' ok' s' e' => (show OutL X.K X.mg G0 H0 L Dn G O' from z) O G' H' ok' (by obtain ⟨_, _, _, _, rfl⟩ := ooe_form hr; exact lk.write.write) s' e') fun _ z => z⟩
end
end DL
end
section
set_option maxHeartbeats 2000000
namespace DL
open L2 PyProof.Rows
section
variable {X : Cx} {E : XK}
def rLstrip : V -> List V -> Hp -> VK -> Prop := fun x vs H Q => ∃ z y, x = .str z /\ vs = [.str y] /\ z.length <= sizeLine /\ Q (.str (Txt.lstripChars z y)) H
theorem mt_lstrip : MtM X "str.lstrip" rLstrip := by
  intro pins s O H x vs v us Q I rx rv h
  obtain ⟨z, y, rfl, rfl, hz, q⟩ := h
  obtain ⟨t, rfl⟩ := rx
  obtain ⟨u, rfl, ru⟩ := rv.one
  obtain ⟨t', rfl⟩ := ru
  exact PyProof.Rows.SCL.lstripChars (fun t2 k hl => ⟨.str _, H, I.tok _, ⟨_, rfl⟩, q⟩) hz
def lstripD : D -> D -> R D
  | .str z, .str y => bif le24 z.length then .ok (.str (Txt.lstripChars z y)) else .bad
  | _, _ => .bad
def lstripE (fe : DSt -> R D) (O : DSt) : D -> R D
  | .str z => (fe O).bind fun d => lstripD (.str z) d
  | _ => .bad
def eLstrip (fo fe : DSt -> R D) : DSt -> R D := fun O => (fo O).bind fun z => lstripE fe O z
theorem de_lstrip {o e : Expr} {fo fe : DSt -> R D} {apos cpos : Pos} (ho : DE X E o fo) (he : DE X E e fe)
    (hbase : attributeBase o "lstrip" X.env (eval o X.env) = eval o X.env := by rfl)
    (hfew : ((backTo cpos (starEach [e] X.env)).all (fun x => !x.1) && (backToKw cpos (keywordEach [] X.env)).all (fun x => x.1.isSome) && decide ([e].length + ([] : List Keyword).length + (if ([] : List Keyword).isEmpty then 0 else 1) < 30)) = true := by rfl)
    (hline : (apos.endLine == cpos.line) = true := by rfl) (hs : starEach [e] X.env = (false, eval e X.env) :: starEach [] X.env := by rfl) (hplain : (backTo cpos (starEach [] X.env)).any (·.1) = false := by rfl) :
    DE X E (.Call (.Attribute o "lstrip" apos) [e] [] cpos) (eLstrip fo fe) := by
  refine PE.mono' (pe_bm PySem.F.plainAttrs_str PySem.F.slot_str_lstrip PySem.F.type_str_lstrip mt_lstrip ho (da_cons he da_nil hs) hbase hfew hline hs hplain) fun O H Q ⟨G, Od, ok, q⟩ => ?_
  refine tE_then (P := After X.K X.mg Q) ok q fun z x G1 H1 s1 ok1 r1 q1 => ?_
  cases z with
  | str y =>
    cases r1
    refine ⟨rfl, G1, Od, ok1, (show RW ((aCons fe aNil) Od) _ _ from ?_)⟩
    unfold aCons
    have q2 := (show RW ((fe Od).bind fun d => lstripD (.str y) d) _ _ from q1).of_bind
    cases hf : fe Od with
    | bad => rw [hf] at q2; exact q2.elim
    | err e => rw [hf] at q2; exact (show AfterX X.K X.mg E G1 H1 e from q2)
    | ok d =>
      rw [hf] at q2
      have q3 : RW (lstripD (.str y) d) (After X.K X.mg Q G H) (AfterX X.K X.mg E G1 H1) := q2
      rintro ws G2 H2 s2 ⟨v, _, e1, r3, r4⟩
      subst e1
      cases r4
      cases d with
      | str c =>
        cases r3
        cases hC : le24 y.length with
        | false => simp only [lstripD, hC, cond_false] at q3; exact q3.elim
        | true =>
          simp only [lstripD, hC, cond_true] at q3
          exact ⟨y, c, rfl, rfl, xaj hC, After.now ((show After X.K X.mg Q G H (.str (Txt.lstripChars y c)) from q3).step (s1.trans s2)) s2.e rfl⟩
      | _ => exact (show False from q3).elim
  | _ => exact (show False from q1).elim
def rRstrip : V -> List V -> Hp -> VK -> Prop := fun x vs H Q => ∃ z y, x = .str z /\ vs = [.str y] /\ z.length <= sizeLine /\ Q (.str (Txt.rstripChars z y)) H
theorem mt_rstrip : MtM X "str.rstrip" rRstrip := by
  intro pins s O H x vs v us Q I rx rv h
  obtain ⟨z, y, rfl, rfl, hz, q⟩ := h
  obtain ⟨t, rfl⟩ := rx
  obtain ⟨u, rfl, ru⟩ := rv.one
  obtain ⟨t', rfl⟩ := ru
  exact PyProof.Rows.SCL.rstripChars (fun t2 k hl => ⟨.str _, H, I.tok _, ⟨_, rfl⟩, q⟩) hz
def rstripD : D -> D -> R D
  | .str z, .str y => bif le24 z.length then .ok (.str (Txt.rstripChars z y)) else .bad
  | _, _ => .bad
def rstripE (fe : DSt -> R D) (O : DSt) : D -> R D
  | .str z => (fe O).bind fun d => rstripD (.str z) d
  | _ => .bad
def eRstrip (fo fe : DSt -> R D) : DSt -> R D := fun O => (fo O).bind fun z => rstripE fe O z
theorem de_rstrip {o e : Expr} {fo fe : DSt -> R D} {apos cpos : Pos} (ho : DE X E o fo) (he : DE X E e fe)
    (hbase : attributeBase o "rstrip" X.env (eval o X.env) = eval o X.env := by rfl)
    (hfew : ((backTo cpos (starEach [e] X.env)).all (fun x => !x.1) && (backToKw cpos (keywordEach [] X.env)).all (fun x => x.1.isSome) && decide ([e].length + ([] : List Keyword).length + (if ([] : List Keyword).isEmpty then 0 else 1) < 30)) = true := by rfl)
    (hline : (apos.endLine == cpos.line) = true := by rfl) (hs : starEach [e] X.env = (false, eval e X.env) :: starEach [] X.env := by rfl) (hplain : (backTo cpos (starEach [] X.env)).any (·.1) = false := by rfl) :
    DE X E (.Call (.Attribute o "rstrip" apos) [e] [] cpos) (eRstrip fo fe) := by
  refine PE.mono' (pe_bm PySem.F.plainAttrs_str PySem.F.slot_str_rstrip PySem.F.type_str_rstrip mt_rstrip ho (da_cons he da_nil hs) hbase hfew hline hs hplain) fun O H Q ⟨G, Od, ok, q⟩ => ?_
  refine tE_then (P := After X.K X.mg Q) ok q fun z x G1 H1 s1 ok1 r1 q1 => ?_
  cases z with
  | str y =>
    cases r1
    refine ⟨rfl, G1, Od, ok1, (show RW ((aCons fe aNil) Od) _ _ from ?_)⟩
    unfold aCons
    have q2 := (show RW ((fe Od).bind fun d => rstripD (.str y) d) _ _ from q1).of_bind
    cases hf : fe Od with
    | bad => rw [hf] at q2; exact q2.elim
    | err e => rw [hf] at q2; exact (show AfterX X.K X.mg E G1 H1 e from q2)
    | ok d =>
      rw [hf] at q2
      have q3 : RW (rstripD (.str y) d) (After X.K X.mg Q G H) (AfterX X.K X.mg E G1 H1) := q2
      rintro ws G2 H2 s2 ⟨v, _, e1, r3, r4⟩
      subst e1
      cases r4
      cases d with
      | str c =>
        cases r3
        cases hC : le24 y.length with
        | false => simp only [rstripD, hC, cond_false] at q3; exact q3.elim
        | true =>
          simp only [rstripD, hC, cond_true] at q3
          exact ⟨y, c, rfl, rfl, xaj hC, After.now ((show After X.K X.mg Q G H (.str (Txt.rstripChars y c)) from q3).step (s1.trans s2)) s2.e rfl⟩
      | _ => exact (show False from q3).elim
  | _ => exact (show False from q1).elim
def rCount (K : xFg) : V -> List V -> Hp -> VK -> Prop := fun x vs H Q => ∃ (b : Addr) (ys : List Str) (y : Str), x = .ref b /\ vs = [.str y] /\ SqL K H b (ys.map V.str) /\ Q (.int (Spec.countIn (PyData.str y) (ys.map PyData.str))) H
theorem strs_are : ∀ {ys : List Str} {us : List Value}, Vals (ys.map V.str) us -> StrsAre us ys
  | [], _, h => by cases h; exact .nil
  | y :: ys, _, h => by
    cases h with
    | cons q t =>
      obtain ⟨tk, rfl⟩ := q
      exact .cons _ _ (strs_are t)
theorem mt_count : MtM X "list.count" (rCount X.K) := by
  intro pins s O H x vs v us Q I rx rv h
  obtain ⟨b, ys, y, rfl, rfl, hB, q⟩ := h
  cases rx
  obtain ⟨u, rfl, ru⟩ := rv.one
  obtain ⟨t', rfl⟩ := ru
  obtain ⟨its, r, pl, _⟩ := I.list hB
  exact PyProof.Rows.count_list_strs pl.isList (strs_are r) ⟨.int _, H, I.tok _, ⟨_, rfl⟩, q⟩
def countD : D -> D -> R D
  | .lst ds, .str y => match strsOf ds with
    | some ys => .ok (.int (Spec.countIn (PyData.str y) (ys.map PyData.str)))
    | none => .bad
  | _, _ => .bad
def countE (fe : DSt -> R D) (O : DSt) : D -> R D
  | .lst ds => (fe O).bind fun d => countD (.lst ds) d
  | _ => .bad
def eCount (fo fe : DSt -> R D) : DSt -> R D := fun O => (fo O).bind fun z => countE fe O z
theorem de_count {o e : Expr} {fo fe : DSt -> R D} {apos cpos : Pos} (ho : DE X E o fo) (he : DE X E e fe)
    (hbase : attributeBase o "count" X.env (eval o X.env) = eval o X.env := by rfl)
    (hfew : ((backTo cpos (starEach [e] X.env)).all (fun x => !x.1) && (backToKw cpos (keywordEach [] X.env)).all (fun x => x.1.isSome) && decide ([e].length + ([] : List Keyword).length + (if ([] : List Keyword).isEmpty then 0 else 1) < 30)) = true := by rfl)
    (hline : (apos.endLine == cpos.line) = true := by rfl) (hs : starEach [e] X.env = (false, eval e X.env) :: starEach [] X.env := by rfl) (hplain : (backTo cpos (starEach [] X.env)).any (·.1) = false := by rfl) :
    DE X E (.Call (.Attribute o "count" apos) [e] [] cpos) (eCount fo fe) := by
  refine PE.mono' (pe_bm PySem.F.plainAttrs_list PySem.F.slot_list_count PySem.F.type_list_count mt_count ho (da_cons he da_nil hs) hbase hfew hline hs hplain) fun O H Q ⟨G, Od, ok, q⟩ => ?_
  refine tE_then (P := After X.K X.mg Q) ok q fun z x G1 H1 s1 ok1 r1 q1 => ?_
  cases z with
  | lst ds =>
    obtain ⟨a, vs, rfl, h1, h2⟩ := r1
    refine ⟨.inl ⟨rfl, _, s1.e.seq h1⟩, G1, Od, ok1, (show RW ((aCons fe aNil) Od) _ _ from ?_)⟩
    unfold aCons
    have q2 := (show RW ((fe Od).bind fun d => countD (.lst ds) d) _ _ from q1).of_bind
    cases hf : fe Od with
    | bad => rw [hf] at q2; exact q2.elim
    | err e => rw [hf] at q2; exact (show AfterX X.K X.mg E G1 H1 e from q2)
    | ok d =>
      rw [hf] at q2
      have q3 : RW (countD (.lst ds) d) (After X.K X.mg Q G H) (AfterX X.K X.mg E G1 H1) := q2
      rintro ws G2 H2 s2 ⟨v, _, e1, r3, r4⟩
      subst e1
      cases r4
      cases d with
      | str c =>
        cases r3
        cases hs' : strsOf ds with
        | none => simp only [countD, hs'] at q3; exact q3.elim
        | some ys =>
          simp only [countD, hs'] at q3
          have ev := Reps.strs hs' h2
          subst ev
          exact ⟨a, ys, c, rfl, rfl, s2.e.seq (s2.g.seq h1), After.now ((show After X.K X.mg Q G H (.int (Spec.countIn (PyData.str c) (ys.map PyData.str))) from q3).step (s1.trans s2)) s2.e rfl⟩
      | _ => exact (show False from q3).elim
  | _ => exact (show False from q1).elim
structure TabK (K : xFg) (mg : Str -> Option Value) (w : World) (x : Str) (tb : List (Str × Int)) : Prop where
  ex : ∃ a es n, mg x = some (.ref a) /\ List.lookup a K = some { cls := .type "dict", data := .dict es n } /\ PySem.W.KeysLit w.params es.toList /\ ∀ p ∈ tb, ∃ t, PySem.W.nsIn K a p.1 = some (some (.int p.2 t))
def gTab (tb : List (Str × Int)) : D -> R D
  | .str x => match tb.find? (fun p => decide (p.1 = x)) with
    | some p => .ok (.int p.2)
    | none => .bad
  | _ => .bad
theorem de_tab {x : Str} {tb : List (Str × Int)} {e : Expr} {fe : DSt -> R D} {p pos : Pos} (T : TabK X.K X.mg X.w x tb) (he : DE X E e fe) (hg : Gl X x := by rfl) (hd : (x == ("__debug__" : Str)) = false := by decide) (hs : NoSl e := by intro _ _; rfl) :
    DE X E (.Subscript (.Name x p) e pos) (eUn (gTab tb) fe) := by
  obtain ⟨a, es, n, h1, h2, h3, h4⟩ := T.ex
  intro pins s O H Q I h
  refine subD_of PySem.F.slot_dict_getitem.lookup hs (thn (pe_glob hg h1 (v := .ref a) rfl hd pins s O H (fun x H1 => x = .ref a /\ H1 = H) I ⟨rfl, rfl⟩) fun u s1 ⟨x1, H1, I1, rx, e1, e2⟩ => ?_)
  subst e1 e2
  obtain rfl : u = Value.ref a := rx
  obtain ⟨G, Od, ok, q⟩ := h
  refine thn (he pins s1 O H1 (fun y H2 => ∃ k v, y = .str k /\ (k, v) ∈ tb /\ Q (.int v) H2) I1 ⟨G, Od, ok, q.of_bind.mono (fun d _ z v G' H' st r => ?_) fun _ z => z⟩) fun iv s2 ⟨y, H2, I2, ry, k, v, ey, hm, q2⟩ => ?_
  · cases d with
    | str k =>
      cases r
      simp only [gTab] at z
      cases hf : tb.find? (fun p => decide (p.1 = k)) with
      | none => rw [hf] at z; exact (show False from z).elim
      | some pr =>
        rw [hf] at z
        have h5 := List.find?_some hf
        have h6 := List.mem_of_find?_eq_some hf
        have h5 : pr.1 = k := xaj h5
        exact ⟨k, pr.2, rfl, by rw [<- h5]; exact h6, (show After X.K X.mg Q G H1 (.int pr.2) from z) _ G' H' st rfl⟩
    | _ => exact (show False from z).elim
  · subst ey
    obtain ⟨t, rfl⟩ := (show ∃ t, iv = Value.str k t from ry)
    obtain ⟨t2, h5⟩ := h4 _ hm
    obtain ⟨m, fr⟩ := I2.fr
    have hget : s2.heap.get? a = some { cls := .type "dict", data := .dict es n } := I2.kIn a _ h2
    refine ⟨⟨_, hget, rfl⟩, PySem.W.topGetDict_K fr I2.ok.mod.kin h2 h3 h5 ⟨.int v, H2, I2.tok _, ⟨t2, rfl⟩, q2⟩⟩
end
end DL
end
namespace Mir
open L2 DL
def k_FIGURES : D := .str "0123456789"
noncomputable def b_read_number_2 : DSt -> R Out := (sRet (eBlt gIntT (aCons (eVar 0) aNil)))
noncomputable def b_read_number_1 : DSt -> R Out := (sSeq (sIf (eAnd (eTest (eOp gEq (eOp gIxS (eVar 0) (eC (.int 0))) (eC (.str "0")))) (eTest (eOp gNe (eVar 0) (eC (.str "0"))))) (sRaise1 "NoText") sNext) b_read_number_2)
noncomputable def b_read_number : DSt -> R Out := (sSeq (sIf (eOr (eTest (eOp gEq (eVar 0) (eC (.str "")))) (eNot (eTest (eBlt gAll (aCons (vLst (eLC 1 [0] (iStr (eVar 0)) gpOne eTrue (eOp gIn (eVar 0) (eC k_FIGURES)))) aNil))))) (sRaise1 "NoText") sNext) b_read_number_1)
noncomputable def m_read_number : List D -> R D := fnM 1 1 b_read_number
theorem m_read_number_go (a0 : D) : m_read_number [a0] = fin (b_read_number [some a0]) := fnM_go (b := b_read_number) rfl rfl
def k_MOST_LETTERS : D := .int 8
def k_LETTERS : D := .str "abcdefghijklmnopqrstuvwxyz"
noncomputable def b_is_word_1 : DSt -> R Out := (sRet (eBlt gAll (aCons (vLst (eLC 1 [0] (iStr (eVar 0)) gpOne eTrue (eOp gIn (eVar 0) (eC k_LETTERS)))) aNil)))
noncomputable def b_is_word : DSt -> R Out := (sSeq (sIf (eOr (eNot (eTest (eBlt (g2 isi3) (aCons (eVar 0) (aCons (eC (.ty "str")) aNil))))) (eNot (eTest (eChain gLe gLe (eC (.int 1)) (eBlt gLen (aCons (eVar 0) aNil)) (eC k_MOST_LETTERS))))) (sRet (eC (.bl false))) sNext) b_is_word_1)
noncomputable def m_is_word : List D -> R D := fnM 1 1 b_is_word
theorem m_is_word_go (a0 : D) : m_is_word [a0] = fin (b_is_word [some a0]) := fnM_go (b := b_is_word) rfl rfl
def k_BINDS : List (Str × Int) := [("(", 0), ("+", 1), ("-", 1), ("*", 2), ("/", 2)]
noncomputable def b_join_sides_0c : DSt -> R Bool := (eAnd (eTest (eOp gGt (eBlt gLen (aCons (eVar 1) aNil)) (eC (.int 0)))) (eTest (eOp gGe (eUn (gTab k_BINDS) (eOp gIx (eVar 1) (eUn gNeg (eC (.int 1))))) (eVar 2))))
noncomputable def b_join_sides_0w_2 : DSt -> R DSt := (hAppPop [0, 1] 0 1 (eVar 4) (eVar 3))
noncomputable def b_join_sides_0w_1 : DSt -> R DSt := (kSeq (hPop 0 4) b_join_sides_0w_2)
noncomputable def b_join_sides_0w : DSt -> R DSt := (kSeq (hPop 0 3) b_join_sides_0w_1)
noncomputable def b_join_sides : DSt -> R DSt := (hWhile b_join_sides_0c b_join_sides_0w)
noncomputable def m_join_sides : List D -> R DSt := fnMO 3 5 b_join_sides
theorem m_join_sides_go (a0 : D) (a1 : D) (a2 : D) : m_join_sides [a0, a1, a2] = b_join_sides [some a0, some a1, some a2, none, none] := fnMO_go (b := b_join_sides) rfl
def k_MOST_FIGURES : D := .int 9
noncomputable def b_read_core_2 : DSt -> R Out := (sRet (eTup (aCons (eC (.str "number")) (aCons (eCall m_read_number (aCons (eVar 0) aNil)) aNil))))
noncomputable def b_read_core_1 : DSt -> R Out := (sSeq (sIf (eTest (eOp gGt (eBlt gLen (aCons (eVar 0) aNil)) (eC k_MOST_FIGURES))) (sRaise1 "NoText") sNext) b_read_core_2)
noncomputable def b_read_core : DSt -> R Out := (sSeq (sIf (eTest (eCall m_is_word (aCons (eVar 0) aNil))) (sRet (eTup (aCons (eC (.str "name")) (aCons (eVar 0) aNil)))) sNext) b_read_core_1)
noncomputable def m_read_core : List D -> R D := fnM 1 1 b_read_core
theorem m_read_core_go (a0 : D) : m_read_core [a0] = fin (b_read_core [some a0]) := fnM_go (b := b_read_core) rfl rfl
def k_MOST_DEEP : D := .int 8
noncomputable def b_read_side_2t : DSt -> R DSt := (kRaise1 "NoText")
noncomputable def b_read_side_5f_1t : DSt -> R DSt := (kRaise1 "NoText")
noncomputable def b_read_side_5f_2 : DSt -> R DSt := (hPopE 2)
noncomputable def b_read_side_5f_1 : DSt -> R DSt := (kSeq (kIf (eTest (eOp gEq (eBlt gLen (aCons (eVar 2) aNil)) (eC (.int 0)))) b_read_side_5f_1t kNext) b_read_side_5f_2)
noncomputable def b_read_side_5f : DSt -> R DSt := (kSeq (callOOE [1, 2] 1 2 m_join_sides (eC (.int 1))) b_read_side_5f_1)
noncomputable def b_read_side_5 : DSt -> R DSt := (hFor [1, 2] 5 (iArgs rng1 (aCons (eOp gSub (eBlt gLen (aCons (eVar 3) aNil)) (eBlt gLen (aCons (eVar 4) aNil))) aNil)) b_read_side_5f)
noncomputable def b_read_side_4 : DSt -> R DSt := (kSeq (hApp [1, 2] 1 (eCall m_read_core (aCons (eVar 4) aNil))) b_read_side_5)
noncomputable def b_read_side_3 : DSt -> R DSt := (kSeq (hSet [1, 2] 4 (eRstrip (eVar 3) (eC (.str ")")))) b_read_side_4)
noncomputable def b_read_side_2 : DSt -> R DSt := (kSeq (kIf (eTest (eOp gGt (eCount (eVar 2) (eC (.str "("))) (eC k_MOST_DEEP))) b_read_side_2t kNext) b_read_side_3)
noncomputable def b_read_side_1 : DSt -> R DSt := (kSeq (hExt [1, 2] 2 (vLst (eRep (eLst (aCons (eC (.str "(")) aNil)) (eOp gSub (eBlt gLen (aCons (eVar 0) aNil)) (eBlt gLen (aCons (eVar 3) aNil)))))) b_read_side_2)
noncomputable def b_read_side : DSt -> R DSt := (kSeq (hSet [1, 2] 3 (eLstrip (eVar 0) (eC (.str "(")))) b_read_side_1)
noncomputable def m_read_side : List D -> R DSt := fnMO 3 6 b_read_side
theorem m_read_side_go (a0 : D) (a1 : D) (a2 : D) : m_read_side [a0, a1, a2] = b_read_side [some a0, some a1, some a2, none, none, none] := fnMO_go (b := b_read_side) rfl
def k_SIGNS : D := .tup [.str "+", .str "-", .str "*", .str "/"]
noncomputable def b_read_sign_0t : DSt -> R DSt := (kRaise1 "NoText")
noncomputable def b_read_sign_2 : DSt -> R DSt := (hApp [1, 2] 2 (eVar 0))
noncomputable def b_read_sign_1 : DSt -> R DSt := (kSeq (callOOE [1, 2] 1 2 m_join_sides (eUn (gTab k_BINDS) (eVar 0))) b_read_sign_2)
noncomputable def b_read_sign : DSt -> R DSt := (kSeq (kIf (eTest (eOp gNin (eVar 0) (eC k_SIGNS))) b_read_sign_0t kNext) b_read_sign_1)
noncomputable def m_read_sign : List D -> R DSt := fnMO 3 3 b_read_sign
theorem m_read_sign_go (a0 : D) (a1 : D) (a2 : D) : m_read_sign [a0, a1, a2] = b_read_sign [some a0, some a1, some a2] := fnMO_go (b := b_read_sign) rfl
def k_MOST_SIGNS : D := .int 60
noncomputable def b_read_sum_5f : DSt -> R Out := (sIf (eTest (eOp gEq (eOp gMod (eVar 4) (eC (.int 2))) (eC (.int 0)))) (sCO (callEOO [3, 2] 2 3 m_read_side (eVar 5))) (sCO (callEOO [3, 2] 2 3 m_read_sign (eVar 5))))
noncomputable def b_read_sum_8 : DSt -> R Out := (sRet (eOp gIx (eVar 2) (eC (.int 0))))
noncomputable def b_read_sum_7 : DSt -> R Out := (sSeq (sIf (eTest (eOp gGt (eBlt gLen (aCons (eVar 3) aNil)) (eC (.int 0)))) (sRaise1 "NoText") sNext) b_read_sum_8)
noncomputable def b_read_sum_6 : DSt -> R Out := (sSeq (sCO (callOOE [3, 2] 2 3 m_join_sides (eC (.int 1)))) b_read_sum_7)
noncomputable def b_read_sum_5 : DSt -> R Out := (sSeq (sFor [3, 2] [4, 5] (gpSeq 2) (iArgs iEnumerate1 (aCons (eVar 1) aNil)) b_read_sum_5f) b_read_sum_6)
noncomputable def b_read_sum_4 : DSt -> R Out := (sSeq (sNew [2] 3 (eLst aNil)) b_read_sum_5)
noncomputable def b_read_sum_3 : DSt -> R Out := (sSeq (sNew [] 2 (eLst aNil)) b_read_sum_4)
noncomputable def b_read_sum_2 : DSt -> R Out := (sSeq (sIf (eOr (eTest (eOp gEq (eOp gMod (eBlt gLen (aCons (eVar 1) aNil)) (eC (.int 2))) (eC (.int 0)))) (eTest (eOp gGt (eOp gFdiv (eBlt gLen (aCons (eVar 1) aNil)) (eC (.int 2))) (eC k_MOST_SIGNS)))) (sRaise1 "NoText") sNext) b_read_sum_3)
noncomputable def b_read_sum_1 : DSt -> R Out := (sSeq (sSet0 1 (vLst (eSplit (eVar 0) (eC (.str " "))))) b_read_sum_2)
noncomputable def b_read_sum : DSt -> R Out := (sSeq (sIf (eNot (eTest (eBlt (g2 isi3) (aCons (eVar 0) (aCons (eC (.ty "str")) aNil))))) (sRaise1 "NoText") sNext) b_read_sum_1)
noncomputable def m_read_sum : List D -> R D := fnM 1 6 b_read_sum
theorem m_read_sum_go (a0 : D) : m_read_sum [a0] = fin (b_read_sum [some a0, none, none, none, none, none]) := fnM_go (b := b_read_sum) rfl rfl
noncomputable def b_law_cell_1 : DSt -> R Out := (sRet (eC (.int 0)))
noncomputable def b_law_cell : DSt -> R Out := (sSeq (sIf (eTest (eOp gLt (eVar 1) (eBlt gLen (aCons (eVar 0) aNil)))) (sRet (eOp gIx (eVar 0) (eVar 1))) sNext) b_law_cell_1)
noncomputable def m_law_cell : List D -> R D := fnM 2 2 b_law_cell
theorem m_law_cell_go (a0 : D) (a1 : D) : m_law_cell [a0, a1] = fin (b_law_cell [some a0, some a1]) := fnM_go (b := b_law_cell) rfl rfl
noncomputable def b_law_whole : DSt -> R Out := (sRet (vAnd (eBlt (g2 isi3) (aCons (eVar 0) (aCons (eC (.ty "int")) aNil))) (vNot (eBlt (g2 isi3) (aCons (eVar 0) (aCons (eC (.ty "bool")) aNil))))))
noncomputable def m_law_whole : List D -> R D := fnM 1 1 b_law_whole
theorem m_law_whole_go (a0 : D) : m_law_whole [a0] = fin (b_law_whole [some a0]) := fnM_go (b := b_law_whole) rfl rfl
noncomputable def b_law_mixed_3 : DSt -> R Out := (sRet (eOp gMod (eOp gMul (eVar 2) (eVar 2)) (eC (.int 2305843009213693951))))
noncomputable def b_law_mixed_2 : DSt -> R Out := (sSeq (sSet0 2 (eOp gMod (eOp gAdd (eOp gAdd (eOp gMul (eVar 2) (eVar 2)) (eOp gMul (eOp gMul (eC (.int 69621)) (eVar 1)) (eVar 1))) (eVar 1)) (eC (.int 2305843009213693951)))) b_law_mixed_3)
noncomputable def b_law_mixed_1 : DSt -> R Out := (sSeq (sSet0 2 (eOp gMod (eVar 2) (eC (.int 2305843009213693951)))) b_law_mixed_2)
noncomputable def b_law_mixed : DSt -> R Out := (sSeq (sSet0 2 (eOp gAdd (eOp gAdd (eOp gMul (eOp gAdd (eOp gMod (eVar 0) (eC (.int 1000000007))) (eC (.int 1))) (eC (.int 6364136223846793005))) (eOp gMul (eOp gMul (eC (.int 7919)) (eVar 1)) (eVar 1))) (eOp gMul (eC (.int 31)) (eVar 1)))) b_law_mixed_1)
noncomputable def m_law_mixed : List D -> R D := fnM 2 3 b_law_mixed
theorem m_law_mixed_go (a0 : D) (a1 : D) : m_law_mixed [a0, a1] = fin (b_law_mixed [some a0, some a1, none]) := fnM_go (b := b_law_mixed) rfl rfl
noncomputable def b_law_digits_2ft_1 : DSt -> R Out := (sSet [2] 3 (eOp gFdiv (eVar 3) (eOp gPow (eC (.int 10)) (eC (.int 6)))))
noncomputable def b_law_digits_2ft : DSt -> R Out := (sSeq (sApp [2] 2 (eOp gMod (eVar 3) (eOp gPow (eC (.int 10)) (eC (.int 6))))) b_law_digits_2ft_1)
noncomputable def b_law_digits_2f : DSt -> R Out := (sIf (eAnd (eTest (eOp gEq (eOp gMod (eVar 0) (eC (.int 2))) (eC (.int 0)))) (eTest (eOp gGt (eVar 3) (eC (.int 0))))) b_law_digits_2ft (sApp [2] 2 (eOp gMod (eCall m_law_mixed (aCons (eVar 0) (aCons (eVar 4) aNil))) (eOp gPow (eC (.int 10)) (eC (.int 6))))))
noncomputable def b_law_digits_3 : DSt -> R Out := (sRet (eVar 2))
noncomputable def b_law_digits_2 : DSt -> R Out := (sSeq (sFor [2] [4] gpOne (iArgs rng1 (aCons (eVar 1) aNil)) b_law_digits_2f) b_law_digits_3)
noncomputable def b_law_digits_1 : DSt -> R Out := (sSeq (sSet [2] 3 (eOp gFdiv (eVar 0) (eC (.int 2)))) b_law_digits_2)
noncomputable def b_law_digits : DSt -> R Out := (sSeq (sNew [] 2 (eLst aNil)) b_law_digits_1)
noncomputable def m_law_digits : List D -> R D := fnM 2 5 b_law_digits
theorem m_law_digits_go (a0 : D) (a1 : D) : m_law_digits [a0, a1] = fin (b_law_digits [some a0, some a1, none, none, none]) := fnM_go (b := b_law_digits) rfl rfl
noncomputable def b_law_words_3f : DSt -> R Out := (sSet0 4 (eOp gAdd (eVar 4) (eOp gIxS (eVar 2) (eOp gMod (eOp gFdiv (eOp gIx (eVar 3) (eC (.int 11))) (eOp gIx (vLst (eLst (aCons (eC (.int 1)) (aCons (eC (.int 26)) (aCons (eC (.int 676)) (aCons (eC (.int 17576)) (aCons (eC (.int 5)) (aCons (eC (.int 9)) (aCons (eC (.int 77)) aNil))))))))) (eVar 5))) (eC (.int 26))))))
noncomputable def b_law_words_5 : DSt -> R Out := (sRet (vLst (eLC 1 [0] (iArgs rng1 (aCons (eVar 1) aNil)) gpOne eTrue (eOp gAdd (eOp gIxS (eVar 3) (eOp gMod (eOp gAdd (eOp gIx (eVar 4) (eC (.int 9))) (eVar 0)) (eC (.int 26)))) (eVar 5)))))
noncomputable def b_law_words_4 : DSt -> R Out := (sSeq (sIf (eTest (eOp gEq (eOp gMod (eOp gIx (eVar 3) (eC (.int 8))) (eC (.int 4))) (eC (.int 1)))) (sRet (eSl (vLst (eLst (aCons (eC (.str "end")) (aCons (eC (.str "x")) (aCons (eC (.str "times")) (aCons (eC (.str "rule")) (aCons (eC (.str "ends")) (aCons (eC (.str "xx")) aNil)))))))) oNone (oSome (eVar 1)))) sNext) b_law_words_5)
noncomputable def b_law_words_3 : DSt -> R Out := (sSeq (sFor [] [5] gpOne (iArgs rng1 (aCons (eOp gMod (eOp gIx (eVar 3) (eC (.int 10))) (eC (.int 8))) aNil)) b_law_words_3f) b_law_words_4)
noncomputable def b_law_words_2 : DSt -> R Out := (sSeq (sSet0 4 (eC (.str ""))) b_law_words_3)
noncomputable def b_law_words_1 : DSt -> R Out := (sSeq (sSet0 3 (eCall m_law_digits (aCons (eVar 0) (aCons (eC (.int 12)) aNil)))) b_law_words_2)
noncomputable def b_law_words : DSt -> R Out := (sSeq (sSet0 2 (eC (.str "abcdefghijklmnopqrstuvwxyz"))) b_law_words_1)
noncomputable def m_law_words : List D -> R D := fnM 2 6 b_law_words
theorem m_law_words_go (a0 : D) (a1 : D) : m_law_words [a0, a1] = fin (b_law_words [some a0, some a1, none, none, none, none]) := fnM_go (b := b_law_words) rfl rfl
noncomputable def b_law_leaf_1 : DSt -> R Out := (sRet (eTup (aCons (eC (.str "number")) (aCons (eOp gIx (vLst (eLst (aCons (eOp gMod (eOp gIx (eVar 0) (eC (.int 3))) (eC (.int 10))) (aCons (eOp gMod (eOp gIx (eVar 0) (eC (.int 3))) (eC (.int 10))) (aCons (eOp gIx (eVar 0) (eC (.int 3))) (aCons (eOp gAdd (eOp gMul (eOp gIx (eVar 0) (eC (.int 3))) (eC (.int 1000))) (eOp gMod (eOp gIx (eVar 0) (eC (.int 4))) (eC (.int 1000)))) aNil)))))) (eOp gMod (eOp gIx (eVar 0) (eC (.int 5))) (eC (.int 4)))) aNil))))
noncomputable def b_law_leaf : DSt -> R Out := (sSeq (sIf (eTest (eOp gGt (eOp gMod (eOp gIx (eVar 0) (eC (.int 2))) (eC (.int 3))) (eC (.int 0)))) (sRet (eTup (aCons (eC (.str "name")) (aCons (eOp gIx (eVar 1) (eOp gMod (eOp gIx (eVar 0) (eC (.int 3))) (eBlt gLen (aCons (eVar 1) aNil)))) aNil)))) sNext) b_law_leaf_1)
noncomputable def m_law_leaf : List D -> R D := fnM 2 2 b_law_leaf
theorem m_law_leaf_go (a0 : D) (a1 : D) : m_law_leaf [a0, a1] = fin (b_law_leaf [some a0, some a1]) := fnM_go (b := b_law_leaf) rfl rfl
noncomputable def b_law_tree_1f_1t_1 : DSt -> R Out := (sAppPop [2] 2 2 (eOp gIxS (eC (.str "+-*/")) (eOp gMod (eOp gIx (eVar 4) (eC (.int 1))) (eC (.int 4)))) (eVar 5))
noncomputable def b_law_tree_1f_1t : DSt -> R Out := (sSeq (sPop 2 5) b_law_tree_1f_1t_1)
noncomputable def b_law_tree_1f_1 : DSt -> R Out := (sIf (eAnd (eTest (eOp gGt (eBlt gLen (aCons (eVar 2) aNil)) (eC (.int 1)))) (eTest (eOp gEq (eOp gMod (eOp gIx (eVar 4) (eC (.int 0))) (eC (.int 2))) (eC (.int 0))))) b_law_tree_1f_1t (sApp [2] 2 (eCall m_law_leaf (aCons (eVar 4) (aCons (eVar 1) aNil)))))
noncomputable def b_law_tree_1f : DSt -> R Out := (sSeq (sSet [2] 4 (eCall m_law_digits (aCons (eVar 3) (aCons (eC (.int 6)) aNil)))) b_law_tree_1f_1)
noncomputable def b_law_tree_2c : DSt -> R Bool := (eTest (eOp gGt (eBlt gLen (aCons (eVar 2) aNil)) (eC (.int 1))))
noncomputable def b_law_tree_2w_1 : DSt -> R Out := (sAppPopP [2] 2 2 (eOp gIxS (eC (.str "-+/*")) (eOp gMod (eBlt gLen (aCons (eVar 2) aNil)) (eC (.int 4)))) (eVar 5))
noncomputable def b_law_tree_2w : DSt -> R Out := (sSeq (sPop 2 5) b_law_tree_2w_1)
noncomputable def b_law_tree_3 : DSt -> R Out := (sRet (eOp gIx (eVar 2) (eC (.int 0))))
noncomputable def b_law_tree_2 : DSt -> R Out := (sSeq (sWhile b_law_tree_2c b_law_tree_2w) b_law_tree_3)
noncomputable def b_law_tree_1 : DSt -> R Out := (sSeq (sFor [2] [3] gpOne (iSeq (eVar 0)) b_law_tree_1f) b_law_tree_2)
noncomputable def b_law_tree : DSt -> R Out := (sSeq (sNew [] 2 (eLst aNil)) b_law_tree_1)
noncomputable def m_law_tree : List D -> R D := fnM 2 6 b_law_tree
theorem m_law_tree_go (a0 : D) (a1 : D) : m_law_tree [a0, a1] = fin (b_law_tree [some a0, some a1, none, none, none, none]) := fnM_go (b := b_law_tree) rfl rfl
noncomputable def b_law_part_5 (m : List D -> R D) : DSt -> R Out := (sRet (eVar 3))
noncomputable def b_law_part_4 (m : List D -> R D) : DSt -> R Out := (sSeq (sIf (eTest (eOp gLt (eVar 2) (eVar 1))) (sRet (eOp gAdd (eOp gAdd (eC (.str "(")) (eVar 3)) (eC (.str ")")))) sNext) (b_law_part_5 m))
noncomputable def b_law_part_3 (m : List D -> R D) : DSt -> R Out := (sSeq (sSet0 3 (eJoin (eC (.str " ")) (vLst (eLst (aCons (eCall m (aCons (eOp gIx (eVar 0) (eC (.int 1))) (aCons (eVar 2) aNil))) (aCons (eOp gIx (eVar 0) (eC (.int 0))) (aCons (eCall m (aCons (eOp gIx (eVar 0) (eC (.int 2))) (aCons (eOp gAdd (eVar 2) (eC (.int 1))) aNil))) aNil))))))) (b_law_part_4 m))
noncomputable def b_law_part_2 (m : List D -> R D) : DSt -> R Out := (sSeq (sSet0 2 (eOp gAdd (eC (.int 1)) (eBlt gInt (aCons (eOp gIn (eOp gIx (eVar 0) (eC (.int 0))) (eC (.str "*/"))) aNil)))) (b_law_part_3 m))
noncomputable def b_law_part_1 (m : List D -> R D) : DSt -> R Out := (sSeq (sIf (eTest (eOp gEq (eOp gIx (eVar 0) (eC (.int 0))) (eC (.str "number")))) (sRet (eBlt gStr (aCons (eOp gIx (eVar 0) (eC (.int 1))) aNil))) sNext) (b_law_part_2 m))
noncomputable def b_law_part (m : List D -> R D) : DSt -> R Out := (sSeq (sIf (eTest (eOp gEq (eOp gIx (eVar 0) (eC (.int 0))) (eC (.str "name")))) (sRet (eOp gIx (eVar 0) (eC (.int 1)))) sNext) (b_law_part_1 m))
noncomputable def m_law_part_at : Nat -> List D -> R D := recM fun m => fnM 2 4 (b_law_part m)
noncomputable def m_law_part : List D -> R D := m_law_part_at 64
theorem m_law_part_go (n : Nat) (a0 : D) (a1 : D) : m_law_part_at (n + 1) [a0, a1] = fin (b_law_part (m_law_part_at n) [some a0, some a1, none, none]) := show fnM 2 4 (b_law_part (m_law_part_at n)) [a0, a1] = _ from fnM_go (b := b_law_part (m_law_part_at n)) rfl rfl
noncomputable def b_law_deep_2f_1 : DSt -> R Out := (sSet0 2 (eBlt gMax (aCons (eVar 2) (aCons (eVar 1) aNil))))
noncomputable def b_law_deep_2f : DSt -> R Out := (sSeq (sSet0 1 (eOp gSub (eOp gAdd (eVar 1) (eBlt gInt (aCons (eOp gEq (eVar 3) (eC (.str "("))) aNil))) (eBlt gInt (aCons (eOp gEq (eVar 3) (eC (.str ")"))) aNil)))) b_law_deep_2f_1)
noncomputable def b_law_deep_3 : DSt -> R Out := (sRet (eVar 2))
noncomputable def b_law_deep_2 : DSt -> R Out := (sSeq (sFor [] [3] gpOne (iStr (eVar 0)) b_law_deep_2f) b_law_deep_3)
noncomputable def b_law_deep_1 : DSt -> R Out := (sSeq (sSet0 2 (eC (.int 0))) b_law_deep_2)
noncomputable def b_law_deep : DSt -> R Out := (sSeq (sSet0 1 (eC (.int 0))) b_law_deep_1)
noncomputable def m_law_deep : List D -> R D := fnM 1 4 b_law_deep
theorem m_law_deep_go (a0 : D) : m_law_deep [a0] = fin (b_law_deep [some a0, none, none, none]) := fnM_go (b := b_law_deep) rfl rfl
noncomputable def b_law_liket_1f (m : List D -> R D) : DSt -> R Out := (sIf (eNot (eTest (eCall m (aCons (eVar 2) (aCons (eVar 3) aNil))))) (sRet (eC (.bl false))) sNext)
noncomputable def b_law_liket_2 (m : List D -> R D) : DSt -> R Out := (sRet (eC (.bl true)))
noncomputable def b_law_liket_1 (m : List D -> R D) : DSt -> R Out := (sSeq (sFor [] [2, 3] (gpSeq 2) (iArgs iZip2 (aCons (eVar 0) (aCons (eVar 1) aNil))) (b_law_liket_1f m)) (b_law_liket_2 m))
noncomputable def b_law_liket (m : List D -> R D) : DSt -> R Out := (sSeq (sIf (eOr (eNot (eTest (eBlt (g2 isi3) (aCons (eVar 0) (aCons (eC (.ty "tuple")) aNil))))) (eTest (eOp gNe (eBlt gLen (aCons (eVar 0) aNil)) (eBlt gLen (aCons (eVar 1) aNil))))) (sRet (eC (.bl false))) sNext) (b_law_liket_1 m))
noncomputable def b_law_like_2 (m : List D -> R D) : DSt -> R Out := (sRet (vAnd (eCall m_law_whole (aCons (eVar 0) aNil)) (eOp gEq (eVar 0) (eVar 1))))
noncomputable def b_law_like_1 (m : List D -> R D) : DSt -> R Out := (sSeq (sIf (eTest (eBlt (g2 isi3) (aCons (eVar 1) (aCons (eC (.ty "str")) aNil)))) (sRet (vAnd (eBlt (g2 isi3) (aCons (eVar 0) (aCons (eC (.ty "str")) aNil))) (eOp gEq (eVar 0) (eVar 1)))) sNext) (b_law_like_2 m))
noncomputable def b_law_like (m : List D -> R D) : DSt -> R Out := (sSeq (sIf (eTest (eBlt (g2 isi3) (aCons (eVar 1) (aCons (eC (.ty "tuple")) aNil)))) (b_law_liket m) sNext) (b_law_like_1 m))
noncomputable def m_law_like_at : Nat -> List D -> R D := recM fun m => fnM 2 4 (b_law_like m)
noncomputable def m_law_like : List D -> R D := m_law_like_at 64
theorem m_law_like_go (n : Nat) (a0 : D) (a1 : D) : m_law_like_at (n + 1) [a0, a1] = fin (b_law_like (m_law_like_at n) [some a0, some a1, none, none]) := show fnM 2 4 (b_law_like (m_law_like_at n)) [a0, a1] = _ from fnM_go (b := b_law_like (m_law_like_at n)) rfl rfl
noncomputable def b_law_alone_5 : DSt -> R Out := (sRet (vAnd (eOp gEq (eVar 1) (eC (.int 1))) (vAnd (eBlt (g2 isi3) (aCons (eVar 0) (aCons (eC (.cls "ChalkError")) aNil))) (eBlt (g2 isi3) (aCons (eVar 0) (aCons (eC (.ty "ValueError")) aNil))))))
noncomputable def b_law_alone_4 : DSt -> R Out := (sSeq (sSet0 1 (eOp gAdd (eOp gAdd (eOp gAdd (eVar 1) (eBlt gInt (aCons (eBlt (g2 isi3) (aCons (eVar 0) (aCons (eC (.cls "NoRatio")) aNil))) aNil))) (eBlt gInt (aCons (eBlt (g2 isi3) (aCons (eVar 0) (aCons (eC (.cls "NoBow")) aNil))) aNil))) (eBlt gInt (aCons (eBlt (g2 isi3) (aCons (eVar 0) (aCons (eC (.cls "NoRow")) aNil))) aNil)))) b_law_alone_5)
noncomputable def b_law_alone_3 : DSt -> R Out := (sSeq (sSet0 1 (eOp gAdd (eOp gAdd (eOp gAdd (eVar 1) (eBlt gInt (aCons (eBlt (g2 isi3) (aCons (eVar 0) (aCons (eC (.cls "NoFrame")) aNil))) aNil))) (eBlt gInt (aCons (eBlt (g2 isi3) (aCons (eVar 0) (aCons (eC (.cls "NoValue")) aNil))) aNil))) (eBlt gInt (aCons (eBlt (g2 isi3) (aCons (eVar 0) (aCons (eC (.cls "Unlike")) aNil))) aNil)))) b_law_alone_4)
noncomputable def b_law_alone_2 : DSt -> R Out := (sSeq (sSet0 1 (eOp gAdd (eOp gAdd (eOp gAdd (eVar 1) (eBlt gInt (aCons (eBlt (g2 isi3) (aCons (eVar 0) (aCons (eC (.cls "NoName")) aNil))) aNil))) (eBlt gInt (aCons (eBlt (g2 isi3) (aCons (eVar 0) (aCons (eC (.cls "TooMany")) aNil))) aNil))) (eBlt gInt (aCons (eBlt (g2 isi3) (aCons (eVar 0) (aCons (eC (.cls "NoChange")) aNil))) aNil)))) b_law_alone_3)
noncomputable def b_law_alone_1 : DSt -> R Out := (sSeq (sSet0 1 (eOp gAdd (eOp gAdd (eOp gAdd (eVar 1) (eBlt gInt (aCons (eBlt (g2 isi3) (aCons (eVar 0) (aCons (eC (.cls "Endless")) aNil))) aNil))) (eBlt gInt (aCons (eBlt (g2 isi3) (aCons (eVar 0) (aCons (eC (.cls "NoDeed")) aNil))) aNil))) (eBlt gInt (aCons (eBlt (g2 isi3) (aCons (eVar 0) (aCons (eC (.cls "NoText")) aNil))) aNil)))) b_law_alone_2)
noncomputable def b_law_alone : DSt -> R Out := (sSeq (sSet0 1 (eOp gAdd (eOp gAdd (eBlt gInt (aCons (eBlt (g2 isi3) (aCons (eVar 0) (aCons (eC (.cls "NoPlace")) aNil))) aNil)) (eBlt gInt (aCons (eBlt (g2 isi3) (aCons (eVar 0) (aCons (eC (.cls "Same")) aNil))) aNil))) (eBlt gInt (aCons (eBlt (g2 isi3) (aCons (eVar 0) (aCons (eC (.cls "NoFloor")) aNil))) aNil)))) b_law_alone_1)
noncomputable def m_law_alone : List D -> R D := fnM 1 2 b_law_alone
theorem m_law_alone_go (a0 : D) : m_law_alone [a0] = fin (b_law_alone [some a0, none]) := fnM_go (b := b_law_alone) rfl rfl
noncomputable def b_law_refused_v16_2 : DSt -> R Out := (sRet (vAnd (eOp gIsn (eVar 1) (eC .non)) (vAnd (eBlt (g2 isi3) (aCons (eVar 1) (aCons (eC (.cls "NoText")) aNil))) (eCall m_law_alone (aCons (eVar 1) aNil)))))
noncomputable def b_law_refused_v16_1 : DSt -> R Out := (sSeq (sTry 2 "ChalkError" (sExpr (xCallD m_read_sum (aCons (eVar 0) aNil))) (sSet0 1 (eVar 2))) b_law_refused_v16_2)
noncomputable def b_law_refused_v16 : DSt -> R Out := (sSeq (sSet0 1 (eC .non)) b_law_refused_v16_1)
noncomputable def m_law_refused_v16 : List D -> R D := fnM 1 3 b_law_refused_v16
theorem m_law_refused_v16_go (a0 : D) : m_law_refused_v16 [a0] = fin (b_law_refused_v16 [some a0, none, none]) := fnM_go (b := b_law_refused_v16) rfl rfl
noncomputable def b_law_v45_2f_2f : DSt -> R Out := (sIf (eTest (eOp gGt (eCall m_law_deep (aCons (eVar 6) aNil)) (eC (.int 8)))) (sIf (eNot (eTest (eCall m_law_refused_v16 (aCons (eVar 6) aNil)))) (sRet (eC (.bl false))) sNext) (sIf (eNot (eTest (eCall m_law_like (aCons (eCall m_read_sum (aCons (eVar 6) aNil)) (aCons (eVar 4) aNil))))) (sRet (eC (.bl false))) sNext))
noncomputable def b_law_v45_2f_2 : DSt -> R Out := (sFor [] [6] gpOne (iSeq (vLst (eLst (aCons (eVar 5) (aCons (eOp gAdd (eOp gAdd (eC (.str "(")) (eVar 5)) (eC (.str ")"))) aNil))))) b_law_v45_2f_2f)
noncomputable def b_law_v45_2f_1 : DSt -> R Out := (sSeq (sSet0 5 (eCall m_law_part (aCons (eVar 4) (aCons (eC (.int 0)) aNil)))) b_law_v45_2f_2)
noncomputable def b_law_v45_2f : DSt -> R Out := (sSeq (sSet0 4 (eCall m_law_tree (aCons (eSl (eVar 2) oNone (oSome (eVar 3))) (aCons (eVar 1) aNil)))) b_law_v45_2f_1)
noncomputable def b_law_v45_3 : DSt -> R Out := (sRet (eC (.bl true)))
noncomputable def b_law_v45_2 : DSt -> R Out := (sSeq (sFor [] [3] gpOne (iSeq (vLst (eLst (aCons (eBlt gLen (aCons (eVar 2) aNil)) (aCons (eOp gAdd (eOp gFdiv (eBlt gLen (aCons (eVar 2) aNil)) (eC (.int 3))) (eC (.int 1))) aNil))))) b_law_v45_2f) b_law_v45_3)
noncomputable def b_law_v45_1 : DSt -> R Out := (sSeq (sSet0 2 (eOp gAdd (eSl (eVar 0) (oSome (eC (.int 1))) (oSome (eC (.int 41)))) (vLst (eLst (aCons (eC (.int 1)) aNil))))) b_law_v45_2)
noncomputable def b_law_v45 : DSt -> R Out := (sSeq (sSet0 1 (eCall m_law_words (aCons (eCall m_law_cell (aCons (eVar 0) (aCons (eC (.int 0)) aNil))) (aCons (eC (.int 5)) aNil)))) b_law_v45_1)
noncomputable def m_law_v45 : List D -> R D := fnM 1 7 b_law_v45
theorem m_law_v45_go (a0 : D) : m_law_v45 [a0] = fin (b_law_v45 [some a0, none, none, none, none, none, none]) := fnM_go (b := b_law_v45) rfl rfl
end Mir
section
open L2 DL Mir
local macro_rules | `(tactic| kd_p) => `(tactic| simp only [sSeq_def, seqK_nx, seqK_rt, seqK_bk, seqK_ct, seqK_err, sNext_def, eVar_zero, eVar_succ, eC_def, eOp_def, opK_ok, eUn_def, unK_ok, eCall_def, callK_ok, callK_err, xCallD_def, xcallK_ok, eBlt_def, bltK_ok, eBltF_def, bltFK_ok, noerr_okk, aNil_def, aCons_def, consK_ok, consK_err, eTup_def, tupK_0, tupK_1, tupK_2, tupK_3, tupK_4, tupK_5, tupK_6, tupK_9, eLst_def, lstK_0, lstK_1, lstK_2, lstK_3, lstK_4, lstK_5, lstK_6, vLst_def, vlstK_ok, eTest_def, testK_bl, eAnd_def, andK_t, andK_f, eOr_def, orK_t, orK_f, eNot_def, notK_ok, vAnd_def, vandK_t, vandK_f, vOr_def, vorK_t, vorK_f, vNot_def, vnotK_ok, eIf_def, eifK_t, eifK_f, sIf_def, ifK_t, ifK_f, eChain_def, chain_ints, sApp_def, sAppP_def, lstAt_zero, lstAt_succ, sRet_def, retK_ok, retK_err, sExpr_def, exprK_ok, exprK_err, sSet0_def, sSet_def, setK_ok, setK_err, sNew_def, newK_ok, sAsg_def, asgK_2t, asgK_2l, asgK_3t, asgK_3l, sPar_def, parK_ok, sRaise_def, raiseK_1, sRaise1_def, sTry_def, tryK_ok, handK_nx, fin_rt, fin_nx, fin_err, gAdd_ii, gSub_ii, gNeg_i, gLt_ii, gLe_ii, gGt_ii, gGe_ii, gEq_ii, gNe_ii, gEq_bb, gNe_bb, gEq_t3, gNe_t3, gEq_l3, gIs_bb, gIsn_bb, gIs_non, gIsn_non, isNon, gIx_t3_0, gIx_t3_1, gIx_t3_2, gIx_l3_0, gIx_l3_1, gIx_l3_2, gLen_l, gLen_t0, gLen_t1, gLen_t2, gLen_t3, gLen_t4, eq_self, decide_true, decide_false, Int.reduceEq, Int.reduceLT, Int.reduceLE, Int.reduceNeg, Int.reduceToNat, gAbs_i, gMin_ii, gMax_ii, gInt_b, isi_int_int, isi_int_bool, isi_bl_bool, isi_bl_int, isi_tup_tup, isi_lst_lst, isi_lst_tup, isi_tup_lst, isi_excV, iArgs_def, argsK_ok, iSeq_def, seqKi_t, seqKi_l, sFor_def, forK_ok, forL_one, forL_nil, turnK_nx, turnK_ct, turnK_bk, turnK_rt, turnK_err, eLC_def, mask_nil, mask, maskF, List.contains_cons, List.contains_nil, Bool.or_false, Bool.false_or, Bool.true_or, Bool.or_true, Nat.reduceBEq, Nat.reduceAdd, xb3, cond_true, cond_false, List.set_cons_zero, List.set_cons_succ, Bool.not_true, Bool.not_false, Bool.not_not, Bool.true_and, xcp, Bool.and_true, xcq])
local macro_rules | `(tactic| walk_at "side") => `(tactic| first | assumption | decide | omega | (refine mulB_le ?_ ?_ <;> omega) | (refine divB_le ?_ ?_ ?_ <;> omega) | (refine rOk_of ?_ ?_ <;> omega) | (simp only [xa0, xbq, xar, xao]; omega))
local macro_rules | `(tactic| kst_p2) => `(tactic| simp (disch := walk_at "side") only [sSeq_def, seqK_nx, seqK_rt, seqK_bk, seqK_ct, seqK_err, sNext_def, eVar_zero, eVar_succ, eC_def, eOp_def, opK_ok, eUn_def, unK_ok, eCall_def, callK_ok, callK_err, xCallD_def, xcallK_ok, eBlt_def, bltK_ok, eBltF_def, bltFK_ok, noerr_okk, aNil_def, aCons_def, consK_ok, consK_err, eTup_def, tupK_0, tupK_1, tupK_2, tupK_3, tupK_4, tupK_5, tupK_6, tupK_9, eLst_def, lstK_0, lstK_1, lstK_2, lstK_3, lstK_4, lstK_5, lstK_6, vLst_def, vlstK_ok, eTest_def, testK_bl, eAnd_def, andK_t, andK_f, eOr_def, orK_t, orK_f, eNot_def, notK_ok, vAnd_def, vandK_t, vandK_f, vOr_def, vorK_t, vorK_f, vNot_def, vnotK_ok, eIf_def, eifK_t, eifK_f, sIf_def, ifK_t, ifK_f, eChain_def, chain_ints, sApp_def, sAppP_def, lstAt_zero, lstAt_succ, sRet_def, retK_ok, retK_err, sExpr_def, exprK_ok, exprK_err, sSet0_def, sSet_def, setK_ok, setK_err, sNew_def, newK_ok, sAsg_def, asgK_2t, asgK_2l, asgK_3t, asgK_3l, sPar_def, parK_ok, sRaise_def, raiseK_1, sRaise1_def, sTry_def, tryK_ok, handK_nx, fin_rt, fin_nx, fin_err, gAdd_ii, gSub_ii, gNeg_i, gLt_ii, gLe_ii, gGt_ii, gGe_ii, gEq_ii, gNe_ii, gEq_bb, gNe_bb, gEq_t3, gNe_t3, gEq_l3, gIs_bb, gIsn_bb, gIs_non, gIsn_non, isNon, gIx_t3_0, gIx_t3_1, gIx_t3_2, gIx_l3_0, gIx_l3_1, gIx_l3_2, gLen_l, gLen_t0, gLen_t1, gLen_t2, gLen_t3, gLen_t4, eq_self, decide_true, decide_false, Int.reduceEq, Int.reduceLT, Int.reduceLE, Int.reduceNeg, Int.reduceToNat, gAbs_i, gMin_ii, gMax_ii, gInt_b, isi_int_int, isi_int_bool, isi_bl_bool, isi_bl_int, isi_tup_tup, isi_lst_lst, isi_lst_tup, isi_tup_lst, isi_excV, iArgs_def, argsK_ok, iSeq_def, seqKi_t, seqKi_l, sFor_def, forK_ok, forL_one, forL_nil, turnK_nx, turnK_ct, turnK_bk, turnK_rt, turnK_err, eLC_def, mask_nil, mask, maskF, List.contains_cons, List.contains_nil, Bool.or_false, Bool.false_or, Bool.true_or, Bool.or_true, Nat.reduceBEq, Nat.reduceAdd, xb3, cond_true, cond_false, List.set_cons_zero, List.set_cons_succ, Bool.not_true, Bool.not_false, Bool.not_not, Bool.true_and, xcp, Bool.and_true, xcq, gMul_ii, gFdiv_pos, gMod_pos, gPow_ii, gShr_ii, rng1_i, rng2_ii, appK_ok, appPK_ok, setPK_ok, sSetP_def])
open L2 DL Mir
namespace LmA
theorem em_pos {i j : Int} (h : 0 < j) : 0 <= i % j /\ i % j < j := ⟨Int.emod_nonneg _ (by omega), Int.emod_lt_of_pos _ h⟩
theorem law_mixed_ok (c k : Int) (h0 : 0 <= k) (h1 : k <= 1000) : ∃ r, m_law_mixed [.int c, .int k] = .ok (.int r) /\ 0 <= r /\ r < 2305843009213693951 := by
  rw [m_law_mixed_go]; unfold b_law_mixed b_law_mixed_1 b_law_mixed_2 b_law_mixed_3; kd_p
  have m1 := em_pos (i := c) (j := 1000000007) (by decide)
  rw [gMod_pos _ _ (by decide)]; kd_p
  rw [gMul_ii _ _ (mulB_le (by omega) (by omega)) (by decide +kernel), gMul_ii _ k (by decide +kernel) (mulB_le (by omega) (by omega))]; kd_p
  rw [gMul_ii _ k (mulB_le (by omega) (by omega)) (mulB_le (by omega) (by omega)), gMul_ii _ k (by decide +kernel) (mulB_le (by omega) (by omega))]; kd_p
  rw [gMod_pos _ _ (by decide)]; kd_p
  generalize ((c % 1000000007 + 1) * 6364136223846793005 + 7919 * k * k + 31 * k) = v
  have m2 := em_pos (i := v) (j := 2305843009213693951) (by decide)
  generalize v % 2305843009213693951 = u at m2 ⊢
  rw [gMul_ii u u (mulB_le (by omega) (by omega)) (mulB_le (by omega) (by omega)), gMul_ii _ k (by decide +kernel) (mulB_le (by omega) (by omega))]; kd_p
  rw [gMul_ii _ k (mulB_le (by omega) (by omega)) (mulB_le (by omega) (by omega))]; kd_p
  rw [gMod_pos _ _ (by decide)]; kd_p
  generalize (u * u + 69621 * k * k + k) = t
  have m3 := em_pos (i := t) (j := 2305843009213693951) (by decide)
  generalize t % 2305843009213693951 = q at m3 ⊢
  rw [gMul_ii q q (mulB_le (by omega) (by omega)) (mulB_le (by omega) (by omega))]; kd_p
  rw [gMod_pos _ _ (by decide)]; kd_p
  exact ⟨_, rfl, em_pos (by decide)⟩
theorem law_whole_i (i : Int) : m_law_whole [.int i] = .ok (.bl true) := by
  rw [m_law_whole_go]; unfold b_law_whole; kd_p
end LmA
open L2 DL Mir
open L2 DL Mir
open L2 DL Mir
namespace Lk42
open LmA
theorem eSl_to (fe f : DSt -> R D) (O : DSt) (ds : List D) (n : Nat) (h1 : fe O = .ok (.lst ds)) (h2 : f O = .ok (.int (n : Int))) : eSl fe oNone (oSome f) O = .ok (.lst (ds.take n)) := by
  unfold eSl oNone oSome
  rw [h1, h2]
  show R.ok (D.lst (cutD ds none (some (n : Int)))) = _
  unfold cutD
  rw [HT.sIx_none, HT.sIx_nat, List.drop_zero, Nat.sub_zero, <- List.take_eq_take_min]
end Lk42
open L2 DL Mir
namespace LmB
open LmA
theorem gAll_bls (bs : List Bool) : gAll [.lst (bs.map D.bl)] = .ok (.bl (bs.all id)) := by
  show all1 (.lst (bs.map D.bl)) = _
  simp only [all1, blsOf_map]
theorem lc_mapP {α : Type} {xs : List α} {f : α -> D} {e : DSt -> R D} {O : DSt} {g : α -> D} (hl : xs.length <= 1000000) (h : ∀ a ∈ xs, e (some (f a) :: O) = .ok (g a)) : lcK 1 [0] (.ok (xs.map f)) gpOne eTrue e O = .ok (xs.map g) := by
  have go : ∀ xs : List α, (∀ a ∈ xs, e (some (f a) :: O) = .ok (g a)) -> lcD [0] gpOne eTrue e (List.replicate 1 none ++ O) (xs.map f) = .ok (xs.map g) := by
    intro xs
    induction xs with
    | nil => intro _; rfl
    | cons d ds ih =>
      intro h
      show (e (some (f d) :: O)).bind (fun y => (lcD [0] gpOne eTrue e (List.replicate 1 none ++ O) (ds.map f)).bind fun ys => .ok (y :: ys)) = _
      rw [h d xa5, ih fun d' hd => h d' (xaq _ hd)]; rfl
  show (bif most (xs.map f).length then _ else _) = _
  rw [most_of (by rw [xao]; exact hl), go xs h]; rfl
end LmB
open L2 DL Mir
open L2 DL Mir
open L2 DL Mir
open L2 DL Mir
open L2 DL Mir
open L2 DL Mir
open L2 DL Mir
open L2 DL Mir
open L2 DL Mir
open L2 DL Mir
namespace LmC
open LmA LmB
def cell (ns : List Int) (k : Nat) : Int := ns.getD k 0
theorem law_cell_ok (ns : List Int) (k : Nat) : m_law_cell [.lst (ns.map .int), .int (k : Int)] = .ok (.int (cell ns k)) := by
  rw [m_law_cell_go]; unfold b_law_cell b_law_cell_1; kd_p
  rw [xao]
  by_cases h : k < ns.length
  · rw [xah (by omega)]; kd_p
    rw [gIx_nat (d := .int ns[k]) (by simp [h])]; kd_p
    simp [cell, h]
  · rw [xat (by omega)]; kd_p
    simp [cell, h]
end LmC
open L2 DL Mir
open L2 DL Mir
open L2 DL Mir
namespace LmW
open LmA LmB LmC
structure Dd where
  w : Bool
  a : Nat
  b : Nat
end LmW
open L2 DL Mir
namespace LmX
open LmA LmB LmC LmW
theorem eSl_mid (fe f g : DSt -> R D) (O : DSt) (ds : List D) (a b : Nat) (h1 : fe O = .ok (.lst ds)) (h2 : f O = .ok (.int (a : Int))) (h3 : g O = .ok (.int (b : Int))) : eSl fe (oSome f) (oSome g) O = .ok (.lst ((ds.drop (min a ds.length)).take (min b ds.length - min a ds.length))) := by
  unfold eSl oSome
  rw [h1, h2, h3]
  show R.ok (D.lst (cutD ds (some (a : Int)) (some (b : Int)))) = _
  unfold cutD
  rw [HT.sIx_nat, HT.sIx_nat]
end LmX
open L2 DL Mir
open L2 DL Mir
namespace LmY
open LmA LmB LmW LmX TxtA
theorem digs_len {n : Nat} (h : n < 10 ^ 70) : (digs n).length <= 70 := digs_lenK (by decide) h
theorem str_ok {n : Nat} (h : n < 10 ^ 70) : gStr [.int (n : Int)] = .ok (.str (ofL (digs n))) := by
  show str1 (.int (n : Int)) = _
  have hl : ((n : Int)).natAbs.log2 < 1920 := by
    rw [Int.natAbs_natCast]
    have : n.log2 <= n := Nat.log2_le_self n
    by_cases h0 : n = 0
    · rw [h0]; decide
    · exact (Nat.log2_lt h0).mpr (xak h (by decide))
  show (bif decide (((n : Int)).natAbs.log2 < 1920) then R.ok (D.str (toString ((n : Nat) : Int))) else .bad) = _
  rw [xah hl, cond_true]
  show R.ok (D.str (Str.ofString (toString ((n : Nat) : Int)))) = _
  rw [ofS]
theorem strs_map : ∀ ys : List Str, strsOf (ys.map D.str) = some ys
  | [] => rfl
  | y :: ys => by
    show (strsOf (ys.map D.str)).map (y :: ·) = _
    rw [strs_map ys]; rfl
theorem joinT_eq (z : Str) (ys : List Str) : joinT z ys = Str.join z ys := by
  unfold joinT
  split
  · rfl
  · exact StrLaws.glued_eq_join z ys
theorem sumL_eq (z : Str) (ys : List Str) : sumL z ys = (ys.map (·.length)).sum + ys.length * z.length := StrLaws.joinTotal z ys
theorem join_ok {y : List Nat} {rows : List (List Nat)} {B : Nat} (hB : ∀ r ∈ rows, r.length <= B) (h : rows.length * B + rows.length * y.length <= 10000000) : joinD (.str (ofL y)) (.lst ((rows.map ofL).map D.str)) = .ok (.str (ofL (TxtA.flat y rows))) := by
  have lo : ∀ l : List Nat, (ofL l).length = l.length := fun l => by simp [ofL, Str.length]
  have h1 : sumL (ofL y) (rows.map ofL) <= 10000000 := by
    rw [sumL_eq, lo, xao]
    have := StrLaws.sumLen_le (B := B) (rows.map ofL) (fun s hs => by obtain ⟨r, hr, rfl⟩ := xcj.mp hs; rw [lo]; exact hB r hr)
    rw [xao] at this
    omega
  have h2 : (joinT (ofL y) (rows.map ofL)).length <= 10000000 := by
    rw [joinT_eq, join_rows, lo]
    have fl : ∀ rows : List (List Nat), (∀ r ∈ rows, r.length <= B) -> (TxtA.flat y rows).length <= rows.length * B + rows.length * y.length := by
      intro rows
      induction rows with
      | nil => intro _; simp [TxtA.flat]
      | cons r rs ih =>
        intro hr
        cases rs with
        | nil => have := hr r (by simp); simp [TxtA.flat]; omega
        | cons r' rs =>
          have a1 := hr r (by simp)
          have a2 := ih fun q hq => hr q (xaq _ hq)
          rw [TxtA.flat]
          simp only [xar, xa0] at a2 ⊢
          rw [Nat.add_mul (rs.length + 1) 1 B, Nat.add_mul (rs.length + 1) 1 y.length]
          omega
    exact xax (fl rows hB) h
  unfold joinD
  simp only [strs_map]
  rw [show (le24 (sumL (ofL y) (rows.map ofL)) && le24 (joinT (ofL y) (rows.map ofL)).length) = true from by
    rw [xay]; exact ⟨xah (xax h1 (by decide)), xah (xax h2 (by decide))⟩, cond_true, joinT_eq, join_rows]
theorem digs_mem {n c : Nat} (h : c ∈ digs n) : 48 <= c /\ c <= 57 := digs_all n c h
theorem split_ok {c : Nat} {t : List Nat} {rows : List (List Nat)} (hc : c ∉ t) (hk : ∀ k ∈ c :: t, k < 256) (hne : rows ≠ []) (hr : ∀ r ∈ rows, c ∉ r) (hl : (TxtA.flat (c :: t) rows).length <= 10000000) : splitD (.str (ofL (TxtA.flat (c :: t) rows))) (.str (ofL (c :: t))) = .ok ((rows.map ofL).map D.str) := by
  have lo : ∀ l : List Nat, (ofL l).length = l.length := fun l => by simp [ofL, Str.length]
  unfold splitD
  show (bif (!((ofL (c :: t)).length == 0)) && le24 ((ofL (TxtA.flat (c :: t) rows)).length + 2) then R.ok ((Txt.split _ _).map D.str) else .bad) = _
  rw [split_rows hc hk hne hr, lo, lo]
  rw [show (!((c :: t).length == 0) && le24 ((TxtA.flat (c :: t) rows).length + 2)) = true from by
    rw [xay]; exact ⟨by simp, xah (by show _ <= 16777216; omega)⟩, cond_true]
theorem gEq_ss (a b : Str) : gEq (.str a) (.str b) = .ok (.bl (a == b)) := rfl
theorem gNe_ss (a b : Str) : gNe (.str a) (.str b) = .ok (.bl (!(a == b))) := rfl
theorem ofL_inj {a b : List Nat} (h : ofL a = ofL b) : a = b := by
  have := congrArg (fun s : Str => s.cps.toList) h
  simpa [ofL] using this
theorem ofL_ne {a b : List Nat} (h : a ≠ b) : (ofL a == ofL b) = false := by
  cases e : (ofL a == ofL b)
  · rfl
  · exact xag (ofL_inj (eq_of_beq e)) h
theorem fig_in : ∀ c : Nat, 48 <= c /\ c <= 57 -> gIn (.str (sign c)) k_FIGURES = .ok (.bl true) := by
  intro c h
  show R.ok (D.bl (!(Builtin.Str.occurrences ("0123456789" : Str) ⟨#[c]⟩ 0 ("0123456789" : Str).length 1).isEmpty)) = _
  rw [StrLaws.found_one, show ("0123456789" : Str).cps.toList = [48, 49, 50, 51, 52, 53, 54, 55, 56, 57] from rfl]
  rw [xah (by simp only [xam, xa1, or_false]; omega)]
theorem read_number_ok {n : Nat} (h : n < 10 ^ 70) : m_read_number [.str (ofL (digs n))] = .ok (.int (n : Int)) := by
  have hl := digs_len h
  have lo : ∀ l : List Nat, (ofL l).length = l.length := fun l => by simp [ofL, Str.length]
  obtain ⟨c, cs, hc⟩ := xb9 (digs_ne n)
  rw [m_read_number_go]; unfold b_read_number; kd_p
  rw [show (D.str "") = .str (ofL []) from rfl, gEq_ss, ofL_ne (digs_ne n)]; kd_p
  rw [show iStr (eVar 0) [some (.str (ofL (digs n)))] = .ok ((digs n).map fun c => .str (sign c)) from rfl, LmB.lc_mapP (g := fun _ => .bl true) (by omega) (fun c hc => by kd_p; exact fig_in c (digs_mem hc))]; kd_p
  rw [show ((digs n).map fun _ => D.bl true) = ((digs n).map fun _ => true).map D.bl from by rw [xb4]; rfl, LmB.gAll_bls, show ((digs n).map fun _ => true).all id = true from by simp]; kd_p
  unfold b_read_number_1; kd_p
  rw [show gIxS (.str (ofL (digs n))) (.int 0) = .ok (.str (sign c)) from by rw [hc]; rfl]; kd_p
  rw [show (D.str "0") = .str (ofL [48]) from rfl, gEq_ss]; kd_p
  have fin : fin (b_read_number_2 [some (.str (ofL (digs n)))]) = .ok (.int (n : Int)) := by
    unfold b_read_number_2; kd_p
    rw [show gIntT [.str (ofL (digs n))] = .ok (.int (n : Int)) from by
      show intT1 (.str (ofL (digs n))) = _
      unfold intT1
      simp only [digs_reads h]
      rw [show decide ((ofL (digs n)).length <= 640) = true from xah (by rw [lo]; omega)]; rfl]; kd_p
  by_cases h0 : c = 48
  · subst h0
    have := digs_zero hc
    subst this
    rw [show (sign 48 == ofL [48]) = true from by decide]; kd_p
    rw [show gNe (.str (ofL (digs n))) (.str (ofL [48])) = .ok (.bl false) from by rw [gNe_ss, hc, show (ofL [48] == ofL [48]) = true from by decide]; rfl]; kd_p
    exact fin
  · rw [show (sign c == ofL [48]) = false from ofL_ne (a := [c]) (by simpa using h0)]; kd_p
    exact fin
end LmY
open L2 DL Mir
namespace LmWa
open LmA LmY TxtA
theorem digits_ok (c : Int) (N : Nat) (hN : N <= 1000) : ∃ ns : List Int, m_law_digits [.int c, .int (N : Int)] = .ok (.lst (ns.map .int)) /\ ns.length = N /\ ∀ n ∈ ns, 0 <= n /\ n < 1000000 := by
  rw [m_law_digits_go]; unfold b_law_digits; kd_p
  unfold b_law_digits_1; kst_p2
  unfold b_law_digits_2; kst_p2
  rw [xbs]
  have turn : ∀ (j : Nat) (d : D) (O : DSt), (rngD 0 N)[j]? = some d -> (∃ (ns : List Int) (v : Int) (a : Option D), O = [some (.int c), some (.int (N : Int)), some (.lst (ns.map .int)), some (.int v), a] /\ ns.length = j /\ ∀ n ∈ ns, 0 <= n /\ n < 1000000) -> ∃ O', (b_law_digits_2f (O.set 4 (some d)) = .ok (.nx O') \/ b_law_digits_2f (O.set 4 (some d)) = .ok (.ct O')) /\ ∃ (ns : List Int) (v : Int) (a : Option D), O' = [some (.int c), some (.int (N : Int)), some (.lst (ns.map .int)), some (.int v), a] /\ ns.length = j + 1 /\ ∀ n ∈ ns, 0 <= n /\ n < 1000000 := by
    rintro j d O hd ⟨ns, v, a, rfl, hl, hb⟩
    have hj : j < N := by
      have := (xae.mp hd).1
      simpa [rngD] using this
    obtain rfl : d = .int (j : Int) := by
      unfold rngD at hd
      rw [xbd, xco hj] at hd
      simpa using hd.symm
    have put : ∀ x : Int, 0 <= x -> x < 1000000 -> (ns ++ [x]).length = j + 1 /\ ∀ n ∈ ns ++ [x], 0 <= n /\ n < 1000000 := fun x h0 h1 => by
      refine ⟨by simp [hl], fun n hn => ?_⟩
      rcases xbi.mp hn with hn | hn
      · exact hb n hn
      · rw [xb0.mp hn]; exact ⟨h0, h1⟩
    unfold b_law_digits_2f; kst_p2
    obtain ⟨k, hk⟩ : ∃ k, andK (.ok (decide (c % 2 = 0))) (eTest (eOp gGt (eVar 3) (eC (.int 0)))) [some (.int c), some (.int (N : Int)), some (.lst (ns.map .int)), some (.int v), some (.int (j : Int))] = .ok k := by
      cases decide (c % 2 = 0)
      · exact ⟨_, rfl⟩
      · kd_p; exact ⟨_, rfl⟩
    rw [hk]
    cases k with
    | true =>
      kd_p
      unfold b_law_digits_2ft; kst_p2
      have e := em_pos (i := v) (j := 10 ^ 6) (by decide)
      unfold b_law_digits_2ft_1; kst_p2
      obtain ⟨p1, p2⟩ := put (v % 10 ^ 6) (by omega) (by omega)
      exact ⟨_, .inl rfl, ns ++ [v % 10 ^ 6], v / 10 ^ 6, some (.int (j : Int)), by rw [xbb]; rfl, p1, p2⟩
    | false =>
      kd_p
      obtain ⟨r, er, r0, r1⟩ := law_mixed_ok c (j : Int) (by omega) (by omega)
      rw [er]; kst_p2
      have e := em_pos (i := r) (j := 10 ^ 6) (by decide)
      obtain ⟨p1, p2⟩ := put (r % 10 ^ 6) (by omega) (by omega)
      exact ⟨_, .inl rfl, ns ++ [r % 10 ^ 6], v, some (.int (j : Int)), by rw [xbb]; rfl, p1, p2⟩
  obtain ⟨O', e, ns, v, a, rfl, hl, hb⟩ := forL_nth (i := 4) (fb := b_law_digits_2f) _ _ turn [some (.int c), some (.int (N : Int)), some (.lst []), some (.int (c / 2)), none] ⟨[], c / 2, none, rfl, rfl, by simp⟩
  rw [e]; kd_p
  unfold b_law_digits_3; kd_p
  exact ⟨ns, rfl, by rw [hl]; simp [rngD], hb⟩
end LmWa
open L2 DL Mir
namespace LmWb
open LmA LmY LmWa TxtA
inductive Sg where | plus | minus | times | over
def Sg.str : Sg -> Str
  | .plus => "+" | .minus => "-" | .times => "*" | .over => "/"
inductive Tr where
  | nm (x : Str) | nb (i : Int) | op (s : Sg) (a b : Tr)
def Tr.d : Tr -> D
  | .nm x => .tup [.str "name", .str x]
  | .nb i => .tup [.str "number", .int i]
  | .op s a b => .tup [.str s.str, a.d, b.d]
def Tr.many : Tr -> Nat
  | .nm _ => 1 | .nb _ => 1 | .op _ a b => a.many + b.many
theorem Tr.pos : ∀ t : Tr, 0 < t.many
  | .nm _ => Nat.one_pos | .nb _ => Nat.one_pos
  | .op _ a b => by have := a.pos; show 0 < a.many + b.many; omega
end LmWb
open L2 DL Mir
namespace LmWc
open LmA LmY LmWa LmWb TxtA
theorem ix20 (a b : D) : gIx (.tup [a, b]) (.int 0) = .ok a := (rfl)
theorem ix21 (a b : D) : gIx (.tup [a, b]) (.int 1) = .ok b := (rfl)
end LmWc
open L2 DL Mir
namespace LmWd
open LmA LmY LmWa LmWb LmWc TxtA
theorem pop_ok {i j : Nat} {O : DSt} {xs : List D} {d : D} (h : lstAt O i = .ok (xs ++ [d])) : sPop i j O = .ok (.nx ((O.set i (some (.lst xs))).set j (some d))) := by
  show (lstAt O i).bind _ = _
  rw [h]
  show (match (xs ++ [d])[(xs ++ [d]).length - 1]? with
    | some d' => R.ok (Out.nx ((O.set i (some (.lst (xs ++ [d]).dropLast))).set j (some d')))
    | none => .bad) = _
  have e : (xs ++ [d])[(xs ++ [d]).length - 1]? = some d := by simp
  rw [e]
  simp
end LmWd
open L2 DL Mir
open L2 DL Mir
namespace LmWf
open LmA LmY LmWa LmWb LmWc TxtA
theorem dig (ns : List Int) (hb : ∀ n ∈ ns, 0 <= n /\ n < 1000000) (j : Nat) (h : j < ns.length) : ∃ d : Int, gIx (.lst (ns.map .int)) (.int (j : Int)) = .ok (.int d) /\ 0 <= d /\ d < 1000000 :=
  ⟨ns[j], gIx_nat (by rw [xbd, xbf h]; rfl), (hb _ (xbx h)).1, (hb _ (xbx h)).2⟩
structure Pn (x : Str) : Prop where
  ex : ∃ l : List Nat, x = ofL l /\ l.length <= 8 /\ l ≠ [] /\ ∀ c ∈ l, 97 <= c /\ c <= 122
def Good : Tr -> Prop
  | .nm x => Pn x
  | .nb i => 0 <= i /\ i < 1000000000
  | .op _ a b => Good a /\ Good b
theorem leaf_ok (dg : List Int) (hl : dg.length = 6) (hb : ∀ n ∈ dg, 0 <= n /\ n < 1000000) (ns : List Str) (hn : ns.length = 5) (hp : ∀ x ∈ ns, Pn x) : ∃ t : Tr, m_law_leaf [.lst (dg.map .int), .lst (ns.map .str)] = .ok t.d /\ Good t /\ t.many = 1 := by
  obtain ⟨d2, g2, a2, b2⟩ := dig dg hb 2 (by omega)
  obtain ⟨d3, g3, a3, b3⟩ := dig dg hb 3 (by omega)
  obtain ⟨d4, g4, a4, b4⟩ := dig dg hb 4 (by omega)
  obtain ⟨d5, g5, a5, b5⟩ := dig dg hb 5 (by omega)
  have g2 : gIx (.lst (dg.map .int)) (.int 2) = .ok (.int d2) := g2
  have g3 : gIx (.lst (dg.map .int)) (.int 3) = .ok (.int d3) := g3
  have g4 : gIx (.lst (dg.map .int)) (.int 4) = .ok (.int d4) := g4
  have g5 : gIx (.lst (dg.map .int)) (.int 5) = .ok (.int d5) := g5
  rw [m_law_leaf_go]; unfold b_law_leaf; kd_p
  rw [g2]; kst_p2
  by_cases h : 0 < d2 % 3
  · rw [xah h]; kd_p
    rw [g3]; kd_p
    rw [gMod_pos _ _ (by rw [xao, hn]; decide)]; kd_p
    have m := em_pos (i := d3) (j := ((ns.map D.str).length : Int)) (by rw [xao, hn]; decide)
    rw [xao, hn] at m ⊢
    obtain ⟨j, hj⟩ : ∃ j : Nat, d3 % ((5 : Nat) : Int) = (j : Int) := ⟨(d3 % ((5 : Nat) : Int)).toNat, by omega⟩
    have hj5 : j < ns.length := by omega
    rw [hj, gIx_nat (d := .str ns[j]) (by rw [xbd, xbf hj5]; rfl)]; kd_p
    exact ⟨.nm ns[j], rfl, hp _ (xbx hj5), rfl⟩
  · rw [xat h]; kd_p
    unfold b_law_leaf_1; kd_p
    rw [g3, g4, g5]; kst_p2
    have m3 := em_pos (i := d3) (j := 10) (by decide)
    have m4 := em_pos (i := d4) (j := 1000) (by decide)
    obtain ⟨p, ep, hp1, hp2⟩ : ∃ p : Int, gIx (.lst [.int (d3 % 10), .int (d3 % 10), .int d3, .int (d3 * 1000 + d4 % 1000)]) (.int (d5 % 4)) = .ok (.int p) /\ 0 <= p /\ p < 1000000000 := by
      have : d5 % 4 = 0 \/ d5 % 4 = 1 \/ d5 % 4 = 2 \/ d5 % 4 = 3 := by omega
      rcases this with h | h | h | h <;> rw [h]
      · exact ⟨_, rfl, by omega, by omega⟩
      · exact ⟨_, rfl, by omega, by omega⟩
      · exact ⟨_, rfl, by omega, by omega⟩
      · exact ⟨_, rfl, by omega, by omega⟩
    rw [ep]; kd_p
    exact ⟨.nb p, rfl, ⟨hp1, hp2⟩, rfl⟩
end LmWf
open L2 DL Mir
namespace LmWg
open LmA LmY LmWa LmWb LmWc LmWf TxtA
def abc : Str := "abcdefghijklmnopqrstuvwxyz"
theorem abc_at (r : Int) (h0 : 0 <= r) (h1 : r < 26) : gIxS (.str abc) (.int r) = .ok (.str (ofL [97 + r.toNat])) := by
  obtain ⟨j, rfl⟩ : ∃ j : Nat, r = (j : Int) := ⟨r.toNat, by omega⟩
  have hj : j < 26 := by omega
  have hc : abc.cps = ((List.range 26).map (97 + ·)).toArray := by rfl
  show (bif decide (0 <= (j : Int)) && Nat.blt (j : Int).natAbs 1073741824 then (match abc.cps[(j : Int).toNat]? with
    | some c => R.ok (D.str (sign c))
    | none => .bad) else .bad) = _
  rw [xah h0, show Nat.blt (j : Int).natAbs 1073741824 = true from by rw [Nat.blt_eq]; omega, hc, xbs]
  rw [List.getElem?_toArray, xbd, xco hj]
  rfl
theorem ofL_app (a b : List Nat) : (ofL a : Str) ++ ofL b = ofL (a ++ b) := by
  show (⟨(ofL a).cps ++ (ofL b).cps⟩ : Str) = _
  unfold ofL
  simp
theorem add_ok {a b : List Nat} (h : a.length + b.length <= 1000000) : gAdd (.str (ofL a)) (.str (ofL b)) = .ok (.str (ofL (a ++ b))) := by
  show (bif le24 ((ofL a).length + (ofL b).length) then R.ok (D.str (ofL a ++ ofL b)) else .bad) = _
  rw [show le24 ((ofL a).length + (ofL b).length) = true from xah (by show a.toArray.size + b.toArray.size <= _; rw [xal, xal]; exact xax h (by decide)), ofL_app]; rfl
theorem ofL_inj {a b : List Nat} (h : ofL a = ofL b) : a = b := by
  have := congrArg (fun z : Str => z.cps.toList) h
  simpa [ofL] using this
theorem words_ok (c : Int) : ∃ ns : List Str, m_law_words [.int c, .int 5] = .ok (.lst (ns.map .str)) /\ ns.length = 5 /\ ns.Nodup /\ ∀ x ∈ ns, Pn x := by
  obtain ⟨ns, e, hl, hb⟩ := digits_ok c 12 (by decide)
  have e : m_law_digits [.int c, .int 12] = .ok (.lst (ns.map .int)) := e
  obtain ⟨d8, g8, a8, b8⟩ := dig ns hb 8 (by omega)
  obtain ⟨d9, g9, a9, b9⟩ := dig ns hb 9 (by omega)
  obtain ⟨d10, g10, a10, b10⟩ := dig ns hb 10 (by omega)
  obtain ⟨d11, g11, a11, b11⟩ := dig ns hb 11 (by omega)
  have g8 : gIx (.lst (ns.map .int)) (.int 8) = .ok (.int d8) := g8
  have g9 : gIx (.lst (ns.map .int)) (.int 9) = .ok (.int d9) := g9
  have g10 : gIx (.lst (ns.map .int)) (.int 10) = .ok (.int d10) := g10
  have g11 : gIx (.lst (ns.map .int)) (.int 11) = .ok (.int d11) := g11
  rw [m_law_words_go]; unfold b_law_words b_law_words_1 b_law_words_2 b_law_words_3; kd_p
  rw [e]; kd_p
  rw [g10]; kst_p2
  have m10 := em_pos (i := d10) (j := 8) (by decide)
  rw [show ("abcdefghijklmnopqrstuvwxyz" : Str) = abc from rfl, show (D.str "") = .str (ofL []) from rfl]
  have turn : ∀ (j : Nat) (d : D) (O : DSt), (rngD 0 (d10 % 8).toNat)[j]? = some d -> (∃ (l : List Nat) (z : Option D), O = [some (.int c), some (.int 5), some (.str abc), some (.lst (ns.map .int)), some (.str (ofL l)), z] /\ l.length = j /\ ∀ c ∈ l, 97 <= c /\ c <= 122) ->
      ∃ O', (b_law_words_3f (O.set 5 (some d)) = .ok (.nx O') \/ b_law_words_3f (O.set 5 (some d)) = .ok (.ct O')) /\ ∃ (l : List Nat) (z : Option D), O' = [some (.int c), some (.int 5), some (.str abc), some (.lst (ns.map .int)), some (.str (ofL l)), z] /\ l.length = j + 1 /\ ∀ c ∈ l, 97 <= c /\ c <= 122 := by
    rintro j d O hd ⟨l, z, rfl, hl, hc⟩
    have hj : j < (d10 % 8).toNat := by
      have := (xae.mp hd).1
      simpa [rngD] using this
    obtain rfl : d = .int (j : Int) := by
      unfold rngD at hd
      rw [xbd, xco hj] at hd
      simpa using hd.symm
    unfold b_law_words_3f; kd_p
    rw [g11]
    rw [show lstK (.ok [D.int 1, .int 26, .int 676, .int 17576, .int 5, .int 9, .int 77]) = .ok [D.int 1, .int 26, .int 676, .int 17576, .int 5, .int 9, .int 77] from rfl]; kd_p
    obtain ⟨q, hq, hq0, hq1⟩ : ∃ q : Int, gIx (.lst [.int 1, .int 26, .int 676, .int 17576, .int 5, .int 9, .int 77]) (.int (j : Int)) = .ok (.int q) /\ 0 < q /\ q <= 20000 := by
      have : j = 0 \/ j = 1 \/ j = 2 \/ j = 3 \/ j = 4 \/ j = 5 \/ j = 6 := by omega
      rcases this with rfl | rfl | rfl | rfl | rfl | rfl | rfl
      · exact ⟨1, rfl, by decide, by decide⟩
      · exact ⟨26, rfl, by decide, by decide⟩
      · exact ⟨676, rfl, by decide, by decide⟩
      · exact ⟨17576, rfl, by decide, by decide⟩
      · exact ⟨5, rfl, by decide, by decide⟩
      · exact ⟨9, rfl, by decide, by decide⟩
      · exact ⟨77, rfl, by decide, by decide⟩
    rw [hq]; kd_p
    rw [gFdiv_pos _ _ (divB_le (by omega) (by omega) (by omega)) hq0]; kd_p
    rw [gMod_pos _ _ (by decide)]; kd_p
    have m := em_pos (i := d11 / q) (j := 26) (by decide)
    rw [abc_at _ m.1 m.2]; kd_p
    rw [add_ok (by simp; omega)]; kd_p
    refine ⟨_, .inl rfl, l ++ [97 + (d11 / q % 26).toNat], _, rfl, by simp [hl], fun x hx => ?_⟩
    rcases xbi.mp hx with h | h
    · exact hc x h
    · rw [xb0.mp h]; omega
  obtain ⟨O', e2, l, z, rfl, hl2, hc⟩ := forL_nth (i := 5) (fb := b_law_words_3f) _ _ turn [some (.int c), some (.int 5), some (.str abc), some (.lst (ns.map .int)), some (.str (ofL [])), none] ⟨[], none, rfl, rfl, by simp⟩
  have hl7 : l.length <= 7 := by
    have : (rngD 0 (d10 % 8).toNat).length = (d10 % 8).toNat := by simp [rngD]
    omega
  rw [e2]; kd_p
  unfold b_law_words_4; kd_p
  rw [g8]; kst_p2
  by_cases h : d8 % 4 = 1
  · rw [xah h]; kd_p
    rw [Lk42.eSl_to _ _ _ [D.str "end", .str "x", .str "times", .str "rule", .str "ends", .str "xx"] 5 rfl rfl]; kd_p
    refine ⟨["end", "x", "times", "rule", "ends"], rfl, rfl, by decide, fun x hx => ?_⟩
    simp only [xam, xa1, or_false] at hx
    rcases hx with rfl | rfl | rfl | rfl | rfl
    · exact ⟨[101, 110, 100], rfl, by decide, by decide, by decide⟩
    · exact ⟨[120], rfl, by decide, by decide, by decide⟩
    · exact ⟨[116, 105, 109, 101, 115], rfl, by decide, by decide, by decide⟩
    · exact ⟨[114, 117, 108, 101], rfl, by decide, by decide, by decide⟩
    · exact ⟨[101, 110, 100, 115], rfl, by decide, by decide, by decide⟩
  · rw [xat h]; kd_p
    unfold b_law_words_5; kst_p2
    have nm : ∀ k : Int, opK gAdd (opK gIxS (.ok (.str abc)) (opK gMod (opK gAdd (.ok (.int d9)) (.ok (.int k))) (.ok (.int 26)))) (.ok (.str (ofL l))) = .ok (.str (ofL ((97 + ((d9 + k) % 26).toNat) :: l))) := fun k => by
      have m := em_pos (i := d9 + k) (j := 26) (by decide)
      rw [opK_ok, gAdd_ii, opK_ok, gMod_pos _ _ (by decide), opK_ok, abc_at _ m.1 m.2, opK_ok, add_ok (by simp; omega)]; rfl
    rw [show rngD 0 5 = [D.int 0, .int 1, .int 2, .int 3, .int 4] from rfl]
    rw [lc_map (g := fun d => match d with | .int k => .str (ofL ((97 + ((d9 + k) % 26).toNat) :: l)) | _ => .non) (by decide) (fun d hd => ?_)]
    · kd_p
      refine ⟨[0, 1, 2, 3, 4].map fun k : Int => ofL ((97 + ((d9 + k) % 26).toNat) :: l), rfl, rfl, ?_, fun x hx => ?_⟩
      · have ne : ∀ i j : Int, 0 <= i -> i < 5 -> 0 <= j -> j < 5 -> i ≠ j -> ofL ((97 + ((d9 + i) % 26).toNat) :: l) ≠ ofL ((97 + ((d9 + j) % 26).toNat) :: l) := fun i j h1 h2 h3 h4 h5 h6 => by
          have := ofL_inj h6
          injection this with h7 _
          omega
        simp only [xbe, List.map_nil, xcd, xam, xa1, or_false, not_or, not_false_eq_true, List.nodup_nil, and_true]
        refine ⟨⟨?_, ?_, ?_, ?_⟩, ⟨?_, ?_, ?_⟩, ⟨?_, ?_⟩, ?_⟩ <;> exact ne _ _ (by decide) (by decide) (by decide) (by decide) (by decide)
      · obtain ⟨k, hk, rfl⟩ := xcj.mp hx
        refine ⟨_, rfl, by simp; omega, by simp, fun y hy => ?_⟩
        rcases xam.mp hy with rfl | hy
        · have := em_pos (i := d9 + k) (j := 26) (by decide); omega
        · exact hc y hy
    · simp only [xam, xa1, or_false] at hd
      rcases hd with rfl | rfl | rfl | rfl | rfl <;> (kd_p; rw [g9]; exact nm _)
end LmWg
open L2 DL Mir
namespace LmWh
open LmA LmY LmWa LmWb LmWc LmWd LmWf LmWg TxtA
def manyS (ts : List Tr) : Nat := (ts.map Tr.many).sum
theorem manyS_snoc (ts : List Tr) (t : Tr) : manyS (ts ++ [t]) = manyS ts + t.many := by unfold manyS; simp
theorem len_many : ∀ ts : List Tr, ts.length <= manyS ts
  | [] => xcl _
  | t :: ts => by have := len_many ts; have := t.pos; unfold manyS at *; simp only [xbe, List.sum_cons, xa0]; omega
theorem sg1 (r : Int) (h0 : 0 <= r) (h1 : r < 4) : ∃ s : Sg, gIxS (.str "+-*/") (.int r) = .ok (.str s.str) := by
  have : r = 0 \/ r = 1 \/ r = 2 \/ r = 3 := by omega
  rcases this with rfl | rfl | rfl | rfl
  · exact ⟨.plus, rfl⟩
  · exact ⟨.minus, rfl⟩
  · exact ⟨.times, rfl⟩
  · exact ⟨.over, rfl⟩
theorem sg2 (r : Int) (h0 : 0 <= r) (h1 : r < 4) : ∃ s : Sg, gIxS (.str "-+/*") (.int r) = .ok (.str s.str) := by
  have : r = 0 \/ r = 1 \/ r = 2 \/ r = 3 := by omega
  rcases this with rfl | rfl | rfl | rfl
  · exact ⟨.minus, rfl⟩
  · exact ⟨.plus, rfl⟩
  · exact ⟨.over, rfl⟩
  · exact ⟨.times, rfl⟩
section
variable {a b z3 z4 : Option D} {xs : List D} {d x d1 : D} {f1 : DSt -> R D}
theorem appPop_ok (h : f1 [a, b, none, z3, z4, some x] = .ok d1) (hl : xs.length <= 1000000) :
    sAppPop [2] 2 2 f1 (eVar 5) [a, b, some (.lst (xs ++ [d])), z3, z4, some x] = .ok (.nx [a, b, some (.lst (xs ++ [.tup [d1, d, x]])), z3, z4, some x]) := by
  unfold sAppPop
  rw [show lstAt [a, b, some (.lst (xs ++ [d])), z3, z4, some x] 2 = .ok (xs ++ [d]) from rfl, show mask [2] [a, b, some (.lst (xs ++ [d])), z3, z4, some x] = [a, b, none, z3, z4, some x] from rfl, h]
  show (match (xs ++ [d])[(xs ++ [d]).length - 1]? with
    | some e => R.bind (.ok x) fun d2 => R.bind (.ok (xs ++ [d]).dropLast) fun ys => bif most ys.length then R.ok (Out.nx [a, b, some (.lst (ys ++ [D.tup [d1, e, d2]])), z3, z4, some x]) else .bad
    | none => .bad) = _
  have e : (xs ++ [d])[(xs ++ [d]).length - 1]? = some d := by simp
  rw [e, xbv]
  show (bif most xs.length then R.ok (Out.nx [a, b, some (.lst (xs ++ [.tup [d1, d, x]])), z3, z4, some x]) else .bad) = _
  rw [most_of hl]; rfl
theorem appPopP_ok (h : f1 [a, b, some (.lst (xs ++ [d])), z3, z4, some x] = .ok d1) (hi : imm d1 = true) (hl : xs.length <= 1000000) :
    sAppPopP [2] 2 2 f1 (eVar 5) [a, b, some (.lst (xs ++ [d])), z3, z4, some x] = .ok (.nx [a, b, some (.lst (xs ++ [.tup [d1, d, x]])), z3, z4, some x]) := by
  unfold sAppPopP
  rw [show lstAt [a, b, some (.lst (xs ++ [d])), z3, z4, some x] 2 = .ok (xs ++ [d]) from rfl, h]
  show (bif imm d1 then (match (xs ++ [d])[(xs ++ [d]).length - 1]? with
    | some e => R.bind (.ok x) fun d2 => R.bind (.ok (xs ++ [d]).dropLast) fun ys => bif most ys.length then R.ok (Out.nx [a, b, some (.lst (ys ++ [D.tup [d1, e, d2]])), z3, z4, some x]) else .bad
    | none => .bad) else .bad) = _
  have e : (xs ++ [d])[(xs ++ [d]).length - 1]? = some d := by simp
  rw [hi, e, xbv]
  show (bif most xs.length then R.ok (Out.nx [a, b, some (.lst (xs ++ [.tup [d1, d, x]])), z3, z4, some x]) else .bad) = _
  rw [most_of hl]; rfl
end
theorem snoc2 {α : Type} (ts : List α) (h : 1 < ts.length) : ∃ us a b, ts = us ++ [a] ++ [b] := by
  rcases List.eq_nil_or_concat ts with rfl | ⟨l, b, rfl⟩
  · simp at h
  · rw [List.concat_eq_append] at *
    rcases List.eq_nil_or_concat l with rfl | ⟨us, a, rfl⟩
    · simp at h
    · exact ⟨us, a, b, by rw [List.concat_eq_append]⟩
section
variable (C : D) (ns : List Str) (hn : ns.length = 5) (hp : ∀ x ∈ ns, Pn x)
theorem join_rest (z3 z4 : Option D) : ∀ (n : Nat) (ts : List Tr) (z5 : Option D), ts.length = n -> 1 <= n -> n <= 1000 -> (∀ t ∈ ts, Good t) -> ∃ (t : Tr) (z : Option D), sWhile b_law_tree_2c b_law_tree_2w [some C, some (.lst (ns.map .str)), some (.lst (ts.map Tr.d)), z3, z4, z5] = .ok (.nx [some C, some (.lst (ns.map .str)), some (.lst [t.d]), z3, z4, z]) /\ Good t /\ t.many = manyS ts := by
  intro n
  induction n with
  | zero => intro ts z5 h1 h2; omega
  | succ n ih =>
    intro ts z5 h1 h2 h3 hg
    by_cases hn1 : n = 0
    · subst hn1
      match ts, h1 with
      | [t], _ =>
        refine ⟨t, z5, ?_, hg t (by simp), by unfold manyS; simp⟩
        rw [sWhile_f (by unfold b_law_tree_2c; kd_p; rfl)]; rfl
    · obtain ⟨us, a, b, rfl⟩ := snoc2 ts (by omega)
      have hlu : us.length + 2 = n + 1 := by simp at h1; omega
      have m := em_pos (i := (((us ++ [a]).map Tr.d).length : Int)) (j := 4) (by decide)
      obtain ⟨s, hs⟩ := sg2 _ m.1 m.2
      obtain ⟨t, z, e1, e2, e3⟩ := ih (us ++ [.op s a b]) (some b.d) (by simp; omega) (by omega) (by omega) (fun t ht => by
        rcases xbi.mp ht with h | h
        · exact hg t (by simp [h])
        · rw [xb0.mp h]; exact ⟨hg a (by simp), hg b (by simp)⟩)
      refine ⟨t, z, ?_, e2, by rw [e3, manyS_snoc, manyS_snoc, manyS_snoc]; show manyS us + (a.many + b.many) = _; omega⟩
      rw [sWhile_t (O' := [some C, some (.lst (ns.map .str)), some (.lst ((us ++ [Tr.op s a b]).map Tr.d)), z3, z4, some b.d]) ?_ ?_, e1]
      · unfold b_law_tree_2c; kd_p
        rw [xah (by simp; omega)]
      · unfold b_law_tree_2w b_law_tree_2w_1
        rw [sSeq_def, pop_ok (xs := (us ++ [a]).map Tr.d) (d := b.d) (by rw [xbb (l₂ := [b])]; rfl), seqK_nx]
        show sAppPopP [2] 2 2 _ (eVar 5) [some C, some (.lst (ns.map .str)), some (.lst ((us ++ [a]).map Tr.d)), z3, z4, some b.d] = _
        rw [xbb] at m hs ⊢
        rw [show [a].map Tr.d = [a.d] from rfl] at *
        rw [appPopP_ok (d1 := .str s.str) ?_ rfl (by simp; omega)]
        · rw [xbb]; rfl
        · kd_p
          rw [gMod_pos _ _ (by decide)]; kd_p
          exact hs
include hn hp in
theorem tree_ok (cs : List Int) (h1 : cs ≠ []) (h2 : cs.length <= 1000) : ∃ t : Tr, m_law_tree [.lst (cs.map .int), .lst (ns.map .str)] = .ok t.d /\ Good t /\ t.many <= cs.length := by
  rw [m_law_tree_go]; unfold b_law_tree b_law_tree_1 b_law_tree_2 b_law_tree_3; kd_p
  have turn : ∀ (j : Nat) (d : D) (O : DSt), (cs.map D.int)[j]? = some d -> (∃ (ts : List Tr) (z3 z4 z5 : Option D), O = [some (.lst (cs.map .int)), some (.lst (ns.map .str)), some (.lst (ts.map Tr.d)), z3, z4, z5] /\ (0 < j -> ts ≠ []) /\ manyS ts <= j /\ ∀ t ∈ ts, Good t) ->
      ∃ O', (b_law_tree_1f (O.set 3 (some d)) = .ok (.nx O') \/ b_law_tree_1f (O.set 3 (some d)) = .ok (.ct O')) /\ ∃ (ts : List Tr) (z3 z4 z5 : Option D), O' = [some (.lst (cs.map .int)), some (.lst (ns.map .str)), some (.lst (ts.map Tr.d)), z3, z4, z5] /\ (0 < j + 1 -> ts ≠ []) /\ manyS ts <= j + 1 /\ ∀ t ∈ ts, Good t := by
    rintro j d O hd ⟨ts, z3, z4, z5, rfl, h0, hm, hg⟩
    have hj : j < cs.length := by
      have := (xae.mp hd).1
      simpa using this
    have hlt := len_many ts
    obtain ⟨c, rfl⟩ : ∃ c, d = .int c := by
      rw [xbd, xbf hj] at hd
      exact ⟨_, (xa4 hd).symm⟩
    obtain ⟨dg, e, hl, hb⟩ := digits_ok c 6 (by decide)
    have e : m_law_digits [.int c, .int 6] = .ok (.lst (dg.map .int)) := e
    obtain ⟨d0, g0, a0, b0⟩ := dig dg hb 0 (by omega)
    obtain ⟨d1, g1, a1, b1⟩ := dig dg hb 1 (by omega)
    have g0 : gIx (.lst (dg.map .int)) (.int 0) = .ok (.int d0) := g0
    have g1 : gIx (.lst (dg.map .int)) (.int 1) = .ok (.int d1) := g1
    have set4 : ∀ g, seqK (sSet [2] 4 (eCall m_law_digits (aCons (eVar 3) (aCons (eC (.int 6)) aNil))) [some (.lst (cs.map .int)), some (.lst (ns.map .str)), some (.lst (ts.map Tr.d)), some (.int c), z4, z5]) g = g [some (.lst (cs.map .int)), some (.lst (ns.map .str)), some (.lst (ts.map Tr.d)), some (.int c), some (.lst (dg.map .int)), z5] := fun g => by
      rw [sSet_def, show eCall m_law_digits (aCons (eVar 3) (aCons (eC (.int 6)) aNil)) (mask [2] [some (.lst (cs.map .int)), some (.lst (ns.map .str)), some (.lst (ts.map Tr.d)), some (.int c), z4, z5]) = .ok (.lst (dg.map .int)) from e, setK_ok]; rfl
    show ∃ O', (b_law_tree_1f [some (.lst (cs.map .int)), some (.lst (ns.map .str)), some (.lst (ts.map Tr.d)), some (.int c), z4, z5] = .ok (.nx O') \/ b_law_tree_1f [some (.lst (cs.map .int)), some (.lst (ns.map .str)), some (.lst (ts.map Tr.d)), some (.int c), z4, z5] = .ok (.ct O')) /\ _
    unfold b_law_tree_1f
    rw [sSeq_def, set4]
    have push : ∃ O', (sApp [2] 2 (eCall m_law_leaf (aCons (eVar 4) (aCons (eVar 1) aNil))) [some (.lst (cs.map .int)), some (.lst (ns.map .str)), some (.lst (ts.map Tr.d)), some (.int c), some (.lst (dg.map .int)), z5] = .ok (.nx O') \/ sApp [2] 2 (eCall m_law_leaf (aCons (eVar 4) (aCons (eVar 1) aNil))) [some (.lst (cs.map .int)), some (.lst (ns.map .str)), some (.lst (ts.map Tr.d)), some (.int c), some (.lst (dg.map .int)), z5] = .ok (.ct O')) /\
        ∃ (ts : List Tr) (z3 z4 z5 : Option D), O' = [some (.lst (cs.map .int)), some (.lst (ns.map .str)), some (.lst (ts.map Tr.d)), z3, z4, z5] /\ (0 < j + 1 -> ts ≠ []) /\ manyS ts <= j + 1 /\ ∀ t ∈ ts, Good t := by
      obtain ⟨t, et, gt, mt⟩ := leaf_ok dg hl hb ns hn hp
      refine ⟨_, .inl ?_, ts ++ [t], some (.int c), some (.lst (dg.map .int)), z5, rfl, by simp, by rw [manyS_snoc, mt]; omega, fun u hu => ?_⟩
      · rw [sApp_def, show lstAt [some (.lst (cs.map .int)), some (.lst (ns.map .str)), some (.lst (ts.map Tr.d)), some (.int c), some (.lst (dg.map .int)), z5] 2 = .ok (ts.map Tr.d) from rfl,
          show eCall m_law_leaf (aCons (eVar 4) (aCons (eVar 1) aNil)) (mask [2] [some (.lst (cs.map .int)), some (.lst (ns.map .str)), some (.lst (ts.map Tr.d)), some (.int c), some (.lst (dg.map .int)), z5]) = .ok t.d from et, appK_ok _ _ _ _ (by simp; omega), xbb]; rfl
      · rcases xbi.mp hu with h | h
        · exact hg u h
        · rw [xb0.mp h]; exact gt
    unfold b_law_tree_1f_1; kd_p
    by_cases hlen : 1 < ts.length
    · rw [xah (by simp; omega)]; kd_p
      rw [g0]; kst_p2
      by_cases he : d0 % 2 = 0
      · rw [xah he]; kd_p
        obtain ⟨us, a, b, rfl⟩ := snoc2 ts hlen
        have m := em_pos (i := d1) (j := 4) (by decide)
        obtain ⟨s, hs⟩ := sg1 _ m.1 m.2
        refine ⟨_, .inl ?_, us ++ [.op s a b], some (.int c), some (.lst (dg.map .int)), some b.d, rfl, by simp, ?_, fun u hu => ?_⟩
        · unfold b_law_tree_1f_1t b_law_tree_1f_1t_1
          rw [sSeq_def, pop_ok (xs := us.map Tr.d ++ [a.d]) (d := b.d) (by rw [xbb, xbb]; rfl), seqK_nx]
          show sAppPop [2] 2 2 _ (eVar 5) [some (.lst (cs.map .int)), some (.lst (ns.map .str)), some (.lst (us.map Tr.d ++ [a.d])), some (.int c), some (.lst (dg.map .int)), some b.d] = _
          rw [appPop_ok (d1 := .str s.str) ?_ (by simp only [xar, xao, xa0, xbq] at hlt ⊢; omega)]
          · rw [xbb]; rfl
          · kd_p
            rw [g1]; kst_p2
            exact hs
        · rw [manyS_snoc]
          rw [manyS_snoc, manyS_snoc] at hm
          show manyS us + (a.many + b.many) <= _
          omega
        · rcases xbi.mp hu with h | h
          · exact hg u (by simp [h])
          · rw [xb0.mp h]; exact ⟨hg a (by simp), hg b (by simp)⟩
      · rw [xat he]; kd_p
        exact push
    · rw [xat (by simp; omega)]; kd_p
      exact push
  obtain ⟨O', e, ts, z3, z4, z5, rfl, hne, hm, hg⟩ := forL_nth (i := 3) (fb := b_law_tree_1f) _ _ turn [some (.lst (cs.map .int)), some (.lst (ns.map .str)), some (.lst []), none, none, none] ⟨[], none, none, none, rfl, by simp, by simp [manyS], by simp⟩
  rw [xao] at hne hm
  rw [e]; kd_p
  have hc : 0 < cs.length := xcc.mpr h1
  obtain ⟨t, z, e1, e2, e3⟩ := join_rest (.lst (cs.map .int)) ns z3 z4 ts.length ts z5 rfl (xcc.mpr (hne hc)) (by have := len_many ts; omega) hg
  rw [e1]; kd_p
  exact ⟨t, rfl, e2, by omega⟩
end
end LmWh
open L2 DL Mir
open L2 DL Mir
namespace Lk31
open LmA
theorem iStr_def (f : DSt -> R D) (O : DSt) : iStr f O = (f O).bind asTxt := rfl
def inT (i j : Str) : Bool := !(Builtin.Str.occurrences j i 0 j.length 1).isEmpty
theorem gLen_s {z : Str} (h : z.length <= 1000) : gLen [.str z] = .ok (.int z.length) := by
  show (bif le24 z.length then _ else _) = _
  rw [show le24 z.length = true from xah (xax h (by decide))]; rfl
theorem gAll_bls (bs : List Bool) : gAll [.lst (bs.map D.bl)] = .ok (.bl (bs.all id)) := by
  show all1 (.lst (bs.map D.bl)) = _
  simp only [all1, blsOf_map]
theorem signs_len (z : Str) : (signsD z).length = z.length := by
  unfold signsD
  rw [xao, xby]; rfl
def isW (z : Str) : Bool := decide (1 <= (z.length : Int)) && decide ((z.length : Int) <= 8) && (z.cps.toList.all fun c => inT (sign c) "abcdefghijklmnopqrstuvwxyz")
theorem is_word_s {z : Str} (h : z.length <= 1000) : m_is_word [.str z] = .ok (.bl (isW z)) := by
  rw [m_is_word_go]; unfold b_is_word; kd_p
  rw [show g2 isi3 [.str z, .ty "str"] = .ok (.bl true) from rfl]; kd_p
  rw [gLen_s h]; kd_p
  rw [show k_MOST_LETTERS = .int 8 from rfl]; kd_p
  cases hc : (decide (1 <= (z.length : Int)) && decide ((z.length : Int) <= 8)) with
  | false =>
    kd_p
    unfold isW; rw [hc]; rfl
  | true =>
    kd_p
    unfold b_is_word_1; kd_p
    rw [iStr_def]; kd_p
    rw [show (R.ok (D.str z)).bind asTxt = .ok (signsD z) from rfl, lc_map (g := fun d => match d with | .str y => .bl (inT y "abcdefghijklmnopqrstuvwxyz") | d => d) (by rw [signs_len]; omega) (fun d hd => ?_)]
    · kd_p
      rw [show (signsD z).map (fun d => match d with | .str y => D.bl (inT y "abcdefghijklmnopqrstuvwxyz") | d => d) = (z.cps.toList.map fun c => inT (sign c) "abcdefghijklmnopqrstuvwxyz").map D.bl from by unfold signsD; rw [xb4, xb4]; rfl, gAll_bls, List.all_map]; kd_p
      unfold isW; rw [hc, Bool.true_and]
      rfl
    · unfold signsD at hd
      obtain ⟨c, _, rfl⟩ := xcj.mp hd
      kd_p
      rfl
end Lk31
open L2 DL Mir
namespace LmWj
open LmA LmY LmWa LmWb LmWc LmWd LmWf LmWg LmWh TxtA
theorem tw_rep {p : Nat -> Bool} {c : Nat} (hc : p c = true) {r : List Nat} (hr : ∀ x ∈ r.head?, p x = false) : ∀ n : Nat, List.takeWhile p (List.replicate n c ++ r) = List.replicate n c
  | 0 => by
    rw [List.replicate_zero, List.nil_append]
    cases r with
    | nil => rfl
    | cons x r => rw [List.takeWhile_cons, hr x (by simp)]; rfl
  | n + 1 => by
    rw [xa9, xb6, List.takeWhile_cons, hc]
    show c :: List.takeWhile p (List.replicate n c ++ r) = _
    rw [tw_rep hc hr n]
theorem lstrip_ok (n : Nat) (r : List Nat) (hr : ∀ x ∈ r.head?, x ≠ 40) : Txt.lstripChars (ofL (List.replicate n 40 ++ r)) "(" = ofL r := by
  unfold Txt.lstripChars
  rw [PyProof.Rows.stripBy_eq]
  have g : ∀ c, ("(" : Str).cps.contains c = (c == 40) := fun c => by
    show (#[40] : Array Nat).contains c = _
    rw [xbm]; simp
  have lo : stripLo ("(" : Str).cps.contains true (ofL (List.replicate n 40 ++ r)) = n := by
    unfold stripLo
    rw [xav rfl]
    show (List.takeWhile _ (List.replicate n 40 ++ r).toArray.toList).length = n
    rw [tw_rep (c := 40) (by rw [g]; rfl) (fun x hx => by rw [g]; simpa using hr x hx)]
    simp
  have hi : ∀ k, stripHi ("(" : Str).cps.contains false (ofL (List.replicate n 40 ++ r)) k = n + r.length := fun k => by
    unfold stripHi
    rw [xap (by simp)]
    show (List.replicate n 40 ++ r).toArray.size = _
    simp
  rw [hi, lo]
  show (⟨(List.replicate n 40 ++ r).toArray.extract n (n + r.length)⟩ : Str) = ⟨r.toArray⟩
  congr 1
  apply xb7.mp
  simp
theorem rstrip_ok (n : Nat) (r : List Nat) (hr : ∀ x ∈ r.getLast?, x ≠ 41) : Txt.rstripChars (ofL (r ++ List.replicate n 41)) ")" = ofL r := by
  unfold Txt.rstripChars
  rw [PyProof.Rows.stripBy_eq]
  have g : ∀ c, (")" : Str).cps.contains c = (c == 41) := fun c => by
    show (#[41] : Array Nat).contains c = _
    rw [xbm]; simp
  have lo : stripLo (")" : Str).cps.contains false (ofL (r ++ List.replicate n 41)) = 0 := by
    unfold stripLo; rw [xap (by simp)]
  have hi : stripHi (")" : Str).cps.contains true (ofL (r ++ List.replicate n 41)) 0 = r.length := by
    unfold stripHi
    rw [xav rfl]
    show (r ++ List.replicate n 41).toArray.size - (List.takeWhile _ (List.drop 0 (r ++ List.replicate n 41).toArray.toList).reverse).length = _
    rw [List.drop_zero, List.reverse_append, List.reverse_replicate, tw_rep (c := 41) (by rw [g]; rfl) (fun x hx => by rw [g]; rw [List.head?_reverse] at hx; simpa using hr x hx)]
    simp
  rw [lo, hi]
  show (⟨(r ++ List.replicate n 41).toArray.extract 0 r.length⟩ : Str) = ⟨r.toArray⟩
  congr 1
  apply xb7.mp
  simp
def atm : Tr -> List Nat
  | .nm x => x.cps.toList
  | .nb i => digs i.toNat
  | .op _ _ _ => []
def Tr.leaf : Tr -> Bool
  | .op _ _ _ => false
  | _ => true
theorem atm_ok {t : Tr} (hl : Tr.leaf t = true) (hg : Good t) : atm t ≠ [] /\ (atm t).length <= 9 /\ ∀ c ∈ atm t, c ≠ 40 /\ c ≠ 41 /\ c ≠ 32 := by
  cases t with
  | nm x =>
    obtain ⟨l, rfl, h1, h2, h3⟩ := hg.ex
    refine ⟨by show l.toArray.toList ≠ []; simpa using h2, by show l.toArray.toList.length <= 9; simp; omega, fun c hc => ?_⟩
    have := h3 c (by simpa [atm, ofL] using hc)
    omega
  | nb i =>
    obtain ⟨h1, h2⟩ := hg
    have hm : i.toNat < 10 ^ 9 := by omega
    refine ⟨digs_ne _, digs_lenK (by decide) hm, fun c hc => ?_⟩
    have := digs_all _ c hc
    obtain ⟨q1, q2⟩ : 48 <= c /\ c <= 57 := this
    omega
  | op s a b => cases hl
theorem letter_in (c : Nat) : Lk31.inT (sign c) "abcdefghijklmnopqrstuvwxyz" = decide (97 <= c /\ c <= 122) := by
  show (!(Builtin.Str.occurrences ("abcdefghijklmnopqrstuvwxyz" : Str) ⟨#[c]⟩ 0 ("abcdefghijklmnopqrstuvwxyz" : Str).length 1).isEmpty) = _
  rw [StrLaws.found_one, show ("abcdefghijklmnopqrstuvwxyz" : Str).cps.toList = (List.range 26).map (97 + ·) from rfl]
  rw [decide_eq_decide]
  simp only [xcj, List.mem_range]
  constructor
  · rintro ⟨a, h1, h2⟩; omega
  · intro h; exact ⟨c - 97, by omega, by omega⟩
theorem core_ok {t : Tr} (hl : Tr.leaf t = true) (hg : Good t) : m_read_core [.str (ofL (atm t))] = .ok t.d := by
  have lo : ∀ l : List Nat, (ofL l).length = l.length := fun l => by simp [ofL, Str.length]
  obtain ⟨h1, h2, h3⟩ := atm_ok hl hg
  have hw := Lk31.is_word_s (z := ofL (atm t)) (by rw [lo]; omega)
  rw [m_read_core_go]; unfold b_read_core; kd_p
  rw [hw]; kd_p
  cases t with
  | nm x =>
    obtain ⟨l, rfl, q1, q2, q3⟩ := hg.ex
    have ea : atm (.nm (ofL l)) = l := by show l.toArray.toList = l; simp
    rw [ea] at *
    have : Lk31.isW (ofL l) = true := by
      unfold Lk31.isW
      rw [lo]
      have hp : 0 < l.length := xcc.mpr q2
      rw [xah (by omega), xah (by omega)]
      show (true && true && l.toArray.toList.all fun c => Lk31.inT (sign c) "abcdefghijklmnopqrstuvwxyz") = true
      simp only [Bool.true_and, xbh, List.toList_toArray]
      intro c hc
      rw [letter_in, xah (q3 c hc)]
    rw [this]; kd_p
    rfl
  | nb i =>
    obtain ⟨q1, q2⟩ := hg
    have hm : i.toNat < 10 ^ 9 := by omega
    have h2 : (digs i.toNat).length <= 9 := h2
    show fin (seqK (ifK (testK (.ok (.bl (Lk31.isW (ofL (digs i.toNat)))))) _ _ [some (.str (ofL (digs i.toNat)))]) _) = _
    have : Lk31.isW (ofL (digs i.toNat)) = false := by
      unfold Lk31.isW
      obtain ⟨c, cs, hc⟩ := xb9 (digs_ne i.toNat)
      have hd := digs_all i.toNat c (by rw [hc]; simp)
      obtain ⟨d1, d2⟩ : 48 <= c /\ c <= 57 := hd
      rw [hc]
      have : ((ofL (c :: cs)).cps.toList.all fun c => Lk31.inT (sign c) "abcdefghijklmnopqrstuvwxyz") = false := by
        show ((c :: cs).toArray.toList.all fun c => Lk31.inT (sign c) "abcdefghijklmnopqrstuvwxyz") = false
        rw [List.toList_toArray, List.all_cons, letter_in, xat (by omega), xcp]
      rw [this, xcq]
    rw [this]; kd_p
    unfold b_read_core_1 b_read_core_2; kd_p
    rw [Lk31.gLen_s (by rw [lo]; omega), show k_MOST_FIGURES = .int 9 from rfl, lo]; kd_p
    rw [xat (by omega)]; kd_p
    rw [read_number_ok (xak hm (by decide))]; kd_p
    rw [show ((i.toNat : Nat) : Int) = i by omega]; rfl
  | op s a b => cases hl
end LmWj
open L2 DL Mir
namespace LmWk
open LmA LmY LmWa LmWb LmWc LmWd LmWf LmWg LmWh LmWj TxtA
inductive Sy where | opn | sig (s : Sg)
def Sy.str : Sy -> Str
  | .opn => "(" | .sig s => s.str
def bnd : Sg -> Nat
  | .plus => 1 | .minus => 1 | .times => 2 | .over => 2
def Sy.b : Sy -> Nat
  | .opn => 0 | .sig s => bnd s
def sD (S : List Tr) : List D := S.reverse.map Tr.d
def gD (G : List Sy) : List D := G.reverse.map fun y => .str y.str
theorem sD_cons (t : Tr) (S : List Tr) : sD (t :: S) = sD S ++ [t.d] := by unfold sD; simp
theorem gD_cons (y : Sy) (G : List Sy) : gD (y :: G) = gD G ++ [.str y.str] := by unfold gD; simp
theorem sD_len (S : List Tr) : (sD S).length = S.length := by unfold sD; simp
theorem gD_len (G : List Sy) : (gD G).length = G.length := by unfold gD; simp
def sigs : List Sy -> Nat
  | [] => 0
  | .opn :: G => sigs G
  | .sig _ :: G => sigs G + 1
def opns : List Sy -> Nat
  | [] => 0
  | .opn :: G => opns G + 1
  | .sig _ :: G => opns G
def join (k : Nat) : List Sy -> List Tr -> List Tr × List Sy
  | .sig s :: G, b :: a :: S => if k <= bnd s then join k G (.op s a b :: S) else (b :: a :: S, .sig s :: G)
  | G, S => (S, G)
theorem join_opn (k : Nat) (G : List Sy) (S : List Tr) : join k (.opn :: G) S = (S, .opn :: G) := by unfold join; rfl
theorem join_nil (k : Nat) (S : List Tr) : join k [] S = (S, []) := by unfold join; rfl
theorem join_sig (k : Nat) (s : Sg) (G : List Sy) (a b : Tr) (S : List Tr) : join k (.sig s :: G) (b :: a :: S) = if k <= bnd s then join k G (.op s a b :: S) else (b :: a :: S, .sig s :: G) := by rw [join]
theorem join_wf (k : Nat) : ∀ (G : List Sy) (S : List Tr), sigs G + 1 = S.length -> sigs (join k G S).2 + 1 = (join k G S).1.length /\ (join k G S).2.length <= G.length /\ (join k G S).1.length <= S.length /\ opns (join k G S).2 = opns G
  | [], S, h => by rw [join_nil]; exact ⟨h, xad _, xad _, rfl⟩
  | .opn :: G, S, h => by rw [join_opn]; exact ⟨h, xad _, xad _, rfl⟩
  | .sig s :: G, [], h => by simp [sigs] at h
  | .sig s :: G, [a], h => by simp [sigs] at h
  | .sig s :: G, b :: a :: S, h => by
    rw [join_sig]
    by_cases hk : k <= bnd s
    · rw [xav hk]
      have := join_wf k G (.op s a b :: S) (by simp [sigs] at h ⊢; omega)
      simp only [xa0] at this ⊢
      exact ⟨this.1, by omega, by omega, this.2.2.2⟩
    · rw [xap hk]; exact ⟨h, xad _, xad _, rfl⟩
theorem hpop_ok {i j : Nat} {O : DSt} {xs : List D} {d : D} (h : lstAt O i = .ok (xs ++ [d])) : hPop i j O = .ok ((O.set i (some (.lst xs))).set j (some d)) := by
  show (lstAt O i).bind _ = _
  rw [h]
  show (match (xs ++ [d])[(xs ++ [d]).length - 1]? with
    | some d' => R.ok ((O.set i (some (.lst (xs ++ [d]).dropLast))).set j (some d'))
    | none => .bad) = _
  have e : (xs ++ [d])[(xs ++ [d]).length - 1]? = some d := by simp
  rw [e, xbv]
theorem tab_ok (y : Sy) : gTab k_BINDS (.str y.str) = .ok (.int (y.b : Int)) := by
  cases y with
  | opn => rfl
  | sig s => cases s <;> rfl
theorem join_loop (k : Nat) : ∀ (G : List Sy) (S : List Tr) (z3 z4 : Option D), 1 <= k -> sigs G + 1 = S.length -> G.length <= 100000 -> S.length <= 100000 ->
    ∃ z3' z4', sWhile b_join_sides_0c (nxO b_join_sides_0w) [some (.lst (sD S)), some (.lst (gD G)), some (.int (k : Int)), z3, z4] = .ok (.nx [some (.lst (sD (join k G S).1)), some (.lst (gD (join k G S).2)), some (.int (k : Int)), z3', z4'])
  | [], S, z3, z4, hk, h, hG, hS => by
    refine ⟨z3, z4, ?_⟩
    rw [sWhile_f (by unfold b_join_sides_0c; kd_p; rfl), join_nil]
  | y :: G, S, z3, z4, hk, h, hG, hS => by
    have hc : b_join_sides_0c [some (.lst (sD S)), some (.lst (gD (y :: G))), some (.int (k : Int)), z3, z4] = .ok (decide ((k : Int) <= (y.b : Int))) := by
      unfold b_join_sides_0c; kd_p
      rw [xah (by rw [gD_len]; simp)]; kd_p
      rw [gD_cons, gIx_last]; kd_p
      rw [tab_ok]; kd_p
    cases y with
    | opn =>
      refine ⟨z3, z4, ?_⟩
      rw [xat (by show ¬ (k : Int) <= ((0 : Nat) : Int); omega)] at hc
      rw [sWhile_f hc, join_opn]
    | sig s =>
      match S, h with
      | [], h => simp [sigs] at h
      | [a], h => simp [sigs] at h
      | b :: a :: S, h =>
        rw [join_sig]
        by_cases hks : k <= bnd s
        · rw [xah (by show (k : Int) <= ((bnd s : Nat) : Int); omega)] at hc
          rw [xav hks]
          obtain ⟨z3', z4', e⟩ := join_loop k G (.op s a b :: S) (some b.d) (some a.d) hk (by simp [sigs] at h ⊢; omega) (by simp at hG; omega) (by simp at hS ⊢; omega)
          refine ⟨z3', z4', ?_⟩
          rw [sWhile_t hc (O' := [some (.lst (sD (.op s a b :: S))), some (.lst (gD G)), some (.int (k : Int)), some b.d, some a.d]) ?_, e]
          unfold nxO b_join_sides_0w b_join_sides_0w_1 b_join_sides_0w_2 kSeq
          rw [hpop_ok (xs := sD (a :: S)) (d := b.d) (by rw [sD_cons b]; rfl)]
          show R.bind (R.bind (hPop 0 4 [some (.lst (sD (a :: S))), some (.lst (gD (.sig s :: G))), some (.int (k : Int)), some b.d, z4]) _) _ = _
          rw [hpop_ok (xs := sD S) (d := a.d) (by rw [sD_cons a]; rfl)]
          show R.bind (hAppPop [0, 1] 0 1 (eVar 4) (eVar 3) [some (.lst (sD S)), some (.lst (gD (.sig s :: G))), some (.int (k : Int)), some b.d, some a.d]) _ = _
          have ha : hAppPop [0, 1] 0 1 (eVar 4) (eVar 3) [some (.lst (sD S)), some (.lst (gD (.sig s :: G))), some (.int (k : Int)), some b.d, some a.d] = .ok [some (.lst (sD (.op s a b :: S))), some (.lst (gD G)), some (.int (k : Int)), some b.d, some a.d] := by
            unfold hAppPop
            rw [show lstAt [some (.lst (sD S)), some (.lst (gD (.sig s :: G))), some (.int (k : Int)), some b.d, some a.d] 0 = .ok (sD S) from rfl, show lstAt [some (.lst (sD S)), some (.lst (gD (.sig s :: G))), some (.int (k : Int)), some b.d, some a.d] 1 = .ok (gD (.sig s :: G)) from rfl, R.ok_bind, R.ok_bind]
            rw [gD_cons]
            have e2 : (gD G ++ [D.str (Sy.sig s).str])[(gD G ++ [D.str (Sy.sig s).str]).length - 1]? = some (.str (Sy.sig s).str) := by simp
            simp only [e2]
            show (bif most (sD S).length && decide ((0 : Nat) ≠ 1) then R.ok [some (D.lst (sD S ++ [.tup [.str s.str, a.d, b.d]])), some (.lst (gD G ++ [D.str (Sy.sig s).str]).dropLast), some (.int (k : Int)), some b.d, some a.d] else .bad) = _
            rw [most_of (by rw [sD_len]; simp at hS; omega), xbv, sD_cons]; rfl
          rw [ha]; rfl
        · rw [xat (by show ¬ (k : Int) <= ((bnd s : Nat) : Int); omega)] at hc
          rw [xap hks]
          exact ⟨z3, z4, sWhile_f hc⟩
theorem join_ok (k : Nat) (G : List Sy) (S : List Tr) (hk : 1 <= k) (h : sigs G + 1 = S.length) (hG : G.length <= 100000) (hS : S.length <= 100000) : ∃ τ, m_join_sides [.lst (sD S), .lst (gD G), .int (k : Int)] = .ok τ /\ lstAt τ 0 = .ok (sD (join k G S).1) /\ lstAt τ 1 = .ok (gD (join k G S).2) := by
  obtain ⟨z3, z4, e⟩ := join_loop k G S none none hk h hG hS
  rw [m_join_sides_go]; unfold b_join_sides hWhile
  rw [e]
  exact ⟨_, rfl, rfl, rfl⟩
end LmWk
open L2 DL Mir
namespace LmWl
open LmA LmY LmWa LmWb LmWc LmWd LmWf LmWg LmWh LmWj LmWk TxtA
theorem lo (l : List Nat) : (ofL l).length = l.length := by simp [ofL, Str.length]
theorem call_join {own : List Nat} {i j : Nat} {fe : DSt -> R D} {O : DSt} {S : List Tr} {G : List Sy} {k : Nat} (h1 : lstAt O i = .ok (sD S)) (h2 : lstAt O j = .ok (gD G)) (h3 : fe (mask own O) = .ok (.int (k : Int))) (hk : 1 <= k) (h : sigs G + 1 = S.length) (hG : G.length <= 100000) (hS : S.length <= 100000) :
    callOOE own i j m_join_sides fe O = .ok ((O.set i (some (.lst (sD (join k G S).1)))).set j (some (.lst (gD (join k G S).2)))) := by
  obtain ⟨τ, e1, e2, e3⟩ := join_ok k G S hk h hG hS
  unfold callOOE
  rw [h1, R.ok_bind, h2, R.ok_bind, h3, R.ok_bind, e1, R.ok_bind, e2, R.ok_bind, e3]; rfl
def closes : Nat -> List Tr × List Sy -> Option (List Tr × List Sy)
  | 0, p => some p
  | n + 1, p => match join 1 p.2 p.1 with
    | (S, .opn :: G) => closes n (S, G)
    | _ => none
theorem hpopE_ok {i : Nat} {O : DSt} {xs : List D} {d : D} (h : lstAt O i = .ok (xs ++ [d])) : hPopE i O = .ok (O.set i (some (.lst xs))) := by
  show (lstAt O i).bind _ = _
  rw [h]
  show (match (xs ++ [d])[(xs ++ [d]).length - 1]? with
    | some d' => R.ok (O.set i (some (.lst (xs ++ [d]).dropLast)))
    | none => .bad) = _
  have e : (xs ++ [d])[(xs ++ [d]).length - 1]? = some d := by simp
  rw [e, xbv]
theorem closes_loop (w b c : Option D) : ∀ (ds : List D) (S : List Tr) (G : List Sy) (z : Option D) (S' : List Tr) (G' : List Sy), sigs G + 1 = S.length -> G.length <= 100000 -> S.length <= 100000 -> closes ds.length (S, G) = some (S', G') ->
    ∃ z', kForL 5 b_read_side_5f ds [w, some (.lst (sD S)), some (.lst (gD G)), b, c, z] = .ok [w, some (.lst (sD S')), some (.lst (gD G')), b, c, z']
  | [], S, G, z, S', G', _, _, _, h => by
    cases h
    exact ⟨z, rfl⟩
  | d :: ds, S, G, z, S', G', hw, hG, hS, h => by
    obtain ⟨j1, j2, j3, j4⟩ := join_wf 1 G S hw
    rw [xa0, closes] at h
    cases hj : join 1 G S with
    | mk S1 G1 =>
      rw [hj] at j1 j2 j3
      simp only [hj] at h
      match G1, h with
      | [], h => cases h
      | .sig _ :: _, h => cases h
      | .opn :: G2, h =>
        have h : closes ds.length (S1, G2) = some (S', G') := h
        obtain ⟨z', e⟩ := closes_loop w b c ds S1 G2 (some d) S' G' j1 (by simp at j2; omega) (by have : S1.length <= S.length := j3; omega) h
        refine ⟨z', ?_⟩
        show (b_read_side_5f [w, some (.lst (sD S)), some (.lst (gD G)), b, c, some d]).bind (kForL 5 b_read_side_5f ds) = _
        have hb : b_read_side_5f [w, some (.lst (sD S)), some (.lst (gD G)), b, c, some d] = .ok [w, some (.lst (sD S1)), some (.lst (gD G2)), b, c, some d] := by
          unfold b_read_side_5f b_read_side_5f_1 b_read_side_5f_2 kSeq
          rw [call_join (S := S) (G := G) (k := 1) rfl rfl rfl (by decide) hw hG hS, R.ok_bind, hj]
          show R.bind (kIf _ b_read_side_5f_1t kNext [w, some (.lst (sD S1)), some (.lst (gD (.opn :: G2))), b, c, some d]) _ = _
          have hc : eTest (eOp gEq (eBlt gLen (aCons (eVar 2) aNil)) (eC (.int 0))) [w, some (.lst (sD S1)), some (.lst (gD (.opn :: G2))), b, c, some d] = .ok false := by
            kd_p
            rw [xat (by rw [gD_len]; simp; omega)]
          unfold kIf
          rw [hc]
          show hPopE 2 [w, some (.lst (sD S1)), some (.lst (gD (.opn :: G2))), b, c, some d] = _
          rw [hpopE_ok (xs := gD G2) (d := .str Sy.opn.str) (by rw [gD_cons]; rfl)]; rfl
        rw [hb]
        exact e
theorem gD_rep (o : Nat) (G : List Sy) : gD G ++ List.replicate o (.str "(") = gD (List.replicate o .opn ++ G) := by
  unfold gD
  rw [List.reverse_append, xbb, List.reverse_replicate, List.map_replicate]; rfl
theorem strs_g (G : List Sy) : strsOf (gD G) = some (G.reverse.map Sy.str) := by
  unfold gD
  have := strs_map (G.reverse.map Sy.str)
  rw [xb4] at this
  exact this
theorem opns_app : ∀ (A B : List Sy), opns (A ++ B) = opns A + opns B
  | [], B => by simp [opns]
  | .opn :: A, B => by show opns (A ++ B) + 1 = opns A + 1 + opns B; rw [opns_app A B]; omega
  | .sig _ :: A, B => by show opns (A ++ B) = opns A + opns B; exact opns_app A B
theorem opns_rev : ∀ (A : List Sy), opns A.reverse = opns A
  | [] => rfl
  | .opn :: A => by rw [List.reverse_cons, opns_app, opns_rev A]; simp [opns]
  | .sig _ :: A => by rw [List.reverse_cons, opns_app, opns_rev A]; simp [opns]
theorem opns_rep (o : Nat) (G : List Sy) : opns (List.replicate o .opn ++ G) = o + opns G := by
  induction o with
  | zero => simp
  | succ o ih => rw [xa9, xb6]; show opns (List.replicate o .opn ++ G) + 1 = _; rw [ih]; omega
theorem sigs_rep (o : Nat) (G : List Sy) : sigs (List.replicate o .opn ++ G) = sigs G := by
  induction o with
  | zero => simp
  | succ o ih => rw [xa9, xb6]; exact ih
theorem count_g : ∀ (A : List Sy), Spec.countIn (PyData.str "(") ((A.map Sy.str).map PyData.str) = (opns A : Int)
  | [] => rfl
  | .opn :: A => by
    rw [xbe, xbe, Spec.countIn.eq_2, count_g A, show Spec.same (PyData.str (Sy.opn).str) (PyData.str "(") = true from by decide +kernel, xav rfl]
    show (1 : Int) + _ = ((opns A + 1 : Nat) : Int)
    omega
  | .sig s :: A => by
    rw [xbe, xbe, Spec.countIn.eq_2, count_g A, show Spec.same (PyData.str (Sy.sig s).str) (PyData.str "(") = false from by cases s <;> decide +kernel, xap (by simp)]
    show (0 : Int) + _ = (opns A : Int)
    omega
def wrd (o : Nat) (t : Tr) (c : Nat) : List Nat := List.replicate o 40 ++ (atm t ++ List.replicate c 41)
section
variable {o c : Nat} {t : Tr} (hl : Tr.leaf t = true) (hg : Good t) (ho : o <= 1000) (hc : c <= 1000)
include hl hg ho hc
theorem wrd_l : Txt.lstripChars (ofL (wrd o t c)) "(" = ofL (atm t ++ List.replicate c 41) := by
  obtain ⟨h1, h2, h3⟩ := atm_ok hl hg
  refine lstrip_ok o _ fun x hx => ?_
  obtain ⟨a, as, ha⟩ := xb9 h1
  rw [ha] at hx h3
  have : x = a := by simpa using hx.symm
  rw [this]
  exact (h3 a (by simp)).1
theorem wrd_r : Txt.rstripChars (ofL (atm t ++ List.replicate c 41)) ")" = ofL (atm t) := by
  obtain ⟨h1, h2, h3⟩ := atm_ok hl hg
  refine rstrip_ok c _ fun x hx => ?_
  exact (h3 x (List.mem_of_getLast? hx)).2.1
theorem side_start (S : List Tr) (G : List Sy) (hG : G.length <= 1000) :
    m_read_side [.str (ofL (wrd o t c)), .lst (sD S), .lst (gD G)] = b_read_side_2 [some (.str (ofL (wrd o t c))), some (.lst (sD S)), some (.lst (gD (List.replicate o .opn ++ G))), some (.str (ofL (atm t ++ List.replicate c 41))), none, none] := by
  obtain ⟨h1, h2, h3⟩ := atm_ok hl hg
  have lw : (wrd o t c).length = o + ((atm t).length + c) := by unfold wrd; simp
  rw [m_read_side_go]; unfold b_read_side b_read_side_1 kSeq
  have e1 : hSet [1, 2] 3 (eLstrip (eVar 0) (eC (.str "("))) [some (.str (ofL (wrd o t c))), some (.lst (sD S)), some (.lst (gD G)), none, none, none] = .ok [some (.str (ofL (wrd o t c))), some (.lst (sD S)), some (.lst (gD G)), some (.str (ofL (atm t ++ List.replicate c 41))), none, none] := by
    show R.bind (bif le24 (ofL (wrd o t c)).length then R.ok (D.str (Txt.lstripChars (ofL (wrd o t c)) "(")) else .bad) _ = _
    rw [show le24 (ofL (wrd o t c)).length = true from xah (by rw [lo, lw]; exact xax (show _ <= 3000 by omega) (by decide)), wrd_l hl hg ho hc]; rfl
  rw [e1, R.ok_bind]
  have e2 : hExt [1, 2] 2 (vLst (eRep (eLst (aCons (eC (.str "(")) aNil)) (eOp gSub (eBlt gLen (aCons (eVar 0) aNil)) (eBlt gLen (aCons (eVar 3) aNil))))) [some (.str (ofL (wrd o t c))), some (.lst (sD S)), some (.lst (gD G)), some (.str (ofL (atm t ++ List.replicate c 41))), none, none] = .ok [some (.str (ofL (wrd o t c))), some (.lst (sD S)), some (.lst (gD (List.replicate o .opn ++ G))), some (.str (ofL (atm t ++ List.replicate c 41))), none, none] := by
    have er : vLst (eRep (eLst (aCons (eC (.str "(")) aNil)) (eOp gSub (eBlt gLen (aCons (eVar 0) aNil)) (eBlt gLen (aCons (eVar 3) aNil)))) [some (.str (ofL (wrd o t c))), none, none, some (.str (ofL (atm t ++ List.replicate c 41))), none, none] = .ok (.lst (List.replicate o (.str "("))) := by
      have en : eOp gSub (eBlt gLen (aCons (eVar 0) aNil)) (eBlt gLen (aCons (eVar 3) aNil)) [some (.str (ofL (wrd o t c))), none, none, some (.str (ofL (atm t ++ List.replicate c 41))), none, none] = .ok (.int (o : Int)) := by
        kd_p
        have gl : ∀ l : List Nat, l.length <= 3000 -> gLen [.str (ofL l)] = .ok (.int (l.length : Int)) := fun l h => by
          show (bif le24 (ofL l).length then _ else _) = _
          rw [show le24 (ofL l).length = true from xah (by rw [lo]; exact xax h (by decide))]
          show R.ok (D.int ((ofL l).length : Int)) = _
          rw [lo]
        rw [gl _ (by rw [lw]; omega), gl _ (by simp; omega)]; kd_p
        rw [lw, xar, xba]
        congr 2
        omega
      show R.bind (R.bind (eOp gSub (eBlt gLen (aCons (eVar 0) aNil)) (eBlt gLen (aCons (eVar 3) aNil)) [some (.str (ofL (wrd o t c))), none, none, some (.str (ofL (atm t ++ List.replicate c 41))), none, none]) fun d => repD [.str "("] d) _ = _
      rw [en]
      show R.bind (bif decide (0 <= (o : Int) /\ (o : Int) <= 1000) && le24 (1 * (o : Int).toNat) then R.ok (List.replicate (o : Int).toNat [D.str "("]).flatten else .bad) _ = _
      rw [xah (by omega), show le24 (1 * (o : Int).toNat) = true from xah (by exact xax (show _ <= 1000 by omega) (by decide)), xbs]
      show R.ok (D.lst (List.replicate o [D.str "("]).flatten) = _
      rw [List.flatten_replicate_singleton]
    show R.bind (vLst (eRep (eLst (aCons (eC (.str "(")) aNil)) (eOp gSub (eBlt gLen (aCons (eVar 0) aNil)) (eBlt gLen (aCons (eVar 3) aNil)))) [some (.str (ofL (wrd o t c))), none, none, some (.str (ofL (atm t ++ List.replicate c 41))), none, none]) _ = _
    rw [er]
    show (bif le24 ((gD G).length + (List.replicate o (D.str "(")).length) then R.ok _ else .bad) = _
    rw [show le24 ((gD G).length + (List.replicate o (D.str "(")).length) = true from xah (by rw [gD_len, xba]; exact xax (show _ <= 2000 by omega) (by decide)), <- gD_rep]; rfl
  rw [e2, R.ok_bind]
end
end LmWl
open L2 DL Mir
namespace LmWm
open LmA LmY LmWa LmWb LmWc LmWd LmWf LmWg LmWh LmWj LmWk LmWl TxtA
abbrev nt : D := .exc "NoText" []
section
variable {o c : Nat} {t : Tr} (hl : Tr.leaf t = true) (hg : Good t) (ho : o <= 1000) (hc : c <= 1000) {S : List Tr} {G : List Sy} (hG : G.length <= 1000) (hS : S.length <= 1000)
include hl hg ho hc hG
theorem count_ok (w b z4 z5 : Option D) (A : List Sy) (S : List Tr) : eTest (eOp gGt (eCount (eVar 2) (eC (.str "("))) (eC k_MOST_DEEP)) [w, some (.lst (sD S)), some (.lst (gD A)), b, z4, z5] = .ok (decide (8 < (opns A : Int))) := by
  kd_p
  have ec : eCount (eVar 2) (eC (.str "(")) [w, some (.lst (sD S)), some (.lst (gD A)), b, z4, z5] = .ok (.int (opns A : Int)) := by
    show countD (.lst (gD A)) (.str "(") = _
    unfold countD
    simp only [strs_g]
    rw [count_g, opns_rev]
  rw [ec, show k_MOST_DEEP = .int 8 from rfl]; kd_p
theorem side_err (h : 8 < opns G + o) : m_read_side [.str (ofL (wrd o t c)), .lst (sD S), .lst (gD G)] = .err nt := by
  rw [side_start hl hg ho hc S G hG]
  unfold b_read_side_2 b_read_side_2t kSeq kIf
  rw [count_ok hl hg ho hc hG, opns_rep, xah (by omega)]; rfl
include hS in
theorem side_ok (h : opns G + o <= 8) (hw : sigs G = S.length) {S' : List Tr} {G' : List Sy} (hcl : closes c (t :: S, List.replicate o .opn ++ G) = some (S', G')) :
    ∃ τ, m_read_side [.str (ofL (wrd o t c)), .lst (sD S), .lst (gD G)] = .ok τ /\ lstAt τ 1 = .ok (sD S') /\ lstAt τ 2 = .ok (gD G') := by
  obtain ⟨h1, h2, h3⟩ := atm_ok hl hg
  rw [side_start hl hg ho hc S G hG]
  unfold b_read_side_2 kSeq kIf
  rw [count_ok hl hg ho hc hG, opns_rep, xat (by omega)]
  show ∃ τ, b_read_side_3 [some (.str (ofL (wrd o t c))), some (.lst (sD S)), some (.lst (gD (List.replicate o .opn ++ G))), some (.str (ofL (atm t ++ List.replicate c 41))), none, none] = .ok τ /\ _
  unfold b_read_side_3 b_read_side_4 b_read_side_5 kSeq
  have e1 : hSet [1, 2] 4 (eRstrip (eVar 3) (eC (.str ")"))) [some (.str (ofL (wrd o t c))), some (.lst (sD S)), some (.lst (gD (List.replicate o .opn ++ G))), some (.str (ofL (atm t ++ List.replicate c 41))), none, none] = .ok [some (.str (ofL (wrd o t c))), some (.lst (sD S)), some (.lst (gD (List.replicate o .opn ++ G))), some (.str (ofL (atm t ++ List.replicate c 41))), some (.str (ofL (atm t))), none] := by
    show R.bind (bif le24 (ofL (atm t ++ List.replicate c 41)).length then R.ok (D.str (Txt.rstripChars (ofL (atm t ++ List.replicate c 41)) ")")) else .bad) _ = _
    rw [show le24 (ofL (atm t ++ List.replicate c 41)).length = true from xah (by rw [lo]; simp only [xar, xba]; exact xax (show _ <= 3000 by omega) (by decide)), wrd_r hl hg ho hc]; rfl
  rw [e1, R.ok_bind]
  have e2 : hApp [1, 2] 1 (eCall m_read_core (aCons (eVar 4) aNil)) [some (.str (ofL (wrd o t c))), some (.lst (sD S)), some (.lst (gD (List.replicate o .opn ++ G))), some (.str (ofL (atm t ++ List.replicate c 41))), some (.str (ofL (atm t))), none] = .ok [some (.str (ofL (wrd o t c))), some (.lst (sD (t :: S))), some (.lst (gD (List.replicate o .opn ++ G))), some (.str (ofL (atm t ++ List.replicate c 41))), some (.str (ofL (atm t))), none] := by
    show R.bind (m_read_core [.str (ofL (atm t))]) _ = _
    rw [core_ok hl hg]
    show (bif most (sD S).length then R.ok _ else .bad) = _
    rw [most_of (by rw [sD_len]; omega), sD_cons]; rfl
  rw [e2, R.ok_bind]
  have e3 : iArgs rng1 (aCons (eOp gSub (eBlt gLen (aCons (eVar 3) aNil)) (eBlt gLen (aCons (eVar 4) aNil))) aNil) [some (.str (ofL (wrd o t c))), none, none, some (.str (ofL (atm t ++ List.replicate c 41))), some (.str (ofL (atm t))), none] = .ok (rngD 0 c) := by
    have gl : ∀ l : List Nat, l.length <= 3000 -> gLen [.str (ofL l)] = .ok (.int (l.length : Int)) := fun l h => by
      show (bif le24 (ofL l).length then _ else _) = _
      rw [show le24 (ofL l).length = true from xah (by rw [lo]; exact xax h (by decide))]
      show R.ok (D.int ((ofL l).length : Int)) = _
      rw [lo]
    kd_p
    rw [gl _ (by simp; omega), gl _ (by omega)]; kd_p
    rw [xar, xba, rng1_i _ (rOk_of (by omega) (by omega))]
    congr 2
    omega
  show ∃ τ, R.bind (iArgs rng1 (aCons (eOp gSub (eBlt gLen (aCons (eVar 3) aNil)) (eBlt gLen (aCons (eVar 4) aNil))) aNil) [some (.str (ofL (wrd o t c))), none, none, some (.str (ofL (atm t ++ List.replicate c 41))), some (.str (ofL (atm t))), none]) (fun ds => kForL 5 b_read_side_5f ds [some (.str (ofL (wrd o t c))), some (.lst (sD (t :: S))), some (.lst (gD (List.replicate o .opn ++ G))), some (.str (ofL (atm t ++ List.replicate c 41))), some (.str (ofL (atm t))), none]) = .ok τ /\ _
  rw [e3, R.ok_bind]
  obtain ⟨z, e4⟩ := closes_loop (some (.str (ofL (wrd o t c)))) (some (.str (ofL (atm t ++ List.replicate c 41)))) (some (.str (ofL (atm t)))) (rngD 0 c) (t :: S) (List.replicate o .opn ++ G) none S' G' (by rw [sigs_rep, hw]; rfl) (by simp; omega) (by simp; omega) (by rw [show (rngD 0 c).length = c by simp [rngD]]; exact hcl)
  rw [e4]
  exact ⟨_, rfl, rfl, rfl⟩
end
theorem sign_ok (s : Sg) {S : List Tr} {G : List Sy} (hG : G.length <= 1000) (hS : S.length <= 1000) (hw : sigs G + 1 = S.length) :
    ∃ τ, m_read_sign [.str s.str, .lst (sD S), .lst (gD G)] = .ok τ /\ lstAt τ 1 = .ok (sD (join (bnd s) G S).1) /\ lstAt τ 2 = .ok (gD (.sig s :: (join (bnd s) G S).2)) := by
  obtain ⟨j1, j2, j3, j4⟩ := join_wf (bnd s) G S hw
  have hb : 1 <= bnd s := by cases s <;> decide
  rw [m_read_sign_go]; unfold b_read_sign b_read_sign_1 b_read_sign_2 kSeq kIf
  rw [show eTest (eOp gNin (eVar 0) (eC k_SIGNS)) [some (.str s.str), some (.lst (sD S)), some (.lst (gD G))] = .ok false from by cases s <;> rfl]
  show ∃ τ, R.bind (callOOE [1, 2] 1 2 m_join_sides (eUn (gTab k_BINDS) (eVar 0)) [some (.str s.str), some (.lst (sD S)), some (.lst (gD G))]) (hApp [1, 2] 2 (eVar 0)) = .ok τ /\ _
  rw [call_join (S := S) (G := G) (k := bnd s) rfl rfl (tab_ok (.sig s)) hb hw (by omega) (by omega), R.ok_bind]
  show ∃ τ, (bif most (gD (join (bnd s) G S).2).length then R.ok [some (.str s.str), some (D.lst (sD (join (bnd s) G S).1)), some (D.lst (gD (join (bnd s) G S).2 ++ [.str s.str]))] else .bad) = .ok τ /\ _
  rw [most_of (by rw [gD_len]; omega), gD_cons]
  exact ⟨_, rfl, rfl, rfl⟩
end LmWm
open L2 DL Mir
namespace LmWn
open LmWb LmWf LmWj LmWk LmWl LmWm
inductive Itm where | side (o : Nat) (t : Tr) (c : Nat) | sign (s : Sg)
abbrev Sk2 := List Tr × List Sy
def step : Itm -> Sk2 -> R Sk2
  | .side o t c, p => if 8 < opns p.2 + o then .err nt else match closes c (t :: p.1, List.replicate o .opn ++ p.2) with
    | some q => .ok q
    | none => .bad
  | .sign s, p => .ok ((join (bnd s) p.2 p.1).1, .sig s :: (join (bnd s) p.2 p.1).2)
def run : List Itm -> Sk2 -> R Sk2
  | [], p => .ok p
  | i :: is, p => (step i p).bind (run is)
theorem run_app : ∀ (A B : List Itm) (p : Sk2), run (A ++ B) p = (run A p).bind (run B)
  | [], _, _ => rfl
  | i :: A, B, p => by
    show (step i p).bind (run (A ++ B)) = ((step i p).bind (run A)).bind (run B)
    cases step i p with
    | ok q => exact run_app A B q
    | err e => rfl
    | bad => rfl
def opF : List Itm -> List Itm
  | .side o t c :: is => .side (o + 1) t c :: is
  | is => is
def clL : List Itm -> List Itm
  | [] => []
  | [.side o t c] => [.side o t (c + 1)]
  | [.sign s] => [.sign s]
  | i :: j :: is => i :: clL (j :: is)
def alt (N : Nat) : Bool -> List Itm -> Prop
  | true, .side o t c :: is => Tr.leaf t = true /\ Good t /\ o <= N /\ c <= N /\ alt N false is
  | false, .sign _ :: is => alt N true is
  | false, [] => True
  | _, _ => False
theorem alt_mono {M N : Nat} (h : M <= N) : ∀ {b : Bool} {is : List Itm}, alt M b is -> alt N b is
  | true, .side o t c :: is, ⟨h1, h2, h3, h4, h5⟩ => ⟨h1, h2, by omega, by omega, alt_mono h h5⟩
  | false, .sign _ :: is, h' => alt_mono (b := true) (is := is) h h'
  | false, [], _ => trivial
  | true, [], h' => h'
  | true, .sign _ :: _, h' => h'
  | false, .side _ _ _ :: _, h' => h'
theorem alt_app {N : Nat} {s : Sg} {B : List Itm} (hB : alt N true B) : ∀ {b : Bool} {A : List Itm}, alt N b A -> alt N b (A ++ .sign s :: B)
  | true, .side o t c :: is, ⟨h1, h2, h3, h4, h5⟩ => ⟨h1, h2, h3, h4, alt_app hB h5⟩
  | false, .sign _ :: is, h' => alt_app (b := true) (A := is) hB h'
  | false, [], _ => hB
  | true, [], h' => h'.elim
  | true, .sign _ :: _, h' => h'.elim
  | false, .side _ _ _ :: _, h' => h'.elim
theorem alt_opF {N : Nat} {is : List Itm} (h : alt N true is) : alt (N + 1) true (opF is) := by
  match is, h with
  | .side o t c :: is, ⟨h1, h2, h3, h4, h5⟩ => exact ⟨h1, h2, by omega, by omega, alt_mono (by omega) h5⟩
  | [], h => exact h.elim
  | .sign _ :: _, h => exact h.elim
theorem alt_clL {N : Nat} : ∀ {b : Bool} {is : List Itm}, alt N b is -> alt (N + 1) b (clL is)
  | true, [.side o t c], ⟨h1, h2, h3, h4, h5⟩ => ⟨h1, h2, by omega, by omega, trivial⟩
  | true, .side o t c :: j :: is, ⟨h1, h2, h3, h4, h5⟩ => ⟨h1, h2, by omega, by omega, alt_clL (b := false) (is := j :: is) h5⟩
  | false, [], _ => trivial
  | false, [.sign s], h => h.elim
  | false, .sign s :: j :: is, h => alt_clL (b := true) (is := j :: is) h
  | true, [], h => h.elim
  | true, .sign _ :: _, h => h.elim
  | false, .side _ _ _ :: _, h => h.elim
theorem closes_succ : ∀ (n : Nat) (p : Sk2), closes (n + 1) p = (closes n p).bind (closes 1)
  | 0, p => rfl
  | n + 1, p => by
    rw [closes]
    conv => rhs; rw [closes]
    cases hj : join 1 p.2 p.1 with
    | mk S G =>
      match G with
      | [] => rfl
      | .sig _ :: _ => rfl
      | .opn :: G => exact closes_succ n (S, G)
def close1 (p : Sk2) : R Sk2 := match closes 1 p with
  | some q => .ok q
  | none => .bad
theorem run_opF {N : Nat} {is : List Itm} (h : alt N true is) (S : List Tr) (G : List Sy) : run (opF is) (S, G) = run is (S, .opn :: G) := by
  match is, h with
  | .side o t c :: is, _ =>
    show (step (.side (o + 1) t c) (S, G)).bind (run is) = (step (.side o t c) (S, .opn :: G)).bind (run is)
    congr 1
    unfold step
    have e1 : opns G + (o + 1) = opns (.opn :: G) + o := by show opns G + (o + 1) = opns G + 1 + o; omega
    have e2 : List.replicate (o + 1) Sy.opn ++ G = List.replicate o .opn ++ (.opn :: G) := by rw [List.replicate_succ', xa7]; rfl
    simp only [e1, e2]
  | [], h => exact h.elim
  | .sign _ :: _, h => exact h.elim
theorem run_clL {N : Nat} : ∀ {b : Bool} {is : List Itm}, alt N b is -> is ≠ [] -> ∀ p : Sk2, run (clL is) p = (run is p).bind close1
  | true, [.side o t c], _, _, p => by
    show (step (.side o t (c + 1)) p).bind (run []) = ((step (.side o t c) p).bind (run [])).bind close1
    unfold step
    by_cases h : 8 < opns p.2 + o
    · simp only [h, if_true]; rfl
    · simp only [h, if_false]
      rw [closes_succ]
      cases closes c (t :: p.1, List.replicate o .opn ++ p.2) with
      | none => rfl
      | some q =>
        show (match closes 1 q with | some r => R.ok r | none => R.bad).bind (run []) = close1 q
        unfold close1
        cases closes 1 q <;> rfl
  | true, .side o t c :: j :: is, h, _, p => by
    show (step (.side o t c) p).bind (run (clL (j :: is))) = ((step (.side o t c) p).bind (run (j :: is))).bind close1
    cases step (.side o t c) p with
    | ok q => exact run_clL (b := false) h.2.2.2.2 nofun q
    | err e => rfl
    | bad => rfl
  | false, [.sign s], h, _, _ => h.elim
  | false, .sign s :: j :: is, h, _, p => by
    show (step (.sign s) p).bind (run (clL (j :: is))) = ((step (.sign s) p).bind (run (j :: is))).bind close1
    exact run_clL (b := true) (is := j :: is) h nofun _
  | false, [], _, hn, _ => xag rfl hn
  | true, [], h, _, _ => h.elim
  | true, .sign _ :: _, h, _, _ => h.elim
  | false, .side _ _ _ :: _, h, _, _ => h.elim
def items : Tr -> Nat -> List Itm
  | .nm x, _ => [.side 0 (.nm x) 0]
  | .nb i, _ => [.side 0 (.nb i) 0]
  | .op s a b, l => if bnd s < l then opF (clL (items a (bnd s) ++ .sign s :: items b (bnd s + 1))) else items a (bnd s) ++ .sign s :: items b (bnd s + 1)
def deepT : Tr -> Nat -> Nat
  | .op s a b, l => max (deepT a (bnd s)) (deepT b (bnd s + 1)) + (if bnd s < l then 1 else 0)
  | _, _ => 0
theorem items_alt : ∀ (t : Tr) (l : Nat), Good t -> alt t.many true (items t l)
  | .nm x, _, h => ⟨rfl, h, by omega, by omega, trivial⟩
  | .nb i, _, h => ⟨rfl, h, by omega, by omega, trivial⟩
  | .op s a b, l, h => by
    have pa := a.pos
    have pb := b.pos
    have ha := items_alt a (bnd s) h.1
    have hb := items_alt b (bnd s + 1) h.2
    have hm : (Tr.op s a b).many = a.many + b.many := rfl
    have body : alt (max a.many b.many) true (items a (bnd s) ++ .sign s :: items b (bnd s + 1)) := alt_app (alt_mono (by omega) hb) (alt_mono (by omega) ha)
    unfold items
    by_cases hl : bnd s < l
    · rw [xav hl]
      have : ∀ {is : List Itm}, alt (max a.many b.many) true is -> alt (max a.many b.many + 1) true (opF (clL is)) := fun {is} h => by
        have hc := alt_clL (b := true) h
        match hcl : clL is, hc with
        | .side o t c :: js, hc =>
          refine ⟨hc.1, hc.2.1, ?_, hc.2.2.2.1, hc.2.2.2.2⟩
          match is, h, hcl with
          | [.side o' t' c'], h, hcl => cases hcl; have := h.2.2.1; omega
          | .side o' t' c' :: j :: is, h, hcl => cases hcl; have := h.2.2.1; omega
          | [], h, _ => exact h.elim
          | .sign _ :: _, h, _ => exact h.elim
        | [], h => exact h.elim
        | .sign _ :: _, h => exact h.elim
      exact alt_mono (by omega) (this body)
    · rw [xap hl]
      exact alt_mono (by omega) body
def Top (G : List Sy) (l : Nat) : Prop := ∀ y ∈ G.head?, y.b < l
theorem join_top {k : Nat} {G : List Sy} (h : Top G k) (S : List Tr) : join k G S = (S, G) := by
  match G, S, h with
  | [], S, _ => exact join_nil k S
  | .opn :: G, S, _ => exact join_opn k G S
  | .sig s :: G, [], _ => unfold join; rfl
  | .sig s :: G, [a], _ => unfold join; rfl
  | .sig s :: G, b :: a :: S, h =>
    rw [join_sig, xap]
    have : bnd s < k := h (.sig s) (by simp)
    omega
def Done (l : Nat) (t : Tr) (S : List Tr) (G : List Sy) (p : Sk2) : Prop := (∀ k, 1 <= k -> k <= l -> join k p.2 p.1 = join k G (t :: S)) /\ sigs p.2 + 1 = p.1.length /\ opns p.2 = opns G
theorem gone : ∀ (t : Tr) (l : Nat) (S : List Tr) (G : List Sy), Good t -> 1 <= l -> Top G l -> sigs G = S.length ->
    (opns G + deepT t l <= 8 -> ∃ p, run (items t l) (S, G) = .ok p /\ Done l t S G p) /\ (8 < opns G + deepT t l -> run (items t l) (S, G) = .err nt)
  | .nm x, l, S, G, hg, hl, ht, hs => by
    refine ⟨fun h => ⟨(.nm x :: S, G), ?_, fun k _ _ => rfl, by show sigs G + 1 = S.length + 1; omega, rfl⟩, fun h => ?_⟩
    · show (if 8 < opns G + 0 then R.err nt else R.ok (.nm x :: S, G)).bind (run []) = _
      rw [xap (by have : opns G + 0 <= 8 := h; omega)]; rfl
    · show (if 8 < opns G + 0 then R.err nt else R.ok (.nm x :: S, G)).bind (run []) = _
      rw [xav (by have : 8 < opns G + 0 := h; omega)]; rfl
  | .nb x, l, S, G, hg, hl, ht, hs => by
    refine ⟨fun h => ⟨(.nb x :: S, G), ?_, fun k _ _ => rfl, by show sigs G + 1 = S.length + 1; omega, rfl⟩, fun h => ?_⟩
    · show (if 8 < opns G + 0 then R.err nt else R.ok (.nb x :: S, G)).bind (run []) = _
      rw [xap (by have : opns G + 0 <= 8 := h; omega)]; rfl
    · show (if 8 < opns G + 0 then R.err nt else R.ok (.nb x :: S, G)).bind (run []) = _
      rw [xav (by have : 8 < opns G + 0 := h; omega)]; rfl
  | .op s a b, l, S, G, hg, hl, ht, hs => by
    have hb1 : 1 <= bnd s := by cases s <;> decide
    have body : ∀ (S : List Tr) (G : List Sy), Top G (bnd s) -> sigs G = S.length ->
        (opns G + max (deepT a (bnd s)) (deepT b (bnd s + 1)) <= 8 -> ∃ p, run (items a (bnd s) ++ .sign s :: items b (bnd s + 1)) (S, G) = .ok p /\ Done (bnd s) (.op s a b) S G p) /\ (8 < opns G + max (deepT a (bnd s)) (deepT b (bnd s + 1)) -> run (items a (bnd s) ++ .sign s :: items b (bnd s + 1)) (S, G) = .err nt) := by
      intro S G ht hs
      obtain ⟨a1, a2⟩ := gone a (bnd s) S G hg.1 hb1 ht hs
      have ht1 : Top (.sig s :: G) (bnd s + 1) := fun y hy => by
        have : y = .sig s := by simpa using hy.symm
        rw [this]; show bnd s < bnd s + 1; omega
      obtain ⟨b1, b2⟩ := gone b (bnd s + 1) (a :: S) (.sig s :: G) hg.2 (by omega) ht1 (by show sigs G + 1 = S.length + 1; omega)
      have ho : opns (.sig s :: G) = opns G := rfl
      rw [ho] at b1 b2
      by_cases ha : opns G + deepT a (bnd s) <= 8
      · obtain ⟨p, e1, d1, d2, d3⟩ := a1 ha
        have hst : step (.sign s) p = .ok (a :: S, .sig s :: G) := by
          show R.ok ((join (bnd s) p.2 p.1).1, .sig s :: (join (bnd s) p.2 p.1).2) = _
          rw [d1 (bnd s) hb1 (xad _), join_top ht]
        have hrun : run (items a (bnd s) ++ .sign s :: items b (bnd s + 1)) (S, G) = run (items b (bnd s + 1)) (a :: S, .sig s :: G) := by
          rw [run_app, e1]
          show (step (.sign s) p).bind (run (items b (bnd s + 1))) = _
          rw [hst]; rfl
        rw [hrun]
        refine ⟨fun h => ?_, fun h => b2 (by omega)⟩
        obtain ⟨q, f1, f2, f3, f4⟩ := b1 (by omega)
        refine ⟨q, f1, fun k hk1 hk2 => ?_, f3, by rw [f4]; rfl⟩
        rw [f2 k hk1 (by omega), join_sig, xav hk2]
      · refine ⟨fun h => by omega, fun _ => ?_⟩
        rw [run_app, a2 (by omega)]; rfl
    unfold items deepT
    by_cases hlb : bnd s < l
    · rw [xav hlb]
      simp only [xav hlb]
      have ai : alt (max a.many b.many) true (items a (bnd s) ++ .sign s :: items b (bnd s + 1)) := alt_app (alt_mono (by omega) (items_alt b _ hg.2)) (alt_mono (by omega) (items_alt a _ hg.1))
      have ne : items a (bnd s) ++ .sign s :: items b (bnd s + 1) ≠ [] := by simp
      rw [run_opF (alt_clL (b := true) ai), run_clL (b := true) ai ne]
      have ht2 : Top (.opn :: G) (bnd s) := fun y hy => by
        have : y = .opn := by simpa using hy.symm
        rw [this]; show 0 < bnd s; omega
      obtain ⟨c1, c2⟩ := body S (.opn :: G) ht2 hs
      have ho : opns (.opn :: G) = opns G + 1 := rfl
      rw [ho] at c1 c2
      refine ⟨fun h => ?_, fun h => by rw [c2 (by omega)]; rfl⟩
      obtain ⟨p, e1, d1, d2, d3⟩ := c1 (by omega)
      refine ⟨(.op s a b :: S, G), ?_, fun k _ _ => rfl, by show sigs G + 1 = S.length + 1; omega, rfl⟩
      rw [e1]
      show close1 p = _
      unfold close1 closes
      rw [d1 1 (xad _) hb1, join_opn]; rfl
    · rw [xap hlb]
      simp only [xap hlb, Nat.add_zero]
      obtain ⟨c1, c2⟩ := body S G (fun y hy => xak (ht y hy) (by omega)) hs
      refine ⟨fun h => ?_, c2⟩
      obtain ⟨p, e1, d1, d2, d3⟩ := c1 h
      exact ⟨p, e1, fun k hk1 hk2 => d1 k hk1 (by omega), d2, d3⟩
end LmWn
open L2 DL Mir
namespace LmWo
open LmA LmY LmWa LmWb LmWc LmWd LmWf LmWg LmWh LmWj LmWk LmWl LmWm LmWn TxtA
def sgC : Sg -> Nat
  | .plus => 43 | .minus => 45 | .times => 42 | .over => 47
theorem sgC_str (s : Sg) : s.str = ofL [sgC s] := by cases s <;> rfl
def word : Itm -> List Nat
  | .side o t c => wrd o t c
  | .sign s => [sgC s]
def txt : Tr -> Nat -> List Nat
  | .op s a b, k => if bnd s < k then 40 :: (flat [32] [txt a (bnd s), [sgC s], txt b (bnd s + 1)] ++ [41]) else flat [32] [txt a (bnd s), [sgC s], txt b (bnd s + 1)]
  | t, _ => atm t
theorem flat_cons (y : List Nat) (r : List Nat) {B : List (List Nat)} (h : B ≠ []) : flat y (r :: B) = r ++ y ++ flat y B := by
  cases B with
  | nil => exact xag rfl h
  | cons b B => rfl
theorem flat_app (y : List Nat) {B : List (List Nat)} (hB : B ≠ []) : ∀ {A : List (List Nat)}, A ≠ [] -> flat y (A ++ B) = flat y A ++ y ++ flat y B
  | [], h => xag rfl h
  | [a], _ => flat_cons y a hB
  | a :: a' :: A, _ => by
    rw [xb6, flat_cons y a (by simp), flat_app y hB (A := a' :: A) (by simp), flat_cons y a (by simp)]
    simp only [xa7]
theorem alt_ne {N : Nat} {is : List Itm} (h : alt N true is) : is ≠ [] := by
  rintro rfl; exact h.elim
theorem flat_opF {N : Nat} {is : List Itm} (h : alt N true is) : flat [32] ((opF is).map word) = 40 :: flat [32] (is.map word) := by
  match is, h with
  | .side o t c :: is, _ =>
    show flat [32] (wrd (o + 1) t c :: is.map word) = 40 :: flat [32] (wrd o t c :: is.map word)
    have e : wrd (o + 1) t c = 40 :: wrd o t c := by unfold wrd; rw [xa9]; rfl
    rw [e]
    cases is <;> rfl
  | [], h => exact h.elim
  | .sign _ :: _, h => exact h.elim
theorem flat_clL {N : Nat} : ∀ {b : Bool} {is : List Itm}, alt N b is -> is ≠ [] -> flat [32] ((clL is).map word) = flat [32] (is.map word) ++ [41]
  | true, [.side o t c], _, _ => by
    show wrd o t (c + 1) = wrd o t c ++ [41]
    unfold wrd
    rw [List.replicate_succ']
    simp only [xa7]
  | true, .side o t c :: j :: is, h, _ => by
    have ih := flat_clL (b := false) (is := j :: is) h.2.2.2.2 nofun
    have hn : clL (j :: is) ≠ [] := fun hz => by rw [hz] at ih; exact xag (congrArg List.length ih) (by simp [TxtA.flat])
    show flat [32] (wrd o t c :: (clL (j :: is)).map word) = flat [32] (wrd o t c :: (j :: is).map word) ++ [41]
    rw [flat_cons _ _ (by simpa using hn), flat_cons _ _ (by simp), ih]
    simp only [xa7]
  | false, .sign s :: j :: is, h, _ => by
    have ih := flat_clL (b := true) (is := j :: is) h nofun
    have hn : clL (j :: is) ≠ [] := fun hz => by rw [hz] at ih; exact xag (congrArg List.length ih) (by simp [TxtA.flat])
    show flat [32] ([sgC s] :: (clL (j :: is)).map word) = flat [32] ([sgC s] :: (j :: is).map word) ++ [41]
    rw [flat_cons _ _ (by simpa using hn), flat_cons _ _ (by simp), ih]
    simp only [xa7]
  | false, [], _, hn => xag rfl hn
  | false, [.sign s], h, _ => h.elim
  | true, [], h, _ => h.elim
  | true, .sign _ :: _, h, _ => h.elim
  | false, .side _ _ _ :: _, h, _ => h.elim
theorem flat_brk {N : Nat} {is : List Itm} (h : alt N true is) : flat [32] ((opF (clL is)).map word) = 40 :: (flat [32] (is.map word) ++ [41]) := by
  rw [flat_opF (alt_clL (b := true) h), flat_clL (b := true) h (alt_ne h)]
theorem items_body (s : Sg) (a b : Tr) (ha : Good a) (hb : Good b) : alt (max a.many b.many) true (items a (bnd s) ++ .sign s :: items b (bnd s + 1)) := alt_app (alt_mono (by omega) (items_alt b _ hb)) (alt_mono (by omega) (items_alt a _ ha))
theorem wrd0 (t : Tr) : wrd 0 t 0 = atm t := by unfold wrd; simp
theorem txt_items : ∀ (t : Tr) (k : Nat), Good t -> txt t k = flat [32] ((items t k).map word)
  | .nm x, k, _ => (wrd0 (.nm x)).symm
  | .nb x, k, _ => (wrd0 (.nb x)).symm
  | .op s a b, k, h => by
    have ia := txt_items a (bnd s) h.1
    have ib := txt_items b (bnd s + 1) h.2
    have na := alt_ne (items_alt a (bnd s) h.1)
    have nb := alt_ne (items_alt b (bnd s + 1) h.2)
    have body : flat [32] ((items a (bnd s) ++ .sign s :: items b (bnd s + 1)).map word) = flat [32] [txt a (bnd s), [sgC s], txt b (bnd s + 1)] := by
      rw [xbb, flat_app _ (by simp) (by simpa using na), <- ia]
      show _ ++ flat [32] ([sgC s] :: (items b (bnd s + 1)).map word) = _
      rw [flat_cons _ _ (by simpa using nb), <- ib]
      rfl
    unfold txt items
    by_cases hk : bnd s < k
    · rw [xav hk, xav hk, flat_brk (items_body s a b h.1 h.2), body]
    · rw [xap hk, xap hk, body]
theorem txt_len : ∀ (t : Tr) (k : Nat), Good t -> (txt t k).length + 5 <= 15 * t.many
  | .nm x, _, h => by have := (atm_ok (t := .nm x) rfl h).2.1; show (atm (.nm x)).length + 5 <= 15 * 1; omega
  | .nb x, _, h => by have := (atm_ok (t := .nb x) rfl h).2.1; show (atm (.nb x)).length + 5 <= 15 * 1; omega
  | .op s a b, k, h => by
    have ia := txt_len a (bnd s) h.1
    have ib := txt_len b (bnd s + 1) h.2
    have hm : (Tr.op s a b).many = a.many + b.many := rfl
    have hb : (flat [32] [txt a (bnd s), [sgC s], txt b (bnd s + 1)]).length = (txt a (bnd s)).length + (txt b (bnd s + 1)).length + 3 := by
      simp only [TxtA.flat, xar, xa0, xbq]; omega
    unfold txt
    by_cases hk : bnd s < k
    · rw [xav hk]; simp only [xar, xa0, xbq, hb]; omega
    · rw [xap hk, hb]; omega
def dst (p : Int × Int) (c : Nat) : Int × Int := (p.1 + (if c = 40 then 1 else 0) - (if c = 41 then 1 else 0), max p.2 (p.1 + (if c = 40 then 1 else 0) - (if c = 41 then 1 else 0)))
theorem dst_no {c : Nat} (h : c ≠ 40 /\ c ≠ 41) (p : Int × Int) : dst p c = (p.1, max p.2 p.1) := by unfold dst; rw [xap h.1, xap h.2]; simp
theorem fold_no : ∀ (l : List Nat) (d m : Int), l ≠ [] -> (∀ c ∈ l, c ≠ 40 /\ c ≠ 41) -> l.foldl dst (d, m) = (d, max m d)
  | [], _, _, h, _ => xag rfl h
  | [c], d, m, _, h => dst_no (h c (by simp)) _
  | c :: c' :: l, d, m, _, h => by
    rw [xcf, dst_no (h c (by simp)), fold_no (c' :: l) _ _ (by simp) (fun x hx => h x (by simp only [xam] at hx ⊢; exact .inr hx))]
    show (d, max (max m d) d) = _
    congr 1; omega
theorem sgC_no (s : Sg) : sgC s ≠ 40 /\ sgC s ≠ 41 := by cases s <;> decide
theorem fold_txt : ∀ (t : Tr) (k : Nat) (d m : Int), Good t -> (txt t k).foldl dst (d, m) = (d, max m (d + (deepT t k : Int)))
  | .nm x, k, d, m, h => by
    obtain ⟨h1, h2, h3⟩ := atm_ok (t := .nm x) rfl h
    show (atm (.nm x)).foldl dst (d, m) = (d, max m (d + ((0 : Nat) : Int)))
    rw [fold_no _ _ _ h1 (fun c hc => ⟨(h3 c hc).1, (h3 c hc).2.1⟩)]; simp
  | .nb x, k, d, m, h => by
    obtain ⟨h1, h2, h3⟩ := atm_ok (t := .nb x) rfl h
    show (atm (.nb x)).foldl dst (d, m) = (d, max m (d + ((0 : Nat) : Int)))
    rw [fold_no _ _ _ h1 (fun c hc => ⟨(h3 c hc).1, (h3 c hc).2.1⟩)]; simp
  | .op s a b, k, d, m, h => by
    have body : ∀ d m : Int, (flat [32] [txt a (bnd s), [sgC s], txt b (bnd s + 1)]).foldl dst (d, m) = (d, max m (d + (max (deepT a (bnd s)) (deepT b (bnd s + 1)) : Nat))) := fun d m => by
      show (txt a (bnd s) ++ [32] ++ ([sgC s] ++ [32] ++ txt b (bnd s + 1))).foldl dst (d, m) = _
      rw [xbu, xbu, xbu, xbu, fold_txt a _ _ _ h.1]
      rw [fold_no [32] _ _ (by simp) (by simp), fold_no [sgC s] _ _ (by simp) (by simpa using sgC_no s), fold_no [32] _ _ (by simp) (by simp), fold_txt b _ _ _ h.2]
      congr 1; omega
    unfold txt deepT
    by_cases hk : bnd s < k
    · rw [xav hk, xav hk, xcf, xbu, show dst (d, m) 40 = (d + 1, max m (d + 1)) from by unfold dst; simp, body]
      show dst _ 41 = _
      unfold dst
      simp
      omega
    · rw [xap hk, xap hk, body]; simp
theorem deep_ok (l : List Nat) : m_law_deep [.str (ofL l)] = .ok (.int (l.foldl dst (0, 0)).2) := by
  rw [m_law_deep_go]; unfold b_law_deep b_law_deep_1 b_law_deep_2 b_law_deep_3; kd_p
  rw [show forK [3] gpOne b_law_deep_2f (iStr (eVar 0) [some (.str (ofL l)), some (.int 0), some (.int 0), none]) [some (.str (ofL l)), some (.int 0), some (.int 0), none] = forL [3] gpOne b_law_deep_2f (signsD (ofL l)) [some (.str (ofL l)), some (.int 0), some (.int 0), none] from rfl]
  have hs : signsD (ofL l) = l.map fun c => .str (sign c) := by unfold signsD ofL; simp
  have q : ∀ (c k : Nat) (y : Str), y = ofL [k] -> eqD (.str (sign c)) (.str y) = decide (c = k) := fun c k y hy => by
    subst hy
    unfold eqD
    show decide (sign c = ofL [k]) = _
    rw [xbm, decide_eq_true_iff, decide_eq_true_iff]
    refine ⟨fun hz => ?_, fun hz => by subst hz; rfl⟩
    have := LmWg.ofL_inj (a := [c]) (b := [k]) hz
    injection this
  have go : ∀ (r : List Nat) (d m : Int) (z : Option D), ∃ z', forL [3] gpOne b_law_deep_2f (r.map fun c => .str (sign c)) [some (.str (ofL l)), some (.int d), some (.int m), z] = .ok (.nx [some (.str (ofL l)), some (.int (r.foldl dst (d, m)).1), some (.int (r.foldl dst (d, m)).2), z']) := by
    intro r
    induction r with
    | nil => intro d m z; exact ⟨z, rfl⟩
    | cons c r ih =>
      intro d m z
      obtain ⟨z', e⟩ := ih (dst (d, m) c).1 (dst (d, m) c).2 (some (.str (sign c)))
      refine ⟨z', ?_⟩
      rw [xbe, forL_one, xcf, <- e]
      show turnK (b_law_deep_2f [some (.str (ofL l)), some (.int d), some (.int m), some (.str (sign c))]) _ = _
      unfold b_law_deep_2f b_law_deep_2f_1; kd_p
      rw [gEq_of (show cmp2 (.str (sign c)) (.str "(") = true from rfl), gEq_of (show cmp2 (.str (sign c)) (.str ")") = true from rfl)]; kd_p
      rw [q c 40 "(" rfl, q c 41 ")" rfl]
      unfold dst
      simp only [decide_eq_true_eq]
  obtain ⟨z, e⟩ := go l 0 0 none
  rw [hs, e]; kd_p
theorem part_txt : ∀ (t : Tr) (n : Nat) (k : Nat), Good t -> t.many <= n -> t.many <= 1000 -> m_law_part_at n [t.d, .int (k : Int)] = .ok (.str (ofL (txt t k)))
  | .nm x, n, k, hg, hn, _ => by
    obtain ⟨j, rfl⟩ : ∃ j, n = j + 1 := ⟨n - 1, by have : 1 <= n := hn; omega⟩
    rw [m_law_part_go]; unfold b_law_part; kd_p
    unfold Tr.d; simp only [ix20, ix21]; kd_p
    rw [show gEq (.str "name") (.str "name") = .ok (.bl true) from rfl]; kd_p
    simp only [ix20, ix21]; kd_p
    show R.ok (D.str x) = .ok (.str (ofL x.cps.toList))
    obtain ⟨l, rfl, _⟩ := hg.ex
    simp [ofL]
  | .nb i, n, k, hg, hn, _ => by
    obtain ⟨j, rfl⟩ : ∃ j, n = j + 1 := ⟨n - 1, by have : 1 <= n := hn; omega⟩
    obtain ⟨h1, h2⟩ := hg
    obtain ⟨m, rfl⟩ : ∃ m : Nat, i = (m : Int) := ⟨i.toNat, by omega⟩
    rw [m_law_part_go]; unfold b_law_part b_law_part_1; kd_p
    unfold Tr.d; simp only [ix20, ix21]; kd_p
    rw [show gEq (.str "number") (.str "name") = .ok (.bl false) from rfl]; kd_p
    simp only [ix20, ix21]; kd_p
    rw [show gEq (.str "number") (.str "number") = .ok (.bl true) from rfl]; kd_p
    simp only [ix20, ix21]; kd_p
    have hm : m < 10 ^ 10 := by omega
    rw [str_ok (xak hm (by decide))]; kd_p
    rfl
  | .op s a b, n, k, hg, hn, h2 => by
    have pa := a.pos
    have pb := b.pos
    have hm : (Tr.op s a b).many = a.many + b.many := rfl
    obtain ⟨j, rfl⟩ : ∃ j, n = j + 1 := ⟨n - 1, by omega⟩
    have la := txt_len a (bnd s) hg.1
    have lb := txt_len b (bnd s + 1) hg.2
    rw [m_law_part_go]; unfold b_law_part b_law_part_1 b_law_part_2; kd_p
    unfold Tr.d; kd_p
    rw [show gEq (.str s.str) (.str "name") = .ok (.bl false) from by cases s <;> rfl]; kd_p
    rw [show gEq (.str s.str) (.str "number") = .ok (.bl false) from by cases s <;> rfl]; kd_p
    obtain ⟨bb, hbb, hcl⟩ : ∃ bb, gIn (.str s.str) (.str "*/") = .ok (.bl bb) /\ (1 + if bb = true then (1 : Int) else 0) = (bnd s : Int) := by
      cases s
      · exact ⟨false, by show R.ok (D.bl _) = _; congr 2; decide +kernel, rfl⟩
      · exact ⟨false, by show R.ok (D.bl _) = _; congr 2; decide +kernel, rfl⟩
      · exact ⟨true, by show R.ok (D.bl _) = _; congr 2; decide +kernel, rfl⟩
      · exact ⟨true, by show R.ok (D.bl _) = _; congr 2; decide +kernel, rfl⟩
    rw [hbb]; kd_p
    rw [hcl]
    have ea := part_txt a j (bnd s) hg.1 (by omega) (by omega)
    have eb := part_txt b j (bnd s + 1) hg.2 (by omega) (by omega)
    rw [show ((bnd s + 1 : Nat) : Int) = (bnd s : Int) + 1 by omega] at eb
    have hj : eJoin (eC (.str " ")) (vLst (eLst (aCons (eCall (m_law_part_at j) (aCons (eOp gIx (eVar 0) (eC (.int 1))) (aCons (eVar 2) aNil))) (aCons (eOp gIx (eVar 0) (eC (.int 0))) (aCons (eCall (m_law_part_at j) (aCons (eOp gIx (eVar 0) (eC (.int 2))) (aCons (eOp gAdd (eVar 2) (eC (.int 1))) aNil))) aNil))))) [some (.tup [.str s.str, a.d, b.d]), some (.int (k : Int)), some (.int (bnd s : Int)), none] = .ok (.str (ofL (TxtA.flat [32] [txt a (bnd s), [sgC s], txt b (bnd s + 1)]))) := by
      show ((vLst (eLst (aCons (eCall (m_law_part_at j) (aCons (eOp gIx (eVar 0) (eC (.int 1))) (aCons (eVar 2) aNil))) (aCons (eOp gIx (eVar 0) (eC (.int 0))) (aCons (eCall (m_law_part_at j) (aCons (eOp gIx (eVar 0) (eC (.int 2))) (aCons (eOp gAdd (eVar 2) (eC (.int 1))) aNil))) aNil))))) [some (.tup [.str s.str, a.d, b.d]), some (.int (k : Int)), some (.int (bnd s : Int)), none]).bind (fun x => joinD (.str " ") x) = _
      kd_p
      rw [ea, eb]; kd_p
      rw [sgC_str]
      show joinD (.str (ofL [32])) (.lst (([txt a (bnd s), [sgC s], txt b (bnd s + 1)].map ofL).map D.str)) = _
      refine LmY.join_ok (B := 15000) (fun r hr => ?_) (by show 3 * 15000 + 3 * 1 <= 10000000; decide)
      simp only [xam, xa1, or_false] at hr
      rcases hr with rfl | rfl | rfl
      · omega
      · simp
      · omega
    have hfl : (TxtA.flat [32] [txt a (bnd s), [sgC s], txt b (bnd s + 1)]).length = (txt a (bnd s)).length + (txt b (bnd s + 1)).length + 3 := by
      simp only [TxtA.flat, xar, xa0, xbq]; omega
    rw [txt]
    generalize TxtA.flat [32] [txt a (bnd s), [sgC s], txt b (bnd s + 1)] = L at hj hfl
    unfold b_law_part_3
    rw [sSeq_def, sSet0_def]
    rw [hj]; kd_p
    unfold b_law_part_4 b_law_part_5; kd_p
    by_cases hc : bnd s < k
    · rw [xah (by omega), xav hc]; kd_p
      rw [show (D.str "(") = .str (ofL [40]) from rfl, add_ok (by simp; omega)]; kd_p
      rw [show (D.str ")") = .str (ofL [41]) from rfl, add_ok (by simp; omega)]; kd_p
      rfl
    · rw [xat (by omega), xap hc]; kd_p
theorem opF_len : ∀ is : List Itm, (opF is).length = is.length
  | [] => rfl
  | .side _ _ _ :: _ => rfl
  | .sign _ :: _ => rfl
theorem clL_len : ∀ is : List Itm, (clL is).length = is.length
  | [] => rfl
  | [.side _ _ _] => rfl
  | [.sign _] => rfl
  | .side _ _ _ :: j :: is => by show (clL (j :: is)).length + 1 = _; rw [clL_len (j :: is)]; rfl
  | .sign _ :: j :: is => by show (clL (j :: is)).length + 1 = _; rw [clL_len (j :: is)]; rfl
theorem items_len : ∀ (t : Tr) (k : Nat), (items t k).length + 1 = 2 * t.many
  | .nm _, _ => rfl
  | .nb _, _ => rfl
  | .op s a b, k => by
    have ia := items_len a (bnd s)
    have ib := items_len b (bnd s + 1)
    have hm : (Tr.op s a b).many = a.many + b.many := rfl
    unfold items
    by_cases hk : bnd s < k
    · rw [xav hk, opF_len, clL_len, xar, xa0]; omega
    · rw [xap hk, xar, xa0]; omega
theorem bnd_pos (s : Sg) : 1 <= bnd s := by cases s <;> decide
theorem items_01 (t : Tr) : items t 0 = items t 1 /\ deepT t 0 = deepT t 1 := by
  cases t with
  | nm x => exact ⟨rfl, rfl⟩
  | nb x => exact ⟨rfl, rfl⟩
  | op s a b =>
    have := bnd_pos s
    unfold items deepT
    rw [xap (by omega), xap (by omega), xap (by omega), xap (by omega)]
    exact ⟨rfl, rfl⟩
theorem word_no {N : Nat} : ∀ {b : Bool} {is : List Itm}, alt N b is -> ∀ r ∈ is.map word, 32 ∉ r /\ r.length <= 2 * N + 9
  | true, .side o t c :: is, ⟨h1, h2, h3, h4, h5⟩, r, hr => by
    rw [xbe] at hr
    rcases xam.mp hr with rfl | hr
    · obtain ⟨a1, a2, a3⟩ := atm_ok h1 h2
      show 32 ∉ wrd o t c /\ (wrd o t c).length <= _
      unfold wrd
      refine ⟨fun hm => ?_, by simp; omega⟩
      rcases xbi.mp hm with hm | hm
      · exact xag (List.eq_of_mem_replicate hm) (by decide)
      rcases xbi.mp hm with hm | hm
      · exact (a3 32 hm).2.2 rfl
      · exact xag (List.eq_of_mem_replicate hm) (by decide)
    · exact word_no h5 r hr
  | false, .sign s :: is, h, r, hr => by
    rw [xbe] at hr
    rcases xam.mp hr with rfl | hr
    · show 32 ∉ [sgC s] /\ 1 <= _
      refine ⟨?_, by omega⟩
      cases s <;> decide
    · exact word_no (b := true) h r hr
  | false, [], _, r, hr => by simp at hr
  | true, [], h, _, _ => h.elim
  | true, .sign _ :: _, h, _, _ => h.elim
  | false, .side _ _ _ :: _, h, _, _ => h.elim
theorem flat_len : ∀ (A : List (List Nat)) (B : Nat), (∀ r ∈ A, r.length <= B) -> (TxtA.flat [32] A).length <= A.length * (B + 1)
  | [], _, _ => by simp [TxtA.flat]
  | [a], B, h => by have := h a (by simp); simp [TxtA.flat]; omega
  | a :: a' :: A, B, h => by
    have h1 := h a (by simp)
    have h2 := flat_len (a' :: A) B (fun r hr => h r (by simp only [xam] at hr ⊢; exact .inr hr))
    rw [flat_cons _ _ (by simp)]
    simp only [xar, xa0, xbq, Nat.add_mul] at h2 ⊢
    omega
end LmWo
open L2 DL Mir
namespace LmWp
open LmA LmY LmWa LmWb LmWc LmWd LmWf LmWg LmWh LmWj LmWk LmWl LmWm LmWn LmWo TxtA
theorem wlen : ∀ G : List Sy, G.length = sigs G + opns G
  | [] => rfl
  | .opn :: G => by have := wlen G; show G.length + 1 = sigs G + (opns G + 1); omega
  | .sig _ :: G => by have := wlen G; show G.length + 1 = sigs G + 1 + opns G; omega
theorem closes_wf : ∀ (n : Nat) (S : List Tr) (G : List Sy) (q : Sk2), closes n (S, G) = some q -> sigs G + 1 = S.length -> sigs q.2 + 1 = q.1.length /\ q.1.length <= S.length /\ opns q.2 <= opns G
  | 0, S, G, q, h, hw => by cases h; exact ⟨hw, xad _, xad _⟩
  | n + 1, S, G, q, h, hw => by
    obtain ⟨j1, j2, j3, j4⟩ := join_wf 1 G S hw
    rw [closes] at h
    cases hj : join 1 G S with
    | mk S1 G1 =>
      rw [hj] at j1 j2 j3 j4
      simp only [hj] at h
      match G1, h with
      | [], h => cases h
      | .sig _ :: _, h => cases h
      | .opn :: G2, h =>
        obtain ⟨a, b, c⟩ := closes_wf n S1 G2 q h j1
        have j3 : S1.length <= S.length := j3
        have j4 : opns G2 + 1 = opns G := j4
        exact ⟨a, by omega, by omega⟩
theorem forL_two (i j : Nat) (fb : DSt -> R Out) (x y : D) (ds : List D) (O : DSt) : forL [i, j] (gpSeq 2) fb (.tup [x, y] :: ds) O = turnK (fb ((O.set i (some x)).set j (some y))) (forL [i, j] (gpSeq 2) fb ds) := by
  show (fb ((O.set i (some x)).set j (some y))).bind _ = _
  unfold turnK
  cases fb ((O.set i (some x)).set j (some y)) with
  | ok o => cases o <;> rfl
  | err e => rfl
  | bad => rfl
abbrev st (w ws : Option D) (p : Sk2) (a b : Option D) : DSt := [w, ws, some (.lst (sD p.1)), some (.lst (gD p.2)), a, b]
theorem even_ok {j : Nat} (w ws : Option D) (p : Sk2) (b : Option D) : eTest (eOp gEq (eOp gMod (eVar 4) (eC (.int 2))) (eC (.int 0))) (st w ws p (some (.int (j : Int))) b) = .ok (decide (j % 2 = 0)) := by
  kst_p2
  congr 1
  rw [xbm]; simp; omega
theorem turn_side {j : Nat} (hj : j % 2 = 0) (w ws : Option D) (S : List Tr) (G : List Sy) (d : D) : b_read_sum_5f (st w ws (S, G) (some (.int (j : Int))) (some d)) = (m_read_side [d, .lst (sD S), .lst (gD G)]).bind fun τ => (lstAt τ 1).bind fun xs' => (lstAt τ 2).bind fun ys' => .ok (.nx [w, ws, some (.lst xs'), some (.lst ys'), some (.int (j : Int)), some d]) := by
  unfold b_read_sum_5f
  rw [sIf_def, even_ok, xah hj]
  show R.bind (callEOO [3, 2] 2 3 m_read_side (eVar 5) (st w ws (S, G) (some (.int (j : Int))) (some d))) _ = _
  show R.bind (R.bind (m_read_side [d, .lst (sD S), .lst (gD G)]) _) _ = _
  cases m_read_side [d, .lst (sD S), .lst (gD G)] with
  | err e => rfl
  | bad => rfl
  | ok τ =>
    show R.bind (R.bind (lstAt τ 1) _) _ = R.bind (lstAt τ 1) _
    cases lstAt τ 1 with
    | err e => rfl
    | bad => rfl
    | ok xs =>
      show R.bind (R.bind (lstAt τ 2) _) _ = R.bind (lstAt τ 2) _
      cases lstAt τ 2 <;> rfl
theorem turn_sign {j : Nat} (hj : j % 2 = 1) (w ws : Option D) (S : List Tr) (G : List Sy) (d : D) : b_read_sum_5f (st w ws (S, G) (some (.int (j : Int))) (some d)) = (m_read_sign [d, .lst (sD S), .lst (gD G)]).bind fun τ => (lstAt τ 1).bind fun xs' => (lstAt τ 2).bind fun ys' => .ok (.nx [w, ws, some (.lst xs'), some (.lst ys'), some (.int (j : Int)), some d]) := by
  unfold b_read_sum_5f
  rw [sIf_def, even_ok, xat (by omega)]
  show R.bind (R.bind (m_read_sign [d, .lst (sD S), .lst (gD G)]) _) _ = _
  cases m_read_sign [d, .lst (sD S), .lst (gD G)] with
  | err e => rfl
  | bad => rfl
  | ok τ =>
    show R.bind (R.bind (lstAt τ 1) _) _ = R.bind (lstAt τ 1) _
    cases lstAt τ 1 with
    | err e => rfl
    | bad => rfl
    | ok xs =>
      show R.bind (R.bind (lstAt τ 2) _) _ = R.bind (lstAt τ 2) _
      cases lstAt τ 2 <;> rfl
def Wf : Bool -> Sk2 -> Prop
  | true, p => sigs p.2 = p.1.length /\ opns p.2 <= 8
  | false, p => sigs p.2 + 1 = p.1.length /\ opns p.2 <= 8
def ws' (is : List Itm) : List D := is.map fun i => .str (ofL (word i))
theorem loop (w ws : Option D) : ∀ (b : Bool) (is : List Itm) (p : Sk2) (j : Nat) (a c : Option D), alt 100 b is -> (b = true ↔ j % 2 = 0) -> Wf b p -> p.1.length + is.length <= 200 ->
    (∀ q, run is p = .ok q -> Wf false q /\ q.1.length <= 200 /\ ∃ a' c', forL [4, 5] (gpSeq 2) b_read_sum_5f (enumD j (ws' is)) (st w ws p a c) = .ok (.nx (st w ws q a' c'))) /\ (∀ e, run is p = .err e -> forL [4, 5] (gpSeq 2) b_read_sum_5f (enumD j (ws' is)) (st w ws p a c) = .err e)
  | true, .side o t cl :: is, (S, G), j, a, c, ⟨h1, h2, h3, h4, h5⟩, hb, ⟨hw, ho⟩, hl => by
    have hj : j % 2 = 0 := hb.mp rfl
    have hw : sigs G = S.length := hw
    have ho : opns G <= 8 := ho
    have hl : S.length + (is.length + 1) <= 200 := hl
    have hG : G.length <= 1000 := by have := wlen G; omega
    have hf : forL [4, 5] (gpSeq 2) b_read_sum_5f (enumD j (ws' (.side o t cl :: is))) (st w ws (S, G) a c) = turnK (b_read_sum_5f (st w ws (S, G) (some (.int (j : Int))) (some (.str (ofL (wrd o t cl)))))) (forL [4, 5] (gpSeq 2) b_read_sum_5f (enumD (j + 1) (ws' is))) := forL_two 4 5 _ _ _ _ _
    have hr : run (.side o t cl :: is) (S, G) = (if 8 < opns G + o then R.err nt else match closes cl (t :: S, List.replicate o .opn ++ G) with | some q => .ok q | none => .bad).bind (run is) := rfl
    rw [hf, hr, turn_side hj]
    by_cases h8 : 8 < opns G + o
    · rw [xav h8, side_err h1 h2 (by omega) (by omega) hG h8]
      exact ⟨fun q hq => (by cases hq), fun e he => (by cases he; rfl)⟩
    · rw [xap h8]
      cases hc : closes cl (t :: S, List.replicate o .opn ++ G) with
      | none => exact ⟨fun q hq => (by cases hq), fun e he => (by cases he)⟩
      | some q1 =>
        obtain ⟨S1, G1⟩ := q1
        obtain ⟨τ, e1, e2, e3⟩ := side_ok h1 h2 (by omega : o <= 1000) (by omega) hG (by omega) (by omega) hw hc
        obtain ⟨c1, c2, c3⟩ := closes_wf cl _ _ _ hc (by rw [sigs_rep, hw]; rfl)
        rw [opns_rep] at c3
        have c2 : S1.length <= S.length + 1 := c2
        have c3 : opns G1 <= o + opns G := c3
        rw [show ((m_read_side [.str (ofL (wrd o t cl)), .lst (sD S), .lst (gD G)]).bind fun τ => (lstAt τ 1).bind fun xs' => (lstAt τ 2).bind fun ys' => R.ok (Out.nx [w, ws, some (.lst xs'), some (.lst ys'), some (.int (j : Int)), some (.str (ofL (wrd o t cl)))])) = .ok (.nx (st w ws (S1, G1) (some (.int (j : Int))) (some (.str (ofL (wrd o t cl)))))) from by rw [e1, R.ok_bind, e2, R.ok_bind, e3]; rfl, turnK_nx]
        exact loop w ws false is (S1, G1) (j + 1) _ _ h5 ⟨fun h => (by cases h), fun h => (by omega)⟩ ⟨c1, by show opns G1 <= 8; omega⟩ (by show S1.length + is.length <= 200; omega)
  | false, .sign s :: is, (S, G), j, a, c, h, hb, ⟨hw, ho⟩, hl => by
    have hj : j % 2 = 1 := by
      rcases Nat.mod_two_eq_zero_or_one j with hz | hz
      · exact xag (hb.mpr hz) (by simp)
      · exact hz
    have hw : sigs G + 1 = S.length := hw
    have ho : opns G <= 8 := ho
    have hl : S.length + (is.length + 1) <= 200 := hl
    have hG : G.length <= 1000 := by have := wlen G; omega
    have hf : forL [4, 5] (gpSeq 2) b_read_sum_5f (enumD j (ws' (.sign s :: is))) (st w ws (S, G) a c) = turnK (b_read_sum_5f (st w ws (S, G) (some (.int (j : Int))) (some (.str (ofL [sgC s]))))) (forL [4, 5] (gpSeq 2) b_read_sum_5f (enumD (j + 1) (ws' is))) := forL_two 4 5 _ _ _ _ _
    have hr : run (.sign s :: is) (S, G) = run is ((join (bnd s) G S).1, .sig s :: (join (bnd s) G S).2) := rfl
    obtain ⟨τ, e1, e2, e3⟩ := sign_ok s hG (by omega) hw
    obtain ⟨j1, j2, j3, j4⟩ := join_wf (bnd s) G S hw
    rw [hf, hr, turn_sign hj, <- sgC_str, e1, R.ok_bind, e2, R.ok_bind, e3, R.ok_bind, turnK_nx]
    exact loop w ws true is (_, _) (j + 1) _ _ h ⟨fun _ => (by omega), fun _ => rfl⟩ ⟨j1, by show opns (join (bnd s) G S).2 <= 8; omega⟩ (by show (join (bnd s) G S).1.length + is.length <= 200; omega)
  | false, [], p, j, a, c, _, _, hw, hl => ⟨fun q hq => by cases hq; exact ⟨hw, by have : p.1.length + 0 <= 200 := hl; omega, a, c, rfl⟩, fun e he => by cases he⟩
  | true, [], _, _, _, _, h, _, _, _ => h.elim
  | true, .sign _ :: _, _, _, _, _, h, _, _, _ => h.elim
  | false, .side _ _ _ :: _, _, _, _, _, h, _, _, _ => h.elim
theorem alt_odd {N : Nat} : ∀ {b : Bool} {is : List Itm}, alt N b is -> is.length % 2 = if b then 1 else 0
  | true, .side o t c :: is, h => by have := alt_odd h.2.2.2.2; simp at this ⊢; omega
  | false, .sign _ :: is, h => by have := alt_odd (b := true) (is := is) h; simp at this ⊢; omega
  | false, [], _ => rfl
  | true, [], h => h.elim
  | true, .sign _ :: _, h => h.elim
  | false, .side _ _ _ :: _, h => h.elim
section
variable (is : List Itm) (h : alt 100 true is) (hl : is.length <= 121)
include h hl
theorem sum_start : m_read_sum [.str (ofL (TxtA.flat [32] (is.map word)))] = fin (b_read_sum_5 (st (some (.str (ofL (TxtA.flat [32] (is.map word))))) (some (.lst (ws' is))) ([], []) none none)) := by
  have hfl := flat_len (is.map word) 209 (fun r hr => (word_no (b := true) h r hr).2)
  rw [xao] at hfl
  have hfl : (TxtA.flat [32] (is.map word)).length <= 10000000 := xax hfl (xax (Nat.mul_le_mul_right _ hl) (by decide))
  have e : eSplit (eVar 0) (eC (.str " ")) [some (.str (ofL (TxtA.flat [32] (is.map word)))), none, none, none, none, none] = .ok (ws' is) := by
    show splitD (.str (ofL (TxtA.flat [32] (is.map word)))) (.str " ") = _
    have := split_ok (c := 32) (t := []) (rows := is.map word) (by simp) (by decide) (by simpa using alt_ne h) (fun r hr => (word_no (b := true) h r hr).1) hfl
    rw [xb4, xb4] at this
    exact this
  have ho : is.length % 2 = 1 := by have := alt_odd h; simpa using this
  rw [m_read_sum_go]; unfold b_read_sum; kd_p
  rw [show ∀ x : Str, g2 isi3 [.str x, .ty "str"] = .ok (.bl true) from fun _ => rfl]; kd_p
  unfold b_read_sum_1; kd_p
  rw [e]; kd_p
  unfold b_read_sum_2; kd_p
  have hw : (ws' is).length = is.length := by unfold ws'; simp
  have hm : gMod (.int ((ws' is).length : Int)) (.int 2) = .ok (.int 1) := by
    rw [hw]
    kst_p2
    congr 2
    omega
  have hd : gFdiv (.int ((ws' is).length : Int)) (.int 2) = .ok (.int ((is.length / 2 : Nat) : Int)) := by
    rw [hw, gFdiv_pos _ _ (by decide +kernel) (by decide)]
    congr 2
  rw [hm]; kd_p
  rw [hd]; kd_p
  rw [show k_MOST_SIGNS = .int 60 from rfl]; kd_p
  rw [xat (by omega)]; kd_p
  unfold b_read_sum_3; kd_p
  unfold b_read_sum_4; kd_p
  rfl
theorem sum_ok {q : Sk2} {t : Tr} (hr : run is ([], []) = .ok q) (hj : join 1 q.2 q.1 = ([t], [])) : m_read_sum [.str (ofL (TxtA.flat [32] (is.map word)))] = .ok t.d := by
  obtain ⟨l1, l2⟩ := loop (some (.str (ofL (TxtA.flat [32] (is.map word))))) (some (.lst (ws' is))) true is ([], []) 0 none none h ⟨fun _ => rfl, fun _ => rfl⟩ ⟨rfl, by decide⟩ (by show 0 + is.length <= 200; omega)
  obtain ⟨⟨w1, w2⟩, w3, a, c, e⟩ := l1 q hr
  rw [sum_start is h hl]
  unfold b_read_sum_5
  rw [sSeq_def, show sFor [3, 2] [4, 5] (gpSeq 2) (iArgs iEnumerate1 (aCons (eVar 1) aNil)) b_read_sum_5f (st (some (.str (ofL (TxtA.flat [32] (is.map word))))) (some (.lst (ws' is))) ([], []) none none) = forL [4, 5] (gpSeq 2) b_read_sum_5f (enumD 0 (ws' is)) (st (some (.str (ofL (TxtA.flat [32] (is.map word))))) (some (.lst (ws' is))) ([], []) none none) from rfl, e]
  show fin (b_read_sum_6 _) = _
  unfold b_read_sum_6
  have w2 : opns q.2 <= 8 := w2
  have hG := wlen q.2
  have hc := call_join (own := [3, 2]) (i := 2) (j := 3) (fe := eC (.int 1)) (O := st (some (.str (ofL (TxtA.flat [32] (is.map word))))) (some (.lst (ws' is))) q a c) (S := q.1) (G := q.2) (k := 1) rfl rfl rfl (by decide) w1 (by omega) (by omega)
  rw [hj] at hc
  rw [sSeq_def]
  show fin (seqK ((callOOE [3, 2] 2 3 m_join_sides (eC (.int 1)) (st (some (.str (ofL (TxtA.flat [32] (is.map word))))) (some (.lst (ws' is))) q a c)).bind fun O => .ok (.nx O)) b_read_sum_7) = _
  rw [hc]
  show fin (b_read_sum_7 [some (.str (ofL (TxtA.flat [32] (is.map word)))), some (.lst (ws' is)), some (.lst [t.d]), some (.lst []), a, c]) = _
  unfold b_read_sum_7; kd_p
  unfold b_read_sum_8
  rfl
theorem sum_err {d : D} (hr : run is ([], []) = .err d) : m_read_sum [.str (ofL (TxtA.flat [32] (is.map word)))] = .err d := by
  obtain ⟨l1, l2⟩ := loop (some (.str (ofL (TxtA.flat [32] (is.map word))))) (some (.lst (ws' is))) true is ([], []) 0 none none h ⟨fun _ => rfl, fun _ => rfl⟩ ⟨rfl, by decide⟩ (by show 0 + is.length <= 200; omega)
  have e := l2 d hr
  rw [sum_start is h hl]
  unfold b_read_sum_5
  rw [sSeq_def, show sFor [3, 2] [4, 5] (gpSeq 2) (iArgs iEnumerate1 (aCons (eVar 1) aNil)) b_read_sum_5f (st (some (.str (ofL (TxtA.flat [32] (is.map word))))) (some (.lst (ws' is))) ([], []) none none) = forL [4, 5] (gpSeq 2) b_read_sum_5f (enumD 0 (ws' is)) (st (some (.str (ofL (TxtA.flat [32] (is.map word))))) (some (.lst (ws' is))) ([], []) none none) from rfl, e]
  rfl
end
theorem read_plain (t : Tr) (hg : Good t) (hm : t.many <= 50) : (deepT t 0 <= 8 -> m_read_sum [.str (ofL (txt t 0))] = .ok t.d) /\ (8 < deepT t 0 -> m_read_sum [.str (ofL (txt t 0))] = .err nt) := by
  have ha := alt_mono (show t.many <= 100 by omega) (items_alt t 0 hg)
  have hl := items_len t 0
  obtain ⟨i1, i2⟩ := items_01 t
  obtain ⟨g1, g2⟩ := gone t 1 [] [] hg (xad _) (fun y hy => by simp at hy) rfl
  have ho : opns ([] : List Sy) = 0 := rfl
  rw [ho, <- i1, <- i2] at g1 g2
  rw [txt_items t 0 hg]
  refine ⟨fun h => ?_, fun h => sum_err _ ha (by omega) (g2 (by omega))⟩
  obtain ⟨q, e, d1, d2, d3⟩ := g1 (by omega)
  refine sum_ok _ ha (by omega) e ?_
  rw [d1 1 (xad _) (xad _), join_nil]
theorem read_brk (t : Tr) (hg : Good t) (hm : t.many <= 50) : (deepT t 0 + 1 <= 8 -> m_read_sum [.str (ofL (40 :: (txt t 0 ++ [41])))] = .ok t.d) /\ (8 < deepT t 0 + 1 -> m_read_sum [.str (ofL (40 :: (txt t 0 ++ [41])))] = .err nt) := by
  have ha := items_alt t 0 hg
  have hc := alt_clL (b := true) ha
  have hb := alt_mono (show t.many + 1 + 1 <= 100 by omega) (alt_opF hc)
  have hl := items_len t 0
  have hl' : (opF (clL (items t 0))).length = (items t 0).length := by rw [opF_len, clL_len]
  obtain ⟨i1, i2⟩ := items_01 t
  obtain ⟨g1, g2⟩ := gone t 1 [] [.opn] hg (xad _) (fun y hy => by
    have : y = .opn := by simpa using hy.symm
    rw [this]; decide) rfl
  have ho : opns [.opn] = 1 := rfl
  rw [ho, <- i1, <- i2] at g1 g2
  have hr : run (opF (clL (items t 0))) ([], []) = (run (items t 0) ([], [.opn])).bind close1 := by
    rw [run_opF hc, run_clL (b := true) ha (alt_ne ha)]
  rw [txt_items t 0 hg, <- flat_brk ha]
  refine ⟨fun h => ?_, fun h => sum_err _ hb (by omega) (by rw [hr, g2 (by omega)]; rfl)⟩
  obtain ⟨q, e, d1, d2, d3⟩ := g1 (by omega)
  refine sum_ok _ hb (by omega) (q := ([t], [])) ?_ (join_nil _ _)
  rw [hr, e]
  show close1 q = _
  unfold close1 closes
  rw [d1 1 (xad _) (xad _), join_opn]; rfl
end LmWp
open L2 DL Mir
namespace Lk56
open LmA LmY LmWa LmWb LmWc LmWd LmWf LmWg LmWh LmWj LmWk LmWl LmWm LmWn LmWo LmWp TxtA
open LmC (cell law_cell_ok)
theorem alone_ok : m_law_alone [nt] = .ok (.bl true) := by
  rw [m_law_alone_go]; unfold b_law_alone b_law_alone_1 b_law_alone_2 b_law_alone_3 b_law_alone_4 b_law_alone_5; kd_p
  simp only [isi_exc (show subX "NoText" "NoPlace" = some false by decide +kernel), isi_exc (show subX "NoText" "Same" = some false by decide +kernel), isi_exc (show subX "NoText" "NoFloor" = some false by decide +kernel), isi_exc (show subX "NoText" "Endless" = some false by decide +kernel), isi_exc (show subX "NoText" "NoDeed" = some false by decide +kernel), isi_exc (show subX "NoText" "NoText" = some true by decide +kernel), isi_exc (show subX "NoText" "NoName" = some false by decide +kernel), isi_exc (show subX "NoText" "TooMany" = some false by decide +kernel), isi_exc (show subX "NoText" "NoChange" = some false by decide +kernel), isi_exc (show subX "NoText" "NoFrame" = some false by decide +kernel), isi_exc (show subX "NoText" "NoValue" = some false by decide +kernel), isi_exc (show subX "NoText" "Unlike" = some false by decide +kernel), isi_exc (show subX "NoText" "NoRatio" = some false by decide +kernel), isi_exc (show subX "NoText" "NoBow" = some false by decide +kernel), isi_exc (show subX "NoText" "NoRow" = some false by decide +kernel), isi_exc (show subX "NoText" "ChalkError" = some true by decide +kernel)]
  kd_p
  rfl
theorem like_s (n : Nat) (x : Str) : m_law_like_at (n + 1) [.str x, .str x] = .ok (.bl true) := by
  rw [m_law_like_go]; unfold b_law_like; kd_p
  rw [show g2 isi3 [.str x, .ty "tuple"] = .ok (.bl false) from rfl]; kd_p
  unfold b_law_like_1; kd_p
  rw [show g2 isi3 [.str x, .ty "str"] = .ok (.bl true) from rfl]; kd_p
  rw [show g2 isi3 [.str x, .ty "str"] = .ok (.bl true) from rfl]; kd_p
  rw [gEq_of (show cmp2 (.str x) (.str x) = true from rfl), eqD_refl 9 (.str x) rfl]; kd_p
theorem like_i (n : Nat) (i : Int) : m_law_like_at (n + 1) [.int i, .int i] = .ok (.bl true) := by
  rw [m_law_like_go]; unfold b_law_like; kd_p
  rw [show g2 isi3 [.int i, .ty "tuple"] = .ok (.bl false) from rfl]; kd_p
  unfold b_law_like_1; kd_p
  rw [show g2 isi3 [.int i, .ty "str"] = .ok (.bl false) from rfl]; kd_p
  unfold b_law_like_2; kd_p
  rw [law_whole_i]; kd_p
theorem like_for (n : Nat) (x y : Option D) : ∀ (ds : List D) (a b : Option D), (∀ d ∈ ds, m_law_like_at n [d, d] = .ok (.bl true)) -> ∃ a' b', forL [2, 3] (gpSeq 2) (b_law_liket_1f (m_law_like_at n)) (zipD ds ds) [x, y, a, b] = .ok (.nx [x, y, a', b'])
  | [], a, b, _ => ⟨a, b, rfl⟩
  | d :: ds, a, b, h => by
    obtain ⟨a', b', e⟩ := like_for n x y ds (some d) (some d) (fun d' hd => h d' (by simp [hd]))
    refine ⟨a', b', ?_⟩
    rw [show zipD (d :: ds) (d :: ds) = .tup [d, d] :: zipD ds ds from rfl, forL_two]
    show turnK (b_law_liket_1f (m_law_like_at n) [x, y, some d, some d]) _ = _
    unfold b_law_liket_1f; kd_p
    rw [h d (by simp)]; kd_p
    exact e
theorem like_t (n : Nat) (ds : List D) (h : ∀ d ∈ ds, m_law_like_at n [d, d] = .ok (.bl true)) : m_law_like_at (n + 1) [.tup ds, .tup ds] = .ok (.bl true) := by
  obtain ⟨a, b, e⟩ := like_for n (some (.tup ds)) (some (.tup ds)) ds none none h
  rw [m_law_like_go]; unfold b_law_like; kd_p
  unfold b_law_liket; kd_p
  rw [show gLen [.tup ds] = .ok (.int (ds.length : Int)) from rfl]; kd_p
  unfold b_law_liket_1; kd_p
  rw [show iZip2 [.tup ds, .tup ds] = .ok (zipD ds ds) from by
    show (bif ds.length == ds.length then R.ok (zipD ds ds) else .bad) = _
    rw [beq_self_eq_true]; rfl]; kd_p
  rw [e]; kd_p
  unfold b_law_liket_2; kd_p
theorem like_ok : ∀ (t : Tr) (n : Nat), t.many <= n -> m_law_like_at (n + 1) [t.d, t.d] = .ok (.bl true)
  | .nm x, n, h => by
    obtain ⟨j, rfl⟩ : ∃ j, n = j + 1 := ⟨n - 1, by have : 1 <= n := h; omega⟩
    refine like_t _ _ fun d hd => ?_
    simp only [xam, xa1, or_false] at hd
    rcases hd with rfl | rfl
    · exact like_s _ _
    · exact like_s _ _
  | .nb x, n, h => by
    obtain ⟨j, rfl⟩ : ∃ j, n = j + 1 := ⟨n - 1, by have : 1 <= n := h; omega⟩
    refine like_t _ _ fun d hd => ?_
    simp only [xam, xa1, or_false] at hd
    rcases hd with rfl | rfl
    · exact like_s _ _
    · exact like_i _ _
  | .op s a b, n, h => by
    have pa := a.pos
    have pb := b.pos
    have hm : (Tr.op s a b).many = a.many + b.many := rfl
    obtain ⟨j, rfl⟩ : ∃ j, n = j + 1 := ⟨n - 1, by omega⟩
    refine like_t _ _ fun d hd => ?_
    simp only [xam, xa1, or_false] at hd
    rcases hd with rfl | rfl | rfl
    · exact like_s _ _
    · exact like_ok a j (by omega)
    · exact like_ok b j (by omega)
theorem refused_ok {l : List Nat} (h : m_read_sum [.str (ofL l)] = .err nt) : m_law_refused_v16 [.str (ofL l)] = .ok (.bl true) := by
  rw [m_law_refused_v16_go]; unfold b_law_refused_v16 b_law_refused_v16_1 b_law_refused_v16_2; kd_p
  rw [h]; kd_p
  rw [tryK_err _ _ _ _ _ _ (show subX "NoText" "ChalkError" = some true by decide +kernel)]; kd_p
  rw [isi_exc (show subX "NoText" "NoText" = some true by decide +kernel)]; kd_p
  rw [alone_ok]; kd_p
section
variable (x0 x1 x2 x3 : Option D) (t : Tr) (hm : t.many <= 50) (y5 : Option D)
include hm
theorem turn_ok {l : List Nat} {n : Nat} (hd : (l.foldl dst (0, 0)).2 = (n : Int)) (h1 : n <= 8 -> m_read_sum [.str (ofL l)] = .ok t.d) (h2 : 8 < n -> m_read_sum [.str (ofL l)] = .err nt) :
    b_law_v45_2f_2f [x0, x1, x2, x3, some t.d, y5, some (.str (ofL l))] = .ok (.nx [x0, x1, x2, x3, some t.d, y5, some (.str (ofL l))]) := by
  unfold b_law_v45_2f_2f; kd_p
  rw [LmWo.deep_ok, hd]; kd_p
  by_cases h8 : 8 < n
  · rw [xah (by omega)]; kd_p
    rw [refused_ok (h2 h8)]; kd_p
  · rw [xat (by omega)]; kd_p
    rw [h1 (by omega)]; kd_p
    rw [show m_law_like [t.d, t.d] = .ok (.bl true) from like_ok t 63 (by omega)]; kd_p
end
section
variable (S : List D) (xs : List Str) (h5 : xs.length = 5) (hp : ∀ x ∈ xs, Pn x) (cs : List Int) (hc : cs.length <= 50)
include h5 hp hc
theorem round_ok (k : Nat) (hk : 1 <= k) (hcs : cs ≠ []) (z4 z5 z6 : Option D) : ∃ y4 y5 y6 : Option D, b_law_v45_2f [some (.lst S), some (.lst (xs.map .str)), some (.lst (cs.map .int)), some (.int (k : Int)), z4, z5, z6] = .ok (.nx [some (.lst S), some (.lst (xs.map .str)), some (.lst (cs.map .int)), some (.int (k : Int)), y4, y5, y6]) := by
  have hl := xcc.mpr hcs
  obtain ⟨t, et, hg, hm⟩ := tree_ok xs h5 hp (cs.take k) (fun hz => by have := congrArg List.length hz; rw [xbl, xbq] at this; omega) (by rw [xbl]; omega)
  have hm : t.many <= 50 := by rw [xbl] at hm; omega
  unfold b_law_v45_2f; kd_p
  rw [Lk42.eSl_to _ _ _ (cs.map D.int) k rfl rfl, <- List.map_take]; kd_p
  rw [et]; kd_p
  unfold b_law_v45_2f_1; kd_p
  rw [show m_law_part [t.d, .int 0] = .ok (.str (ofL (txt t 0))) from part_txt t 64 0 hg (by omega) (by omega)]; kd_p
  unfold b_law_v45_2f_2; kd_p
  have hx := txt_len t 0 hg
  rw [show (D.str "(") = .str (ofL [40]) from rfl, add_ok (by simp; omega)]; kd_p
  rw [show (D.str ")") = .str (ofL [41]) from rfl, add_ok (by simp; omega)]; kd_p
  rw [show [40] ++ txt t 0 ++ [41] = 40 :: (txt t 0 ++ [41]) from by simp]
  obtain ⟨p1, p2⟩ := read_plain t hg hm
  obtain ⟨q1, q2⟩ := read_brk t hg hm
  have f1 : ((txt t 0).foldl dst (0, 0)).2 = (deepT t 0 : Int) := by rw [fold_txt t 0 0 0 hg]; show max 0 (0 + (deepT t 0 : Int)) = _; omega
  have f2 : ((40 :: (txt t 0 ++ [41])).foldl dst (0, 0)).2 = ((deepT t 0 + 1 : Nat) : Int) := by
    rw [xcf, xbu, show dst (0, 0) 40 = (1, 1) from by decide, fold_txt t 0 1 1 hg]
    show (dst (1, max 1 (1 + (deepT t 0 : Int))) 41).2 = _
    unfold dst
    simp
    omega
  generalize txt t 0 = L at *
  rw [turn_ok _ _ _ _ t hm _ f1 p1 p2, turnK_nx, forL_one]
  show ∃ y4 y5 y6 : Option D, turnK (b_law_v45_2f_2f [some (.lst S), some (.lst (xs.map .str)), some (.lst (cs.map .int)), some (.int (k : Int)), some t.d, some (.str (ofL L)), some (.str (ofL (40 :: (L ++ [41]))))]) _ = _
  rw [turn_ok _ _ _ _ t hm _ f2 q1 q2, turnK_nx]
  exact ⟨_, _, _, rfl⟩
end
theorem law_ok (ns : List Int) (h : ns.length <= 63) : m_law_v45 [.lst (ns.map .int)] = .ok (.bl true) := by
  obtain ⟨xs, ex, h5, hnd, hp⟩ := words_ok (cell ns 0)
  have c0 : m_law_cell [.lst (ns.map .int), .int 0] = .ok (.int (cell ns 0)) := law_cell_ok ns 0
  rw [m_law_v45_go]; unfold b_law_v45; kd_p
  rw [c0]; kd_p
  rw [ex]; kd_p
  unfold b_law_v45_1; kd_p
  rw [LmX.eSl_mid _ _ _ _ (ns.map D.int) 1 41 rfl rfl rfl]
  obtain ⟨cs, ec, hc⟩ : ∃ cs : List Int, ((ns.map D.int).drop (min 1 (ns.map D.int).length)).take (min 41 (ns.map D.int).length - min 1 (ns.map D.int).length) = cs.map D.int /\ cs.length <= 40 := by
    refine ⟨(ns.drop (min 1 (ns.map D.int).length)).take (min 41 (ns.map D.int).length - min 1 (ns.map D.int).length), by rw [List.map_take, List.map_drop], ?_⟩
    rw [xbl, xcm, xao]
    omega
  rw [ec]; kd_p
  rw [show gAdd (.lst (cs.map D.int)) (.lst [.int 1]) = .ok (.lst ((cs ++ [1]).map .int)) from by
    show (bif le24 ((cs.map D.int).length + 1) then R.ok (D.lst (cs.map D.int ++ [.int 1])) else .bad) = _
    rw [show le24 ((cs.map D.int).length + 1) = true from xah (by rw [xao]; exact xax (show cs.length + 1 <= 63 by omega) (by decide)), xbb]; rfl]; kd_p
  unfold b_law_v45_2; kd_p
  have hl : (cs ++ [1]).length = cs.length + 1 := by simp
  have hd : gFdiv (.int (((cs ++ [1]).map D.int).length : Int)) (.int 3) = .ok (.int (((cs.length + 1) / 3 : Nat) : Int)) := by
    rw [gFdiv_pos _ _ (by decide +kernel) (by decide), xao, hl]
    congr 2
  rw [hd]; kd_p
  rw [xao, hl, show (((cs.length + 1) / 3 : Nat) : Int) + 1 = (((cs.length + 1) / 3 + 1 : Nat) : Int) by omega]
  generalize hA : cs ++ [1] = A at hl
  have hne : A ≠ [] := by rw [<- hA]; simp
  obtain ⟨y4, y5, y6, e1⟩ := round_ok (ns.map .int) xs h5 hp A (by omega) (cs.length + 1) (by omega) hne none none none
  show fin (seqK (turnK (b_law_v45_2f [some (.lst (ns.map .int)), some (.lst (xs.map .str)), some (.lst (A.map .int)), some (.int ((cs.length + 1 : Nat) : Int)), none, none, none]) _) _) = _
  rw [e1, turnK_nx, forL_one]
  obtain ⟨w4, w5, w6, e2⟩ := round_ok (ns.map .int) xs h5 hp A (by omega) ((cs.length + 1) / 3 + 1) (by omega) hne y4 y5 y6
  show fin (seqK (turnK (b_law_v45_2f [some (.lst (ns.map .int)), some (.lst (xs.map .str)), some (.lst (A.map .int)), some (.int (((cs.length + 1) / 3 + 1 : Nat) : Int)), y4, y5, y6]) _) _) = _
  rw [e2, turnK_nx]
  rfl
end Lk56
end
section
namespace Kx
open L2 DL Mir
local macro_rules | `(tactic| walk_at "C") => `(tactic| first | assumption | exact XC.lc (by assumption) _ _ _ _ _ _ | exact XC.nox (by assumption))
local macro_rules | `(tactic| walk_at "H") => `(tactic| first | assumption | exact XC.calm (by walk_at "C") | rfl)
local macro_rules | `(tactic| walk_at "F") => `(tactic| first | exact cf_lt | exact cf_le | exact cf_gt | exact cf_ge | exact cf_is | exact cf_isn | exact cf_eq (by walk_at "C") | exact cf_ne (by walk_at "C") | exact cf_in (by walk_at "C") | exact cf_nin (by walk_at "C"))
local macro_rules | `(tactic| walk_at "E") => `(tactic| first | ((with_reducible refine @de_var _ _ _ _ _ ?_ ?_ ?_ ?_); rfl; (first | exact Or.inl rfl | exact Or.inr (Or.inl rfl) | exact Or.inr (Or.inr rfl)); decide; decide) | ((with_reducible refine @da_cons _ _ _ _ _ _ ?_ ?_ ?_); walk_at "E"; walk_at "E"; rfl) | ((with_reducible refine @da_nil _ _)) | ((with_reducible refine @de_int _ _ _ _ _)) | ((with_reducible refine @de_add _ _ _ _ _ _ _ ?_ ?_); walk_at "E"; walk_at "E") | ((with_reducible refine @de_str _ _ _ _ _)) | ((with_reducible refine @de_ix _ _ _ _ _ _ _ ?_ ?_ ?_); walk_at "E"; walk_at "E"; (intro _ _ ; rfl)) | ((with_reducible refine @de_mod _ _ _ _ _ _ _ ?_ ?_); walk_at "E"; walk_at "E") | ((with_reducible refine @de_call _ _ _ _ _ _ _ _ _ _ (by walk_at "C") ?_ ?_ ?_ ?_ ?_ ?_); walk_at "H"; walk_at "E"; rfl; decide; rfl; rfl) | ((with_reducible refine @de_len _ _ _ _ _ _ _ ?_ ?_ ?_ ?_ ?_); walk_at "H"; walk_at "E"; rfl; rfl; rfl) | ((with_reducible refine @de_intc _ _ _ _ _ _ _ ?_ ?_ ?_ ?_ ?_); walk_at "H"; walk_at "E"; rfl; rfl; rfl) | ((with_reducible refine @de_isi _ _ _ _ _ _ _ ?_ ?_ ?_ ?_ ?_); walk_at "H"; walk_at "E"; rfl; rfl; rfl) | ((with_reducible refine @de_cls _ _ _ _ _ (by assumption) ?_ ?_); rfl; decide) | ((with_reducible refine @dt_cmp1 _ _ _ _ _ _ _ _ _ ?_ ?_ ?_ ?_); walk_at "F"; walk_at "E"; walk_at "E"; (first | exact nobehind _ (by decide) (by decide) | rfl)) | ((with_reducible refine @df_lst _ _ _ _ _ ?_); walk_at "E") | ((with_reducible refine @de_mul _ _ _ _ _ _ _ ?_ ?_); walk_at "E"; walk_at "E") | ((with_reducible refine @DF.val _ _ _ _ ?_); walk_at "E") | ((with_reducible refine @de_cmp1 _ _ _ _ _ _ _ _ _ ?_ ?_ ?_ ?_); walk_at "F"; walk_at "E"; walk_at "E"; (first | exact nobehind _ (by decide) (by decide) | rfl)) | ((with_reducible refine @de_k _ _ _ _ _ ?_ ?_ ?_); walk_at "H"; rfl; decide) | ((with_reducible refine @de_bl _ _ _ _ _)) | ((with_reducible refine @de_fdiv _ _ _ _ _ _ _ ?_ ?_); walk_at "E"; walk_at "E") | ((with_reducible refine @de_ixS _ _ _ _ _ _ _ ?_ ?_ ?_); walk_at "E"; walk_at "E"; (intro _ _ ; rfl)) | ((with_reducible refine @di_range1 _ _ _ _ _ _ _ ?_ ?_ ?_ ?_); walk_at "H"; walk_at "E"; rfl; rfl) | ((with_reducible refine @do_some _ _ _ _ ?_); walk_at "E") | ((with_reducible refine @de_tup _ _ _ _ _ _ ?_); walk_at "E") | ((with_reducible refine @de_pow _ _ _ _ _ _ _ ?_ ?_); walk_at "E"; walk_at "E") | ((with_reducible refine @de_sl _ _ _ _ _ _ _ _ _ _ ?_ ?_ ?_); walk_at "E"; walk_at "E"; walk_at "E") | ((with_reducible refine @di_seq _ _ _ _ _ ?_); walk_at "E") | ((with_reducible refine @di_text _ _ _ _ _ ?_); walk_at "E") | ((with_reducible refine @de_sub _ _ _ _ _ _ _ ?_ ?_); walk_at "E"; walk_at "E") | ((with_reducible refine @dt_not _ _ _ _ _ ?_); walk_at "E") | ((with_reducible refine @do_none _ _)) | ((with_reducible refine @dw_and1 _ _ _ _ _ ?_); walk_at "E") | ((with_reducible refine @de_tab _ _ _ _ _ _ _ _ ?_ ?_ ?_ ?_ ?_); walk_at "H"; walk_at "E"; rfl; decide; (intro _ _ ; rfl)) | ((with_reducible refine @de_and _ _ _ _ _ _ _ _ ?_ ?_); walk_at "E"; walk_at "E") | ((with_reducible refine @de_strc _ _ _ _ _ _ _ ?_ ?_ ?_ ?_ ?_); walk_at "H"; walk_at "E"; rfl; rfl; rfl) | ((with_reducible refine @de_join _ _ _ _ _ _ _ _ ?_ ?_ ?_ ?_ ?_ ?_ ?_); walk_at "E"; walk_at "E"; rfl; rfl; rfl; rfl; rfl) | ((with_reducible refine @de_max _ _ _ _ _ _ _ ?_ ?_ ?_ ?_ ?_ ?_); walk_at "H"; walk_at "H"; walk_at "E"; rfl; rfl; rfl) | ((with_reducible refine @de_neg _ _ _ _ _ ?_); walk_at "E") | ((with_reducible refine @DW.dt _ _ _ _ ?_); walk_at "E") | ((with_reducible refine @dw_and _ _ _ _ _ _ _ _ ?_ ?_); walk_at "E"; walk_at "E") | ((with_reducible refine @de_intT _ _ _ _ _ _ _ ?_ ?_ ?_ ?_ ?_); walk_at "H"; walk_at "E"; rfl; rfl; rfl) | ((with_reducible refine @de_lstrip _ _ _ _ _ _ _ _ ?_ ?_ ?_ ?_ ?_ ?_ ?_); walk_at "E"; walk_at "E"; rfl; rfl; rfl; rfl; rfl) | ((with_reducible refine @df_rep _ _ _ _ _ _ _ ?_ ?_); walk_at "E"; walk_at "E") | ((with_reducible refine @de_count _ _ _ _ _ _ _ _ ?_ ?_ ?_ ?_ ?_ ?_ ?_); walk_at "E"; walk_at "E"; rfl; rfl; rfl; rfl; rfl) | ((with_reducible refine @de_rstrip _ _ _ _ _ _ _ _ ?_ ?_ ?_ ?_ ?_ ?_ ?_); walk_at "E"; walk_at "E"; rfl; rfl; rfl; rfl; rfl) | ((with_reducible refine @df_split _ _ _ _ _ _ _ _ ?_ ?_ ?_ ?_ ?_ ?_ ?_); walk_at "E"; walk_at "E"; rfl; rfl; rfl; rfl; rfl) | ((with_reducible refine @di_enumerate1 _ _ _ _ _ _ _ _ _ ?_ ?_ ?_ ?_); walk_at "H"; walk_at "E"; rfl; rfl) | ((with_reducible refine @de_non _ _ _ _)) | ((with_reducible refine @dw_or1 _ _ _ _ _ ?_); walk_at "E") | ((with_reducible refine @di_zip2 _ _ _ _ _ _ _ _ _ _ ?_ ?_ ?_ ?_ ?_); walk_at "H"; walk_at "E"; rfl; rfl; rfl) | ((with_reducible refine @dt_val _ _ _ _ ?_ ?_); walk_at "E"; (intro _ ; rfl)) | ((with_reducible refine @de_one _ _ _ _ _ _ ?_); walk_at "E") | ((refine @de_int _ _ _ _ _)) | ((refine @de_str _ _ _ _ _)) | ((refine @de_cls _ _ _ _ _ (by assumption) ?_ ?_); rfl; decide) | ((refine @dt_cmp1 _ _ _ _ _ _ _ _ _ ?_ ?_ ?_ ?_); walk_at "F"; walk_at "E"; walk_at "E"; (first | exact nobehind _ (by decide) (by decide) | rfl)) | ((refine @dt_not _ _ _ _ _ ?_); walk_at "E") | ((refine @dw_and1 _ _ _ _ _ ?_); walk_at "E") | ((refine @DW.dt _ _ _ _ ?_); walk_at "E") | ((refine @dw_and _ _ _ _ _ _ _ _ ?_ ?_); walk_at "E"; walk_at "E") | ((refine @dw_or1 _ _ _ _ _ ?_); walk_at "E") | ((refine @dt_val _ _ _ _ ?_ ?_); walk_at "E"; (intro _ ; rfl)))
local macro_rules | `(tactic| walk_at "GS") => `(tactic| first | exact @pgs_nil _ | ((refine @pgs_cons _ _ _ _ _ ?_ ?_ ?_); ((refine @pg_name _ _ _ _ ?_ ?_ ?_ ?_); assumption; rfl; (first | exact Or.inl rfl | exact Or.inr rfl); (first | exact .inl rfl | exact .inr rfl | assumption)); walk_at "GS"; rfl))
local macro_rules | `(tactic| walk_at "G") => `(tactic| first | ((with_reducible refine @dg_name _ _ _ _ ?_ ?_ ?_ ?_); assumption; rfl; (first | exact Or.inl rfl | exact Or.inr rfl); (first | exact .inl rfl | exact .inr rfl | assumption)) | ((with_reducible refine @dg_seq _ _ _ _ _ _ ?_ ?_ ?_ ?_ ?_); walk_at "H"; walk_at "GS"; rfl; rfl; rfl))
local macro_rules | `(tactic| kst_p) => `(tactic| exact @ds_set0 _ _ _ _ _ _ _ _ _ (by assumption) (by walk_at "E") (by rfl) (by first | exact Or.inl rfl | exact Or.inr rfl) (by rfl) (by first | exact .inl rfl | exact .inr rfl | assumption))
local macro_rules | `(tactic| walk_at "s3") => `(tactic| exact @ds_ret _ _ _ _ _ _ _ _ (by walk_at "E"))
local macro_rules | `(tactic| walk_at "s5") => `(tactic| exact @ds_new _ _ _ _ _ _ _ _ _ _ _ (by assumption) (by walk_at "E") (by rfl) (by rfl) (by first | exact Or.inl rfl | exact Or.inr rfl) (by rfl) (by first | exact .inl rfl | exact .inr rfl | assumption))
local macro_rules | `(tactic| walk_at "s1") => `(tactic| exact @ds_set _ _ _ _ _ _ _ _ _ _ (by assumption) (by walk_at "E") (by rfl) (by rfl) (by first | exact Or.inl rfl | exact Or.inr rfl) (by rfl) (by first | exact .inl rfl | exact .inr rfl | assumption))
local macro_rules | `(tactic| walk_at "s7") => `(tactic| exact @ds_app _ _ _ _ _ _ _ _ _ _ _ _ (by walk_at "E") (by rfl) (by rfl) (by first | exact Or.inl rfl | exact Or.inr (Or.inl rfl) | exact Or.inr (Or.inr rfl)) (by decide) (by decide) (by rfl) (by rfl) (by rfl) (by rfl) (by rfl) (by rfl))
local macro_rules | `(tactic| kst_p1) => `(tactic| exact (@dss_one _ _ _ _ _ _ _ (by walk_at "s3")))
local macro_rules | `(tactic| walk_at "I3") => `(tactic| exact (@ds_if _ _ _ _ _ _ _ _ _ _ _ _ (by walk_at "E") (by kst_p1) (@dss_nil _ _ _ _)))
set_option maxHeartbeats 4000000
variable {P : Program} {w : World} {K : xFg} {mg : Str -> Option Value} {base : Heap} {f : Addr} {fd : FuncData} {k : Nat}
local macro_rules | `(tactic| kd_p1) => `(tactic| exact ⟨rfl, rfl, rfl, by decide +kernel, rfl, by decide +kernel, by decide +kernel⟩)
local macro_rules | `(tactic| walk_at "b0") => `(tactic| exact fun _ _ _ _ _ _ => us0 (rfl))
local macro_rules | `(tactic| walk_at "b1") => `(tactic| exact fun _ _ _ _ _ _ => us1 (fun _ => rfl))
local macro_rules | `(tactic| walk_at "b2") => `(tactic| exact fun _ _ _ _ _ _ => us2 (fun _ _ => rfl))
local macro_rules | `(tactic| walk_at "b3") => `(tactic| exact fun _ _ _ _ _ _ => us3 (fun _ _ _ => rfl))
local macro_rules | `(tactic| walk_at "b4") => `(tactic| exact fun _ _ _ _ _ _ => us4 (fun _ _ _ _ => rfl))
local macro_rules | `(tactic| walk_at "b5") => `(tactic| exact fun _ _ _ _ _ _ => us5 (fun _ _ _ _ _ => rfl))
def top (i : Nat) : Stmt := PySem.Challenge.pw_chalkline_k56_sums_read.main.body.getD i (.Pass ⟨0, 0, 0, 0⟩)
theorem ok__law_mixed (F : FA K mg "_law_mixed" (top 38) ["_law_cell_here", "_law_k"] f fd) : FnAt P w K mg base (k + 1) "_law_mixed" m_law_mixed := F.ok (own' := []) (N := ["_law_cell_here", "_law_k", "_law_number"]) (by kd_p1) rfl rfl fun _ _ _ _ _ _ C L nd => (@dss_cons _ _ _ _ _ _ _ _ _ _ (by kst_p) (@dss_cons _ _ _ _ _ _ _ _ _ _ (by kst_p) (@dss_cons _ _ _ _ _ _ _ _ _ _ (by kst_p) (by kst_p1))))
theorem ok__law_digits (F : FA K mg "_law_digits" (top 39) ["_law_cell_here", "_law_many"] f fd) (q1 : mg "range" = none) (q0 : FnAt P w K mg base k "_law_mixed" m_law_mixed) : FnAt P w K mg base (k + 1) "_law_digits" m_law_digits := F.ok (own' := []) (N := ["_law_cell_here", "_law_many", "_law_found", "_law_number", "_law_k"]) (by kd_p1) rfl rfl fun _ _ _ _ _ _ C L nd => (@dss_cons _ _ _ _ _ _ _ _ _ _ (by walk_at "s5") (@dss_cons _ _ _ _ _ _ _ _ _ _ (by walk_at "s1") (@dss_cons _ _ _ _ _ _ _ _ _ _ (@ds_for _ _ _ _ _ _ _ _ _ _ _ _ L C.calm (by walk_at "E") (by walk_at "G") (@dss_one _ _ _ _ _ _ _ (@ds_if _ _ _ _ _ _ _ _ _ _ _ _ (@DW.dt _ _ _ _ (@dw_and _ _ _ _ _ _ _ _ (by walk_at "E") (@dw_and1 _ _ _ _ _ (@dt_cmp1 _ _ _ _ _ _ _ _ _ (@cf_gt _) (by walk_at "E") (@de_int _ _ _ _ _) (by first | exact nobehind _ (by decide) (by decide) | rfl))))) (@dss_cons _ _ _ _ _ _ _ _ _ _ (by walk_at "s7") (@dss_one _ _ _ _ _ _ _ (by walk_at "s1"))) (@dss_one _ _ _ _ _ _ _ (by walk_at "s7")))) (by rfl) (by intro _ ; rfl)) (@dss_rel _ _ _ _ _ _ _ _ 2 (by rfl) (by rfl) (by kst_p1)))))
theorem ok__law_words (F : FA K mg "_law_words" (top 40) ["_law_cell_here", "_law_many"] f fd) (q1 : mg "range" = none) (q0 : FnAt P w K mg base k "_law_digits" m_law_digits) : FnAt P w K mg base (k + 1) "_law_words" m_law_words := F.ok (own' := []) (N := ["_law_cell_here", "_law_many", "_law_letters", "_law_digits_here", "_law_tail", "_law_j"]) (by kd_p1) rfl rfl fun _ _ _ _ _ _ C L nd => (@dss_cons _ _ _ _ _ _ _ _ _ _ (by kst_p) (@dss_cons _ _ _ _ _ _ _ _ _ _ (by kst_p) (@dss_cons _ _ _ _ _ _ _ _ _ _ (by kst_p) (@dss_cons _ _ _ _ _ _ _ _ _ _ (@ds_for _ _ _ _ _ _ _ _ _ _ _ _ L C.calm (by walk_at "E") (by walk_at "G") (@dss_one _ _ _ _ _ _ _ (by kst_p)) (by rfl) (by intro _ ; rfl)) (@dss_cons _ _ _ _ _ _ _ _ _ _ (by walk_at "I3") (@dss_one _ _ _ _ _ _ _ (@ds_ret _ _ _ _ _ _ _ _ (@DF.val _ _ _ _ (@df_lc _ _ _ _ _ _ _ _ _ _ _ _ _ _ _ C.calm (LC.of (k := 1) (NY := ["_law_k", "_law_cell_here", "_law_many", "_law_letters", "_law_digits_here", "_law_tail", "_law_j"]) (N := ["_law_cell_here", "_law_many", "_law_letters", "_law_digits_here", "_law_tail", "_law_j"]) (sc0 := (defScope (top 40))) rfl rfl (by decide +kernel)) rfl (by walk_at "E") (fun _ _ _ _ nd2 => ⟨(by walk_at "G"), (@dts_nil _ _), (by walk_at "E")⟩) (by intro _ ; rfl))))))))))
theorem ok__law_cell (F : FA K mg "_law_cell" (top 36) ["_law_script", "_law_k"] f fd) (q0 : mg "len" = none) : FnAt P w K mg base (k + 1) "_law_cell" m_law_cell := F.ok (own' := []) (N := ["_law_script", "_law_k"]) (by kd_p1) rfl rfl fun _ _ _ _ _ _ C L nd => (@dss_cons _ _ _ _ _ _ _ _ _ _ (@ds_if _ _ _ _ _ _ _ _ _ _ _ _ (@dt_cmp1 _ _ _ _ _ _ _ _ _ (@cf_lt _) (by walk_at "E") (by walk_at "E") (by first | exact nobehind _ (by decide) (by decide) | rfl)) (by kst_p1) (@dss_nil _ _ _ _)) (by kst_p1))
theorem ok__law_leaf (F : FA K mg "_law_leaf" (top 41) ["_law_digits_here", "_law_names"] f fd) (q0 : mg "len" = none) : FnAt P w K mg base (k + 1) "_law_leaf" m_law_leaf := F.ok (own' := []) (N := ["_law_digits_here", "_law_names"]) (by kd_p1) rfl rfl fun _ _ _ _ _ _ C L nd => (@dss_cons _ _ _ _ _ _ _ _ _ _ (@ds_if _ _ _ _ _ _ _ _ _ _ _ _ (@dt_cmp1 _ _ _ _ _ _ _ _ _ (@cf_gt _) (by walk_at "E") (@de_int _ _ _ _ _) (by first | exact nobehind _ (by decide) (by decide) | rfl)) (by kst_p1) (@dss_nil _ _ _ _)) (by kst_p1))
theorem ok__law_tree (F : FA K mg "_law_tree" (top 42) ["_law_cells", "_law_names"] f fd) (q2 : mg "len" = none) (q0 : FnAt P w K mg base k "_law_digits" m_law_digits) (q1 : FnAt P w K mg base k "_law_leaf" m_law_leaf) : FnAt P w K mg base (k + 1) "_law_tree" m_law_tree := F.ok (own' := []) (N := ["_law_cells", "_law_names", "_law_stack", "_law_cell_here", "_law_digits_here", "_law_other"]) (by kd_p1) rfl rfl fun _ _ _ _ _ _ C L nd => (@dss_cons _ _ _ _ _ _ _ _ _ _ (by walk_at "s5") (@dss_cons _ _ _ _ _ _ _ _ _ _ (@ds_for _ _ _ _ _ _ _ _ _ _ _ _ L C.calm (by walk_at "E") (by walk_at "G") (@dss_cons _ _ _ _ _ _ _ _ _ _ (by walk_at "s1") (@dss_one _ _ _ _ _ _ _ (@ds_if _ _ _ _ _ _ _ _ _ _ _ _ (@DW.dt _ _ _ _ (@dw_and _ _ _ _ _ _ _ _ (@dt_cmp1 _ _ _ _ _ _ _ _ _ (@cf_gt _) (by walk_at "E") (@de_int _ _ _ _ _) (by first | exact nobehind _ (by decide) (by decide) | rfl)) (by walk_at "E"))) (@dss_cons _ _ _ _ _ _ _ _ _ _ (@ds_pop _ _ _ _ _ _ _ _ _ 2 5 _ _ nd (by rfl) (by rfl) (by rfl) (by rfl) (by first | exact Or.inl rfl | exact Or.inr (Or.inl rfl) | exact Or.inr (Or.inr rfl)) (by decide) (by decide) (by first | exact Or.inl rfl | exact Or.inr rfl) (by rfl) (by rfl) (by rfl) (by first | exact .inl rfl | exact .inr rfl | assumption)) (@dss_one _ _ _ _ _ _ _ (@ds_appPop _ _ _ _ _ _ _ _ _ _ _ _ _ 2 2 _ _ _ _ _ _ (by walk_at "E") (by walk_at "E") (by rfl) (by rfl) (by rfl) (by rfl) (by first | exact Or.inl rfl | exact Or.inr (Or.inl rfl) | exact Or.inr (Or.inr rfl)) (by decide) (by decide) (by first | exact Or.inl rfl | exact Or.inr (Or.inl rfl) | exact Or.inr (Or.inr rfl)) (by decide) (by decide) (by rfl) (by rfl) (by rfl) (by rfl) (by rfl) (by rfl) (by rfl) (by rfl) (by rfl) (by rfl) (by rfl)))) (@dss_one _ _ _ _ _ _ _ (by walk_at "s7"))))) (by rfl) (by intro _ ; rfl)) (@dss_cons _ _ _ _ _ _ _ _ _ _ (@ds_while _ _ _ _ _ _ _ _ _ L (@dt_cmp1 _ _ _ _ _ _ _ _ _ (@cf_gt _) (by walk_at "E") (@de_int _ _ _ _ _) (by first | exact nobehind _ (by decide) (by decide) | rfl)) (@dss_cons _ _ _ _ _ _ _ _ _ _ (@ds_pop _ _ _ _ _ _ _ _ _ 2 5 _ _ nd (by rfl) (by rfl) (by rfl) (by rfl) (by first | exact Or.inl rfl | exact Or.inr (Or.inl rfl) | exact Or.inr (Or.inr rfl)) (by decide) (by decide) (by first | exact Or.inl rfl | exact Or.inr rfl) (by rfl) (by rfl) (by rfl) (by first | exact .inl rfl | exact .inr rfl | assumption)) (@dss_one _ _ _ _ _ _ _ (@ds_appPopP _ _ _ _ _ _ _ _ _ _ _ _ _ 2 2 _ _ _ _ _ _ (by walk_at "E") (by walk_at "E") (by rfl) (by rfl) (by rfl) (by rfl) (by first | exact Or.inl rfl | exact Or.inr (Or.inl rfl) | exact Or.inr (Or.inr rfl)) (by decide) (by decide) (by first | exact Or.inl rfl | exact Or.inr (Or.inl rfl) | exact Or.inr (Or.inr rfl)) (by decide) (by decide) (by rfl) (by rfl) (by rfl) (by rfl) (by rfl) (by rfl) (by rfl) (by rfl) (by rfl) (by rfl) (by rfl))))) (@dss_rel _ _ _ _ _ _ _ _ 2 (by rfl) (by rfl) (by kst_p1)))))
theorem ok__law_part (F : FA K mg "_law_part" (top 43) ["_law_tree_here", "_law_least"] f fd) (q0 : mg "str" = none) (q1 : mg "int" = none) : FnAt P w K mg base (k + 1 + 64) "_law_part" m_law_part := show FnAt P w K mg base (k + 1 + 64) "_law_part" (recM (fun m => fnM 2 4 (b_law_part m)) 64) from F.deep (own' := []) (N := ["_law_tree_here", "_law_least", "_law_close", "_law_text"]) (by kd_p1) rfl rfl (fun j m F__law_part _ _ _ _ _ _ C L nd => (@dss_cons _ _ _ _ _ _ _ _ _ _ (by walk_at "I3") (@dss_cons _ _ _ _ _ _ _ _ _ _ (by walk_at "I3") (@dss_cons _ _ _ _ _ _ _ _ _ _ (by kst_p) (@dss_cons _ _ _ _ _ _ _ _ _ _ (by kst_p) (@dss_cons _ _ _ _ _ _ _ _ _ _ (@ds_if _ _ _ _ _ _ _ _ _ _ _ _ (@dt_cmp1 _ _ _ _ _ _ _ _ _ (@cf_lt _) (by walk_at "E") (by walk_at "E") (by first | exact nobehind _ (by decide) (by decide) | rfl)) (by kst_p1) (@dss_nil _ _ _ _)) (by kst_p1))))))) 64
theorem ok__law_deep (F : FA K mg "_law_deep" (top 44) ["_law_text"] f fd) (q0 : mg "int" = none) (q1 : mg "max" = none) : FnAt P w K mg base (k + 1) "_law_deep" m_law_deep := F.ok (own' := []) (N := ["_law_text", "_law_deep_here", "_law_most", "_law_sign"]) (by kd_p1) rfl rfl fun _ _ _ _ _ _ C L nd => (@dss_cons _ _ _ _ _ _ _ _ _ _ (by kst_p) (@dss_cons _ _ _ _ _ _ _ _ _ _ (by kst_p) (@dss_cons _ _ _ _ _ _ _ _ _ _ (@ds_for _ _ _ _ _ _ _ _ _ _ _ _ L C.calm (by walk_at "E") (by walk_at "G") (@dss_cons _ _ _ _ _ _ _ _ _ _ (by kst_p) (@dss_one _ _ _ _ _ _ _ (by kst_p))) (by rfl) (by intro _ ; rfl)) (by kst_p1))))
theorem ok_join_sides (F : FA K mg "join_sides" (top 34) ["sides", "signs", "least"] f fd) (q1 : mg "len" = none) (q0 : TabK K mg w "BINDS" k_BINDS) : FnAtO P w K mg base (k + 1) "join_sides" 0 1 m_join_sides := F.okO (N := ["sides", "signs", "least", "other", "one"]) (by kd_p1) rfl rfl fun _ _ _ _ _ _ _ _ C L nd => (@dhs_one _ _ _ _ _ (@dh_while _ _ _ _ _ _ _ _ L (@DW.dt _ _ _ _ (@dw_and _ _ _ _ _ _ _ _ (@dt_cmp1 _ _ _ _ _ _ _ _ _ (@cf_gt _) (by walk_at "E") (@de_int _ _ _ _ _) (by first | exact nobehind _ (by decide) (by decide) | rfl)) (@dw_and1 _ _ _ _ _ (@dt_cmp1 _ _ _ _ _ _ _ _ _ (@cf_ge _) (by walk_at "E") (by walk_at "E") (by first | exact nobehind _ (by decide) (by decide) | rfl))))) (@dhs_cons _ _ _ _ _ _ _ (@dh_pop _ _ _ _ _ _ _ _ 0 3 _ _ nd (by rfl) (by rfl) (by rfl) (by rfl) (by first | exact Or.inl rfl | exact Or.inr (Or.inl rfl) | exact Or.inr (Or.inr rfl)) (by decide) (by decide) (by first | exact Or.inl rfl | exact Or.inr rfl) (by rfl) (by rfl) (by rfl) (by first | exact .inl rfl | exact .inr rfl | assumption)) (@dhs_cons _ _ _ _ _ _ _ (@dh_pop _ _ _ _ _ _ _ _ 0 4 _ _ nd (by rfl) (by rfl) (by rfl) (by rfl) (by first | exact Or.inl rfl | exact Or.inr (Or.inl rfl) | exact Or.inr (Or.inr rfl)) (by decide) (by decide) (by first | exact Or.inl rfl | exact Or.inr rfl) (by rfl) (by rfl) (by rfl) (by first | exact .inl rfl | exact .inr rfl | assumption)) (@dhs_one _ _ _ _ _ (@dh_appPop _ _ _ _ _ _ _ _ _ _ _ _ 0 1 _ _ _ _ _ _ (by walk_at "E") (by walk_at "E") (by rfl) (by rfl) (by rfl) (by rfl) (by first | exact Or.inl rfl | exact Or.inr (Or.inl rfl) | exact Or.inr (Or.inr rfl)) (by decide) (by decide) (by first | exact Or.inl rfl | exact Or.inr (Or.inl rfl) | exact Or.inr (Or.inr rfl)) (by decide) (by decide) (by rfl) (by rfl) (by rfl) (by rfl) (by rfl) (by rfl) (by rfl) (by rfl) (by rfl) (by rfl) (by rfl)))))))
theorem ok_is_word (F : FA K mg "is_word" (top 23) ["thing"] f fd) (q1 : mg "isinstance" = none) (q3 : mg "str" = none) (q4 : mg "len" = none) (q5 : mg "all" = none) (q0 : ∃ u v, mg "MOST_LETTERS" = some u /\ RelV v u /\ ∀ G, Rep K mg G k_MOST_LETTERS v) (q2 : ∃ u v, mg "LETTERS" = some u /\ RelV v u /\ ∀ G, Rep K mg G k_LETTERS v) : FnAt P w K mg base (k + 1) "is_word" m_is_word := F.ok (own' := []) (N := ["thing"]) (by kd_p1) rfl rfl fun _ _ _ _ _ _ C L nd => (@dss_cons _ _ _ _ _ _ _ _ _ _ (@ds_if _ _ _ _ _ _ _ _ _ _ _ _ (@DW.dt _ _ _ _ (@dw_or _ _ _ _ _ _ _ _ (@dt_not _ _ _ _ _ (@dt_val _ _ _ _ (@de_isi _ _ _ _ _ _ _ q1 (@da_cons _ _ _ _ _ _ (by walk_at "E") (@da_cons _ _ _ _ _ _ (@de_ty _ _ _ _ _ q3 bt_str (by rfl) (by decide) (by decide)) (@da_nil _ _) (by rfl)) (by rfl)) (by rfl) (by rfl) (by rfl)) (by intro _ ; rfl))) (@dw_or1 _ _ _ _ _ (@dt_not _ _ _ _ _ (@dt_chain2 _ _ _ _ _ _ _ _ _ _ _ _ _ (@cf_le _) (@cf_le _) (@de_int _ _ _ _ _) (by walk_at "E") (by walk_at "E") (by with_unfolding_all rfl)))))) (by kst_p1) (@dss_nil _ _ _ _)) (@dss_one _ _ _ _ _ _ _ (@ds_ret _ _ _ _ _ _ _ _ (@de_all _ _ _ _ _ _ _ C.calm q5 (@da_cons _ _ _ _ _ _ (@DF.val _ _ _ _ (@df_lc _ _ _ _ _ _ _ _ _ _ _ _ _ _ _ C.calm (LC.of (k := 1) (NY := ["sign", "thing"]) (N := ["thing"]) (sc0 := (defScope (top 23))) rfl rfl (by decide +kernel)) rfl (by walk_at "E") (fun _ _ _ _ nd2 => ⟨(by walk_at "G"), (@dts_nil _ _), (by walk_at "E")⟩) (by intro _ ; rfl))) (@da_nil _ _) (by rfl)) (by rfl) (by rfl) (by rfl)))))
theorem ok_read_number (F : FA K mg "read_number" (top 19) ["word"] f fd) {q1 : Addr} (q2 : mg "NoText" = some (.ref q1)) (q3 : PySem.W.excIn K q1 [.type "ValueError", .type "Exception", .type "BaseException", .type "object"] "ValueError.__new__" = true) (q4 : XcOk K mg "NoText" q1) (q5 : mg "all" = none) (q6 : mg "int" = none) (q0 : ∃ u v, mg "FIGURES" = some u /\ RelV v u /\ ∀ G, Rep K mg G k_FIGURES v) : FnAt P w K mg base (k + 1) "read_number" m_read_number := F.ok (own' := []) (N := ["word"]) (by kd_p1) rfl rfl fun _ _ _ _ _ _ C L nd => (@dss_cons _ _ _ _ _ _ _ _ _ _ (@ds_if _ _ _ _ _ _ _ _ _ _ _ _ (@DW.dt _ _ _ _ (@dw_or _ _ _ _ _ _ _ _ (by walk_at "E") (@dw_or1 _ _ _ _ _ (@dt_not _ _ _ _ _ (@dt_val _ _ _ _ (@de_all _ _ _ _ _ _ _ C.calm q5 (@da_cons _ _ _ _ _ _ (@DF.val _ _ _ _ (@df_lc _ _ _ _ _ _ _ _ _ _ _ _ _ _ _ C.calm (LC.of (k := 1) (NY := ["sign", "word"]) (N := ["word"]) (sc0 := (defScope (top 19))) rfl rfl (by decide +kernel)) rfl (by walk_at "E") (fun _ _ _ _ nd2 => ⟨(by walk_at "G"), (@dts_nil _ _), (by walk_at "E")⟩) (by intro _ ; rfl))) (@da_nil _ _) (by rfl)) (by rfl) (by rfl) (by rfl)) (by intro _ ; rfl)))))) (@dss_one _ _ _ _ _ _ _ (@ds_raise1 _ _ _ _ _ _ _ _ _ _ _ _ _ _ _ _ _ _ _ _ _ _ _ _ _ _ q3 q4 (by rfl) (by decide))) (@dss_nil _ _ _ _)) (@dss_cons _ _ _ _ _ _ _ _ _ _ (@ds_if _ _ _ _ _ _ _ _ _ _ _ _ (by walk_at "E") (@dss_one _ _ _ _ _ _ _ (@ds_raise1 _ _ _ _ _ _ _ _ _ _ _ _ _ _ _ _ _ _ _ _ _ _ _ _ _ _ q3 q4 (by rfl) (by decide))) (@dss_nil _ _ _ _)) (by kst_p1)))
theorem ok_read_core (F : FA K mg "read_core" (top 32) ["word"] f fd) {q3 : Addr} (q4 : mg "NoText" = some (.ref q3)) (q5 : PySem.W.excIn K q3 [.type "ValueError", .type "Exception", .type "BaseException", .type "object"] "ValueError.__new__" = true) (q6 : XcOk K mg "NoText" q3) (q7 : mg "len" = none) (q0 : ∃ u v, mg "MOST_FIGURES" = some u /\ RelV v u /\ ∀ G, Rep K mg G k_MOST_FIGURES v) (q2 : FnAt P w K mg base k "is_word" m_is_word) (q1 : FnAt P w K mg base k "read_number" m_read_number) : FnAt P w K mg base (k + 1) "read_core" m_read_core := F.ok (own' := []) (N := ["word"]) (by kd_p1) rfl rfl fun _ _ _ _ _ _ C L nd => (@dss_cons _ _ _ _ _ _ _ _ _ _ (by walk_at "I3") (@dss_cons _ _ _ _ _ _ _ _ _ _ (@ds_if _ _ _ _ _ _ _ _ _ _ _ _ (@dt_cmp1 _ _ _ _ _ _ _ _ _ (@cf_gt _) (by walk_at "E") (by walk_at "E") (by first | exact nobehind _ (by decide) (by decide) | rfl)) (@dss_one _ _ _ _ _ _ _ (@ds_raise1 _ _ _ _ _ _ _ _ _ _ _ _ _ _ _ _ _ _ _ _ _ _ _ _ _ _ q5 q6 (by rfl) (by decide))) (@dss_nil _ _ _ _)) (by kst_p1)))
theorem ok_read_side (F : FA K mg "read_side" (top 31) ["word", "sides", "signs"] f fd) {q3 : Addr} (q4 : mg "NoText" = some (.ref q3)) (q5 : PySem.W.excIn K q3 [.type "ValueError", .type "Exception", .type "BaseException", .type "object"] "ValueError.__new__" = true) (q6 : XcOk K mg "NoText" q3) (q8 : mg "len" = none) (q7 : mg "range" = none) (q0 : ∃ u v, mg "MOST_DEEP" = some u /\ RelV v u /\ ∀ G, Rep K mg G k_MOST_DEEP v) (q2 : FnAt P w K mg base k "read_core" m_read_core) (q1 : FnAtO P w K mg base k "join_sides" 0 1 m_join_sides) : FnAtO P w K mg base (k + 1) "read_side" 1 2 m_read_side := F.okO (N := ["word", "sides", "signs", "bare", "core", "turn"]) (by kd_p1) rfl rfl fun _ _ _ _ _ _ _ _ C L nd => (@dhs_cons _ _ _ _ _ _ _ (@dh_set _ _ _ _ _ _ _ _ 3 nd (by walk_at "E") (by rfl) (by rfl) (by first | exact Or.inl rfl | exact Or.inr rfl) (by rfl) (by first | exact .inl rfl | exact .inr rfl | assumption)) (@dhs_cons _ _ _ _ _ _ _ (@dh_ext _ _ _ _ _ _ _ _ 2 _ _ (by walk_at "E") (by rfl) (by rfl) (by first | exact Or.inl rfl | exact Or.inr (Or.inl rfl) | exact Or.inr (Or.inr rfl)) (by decide) (by decide) (by rfl) (by rfl) (by rfl) (by rfl) (by rfl) (by rfl)) (@dhs_cons _ _ _ _ _ _ _ (@dh_if _ _ _ _ _ _ _ _ _ _ (@dt_cmp1 _ _ _ _ _ _ _ _ _ (@cf_gt _) (by walk_at "E") (by walk_at "E") (by first | exact nobehind _ (by decide) (by decide) | rfl)) (@dhs_one _ _ _ _ _ (@dh_raise1 _ _ _ _ _ _ _ _ _ _ _ _ _ _ _ _ _ _ _ _ _ _ _ _ q5 q6 (by rfl) (by decide))) (@dhs_nil _ _ _)) (@dhs_cons _ _ _ _ _ _ _ (@dh_set _ _ _ _ _ _ _ _ 4 nd (by walk_at "E") (by rfl) (by rfl) (by first | exact Or.inl rfl | exact Or.inr rfl) (by rfl) (by first | exact .inl rfl | exact .inr rfl | assumption)) (@dhs_cons _ _ _ _ _ _ _ (@dh_app _ _ _ _ _ _ _ _ 1 _ _ (by walk_at "E") (by rfl) (by rfl) (by first | exact Or.inl rfl | exact Or.inr (Or.inl rfl) | exact Or.inr (Or.inr rfl)) (by decide) (by decide) (by rfl) (by rfl) (by rfl) (by rfl) (by rfl) (by rfl)) (@dhs_one _ _ _ _ _ (@dh_for _ _ _ _ _ _ _ _ _ 5 _ L C.calm (by walk_at "E") (by walk_at "G") (@dhs_cons _ _ _ _ _ _ _ (@dh_ooe _ _ _ _ _ _ _ _ _ _ _ _ _ _ _ 1 2 C q1 (@de_int _ _ _ _ _) (by rfl) (by rfl) (by decide) (by rfl) (by rfl) (by first | exact Or.inl rfl | exact Or.inr (Or.inl rfl) | exact Or.inr (Or.inr rfl)) (by decide) (by decide) (by first | exact Or.inl rfl | exact Or.inr (Or.inl rfl) | exact Or.inr (Or.inr rfl)) (by decide) (by decide) (by rfl) (by decide) (by rfl) (by rfl) (by rfl) (by rfl) (by rfl)) (@dhs_cons _ _ _ _ _ _ _ (@dh_if _ _ _ _ _ _ _ _ _ _ (by walk_at "E") (@dhs_one _ _ _ _ _ (@dh_raise1 _ _ _ _ _ _ _ _ _ _ _ _ _ _ _ _ _ _ _ _ _ _ _ _ q5 q6 (by rfl) (by decide))) (@dhs_nil _ _ _)) (@dhs_one _ _ _ _ _ (@dh_popE _ _ _ _ _ _ 2 _ _ (by rfl) (by rfl) (by first | exact Or.inl rfl | exact Or.inr (Or.inl rfl) | exact Or.inr (Or.inr rfl)) (by decide) (by decide) (by rfl) (by rfl) (by rfl))))) (by rfl) (by intro _ ; rfl))))))))
theorem ok_read_sign (F : FA K mg "read_sign" (top 33) ["word", "sides", "signs"] f fd) {q2 : Addr} (q3 : mg "NoText" = some (.ref q2)) (q4 : PySem.W.excIn K q2 [.type "ValueError", .type "Exception", .type "BaseException", .type "object"] "ValueError.__new__" = true) (q5 : XcOk K mg "NoText" q2) (q1 : ∃ u v, mg "SIGNS" = some u /\ RelV v u /\ ∀ G, Rep K mg G k_SIGNS v) (q6 : TabK K mg w "BINDS" k_BINDS) (q0 : FnAtO P w K mg base k "join_sides" 0 1 m_join_sides) : FnAtO P w K mg base (k + 1) "read_sign" 1 2 m_read_sign := F.okO (N := ["word", "sides", "signs"]) (by kd_p1) rfl rfl fun _ _ _ _ _ _ _ _ C L nd => (@dhs_cons _ _ _ _ _ _ _ (@dh_if _ _ _ _ _ _ _ _ _ _ (by walk_at "E") (@dhs_one _ _ _ _ _ (@dh_raise1 _ _ _ _ _ _ _ _ _ _ _ _ _ _ _ _ _ _ _ _ _ _ _ _ q4 q5 (by rfl) (by decide))) (@dhs_nil _ _ _)) (@dhs_cons _ _ _ _ _ _ _ (@dh_ooe _ _ _ _ _ _ _ _ _ _ _ _ _ _ _ 1 2 C q0 (by walk_at "E") (by rfl) (by rfl) (by decide) (by rfl) (by rfl) (by first | exact Or.inl rfl | exact Or.inr (Or.inl rfl) | exact Or.inr (Or.inr rfl)) (by decide) (by decide) (by first | exact Or.inl rfl | exact Or.inr (Or.inl rfl) | exact Or.inr (Or.inr rfl)) (by decide) (by decide) (by rfl) (by decide) (by rfl) (by rfl) (by rfl) (by rfl) (by rfl)) (@dhs_one _ _ _ _ _ (@dh_app _ _ _ _ _ _ _ _ 2 _ _ (by walk_at "E") (by rfl) (by rfl) (by first | exact Or.inl rfl | exact Or.inr (Or.inl rfl) | exact Or.inr (Or.inr rfl)) (by decide) (by decide) (by rfl) (by rfl) (by rfl) (by rfl) (by rfl) (by rfl)))))
theorem ok_read_sum (F : FA K mg "read_sum" (top 30) ["text"] f fd) {q6 : Addr} (q7 : mg "NoText" = some (.ref q6)) (q8 : PySem.W.excIn K q6 [.type "ValueError", .type "Exception", .type "BaseException", .type "object"] "ValueError.__new__" = true) (q9 : XcOk K mg "NoText" q6) (q1 : mg "isinstance" = none) (q10 : mg "str" = none) (q11 : mg "len" = none) (q3 : mg "enumerate" = none) (q0 : ∃ u v, mg "MOST_SIGNS" = some u /\ RelV v u /\ ∀ G, Rep K mg G k_MOST_SIGNS v) (q4 : FnAtO P w K mg base k "read_side" 1 2 m_read_side) (q5 : FnAtO P w K mg base k "read_sign" 1 2 m_read_sign) (q2 : FnAtO P w K mg base k "join_sides" 0 1 m_join_sides) : FnAt P w K mg base (k + 1) "read_sum" m_read_sum := F.ok (own' := []) (N := ["text", "words", "sides", "signs", "at", "word"]) (by kd_p1) rfl rfl fun _ _ _ _ _ _ C L nd => (@dss_cons _ _ _ _ _ _ _ _ _ _ (@ds_if _ _ _ _ _ _ _ _ _ _ _ _ (@dt_not _ _ _ _ _ (@dt_val _ _ _ _ (@de_isi _ _ _ _ _ _ _ q1 (@da_cons _ _ _ _ _ _ (by walk_at "E") (@da_cons _ _ _ _ _ _ (@de_ty _ _ _ _ _ q10 bt_str (by rfl) (by decide) (by decide)) (@da_nil _ _) (by rfl)) (by rfl)) (by rfl) (by rfl) (by rfl)) (by intro _ ; rfl))) (@dss_one _ _ _ _ _ _ _ (@ds_raise1 _ _ _ _ _ _ _ _ _ _ _ _ _ _ _ _ _ _ _ _ _ _ _ _ _ _ q8 q9 (by rfl) (by decide))) (@dss_nil _ _ _ _)) (@dss_cons _ _ _ _ _ _ _ _ _ _ (by kst_p) (@dss_cons _ _ _ _ _ _ _ _ _ _ (@ds_if _ _ _ _ _ _ _ _ _ _ _ _ (@DW.dt _ _ _ _ (@dw_or _ _ _ _ _ _ _ _ (by walk_at "E") (@dw_or1 _ _ _ _ _ (@dt_cmp1 _ _ _ _ _ _ _ _ _ (@cf_gt _) (by walk_at "E") (by walk_at "E") (by first | exact nobehind _ (by decide) (by decide) | rfl))))) (@dss_one _ _ _ _ _ _ _ (@ds_raise1 _ _ _ _ _ _ _ _ _ _ _ _ _ _ _ _ _ _ _ _ _ _ _ _ _ _ q8 q9 (by rfl) (by decide))) (@dss_nil _ _ _ _)) (@dss_cons _ _ _ _ _ _ _ _ _ _ (by walk_at "s5") (@dss_cons _ _ _ _ _ _ _ _ _ _ (by walk_at "s5") (@dss_cons _ _ _ _ _ _ _ _ _ _ (@ds_for _ _ _ _ _ _ _ _ _ _ _ _ L C.calm (by walk_at "E") (by walk_at "G") (@dss_one _ _ _ _ _ _ _ (@ds_if _ _ _ _ _ _ _ _ _ _ _ _ (by walk_at "E") (@dss_one _ _ _ _ _ _ _ (@ds_eoo _ _ _ _ _ _ _ _ _ _ _ _ _ _ _ _ 2 3 C q4 (by walk_at "E") (by rfl) (by rfl) (by decide) (by rfl) (by rfl) (by first | exact Or.inl rfl | exact Or.inr (Or.inl rfl) | exact Or.inr (Or.inr rfl)) (by decide) (by decide) (by first | exact Or.inl rfl | exact Or.inr (Or.inl rfl) | exact Or.inr (Or.inr rfl)) (by decide) (by decide) (by rfl) (by decide) (by rfl) (by rfl) (by rfl) (by rfl) (by rfl))) (@dss_one _ _ _ _ _ _ _ (@ds_eoo _ _ _ _ _ _ _ _ _ _ _ _ _ _ _ _ 2 3 C q5 (by walk_at "E") (by rfl) (by rfl) (by decide) (by rfl) (by rfl) (by first | exact Or.inl rfl | exact Or.inr (Or.inl rfl) | exact Or.inr (Or.inr rfl)) (by decide) (by decide) (by first | exact Or.inl rfl | exact Or.inr (Or.inl rfl) | exact Or.inr (Or.inr rfl)) (by decide) (by decide) (by rfl) (by decide) (by rfl) (by rfl) (by rfl) (by rfl) (by rfl))))) (by rfl) (by intro _ ; rfl)) (@dss_cons _ _ _ _ _ _ _ _ _ _ (@ds_ooe _ _ _ _ _ _ _ _ _ _ _ _ _ _ _ _ 2 3 C q2 (@de_int _ _ _ _ _) (by rfl) (by rfl) (by decide) (by rfl) (by rfl) (by first | exact Or.inl rfl | exact Or.inr (Or.inl rfl) | exact Or.inr (Or.inr rfl)) (by decide) (by decide) (by first | exact Or.inl rfl | exact Or.inr (Or.inl rfl) | exact Or.inr (Or.inr rfl)) (by decide) (by decide) (by rfl) (by decide) (by rfl) (by rfl) (by rfl) (by rfl) (by rfl)) (@dss_rel _ _ _ _ _ _ _ _ 3 (by rfl) (by rfl) (@dss_rel _ _ _ _ _ _ _ _ 2 (by rfl) (by rfl) (@dss_cons _ _ _ _ _ _ _ _ _ _ (@ds_if _ _ _ _ _ _ _ _ _ _ _ _ (@dt_cmp1 _ _ _ _ _ _ _ _ _ (@cf_gt _) (by walk_at "E") (@de_int _ _ _ _ _) (by first | exact nobehind _ (by decide) (by decide) | rfl)) (@dss_one _ _ _ _ _ _ _ (@ds_raise1 _ _ _ _ _ _ _ _ _ _ _ _ _ _ _ _ _ _ _ _ _ _ _ _ _ _ q8 q9 (by rfl) (by decide))) (@dss_nil _ _ _ _)) (by kst_p1)))))))))))
theorem ok__law_alone (F : FA K mg "_law_alone" (top 47) ["_law_error"] f fd) {q6 : Addr} (q7 : mg "NoPlace" = some (.ref q6)) {q32 : Addr} (q33 : mg "Same" = some (.ref q32)) {q8 : Addr} (q9 : mg "NoFloor" = some (.ref q8)) {q10 : Addr} (q11 : mg "Endless" = some (.ref q10)) {q20 : Addr} (q21 : mg "NoDeed" = some (.ref q20)) {q22 : Addr} (q23 : mg "NoText" = some (.ref q22)) {q24 : Addr} (q25 : mg "NoName" = some (.ref q24)) {q12 : Addr} (q13 : mg "TooMany" = some (.ref q12)) {q4 : Addr} (q5 : mg "NoChange" = some (.ref q4)) {q14 : Addr} (q15 : mg "NoFrame" = some (.ref q14)) {q16 : Addr} (q17 : mg "NoValue" = some (.ref q16)) {q26 : Addr} (q27 : mg "Unlike" = some (.ref q26)) {q18 : Addr} (q19 : mg "NoRatio" = some (.ref q18)) {q28 : Addr} (q29 : mg "NoBow" = some (.ref q28)) {q30 : Addr} (q31 : mg "NoRow" = some (.ref q30)) {q0 : Addr} (q1 : mg "ChalkError" = some (.ref q0)) (q34 : mg "int" = none) (q2 : mg "isinstance" = none) (q3 : mg "ValueError" = none) : FnAt P w K mg base (k + 1) "_law_alone" m_law_alone := F.ok (own' := []) (N := ["_law_error", "_law_many"]) (by kd_p1) rfl rfl fun _ _ _ _ _ _ C L nd => (@dss_cons _ _ _ _ _ _ _ _ _ _ (by kst_p) (@dss_cons _ _ _ _ _ _ _ _ _ _ (by kst_p) (@dss_cons _ _ _ _ _ _ _ _ _ _ (by kst_p) (@dss_cons _ _ _ _ _ _ _ _ _ _ (by kst_p) (@dss_cons _ _ _ _ _ _ _ _ _ _ (by kst_p) (@dss_one _ _ _ _ _ _ _ (@ds_ret _ _ _ _ _ _ _ _ (@de_and _ _ _ _ _ _ _ _ (by walk_at "E") (@de_and _ _ _ _ _ _ _ _ (by walk_at "E") (@de_one _ _ _ _ _ _ (@de_isi _ _ _ _ _ _ _ q2 (@da_cons _ _ _ _ _ _ (by walk_at "E") (@da_cons _ _ _ _ _ _ (@de_ty _ _ _ _ _ q3 bt_ValueError (by rfl) (by decide) (by decide)) (@da_nil _ _) (by rfl)) (by rfl)) (by rfl) (by rfl) (by rfl))))))))))))
theorem ok__law_refused (F : FA K mg "_law_refused" (top 46) ["_law_thing"] f fd) {q0 : Addr} (q1 : mg "ChalkError" = some (.ref q0)) {q5 : Addr} (q6 : mg "NoText" = some (.ref q5)) (q2 : mg "isinstance" = none) (q4 : FnAt P w K mg base k "read_sum" m_read_sum) (q3 : FnAt P w K mg base k "_law_alone" m_law_alone) : FnAt P w K mg base (k + 1) "_law_refused" m_law_refused_v16 := F.ok (own' := []) (N := ["_law_thing", "_law_kept", "_law_error"]) (by kd_p1) rfl rfl fun _ _ _ _ _ _ C L nd => (@dss_cons _ _ _ _ _ _ _ _ _ _ (by kst_p) (@dss_cons _ _ _ _ _ _ _ _ _ _ (@ds_try _ _ _ _ 2 _ _ _ _ _ _ _ _ _ rfl rfl nd q1 (@dsxs_one _ _ _ (@dsx_call _ _ _ _ _ _ _ _ _ _ C.room q4 (by walk_at "E") (by rfl) (by decide) (by rfl) (by rfl) (by rfl))) (fun _ => (@dss_one _ _ _ _ _ _ _ (by kst_p))) (by rfl) (by rfl) (by rfl) (by decide)) (@dss_one _ _ _ _ _ _ _ (@ds_ret _ _ _ _ _ _ _ _ (@de_and _ _ _ _ _ _ _ _ (@de_cmp1 _ _ _ _ _ _ _ _ _ (@cf_isn _) (by walk_at "E") (@de_non _ _ _ _) (by first | exact nobehind _ (by decide) (by decide) | rfl)) (by walk_at "E"))))))
theorem ok__law_whole (F : FA K mg "_law_whole" (top 37) ["_law_found"] f fd) (q0 : mg "isinstance" = none) (q2 : mg "int" = none) (q1 : mg "bool" = none) : FnAt P w K mg base (k + 1) "_law_whole" m_law_whole := F.ok (own' := []) (N := ["_law_found"]) (by kd_p1) rfl rfl fun _ _ _ _ _ _ C L nd => (@dss_one _ _ _ _ _ _ _ (@ds_ret _ _ _ _ _ _ _ _ (@de_and _ _ _ _ _ _ _ _ (@de_isi _ _ _ _ _ _ _ q0 (@da_cons _ _ _ _ _ _ (by walk_at "E") (@da_cons _ _ _ _ _ _ (@de_ty _ _ _ _ _ q2 bt_int (by rfl) (by decide) (by decide)) (@da_nil _ _) (by rfl)) (by rfl)) (by rfl) (by rfl) (by rfl)) (@de_one _ _ _ _ _ _ (@de_not _ _ _ _ _ (@de_isi _ _ _ _ _ _ _ q0 (@da_cons _ _ _ _ _ _ (by walk_at "E") (@da_cons _ _ _ _ _ _ (@de_ty _ _ _ _ _ q1 bt_bool (by rfl) (by decide) (by decide)) (@da_nil _ _) (by rfl)) (by rfl)) (by rfl) (by rfl) (by rfl)))))))
theorem ok__law_like (F : FA K mg "_law_like" (top 45) ["_law_found", "_law_due"] f fd) (q0 : mg "isinstance" = none) (q2 : mg "tuple" = none) (q3 : mg "len" = none) (q4 : mg "zip" = none) (q5 : mg "str" = none) (q1 : FnAt P w K mg base k "_law_whole" m_law_whole) : FnAt P w K mg base (k + 1 + 64) "_law_like" m_law_like := show FnAt P w K mg base (k + 1 + 64) "_law_like" (recM (fun m => fnM 2 4 (b_law_like m)) 64) from F.deep (own' := []) (N := ["_law_found", "_law_due", "_law_one", "_law_other"]) (by kd_p1) rfl rfl (fun j m F__law_like _ _ _ _ _ _ C L nd => have q1 := FnAt.mono q1 (show k <= k + 1 + j by omega); (@dss_cons _ _ _ _ _ _ _ _ _ _ (@ds_if _ _ _ _ _ _ _ _ _ _ _ _ (@dt_val _ _ _ _ (@de_isi _ _ _ _ _ _ _ q0 (@da_cons _ _ _ _ _ _ (by walk_at "E") (@da_cons _ _ _ _ _ _ (@de_ty _ _ _ _ _ q2 bt_tuple (by rfl) (by decide) (by decide)) (@da_nil _ _) (by rfl)) (by rfl)) (by rfl) (by rfl) (by rfl)) (by intro _ ; rfl)) (@dss_cons _ _ _ _ _ _ _ _ _ _ (@ds_if _ _ _ _ _ _ _ _ _ _ _ _ (@DW.dt _ _ _ _ (@dw_or _ _ _ _ _ _ _ _ (@dt_not _ _ _ _ _ (@dt_val _ _ _ _ (@de_isi _ _ _ _ _ _ _ q0 (@da_cons _ _ _ _ _ _ (by walk_at "E") (@da_cons _ _ _ _ _ _ (@de_ty _ _ _ _ _ q2 bt_tuple (by rfl) (by decide) (by decide)) (@da_nil _ _) (by rfl)) (by rfl)) (by rfl) (by rfl) (by rfl)) (by intro _ ; rfl))) (by walk_at "E"))) (by kst_p1) (@dss_nil _ _ _ _)) (@dss_cons _ _ _ _ _ _ _ _ _ _ (@ds_for _ _ _ _ _ _ _ _ _ _ _ _ L C.calm (by walk_at "E") (by walk_at "G") (@dss_one _ _ _ _ _ _ _ (by walk_at "I3")) (by rfl) (by intro _ ; rfl)) (by kst_p1))) (@dss_nil _ _ _ _)) (@dss_cons _ _ _ _ _ _ _ _ _ _ (@ds_if _ _ _ _ _ _ _ _ _ _ _ _ (@dt_val _ _ _ _ (@de_isi _ _ _ _ _ _ _ q0 (@da_cons _ _ _ _ _ _ (by walk_at "E") (@da_cons _ _ _ _ _ _ (@de_ty _ _ _ _ _ q5 bt_str (by rfl) (by decide) (by decide)) (@da_nil _ _) (by rfl)) (by rfl)) (by rfl) (by rfl) (by rfl)) (by intro _ ; rfl)) (@dss_one _ _ _ _ _ _ _ (@ds_ret _ _ _ _ _ _ _ _ (@de_and _ _ _ _ _ _ _ _ (@de_isi _ _ _ _ _ _ _ q0 (@da_cons _ _ _ _ _ _ (by walk_at "E") (@da_cons _ _ _ _ _ _ (@de_ty _ _ _ _ _ q5 bt_str (by rfl) (by decide) (by decide)) (@da_nil _ _) (by rfl)) (by rfl)) (by rfl) (by rfl) (by rfl)) (by walk_at "E")))) (@dss_nil _ _ _ _)) (by kst_p1)))) 64
abbrev s_law : Stmt := top 48
theorem sc_law : FnScope ["_law_script", "_law_names", "_law_cells", "_law_many", "_law_tree_here", "_law_text", "_law_some"] ["_law_script"] (defScope s_law) := by kd_p1
theorem ok_law (F : Fun K "law" "law" s_law f fd) (q8 : mg "len" = none) (q1 : FnAt P w K mg base k "_law_words" m_law_words) (q2 : FnAt P w K mg base k "_law_cell" m_law_cell) (q3 : FnAt P w K mg base k "_law_tree" m_law_tree) (q4 : FnAt P w K mg base k "_law_part" m_law_part) (q5 : FnAt P w K mg base k "_law_deep" m_law_deep) (q0 : FnAt P w K mg base k "_law_refused" m_law_refused_v16) (q6 : FnAt P w K mg base k "_law_like" m_law_like) (q7 : FnAt P w K mg base k "read_sum" m_read_sum) : FnOk P w K mg base (CXe P w) (k + 1) f fd ["_law_script"] (spD K mg m_law_v45) := by
  refine fnOk_mk (own' := []) F sc_law rfl rfl fun X E hX C L => ?_
  obtain ⟨cdv, A, outer, s, H, rfl⟩ := hX
  have nd := sc_law.nd
  exact (@dss_cons _ _ _ _ _ _ _ _ _ _ (by kst_p) (@dss_cons _ _ _ _ _ _ _ _ _ _ (by kst_p) (@dss_cons _ _ _ _ _ _ _ _ _ _ (@ds_for _ _ _ _ _ _ _ _ _ _ _ _ L C.calm (by walk_at "E") (by walk_at "G") (@dss_cons _ _ _ _ _ _ _ _ _ _ (by kst_p) (@dss_cons _ _ _ _ _ _ _ _ _ _ (by kst_p) (@dss_one _ _ _ _ _ _ _ (@ds_for _ _ _ _ _ _ _ _ _ _ _ _ L C.calm (by walk_at "E") (by walk_at "G") (@dss_one _ _ _ _ _ _ _ (@ds_if _ _ _ _ _ _ _ _ _ _ _ _ (@dt_cmp1 _ _ _ _ _ _ _ _ _ (@cf_gt _) (by walk_at "E") (@de_int _ _ _ _ _) (by first | exact nobehind _ (by decide) (by decide) | rfl)) (@dss_one _ _ _ _ _ _ _ (by walk_at "I3")) (@dss_one _ _ _ _ _ _ _ (by walk_at "I3")))) (by rfl) (by intro _ ; rfl))))) (by rfl) (by intro _ ; rfl)) (by kst_p1))))
set_option maxHeartbeats 4000000 in
theorem all_mk {l : PySem.W.OpenLaw} {w : World} {K : xFg} {h : Heap} {mg : Str -> Option Value} {fa f19 : Addr} (X : K.In h) (G : h.Ns mainGlobals mg) (hfa : mg "law" = some (.ref fa))
    {od19 an19 : Option Addr} {sl19 : Array (Option Value)} {oc19 kV19 dc19 pm19 cd19 ct19 : Value}
    {C_ChalkError C_NoPlace C_Same C_NoFloor C_Endless C_NoDeed C_NoName C_TooMany C_NoChange C_NoFrame C_NoValue C_Unlike C_NoRatio C_NoBow C_NoRow : Addr}
    (d0 : FD K "_law_mixed" (top 38))
    (d1 : FD K "_law_digits" (top 39))
    (d2 : FD K "_law_words" (top 40))
    (d3 : FD K "_law_cell" (top 36))
    (d4 : FD K "_law_leaf" (top 41))
    (d5 : FD K "_law_tree" (top 42))
    (d6 : FD K "_law_part" (top 43))
    (d7 : FD K "_law_deep" (top 44))
    (d8 : FD K "join_sides" (top 34))
    (d9 : FD K "is_word" (top 23))
    (d10 : FD K "read_number" (top 19))
    (d11 : FD K "read_core" (top 32))
    (d12 : FD K "read_side" (top 31))
    (d13 : FD K "read_sign" (top 33))
    (d14 : FD K "read_sum" (top 30))
    (d15 : FD K "_law_alone" (top 47))
    (d16 : FD K "_law_refused" (top 46))
    (d17 : FD K "_law_whole" (top 37))
    (d18 : FD K "_law_like" (top 45))
    (a19 : PySem.W.nsIn K mainGlobals "law" = some (some (.ref f19))) (l19 : K.lookup f19 = some ⟨oc19, od19, .func (PySem.W.fnOf "law" "law" (defArgs s_law) (defBody s_law) (defScope s_law) .none kV19 dc19 pm19 an19 cd19 ct19), sl19⟩) (c19 : PySem.W.codeIn K cd19 "law" = true) (k19 : PySem.W.keepIn K (.ref f19) = true)
    (xd_NoText : XD K "NoText")
    (z_range : PySem.W.nsIn K mainGlobals "range" = some none)
    (z_len : PySem.W.nsIn K mainGlobals "len" = some none)
    (z_str : PySem.W.nsIn K mainGlobals "str" = some none)
    (z_int : PySem.W.nsIn K mainGlobals "int" = some none)
    (z_max : PySem.W.nsIn K mainGlobals "max" = some none)
    (z_isinstance : PySem.W.nsIn K mainGlobals "isinstance" = some none)
    (z_all : PySem.W.nsIn K mainGlobals "all" = some none)
    (z_enumerate : PySem.W.nsIn K mainGlobals "enumerate" = some none)
    (z_ValueError : PySem.W.nsIn K mainGlobals "ValueError" = some none)
    (z_bool : PySem.W.nsIn K mainGlobals "bool" = some none)
    (z_tuple : PySem.W.nsIn K mainGlobals "tuple" = some none)
    (z_zip : PySem.W.nsIn K mainGlobals "zip" = some none)
    (e_ChalkError : PySem.W.nsIn K mainGlobals "ChalkError" = some (some (.ref C_ChalkError)))
    (e_NoPlace : PySem.W.nsIn K mainGlobals "NoPlace" = some (some (.ref C_NoPlace)))
    (e_Same : PySem.W.nsIn K mainGlobals "Same" = some (some (.ref C_Same)))
    (e_NoFloor : PySem.W.nsIn K mainGlobals "NoFloor" = some (some (.ref C_NoFloor)))
    (e_Endless : PySem.W.nsIn K mainGlobals "Endless" = some (some (.ref C_Endless)))
    (e_NoDeed : PySem.W.nsIn K mainGlobals "NoDeed" = some (some (.ref C_NoDeed)))
    (e_NoName : PySem.W.nsIn K mainGlobals "NoName" = some (some (.ref C_NoName)))
    (e_TooMany : PySem.W.nsIn K mainGlobals "TooMany" = some (some (.ref C_TooMany)))
    (e_NoChange : PySem.W.nsIn K mainGlobals "NoChange" = some (some (.ref C_NoChange)))
    (e_NoFrame : PySem.W.nsIn K mainGlobals "NoFrame" = some (some (.ref C_NoFrame)))
    (e_NoValue : PySem.W.nsIn K mainGlobals "NoValue" = some (some (.ref C_NoValue)))
    (e_Unlike : PySem.W.nsIn K mainGlobals "Unlike" = some (some (.ref C_Unlike)))
    (e_NoRatio : PySem.W.nsIn K mainGlobals "NoRatio" = some (some (.ref C_NoRatio)))
    (e_NoBow : PySem.W.nsIn K mainGlobals "NoBow" = some (some (.ref C_NoBow)))
    (e_NoRow : PySem.W.nsIn K mainGlobals "NoRow" = some (some (.ref C_NoRow)))
    {t_MOST_LETTERS : Tok} (q_MOST_LETTERS : PySem.W.nsIn K mainGlobals "MOST_LETTERS" = some (some (.int 8 t_MOST_LETTERS)))
    {t_LETTERS : Tok} (q_LETTERS : PySem.W.nsIn K mainGlobals "LETTERS" = some (some (.str "abcdefghijklmnopqrstuvwxyz" t_LETTERS)))
    {t_FIGURES : Tok} (q_FIGURES : PySem.W.nsIn K mainGlobals "FIGURES" = some (some (.str "0123456789" t_FIGURES)))
    {t_MOST_FIGURES : Tok} (q_MOST_FIGURES : PySem.W.nsIn K mainGlobals "MOST_FIGURES" = some (some (.int 9 t_MOST_FIGURES)))
    {t_MOST_DEEP : Tok} (q_MOST_DEEP : PySem.W.nsIn K mainGlobals "MOST_DEEP" = some (some (.int 8 t_MOST_DEEP)))
    {a_SIGNS : Addr} {t0_SIGNS t1_SIGNS t2_SIGNS t3_SIGNS : Tok} {n_SIGNS : Nat} {sl_SIGNS : Array (Option Value)} (q_SIGNS : PySem.W.nsIn K mainGlobals "SIGNS" = some (some (.ref a_SIGNS))) (lq_SIGNS : K.lookup a_SIGNS = some ⟨.type "tuple", none, .seq #[.str "+" t0_SIGNS, .str "-" t1_SIGNS, .str "*" t2_SIGNS, .str "/" t3_SIGNS] n_SIGNS, sl_SIGNS⟩)
    {t_MOST_SIGNS : Tok} (q_MOST_SIGNS : PySem.W.nsIn K mainGlobals "MOST_SIGNS" = some (some (.int 60 t_MOST_SIGNS)))
    {a_BINDS : Addr} {es_BINDS : Array DictEntry} {n_BINDS : Nat} {t0_BINDS t1_BINDS t2_BINDS t3_BINDS t4_BINDS : Tok} (q_BINDS : PySem.W.nsIn K mainGlobals "BINDS" = some (some (.ref a_BINDS))) (lq_BINDS : K.lookup a_BINDS = some ⟨.type "dict", none, .dict es_BINDS n_BINDS, #[]⟩) (kq_BINDS : PySem.W.KeysLit w.params es_BINDS.toList)
    (tq0_BINDS : PySem.W.nsIn K a_BINDS "(" = some (some (.int 0 t0_BINDS)))
    (tq1_BINDS : PySem.W.nsIn K a_BINDS "+" = some (some (.int 1 t1_BINDS)))
    (tq2_BINDS : PySem.W.nsIn K a_BINDS "-" = some (some (.int 1 t2_BINDS)))
    (tq3_BINDS : PySem.W.nsIn K a_BINDS "*" = some (some (.int 2 t3_BINDS)))
    (tq4_BINDS : PySem.W.nsIn K a_BINDS "/" = some (some (.int 2 t4_BINDS)))
    (hlaw : ∀ ns : List Int, ns.length <= 63 -> m_law_v45 [.lst (ns.map .int)] = .ok (.bl true))
    : ∃ fd : FuncData, (∀ (s : Shared) (v : Value), BindsTo s fd ⟨[v], []⟩ [("_law_script", v)]) /\ ∀ base : Heap, K.In base -> base.Ns mainGlobals mg -> FnOk l.prog w K mg base (CXe l.prog w) 67 fa fd ["_law_script"] (spLaw K) := by
  have e := hfa.symm.trans (xas X G a19)
  cases e
  obtain ⟨f0, v0, F0⟩ := d0.go X G ["_law_cell_here", "_law_k"] (by walk_at "b2")
  obtain ⟨f1, v1, F1⟩ := d1.go X G ["_law_cell_here", "_law_many"] (by walk_at "b2")
  obtain ⟨f2, v2, F2⟩ := d2.go X G ["_law_cell_here", "_law_many"] (by walk_at "b2")
  obtain ⟨f3, v3, F3⟩ := d3.go X G ["_law_script", "_law_k"] (by walk_at "b2")
  obtain ⟨f4, v4, F4⟩ := d4.go X G ["_law_digits_here", "_law_names"] (by walk_at "b2")
  obtain ⟨f5, v5, F5⟩ := d5.go X G ["_law_cells", "_law_names"] (by walk_at "b2")
  obtain ⟨f6, v6, F6⟩ := d6.go X G ["_law_tree_here", "_law_least"] (by walk_at "b2")
  obtain ⟨f7, v7, F7⟩ := d7.go X G ["_law_text"] (by walk_at "b1")
  obtain ⟨f8, v8, F8⟩ := d8.go X G ["sides", "signs", "least"] (by walk_at "b3")
  obtain ⟨f9, v9, F9⟩ := d9.go X G ["thing"] (by walk_at "b1")
  obtain ⟨f10, v10, F10⟩ := d10.go X G ["word"] (by walk_at "b1")
  obtain ⟨f11, v11, F11⟩ := d11.go X G ["word"] (by walk_at "b1")
  obtain ⟨f12, v12, F12⟩ := d12.go X G ["word", "sides", "signs"] (by walk_at "b3")
  obtain ⟨f13, v13, F13⟩ := d13.go X G ["word", "sides", "signs"] (by walk_at "b3")
  obtain ⟨f14, v14, F14⟩ := d14.go X G ["text"] (by walk_at "b1")
  obtain ⟨f15, v15, F15⟩ := d15.go X G ["_law_error"] (by walk_at "b1")
  obtain ⟨f16, v16, F16⟩ := d16.go X G ["_law_thing"] (by walk_at "b1")
  obtain ⟨f17, v17, F17⟩ := d17.go X G ["_law_found"] (by walk_at "b1")
  obtain ⟨f18, v18, F18⟩ := d18.go X G ["_law_found", "_law_due"] (by walk_at "b2")
  have F19 := fun_mk (st := s_law) l19 c19 k19
  have m19 := xas X G a19
  obtain ⟨C_NoText, c_NoText, y_NoText, x_NoText⟩ := xd_NoText.go X G
  have n_range := xa6 X G z_range
  have n_len := xa6 X G z_len
  have n_str := xa6 X G z_str
  have n_int := xa6 X G z_int
  have n_max := xa6 X G z_max
  have n_isinstance := xa6 X G z_isinstance
  have n_all := xa6 X G z_all
  have n_enumerate := xa6 X G z_enumerate
  have n_ValueError := xa6 X G z_ValueError
  have n_bool := xa6 X G z_bool
  have n_tuple := xa6 X G z_tuple
  have n_zip := xa6 X G z_zip
  have c_ChalkError := xas X G e_ChalkError
  have c_NoPlace := xas X G e_NoPlace
  have c_Same := xas X G e_Same
  have c_NoFloor := xas X G e_NoFloor
  have c_Endless := xas X G e_Endless
  have c_NoDeed := xas X G e_NoDeed
  have c_NoName := xas X G e_NoName
  have c_TooMany := xas X G e_TooMany
  have c_NoChange := xas X G e_NoChange
  have c_NoFrame := xas X G e_NoFrame
  have c_NoValue := xas X G e_NoValue
  have c_Unlike := xas X G e_Unlike
  have c_NoRatio := xas X G e_NoRatio
  have c_NoBow := xas X G e_NoBow
  have c_NoRow := xas X G e_NoRow
  refine ⟨PySem.W.fnOf "law" "law" (defArgs s_law) (defBody s_law) (defScope s_law) .none kV19 dc19 pm19 an19 cd19 ct19, fun s v => .of_eq rfl, fun base _ _ => ?_⟩
  have k_MOST_LETTERS_is : ∃ u v, mg "MOST_LETTERS" = some u /\ RelV v u /\ ∀ G, Rep K mg G k_MOST_LETTERS v := ⟨_, .int 8, xas X G q_MOST_LETTERS, ⟨_, rfl⟩, fun _ => rfl⟩
  have k_LETTERS_is : ∃ u v, mg "LETTERS" = some u /\ RelV v u /\ ∀ G, Rep K mg G k_LETTERS v := ⟨_, .str "abcdefghijklmnopqrstuvwxyz", xas X G q_LETTERS, ⟨_, rfl⟩, fun _ => rfl⟩
  have k_FIGURES_is : ∃ u v, mg "FIGURES" = some u /\ RelV v u /\ ∀ G, Rep K mg G k_FIGURES v := ⟨_, .str "0123456789", xas X G q_FIGURES, ⟨_, rfl⟩, fun _ => rfl⟩
  have k_MOST_FIGURES_is : ∃ u v, mg "MOST_FIGURES" = some u /\ RelV v u /\ ∀ G, Rep K mg G k_MOST_FIGURES v := ⟨_, .int 9, xas X G q_MOST_FIGURES, ⟨_, rfl⟩, fun _ => rfl⟩
  have k_MOST_DEEP_is : ∃ u v, mg "MOST_DEEP" = some u /\ RelV v u /\ ∀ G, Rep K mg G k_MOST_DEEP v := ⟨_, .int 8, xas X G q_MOST_DEEP, ⟨_, rfl⟩, fun _ => rfl⟩
  have k_SIGNS_is : ∃ u v, mg "SIGNS" = some u /\ RelV v u /\ ∀ G, Rep K mg G k_SIGNS v := ⟨_, .ref a_SIGNS, xas X G q_SIGNS, rfl, fun _ => rep_ktup (l := [("+", t0_SIGNS), ("-", t1_SIGNS), ("*", t2_SIGNS), ("/", t3_SIGNS)]) lq_SIGNS rfl (show 4 <= 100 by decide)⟩
  have k_MOST_SIGNS_is : ∃ u v, mg "MOST_SIGNS" = some u /\ RelV v u /\ ∀ G, Rep K mg G k_MOST_SIGNS v := ⟨_, .int 60, xas X G q_MOST_SIGNS, ⟨_, rfl⟩, fun _ => rfl⟩
  have T_BINDS : TabK K mg w "BINDS" k_BINDS := ⟨a_BINDS, es_BINDS, n_BINDS, xas X G q_BINDS, lq_BINDS, kq_BINDS, fun p hp => by
    simp only [k_BINDS, xam, xa1, or_false] at hp
    rcases hp with rfl | rfl | rfl | rfl | rfl
    · exact ⟨_, tq0_BINDS⟩
    · exact ⟨_, tq1_BINDS⟩
    · exact ⟨_, tq2_BINDS⟩
    · exact ⟨_, tq3_BINDS⟩
    · exact ⟨_, tq4_BINDS⟩⟩
  have G0 : FnAt l.prog w K mg base 1 "_law_mixed" m_law_mixed := ok__law_mixed (k := 0) F0
  have G1 := ok__law_digits (k := 1) F1 n_range G0
  have G2 := ok__law_words (k := 2) F2 n_range G1
  have G3 : FnAt l.prog w K mg base 1 "_law_cell" m_law_cell := ok__law_cell (k := 0) F3 n_len
  have G4 : FnAt l.prog w K mg base 1 "_law_leaf" m_law_leaf := ok__law_leaf (k := 0) F4 n_len
  have G5 := ok__law_tree (k := 2) F5 n_len G1 (G4.mono (by decide : 1 <= 2))
  have G6 : FnAt l.prog w K mg base 65 "_law_part" m_law_part := ok__law_part (k := 0) F6 n_str n_int
  have G7 : FnAt l.prog w K mg base 1 "_law_deep" m_law_deep := ok__law_deep (k := 0) F7 n_int n_max
  have G8 : FnAtO l.prog w K mg base 1 "join_sides" 0 1 m_join_sides := ok_join_sides (k := 0) F8 n_len T_BINDS
  have G9 : FnAt l.prog w K mg base 1 "is_word" m_is_word := ok_is_word (k := 0) F9 n_isinstance n_str n_len n_all k_MOST_LETTERS_is k_LETTERS_is
  have G10 : FnAt l.prog w K mg base 1 "read_number" m_read_number := ok_read_number (k := 0) F10 c_NoText y_NoText x_NoText n_all n_int k_FIGURES_is
  have G11 := ok_read_core (k := 1) F11 c_NoText y_NoText x_NoText n_len k_MOST_FIGURES_is G9 G10
  have G12 : FnAtO l.prog w K mg base 3 "read_side" 1 2 m_read_side := ok_read_side (k := 2) F12 c_NoText y_NoText x_NoText n_len n_range k_MOST_DEEP_is G11 (G8.mono (by decide : 1 <= 2))
  have G13 : FnAtO l.prog w K mg base 2 "read_sign" 1 2 m_read_sign := ok_read_sign (k := 1) F13 c_NoText y_NoText x_NoText k_SIGNS_is T_BINDS G8
  have G14 := ok_read_sum (k := 3) F14 c_NoText y_NoText x_NoText n_isinstance n_str n_len n_enumerate k_MOST_SIGNS_is G12 (G13.mono (by decide : 2 <= 3)) (G8.mono (by decide : 1 <= 3))
  have G15 : FnAt l.prog w K mg base 1 "_law_alone" m_law_alone := ok__law_alone (k := 0) F15 c_NoPlace c_Same c_NoFloor c_Endless c_NoDeed c_NoText c_NoName c_TooMany c_NoChange c_NoFrame c_NoValue c_Unlike c_NoRatio c_NoBow c_NoRow c_ChalkError n_int n_isinstance n_ValueError
  have G16 := ok__law_refused (k := 4) F16 c_ChalkError c_NoText n_isinstance G14 (G15.mono (by decide : 1 <= 4))
  have G17 : FnAt l.prog w K mg base 1 "_law_whole" m_law_whole := ok__law_whole (k := 0) F17 n_isinstance n_int n_bool
  have G18 := ok__law_like (k := 1) F18 n_isinstance n_tuple n_len n_zip n_str G17
  exact law_of (ok_law (P := l.prog) (w := w) (base := base) (k := 66) F19 n_len (G2.mono (by decide : 3 <= 66)) (G3.mono (by decide : 1 <= 66)) (G5.mono (by decide : 3 <= 66)) (G6.mono (by decide : 65 <= 66)) (G7.mono (by decide : 1 <= 66)) (G16.mono (by decide : 5 <= 66)) G18 (G14.mono (by decide : 4 <= 66))) hlaw
end Kx
structure PySem.W.Fast:Prop where
 (tw10086492199939792464 tw10098775003150555869 tw10216798132747520788 tw10272719935107048354 tw10381211788014698217 tw10388249029114391626 tw10579791430543570195 tw10610285819180428706 tw10620143386813231821 tw10668711039258971116 tw10885918962938450909 tw10986914757205018272 tw11012860453458253754 tw11013285296939564229 tw11033946586419769502 tw11082098885991189842 tw11149653859172806610 tw11181178384150304211 tw11373468242149568761 tw11546320816770035043 tw115824427028829124 tw11819214083910750667 tw12133843711737949405 tw12158155543515150311 tw12166841951596607980 tw12169259237060662483 tw12598078597007925411 tw1272121343497869581 tw12798385790493037498 tw12869159789014044868 tw12876893843540851588 tw12958545275983586154 tw13012343474010389236 tw13020949450767972082 tw13058404716782940555 tw13121790331130918063 tw13173918049784124726 tw13370349151207333275 tw13586195792001310463 tw13591181554132469061
  tw13630742624116579126 tw13673877511103399454 tw13767189662400699288 tw13905715482144545855 tw13924574391673643530 tw13973833732471813616 tw13977875744127007023 tw14024300808069282363 tw14040541191808129604 tw14107572270772766909 tw14255387400457771308 tw14361673246531459478 tw14611158153675963989 tw14754731521439558602 tw14776018596151232717 tw14811486051518103090 tw14836161959663637828 tw14873231836774243393 tw14893247494532377059 tw14896650204036524712 tw14905625670079357278 tw14914106928025106605 tw14924814843481529055 tw15065414647636154295 tw15080673830067550050 tw15103010571402460078 tw15139494983859538110 tw15152724784187174141 tw15252577794130863909 tw15303151928129207382 tw15305312486484239266 tw15360413594307459748 tw1536871221248057578 tw15385225650361869636 tw15545793683994149448 tw15686490233447288975 tw15820217625131400211 tw15971348068560145981 tw16024701216764633642 tw16088332230675713003
  tw16174035737942456568 tw16211312177575506025 tw1621616145480963710 tw16374344732096075469 tw16492868946410196280 tw16541576831038511085 tw16555636384197239407 tw165881667189216370 tw1660276347272809080 tw16603557234998789827 tw16721986687523207461 tw16735792901423881604 tw16911209452536767718 tw16947469984129519669 tw1695458224539624899 tw16959031086067070506 tw16996966681814796787 tw17122188787428607239 tw17247548852235743660 tw1734221815559001793 tw17383552692304149481 tw17412258102601387348 tw17421675606958542346 tw17562403201003393588 tw17936777487389661476 tw18018291755519887728 tw18038296029710861695 tw18044471291824729368 tw18143812868795269404 tw18262406732280997418 tw18283460125795348996 tw18317300490955581040 tw18355241074364849443 tw18356846073611070891 tw18385972448619126616 tw1840947157903609473 tw18418582567277495199 tw18427262478618441141 tw18442697305975512333 tw1849888355655995027
  tw1851342485927125888 tw1915134570941496117 tw1932920250005906719 tw1982118648861235153 tw2031735659547885624 tw2050216131075416649 tw221907630318589666 tw2297577661450844079 tw2344652002634133895 tw2346807908301025394 tw2398886690562084939 tw2481948241147469137 tw2521593362614307368 tw2569620949206251017 tw258693151903405100 tw2600470981857416194 tw27091304408523863 tw2779529580285445477 tw2890053858683394824 tw3070265083359047092 tw3152693848538229534 tw3195130465233486314 tw3308021655766469534 tw3464340754693491189 tw3472590559785819680 tw3491446419463791307 tw3702658108459934567 tw3836500019974922849 tw4020933408005229701 tw4047897562313865097 tw4110856242012366980 tw4123579347936151532 tw4150283002327772107 tw4184776804047216722 tw4313892131724703135 tw4319326636219385878 tw4388987703985585852 tw4522703021395326210 tw4553920977503264375 tw458256179790342332
  tw4590355914238042591 tw4617701665111772169 tw4651412366054655112 tw4741092869772814085 tw4779773736413583801 tw4802426742055050897 tw4852141094579166855 tw4942561301236782426 tw4952498455981831864 tw4953981676266277801 tw497276618115619346 tw4986439094626483397 tw5025769957794866386 tw5062036282985428660 tw5079722362036341834 tw5208058844266757437 tw5234525525927163415 tw532290542248123351 tw5423130658092096490 tw5496033969524451988 tw5558083703813212757 tw5658691802619211462 tw5678256291105212961 tw570817630771172189 tw5763282075984779338 tw5792808379001555788 tw5803993062181907873 tw582382204467606802 tw5868491119876275742 tw5914789815822662052 tw6014736060134937269 tw6048888877267442218 tw6106517921640594354 tw6152033399167776818 tw6282829293781890092 tw6292898434964157387 tw6351302480479907191 tw6385438810388495156 tw6438934325886177139 tw6612031824966786222
  tw6671588876805909662 tw6711788325239991688 tw6734758343902180624 tw677317872377392343 tw6892067663916969694 tw6944056989644204455 tw6946514205534024615 tw6993716141756179445 tw7136498195102623502 tw7270956521195453928 tw7277996160044991067 tw7337054065514141380 tw7359490663126862609 tw7406690557213233714 tw7663826755447417839 tw7801557048357193108 tw7889658698134638720 tw7898662832222496975 tw7958348020960519682 tw7976260494453042131 tw8022824552435046943 tw8029922623826776341 tw806009688643504228 tw8079705112442735239 tw8128176692909076609 tw8153134046965036233 tw818615130558809754 tw8227572990437243576 tw8239364278425542338 tw8476919286718509486 tw8532892584167719812 tw8549336772386818609 tw8662268078063163778 tw870919217369607558 tw8850124840054210742 tw8913924739125729807 tw8944219232916348456 tw8965862893587270916 tw9008056157579476319 tw9035712197190223554
  tw9383028860319727739 tw9394141850574220374 tw9408472698074345005 tw9487329022943364264 tw9514710211873220344 tw9552670877490019282 tw9725467903641740081 tw9813935278644805626 tw9855232184483683941 tw9922718364676401625:True)
open PySem.W PyProof.Rows
local macro_rules | `(tactic| walk_at "KQ") => `(tactic| (repeat' first | exact True.intro | refine ⟨⟨_, _, rfl, rfl⟩, ?_⟩ | refine ⟨_, _⟩))
local macro_rules | `(tactic| walk_at "FD") => `(tactic| (refine' DL.FD.mk' ?a ?l ?c ?k; (case a => k_is); (case l => k_is); (case c => k_is); (case k => k_is)))
local macro_rules | `(tactic| walk_at "NR") => `(tactic| first | (refine' DL.NR.ff ?h ?a ?t; (case h => decide); (case a => k_is); (case t => kit_is)) | (refine' DL.NR.tt ?h ?a ?t ?u; (case h => decide); (case a => k_is); (case t => kit_is); (case u => kts_exm)) | (refine' DL.NR.no ?a; (case a => k_is)))
local macro_rules | `(tactic| walk_at "XD") => `(tactic| (refine' DL.XD.mk' ?e ?y ?g ?i ?b ?o ?a ?s ?t ?v ?r0 ?r1 ?r2 ?r3 ?r4 ?r5 ?r6 ?r7 ?r8 ?r9 ?r10 ?r11 ?r12 ?r13 ?r14 ?r15; (case e => k_is); (case y => k_exc); (case g | i | b | o | a | s | t => k_is); (case v => kit_is); (case r0 | r1 | r2 | r3 | r4 | r5 | r6 | r7 | r8 | r9 | r10 | r11 | r12 | r13 | r14 | r15 => walk_at "NR")))
set_option maxRecDepth 100000 in
set_option maxHeartbeats 0 in
theorem PySem.Challenge.cw_chalkline_k56_sums_read_holds : PySem.Challenge.rw_chalkline_k56_sums_read.Holds := by
  w_on; o_law; k_head; (case hw => w_witness2)
  k_fill
  refine DL.walkD (l := PySem.Challenge.rw_chalkline_k56_sums_read) 67 ⟨rfl, by decide, by decide⟩ rfl rfl (fun w h Y => PySem.W.kIn_of Y) ?F
  case F =>
    intro w mg fa h KX G hmg
    refine' Kx.all_mk KX G hmg ?d0 ?d1 ?d2 ?d3 ?d4 ?d5 ?d6 ?d7 ?d8 ?d9 ?d10 ?d11 ?d12 ?d13 ?d14 ?d15 ?d16 ?d17 ?d18 ?a19 ?l19 ?c19 ?k19 ?xd_NoText ?z_range ?z_len ?z_str ?z_int ?z_max ?z_isinstance ?z_all ?z_enumerate ?z_ValueError ?z_bool ?z_tuple ?z_zip ?e_ChalkError ?e_NoPlace ?e_Same ?e_NoFloor ?e_Endless ?e_NoDeed ?e_NoName ?e_TooMany ?e_NoChange ?e_NoFrame ?e_NoValue ?e_Unlike ?e_NoRatio ?e_NoBow ?e_NoRow ?q_MOST_LETTERS ?q_LETTERS ?q_FIGURES ?q_MOST_FIGURES ?q_MOST_DEEP ?q_SIGNS ?lq_SIGNS ?q_MOST_SIGNS ?q_BINDS ?lq_BINDS ?kq_BINDS ?tq0_BINDS ?tq1_BINDS ?tq2_BINDS ?tq3_BINDS ?tq4_BINDS ?hlaw
    (case d0 | d1 | d2 | d3 | d4 | d5 | d6 | d7 | d8 | d9 | d10 | d11 | d12 | d13 | d14 | d15 | d16 | d17 | d18 => walk_at "FD")
    (case a19 | l19 | c19 | k19 => k_is)
    (case xd_NoText => walk_at "XD")
    (case z_range | z_len | z_str | z_int | z_max | z_isinstance | z_all | z_enumerate | z_ValueError | z_bool | z_tuple | z_zip | e_ChalkError | e_NoPlace | e_Same | e_NoFloor | e_Endless | e_NoDeed | e_NoName | e_TooMany | e_NoChange | e_NoFrame | e_NoValue | e_Unlike | e_NoRatio | e_NoBow | e_NoRow | q_MOST_LETTERS | q_LETTERS | q_FIGURES | q_MOST_FIGURES | q_MOST_DEEP | q_SIGNS | lq_SIGNS | q_MOST_SIGNS | q_BINDS | lq_BINDS => k_is)
    (case kq_BINDS => walk_at "KQ")
    (case tq0_BINDS | tq1_BINDS | tq2_BINDS | tq3_BINDS | tq4_BINDS => k_is)
    (case hlaw => exact Lk56.law_ok)
end