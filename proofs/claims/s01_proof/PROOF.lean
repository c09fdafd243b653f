import PyProof.Rows.All
import Wide.All
import OpenK.AllK
import Wide.FinOn
import PyProof.EqAt
import PyProof.EqKinds
import PyProof.TupleCall
import KE.BitLaws
import Open.SpecLaws
import KE.OsHead
import KE.OsGo
import KE.KNest
import PyVbhoak
import KE.KSortTupG
import KE.KLam
import PySem.Challenge.RW_roomcodes_s01_answers
set_option Elab.async false
set_option linter.all false
set_option maxRecDepth 100000
set_option maxHeartbeats 0
namespace L2
open PySem PySem.Spec PyProof.Rows
abbrev Key := Sum Int Str
def keyIs : Key -> Value -> Bool
  | .inl k, v => Value.isInt k v
  | .inr x, v => Value.isStrOf x v
def keyH (w : World) : Key -> Int
  | .inl k => hashInt k
  | .inr x => hashStr w x
theorem keyIs_shape : ∀ {k : Key} {v : Value}, keyIs k v = true -> (∃ i t, k = Sum.inl i /\ v = Value.int i t) \/ (∃ x t, k = Sum.inr x /\ v = Value.str x t)
  | .inl i, v, h => by
    obtain ⟨t, e⟩ := Value.isInt_shape (k := i) (v := v) h
    exact .inl ⟨i, t, rfl, e⟩
  | .inr x, v, h => by
    obtain ⟨t, e⟩ := Value.isStrOf_shape (x := x) (v := v) h
    exact .inr ⟨x, t, rfl, e⟩
theorem keyIs_int (i : Int) (t : Tok) : keyIs (.inl i) (.int i t) = true := by simp [keyIs, Value.isInt]
theorem key_ll (a b : Int) : decide ((Sum.inl a : Key) = Sum.inl b) = (a == b) := by
  by_cases e : a = b
  . subst e; simp
  . have h : ¬ (Sum.inl a : Key) = Sum.inl b := fun q => e (Sum.inl.inj q)
    rw [decide_eq_false h]
    exact (beq_eq_false_iff_ne.mpr e).symm
theorem key_rr (a b : Str) : decide ((Sum.inr a : Key) = Sum.inr b) = decide (a = b) := by
  by_cases e : a = b
  . subst e; simp
  . have h : ¬ (Sum.inr a : Key) = Sum.inr b := fun q => e (Sum.inr.inj q)
    rw [decide_eq_false h, decide_eq_false e]
theorem key_lr (a : Int) (b : Str) : decide ((Sum.inl a : Key) = Sum.inr b) = false := decide_eq_false (fun q => nomatch q)
theorem key_rl (a : Str) (b : Int) : decide ((Sum.inr a : Key) = Sum.inl b) = false := decide_eq_false (fun q => nomatch q)
def mixKind (prog : Program) (w : World) : PySem.KeyKind prog w Key where
  is := keyIs
  hash := keyH w
  inj := fun v a b ha hb => by
    rcases keyIs_shape ha with ⟨i, t, rfl, rfl⟩ | ⟨x, t, rfl, rfl⟩
    . rcases keyIs_shape hb with ⟨j, u, rfl, e⟩ | ⟨y, u, rfl, e⟩
      . injection e with e1 _; rw [e1]
      . exact nomatch e
    . rcases keyIs_shape hb with ⟨j, u, rfl, e⟩ | ⟨y, u, rfl, e⟩
      . exact nomatch e
      . injection e with e1 _; rw [e1]
  byValue := fun k v h => by
    rcases keyIs_shape h with ⟨i, t, rfl, rfl⟩ | ⟨x, t, rfl, rfl⟩ <;> rfl
  pyHash := fun hv h => by
    rcases keyIs_shape hv with ⟨i, t, rfl, rfl⟩ | ⟨x, t, rfl, rfl⟩
    . exact wpAny_pyHash_int h
    . exact wpAny_pyHash_str h
  eqBool := fun hu hv h => by
    rcases keyIs_shape hu with ⟨i, t, rfl, rfl⟩ | ⟨x, t, rfl, rfl⟩
    . rcases keyIs_shape hv with ⟨j, u, rfl, rfl⟩ | ⟨y, u, rfl, rfl⟩
      . rw [key_ll] at h; exact wpAny_eqBool_int h
      . rw [key_lr] at h; exact SeqAt.EqAt.int_str i t y u _ _ _ _ h
    . rcases keyIs_shape hv with ⟨j, u, rfl, rfl⟩ | ⟨y, u, rfl, rfl⟩
      . rw [key_rl] at h; exact SeqAt.EqAt.str_int x t j u _ _ _ _ h
      . rw [key_rr] at h; exact wpAny_eqBool_str h
  «strs» := fun k x t v h => by
    rcases keyIs_shape h with ⟨i, u, rfl, e⟩ | ⟨y, u, rfl, e⟩
    . exact nomatch e
    . injection e with e1 _
      subst e1
      cases v <;> rfl
theorem mixKind_int (prog : Program) (w : World) (i : Int) (t : Tok) : (mixKind prog w).is (.inl i) (.int i t) = true := keyIs_int i t
inductive V where
  | non | bl (b : Bool) | int (i : Int) | str (x : Str) | byt (b : Array UInt8) | flt (b : UInt64) | ref (a : Addr) | ty (n : String)
  deriving DecidableEq
def RelV : V -> Value -> Prop
  | .non, u => u = Value.none
  | .bl b, u => u = Value.bool b
  | .int i, u => ∃ t, u = Value.int i t
  | .str x, u => ∃ t, u = Value.str x t
  | .byt b, u => ∃ t, u = Value.bytes b t
  | .flt b, u => ∃ t, u = Value.float b t
  | .ref a, u => u = Value.ref a
  | .ty n, u => u = Value.type n
abbrev Vals : List V -> List Value -> Prop := Paired RelV
theorem Vals.length {xs : List V} {us : List Value} (r : Vals xs us) : xs.length = us.length := Paired.length r
theorem Vals.get : ∀ {xs : List V} {us : List Value} {i : Nat} {x : V}, Vals xs us -> xs[i]? = some x -> ∃ u, us[i]? = some u /\ RelV x u
  | _, _, _, _, .nil, e => by simp at e
  | _, _, 0, _, .cons r _, e => by simp at e; subst e; exact ⟨_, rfl, r⟩
  | _, _, i + 1, x, .cons _ t, e => by
    obtain ⟨u, h1, h2⟩ := Vals.get (i := i) (x := x) t (by simpa using e)
    exact ⟨u, by simpa using h1, h2⟩
theorem Vals.append : ∀ {xs ys : List V} {us ws : List Value}, Vals xs us -> Vals ys ws -> Vals (xs ++ ys) (us ++ ws)
  | _, _, _, _, .nil, s => s
  | _, _, _, _, .cons r t, s => .cons r (Vals.append t s)
theorem Vals.take : ∀ {xs : List V} {us : List Value} (n : Nat), Vals xs us -> Vals (xs.take n) (us.take n)
  | _, _, 0, _ => .nil
  | _, _, _ + 1, .nil => .nil
  | _, _, n + 1, .cons r t => .cons r (Vals.take n t)
theorem Vals.drop : ∀ {xs : List V} {us : List Value} (n : Nat), Vals xs us -> Vals (xs.drop n) (us.drop n)
  | _, _, 0, r => r
  | _, _, _ + 1, .nil => .nil
  | _, _, n + 1, .cons _ t => Vals.drop n t
def RelO : Option V -> Option Value -> Prop
  | some v, some u => RelV v u
  | none, none => True
  | _, _ => False
def KV {κ : Type} : List (κ × V) -> List (κ × Value) -> Prop := Paired fun (p : κ × V) (q : κ × Value) => p.1 = q.1 /\ RelV p.2 q.2
def kV : Key -> V
  | .inl i => .int i
  | .inr x => .str x
inductive HO where
  /-- a list -/
  | lst (xs : List V)
  /-- a tuple (never changes) -/
  | tup (xs : List V)
  /-- a dict whose keys are ints and texts; one whose keys are tuples of ints and texts (the empty one is both) -/
  | dK (kvs : List (Key × V)) | dT (kvs : List (List Key × V))
  /-- a set of ints: its members, its size -/
  | set (S : Int -> Bool) (n : Nat)
  /-- an instance of the class at C, its dict at dx, its attributes -/
  | ins (C dx : Addr) (fs : List (Str × V))
  /-- the dict of the instance at x -/
  | own (x : Addr)
  /-- the dict of an exception -/
  | xd (fs : List (Str × V))
  /-- a bound method, f of x -/
  | met (f x : Addr)
  /-- a range object lo, lo + 1, .. below hi -/
  | rng (lo hi : Int)
  /-- a thing that is known to the object (the script; a dict while a loop walks it): read, never written while it is so -/
  | frz (o : Obj) (u : HO)
  /-- a code object's table -/
  | tbl (ps : Array Value)
  /-- any other thing, by what is true of its one object (a def of one's own: SetO a S n := HO.ext fun h => ..) -/
  | ext (φ : Heap -> Prop)
abbrev Hp := Addr -> Option HO
def upd (H : Hp) (a : Addr) (o : HO) : Hp := fun b => if b = a then some o else H b
theorem upd_same {H : Hp} {a : Addr} {o : HO} : upd H a o a = some o := by unfold upd; rw [if_pos rfl]
theorem upd_ne {H : Hp} {a b : Addr} {o : HO} (h : b ≠ a) : upd H a o b = H b := by unfold upd; rw [if_neg h]
theorem ne_of {H : Hp} {a b : Addr} {o u : HO} (h : H a = some o) (h' : H b = some u) (d : o ≠ u) : a ≠ b := by
  intro e; subst e; rw [h] at h'; exact d (Option.some.inj h')
theorem ne_of_none {H : Hp} {a b : Addr} {o : HO} (h : H a = some o) (h' : H b = none) : a ≠ b := by
  intro e; subst e; rw [h] at h'; cases h'
section
variable (P : Program) (w : World)
def ObjOk (H : Hp) (h : Heap) (a : Addr) : HO -> Prop
  | .lst xs => xs.length <= sizeLine /\ ∃ (its : List Value) (n : Nat), Vals xs its /\ h.get? a = some { cls := .type "list", data := .seq its.toArray n }
  | .tup xs => xs.length <= sizeLine /\ ∃ its : List Value, Vals xs its /\ IsTup h a its.toArray
  | .dK kvs => kvs.length <= sizeLine /\ (a == sysModules) = false /\ ∃ vs, KV kvs vs /\ h.DictOf (mixKind P w) a vs
  | .dT kvs => kvs.length <= sizeLine /\ (a == sysModules) = false /\ ∃ xs : List (List Key × Addr × Value),
      Paired (fun (p : List Key × V) (q : List Key × Addr × Value) => p.1 = q.1 /\ H q.2.1 = some (.tup (p.1.map kV)) /\ RelV p.2 q.2.2) kvs xs /\
      ∃ o es ep, h.get? a = some o /\ o.ExactDict /\ o.data = .dict es ep /\ es.toList = xs.map (entryOfKey (tupleKind (mixKind P w))) /\ (xs.map (·.1)).Nodup
  | .set S n => h.SetOf (intKind P w) a S n
  | .ins C dx fs => H dx = some (.own a) /\ fs.length <= 1000 /\ dx ≠ a /\ h.get? a = some (PySem.W.instObj C dx) /\
      ∃ mA, h.Ns1 dx mA /\ (∀ f, RelO (fs.lookup f) (mA f)) /\ PySem.Within mA (fs.map (·.1))
  | .own _ => ∃ o, h.get? a = some o
  | .xd fs => ∃ mA, h.Ns1 a mA /\ ∀ f, RelO (fs.lookup f) (mA f)
  | .rng lo hi => ∃ t u v, h.get? a = some { cls := .type "range", data := .fields #[.int lo t, .int hi u, .int 1 v] }
  | .frz o u => h.get? a = some o /\ ObjOk H h a u
  | .tbl ps => h.get? a = some { cls := .none, data := .fields ps }
  | .met f x => h.get? a = some (PySem.W.methodObj (.ref f) (.ref x))
  | .ext φ => φ h /\ (∃ o, h.get? a = some o) /\ ∀ h1 h2 : Heap, φ h1 -> (∀ o, h1.get? a = some o -> h2.get? a = some o) -> φ h2
def HOk (H : Hp) (h : Heap) : Prop := ∀ a o, H a = some o -> ObjOk P w H h a o
end
section
variable {P : Program} {w : World} {H H' : Hp} {h h' : Heap} {a : Addr} {o : HO}
theorem ObjOk.lt (x : ObjOk P w H h a o) : a < h.objs.size := by
  cases o with
  | lst xs => obtain ⟨_, _, _, _, e⟩ := x; exact Heap.lt_size e
  | tup xs => obtain ⟨_, _, _, p⟩ := x; exact p.lt
  | dK kvs => obtain ⟨_, _, _, _, o, _, _, e, _⟩ := x; exact Heap.lt_size e
  | dT kvs => obtain ⟨_, _, _, _, o, _, _, e, _⟩ := x; exact Heap.lt_size e
  | set S n => obtain ⟨o, _, _, _, e, _⟩ := x; exact Heap.lt_size e
  | ins C dx fs => obtain ⟨_, _, _, e, _⟩ := x; exact Heap.lt_size e
  | own y => obtain ⟨_, e⟩ := x; exact Heap.lt_size e
  | xd fs => obtain ⟨_, ⟨_, _, _, e, _⟩, _⟩ := x; exact Heap.lt_size e
  | rng lo hi => obtain ⟨_, _, _, e⟩ := x; exact Heap.lt_size e
  | frz ob u => obtain ⟨e, _⟩ := x; exact Heap.lt_size e
  | tbl ps => exact Heap.lt_size (show h.get? a = some _ from x)
  | met f y => exact Heap.lt_size (show h.get? a = some _ from x)
  | ext φ => obtain ⟨_, ⟨_, e⟩, _⟩ := x; exact Heap.lt_size e
theorem Paired.mapP {α β : Type} {F G : α -> β -> Prop} : ∀ {l₁ : List α} {l₂ : List β}, Paired F l₁ l₂ -> (∀ a b, F a b -> G a b) -> Paired G l₁ l₂
  | _, _, .nil, _ => .nil
  | _, _, .cons r t, f => .cons (f _ _ r) (Paired.mapP t f)
theorem ObjOk.stay (x : ObjOk P w H h a o) (k : ∀ b u, (b = a \/ H b = some (.own a)) -> h.get? b = some u -> h'.get? b = some u)
    (ho : ∀ b, H b = some (.own a) -> H' b = some (.own a)) (ht : ∀ b xs, H b = some (.tup xs) -> H' b = some (.tup xs)) : ObjOk P w H' h' a o := by
  induction o with
  | lst xs => obtain ⟨z, its, n, r, e⟩ := x; exact ⟨z, its, n, r, k _ _ (.inl rfl) e⟩
  | tup xs => obtain ⟨z, its, r, ob, e, c⟩ := x; exact ⟨z, its, r, ob, k _ _ (.inl rfl) e, c⟩
  | dK kvs => obtain ⟨z, y, vs, r, ob, es, ep, e, c⟩ := x; exact ⟨z, y, vs, r, ob, es, ep, k _ _ (.inl rfl) e, c⟩
  | dT kvs =>
    obtain ⟨z, y, xs, r, ob, es, ep, e, c⟩ := x
    exact ⟨z, y, xs, Paired.mapP r fun p q z => ⟨z.1, ht _ _ z.2.1, z.2.2⟩, ob, es, ep, k _ _ (.inl rfl) e, c⟩
  | set S n => obtain ⟨ob, es, ep, t, e, c⟩ := x; exact ⟨ob, es, ep, t, k _ _ (.inl rfl) e, c⟩
  | ins C dx fs =>
    obtain ⟨d, z, ne, e, mA, ⟨od, es, ep, e2, c⟩, r⟩ := x
    exact ⟨ho _ d, z, ne, k _ _ (.inl rfl) e, mA, ⟨od, es, ep, k _ _ (.inr d) e2, c⟩, r⟩
  | own y => obtain ⟨ob, e⟩ := x; exact ⟨ob, k _ _ (.inl rfl) e⟩
  | xd fs => obtain ⟨mA, ⟨od, es, ep, e, c⟩, r⟩ := x; exact ⟨mA, ⟨od, es, ep, k _ _ (.inl rfl) e, c⟩, r⟩
  | rng lo hi => obtain ⟨t, u, v, e⟩ := x; exact ⟨t, u, v, k _ _ (.inl rfl) e⟩
  | frz ob u ih => obtain ⟨e, q⟩ := x; exact ⟨k _ _ (.inl rfl) e, ih q⟩
  | tbl ps =>
    have e : h.get? a = some { cls := .none, data := .fields ps } := x
    show h'.get? a = some { cls := .none, data := .fields ps }
    exact k a _ (.inl rfl) e
  | met f y =>
    have e : h.get? a = some (PySem.W.methodObj (.ref f) (.ref y)) := x
    show h'.get? a = some (PySem.W.methodObj (.ref f) (.ref y))
    exact k a _ (.inl rfl) e
  | ext φ => obtain ⟨p, ⟨o, e⟩, st⟩ := x; exact ⟨st _ _ p fun o q => k _ _ (.inl rfl) q, ⟨o, k _ _ (.inl rfl) e⟩, st⟩
theorem HOk.lt (x : HOk P w H h) (e : H a = some o) : a < h.objs.size := (x a o e).lt
theorem HOk.fresh (x : HOk P w H h) (e : h.objs.size <= a) : H a = none := by
  cases q : H a with
  | none => rfl
  | some u => exact absurd (Nat.lt_of_lt_of_le (x.lt q) e) (Nat.lt_irrefl _)
theorem HOk.kept (x : HOk P w H h) (k : ∀ b u, h.get? b = some u -> h'.get? b = some u) : HOk P w H h' := fun a o e =>
  (x a o e).stay (fun b u _ q => k b u q) (fun _ q => q) fun _ _ q => q
theorem HOk.laid (x : HOk P w H h) (k : ∀ b u, h.get? b = some u -> h'.get? b = some u) (hp : h.objs.size <= a) (new : ObjOk P w (upd H a o) h' a o) : HOk P w (upd H a o) h' := fun b u e => by
  have hn := x.fresh hp
  by_cases hb : b = a
  . subst hb; rw [upd_same] at e; cases e; exact new
  . rw [upd_ne hb] at e
    exact (x b u e).stay (fun c v _ q => k c v q) (fun c q => by rw [upd_ne (ne_of_none q hn)]; exact q) fun c xs q => by rw [upd_ne (ne_of_none q hn)]; exact q
end
def Rd (H : Hp) (a : Addr) (u : HO) : Prop := H a = some u \/ ∃ o, H a = some (.frz o u)
theorem Rd.ok {P : Program} {w : World} {H : Hp} {h : Heap} {a : Addr} {u : HO} (r : Rd H a u) (x : HOk P w H h) : ObjOk P w H h a u := by
  rcases r with r | ⟨o, r⟩
  . exact x a u r
  . obtain ⟨_, q⟩ := x a _ r
    exact q
def Mut : Option HO -> Prop
  | some (.lst _) => True
  | some (.dK _) => True
  | some (.dT _) => True
  | some (.set _ _) => True
  | some (.ins _ _ _) => True
  | some (.ext _) => True
  | _ => False
section
variable {P : Program} {w : World} {H : Hp} {h h' : Heap} {x e : Addr} {o' : HO}
theorem HOk.write (ok : HOk P w H h) (mu : Mut (H x)) (he : e = x \/ H e = some (.own x)) (k : ∀ b u, b ≠ e -> h.get? b = some u -> h'.get? b = some u) (heo : ∃ u, h'.get? e = some u)
    (new : ObjOk P w (upd H x o') h' x o') : HOk P w (upd H x o') h' := fun b u q => by
  have nown : ∀ c y, H c = some (.own y) -> c ≠ x := fun c y r z => by subst z; rw [r] at mu; exact mu
  have ntup : ∀ c xs, H c = some (.tup xs) -> c ≠ x := fun c xs r z => by subst z; rw [r] at mu; exact mu
  by_cases hb : b = x
  . subst hb; rw [upd_same] at q; cases q; exact new
  . rw [upd_ne hb] at q
    by_cases hbe : b = e
    . have q' : H b = some (.own x) := by
        rcases he with z | z
        . exact absurd (hbe.trans z) hb
        . rw [hbe]; exact z
      rw [q] at q'; cases q'
      obtain ⟨v, hv⟩ := heo
      exact ⟨v, by rw [hbe]; exact hv⟩
    . refine (ok b u q).stay (fun c v hc r => k c v ?_ r) (fun c r => by rw [upd_ne (nown c b r)]; exact r) fun c xs r => by rw [upd_ne (ntup c xs r)]; exact r
      rcases hc with rfl | hc
      . exact hbe
      . rintro rfl
        rcases he with z | z
        . exact nown c b hc z
        . rw [hc] at z; cases z; exact hb rfl
end
structure Un (fs ex : List Addr) (H H' : Hp) (h h' : Heap) : Prop where
  keep : ∀ b o, h.get? b = some o -> H b = none -> b ∉ fs -> b ∉ ex -> h'.get? b = some o
  slot : ∀ b o, h.get? b = some o -> H b = none -> b ∈ fs -> b ∉ ex -> ∃ sl, h'.get? b = some { o with slots := sl }
  free : ∀ b o, h.get? b = some o -> H b = none -> b ∉ ex -> H' b = none
  there : ∀ b o, h.get? b = some o -> b ∉ ex -> ∃ o', h'.get? b = some o'
  tups : ∀ b xs, H b = some (.tup xs) -> H' b = some (.tup xs)
  frzs : ∀ b o u, H b = some (.frz o u) -> H' b = some (.frz o u)
  tbls : ∀ b ps, H b = some (.tbl ps) -> ∃ more, H' b = some (.tbl (ps ++ more))
section
variable {fs fs' ex ex' : List Addr} {H H1 H2 : Hp} {h h1 h2 h' : Heap} {a x e : Addr} {o : HO}
theorem Un.any (u : Un fs ex H H1 h h1) {b : Addr} {ob : Obj} (q : h.get? b = some ob) (n : H b = none) (hx : b ∉ ex) : ∃ sl, h1.get? b = some { ob with slots := sl } := by
  by_cases hb : b ∈ fs
  . exact u.slot b ob q n hb hx
  . exact ⟨ob.slots, u.keep b ob q n hb hx⟩
theorem Un.kept (k : ∀ b u, h.get? b = some u -> h'.get? b = some u) : Un fs ex H H h h' :=
  ⟨fun b ob q _ _ _ => k b ob q, fun b ob q _ _ _ => ⟨ob.slots, k b ob q⟩, fun _ _ _ n _ => n, fun b ob q _ => ⟨ob, k b ob q⟩, fun _ _ q => q, fun _ _ _ q => q, fun _ ps q => ⟨#[], by rw [q]; simp⟩⟩
theorem Un.refl : Un fs ex H H h h := Un.kept fun _ _ q => q
theorem Un.laid (k : ∀ b u, h.get? b = some u -> h'.get? b = some u) (hp : h.objs.size <= a) (hn : H a = none) : Un fs ex H (upd H a o) h h' where
  keep := fun b u q _ _ _ => k b u q
  slot := fun b u q _ _ _ => ⟨u.slots, k b u q⟩
  free := fun b u q n _ => by rw [upd_ne (Nat.ne_of_lt (Nat.lt_of_lt_of_le (Heap.lt_size q) hp))]; exact n
  there := fun b u q _ => ⟨u, k b u q⟩
  tups := fun b xs q => by rw [upd_ne (ne_of_none q hn)]; exact q
  frzs := fun b u xs q => by rw [upd_ne (ne_of_none q hn)]; exact q
  tbls := fun b ps q => ⟨#[], by rw [upd_ne (ne_of_none q hn), q]; simp⟩
theorem Un.write (mu : Mut (H x)) (he : e = x \/ H e = some (.own x)) (k : ∀ b u, b ≠ e -> h.get? b = some u -> h'.get? b = some u) (heo : ∃ u, h'.get? e = some u) : Un fs ex H (upd H x o) h h' := by
  have hx : ∀ b, H b = none -> b ≠ x := fun b n z => by subst z; rw [n] at mu; exact mu
  have hb : ∀ b, H b = none -> b ≠ e := fun b n z => by
    subst z
    rcases he with r | r
    . exact hx b n r
    . rw [n] at r; cases r
  have hm : ∀ b u, H b = some u -> ¬ Mut (some u) -> b ≠ x := fun b u q nm z => by subst z; rw [q] at mu; exact nm mu
  refine ⟨fun b u q n _ _ => k b u (hb b n) q, fun b u q n _ _ => ⟨u.slots, k b u (hb b n) q⟩, fun b u q n _ => by rw [upd_ne (hx b n)]; exact n, fun b u q _ => ?_,
    fun b xs q => by rw [upd_ne (hm b _ q fun z => z)]; exact q, fun b u xs q => by rw [upd_ne (hm b _ q fun z => z)]; exact q, fun b ps q => ⟨#[], by rw [upd_ne (hm b _ q fun z => z), q]; simp⟩⟩
  by_cases hbe : b = e
  . subst hbe; exact heo
  . exact ⟨u, k b u hbe q⟩
end
def trk (h : Heap) (H : Hp) : List Addr := (List.range h.objs.size).filter fun a => (H a).isSome
def hidT (h : Heap) (H : Hp) : Heap := PySem.W.hideAll h (trk h H)
theorem hidT_size (h : Heap) (H : Hp) : (hidT h H).objs.size = h.objs.size := PySem.W.hideAll_size _ _
theorem hidT_get {h : Heap} {H : Hp} {b : Addr} {o : Obj} (e : h.get? b = some o) (n : H b = none) : (hidT h H).get? b = some o :=
  PySem.W.hideAll_get _ e fun hm => by
    have q : (H b).isSome = true := (List.mem_filter.mp hm).2
    rw [n] at q; simp at q
theorem of_hidT {h : Heap} {H : Hp} {b : Addr} {o : Obj} (e : (hidT h H).get? b = some o) : h.get? b = some o /\ H b = none := by
  have e' : h.get? b = some o := PySem.W.of_hideAll (trk h H) e
  refine ⟨e', ?_⟩
  cases q : H b with
  | none => rfl
  | some x =>
    have hm : b ∈ trk h H := List.mem_filter.mpr ⟨List.mem_range.mpr (Heap.lt_size e'), by simp [q]⟩
    have z : (hidT h H).get? b = none := PySem.W.hideAll_none (trk h H) hm
    rw [z] at e; cases e
structure Mod (K : PySem.W.Frag) (mg : Str -> Option Value) (base : Heap) : Prop where
  kin : K.In base
  glob : base.Ns mainGlobals mg
  blt : ∃ mb, base.Ns builtinsNs mb /\ ∀ x : Str, x ≠ "__name__" -> mb x = bootBuiltins x
  nolimit : base.NoLimit
structure Cx where
  prog : Program
  w : World
  K : PySem.W.Frag
  mg : Str -> Option Value
  base : Heap
  A : Around
  N : List Str
  s_0 : Shared
  H_0 : Hp
  env : Env
  outer : List Env
  stack : List Env
  ex : List Addr
  fn : Str -> Bool
  calm : Bool
  pn : List (Addr × Obj)
  xe : Value -> Shared -> Prop
def frs (l : List Env) : List Addr := l.filterMap (·.frame)
abbrev Cx.fs (X : Cx) : List Addr := frs X.outer
def Vis (sc : Scope) (x : Str) : Prop := sc.names.lookup x = some .local \/ sc.names.lookup x = some .cell \/ sc.names.lookup x = some .free
def Loc (sc : Scope) (x : Str) : Prop := sc.names.lookup x = some .local \/ sc.names.lookup x = some .cell
def Look (env : Env) (h : Heap) (m : Str -> Option Value) (x : Str) (u : Value) : Prop :=
  (env.kindOf x = some .local /\ m x = some u) \/ ((env.kindOf x = some .cell \/ env.kindOf x = some .free) /\ ∃ c, env.cells.lookup x = some c /\ h.IsCell c (some u))
structure Cx.Ok (X : Cx) : Prop where
  mod : Mod X.K X.mg X.base
  kind : X.env.scope.kind = .function
  glob : X.env.globals = mainGlobals
  blt : X.env.builtins = builtinsNs
  above : X.s_0.heap.objs.size <= X.env.locals
  inj : ∀ x y c, X.env.cells.lookup x = some c -> X.env.cells.lookup y = some c -> x = y
  has : ∀ x, (X.env.kindOf x = some .cell \/ X.env.kindOf x = some .free) -> ∃ c, X.env.cells.lookup x = some c
  cab : ∀ x c, X.fn x = true -> X.env.cells.lookup x = some c -> X.s_0.heap.objs.size <= c
  hd : X.calm = true -> X.A.handled = none
  frames : X.A.frames = some X.stack
  stk : X.stack = X.outer \/ (X.stack = X.env :: X.outer /\ X.env.frame = some X.env.locals)
  exf : ∀ b ∈ X.ex, b ≠ X.env.locals /\ ∀ x c, X.env.cells.lookup x = some c -> c ≠ b
  bs : ∀ b o, X.base.get? b = some o -> X.s_0.heap.get? b = some o /\ X.H_0 b = none
  bsz : X.base.objs.size <= X.s_0.heap.objs.size
  noex : ∀ b o, X.base.get? b = some o -> b ∉ X.ex
  exfs : ∀ b ∈ X.ex, b ∉ X.fs
  funs : X.s_0.heap.FunFrames X.base X.outer
  frf : ∀ b ∈ X.fs, X.H_0 b = none
structure Inv (X : Cx) (pins : List (Addr × Obj)) (σ : List (Option V)) (H : Hp) (s : Shared) : Prop where
  ok : X.Ok
  os : s.os = X.s_0.os
  bare : AllBare s.gens
  base : Un X.fs X.ex X.H_0 H X.s_0.heap s.heap
  loc : ∃ m, s.heap.Ns X.env.locals m /\ ∀ (i : Nat) (x : Str) (v : V), X.N[i]? = some x -> σ[i]? = some (some v) -> Vis X.env.scope x -> ∃ u, RelV v u /\ Look X.env s.heap m x u
  cell : ∀ x c, X.env.cells.lookup x = some c -> ∃ v, s.heap.IsCell c v
  free : H X.env.locals = none
  freeC : ∀ x c, X.env.cells.lookup x = some c -> H c = none
  pin : ∀ p ∈ X.pn ++ pins, s.heap.get? p.1 = some p.2 /\ H p.1 = none /\ p.1 ≠ X.env.locals /\ p.1 ∉ X.fs /\ ∀ v, p.2.data ≠ .cell v
  hok : HOk X.prog X.w H s.heap
  len : σ.length = X.N.length
section
variable {X : Cx} {pins : List (Addr × Obj)} {σ : List (Option V)} {H H' : Hp} {s : Shared} {h' : Heap}
theorem Cx.Ok.nofr (ok : X.Ok) {b : Addr} {o : Obj} (e : X.base.get? b = some o) : b ∉ X.fs := fun hb => by
  have := (ok.funs.mem hb).1
  rw [e] at this; cases this
theorem Inv.bs (I : Inv X pins σ H s) : ∀ b o, X.base.get? b = some o -> s.heap.get? b = some o /\ H b = none := fun b o e =>
  ⟨I.base.keep b o (I.ok.bs b o e).1 (I.ok.bs b o e).2 (I.ok.nofr e) (I.ok.noex b o e), I.base.free b o (I.ok.bs b o e).1 (I.ok.bs b o e).2 (I.ok.noex b o e)⟩
theorem Inv.bk (I : Inv X pins σ H s) : ∀ b o, X.base.get? b = some o -> s.heap.get? b = some o := fun b o e => (I.bs b o e).1
theorem Inv.mod (I : Inv X pins σ H s) : Mod X.K X.mg X.base := I.ok.mod
theorem Inv.kIn (I : Inv X pins σ H s) : X.K.In s.heap := I.ok.mod.kin.keeps I.bk
theorem Inv.fr (I : Inv X pins σ H s) : ∃ m, Fr X.base X.env.locals s.heap m :=
  let ⟨m, hn, _⟩ := I.loc
  ⟨m, hn, I.bk, Nat.le_trans I.ok.bsz I.ok.above⟩
theorem Inv.lt (I : Inv X pins σ H s) : X.env.locals < s.heap.objs.size := let ⟨_, hn, _⟩ := I.loc; hn.lt
theorem Inv.sz (I : Inv X pins σ H s) : X.s_0.heap.objs.size <= s.heap.objs.size := Nat.le_trans I.ok.above (Nat.le_of_lt I.lt)
theorem Inv.nofs (I : Inv X pins σ H s) {a : Addr} (h : s.heap.objs.size <= a) : a ∉ X.fs := fun hb => by
  obtain ⟨_, o, ho, _⟩ := I.ok.funs.mem hb
  exact absurd (Nat.lt_of_lt_of_le (Heap.lt_size ho) (Nat.le_trans I.sz h)) (Nat.lt_irrefl _)
theorem Inv.cne (I : Inv X pins σ H s) : ∀ x c, X.env.cells.lookup x = some c -> c ≠ X.env.locals := fun x c e z => by
  obtain ⟨v, o, ho, hd⟩ := I.cell x c e
  obtain ⟨m, ⟨o', es, ep, ho', hd', _⟩, _⟩ := I.loc
  rw [z, ho'] at ho; cases ho; rw [hd'] at hd; cases hd
theorem Inv.funs (I : Inv X pins σ H s) : s.heap.FunFrames X.base X.outer := by
  have all : ∀ (l : List Env), (∀ b ∈ frs l, b ∈ X.fs) -> X.s_0.heap.FunFrames X.base l -> s.heap.FunFrames X.base l := by
    intro l
    induction l with
    | nil => intro _ _; trivial
    | cons env r ih =>
      intro hs hl
      obtain ⟨hk, ⟨L, o, hf, hn, ho, hd⟩, hr⟩ := hl
      have hL : L ∈ X.fs := hs L (by unfold frs; rw [List.filterMap_cons, hf]; exact List.mem_cons_self)
      obtain ⟨sl, e⟩ := I.base.slot L o ho (I.ok.frf L hL) hL fun z => I.ok.exfs L z hL
      exact ⟨hk, ⟨L, _, hf, hn, e, hd⟩, ih (fun b hb => hs b (by unfold frs; rw [List.filterMap_cons, hf]; exact List.mem_cons_of_mem _ hb)) hr⟩
  exact all X.outer (fun _ hb => hb) I.ok.funs
theorem Inv.stack (I : Inv X pins σ H s) : s.heap.FunFrames X.base X.stack := by
  rcases I.ok.stk with e | ⟨e, hf⟩
  . rw [e]; exact I.funs
  . rw [e]
    obtain ⟨m, hn, _⟩ := I.loc
    refine .cons (by rw [I.ok.kind]; decide) hf hn ?_ I.funs
    exact Heap.get?_none_of_le (Nat.le_trans I.ok.bsz I.ok.above)
theorem Inv.stkSub (I : Inv X pins σ H s) : ∀ b ∈ frs X.stack, b ∈ X.env.locals :: X.fs := fun b hb => by
  rcases I.ok.stk with e | ⟨e, hf⟩
  . rw [e] at hb; exact List.mem_cons_of_mem _ hb
  . rw [e] at hb
    unfold frs at hb
    rw [List.filterMap_cons, hf] at hb
    exact hb
theorem Inv.stkFree (I : Inv X pins σ H s) : ∀ b ∈ frs X.stack, H b = none := fun b hb => by
  rcases List.mem_cons.mp (I.stkSub b hb) with e | hb
  . rw [e]; exact I.free
  . obtain ⟨_, o, ho, _⟩ := I.ok.funs.mem hb
    exact I.base.free b o ho (I.ok.frf b hb) fun z => I.ok.exfs b z hb
theorem Inv.step {g' : Array GenState} {t' : Nat} {d' : Drawn} {ch : List Addr} (I : Inv X pins σ H s)
    (hch : ∀ b ∈ ch, (b ∈ X.ex \/ X.s_0.heap.objs.size <= b) /\ b ≠ X.env.locals /\ (∀ x c, X.env.cells.lookup x = some c -> c ≠ b) /\ ∀ p ∈ X.pn ++ pins, p.1 ≠ b)
    (keep : ∀ b o, b ≠ X.env.locals -> b ∉ X.fs -> b ∉ ch -> s.heap.get? b = some o -> H b = none -> h'.get? b = some o)
    (slot : ∀ b o, b ≠ X.env.locals -> b ∈ X.fs -> b ∉ ch -> s.heap.get? b = some o -> H b = none -> ∃ sl, h'.get? b = some { o with slots := sl }) (free : ∀ b o, b ∉ ch -> s.heap.get? b = some o -> H b = none -> H' b = none)
    (there : ∀ b o, b ∉ ch -> s.heap.get? b = some o -> ∃ o', h'.get? b = some o')
    (tups : ∀ b xs, H b = some (.tup xs) -> H' b = some (.tup xs)) (frzs : ∀ b o u, H b = some (.frz o u) -> H' b = some (.frz o u)) (tbls : ∀ b ps, H b = some (.tbl ps) -> ∃ more, H' b = some (.tbl (ps ++ more)))
    (ns : ∀ m, s.heap.Ns X.env.locals m -> h'.Ns X.env.locals m) (hok : HOk X.prog X.w H' h') (hg : AllBare g') :
    Inv X pins σ H' { s with heap := h', gens := g', drawn := d', toks := t' } := by
  have neL : ∀ b o, X.s_0.heap.get? b = some o -> b ≠ X.env.locals := fun b o e => Nat.ne_of_lt (Nat.lt_of_lt_of_le (Heap.lt_size e) I.ok.above)
  have neC : ∀ b o, X.s_0.heap.get? b = some o -> b ∉ X.ex -> b ∉ ch := fun b o e hx hb => by
    rcases (hch b hb).1 with z | z
    . exact hx z
    . exact absurd (Nat.lt_of_lt_of_le (Heap.lt_size e) z) (Nat.lt_irrefl _)
  have cellK : ∀ x c, X.env.cells.lookup x = some c -> ∀ v, s.heap.IsCell c v -> h'.IsCell c v := fun x c e v ⟨o, ho, hd⟩ => by
    have nch : c ∉ ch := fun z => (hch c z).2.2.1 x c e rfl
    by_cases hc : c ∈ X.fs
    . obtain ⟨sl, q⟩ := slot c o (I.cne x c e) hc nch ho (I.freeC x c e)
      exact ⟨_, q, hd⟩
    . exact ⟨o, keep c o (I.cne x c e) hc nch ho (I.freeC x c e), hd⟩
  refine ⟨I.ok, I.os, hg, ⟨fun b o e n hb hx => ?_, fun b o e n hb hx => ?_, fun b o e n hx => ?_, fun b o e hx => ?_, fun b xs e => tups b xs (I.base.tups b xs e), fun b o xs e => frzs b o xs (I.base.frzs b o xs e), fun b ps e => ?_⟩, ?_, fun x c e => ?_, ?_, fun x c e => ?_, fun p hp => ?_, hok, I.len⟩
  . exact keep b o (neL b o e) hb (neC b o e hx) (I.base.keep b o e n hb hx) (I.base.free b o e n hx)
  . obtain ⟨sl, e1⟩ := I.base.slot b o e n hb hx
    obtain ⟨sl', e2⟩ := slot b _ (neL b o e) hb (neC b o e hx) e1 (I.base.free b o e n hx)
    exact ⟨sl', e2⟩
  . obtain ⟨o', e1⟩ := I.base.there b o e hx
    exact free b o' (neC b o e hx) e1 (I.base.free b o e n hx)
  . obtain ⟨o', e1⟩ := I.base.there b o e hx
    exact there b o' (neC b o e hx) e1
  . obtain ⟨m1, e1⟩ := I.base.tbls b ps e
    obtain ⟨m2, e2⟩ := tbls b _ e1
    exact ⟨m1 ++ m2, by rw [e2, Array.append_assoc]⟩
  . obtain ⟨m, hn, hl⟩ := I.loc
    refine ⟨m, ns m hn, fun i x v e1 e2 e3 => ?_⟩
    obtain ⟨u, r, l⟩ := hl i x v e1 e2 e3
    refine ⟨u, r, ?_⟩
    rcases l with l | ⟨k, c, e, z⟩
    . exact .inl l
    . exact .inr ⟨k, c, e, cellK x c e _ z⟩
  . obtain ⟨v, z⟩ := I.cell x c e
    exact ⟨v, cellK x c e v z⟩
  . obtain ⟨m, ⟨o, _, _, ho, _⟩, _⟩ := I.loc
    exact free _ o (fun z => (hch _ z).2.1 rfl) ho I.free
  . obtain ⟨v, o, ho, hd⟩ := I.cell x c e
    exact free c o (fun z => (hch c z).2.2.1 x c e rfl) ho (I.freeC x c e)
  . obtain ⟨e, n, ne, nf, d⟩ := I.pin p hp
    have nch : p.1 ∉ ch := fun z => (hch p.1 z).2.2.2 p hp rfl
    exact ⟨keep p.1 p.2 ne nf nch e n, free p.1 p.2 nch e n, ne, nf, d⟩
theorem Inv.un {t' : Nat} (I : Inv X pins σ H s) (u : Un X.fs [] H H' s.heap h') (hok : HOk X.prog X.w H' h') : Inv X pins σ H' { s with heap := h', toks := t' } := by
  obtain ⟨m, ⟨o, es, ep, ho, r⟩, _⟩ := id I.loc
  obtain ⟨sl, hL⟩ := u.any ho I.free (by simp)
  exact I.step (g' := s.gens) (d' := s.drawn) (ch := []) (fun _ z => nomatch z) (fun b o _ hb _ e n => u.keep b o e n hb (by simp)) (fun b o _ hb _ e n => u.slot b o e n hb (by simp)) (fun b o _ e n => u.free b o e n (by simp)) (fun b o _ e => u.there b o e (by simp)) u.tups u.frzs u.tbls (fun m' hm => by
    obtain ⟨o', es', ep', ho', r'⟩ := hm
    rw [ho] at ho'; cases ho'
    exact ⟨_, es', ep', hL, r'⟩) hok I.bare
theorem Inv.call {g' : Array GenState} {t' : Nat} {d' : Drawn} {ch : List Addr} (I : Inv X pins σ H s) (u : Un (frs X.stack) ch H H' s.heap h') (hok : HOk X.prog X.w H' h') (hg : AllBare g')
    (hch : ∀ b ∈ ch, (b ∈ X.ex \/ X.s_0.heap.objs.size <= b) /\ b ≠ X.env.locals /\ (∀ x c, X.env.cells.lookup x = some c -> c ≠ b) /\ ∀ p ∈ X.pn ++ pins, p.1 ≠ b) :
    Inv X pins σ H' { s with heap := h', gens := g', drawn := d', toks := t' } := by
  obtain ⟨m, ⟨o, es, ep, ho, r⟩, _⟩ := id I.loc
  obtain ⟨sl, hL⟩ := u.any ho I.free fun z => (hch _ z).2.1 rfl
  exact I.step (ch := ch) hch (fun b o hL hb hc e n => u.keep b o e n (fun z => (List.mem_cons.mp (I.stkSub b z)).elim hL hb) hc) (fun b o _ _ hc e n => u.any e n hc) (fun b o hc e n => u.free b o e n hc) (fun b o hc e => u.there b o e hc) u.tups u.frzs u.tbls (fun m' hm => by
    obtain ⟨o', es', ep', ho', r'⟩ := hm
    rw [ho] at ho'; cases ho'
    exact ⟨_, es', ep', hL, r'⟩) hok hg
theorem Inv.turned {t' : Nat} {it : Addr} (I : Inv X pins σ H s) (k : ∀ b o, b ≠ it -> s.heap.get? b = some o -> h'.get? b = some o) (hn : H it = none) (hL : it ≠ X.env.locals)
    (h1 : it ∈ X.ex \/ X.s_0.heap.objs.size <= it) (h2 : ∀ x c, X.env.cells.lookup x = some c -> c ≠ it) (h3 : ∀ p ∈ X.pn ++ pins, p.1 ≠ it) : Inv X pins σ H { s with heap := h', toks := t' } := by
  have nit : ∀ b u, H b = some u -> b ≠ it := fun b u e z => by rw [z, hn] at e; cases e
  refine I.step (g' := s.gens) (d' := s.drawn) (ch := [it]) (fun b hb => ?_) (fun b o _ _ hc e _ => k b o (fun z => hc (by simp [z])) e) (fun b o _ _ hc e _ => ⟨o.slots, k b o (fun z => hc (by simp [z])) e⟩) (fun _ _ _ _ n => n)
    (fun b o hc e => ⟨o, k b o (fun z => hc (by simp [z])) e⟩) (fun _ _ e => e) (fun _ _ _ e => e) (fun b ps e => ⟨#[], by rw [e]; simp⟩) (fun m hm => ?_) (fun b u e => ?_) I.bare
  . have e : b = it := by simpa using hb
    subst e
    exact ⟨h1, hL, h2, h3⟩
  . obtain ⟨o, es, ep, ho, r⟩ := hm
    exact ⟨o, es, ep, k _ o (Ne.symm hL) ho, r⟩
  . refine (I.hok b u e).stay (fun c v hc q => k c v ?_ q) (fun _ q => q) fun _ _ q => q
    rcases hc with z | z
    . rw [z]; exact nit b u e
    . exact nit c _ z
theorem Inv.tok (I : Inv X pins σ H s) (t : Nat) : Inv X pins σ H { s with toks := t } := I.un (h' := s.heap) (t' := t) Un.refl I.hok
theorem Inv.kept {t' : Nat} (I : Inv X pins σ H s) (k : ∀ b u, s.heap.get? b = some u -> h'.get? b = some u) : Inv X pins σ H { s with heap := h', toks := t' } := I.un (Un.kept k) (I.hok.kept k)
theorem Inv.laid {a : Addr} {o : HO} {t' : Nat} (I : Inv X pins σ H s) (k : ∀ b u, s.heap.get? b = some u -> h'.get? b = some u) (hp : s.heap.objs.size <= a) (new : ObjOk X.prog X.w (upd H a o) h' a o) :
    Inv X pins σ (upd H a o) { s with heap := h', toks := t' } := I.un (Un.laid k hp (I.hok.fresh hp)) (I.hok.laid k hp new)
theorem Inv.write {x e : Addr} {o : HO} {t' : Nat} (I : Inv X pins σ H s) (mu : Mut (H x)) (he : e = x \/ H e = some (.own x)) (k : ∀ b u, b ≠ e -> s.heap.get? b = some u -> h'.get? b = some u) (heo : ∃ u, h'.get? e = some u)
    (new : ObjOk X.prog X.w (upd H x o) h' x o) : Inv X pins σ (upd H x o) { s with heap := h', toks := t' } := I.un (Un.write mu he k heo) (I.hok.write mu he k heo new)
theorem Inv.weak {σ' : List (Option V)} (I : Inv X pins σ H s) (hl : σ'.length = σ.length) (w : ∀ (i : Nat) v, σ'[i]? = some (some v) -> σ[i]? = some (some v)) : Inv X pins σ' H s :=
  ⟨I.ok, I.os, I.bare, I.base, let ⟨m, hn, hl'⟩ := I.loc; ⟨m, hn, fun i x v e1 e2 e3 => hl' i x v e1 (w i v e2) e3⟩, I.cell, I.free, I.freeC, I.pin, I.hok, hl.trans I.len⟩
theorem Inv.pins_of {pins' : List (Addr × Obj)} (I : Inv X pins σ H s) (h : ∀ p ∈ pins', s.heap.get? p.1 = some p.2 /\ H p.1 = none /\ p.1 ≠ X.env.locals /\ p.1 ∉ X.fs /\ ∀ v, p.2.data ≠ .cell v) : Inv X pins' σ H s :=
  ⟨I.ok, I.os, I.bare, I.base, I.loc, I.cell, I.free, I.freeC, fun p hp => (List.mem_append.mp hp).elim (fun z => I.pin p (List.mem_append_left _ z)) (h p), I.hok, I.len⟩
theorem nodup_ix {N : List Str} (hN : N.Nodup) {i j : Nat} {x : Str} (a : N[i]? = some x) (b : N[j]? = some x) : i = j := by
  obtain ⟨h1, e1⟩ := List.getElem?_eq_some_iff.mp a
  obtain ⟨h2, e2⟩ := List.getElem?_eq_some_iff.mp b
  exact (List.getElem_inj hN).mp (e1.trans e2.symm)
theorem store_ok2 {M : Model} {A : Around} {E : Value -> Shared -> Prop} {i : Nat} {x : Str} {v : V} {u : Value} {Q : Unit -> Shared -> Prop} (I : Inv X pins σ H s) (hN : X.N.Nodup) (hi : X.N[i]? = some x) (hx : Loc X.env.scope x) (r : RelV v u)
    (h : ∀ s', Inv X pins (σ.set i (some v)) H s' -> (∃ a, Heap.SameBut a s.heap s'.heap /\ (a = X.env.locals \/ X.env.cells.lookup x = some a)) -> Q () s') (hf : X.fn x = true \/ X.env.scope.names.lookup x = some .local := by first | exact .inl rfl | exact .inr rfl | assumption) : wpAny M A (storeName X.env x u) Q E s := by
  obtain ⟨m, hn, hl⟩ := id I.loc
  have hcls : (X.env.scope.kind == .class || (X.env.scope.kind == .module && X.env.locals != X.env.globals)) = false := by rw [I.ok.kind]; rfl
  have hiσ : i < σ.length := by rw [I.len]; exact (List.getElem?_eq_some_iff.mp hi).1
  have cne := I.cne
  have tracked : ∀ {a : Addr} {h' : Heap}, (∃ o, s.heap.get? a = some o /\ H a = none) -> Heap.SameBut a s.heap h' -> HOk X.prog X.w H h' := fun {a h'} ha hs b ob e => by
    obtain ⟨_, _, hfree⟩ := ha
    refine (I.hok b ob e).stay (fun c w' hc q => (hs.2 c ?_).trans q) (fun _ q => q) fun _ _ q => q
    rintro rfl
    rcases hc with rfl | hc
    . rw [hfree] at e; cases e
    . rw [hfree] at hc; cases hc
  rcases hx with hk | hk
  . refine wpAny_storeName_local hk hn (fun h' hn' hs => ?_) hcls
    obtain ⟨oL, _, _, hoL, _⟩ := id hn
    refine h _ ⟨I.ok, I.os, I.bare, ⟨fun b o e n hb hx => ?_, fun b o e n hb hx => ?_, I.base.free, fun b o e hx => ?_, I.base.tups, I.base.frzs, I.base.tbls⟩, ⟨_, hn', fun j y v' e1 e2 e3 => ?_⟩, fun y c e => ?_, I.free, I.freeC, fun p hp => ?_, tracked ⟨oL, hoL, I.free⟩ hs, by simpa using I.len⟩ ⟨_, hs, .inl rfl⟩
    . exact (hs.2 b (Nat.ne_of_lt (Nat.lt_of_lt_of_le (Heap.lt_size e) I.ok.above))).trans (I.base.keep b o e n hb hx)
    . obtain ⟨sl, e1⟩ := I.base.slot b o e n hb hx
      exact ⟨sl, (hs.2 b (Nat.ne_of_lt (Nat.lt_of_lt_of_le (Heap.lt_size e) I.ok.above))).trans e1⟩
    . obtain ⟨o', e1⟩ := I.base.there b o e hx
      exact ⟨o', (hs.2 b (Nat.ne_of_lt (Nat.lt_of_lt_of_le (Heap.lt_size e) I.ok.above))).trans e1⟩
    . by_cases hj : j = i
      . subst hj
        rw [hi] at e1; cases e1
        rw [List.getElem?_set_self hiσ] at e2
        cases e2
        exact ⟨u, r, .inl ⟨hk, by simp⟩⟩
      . rw [List.getElem?_set_ne (Ne.symm hj)] at e2
        obtain ⟨u', r', q⟩ := hl j y v' e1 e2 e3
        refine ⟨u', r', ?_⟩
        rcases q with ⟨k, e⟩ | ⟨k, c, e, z⟩
        . refine .inl ⟨k, ?_⟩
          have : y ≠ x := fun e => hj (nodup_ix hN e1 (e ▸ hi))
          simp [this, e]
        . exact .inr ⟨k, c, e, z.sameBut hs (cne y c e)⟩
    . obtain ⟨w', z⟩ := I.cell y c e
      exact ⟨w', z.sameBut hs (cne y c e)⟩
    . obtain ⟨e, n, ne, nf, d⟩ := I.pin p hp
      exact ⟨(hs.2 p.1 ne).trans e, n, ne, nf, d⟩
  . have hfn : X.fn x = true := by
      rcases hf with z | z
      . exact z
      . rw [z] at hk; cases hk
    obtain ⟨c, hc⟩ := I.ok.has x (.inl hk)
    obtain ⟨w', z⟩ := I.cell x c hc
    refine wpAny_storeName_cell I.ok.kind hk hc z (fun h' hc' hs => ?_)
    obtain ⟨oc, hoc, hocd⟩ := id z
    refine h { s with heap := h' } ⟨I.ok, I.os, I.bare, ⟨fun b o e n hb hx => ?_, fun b o e n hb hx => ?_, I.base.free, fun b o e hx => ?_, I.base.tups, I.base.frzs, I.base.tbls⟩, ⟨m, hn.sameBut hs (Ne.symm (cne x c hc)), fun j y v' e1 e2 e3 => ?_⟩, fun y c' e => ?_, I.free, I.freeC, fun p hp => ?_, tracked ⟨oc, hoc, I.freeC x c hc⟩ hs, by simpa using I.len⟩ ⟨c, hs, .inr hc⟩
    . exact (hs.2 b (Nat.ne_of_lt (Nat.lt_of_lt_of_le (Heap.lt_size e) (I.ok.cab x c hfn hc)))).trans (I.base.keep b o e n hb hx)
    . obtain ⟨sl, e1⟩ := I.base.slot b o e n hb hx
      exact ⟨sl, (hs.2 b (Nat.ne_of_lt (Nat.lt_of_lt_of_le (Heap.lt_size e) (I.ok.cab x c hfn hc)))).trans e1⟩
    . obtain ⟨o', e1⟩ := I.base.there b o e hx
      exact ⟨o', (hs.2 b (Nat.ne_of_lt (Nat.lt_of_lt_of_le (Heap.lt_size e) (I.ok.cab x c hfn hc)))).trans e1⟩
    . by_cases hj : j = i
      . subst hj
        rw [hi] at e1; cases e1
        rw [List.getElem?_set_self hiσ] at e2
        cases e2
        exact ⟨u, r, .inr ⟨.inl hk, c, hc, hc'⟩⟩
      . rw [List.getElem?_set_ne (Ne.symm hj)] at e2
        obtain ⟨u', r', q⟩ := hl j y v' e1 e2 e3
        refine ⟨u', r', ?_⟩
        rcases q with q | ⟨k, c', e, z'⟩
        . exact .inl q
        . refine .inr ⟨k, c', e, z'.sameBut hs ?_⟩
          rintro rfl
          exact hj (nodup_ix hN e1 (I.ok.inj _ _ _ e hc ▸ hi))
    . by_cases hcc : c' = c
      . subst hcc; exact ⟨_, hc'⟩
      . obtain ⟨w2, z2⟩ := I.cell y c' e
        exact ⟨w2, z2.sameBut hs hcc⟩
    . obtain ⟨e, n, ne, nf, d⟩ := I.pin p hp
      refine ⟨(hs.2 p.1 ?_).trans e, n, ne, nf, d⟩
      intro q
      rw [q, hoc] at e
      have q' : oc = p.2 := Option.some.inj e
      exact d w' (by rw [<- q']; exact hocd)
theorem store_ok {M : Model} {A : Around} {E : Value -> Shared -> Prop} {i : Nat} {x : Str} {v : V} {u : Value} {Q : Unit -> Shared -> Prop} (I : Inv X pins σ H s) (hN : X.N.Nodup) (hi : X.N[i]? = some x) (hx : Loc X.env.scope x) (r : RelV v u)
    (h : ∀ s', Inv X pins (σ.set i (some v)) H s' -> Q () s') (hf : X.fn x = true \/ X.env.scope.names.lookup x = some .local := by first | exact .inl rfl | exact .inr rfl | assumption) : wpAny M A (storeName X.env x u) Q E s :=
  store_ok2 I hN hi hx r (fun s' I' _ => h s' I') hf
theorem Inv.call' {s' : Shared} {ch : List Addr} (I : Inv X pins σ H s) (ho : s'.os = s.os) (u : Un (frs X.stack) ch H H' s.heap s'.heap) (hok : HOk X.prog X.w H' s'.heap) (hg : AllBare s'.gens)
    (hch : ∀ b ∈ ch, (b ∈ X.ex \/ X.s_0.heap.objs.size <= b) /\ b ≠ X.env.locals /\ (∀ x c, X.env.cells.lookup x = some c -> c ≠ b) /\ ∀ p ∈ X.pn ++ pins, p.1 ≠ b) : Inv X pins σ H' s' := by
  obtain ⟨h', g', d', t', o'⟩ := s'
  have e : o' = s.os := ho
  subst e
  exact I.call (g' := g') (t' := t') (d' := d') u hok hg hch
end
abbrev XK := Value -> Option Addr -> Hp -> Prop
abbrev St := List (Option V)
abbrev VK := V -> Hp -> Prop
abbrev TE := St -> Hp -> VK -> Prop
abbrev TT := St -> Hp -> (Bool -> Hp -> Prop) -> Prop
abbrev TA := St -> Hp -> (List V -> Hp -> Prop) -> Prop
structure Ends where
  nx : St -> Hp -> Prop
  rt : VK
  bk : St -> Hp -> Prop := fun _ _ => False
  ct : St -> Hp -> Prop := fun _ _ => False
abbrev TS := Ends -> St -> Hp -> Prop
def EP (X : Cx) (pins : List (Addr × Obj)) (σ : St) (Q : VK) (u : Value) (s' : Shared) : Prop := ∃ v H', Inv X pins σ H' s' /\ RelV v u /\ Q v H'
def TP (X : Cx) (pins : List (Addr × Obj)) (σ : St) (Q : Bool -> Hp -> Prop) (b : Bool) (s' : Shared) : Prop := ∃ H', Inv X pins σ H' s' /\ Q b H'
def AP (X : Cx) (pins : List (Addr × Obj)) (σ : St) (Q : List V -> Hp -> Prop) (us : List Value) (s' : Shared) : Prop := ∃ vs H', Inv X pins σ H' s' /\ Vals vs us /\ Q vs H'
def SP (X : Cx) (pins : List (Addr × Obj)) (D : Ends) (f : Flow) (s' : Shared) : Prop :=
  match f with
  | .next => ∃ σ' H', Inv X pins σ' H' s' /\ D.nx σ' H'
  | .brk => ∃ σ' H', Inv X pins σ' H' s' /\ D.bk σ' H'
  | .cont => ∃ σ' H', Inv X pins σ' H' s' /\ D.ct σ' H'
  | .ret u => ∃ v σ' H', Inv X pins σ' H' s' /\ RelV v u /\ D.rt v H'
def PE (X : Cx) (e : Expr) (t : TE) : Prop :=
  ∀ (pins : List (Addr × Obj)) (s : Shared) (σ : St) (H : Hp) (Q : VK), Inv X pins σ H s -> t σ H Q -> wpAny (model X.prog X.w) X.A (eval e X.env) (EP X pins σ Q) X.xe s
def PT (X : Cx) (e : Expr) (t : TT) : Prop :=
  ∀ (pins : List (Addr × Obj)) (s : Shared) (σ : St) (H : Hp) (Q : Bool -> Hp -> Prop), Inv X pins σ H s -> t σ H Q -> wpAny (model X.prog X.w) X.A (isTrue e X.env (eval e X.env)) (TP X pins σ Q) X.xe s
def PW (X : Cx) (e : Expr) (t : TT) : Prop :=
  ∀ (whole : Sem Value) (pins : List (Addr × Obj)) (s : Shared) (σ : St) (H : Hp) (Q : Bool -> Hp -> Prop), Inv X pins σ H s -> t σ H Q -> wpAny (model X.prog X.w) X.A (isTrue e X.env whole) (TP X pins σ Q) X.xe s
theorem PW.pt {X : Cx} {e : Expr} {t : TT} (h : PW X e t) : PT X e t := h _
def PA (X : Cx) (es : List Expr) (t : TA) : Prop :=
  ∀ (pos : Pos) (pins : List (Addr × Obj)) (s : Shared) (σ : St) (H : Hp) (Q : List V -> Hp -> Prop), Inv X pins σ H s -> t σ H Q -> wpAny (model X.prog X.w) X.A (spliced (backTo pos (starEach es X.env))) (AP X pins σ Q) X.xe s
def PS (X : Cx) (st : Stmt) (t : TS) : Prop :=
  ∀ (pins : List (Addr × Obj)) (s : Shared) (σ : St) (H : Hp) (D : Ends), Inv X pins σ H s -> t D σ H -> wpAny (model X.prog X.w) X.A (exec st X.env) (SP X pins D) X.xe s
def PSs (X : Cx) (st : List Stmt) (t : TS) : Prop :=
  ∀ (pins : List (Addr × Obj)) (s : Shared) (σ : St) (H : Hp) (D : Ends), Inv X pins σ H s -> t D σ H -> wpAny (model X.prog X.w) X.A (execs st X.env) (SP X pins D) X.xe s
theorem thn {α : Type} {t : Sem α} {Q Q' : α -> Shared -> Prop} {M : Model} {A : Around} {E : Value -> Shared -> Prop} {s : Shared} (h : wpAny M A t Q E s) (hQ : ∀ a s, Q a s -> Q' a s) : wpAny M A t Q' E s := wpAny_mono h hQ fun _ _ x => x
section
variable {X : Cx}
theorem bin {a b : Expr} {ta tb : TE} (ha : PE X a ta) (hb : PE X b tb) {pins : List (Addr × Obj)} {s : Shared} {σ : St} {H : Hp} {R : V -> V -> Hp -> Prop} (I : Inv X pins σ H s) (h : ta σ H fun x H1 => tb σ H1 fun y H2 => R x y H2)
    {α : Type} {Q : α -> Shared -> Prop} {f : Value -> Value -> Sem α}
    (hf : ∀ v u s2 x y H2, Inv X pins σ H2 s2 -> RelV x v -> RelV y u -> R x y H2 -> wpAny (model X.prog X.w) X.A (f v u) Q X.xe s2) :
    wpAny (model X.prog X.w) X.A (eval a X.env) (fun v s₁ => wpAny (model X.prog X.w) X.A (eval b X.env) (fun u s₂ => wpAny (model X.prog X.w) X.A (f v u) Q X.xe s₂) X.xe s₁) X.xe s := by
  refine thn (ha pins s σ H _ I h) fun v s1 ⟨x, H1, I1, r1, q1⟩ => ?_
  refine thn (hb pins s1 σ H1 _ I1 q1) fun u s2 ⟨y, H2, I2, r2, q2⟩ => ?_
  exact hf v u s2 x y H2 I2 r1 r2 q2
def tVar (i : Nat) : TE := fun σ H Q => ∃ v, σ[i]? = some (some v) /\ Q v H
def tC (v : V) : TE := fun _ H Q => Q v H
theorem pe_var {i : Nat} {x : Str} {pos : Pos} (hN : X.N[i]? = some x) (hv : Vis X.env.scope x) (hd : (x == ("__debug__" : Str)) = false := by decide) (hcd : (x == ("__classdict__" : Str)) = false := by decide) : PE X (.Name x pos) (tVar i) := by
  intro pins s σ H Q I h
  obtain ⟨v, e, h⟩ := h
  obtain ⟨m, hn, hl⟩ := I.loc
  obtain ⟨u, r, l⟩ := hl i x v hN e hv
  have fin : EP X pins σ Q u s := ⟨v, H, I, r, h⟩
  rcases l with ⟨hk, hm⟩ | ⟨hk, c, hc, hcell⟩
  . exact wpAny_Name (wpAny_loadName_local I.ok.kind hk hn hm fin) hd
  . rcases hk with hk | hk
    . exact wpAny_Name (wpAny_loadName_cell I.ok.kind hk hc hcell fin) hd
    . exact wpAny_Name (wpAny_loadName_free I.ok.kind hk hc hcell fin hcd) hd
theorem pe_int {i j pos} : PE X (.Constant (.int i) j pos) (tC (.int i)) := fun _ _ _ H _ I h => wpAny_Constant_int ⟨.int i, H, I.tok _, ⟨_, rfl⟩, h⟩
theorem pe_bl {b j pos} : PE X (.Constant (.bool b) j pos) (tC (.bl b)) := fun _ _ _ H _ I h => Constant_bool ⟨.bl b, H, I, rfl, h⟩
theorem pe_non {j pos} : PE X (.Constant .none j pos) (tC .non) := fun _ _ _ H _ I h => Constant_none ⟨.non, H, I, rfl, h⟩
def Gl (X : Cx) (x : Str) : Prop := X.env.kindOf x = some .globalImplicit
theorem ld_glob {E : Value -> Shared -> Prop} {pins : List (Addr × Obj)} {s : Shared} {σ : St} {H : Hp} {x : Str} {u : Value} {pos : Pos} {Q : Value -> Shared -> Prop} (I : Inv X pins σ H s) (hg : Gl X x) (hm : X.mg x = some u) (h : Q u s)
    (hd : (x == ("__debug__" : Str)) = false := by decide) : wpAny (model X.prog X.w) X.A (eval (.Name x pos) X.env) Q E s :=
  Calls.Name_function_global I.ok.kind hg (Calls.loadGlobal_global (by rw [I.ok.glob]; exact I.mod.glob.keeps I.bk) hm h) hd
theorem ld_blt {E : Value -> Shared -> Prop} {pins : List (Addr × Obj)} {s : Shared} {σ : St} {H : Hp} {x : Str} {u : Value} {pos : Pos} {Q : Value -> Shared -> Prop} (I : Inv X pins σ H s) (hg : Gl X x) (hm : X.mg x = none) (hv : bootBuiltins x = some u) (h : Q u s)
    (hn : x ≠ "__name__" := by decide) (hd : (x == ("__debug__" : Str)) = false := by decide) : wpAny (model X.prog X.w) X.A (eval (.Name x pos) X.env) Q E s := by
  obtain ⟨mb, h1, h2⟩ := I.mod.blt
  exact Calls.Name_function_global I.ok.kind hg (Calls.loadGlobal_builtin (by rw [I.ok.glob]; exact I.mod.glob.keeps I.bk) hm (by rw [I.ok.blt]; exact h1.keeps I.bk) ((h2 x hn).trans hv) h) hd
theorem pe_glob {x : Str} {v : V} {u : Value} {pos : Pos} (hg : Gl X x) (hm : X.mg x = some u) (r : RelV v u) (hd : (x == ("__debug__" : Str)) = false := by decide) : PE X (.Name x pos) (tC v) :=
  fun _ _ _ H _ I h => ld_glob I hg hm ⟨v, H, I, r, h⟩ hd
variable {a b : Expr} {ta tb : TE} {pos : Pos}
def PC (X : Cx) (op : CmpOp) (a b : Expr) (t : TE) : Prop :=
  ∀ (pins : List (Addr × Obj)) (s : Shared) (σ : St) (H : Hp) (Q : VK), Inv X pins σ H s -> t σ H Q ->
    wpAny (model X.prog X.w) X.A (eval a X.env) (fun v s₁ => wpAny (model X.prog X.w) X.A (eval b X.env) (fun u s₂ => wpAny (model X.prog X.w) X.A (compareOp op v u) (EP X pins σ Q) X.xe s₂) X.xe s₁) X.xe s
def tB (t : TE) : TT := fun σ H Q => t σ H fun x H1 => ∃ c, x = .bl c /\ Q c H1
theorem pt_cmp {op : CmpOp} {t : TE} (h : PC X op a b t) (h1 : behindInMarks op b = false := by first | exact nobehind _ (by decide) (by decide) | rfl) : PT X (.Compare a [op] [b] pos) (tB t) := by
  intro pins s σ H Q I hw
  refine wpAny_isTrue_Compare1 (thn (h pins s σ H _ I hw) fun v s1 h1 => thn h1 fun u s2 h2 => thn h2 fun c s3 ⟨x, H1, I1, r1, q1⟩ => ?_) h1
  obtain ⟨d, rfl, q⟩ := q1
  cases r1
  exact wpAny_truthy_bool ⟨H1, I1, q⟩
theorem pt_val {e : Expr} {t : TE} (h : PE X e t) (he : ∀ whole, isTrue e X.env whole = (do let v <- whole; standAt e.pos; holding [v] (truthy v)) := by intro _; rfl) : PT X e (tB t) := by
  intro pins s σ H Q I hw
  refine isTrue_plain (thn (h pins s σ H _ I hw) fun v s1 ⟨x, H1, I1, r1, q1⟩ => ?_) (he _)
  obtain ⟨d, rfl, q⟩ := q1
  cases r1
  exact wpAny_truthy_bool ⟨H1, I1, q⟩
variable {tA tB' : TT} {rest : List Expr}
def tAnd (t u : TT) : TT := fun σ H Q => t σ H fun c H1 => if c = true then u σ H1 Q else Q false H1
def tOr (t u : TT) : TT := fun σ H Q => t σ H fun c H1 => if c = true then Q true H1 else u σ H1 Q
def tNot (t : TT) : TT := fun σ H Q => t σ H fun c H1 => Q (!c) H1
theorem pw_and1 (ha : PT X a tA) : PW X (.BoolOp .And [a] pos) tA := by
  intro wh pins s σ H Q I h
  refine isTrue_and (thn (ha pins s σ H Q I h) fun c s1 e => ?_)
  cases c with
  | true => exact isTrue_and_nil e
  | false => exact e
theorem pw_or1 (ha : PT X a tA) : PW X (.BoolOp .Or [a] pos) tA := by
  intro wh pins s σ H Q I h
  refine isTrue_or (thn (ha pins s σ H Q I h) fun c s1 e => ?_)
  cases c with
  | false => exact isTrue_or_nil e
  | true => exact e
theorem pw_and (ha : PT X a tA) (hb : PW X (.BoolOp .And (b :: rest) pos) tB') : PW X (.BoolOp .And (a :: b :: rest) pos) (tAnd tA tB') := by
  intro wh pins s σ H Q I h
  refine isTrue_and (thn (ha pins s σ H _ I h) fun c s1 ⟨H1, I1, q1⟩ => ?_)
  cases c with
  | true => exact hb wh pins s1 σ H1 Q I1 q1
  | false => exact ⟨H1, I1, q1⟩
theorem pw_or (ha : PT X a tA) (hb : PW X (.BoolOp .Or (b :: rest) pos) tB') : PW X (.BoolOp .Or (a :: b :: rest) pos) (tOr tA tB') := by
  intro wh pins s σ H Q I h
  refine isTrue_or (thn (ha pins s σ H _ I h) fun c s1 ⟨H1, I1, q1⟩ => ?_)
  cases c with
  | true => exact ⟨H1, I1, q1⟩
  | false => exact hb wh pins s1 σ H1 Q I1 q1
theorem pt_not (ha : PT X a tA) : PT X (.UnaryOp .Not a pos) (tNot tA) := by
  intro pins s σ H Q I h
  exact isTrue_not (ha pins s σ H (fun c H1 => Q (!c) H1) I h)
def tOrV (ta tb : TE) : TE := fun σ H Q => ta σ H fun x H1 => ∃ c, x = .bl c /\ if c = true then Q (.bl true) H1 else tb σ H1 Q
theorem pe_one {op} {t : TE} (h : PE X a t) : PE X (.BoolOp op [a] pos) t := fun pins s σ H Q I hw => BoolOp_one (h pins s σ H Q I hw)
theorem pe_or (ha : PE X a ta) (hb : PE X (.BoolOp .Or (b :: rest) pos) tb) : PE X (.BoolOp .Or (a :: b :: rest) pos) (tOrV ta tb) := by
  intro pins s σ H Q I h
  refine BoolOp_or (thn (ha pins s σ H _ I h) fun v s1 ⟨x, H1, I1, r1, q1⟩ => ?_)
  obtain ⟨c, rfl, q1⟩ := q1
  cases r1
  refine wpAny_truthy_bool ?_
  cases c with
  | false => exact hb pins s1 σ H1 Q I1 q1
  | true => exact ⟨.bl true, H1, I1, rfl, q1⟩
def tIf (t : TT) (ta tb : TE) : TE := fun σ H Q => t σ H fun c H1 => if c = true then ta σ H1 Q else tb σ H1 Q
theorem pe_ifExp {c : Expr} (hc : PT X c tA) (ha : PE X a ta) (hb : PE X b tb) : PE X (.IfExp c a b pos) (tIf tA ta tb) := by
  intro pins s σ H Q I h
  refine wpAny_IfExp (thn (hc pins s σ H _ I h) fun d s1 ⟨H1, I1, q1⟩ => ?_)
  cases d with
  | true => exact ha pins s1 σ H1 Q I1 q1
  | false => exact hb pins s1 σ H1 Q I1 q1
end
def SqL (K : PySem.W.Frag) (H : Hp) (a : Addr) (xs : List V) : Prop :=
  Rd H a (.lst xs) \/
    ∃ (o : Obj) (its : Array Value) (n : Nat), K.lookup a = some o /\ o.cls = .type "list" /\ o.dict = none /\ o.data = .seq its n /\ its.size <= sizeLine /\ Vals xs its.toList
def SqT (K : PySem.W.Frag) (H : Hp) (a : Addr) (xs : List V) : Prop :=
  Rd H a (.tup xs) \/
    ∃ (o : Obj) (its : Array Value) (n : Nat), K.lookup a = some o /\ o.cls = .type "tuple" /\ o.data = .seq its n /\ its.size <= sizeLine /\ Vals xs its.toList
def absV : Value -> Option V
  | .none => some .non
  | .bool b => some (.bl b)
  | .int i _ => some (.int i)
  | .str x _ => some (.str x)
  | .bytes b _ => some (.byt b)
  | .float b _ => some (.flt b)
  | .ref a => some (.ref a)
  | .type n => some (.ty n)
  | _ => none
theorem RelV.abs {x : V} {u : Value} (r : RelV x u) : absV u = some x := by
  cases x with
  | non => cases r; rfl
  | bl _ => cases r; rfl
  | int _ => obtain ⟨t, rfl⟩ := r; rfl
  | str _ => obtain ⟨t, rfl⟩ := r; rfl
  | byt _ => obtain ⟨t, rfl⟩ := r; rfl
  | flt _ => obtain ⟨t, rfl⟩ := r; rfl
  | ref _ => cases r; rfl
  | ty _ => cases r; rfl
theorem RelV.inj {x y : V} {u : Value} (r : RelV x u) (q : RelV y u) : x = y := Option.some.inj (r.abs.symm.trans q.abs)
theorem Vals.inj : ∀ {xs ys : List V} {us : List Value}, Vals xs us -> Vals ys us -> xs = ys
  | _, _, _, .nil, .nil => rfl
  | _, _, _, .cons r t, .cons r' t' => by rw [r.inj r', Vals.inj t t']
section
variable {X : Cx} {pins : List (Addr × Obj)} {σ : St} {H : Hp} {s : Shared} {a : Addr} {xs ys : List V}
theorem SqL.of {K : PySem.W.Frag} (h : H a = some (.lst xs)) : SqL K H a xs := .inl (.inl h)
theorem SqT.of {K : PySem.W.Frag} (h : H a = some (.tup xs)) : SqT K H a xs := .inl (.inl h)
theorem Inv.list (I : Inv X pins σ H s) (h : SqL X.K H a xs) : ∃ its : List Value, Vals xs its /\ PlainL s.heap a its.toArray /\ xs.length <= sizeLine := by
  rcases h with h | ⟨o, its, n, hk, hc, hd, hs, hz, r⟩
  . obtain ⟨z, its, n, r, e⟩ := h.ok I.hok
    exact ⟨its, r, ⟨_, n, e, rfl, rfl, rfl⟩, z⟩
  . refine ⟨its.toList, r, ⟨o, n, I.kIn a o hk, hc, hd, by simpa using hs⟩, ?_⟩
    have e := r.length
    simp only [Array.length_toList] at e
    omega
theorem Inv.tuple (I : Inv X pins σ H s) (h : SqT X.K H a xs) : ∃ its : List Value, Vals xs its /\ IsTup s.heap a its.toArray /\ xs.length <= sizeLine := by
  rcases h with h | ⟨o, its, n, hk, hc, hs, hz, r⟩
  . obtain ⟨z, its, r, p⟩ := h.ok I.hok
    exact ⟨its, r, p, z⟩
  . refine ⟨its.toList, r, ⟨o, I.kIn a o hk, hc, n, by simpa using hs⟩, ?_⟩
    have e := r.length
    simp only [Array.length_toList] at e
    omega
theorem Inv.list_inj (I : Inv X pins σ H s) (h : SqL X.K H a xs) (h' : SqL X.K H a ys) : xs = ys := by
  obtain ⟨its, r, ⟨o, n, e, _, _, d⟩, _⟩ := I.list h
  obtain ⟨its', r', ⟨o', n', e', _, _, d'⟩, _⟩ := I.list h'
  rw [e] at e'; cases e'
  rw [d] at d'
  injection d' with d1 _
  have : its = its' := by simpa using congrArg Array.toList d1
  subst this
  exact r.inj r'
theorem Inv.tuple_inj (I : Inv X pins σ H s) (h : SqT X.K H a xs) (h' : SqT X.K H a ys) : xs = ys := by
  obtain ⟨its, r, ⟨o, e, _, n, d⟩, _⟩ := I.tuple h
  obtain ⟨its', r', ⟨o', e', _, n', d'⟩, _⟩ := I.tuple h'
  rw [e] at e'; cases e'
  rw [d] at d'
  injection d' with d1 _
  have : its = its' := by simpa using congrArg Array.toList d1
  subst this
  exact r.inj r'
end
abbrev Cx.wish (X : Cx) (E : Value -> Shared -> Prop) : Cx := { X with xe := E }
abbrev Cx.nox (X : Cx) : Cx := X.wish fun _ _ => False
theorem Cx.Ok.wish {X : Cx} (ok : X.Ok) (E : Value -> Shared -> Prop) : (X.wish E).Ok :=
  ⟨ok.mod, ok.kind, ok.glob, ok.blt, ok.above, ok.inj, ok.has, ok.cab, ok.hd, ok.frames, ok.stk, ok.exf, ok.bs, ok.bsz, ok.noex, ok.exfs, ok.funs, ok.frf⟩
theorem Cx.Ok.unwish {X : Cx} {E : Value -> Shared -> Prop} (ok : (X.wish E).Ok) : X.Ok :=
  ⟨ok.mod, ok.kind, ok.glob, ok.blt, ok.above, ok.inj, ok.has, ok.cab, ok.hd, ok.frames, ok.stk, ok.exf, ok.bs, ok.bsz, ok.noex, ok.exfs, ok.funs, ok.frf⟩
section
variable {X : Cx} {pins : List (Addr × Obj)} {σ : St} {H : Hp} {s : Shared} {E : Value -> Shared -> Prop}
theorem Inv.wish (I : Inv X pins σ H s) (E : Value -> Shared -> Prop) : Inv (X.wish E) pins σ H s := ⟨I.ok.wish E, I.os, I.bare, I.base, I.loc, I.cell, I.free, I.freeC, I.pin, I.hok, I.len⟩
theorem Inv.unwish (I : Inv (X.wish E) pins σ H s) : Inv X pins σ H s := ⟨I.ok.unwish, I.os, I.bare, I.base, I.loc, I.cell, I.free, I.freeC, I.pin, I.hok, I.len⟩
theorem SP.unwish {D : Ends} {f : Flow} {s' : Shared} (h : SP (X.wish E) pins D f s') : SP X pins D f s' := by
  cases f with
  | next => obtain ⟨σ', H', I, q⟩ := h; exact ⟨σ', H', I.unwish, q⟩
  | brk => obtain ⟨σ', H', I, q⟩ := h; exact ⟨σ', H', I.unwish, q⟩
  | cont => obtain ⟨σ', H', I, q⟩ := h; exact ⟨σ', H', I.unwish, q⟩
  | ret u => obtain ⟨v, σ', H', I, r, q⟩ := h; exact ⟨v, σ', H', I.unwish, r, q⟩
theorem PSs.nox {st : List Stmt} {t : TS} (h : PSs X.nox st t) : PSs X st t := fun pins s σ H D I hw =>
  wpAny_mono (h pins s σ H D (I.wish _) hw) (fun _ _ q => q.unwish) fun _ _ z => False.elim z
end
section
variable {X : Cx} {st : Stmt} {rest : List Stmt} {t u : TS} {e : Expr} {te : TE} {pos : Pos}
def tNext : TS := fun D σ H => D.nx σ H
def tSeq (t u : TS) : TS := fun D σ H => t { D with nx := u D } σ H
theorem pss_nil : PSs X [] tNext := fun _ _ σ H _ I h => wpAny_execs_nil ⟨σ, H, I, h⟩
theorem pss_cons (h1 : PS X st t) (h2 : PSs X rest u) : PSs X (st :: rest) (tSeq t u) := by
  intro pins s σ H D I h
  refine wpAny_execs_cons (thn (h1 pins s σ H { D with nx := u D } I h) fun f s1 q => ?_)
  cases f with
  | next =>
    obtain ⟨σ', H', I', q⟩ := q
    exact h2 pins s1 σ' H' D I' q
  | ret v => exact q
  | brk => exact q
  | cont => exact q
theorem pss_one (h1 : PS X st t) : PSs X [st] t := by
  intro pins s σ H D I h
  refine wpAny_execs_cons (thn (h1 pins s σ H D I h) fun f s1 q => ?_)
  cases f with
  | next => exact wpAny_execs_nil q
  | ret v => exact q
  | brk => exact q
  | cont => exact q
def tBreak : TS := fun D σ H => D.bk σ H
theorem ps_break : PS X (.Break pos) tBreak := fun _ _ σ H _ I h => wpAny_Break ⟨σ, H, I, h⟩
theorem Inv.quiet {pins : List (Addr × Obj)} {σ : St} {H : Hp} {s : Shared} (I : Inv X pins σ H s) : interactive X.env = false := by simp [interactive, I.ok.kind]
def tDrop (te : TE) : TS := fun D σ H => te σ H fun _ H1 => D.nx σ H1
theorem ps_expr (he : PE X e te) (hs : swapsWith e none pos.line X.env = pure false := by rfl) : PS X (.Expr e pos) (tDrop te) := by
  intro pins s σ H D I h
  exact wpAny_Expr_any (thn (he pins s σ H _ I h) fun v s1 ⟨x, H1, I1, r1, q1⟩ => ⟨σ, H1, I1, q1⟩) I.quiet hs
def tRet (te : TE) : TS := fun D σ H => te σ H D.rt
theorem ps_ret (he : PE X e te) : PS X (.Return (some e) pos) (tRet te) := by
  intro pins s σ H D I h
  exact wpAny_Return_some (thn (he pins s σ H _ I h) fun v s1 ⟨x, H1, I1, r1, q1⟩ => ⟨x, σ, H1, I1, r1, q1⟩)
def tIfS (c : TT) (t u : TS) : TS := fun D σ H => c σ H fun b H1 => if b = true then t D σ H1 else u D σ H1
theorem ps_if {c : Expr} {a b : List Stmt} {tc : TT} (hc : PT X c tc) (ha : PSs X a t) (hb : PSs X b u) : PS X (.If c a b pos) (tIfS tc t u) := by
  intro pins s σ H D I h
  refine wpAny_If (thn (hc pins s σ H _ I h) fun d s1 ⟨H1, I1, q1⟩ => ?_)
  cases d with
  | true => exact ha pins s1 σ H1 D I1 q1
  | false => exact hb pins s1 σ H1 D I1 q1
end
abbrev TG := V -> St -> Hp -> (St -> Hp -> Prop) -> Prop
abbrev TGs := List V -> St -> Hp -> (St -> Hp -> Prop) -> Prop
def PG (X : Cx) (target : Expr) (t : TG) : Prop :=
  ∀ (pins : List (Addr × Obj)) (s : Shared) (σ : St) (H : Hp) (v : V) (u : Value) (Q : St -> Hp -> Prop), Inv X pins σ H s -> RelV v u -> t v σ H Q ->
    wpAny (model X.prog X.w) X.A (assign target X.env u) (fun _ s' => ∃ σ' H', Inv X pins σ' H' s' /\ Q σ' H') X.xe s
def PGs (X : Cx) (ts : List Expr) (t : TGs) : Prop :=
  ∀ (pins : List (Addr × Obj)) (s : Shared) (σ : St) (H : Hp) (vs : List V) (us : List Value) (Q : St -> Hp -> Prop), Inv X pins σ H s -> Vals vs us -> t vs σ H Q ->
    wpAny (model X.prog X.w) X.A (assignInOrder ((assignEach ts X.env).map (·.2)) us) (fun _ s' => ∃ σ' H', Inv X pins σ' H' s' /\ Q σ' H') X.xe s
section
variable {X : Cx} {pos : Pos}
def gName (i : Nat) : TG := fun v σ H Q => Q (σ.set i (some v)) H
theorem pg_name {i : Nat} {x : Str} (hN : X.N.Nodup) (hi : X.N[i]? = some x) (hx : Loc X.env.scope x) (hf : X.fn x = true \/ X.env.scope.names.lookup x = some .local := by first | exact .inl rfl | exact .inr rfl | assumption) : PG X (.Name x pos) (gName i) := by
  intro pins s σ H v u Q I r h
  exact wpAny_assign_Name (store_ok I hN hi hx r (fun s' I' => ⟨_, H, I', h⟩) hf)
def gNil : TGs := fun vs σ H Q => vs = [] /\ Q σ H
def gCons (t : TG) (u : TGs) : TGs := fun vs σ H Q => ∃ v r, vs = v :: r /\ t v σ H fun σ' H' => u r σ' H' Q
theorem pgs_nil : PGs X [] gNil := by
  intro pins s σ H vs us Q I r h
  obtain ⟨e, h⟩ := h
  subst e
  cases r
  exact assignInOrder_nil ⟨σ, H, I, h⟩
theorem pgs_cons {e : Expr} {es : List Expr} {t : TG} {u : TGs} (h1 : PG X e t) (h2 : PGs X es u)
    (hs : (assignEach (e :: es) X.env).map (·.2) = assign e X.env :: (assignEach es X.env).map (·.2) := by rfl) : PGs X (e :: es) (gCons t u) := by
  intro pins s σ H vs us Q I r h
  obtain ⟨v, vr, e1, h⟩ := h
  subst e1
  cases r with
  | cons r rr =>
    rw [hs]
    refine assignInOrder_cons (thn (h1 pins s σ H _ _ _ I r h) fun _ s1 ⟨σ1, H1, I1, q1⟩ => ?_)
    exact h2 pins s1 σ1 H1 _ _ Q I1 rr q1
def gTup (K : PySem.W.Frag) (n : Nat) (t : TGs) : TG := fun v σ H Q => ∃ a xs, v = .ref a /\ SqT K H a xs /\ xs.length = n /\ t xs σ H Q
theorem pg_tup {es : List Expr} {k : Nat} {t : TGs} {n : Nat} (hc : X.calm = true) (h : PGs X es t)
    (hn : (assignEach es X.env).length = n := by rfl) (hst : (assignEach es X.env).findIdx? (·.1) = none := by rfl) : PG X (.Tuple es k pos) (gTup X.K n t) := by
  intro pins s σ H v u Q I r hw
  obtain ⟨a, xs, e1, hq, hl, hw⟩ := hw
  subst e1
  cases r
  obtain ⟨its, rv, ht, hz⟩ := I.tuple hq
  refine assign_Tuple_tuple (I.ok.hd hc) ht (by simp [hn, <- hl, rv.length]) hst fun h' hx => ?_
  have I1 : Inv X pins σ H { s with heap := h' } := I.kept (t' := s.toks) fun b o e => hx b o (Nat.ne_of_lt (Heap.lt_size e)) e
  exact h pins _ σ H xs _ Q I1 (by simpa using rv) hw
def tAsg (te : TE) (g : TG) : TS := fun D σ H => te σ H fun x H1 => g x σ H1 D.nx
theorem ps_set {i : Nat} {x : Str} {e : Expr} {te : TE} {pos' : Pos} (hN : X.N.Nodup) (hi : X.N[i]? = some x) (hx : Loc X.env.scope x) (he : PE X e te) (hs : swapsWith e (some (.Name x pos')) pos.line X.env = pure false := by rfl) (hf : X.fn x = true \/ X.env.scope.names.lookup x = some .local := by first | exact .inl rfl | exact .inr rfl | assumption) :
    PS X (.Assign [.Name x pos'] e pos) (tAsg te (gName i)) := by
  intro pins s σ H D I h
  refine wpAny_Assign_Name (thn (he pins s σ H _ I h) fun v s1 ⟨y, H1, I1, r1, q1⟩ => ?_) hs
  exact store_ok I1 hN hi hx r1 (fun s2 I2 => ⟨_, H1, I2, q1⟩) hf
def tWhile (c : TT) (tb : TS) : TS := fun D σ H => ∃ W : Nat -> St -> Hp -> Prop, (∃ m, W m σ H) /\ ∀ m σ H, W m σ H ->
  c σ H fun b H1 => if b = true then ∃ N : St -> Hp -> Prop, (∀ σ' H', N σ' H' -> ∃ m', m' < m /\ W m' σ' H') /\ tb { D with nx := N, ct := N, bk := D.nx } σ H1 else D.nx σ H1
theorem ps_while {c : Expr} {body : List Stmt} {tc : TT} {tb : TS} (hp : PassesOwn (model X.prog X.w) X.A X.env X.xe) (hc : PT X c tc) (hb : PSs X body tb) : PS X (.While c body [] pos) (tWhile tc tb) := by
  intro pins s σ H D I h
  obtain ⟨W, ⟨m0, w0⟩, turn⟩ := h
  refine wpAny_While (codeAny_whileLoop (fun n s' => ∃ σ' H', Inv X pins σ' H' s' /\ W n σ' H') ?_ m0 ⟨σ, H, I, w0⟩)
  rintro n s1 ⟨σ1, H1, I1, w1⟩
  refine wpAny_passesOwn hp (thn (hc pins s1 σ1 H1 _ I1 (turn n σ1 H1 w1)) fun b s2 ⟨H2, I2, q2⟩ => ?_)
  cases b with
  | true =>
    obtain ⟨N, hN, q2⟩ := q2
    rw [if_pos rfl]
    refine wpAny_passesOwn hp (thn (hb pins s2 σ1 H2 _ I2 q2) fun f s3 q3 => ?_)
    cases f with
    | next =>
      obtain ⟨σ3, H3, I3, n3⟩ := q3
      obtain ⟨m', hm, w3⟩ := hN σ3 H3 n3
      exact ⟨m', hm, σ3, H3, I3, w3⟩
    | cont =>
      obtain ⟨σ3, H3, I3, n3⟩ := q3
      obtain ⟨m', hm, w3⟩ := hN σ3 H3 n3
      exact ⟨m', hm, σ3, H3, I3, w3⟩
    | brk => exact q3
    | ret v => exact q3
  | false =>
    rw [if_neg Bool.false_ne_true]
    exact wpAny_execs_nil ⟨σ1, H2, I2, q2⟩
end
structure It where
  go : Nat -> Hp -> Prop
  yld : Nat -> Hp -> V -> Hp -> Prop
  stop : Nat -> Hp -> Prop
def FpOk (X : Cx) (pins : List (Addr × Obj)) (H : Hp) (b : Addr) : Prop :=
  H b = none /\ b ≠ X.env.locals /\ b ∉ X.fs /\ (b ∈ X.ex \/ X.s_0.heap.objs.size <= b) /\ (∀ x c, X.env.cells.lookup x = some c -> c ≠ b) /\ ∀ p ∈ X.pn ++ pins, p.1 ≠ b
theorem Inv.fpOk {X : Cx} {pins : List (Addr × Obj)} {σ : St} {H H' : Hp} {s : Shared} {b : Addr} (I : Inv X pins σ H s) (hb : s.heap.objs.size <= b) (hn : H' b = none) : FpOk X pins H' b := by
  refine ⟨hn, Nat.ne_of_gt (Nat.lt_of_lt_of_le I.lt hb), I.nofs hb, .inr (Nat.le_trans I.sz hb), fun x c e z => ?_, fun p hp z => ?_⟩
  . obtain ⟨v, q⟩ := I.cell x c e
    exact absurd (Nat.lt_of_lt_of_le q.lt (by rw [z]; exact hb)) (Nat.lt_irrefl _)
  . exact absurd (Nat.lt_of_lt_of_le (Heap.lt_size (I.pin p hp).1) (by rw [z]; exact hb)) (Nat.lt_irrefl _)
structure Turn (P : Program) (w : World) (K : PySem.W.Frag) (tg : Expr) (J : It) (fp : List Addr) (it : Addr) (tn : Nat -> Heap -> Prop) : Prop where
  mem : it ∈ fp
  obj : ∀ i h, tn i h -> ∀ b ∈ fp, ∃ o, h.get? b = some o /\ ∀ v, o.data ≠ .cell v
  keep : ∀ i h h', tn i h -> (∀ b ∈ fp, ∀ o, h.get? b = some o -> h'.get? b = some o) -> tn i h'
  item : ∀ (X : Cx), X.prog = P -> X.w = w -> X.K = K -> X.calm = true -> ∀ (i : Nat) (pins : List (Addr × Obj)) (s : Shared) (σ : St) (H : Hp) (E : Value -> Shared -> Prop), Inv X pins σ H s -> (∀ b ∈ fp, FpOk X pins H b) -> tn i s.heap -> J.go i H ->
    wpAny (model P w) X.A (pyNext (.ref it)) (fun r s1 => ∃ u, r = some u /\
      wpAny (model P w) X.A (letOwnedTupleGo tg (.ref it) u) (fun _ s2 => ∃ x H', Inv X pins σ H' s2 /\ RelV x u /\ J.yld i H x H' /\ tn (i + 1) s2.heap /\ ∀ b ∈ fp, H' b = none) E s1) E s
  done : ∀ (X : Cx), X.prog = P -> X.w = w -> X.K = K -> X.calm = true -> ∀ (i : Nat) (pins : List (Addr × Obj)) (s : Shared) (σ : St) (H : Hp) (E : Value -> Shared -> Prop), Inv X pins σ H s -> (∀ b ∈ fp, FpOk X pins H b) -> tn i s.heap -> J.stop i H ->
    wpAny (model P w) X.A (pyNext (.ref it)) (fun r s1 => r = none /\ Inv X pins σ H s1) E s
  self : ∀ (A : Around) (i : Nat) (s : Shared) (Q : Value -> Shared -> Prop) (E : Value -> Shared -> Prop), tn i s.heap -> Q (.ref it) s -> wpAny (model P w) A (pyIter (.ref it)) Q E s
abbrev TI := St -> Hp -> (It -> Hp -> Prop) -> Prop
def PIE (X : Cx) (pins : List (Addr × Obj)) (σ : St) (tg : Expr) (R : It -> Hp -> Prop) (itv : Value) (s2 : Shared) : Prop :=
  ∃ (it : Addr) (fp : List Addr) (tn : Nat -> Heap -> Prop) (J : It) (H' : Hp), itv = .ref it /\ Inv X pins σ H' s2 /\ Turn X.prog X.w X.K tg J fp it tn /\ tn 0 s2.heap /\ (∀ b ∈ fp, FpOk X pins H' b) /\ R J H'
def PI (X : Cx) (tg iter : Expr) (wi : TI) : Prop :=
  ∀ (pins : List (Addr × Obj)) (s : Shared) (σ : St) (H : Hp) (R : It -> Hp -> Prop), Inv X pins σ H s -> wi σ H R ->
    wpAny (model X.prog X.w) X.A (eval iter X.env) (fun v s1 => wpAny (model X.prog X.w) X.A (pyIter v) (PIE X pins σ tg R) X.xe s1) X.xe s
theorem go_of {M : Model} {A : Around} {E : Value -> Shared -> Prop} {s : Shared} {tg : Expr} {it : Addr} {u : Value} {o : Obj} {n : String} {vs : Array Value} {Q : Unit -> Shared -> Prop} (ho : s.heap.get? it = some o) (hc : o.cls = .type n) (hd : o.data = .fields vs)
    (hn : ["enumerate", "zip", "dict_itemiterator", "dict_reverseitemiterator", "odict_iterator", "itertools.zip_longest", "itertools.pairwise"].contains n = false) (hQ : Q () s) : wpAny M A (letOwnedTupleGo tg (.ref it) u) Q E s := by
  unfold letOwnedTupleGo
  cases tg <;> first
    | exact wpAny_pure hQ
    | (cases u <;> first
        | exact wpAny_pure hQ
        | (refine wpAny_bind (wpAny_load ho ?_)
           rw [hc, hd]
           show wpAny M A (if (["enumerate", "zip", "dict_itemiterator", "dict_reverseitemiterator", "odict_iterator", "itertools.zip_longest", "itertools.pairwise"].contains n && vs[0]? == some (rawInt _)) = true then _ else _) Q E s
           rw [if_neg (by intro h; rw [hn, Bool.false_and] at h; cases h)]
           exact wpAny_pure hQ))
def Itl (K : PySem.W.Frag) (a : Addr) : It :=
  ⟨fun i H => ∃ xs x, SqL K H a xs /\ xs[i]? = some x, fun i H x H' => H' = H /\ ∀ xs, SqL K H a xs -> xs[i]? = some x, fun i H => ∃ xs, SqL K H a xs /\ xs.length <= i⟩
def Itr (lo : Int) (n : Nat) : It := ⟨fun i _ => i < n, fun i H x H' => H' = H /\ x = .int (lo + i), fun i _ => n <= i⟩
theorem turn_list {P : Program} {w : World} {K : PySem.W.Frag} {tg : Expr} (a it : Addr) : Turn P w K tg (Itl K a) [it] it (fun i h => h.IsListIter it a i) where
  mem := by simp
  obj := fun i h st b hb => by
    have e : b = it := by simpa using hb
    subst e
    obtain ⟨o, e, c, d⟩ := st
    exact ⟨o, e, fun v z => by rw [d] at z; cases z⟩
  keep := fun i h h' st k => st.at fun o e => k it (by simp) o e
  item := by
    intro X hP hw hK hc i pins s σ H E I hf st hg
    subst hP hw hK
    obtain ⟨xs, x, hq, hx⟩ := hg
    obtain ⟨its, rv, p, hz⟩ := I.list hq
    obtain ⟨u, hu, ru⟩ := rv.get hx
    obtain ⟨f0, f1, f2, f3, f4, f5⟩ := hf it (by simp)
    refine wpAny_pyNext_list_item st p.isList (x := u) (by simpa using hu) fun h' st' sb => ?_
    have I1 : Inv X pins σ H { s with heap := h' } := I.turned (t' := s.toks) (fun b o hb e => (sb.2 b hb).trans e) f0 f1 f3 f4 f5
    obtain ⟨o, e, c, d⟩ := id st'
    exact ⟨u, rfl, go_of (s := { s with heap := h' }) e c d (by decide) ⟨x, H, I1, ru, ⟨rfl, fun ys hy => by rw [I.list_inj hy hq]; exact hx⟩, st', fun b hb => (hf b hb).1⟩⟩
  done := by
    intro X hP hw hK hc i pins s σ H E I hf st hg
    subst hP hw hK
    obtain ⟨xs, hq, hx⟩ := hg
    obtain ⟨its, rv, p, hz⟩ := I.list hq
    obtain ⟨f0, f1, f2, f3, f4, f5⟩ := hf it (by simp)
    have hl := rv.length
    exact wpAny_pyNext_list_end (I.ok.hd hc) st p.isList (by simp; omega) fun h' eb => ⟨rfl, I.turned (t' := s.toks) (fun b o hb e => eb b o hb e) f0 f1 f3 f4 f5⟩
  self := fun _ _ _ _ _ st h => wpAny_pyIter_listiter st h
theorem turn_range {P : Program} {w : World} {K : PySem.W.Frag} {tg : Expr} (it : Addr) (lo : Int) (n : Nat) : Turn P w K tg (Itr lo n) [it] it (fun i h => IsRangeIter h it (lo + (i : Nat) * 1) ((n : Int) - (i : Nat)) 1) where
  mem := by simp
  obj := fun i h st b hb => by
    have e : b = it := by simpa using hb
    subst e
    exact ⟨_, st, fun v z => by
      have z' : Data.fields _ = Data.cell v := z
      cases z'⟩
  keep := fun i h h' st k => k it (by simp) _ st
  item := by
    intro X hP hw hK hc i pins s σ H E I hf st hg
    subst hP hw hK
    obtain ⟨f0, f1, f2, f3, f4, f5⟩ := hf it (by simp)
    have W := Walks.range (prog := X.prog) (w := X.w) (I.ok.hd hc) it lo 1 n
    refine W.item i s _ _ hg st fun v h' tk hv st' kk => ?_
    obtain ⟨t, rfl⟩ := hv
    have I1 : Inv X pins σ H { s with heap := h', toks := tk } := I.turned (fun b o hb e => kk b o (by simpa using hb) e) f0 f1 f3 f4 f5
    refine ⟨_, rfl, go_of (s := { s with heap := h', toks := tk }) (n := "range_iterator") st' rfl rfl (by decide) ⟨.int (lo + i), H, I1, ⟨t, ?_⟩, ⟨rfl, rfl⟩, st', fun b hb => (hf b hb).1⟩⟩
    rw [Int.mul_one]
  done := by
    intro X hP hw hK hc i pins s σ H E I hf st hg
    subst hP hw hK
    obtain ⟨f0, f1, f2, f3, f4, f5⟩ := hf it (by simp)
    exact wpAny_pyNext_range_end (I.ok.hd hc) st (by have : n <= i := hg; omega) fun h' eb => ⟨rfl, I.turned (t' := s.toks) (fun b o hb e => eb b o hb e) f0 f1 f3 f4 f5⟩
  self := fun _ _ _ _ _ st h => wpAny_pyIter_rangeiter st h
section
variable {X : Cx} {tg : Expr}
def iList (K : PySem.W.Frag) (tl : TE) : TI := fun σ H R => tl σ H fun x H1 => ∃ a, x = .ref a /\ (∃ xs, SqL K H1 a xs) /\ R (Itl K a) H1
theorem pi_list {l : Expr} {tl : TE} (hl : PE X l tl) : PI X tg l (iList X.K tl) := by
  intro pins s σ H R I h
  refine thn (hl pins s σ H _ I h) fun v s1 ⟨x, H1, I1, r1, q1⟩ => ?_
  obtain ⟨a, e, ⟨xs, hq⟩, q⟩ := q1
  subst e
  cases r1
  obtain ⟨its, rv, p, hz⟩ := I1.list hq
  refine wpAny_pyIter_list p.isList ?_
  refine ⟨s1.heap.objs.size, [s1.heap.objs.size], _, _, H1, rfl, I1.kept (t' := s1.toks) fun b o e => Heap.get?_push_of_some _ e, turn_list a _, ⟨_, Heap.get?_push_size _ rfl, rfl, rfl⟩, fun b hb => ?_, q⟩
  have e : b = s1.heap.objs.size := by simpa using hb
  subst e
  exact I1.fpOk (Nat.le_refl _) (I1.hok.fresh (Nat.le_refl _))
theorem range_it {pins : List (Addr × Obj)} {σ : St} {H : Hp} {s : Shared} {R : It -> Hp -> Prop} {E : Value -> Shared -> Prop} {lo hi : Int} {t u v : Tok} {tk : Nat} (I : Inv X pins σ H s) (h1 : -(2 ^ 62) <= lo) (h2 : lo < 2 ^ 62) (h3 : -(2 ^ 62) <= hi) (h4 : hi < 2 ^ 62)
    (q : R (Itr lo (hi - lo).toNat) H) : wpAny (model X.prog X.w) X.A (pyIter (.ref s.heap.objs.size)) (PIE X pins σ tg R) E { s with heap := s.heap.push { cls := .type "range", data := .fields #[.int lo t, .int hi u, .int 1 v] }, toks := tk } := by
  refine wpAny_pyIter_range (IsRange.new ..) (small_one h1 h2 h3 h4) ?_
  have I1 : Inv X pins σ H { s with heap := s.heap.push { cls := .type "range", data := .fields #[.int lo t, .int hi u, .int 1 v] }, toks := tk } := I.kept fun b o e => Heap.get?_push_of_some _ e
  refine ⟨(s.heap.push { cls := .type "range", data := .fields #[.int lo t, .int hi u, .int 1 v] }).objs.size, [(s.heap.push { cls := .type "range", data := .fields #[.int lo t, .int hi u, .int 1 v] }).objs.size], _, _, H, rfl,
    I1.kept (t' := tk) fun b o e => Heap.get?_push_of_some _ e, turn_range _ lo (hi - lo).toNat, ?_, fun b hb => ?_, q⟩
  . have e1 : lo + ((0 : Nat) : Int) * 1 = lo := by simp
    have e2 : (((hi - lo).toNat : Nat) : Int) - ((0 : Nat) : Int) = Builtin.Range.rangeSize lo hi 1 := by rw [rangeSize_one]; split <;> omega
    show IsRangeIter _ _ (lo + ((0 : Nat) : Int) * 1) ((((hi - lo).toNat : Nat) : Int) - ((0 : Nat) : Int)) 1
    rw [e1, e2]
    exact Heap.get?_push_size _ rfl
  . have e : b = (s.heap.push { cls := .type "range", data := .fields #[.int lo t, .int hi u, .int 1 v] }).objs.size := by simpa using hb
    subst e
    exact I1.fpOk (Nat.le_refl _) (I1.hok.fresh (Nat.le_refl _))
def iRng1 (ta : TA) : TI := fun σ H R => ta σ H fun vs H1 => ∃ j : Int, vs = [.int j] /\ -(2 ^ 62) <= j /\ j < 2 ^ 62 /\ R (Itr 0 j.toNat) H1
def iRng2 (ta : TA) : TI := fun σ H R => ta σ H fun vs H1 => ∃ i j : Int, vs = [.int i, .int j] /\ (-(2 ^ 62) <= i /\ i < 2 ^ 62 /\ -(2 ^ 62) <= j /\ j < 2 ^ 62) /\ R (Itr i (j - i).toNat) H1
theorem pi_range1 {a : Expr} {ta : TA} {p pos : Pos} (hg : Gl X "range") (hm : X.mg "range" = none) (ha : PA X [a] ta) (hs : starEach [a] X.env = [(false, eval a X.env)] := by rfl) : PI X tg (.Call (.Name "range" p) [a] [] pos) (iRng1 ta) := by
  intro pins s σ H R I h
  refine Call_ (ld_blt I hg hm boot_range (PyProof.Rows.callWith_type1 (thn (ha pos pins s σ H _ I h) fun us s1 ⟨vs, H1, I1, r1, q1⟩ => ?_) hs rfl))
  obtain ⟨j, e, q1, q2, q⟩ := q1
  subst e
  cases r1 with
  | cons r rr =>
    cases rr
    obtain ⟨t, rfl⟩ := r
    exact call_range_1 (range_it I1 (by omega) (by omega) q1 q2 (by simpa using q))
theorem pi_range2 {a b : Expr} {ta : TA} {p pos : Pos} (hg : Gl X "range") (hm : X.mg "range" = none) (ha : PA X [a, b] ta) (hs : starEach [a, b] X.env = [(false, eval a X.env), (false, eval b X.env)] := by rfl) (hs2 : starEach [b] X.env = [(false, eval b X.env)] := by rfl) :
    PI X tg (.Call (.Name "range" p) [a, b] [] pos) (iRng2 ta) := by
  intro pins s σ H R I h
  refine Call_ (ld_blt I hg hm boot_range (PyProof.Rows.callWith_type1 (thn (ha pos pins s σ H _ I h) fun us s1 ⟨vs, H1, I1, r1, q1⟩ => ?_) (by rw [hs, hs2]) (by rw [hs2]; rfl)))
  obtain ⟨i, j, e, ⟨q1, q2, q3, q4⟩, q⟩ := q1
  subst e
  cases r1 with
  | cons r rr =>
    cases rr with
    | cons r' rr =>
      cases rr
      obtain ⟨t, rfl⟩ := r
      obtain ⟨t', rfl⟩ := r'
      exact call_range_2 (range_it I1 q1 q2 q3 q4 q)
def tFor (wi : TI) (g : TG) (tb : TS) : TS := fun D σ H => wi σ H fun J H1 => ∃ W : Nat -> Nat -> St -> Hp -> Prop, (∃ m, W 0 m σ H1) /\ ∀ i m σ H, W i m σ H ->
  (J.stop i H /\ D.nx σ H) \/ (J.go i H /\ ∃ N : St -> Hp -> Prop, (∀ σ' H', N σ' H' -> ∃ m', m' < m /\ W (i + 1) m' σ' H') /\ ∀ x H', J.yld i H x H' -> g x σ H' fun σ2 H2 => tb { D with nx := N, ct := N, bk := D.nx } σ2 H2)
def pinsAt (fp : List Addr) (h : Heap) : List (Addr × Obj) := fp.filterMap fun b => (h.get? b).map fun o => (b, o)
theorem mem_pinsAt {fp : List Addr} {h : Heap} {b : Addr} {o : Obj} (hb : b ∈ fp) (e : h.get? b = some o) : (b, o) ∈ pinsAt fp h := List.mem_filterMap.mpr ⟨b, hb, by rw [e]; rfl⟩
theorem of_pinsAt {fp : List Addr} {h : Heap} {p : Addr × Obj} (hp : p ∈ pinsAt fp h) : p.1 ∈ fp /\ h.get? p.1 = some p.2 := by
  obtain ⟨b, hb, e⟩ := List.mem_filterMap.mp hp
  cases q : h.get? b with
  | none => rw [q] at e; cases e
  | some o =>
    rw [q] at e
    have e' : (b, o) = p := Option.some.inj e
    subst e'
    exact ⟨hb, q⟩
theorem Inv.pinned {pins : List (Addr × Obj)} {σ : St} {H : Hp} {s : Shared} {fp : List Addr} (I : Inv X pins σ H s) (hf : ∀ b ∈ fp, FpOk X pins H b) (ho : ∀ b ∈ fp, ∃ o, s.heap.get? b = some o /\ ∀ v, o.data ≠ .cell v) : Inv X (pins ++ pinsAt fp s.heap) σ H s :=
  I.pins_of fun p hp => (List.mem_append.mp hp).elim (fun z => I.pin p (List.mem_append_right _ z)) fun z => by
    obtain ⟨hb, e⟩ := of_pinsAt z
    obtain ⟨f0, f1, f2, _⟩ := hf p.1 hb
    obtain ⟨o, e', d⟩ := ho p.1 hb
    rw [e] at e'; cases e'
    exact ⟨e, f0, f1, f2, d⟩
theorem Inv.unpinned {pins pl : List (Addr × Obj)} {σ : St} {H : Hp} {s : Shared} (I : Inv X (pins ++ pl) σ H s) : Inv X pins σ H s := I.pins_of fun p hp => I.pin p (List.mem_append_right _ (List.mem_append_left _ hp))
theorem ps_for {iter : Expr} {body : List Stmt} {wi : TI} {g : TG} {tb : TS} {pos : Pos} (hp : PassesOwn (model X.prog X.w) X.A X.env X.xe) (hc : X.calm = true) (hi : PI X tg iter wi) (hg : PG X tg g) (hb : PSs X body tb)
    (hs : ∀ x, foldedSetIterable iter X.env x = pure x := by intro _; rfl) : PS X (.For tg iter body [] pos) (tFor wi g tb) := by
  intro pins s σ H D I h
  refine wpAny_For (thn (hi pins s σ H _ I h) fun v s1 h1 => thn h1 fun itv s2 h2 => ?_) hs
  obtain ⟨it, fp, tn, J, H2, e, I2, T, st2, f2, W, ⟨m0, w0⟩, turn⟩ := h2
  subst e
  have stat : ∀ {H' : Hp}, (∀ b ∈ fp, H' b = none) -> ∀ b ∈ fp, FpOk X pins H' b := fun hn b hb => ⟨hn b hb, (f2 b hb).2⟩
  refine codeAny_forLoop_any (fun n s' => ∃ i σ' H', Inv X pins σ' H' s' /\ tn i s'.heap /\ (∀ b ∈ fp, H' b = none) /\ W i n σ' H') ?_ m0 ⟨0, σ, H2, I2, st2, fun b hb => (f2 b hb).1, w0⟩
  rintro n s3 ⟨i, σ3, H3, I3, st3, fr3, w3⟩
  rcases turn i n σ3 H3 w3 with ⟨stop, qn⟩ | ⟨go, N, hN, step⟩
  . refine wpAny_passesOwn hp (thn (T.done X rfl rfl rfl hc i pins s3 σ3 H3 X.xe I3 (stat fr3) st3 stop) fun r s4 ⟨hr, I4⟩ => ?_)
    subst hr
    exact wpAny_execs_nil ⟨σ3, H3, I4, qn⟩
  . refine wpAny_passesOwn hp (thn (T.item X rfl rfl rfl hc i pins s3 σ3 H3 X.xe I3 (stat fr3) st3 go) fun r s4 ⟨u, hr, h4⟩ => ?_)
    subst hr
    refine wpAny_passesOwn hp (thn h4 fun _ s5 ⟨x, H5, I5, r5, y5, st5, fr5⟩ => ?_)
    have I5' := I5.pinned (stat fr5) (T.obj _ _ st5)
    refine wpAny_passesOwn hp (thn (hg _ s5 σ3 H5 x u _ I5' r5 (step x H5 y5)) fun _ s6 ⟨σ6, H6, I6, q6⟩ => ?_)
    refine wpAny_passesOwn hp (thn (hb _ s6 σ6 H6 _ I6 q6) fun f s7 q7 => ?_)
    have again : ∀ {σ7 : St} {H7 : Hp}, Inv X (pins ++ pinsAt fp s5.heap) σ7 H7 s7 -> N σ7 H7 -> ∃ m, m < n /\ ∃ i σ' H', Inv X pins σ' H' s7 /\ tn i s7.heap /\ (∀ b ∈ fp, H' b = none) /\ W i m σ' H' := fun {σ7 H7} I7 n7 => by
      obtain ⟨m', hm, w7⟩ := hN σ7 H7 n7
      refine ⟨m', hm, i + 1, σ7, H7, I7.unpinned, T.keep _ _ _ st5 fun b hb o e => (I7.pin (b, o) (List.mem_append_right _ (List.mem_append_right _ (mem_pinsAt hb e)))).1, fun b hb => ?_, w7⟩
      obtain ⟨o, e, d⟩ := T.obj _ _ st5 b hb
      exact (I7.pin (b, o) (List.mem_append_right _ (List.mem_append_right _ (mem_pinsAt hb e)))).2.1
    cases f with
    | next => obtain ⟨σ7, H7, I7, n7⟩ := q7; exact again I7 n7
    | cont => obtain ⟨σ7, H7, I7, n7⟩ := q7; exact again I7 n7
    | brk => obtain ⟨σ7, H7, I7, q7⟩ := q7; exact ⟨σ7, H7, I7.unpinned, q7⟩
    | ret v => obtain ⟨x7, σ7, H7, I7, r7, q7⟩ := q7; exact ⟨x7, σ7, H7, I7.unpinned, r7, q7⟩
end
theorem for_list {K : PySem.W.Frag} {a : Addr} {xs : List V} {g : TG} {tb : TS} {D : Ends} {σ : St} {H : Hp} (Pv : Nat -> St -> Hp -> Prop) (h0 : Pv 0 σ H) (hl : ∀ i σ H, i <= xs.length -> Pv i σ H -> SqL K H a xs)
    (hs : ∀ i x σ H, xs[i]? = some x -> Pv i σ H -> g x σ H fun σ2 H2 => tb { D with nx := Pv (i + 1), ct := Pv (i + 1), bk := D.nx } σ2 H2) (hd : ∀ σ H, Pv xs.length σ H -> D.nx σ H) :
    ∃ W : Nat -> Nat -> St -> Hp -> Prop, (∃ m, W 0 m σ H) /\ ∀ i m σ H, W i m σ H ->
      ((Itl K a).stop i H /\ D.nx σ H) \/ ((Itl K a).go i H /\ ∃ N : St -> Hp -> Prop, (∀ σ' H', N σ' H' -> ∃ m', m' < m /\ W (i + 1) m' σ' H') /\ ∀ x H', (Itl K a).yld i H x H' -> g x σ H' fun σ2 H2 => tb { D with nx := N, ct := N, bk := D.nx } σ2 H2) := by
  refine ⟨fun i m σ H => m = xs.length - i /\ i <= xs.length /\ Pv i σ H, ⟨xs.length, by simp, Nat.zero_le _, h0⟩, ?_⟩
  rintro i m σ H ⟨rfl, hi, p⟩
  have q := hl i σ H hi p
  by_cases hlt : i < xs.length
  . refine .inr ⟨⟨xs, xs[i], q, by simp [hlt]⟩, Pv (i + 1), fun σ' H' p' => ⟨xs.length - (i + 1), by omega, rfl, hlt, p'⟩, fun x H' y => ?_⟩
    obtain ⟨e, y⟩ := y
    subst e
    exact hs i x σ _ (y xs q) p
  . have e : i = xs.length := by omega
    subst e
    exact .inl ⟨⟨xs, q, Nat.le_refl _⟩, hd σ H p⟩
theorem for_range {lo : Int} {n : Nat} {g : TG} {tb : TS} {D : Ends} {σ : St} {H : Hp} (Pv : Nat -> St -> Hp -> Prop) (h0 : Pv 0 σ H)
    (hs : ∀ i σ H, i < n -> Pv i σ H -> g (.int (lo + i)) σ H fun σ2 H2 => tb { D with nx := Pv (i + 1), ct := Pv (i + 1), bk := D.nx } σ2 H2) (hd : ∀ σ H, Pv n σ H -> D.nx σ H) :
    ∃ W : Nat -> Nat -> St -> Hp -> Prop, (∃ m, W 0 m σ H) /\ ∀ i m σ H, W i m σ H ->
      ((Itr lo n).stop i H /\ D.nx σ H) \/ ((Itr lo n).go i H /\ ∃ N : St -> Hp -> Prop, (∀ σ' H', N σ' H' -> ∃ m', m' < m /\ W (i + 1) m' σ' H') /\ ∀ x H', (Itr lo n).yld i H x H' -> g x σ H' fun σ2 H2 => tb { D with nx := N, ct := N, bk := D.nx } σ2 H2) := by
  refine ⟨fun i m σ H => m = n - i /\ i <= n /\ Pv i σ H, ⟨n, by simp, Nat.zero_le _, h0⟩, ?_⟩
  rintro i m σ H ⟨rfl, hi, p⟩
  by_cases hlt : i < n
  . refine .inr ⟨hlt, Pv (i + 1), fun σ' H' p' => ⟨n - (i + 1), by omega, rfl, hlt, p'⟩, fun x H' y => ?_⟩
    obtain ⟨e, y⟩ := y
    subst e y
    exact hs i σ _ hlt p
  . have e : i = n := by omega
    subst e
    exact .inl ⟨Nat.le_refl _, hd σ H p⟩
abbrev R2 := V -> V -> Hp -> VK -> Prop
def OpR (X : Cx) (f : Value -> Value -> Sem Value) (r : R2) : Prop :=
  ∀ (pins : List (Addr × Obj)) (s : Shared) (σ : St) (H : Hp) (x y : V) (v u : Value) (Q : VK), Inv X pins σ H s -> RelV x v -> RelV y u -> r x y H Q ->
    wpAny (model X.prog X.w) X.A (f v u) (EP X pins σ Q) X.xe s
def CallR (X : Cx) (f : Value) (r : List V -> Hp -> VK -> Prop) : Prop :=
  ∀ (pins : List (Addr × Obj)) (s : Shared) (σ : St) (H : Hp) (xs : List V) (us : List Value) (Q : VK), Inv X pins σ H s -> Vals xs us -> r xs H Q ->
    wpAny (model X.prog X.w) X.A (call f us) (EP X pins σ Q) X.xe s
def tOp (r : R2) (ta tb : TE) : TE := fun σ H Q => ta σ H fun x H1 => tb σ H1 fun y H2 => r x y H2 Q
def rI (C : Int -> Int -> Prop) (g : Int -> Int -> V) : R2 := fun x y H Q => ∃ i j, x = .int i /\ y = .int j /\ C i j /\ Q (g i j) H
def rI0 (g : Int -> Int -> V) : R2 := fun x y H Q => ∃ i j, x = .int i /\ y = .int j /\ Q (g i j) H
section
variable {X : Cx} {a b c : Expr} {ta tb tc : TE} {pos : Pos}
theorem binT (ha : PE X a ta) (hb : PE X b tb) {pins : List (Addr × Obj)} {s : Shared} {σ : St} {H : Hp} {R : V -> V -> Hp -> Prop} (I : Inv X pins σ H s)
    (h : ta σ H fun x H1 => tb σ H1 fun y H2 => R x y H2) {Q : Value -> Shared -> Prop} {f : Value -> Value -> Sem Value}
    (hf : ∀ v u s2 x y H2, Inv X pins σ H2 s2 -> RelV x v -> RelV y u -> R x y H2 -> wpAny (model X.prog X.w) X.A (f v u) Q X.xe s2) :
    wpAny (model X.prog X.w) X.A (eval a X.env) (fun v s₁ => wpAny (model X.prog X.w) X.A (eval b X.env) (fun u s₂ => wpAny (model X.prog X.w) X.A (f v u) Q X.xe s₂) X.xe s₁) X.xe s := by
  refine thn (ha pins s σ H _ I h) fun v s1 ⟨x, H1, I1, r1, q1⟩ => ?_
  refine thn (hb pins s1 σ H1 _ I1 q1) fun u s2 ⟨y, H2, I2, r2, q2⟩ => ?_
  exact hf v u s2 x y H2 I2 r1 r2 q2
theorem pe_op {op : Operator} {r : R2} (ho : OpR X (binaryOp op) r) (ha : PE X a ta) (hb : PE X b tb) : PE X (.BinOp a op b pos) (tOp r ta tb) := by
  intro pins s σ H Q I h
  exact wpAny_BinOp (binT ha hb I h fun v u s2 x y H2 I2 rx ry q => ho pins s2 σ H2 x y v u Q I2 rx ry q)
theorem opI {f : Value -> Value -> Sem Value} {C : Int -> Int -> Prop} {g : Int -> Int -> Int}
    (rule : ∀ (i j : Int) (t u : Tok) (s : Shared) (Q : Value -> Shared -> Prop) (E : Value -> Shared -> Prop), C i j -> Q (.int (g i j) s.toks) { s with toks := s.toks + 1 } -> wpAny (model X.prog X.w) X.A (f (.int i t) (.int j u)) Q E s) :
    OpR X f (rI C fun i j => .int (g i j)) := by
  intro pins s σ H x y v u Q I rx ry h
  obtain ⟨i, j, rfl, rfl, hc, q⟩ := h
  obtain ⟨t, rfl⟩ := rx
  obtain ⟨t', rfl⟩ := ry
  exact rule i j t t' s _ _ hc ⟨.int (g i j), H, I.tok _, ⟨_, rfl⟩, q⟩
theorem opI0 {f : Value -> Value -> Sem Value} {g : Int -> Int -> Int}
    (rule : ∀ (i j : Int) (t u : Tok) (s : Shared) (Q : Value -> Shared -> Prop) (E : Value -> Shared -> Prop), Q (.int (g i j) s.toks) { s with toks := s.toks + 1 } -> wpAny (model X.prog X.w) X.A (f (.int i t) (.int j u)) Q E s) :
    OpR X f (rI0 fun i j => .int (g i j)) := by
  intro pins s σ H x y v u Q I rx ry h
  obtain ⟨i, j, rfl, rfl, q⟩ := h
  obtain ⟨t, rfl⟩ := rx
  obtain ⟨t', rfl⟩ := ry
  exact rule i j t t' s _ _ ⟨.int (g i j), H, I.tok _, ⟨_, rfl⟩, q⟩
theorem opB0 {f : Value -> Value -> Sem Value} {g : Int -> Int -> Bool}
    (rule : ∀ (i j : Int) (t u : Tok) (s : Shared) (Q : Value -> Shared -> Prop) (E : Value -> Shared -> Prop), Q (.bool (g i j)) s -> wpAny (model X.prog X.w) X.A (f (.int i t) (.int j u)) Q E s) :
    OpR X f (rI0 fun i j => .bl (g i j)) := by
  intro pins s σ H x y v u Q I rx ry h
  obtain ⟨i, j, rfl, rfl, q⟩ := h
  obtain ⟨t, rfl⟩ := rx
  obtain ⟨t', rfl⟩ := ry
  exact rule i j t t' s _ _ ⟨.bl (g i j), H, I, rfl, q⟩
def CDiv (i j : Int) : Prop := 0 < j /\ j < 1073741824
def CMul (i j : Int) : Prop := (-(2 ^ 64) < i /\ i < 2 ^ 64) \/ (-(2 ^ 64) < j /\ j < 2 ^ 64)
theorem CMul.ok {i j : Int} (h : CMul i j) : IntMulOk i j := by
  rcases h with ⟨h1, h2⟩ | ⟨h1, h2⟩
  . exact .of_left (intBits_le_64 h1 h2)
  . exact .of_right (intBits_le_64 h1 h2)
theorem op_add : OpR X (binaryOp .Add) (rI0 fun i j => .int (i + j)) := opI0 fun _ _ _ _ _ _ _ q => add_int q
theorem op_sub : OpR X (binaryOp .Sub) (rI0 fun i j => .int (i - j)) := opI0 fun _ _ _ _ _ _ _ q => sub_int q
theorem op_mul : OpR X (binaryOp .Mult) (rI CMul fun i j => .int (i * j)) := opI fun _ _ _ _ _ _ _ hc q => mul_int q hc.ok
theorem op_fdiv : OpR X (binaryOp .FloorDiv) (rI CDiv fun i j => .int (i / j)) := opI fun i j _ _ _ _ _ hc q => by
  have h1 : (0 : Int) < j := hc.1
  have h2 : j < 1073741824 := hc.2
  exact floordiv_int (by omega) (by rw [Int.fdiv_eq_ediv_of_nonneg i (by omega)]; exact q) (.inl (PyProof.noPylong_small (by omega)))
end
def scal : V -> V -> Bool
  | .non, .non => true | .non, .int _ => true | .int _, .non => true | .non, .bl _ => true | .bl _, .non => true | .non, .str _ => true | .str _, .non => true
  | .int _, .int _ => true | .bl _, .bl _ => true | .str _, .str _ => true | .byt _, .byt _ => true
  | .int _, .str _ => true | .str _, .int _ => true | .bl _, .str _ => true | .str _, .bl _ => true
  | _, _ => false
def rEq : R2 := fun x y H Q => scal x y = true /\ Q (.bl (decide (x = y))) H
def rNe : R2 := fun x y H Q => scal x y = true /\ Q (.bl (!decide (x = y))) H
theorem dec_int {i j : Int} : decide (V.int i = V.int j) = (i == j) := by
  rw [Bool.eq_iff_iff]
  simp
theorem dec_bl {i j : Bool} : decide (V.bl i = V.bl j) = (i == j) := by
  rw [Bool.eq_iff_iff]
  simp
theorem dec_str {i j : Str} : decide (V.str i = V.str j) = (i == j) := by
  rw [Bool.eq_iff_iff]
  simp
theorem dec_byt {i j : Array UInt8} : decide (V.byt i = V.byt j) = (i.toList == j.toList) := by
  rw [Bool.eq_iff_iff]
  cases i
  cases j
  simp
section
variable {X : Cx} {a b c : Expr} {ta tb tc : TE} {pos : Pos}
theorem fin_bl {pins : List (Addr × Obj)} {σ : St} {H : Hp} {s : Shared} {Q : VK} {k k' : Bool} (I : Inv X pins σ H s) (q : Q (.bl k) H) (e : k = k') : EP X pins σ Q (.bool k') s := by
  subst e
  exact ⟨.bl k, H, I, rfl, q⟩
theorem op_eq : OpR X (compareOp .Eq) rEq := by
  intro pins s σ H x y v u Q I rx ry h
  obtain ⟨hs, q⟩ := h
  cases x with
  | non =>
    cases rx
    cases y with
    | non => cases ry; exact PySem.EqNone.eq_none_none (fin_bl I q (by simp))
    | bl j => cases ry; exact PySem.EqNone.eq_none_bool (fin_bl I q (by simp))
    | int j => obtain ⟨t', rfl⟩ := ry; exact PySem.EqNone.eq_none_int (fin_bl I q (by simp))
    | str j => obtain ⟨t', rfl⟩ := ry; exact PySem.EqNone.eq_none_str (fin_bl I q (by simp))
    | _ => exact absurd (show false = true from hs) Bool.false_ne_true
  | bl i =>
    cases rx
    cases y with
    | non => cases ry; exact PySem.EqNone.eq_bool_none (fin_bl I q (by simp))
    | bl j => cases ry; exact eq_bool (fin_bl I q dec_bl)
    | str j => obtain ⟨t', rfl⟩ := ry; exact PySem.EqMixed.eq_bool_str (fin_bl I q (by simp))
    | _ => exact absurd (show false = true from hs) Bool.false_ne_true
  | int i =>
    obtain ⟨t, rfl⟩ := rx
    cases y with
    | non => cases ry; exact PySem.EqNone.eq_int_none (fin_bl I q (by simp))
    | int j => obtain ⟨t', rfl⟩ := ry; exact eq_int (fin_bl I q dec_int)
    | str j => obtain ⟨t', rfl⟩ := ry; exact PySem.EqMixed.eq_int_str (fin_bl I q (by simp))
    | _ => exact absurd (show false = true from hs) Bool.false_ne_true
  | str i =>
    obtain ⟨t, rfl⟩ := rx
    cases y with
    | non => cases ry; exact PySem.EqNone.eq_str_none (fin_bl I q (by simp))
    | bl j => cases ry; exact PySem.EqMixed.eq_str_bool (fin_bl I q (by simp))
    | int j => obtain ⟨t', rfl⟩ := ry; exact PySem.EqMixed.eq_str_int (fin_bl I q (by simp))
    | str j => obtain ⟨t', rfl⟩ := ry; exact eq_str (fin_bl I q dec_str)
    | _ => exact absurd (show false = true from hs) Bool.false_ne_true
  | byt i =>
    obtain ⟨t, rfl⟩ := rx
    cases y with
    | byt j => obtain ⟨t', rfl⟩ := ry; exact PySem.W.eq_bytes (fin_bl I q dec_byt)
    | _ => exact absurd (show false = true from hs) Bool.false_ne_true
  | _ => cases y <;> exact absurd (show false = true from hs) Bool.false_ne_true
theorem op_ne : OpR X (compareOp .NotEq) rNe := by
  intro pins s σ H x y v u Q I rx ry h
  obtain ⟨hs, q⟩ := h
  cases x with
  | non =>
    cases rx
    cases y with
    | non => cases ry; exact PySem.EqNone.ne_none_none (fin_bl I q (by simp))
    | bl j => cases ry; exact PySem.EqNone.ne_none_bool (fin_bl I q (by simp))
    | int j => obtain ⟨t', rfl⟩ := ry; exact PySem.EqNone.ne_none_int (fin_bl I q (by simp))
    | str j => obtain ⟨t', rfl⟩ := ry; exact PySem.EqNone.ne_none_str (fin_bl I q (by simp))
    | _ => exact absurd (show false = true from hs) Bool.false_ne_true
  | bl i =>
    cases rx
    cases y with
    | non => cases ry; exact PySem.EqNone.ne_bool_none (fin_bl I q (by simp))
    | bl j => cases ry; exact ne_bool (fin_bl I q (congrArg not dec_bl))
    | str j => obtain ⟨t', rfl⟩ := ry; exact PySem.EqMixed.ne_bool_str (fin_bl I q (by simp))
    | _ => exact absurd (show false = true from hs) Bool.false_ne_true
  | int i =>
    obtain ⟨t, rfl⟩ := rx
    cases y with
    | non => cases ry; exact PySem.EqNone.ne_int_none (fin_bl I q (by simp))
    | int j => obtain ⟨t', rfl⟩ := ry; exact ne_int (fin_bl I q (congrArg not dec_int))
    | str j => obtain ⟨t', rfl⟩ := ry; exact PySem.EqMixed.ne_int_str (fin_bl I q (by simp))
    | _ => exact absurd (show false = true from hs) Bool.false_ne_true
  | str i =>
    obtain ⟨t, rfl⟩ := rx
    cases y with
    | non => cases ry; exact PySem.EqNone.ne_str_none (fin_bl I q (by simp))
    | bl j => cases ry; exact PySem.EqMixed.ne_str_bool (fin_bl I q (by simp))
    | int j => obtain ⟨t', rfl⟩ := ry; exact PySem.EqMixed.ne_str_int (fin_bl I q (by simp))
    | str j => obtain ⟨t', rfl⟩ := ry; exact ne_str (fin_bl I q (congrArg not dec_str))
    | _ => exact absurd (show false = true from hs) Bool.false_ne_true
  | byt i =>
    obtain ⟨t, rfl⟩ := rx
    cases y with
    | byt j => obtain ⟨t', rfl⟩ := ry; exact PySem.W.ne_bytes (fin_bl I q (congrArg not dec_byt))
    | _ => exact absurd (show false = true from hs) Bool.false_ne_true
  | _ => cases y <;> exact absurd (show false = true from hs) Bool.false_ne_true
theorem op_lt : OpR X (compareOp .Lt) (rI0 fun i j => .bl (decide (i < j))) := opB0 fun _ _ _ _ _ _ _ q => lt_int q
theorem op_le : OpR X (compareOp .LtE) (rI0 fun i j => .bl (decide (i <= j))) := opB0 fun _ _ _ _ _ _ _ q => le_int q
theorem op_gt : OpR X (compareOp .Gt) (rI0 fun i j => .bl (decide (j < i))) := opB0 fun _ _ _ _ _ _ _ q => gt_int q
theorem op_ge : OpR X (compareOp .GtE) (rI0 fun i j => .bl (decide (j <= i))) := opB0 fun _ _ _ _ _ _ _ q => ge_int q
theorem op_isN : OpR X (compareOp .Is) (fun x y H Q => y = .non /\ Q (.bl (decide (x = .non))) H) := by
  intro pins s σ H x y v u Q I rx ry h
  obtain ⟨rfl, q⟩ := h
  cases ry
  refine is_none_gen (fin_bl I q ?_)
  cases x <;> first
    | (cases rx; rfl)
    | (obtain ⟨t, rfl⟩ := rx; rfl)
theorem op_notN : OpR X (compareOp .IsNot) (fun x y H Q => y = .non /\ Q (.bl (!decide (x = .non))) H) := by
  intro pins s σ H x y v u Q I rx ry h
  obtain ⟨rfl, q⟩ := h
  cases ry
  refine isnot_none_gen (fin_bl I q ?_)
  cases x <;> first
    | (cases rx; rfl)
    | (obtain ⟨t, rfl⟩ := rx; rfl)
theorem nomark (b : Expr) {op : CmpOp} (h : op ≠ .In := by decide) (h2 : op ≠ .NotIn := by decide) : behindInMarks op b = false := by
  have e1 : (op == CmpOp.In) = false := by cases op <;> first | rfl | exact absurd rfl h
  have e2 : (op == CmpOp.NotIn) = false := by cases op <;> first | rfl | exact absurd rfl h2
  cases b <;> simp [behindInMarks, e1, e2]
theorem pe_cmpR {op : CmpOp} {r : R2} (ho : OpR X (compareOp op) r) (ha : PE X a ta) (hb : PE X b tb) (hm : behindInMarks op b = false) : PE X (.Compare a [op] [b] pos) (tOp r ta tb) := by
  intro pins s σ H Q I h
  exact wpAny_Compare1 (binT ha hb I h fun v u s2 x y H2 I2 rx ry q => ho pins s2 σ H2 x y v u Q I2 rx ry q) hm
def tTest (t : TE) : TT := fun σ H Q => t σ H fun x H' => ∃ k, x = .bl k /\ Q k H'
theorem pt_cmpR {op : CmpOp} {r : R2} (ho : OpR X (compareOp op) r) (ha : PE X a ta) (hb : PE X b tb) (hm : behindInMarks op b = false) : PT X (.Compare a [op] [b] pos) (tTest (tOp r ta tb)) := by
  intro pins s σ H Q I h
  refine wpAny_isTrue_Compare1 (thn (ha pins s σ H _ I h) fun v s1 ⟨x, H1, I1, r1, q1⟩ => thn (hb pins s1 σ H1 _ I1 q1) fun u s2 ⟨y, H2, I2, r2, q2⟩ =>
    thn (ho pins s2 σ H2 x y v u _ I2 r1 r2 q2) fun c s3 ⟨z, H3, I3, r3, k, e, q3⟩ => ?_) hm
  subst e
  cases r3
  exact wpAny_truthy_bool ⟨H3, I3, q3⟩
theorem line63 : (sizeLine : Nat) < 2 ^ 63 := by rw [sizeLine_eq]; decide
theorem vals1 {x : V} {us : List Value} (r : Vals [x] us) : ∃ u, us = [u] /\ RelV x u := by
  cases r with
  | cons r1 r2 => cases r2; exact ⟨_, rfl, r1⟩
theorem call_ord : CallR X (.builtin "ord") (fun xs H Q => ∃ x, xs = [.str x] /\ x.length = 1 /\ Q (.int (x.cps.getD 0 0 : Nat)) H) := by
  intro pins s σ H xs us Q I r h
  obtain ⟨x, rfl, hz, q⟩ := h
  obtain ⟨u, rfl, t, rfl⟩ := vals1 r
  exact ord_of_one hz ⟨.int _, H, I.tok _, ⟨_, rfl⟩, q⟩
end
structure ObjM (h : Heap) (x dx C : Addr) (mA : Str -> Option Value) : Prop where
  obj : h.get? x = some (PySem.W.instObj C dx)
  ns : h.Ns1 dx mA
  ne : dx ≠ x
theorem lookIn_ns {h : Heap} {dx : Addr} {mA : Str -> Option Value} (n : h.Ns1 dx mA) : ∃ od, h.get? dx = some od /\ ∀ name, PySem.W.lookIn name od = some (mA name) := by
  obtain ⟨o, es, ep, ho, hd, hk, _, hm⟩ := n
  refine ⟨o, ho, fun name => ?_⟩
  have e := hm name
  unfold nsFind findBy at e
  rw [<- Array.find?_toList] at e
  unfold PySem.W.lookIn
  rw [hd]
  dsimp only
  split
  . rename_i y q
    rw [q] at e
    exact congrArg some e
  . rename_i q
    rw [q] at e
    have a : es.toList.any (·.refKey) = false := by
      rw [List.any_eq_false]
      intro y hy
      obtain ⟨z, t, hkey⟩ := hk y (Array.mem_toList_iff.mp hy)
      simp [DictEntry.refKey, hkey]
    have a' : ¬ es.toList.any (·.refKey) = true := by rw [a]; exact Bool.false_ne_true
    rw [if_neg a']
    exact congrArg some e
theorem ObjM.look {h : Heap} {x dx C : Addr} {mA : Str -> Option Value} (I : ObjM h x dx C mA) : ∃ od, PySem.W.InstAt h x (PySem.W.instObj C dx) C (some od) /\ ∀ name, PySem.W.lookIn name od = some (mA name) :=
  let ⟨od, ho, hl⟩ := lookIn_ns I.ns
  ⟨od, ⟨I.obj, rfl, rfl, ho⟩, hl⟩
section
variable {prog : Program} {w : World} {A : Around} {E : Value -> Shared -> Prop} {s : Shared} {K : PySem.W.Frag} {x dx C f : Addr} {mA : Str -> Option Value} {name : Str} {v : Value}
theorem get_map {expr : Bool} {Q : Value -> Shared -> Prop} (X : K.In s.heap) (I : ObjM s.heap x dx C mA) (hg : PySem.W.plainGet K C name = true) (hh : PySem.W.hasDictIn K C = true)
    (ha : PySem.W.findIn K (.ref C) name = some none) (hv : mA name = some v) (hv' : PySem.W.handedIn v = true) (h : Q v { s with toks := s.toks + 1 }) :
    wpAny (model prog w) A (getAttr (.ref x) name expr) Q E s := by
  obtain ⟨od, J, hl⟩ := I.look
  exact PySem.W.get_value X J (PySem.W.plainGet_of hg).1 (PySem.W.findObj_own hh ha rfl (by rw [hl, hv])) hv' h
theorem set_map {ns : List Str} {Q : Unit -> Shared -> Prop} (X : K.In s.heap) (I : ObjM s.heap x dx C mA)
    (hs : PySem.W.findIn K (.ref C) "__setattr__" = some (some (.builtin "object.__setattr__"))) (hp : PySem.W.plainOver K C = true) (ht : PySem.W.takerIn K C name = some none) (hh : PySem.W.hasDictIn K C = true)
    (hw : PySem.Within mA ns) (hsz : ns.length <= sizeLine)
    (h : ∀ h', ObjM h' x dx C (fun y => if y = name then some v else mA y) -> Heap.SameBut dx s.heap h' -> Q () { s with heap := h', toks := s.toks + 2 }) :
    wpAny (model prog w) A (setAttr (.ref x) name v) Q E s := by
  obtain ⟨od, J, hl⟩ := I.look
  refine PySem.W.set_plain X J hs (PySem.W.osa_open (s := { s with toks := s.toks + 1 }) (r := none) X J hp ht fun b => ?_)
  obtain ⟨cd, hc, hd'⟩ := PySem.W.any_some hh
  have hx : s.heap.get? x = some ⟨.ref C, some dx, .plain, #[]⟩ := I.obj
  refine wpAny_bind (wpAny_pure (wpAny_bind (wpAny_bind (wpAny_loadPart hx (wpAny_bind (PySem.W.Looks.here (s := { s with toks := s.toks + 1 }) (PySem.W.looks_clsIn X hc) ?_))))))
  rw [hd']
  refine wpAny_pure (a := some dx) (wpAny_bind (wpAny_pure (wpAny_bind ?_)))
  refine wpAny_nsSet1 (s := { s with toks := s.toks + 1 }) I.ns fun h' hn2 hs2 => ?_
  obtain ⟨oD, esD, epD, hoD, hdD, hcD⟩ := hn2.count (PySem.Within.cons name v hw)
  refine wpAny_bind (wpAny_lookBehind hoD (by rw [hdD]; exact pastItsLine_dict (Nat.le_trans hcD (by rw [List.length_cons]; omega))) ?_)
  exact wpAny_pure (h _ ⟨(hs2.2 _ (Ne.symm I.ne)).trans I.obj, hn2, I.ne⟩ hs2)
theorem make_map {R : Result -> Shared -> Prop} {vs : List Value} {kw : List (Str × Value)} (X : K.In s.heap) (hm : PySem.W.makesIn K C = true)
    (hi : PySem.W.findIn K (.ref C) "__init__" = some (some (.ref f))) (hf : PySem.W.typeIn K (.ref f) = some (.type "function"))
    (h : codeAny (model prog w) (A.under (.builtin "type.__call__" ⟨.ref C :: vs, kw⟩)) (.call (.ref f) ⟨.ref (s.heap.objs.size + 1) :: vs, kw⟩) (PySem.W.InitBack (s.heap.objs.size + 1) R)
      { s with heap := (s.heap.push PySem.W.emptyDict).push (PySem.W.instObj C s.heap.objs.size) }) :
    codeAny (model prog w) A (.call (.ref C) ⟨vs, kw⟩) R s := by
  obtain ⟨hh, g, d, t, os⟩ := s
  exact PySem.W.make_core (PySem.W.makes_of X hm) (PySem.W.looks_findIn X hi) (fun self => PySem.W.bind_fn X self hf) (.inl rfl) h
end
def putF (f : Str) (v : V) : List (Str × V) -> List (Str × V)
  | [] => [(f, v)]
  | (g, x) :: r => if g = f then (g, v) :: r else (g, x) :: putF f v r
theorem lookup_putF (f g : Str) (v : V) : ∀ fs : List (Str × V), (putF f v fs).lookup g = if g = f then some v else fs.lookup g
  | [] => by
    show List.lookup g [(f, v)] = _
    by_cases h : g = f
    . have hb : (g == f) = true := beq_iff_eq.mpr h
      simp only [List.lookup, hb, if_pos h]
    . have hb : (g == f) = false := beq_eq_false_iff_ne.mpr h
      simp only [List.lookup, hb, if_neg h]
  | (k, x) :: r => by
    have ih := lookup_putF f g v r
    rw [show putF f v ((k, x) :: r) = (if k = f then (k, v) :: r else (k, x) :: putF f v r) from rfl]
    by_cases hk : k = f
    . rw [if_pos hk]
      by_cases h : g = k
      . have hb : (g == k) = true := beq_iff_eq.mpr h
        simp only [List.lookup, hb, if_pos (h.trans hk)]
      . have hb : (g == k) = false := beq_eq_false_iff_ne.mpr h
        simp only [List.lookup, hb, if_neg (fun e : g = f => h (e.trans hk.symm))]
    . rw [if_neg hk]
      by_cases h : g = k
      . have hb : (g == k) = true := beq_iff_eq.mpr h
        simp only [List.lookup, hb, if_neg (fun e : g = f => hk (h.symm.trans e))]
      . have hb : (g == k) = false := beq_eq_false_iff_ne.mpr h
        simp only [List.lookup, hb]
        exact ih
theorem keys_putF (f : Str) (v : V) : ∀ fs : List (Str × V), f ∈ (putF f v fs).map (·.1) /\ ∀ g, g ∈ fs.map (·.1) -> g ∈ (putF f v fs).map (·.1)
  | [] => ⟨by simp [putF], fun g h => by simp at h⟩
  | (k, x) :: r => by
    obtain ⟨i1, i2⟩ := keys_putF f v r
    rw [show putF f v ((k, x) :: r) = (if k = f then (k, v) :: r else (k, x) :: putF f v r) from rfl]
    by_cases hk : k = f
    . rw [if_pos hk]
      subst hk
      exact ⟨by simp, fun g h => by simpa using h⟩
    . rw [if_neg hk]
      refine ⟨?_, fun g h => ?_⟩
      . rw [List.map_cons]
        exact List.mem_cons_of_mem _ i1
      . rw [List.map_cons] at h ⊢
        rcases List.mem_cons.mp h with e | e
        . exact List.mem_cons.mpr (.inl e)
        . exact List.mem_cons_of_mem _ (i2 g e)
theorem length_putF (f : Str) (v : V) : ∀ fs : List (Str × V), (putF f v fs).length <= fs.length + 1
  | [] => by simp [putF]
  | (k, x) :: r => by
    have ih := length_putF f v r
    rw [show putF f v ((k, x) :: r) = (if k = f then (k, v) :: r else (k, x) :: putF f v r) from rfl]
    by_cases hk : k = f
    . rw [if_pos hk, List.length_cons, List.length_cons]; omega
    . rw [if_neg hk, List.length_cons, List.length_cons]; omega
theorem RelO.some_of {v : V} {o : Option Value} (r : RelO (some v) o) : ∃ u, o = some u /\ RelV v u := by
  cases o with
  | none => exact (show False from r).elim
  | some u => exact ⟨u, rfl, r⟩
theorem handed_of {v : V} {u : Value} (r : RelV v u) : PySem.W.handedIn u = true := by
  cases v with
  | non => cases (show u = Value.none from r); rfl
  | bl b => cases (show u = Value.bool b from r); rfl
  | int i => obtain ⟨t, e⟩ := (show ∃ t, u = Value.int i t from r); cases e; rfl
  | str x => obtain ⟨t, e⟩ := (show ∃ t, u = Value.str x t from r); cases e; rfl
  | byt b => obtain ⟨t, e⟩ := (show ∃ t, u = Value.bytes b t from r); cases e; rfl
  | flt b => obtain ⟨t, e⟩ := (show ∃ t, u = Value.float b t from r); cases e; rfl
  | ref a => cases (show u = Value.ref a from r); rfl
  | ty n => cases (show u = Value.type n from r); rfl
section
variable {P : Program} {w : World} {H H' : Hp} {h h' : Heap} {a C dx : Addr} {fs fs' : List (Str × V)}
theorem ins_get (hok : HOk P w H h) (e : H a = some (.ins C dx fs)) : ∃ mA, ObjM h a dx C mA /\ (∀ f, RelO (fs.lookup f) (mA f)) /\ PySem.Within mA (fs.map (·.1)) /\ fs.length <= 1000 /\ H dx = some (.own a) := by
  obtain ⟨d, z, ne, ob, mA, n, r, q⟩ := (show ObjOk P w H h a (.ins C dx fs) from hok a _ e)
  exact ⟨mA, ⟨ob, n, ne⟩, r, q, z, d⟩
end
structure Cls (K : PySem.W.Frag) (C : Addr) : Prop where
  pg : PySem.W.plainGet K C Str.empty = true
  hd : PySem.W.hasDictIn K C = true
  po : PySem.W.plainOver K C = true
  sa : PySem.W.findIn K (.ref C) "__setattr__" = some (some (.builtin "object.__setattr__"))
theorem Cls.get {K : PySem.W.Frag} {C : Addr} (c : Cls K C) (f : Str) : PySem.W.plainGet K C f = true := c.pg
def NoAttr (K : PySem.W.Frag) (C : Addr) (f : Str) : Prop := PySem.W.findIn K (.ref C) f = some none
theorem NoAttr.taker {K : PySem.W.Frag} {C : Addr} {f : Str} (n : NoAttr K C f) : PySem.W.takerIn K C f = some none := by
  unfold PySem.W.takerIn
  rw [show PySem.W.findIn K (.ref C) f = some none from n]
  rfl
section
variable {X : Cx} {pins : List (Addr × Obj)} {σ : St} {H : Hp} {s : Shared} {a C dx : Addr} {fs : List (Str × V)} {f : Str} {v : V} {A : Around} {E : Value -> Shared -> Prop}
theorem getattr_ok {b : Bool} {Q : Value -> Shared -> Prop} (I : Inv X pins σ H s) (e : H a = some (.ins C dx fs)) (c : Cls X.K C) (n : NoAttr X.K C f) (l : fs.lookup f = some v)
    (h : ∀ u s', Inv X pins σ H s' -> RelV v u -> Q u s') : wpAny (model X.prog X.w) A (getAttr (.ref a) f b) Q E s := by
  obtain ⟨mA, O, r, _, _, _⟩ := ins_get I.hok e
  obtain ⟨u, hu, ru⟩ := RelO.some_of (v := v) (o := mA f) (by rw [<- l]; exact r f)
  exact get_map I.kIn O (c.get f) c.hd n hu (handed_of ru) (h u _ (I.tok _) ru)
theorem setattr_ok {y : V} {u : Value} {Q : Unit -> Shared -> Prop} (I : Inv X pins σ H s) (e : H a = some (.ins C dx fs)) (c : Cls X.K C) (n : NoAttr X.K C f) (hl : fs.length < 1000) (ry : RelV y u)
    (h : ∀ s', Inv X pins σ (upd H a (.ins C dx (putF f y fs))) s' -> Q () s') : wpAny (model X.prog X.w) A (setAttr (.ref a) f u) Q E s := by
  obtain ⟨mA, O, r, wi, _, ho⟩ := ins_get I.hok e
  have hz : (fs.map (·.1)).length <= sizeLine := by rw [List.length_map, sizeLine_eq]; omega
  refine set_map I.kIn O c.sa c.po n.taker c.hd wi hz fun h' O' sb => h _ ?_
  have hd : ∃ o, h'.get? dx = some o := let ⟨o, _, _, e', _⟩ := O'.ns; ⟨o, e'⟩
  refine I.write (x := a) (e := dx) (by rw [e]; exact True.intro) (.inr ho) (fun b q hb z => (sb.2 b hb).trans z) hd ?_
  refine ⟨by rw [upd_ne O.ne]; exact ho, ?_, O.ne, O'.obj, _, O'.ns, fun g => ?_, fun g hg => ?_⟩
  . have := length_putF f y fs; omega
  . show RelO ((putF f y fs).lookup g) (if g = f then some u else mA g)
    rw [lookup_putF]
    by_cases q : g = f
    . rw [if_pos q, if_pos q]; exact ry
    . rw [if_neg q, if_neg q]; exact r g
  . by_cases q : g = f
    . rw [q]; exact (keys_putF f y fs).1
    . refine (keys_putF f y fs).2 g (wi g fun z => hg ?_)
      show (if g = f then some u else mA g) = none
      rw [if_neg q]; exact z
theorem Inv.made (I : Inv X pins σ H s) : Inv X pins σ (upd (upd H s.heap.objs.size (.own (s.heap.objs.size + 1))) (s.heap.objs.size + 1) (.ins C s.heap.objs.size []))
    { s with heap := (s.heap.push PySem.W.emptyDict).push (PySem.W.instObj C s.heap.objs.size) } := by
  have e1 : (s.heap.push PySem.W.emptyDict).get? s.heap.objs.size = some PySem.W.emptyDict := Heap.get?_push_size s.heap rfl
  have e2 : ((s.heap.push PySem.W.emptyDict).push (PySem.W.instObj C s.heap.objs.size)).get? (s.heap.objs.size + 1) = some (PySem.W.instObj C s.heap.objs.size) := by
    have := Heap.get?_push_size (s.heap.push PySem.W.emptyDict) (o := PySem.W.instObj C s.heap.objs.size) rfl
    rwa [Heap.size_push] at this
  have e3 : (s.heap.push PySem.W.emptyDict).Ns s.heap.objs.size (fun _ => none) := ⟨PySem.W.emptyDict, #[], _, e1, rfl, (fun e he => absurd he (by simp)), fun _ => rfl⟩
  have I1 := I.laid (a := s.heap.objs.size) (o := .own (s.heap.objs.size + 1)) (h' := s.heap.push PySem.W.emptyDict) (t' := s.toks) (fun b u q => Heap.get?_push_of_some _ q) (Nat.le_refl _) ⟨_, e1⟩
  refine I1.laid (a := s.heap.objs.size + 1) (o := .ins C s.heap.objs.size []) (t' := s.toks) (fun b u q => Heap.get?_push_of_some _ q) (Nat.le_of_eq (Heap.size_push _ _)) ?_
  have ne : s.heap.objs.size ≠ s.heap.objs.size + 1 := Nat.ne_of_lt (Nat.lt_succ_self _)
  refine ⟨by rw [upd_ne ne, upd_same], Nat.zero_le _, ne, e2, fun _ => none, (Heap.Ns1.of_empty e3).at fun o q => Heap.get?_push_of_some _ q, fun _ => True.intro, fun y hy => absurd rfl hy⟩
theorem attr_of {prog : Program} {w : World} {env : Env} {e : Expr} {f : Str} {pos : Pos} {s : Shared} {Q : Value -> Shared -> Prop} (hb : attributeBase e f env (eval e env) = eval e env)
    (h : wpAny (model prog w) A (eval e env) (fun o s₁ => wpAny (model prog w) A (getAttr o f true) Q E s₁) E s) : wpAny (model prog w) A (eval (.Attribute e f pos) env) Q E s :=
  Attribute_any_ h (by rw [arm_eval_Attribute, hb])
end
def tFld (K : PySem.W.Frag) (ta : TE) (f : Str) : TE := fun σ H Q => ta σ H fun x H1 => ∃ a C dx fs v, x = .ref a /\ H1 a = some (.ins C dx fs) /\ Cls K C /\ NoAttr K C f /\ fs.lookup f = some v /\ Q v H1
def sFld (K : PySem.W.Frag) (ta tv : TE) (f : Str) : TS := fun D σ H => tv σ H fun y H1 => ta σ H1 fun x H2 => ∃ a C dx fs, x = .ref a /\ H2 a = some (.ins C dx fs) /\ Cls K C /\ NoAttr K C f /\ fs.length < 1000 /\
  D.nx σ (upd H2 a (.ins C dx (putF f y fs)))
section
variable {X : Cx} {o e value : Expr} {f : Str} {pos pos' tpos : Pos} {ta tv : TE}
theorem pe_fld (he : PE X e ta) (hb : attributeBase e f X.env (eval e X.env) = eval e X.env) : PE X (.Attribute e f pos) (tFld X.K ta f) := by
  intro pins s σ H Q I h
  refine attr_of hb (thn (he pins s σ H _ I h) fun u s1 ⟨x, H1, I1, rx, a, C, dx, fs, v, ex, ea, c, n, l, q⟩ => ?_)
  subst ex
  obtain rfl : u = Value.ref a := rx
  exact getattr_ok I1 ea c n l fun u' s2 I2 ru => ⟨v, H1, I2, ru, q⟩
theorem ps_fld (ha : PE X o ta) (hv : PE X value tv) (hs : swapsWith value (some (.Attribute o f pos')) pos.line X.env = pure false) : PS X (.Assign [.Attribute o f pos'] value pos) (sFld X.K ta tv f) := by
  intro pins s σ H D I h
  refine plainObj_wpAny_Assign_Attribute (thn (hv pins s σ H _ I h) fun u s1 ⟨y, H1, I1, ry, q⟩ => thn (ha pins s1 σ H1 _ I1 q) fun ov s2 ⟨x, H2, I2, rx, a, C, dx, fs, ex, ea, c, n, l, q2⟩ => ?_) hs
  subst ex
  obtain rfl : ov = Value.ref a := rx
  exact setattr_ok I2 ea c n l ry fun s3 I3 => ⟨σ, _, I3, q2⟩
end
structure Room (k : Nat) (A : Around) : Prop where
  hd : A.handled = none
  dp : A.depth + 3 * k + 5 < recursionLimit
  un : A.units + 16 * k + 200 < cLine
theorem Room.mono {j k : Nat} {A : Around} (r : Room k A) (h : j <= k) : Room j A := ⟨r.hd, by have := r.dp; omega, by have := r.un; omega⟩
theorem Room.deeper {k : Nat} {A : Around} (r : Room (k + 1) A) (env : Env) : Room k (A.deeper env) :=
  ⟨r.hd, by have := r.dp; show A.depth + 1 + 3 * k + 5 < _; omega, by have := r.un; show A.units + 3 + 16 * k + 200 < _; omega⟩
theorem Room.in1 {k : Nat} {A : Around} (r : Room (k + 1) A) : Room k A.in1 :=
  ⟨r.hd, by have := r.dp; show A.depth + 3 * k + 5 < _; omega, by have := r.un; show A.units + 1 + 16 * k + 200 < _; omega⟩
theorem make_depth {A : Around} {C : Addr} {us : List Value} {kw : List (Str × Value)} : (A.under (.builtin "type.__call__" ⟨.ref C :: us, kw⟩)).depth = A.depth + 1 := by
  first | rfl | simp [Around.under, Code.weight, Code.isCreation, Code.isGuard, Code.isCaller, Code.frames, Code.isFrame, guardIds]
theorem make_units {A : Around} {C : Addr} {us : List Value} {kw : List (Str × Value)} : (A.under (.builtin "type.__call__" ⟨.ref C :: us, kw⟩)).units = A.units + 1 := by
  first | rfl | simp [Around.under, Code.cUnits, Code.frames, Code.isFrame]
theorem Room.make {k : Nat} {A : Around} (r : Room (k + 1) A) (C : Addr) (us : List Value) (kw : List (Str × Value)) : Room k (A.under (.builtin "type.__call__" ⟨.ref C :: us, kw⟩)) :=
  ⟨r.hd, by have := r.dp; rw [make_depth]; omega, by have := r.un; rw [make_units]; omega⟩
theorem Room.depth {k : Nat} {A : Around} (r : Room k A) : A.depth < recursionLimit := by have := r.dp; omega
theorem Room.units {k : Nat} {A : Around} (r : Room k A) : A.units + 64 < cLine := by have := r.un; omega
def tNil : TA := fun _ H Q => Q [] H
def tCons (ta : TE) (tr : TA) : TA := fun σ H Q => ta σ H fun x H1 => tr σ H1 fun xs H2 => Q (x :: xs) H2
section
variable {X : Cx} {e : Expr} {es : List Expr} {te : TE} {t : TA} {pos : Pos}
theorem pa_nil : PA X [] tNil := fun _ _ _ _ H Q I h => Calls.spliced_nil ⟨[], H, I, .nil, h⟩
theorem pa_cons (ha : PE X e te) (hr : PA X es t) (hs : starEach (e :: es) X.env = (false, eval e X.env) :: starEach es X.env := by rfl) : PA X (e :: es) (tCons te t) := by
  intro pos pins s σ H Q I h
  rw [hs]
  show wpAny _ _ (spliced ((false, eval e X.env) :: backTo pos (starEach es X.env))) _ _ s
  refine Calls.spliced_cons (thn (ha pins s σ H _ I h) fun u s1 ⟨x, H1, I1, r1, q1⟩ => ?_)
  exact thn (hr pos pins s1 σ H1 _ I1 q1) fun us s2 ⟨xs, H2, I2, r2, q2⟩ => ⟨x :: xs, H2, I2, .cons r1 r2, q2⟩
def tTup (t : TA) : TE := fun σ H Q => t σ H fun xs H1 => xs.length <= sizeLine /\ ∀ p, H1 p = none -> Q (.ref p) (upd H1 p (.tup xs))
def tLst (t : TA) : TE := fun σ H Q => t σ H fun xs H1 => xs.length <= sizeLine /\ ∀ p, H1 p = none -> Q (.ref p) (upd H1 p (.lst xs))
theorem pe_tup {x1} (h : PA X es t) : PE X (.Tuple es x1 pos) (tTup t) := by
  intro pins s σ H Q I hq
  refine wpAny_Tuple_spliced (thn (h pos pins s σ H _ I hq) fun us s1 ⟨xs, H1, I1, r, z, q⟩ => ⟨by rw [<- r.length]; exact z, ?_⟩)
  have hf : H1 s1.heap.objs.size = none := I1.hok.fresh (Nat.le_refl _)
  refine ⟨.ref s1.heap.objs.size, upd H1 s1.heap.objs.size (.tup xs), I1.laid (t' := s1.toks) (fun b u e => Heap.get?_push_of_some _ e) (Nat.le_refl _) ?_, rfl, q _ hf⟩
  exact ⟨z, us, r, ⟨_, Heap.get?_push_size _ rfl, rfl, _, rfl⟩⟩
theorem pe_lst (h : PA X es t) : PE X (.List es pos) (tLst t) := by
  intro pins s σ H Q I hq
  refine wpAny_List_spliced (thn (h pos pins s σ H _ I hq) fun us s1 ⟨xs, H1, I1, r, z, q⟩ => ⟨by rw [<- r.length]; exact z, ?_⟩)
  have hf : H1 s1.heap.objs.size = none := I1.hok.fresh (Nat.le_refl _)
  refine ⟨.ref s1.heap.objs.size, upd H1 s1.heap.objs.size (.lst xs), I1.laid (t' := s1.toks) (fun b u e => Heap.get?_push_of_some _ e) (Nat.le_refl _) ?_, rfl, q _ hf⟩
  exact ⟨z, us, 0, r, Heap.get?_push_size _ rfl⟩
end
abbrev Sp := List V -> Hp -> VK -> XK -> Prop
abbrev CXT := List Env -> Hp -> Shared -> XK -> Value -> Shared -> Prop
structure Env0 (P : Program) (w : World) (K : PySem.W.Frag) (mg : Str -> Option Value) (base : Heap) (A : Around) (outer : List Env) (s : Shared) (H : Hp) : Prop where
  frames : A.frames = some outer
  mod : Mod K mg base
  bs : ∀ b o, base.get? b = some o -> s.heap.get? b = some o /\ H b = none
  bsz : base.objs.size <= s.heap.objs.size
  funs : s.heap.FunFrames base outer
  frf : ∀ b ∈ frs outer, H b = none
  hok : HOk P w H s.heap
  bare : AllBare s.gens
def CE (outer : List Env) (P : Program) (w : World) (H : Hp) (s : Shared) (Q : VK) (u : Value) (s' : Shared) : Prop :=
  ∃ v H', s'.os = s.os /\ AllBare s'.gens /\ Un (frs outer) [] H H' s.heap s'.heap /\ HOk P w H' s'.heap /\ RelV v u /\ Q v H'
def CR (CX : CXT) (outer : List Env) (P : Program) (w : World) (H : Hp) (s : Shared) (Q : VK) (E : XK) (r : Result) (s' : Shared) : Prop :=
  match r with
  | .ok (.ret u) => CE outer P w H s Q u s'
  | .ok _ => False
  | .error e => CX outer H s E e s'
structure FnOk (P : Program) (w : World) (K : PySem.W.Frag) (mg : Str -> Option Value) (base : Heap) (CX : CXT) (k : Nat) (f : Addr) (fd : FuncData) (ps : List Str) (sp : Sp) : Prop where
  len : ∀ vs H Q E, sp vs H Q E -> vs.length = ps.length
  run : ∀ (A : Around) (outer : List Env) (s : Shared) (H : Hp) (args : Args) (us : List Value) (vs : List V) (Q : VK) (E : XK), Room k A -> Env0 P w K mg base A outer s H -> BindsTo s fd args (ps.zip us) -> Vals vs us -> sp vs H Q E ->
    codeAny (model P w) A (.call (.ref f) args) (CR CX outer P w H s Q E) s
theorem FnOk.mono {P : Program} {w : World} {K : PySem.W.Frag} {mg : Str -> Option Value} {base : Heap} {CX : CXT} {j k : Nat} {f : Addr} {fd : FuncData} {ps : List Str} {sp : Sp} (F : FnOk P w K mg base CX j f fd ps sp) (h : j <= k) :
    FnOk P w K mg base CX k f fd ps sp := ⟨F.len, fun A outer s H args us vs Q E hr => F.run A outer s H args us vs Q E (hr.mono h)⟩
theorem FnOk.imp {P : Program} {w : World} {K : PySem.W.Frag} {mg : Str -> Option Value} {base : Heap} {CX : CXT} {k : Nat} {f : Addr} {fd : FuncData} {ps : List Str} {sp sp' : Sp} (F : FnOk P w K mg base CX k f fd ps sp)
    (h : ∀ vs H Q E, sp' vs H Q E -> sp vs H Q E) : FnOk P w K mg base CX k f fd ps sp' :=
  ⟨fun vs H Q E q => F.len vs H Q E (h _ _ _ _ q), fun A outer s H args us vs Q E hr he hb hv hs => F.run A outer s H args us vs Q E hr he hb hv (h _ _ _ _ hs)⟩
theorem Env0.make {P : Program} {w : World} {K : PySem.W.Frag} {mg : Str -> Option Value} {base : Heap} {A : Around} {outer : List Env} {s : Shared} {H : Hp} (e : Env0 P w K mg base A outer s H) (C : Addr) (us : List Value) (kw : List (Str × Value)) :
    Env0 P w K mg base (A.under (.builtin "type.__call__" ⟨.ref C :: us, kw⟩)) outer s H := ⟨by first | exact e.frames | (simpa [Around.under, Code.envs, Code.isFrame, pushEnvs] using e.frames), e.mod, e.bs, e.bsz, e.funs, e.frf, e.hok, e.bare⟩
theorem Env0.in1 {P : Program} {w : World} {K : PySem.W.Frag} {mg : Str -> Option Value} {base : Heap} {A : Around} {outer : List Env} {s : Shared} {H : Hp} (e : Env0 P w K mg base A outer s H) :
    Env0 P w K mg base A.in1 outer s H := ⟨e.frames, e.mod, e.bs, e.bsz, e.funs, e.frf, e.hok, e.bare⟩
section
variable {X : Cx} {pins : List (Addr × Obj)} {σ : St} {H : Hp} {s s' : Shared}
theorem Inv.env0 (I : Inv X pins σ H s) : Env0 X.prog X.w X.K X.mg X.base X.A X.stack s H :=
  ⟨I.ok.frames, I.ok.mod, I.bs, Nat.le_trans I.ok.bsz I.sz, I.stack, I.stkFree, I.hok, I.bare⟩
theorem Inv.after {Q : VK} {u : Value} (I : Inv X pins σ H s) (h : CE X.stack X.prog X.w H s Q u s') : EP X pins σ Q u s' := by
  obtain ⟨v, H', os, bare, un, hok, r, q⟩ := h
  obtain ⟨hh, g, d, t, os'⟩ := s'
  obtain rfl : os' = s.os := os
  exact ⟨v, H', I.call (h' := hh) (g' := g) (d' := d) (t' := t) (ch := []) un hok bare (fun b z => absurd z (by simp)), r, q⟩
end
def tCall (sp : Sp) (dvs : List V) (E : XK) (t : TA) : TE := fun σ H Q => t σ H fun vs H1 => sp (vs ++ dvs) H1 Q E
def tMake (C : Addr) (sp : Sp) (dvs : List V) (E : XK) (t : TA) : TE := fun σ H Q => t σ H fun vs H1 => ∀ x dx, H1 x = none -> H1 dx = none -> dx ≠ x ->
  sp (.ref x :: (vs ++ dvs)) (upd (upd H1 dx (.own x)) x (.ins C dx [])) (fun v H2 => v = .non /\ Q (.ref x) H2) E
def Binds (K : PySem.W.Frag) (fd : FuncData) (ps : List Str) (ds : List Value) : Prop :=
  ∀ (s : Shared) (us : List Value), K.In s.heap -> (us ++ ds).length = ps.length -> BindsTo s fd ⟨us, []⟩ (ps.zip (us ++ ds))
theorem Binds.all {K : PySem.W.Frag} {fd : FuncData} {ps : List Str} (h : ∀ us : List Value, us.length = ps.length -> bindArgs fd ⟨us, []⟩ = pure (ps.zip us)) : Binds K fd ps [] := fun s us _ hl => by
  rw [List.append_nil] at hl ⊢
  exact .of_eq (h us hl)
def Passes (CX : CXT) (X : Cx) (E : XK) : Prop := ∀ (pins : List (Addr × Obj)) (σ : St) (H : Hp) (s : Shared) (e : Value) (s' : Shared), Inv X pins σ H s -> CX X.stack H s E e s' -> X.xe e s'
section
variable {X : Cx} {CX : CXT} {k : Nat} {f C : Addr} {fd : FuncData} {ps : List Str} {sp : Sp} {dvs : List V} {ds : List Value} {E : XK} {x m : Str} {p pos apos : Pos} {e o : Expr} {es : List Expr} {ta : TE} {t : TA}
theorem run_fn {pins : List (Addr × Obj)} {σ : St} {H : Hp} {s : Shared} {Q : VK} {us : List Value} {vs : List V} (F : FnOk X.prog X.w X.K X.mg X.base CX k f fd ps sp) (hr : Room k X.A) (hb : Binds X.K fd ps ds) (hd : Vals dvs ds) (hx : Passes CX X E)
    (I : Inv X pins σ H s) (r : Vals vs us) (h : sp (vs ++ dvs) H Q E) : wpAny (model X.prog X.w) X.A (call (.ref f) us) (EP X pins σ Q) X.xe s := by
  have r2 : Vals (vs ++ dvs) (us ++ ds) := r.append hd
  have hl : (us ++ ds).length = ps.length := by rw [<- r2.length]; exact F.len _ _ _ _ h
  refine wpAny_call (codeAny_mono (F.run X.A X.stack s H ⟨us, []⟩ (us ++ ds) (vs ++ dvs) Q E hr I.env0 (hb s us I.kIn hl) r2 h) fun r s' hq => ?_)
  cases r with
  | error e => exact hx pins σ H s e s' I hq
  | ok fl =>
    cases fl with
    | ret u => exact I.after hq
    | next => exact False.elim hq
    | brk => exact False.elim hq
    | cont => exact False.elim hq
theorem pe_call (F : FnOk X.prog X.w X.K X.mg X.base CX k f fd ps sp) (hr : Room k X.A) (hg : Gl X x) (hm : X.mg x = some (.ref f)) (hk : PySem.W.keepIn X.K (.ref f) = true) (hb : Binds X.K fd ps ds) (hd : Vals dvs ds) (hx : Passes CX X E)
    (ha : PA X (e :: es) t) (hdb : (x == ("__debug__" : Str)) = false := by decide) (he : starEach (e :: es) X.env = (false, eval e X.env) :: starEach es X.env := by rfl) (hpl : (backTo pos (starEach es X.env)).any (·.1) = false := by rfl) :
    PE X (.Call (.Name x p) (e :: es) [] pos) (tCall sp dvs E t) := by
  intro pins s σ H Q I h
  refine wpAny_Call_Name_kw (ld_glob I hg hm ?_ hdb)
  refine PySem.W.callWith_K (h₀ := X.base) I.ok.mod.kin hk (thn (ha pos pins s σ H _ I h) fun us s1 ⟨vs, H1, I1, r, q⟩ => ⟨I1.kIn, ?_⟩) he hpl
  exact run_fn F hr hb hd hx I1 r q
structure Mk (K : PySem.W.Frag) (C f : Addr) : Prop where
  makes : PySem.W.makesIn K C = true
  init : PySem.W.findIn K (.ref C) "__init__" = some (some (.ref f))
  fn : PySem.W.isFn K (.ref f) = true
  kp : PySem.W.keepIn K (.ref C) = true
theorem run_make {pins : List (Addr × Obj)} {σ : St} {H : Hp} {s : Shared} {Q : VK} {us : List Value} {vs : List V} (M : Mk X.K C f) (F : FnOk X.prog X.w X.K X.mg X.base CX k f fd ps sp) (hr : Room (k + 1) X.A) (hb : Binds X.K fd ps ds) (hd : Vals dvs ds)
    (hx : Passes CX X E) (I : Inv X pins σ H s) (r : Vals vs us)
    (h : ∀ x dx, H x = none -> H dx = none -> dx ≠ x -> sp (.ref x :: (vs ++ dvs)) (upd (upd H dx (.own x)) x (.ins C dx [])) (fun v H2 => v = .non /\ Q (.ref x) H2) E) :
    wpAny (model X.prog X.w) X.A (call (.ref C) us) (EP X pins σ Q) X.xe s := by
  have hq := h (s.heap.objs.size + 1) s.heap.objs.size (I.hok.fresh (Nat.le_succ _)) (I.hok.fresh (Nat.le_refl _)) (Nat.ne_of_lt (Nat.lt_succ_self _))
  have I2 := Inv.made (C := C) I
  have r2 : Vals (V.ref (s.heap.objs.size + 1) :: (vs ++ dvs)) (Value.ref (s.heap.objs.size + 1) :: (us ++ ds)) := .cons rfl (r.append hd)
  have hl : (Value.ref (s.heap.objs.size + 1) :: us ++ ds).length = ps.length := by
    have e := r2.length
    rw [F.len _ _ _ _ hq] at e
    exact e.symm
  refine wpAny_call (make_map (f := f) I.kIn M.makes M.init (beq_iff_eq.mp M.fn) (codeAny_mono (F.run _ X.stack _ _ ⟨Value.ref (s.heap.objs.size + 1) :: us, []⟩ (Value.ref (s.heap.objs.size + 1) :: (us ++ ds)) _ _ E (hr.make C us [])
    (I2.env0.make C us []) (hb _ (Value.ref (s.heap.objs.size + 1) :: us) I2.kIn hl) r2 hq) fun r s' hq' => ?_))
  cases r with
  | error e => exact hx pins σ _ _ e s' I2 hq'
  | ok fl =>
    cases fl with
    | ret u =>
      obtain ⟨v, H', I3, rv, ev, q3⟩ := I2.after hq'
      subst ev
      exact ⟨rv, ⟨V.ref (s.heap.objs.size + 1), H', I3, rfl, q3⟩⟩
    | next => exact False.elim hq'
    | brk => exact False.elim hq'
    | cont => exact False.elim hq'
theorem pe_make (M : Mk X.K C f) (F : FnOk X.prog X.w X.K X.mg X.base CX k f fd ps sp) (hr : Room (k + 1) X.A) (hg : Gl X x) (hm : X.mg x = some (.ref C)) (hb : Binds X.K fd ps ds) (hd : Vals dvs ds) (hx : Passes CX X E)
    (ha : PA X (e :: es) t) (hdb : (x == ("__debug__" : Str)) = false := by decide) (he : starEach (e :: es) X.env = (false, eval e X.env) :: starEach es X.env := by rfl) (hpl : (backTo pos (starEach es X.env)).any (·.1) = false := by rfl) :
    PE X (.Call (.Name x p) (e :: es) [] pos) (tMake C sp dvs E t) := by
  intro pins s σ H Q I h
  refine wpAny_Call_Name_kw (ld_glob I hg hm ?_ hdb)
  refine PySem.W.callWith_K (h₀ := X.base) I.ok.mod.kin M.kp (thn (ha pos pins s σ H _ I h) fun us s1 ⟨vs, H1, I1, r, q⟩ => ⟨I1.kIn, ?_⟩) he hpl
  exact run_make M F hr hb hd hx I1 r q
theorem pe_make0 (M : Mk X.K C f) (F : FnOk X.prog X.w X.K X.mg X.base CX k f fd ps sp) (hr : Room (k + 1) X.A) (hg : Gl X x) (hm : X.mg x = some (.ref C)) (hb : Binds X.K fd ps ds) (hd : Vals dvs ds) (hx : Passes CX X E)
    (hdb : (x == ("__debug__" : Str)) = false := by decide) : PE X (.Call (.Name x p) [] [] pos) (tMake C sp dvs E tNil) := by
  intro pins s σ H Q I h
  refine wpAny_Call_Name_kw (ld_glob I hg hm ?_ hdb)
  exact PySem.W.callWith_K0 I.kIn M.kp (run_make (us := []) M F hr hb hd hx I .nil h)
end
structure FnScope (N P : List Str) (sc : Scope) : Prop where
  kind : sc.kind = .function
  co : sc.isCoroutine = false
  gen : sc.isGenerator = false
  nd : N.Nodup
  pre : N.take P.length = P
  par : ∀ x ∈ P, sc.names.lookup x = some .local \/ sc.names.lookup x = some .cell
  nofree : ∀ y ∈ sc.names, y.2 ≠ .free
theorem bindL_out {kindOf : Str -> Option NameKind} {x : Str} : ∀ {binds : List (Str × Value)} {m : Str -> Option Value}, (∀ v, (x, v) ∉ binds) -> bindL kindOf binds m x = m x
  | [], _, _ => rfl
  | (n, v) :: r, m, h => by
    unfold bindL
    rw [bindL_out fun w hw => h w (List.mem_cons_of_mem _ hw)]
    split
    . have : x ≠ n := by rintro rfl; exact h v List.mem_cons_self
      simp [this]
    . rfl
theorem bindC_out {kindOf : Str -> Option NameKind} {x : Str} : ∀ {binds : List (Str × Value)} {m : Str -> Option Value}, (∀ v, (x, v) ∉ binds) -> bindC kindOf binds m x = m x
  | [], _, _ => rfl
  | (n, v) :: r, m, h => by
    unfold bindC
    rw [bindC_out fun w hw => h w (List.mem_cons_of_mem _ hw)]
    split
    . rfl
    . have : x ≠ n := by rintro rfl; exact h v List.mem_cons_self
      simp [this]
theorem bindL_get {kindOf : Str -> Option NameKind} {x : Str} {v : Value} : ∀ {P : List Str} {vs : List Value} {i : Nat} {m : Str -> Option Value}, P.Nodup -> P[i]? = some x -> vs[i]? = some v -> kindOf x = some .local ->
    bindL kindOf (P.zip vs) m x = some v
  | [], _, _, _, _, h, _, _ => by simp at h
  | _ :: _, [], _, _, _, _, h, _ => by simp at h
  | p :: P, w :: vs, 0, m, nd, h1, h2, hk => by
    simp at h1 h2; subst h1; subst h2
    show bindL kindOf ((p, w) :: P.zip vs) m p = _
    unfold bindL
    rw [bindL_out fun v hv => (List.nodup_cons.mp nd).1 (List.of_mem_zip hv).1, if_pos hk]
    simp
  | p :: P, w :: vs, i + 1, m, nd, h1, h2, hk => by
    show bindL kindOf ((p, w) :: P.zip vs) m x = _
    unfold bindL
    exact bindL_get (i := i) (List.nodup_cons.mp nd).2 (by simpa using h1) (by simpa using h2) hk
theorem bindC_get {kindOf : Str -> Option NameKind} {x : Str} {v : Value} : ∀ {P : List Str} {vs : List Value} {i : Nat} {m : Str -> Option Value}, P.Nodup -> P[i]? = some x -> vs[i]? = some v -> kindOf x ≠ some .local ->
    bindC kindOf (P.zip vs) m x = some v
  | [], _, _, _, _, h, _, _ => by simp at h
  | _ :: _, [], _, _, _, _, h, _ => by simp at h
  | p :: P, w :: vs, 0, m, nd, h1, h2, hk => by
    simp at h1 h2; subst h1; subst h2
    show bindC kindOf ((p, w) :: P.zip vs) m p = _
    unfold bindC
    rw [bindC_out fun v hv => (List.nodup_cons.mp nd).1 (List.of_mem_zip hv).1, if_neg hk]
    simp
  | p :: P, w :: vs, i + 1, m, nd, h1, h2, hk => by
    show bindC kindOf ((p, w) :: P.zip vs) m x = _
    unfold bindC
    exact bindC_get (i := i) (List.nodup_cons.mp nd).2 (by simpa using h1) (by simpa using h2) hk
def start (N : List Str) (vs : List V) : St := vs.map some ++ List.replicate (N.length - vs.length) none
def cxOf (CX : CXT) (P : Program) (w : World) (K : PySem.W.Frag) (mg : Str -> Option Value) (base : Heap) (N : List Str) (qual : Str) (scope : Scope) (f : Addr) (cd : Value) (A : Around) (outer : List Env) (s : Shared) (H : Hp) (E : XK) : Cx where
  prog := P
  w := w
  K := K
  mg := mg
  base := base
  A := A.deeper (envOfC qual scope s.heap.objs.size f cd)
  N := N
  s_0 := s
  H_0 := H
  env := envOfC qual scope s.heap.objs.size f cd
  outer := outer
  stack := envOfC qual scope s.heap.objs.size f cd :: outer
  ex := []
  calm := true
  fn := fun _ => true
  pn := []
  xe := fun e s' => wpAny (model P w) (A.deeper (envOfC qual scope s.heap.objs.size f cd)) (leaving (envOfC qual scope s.heap.objs.size f cd) e) (fun _ s'' => CX outer H s E e s'') (fun e' s'' => CX outer H s E e' s'') s'
theorem cell_has {sc : Scope} {n : Nat} {x : Str} (h : sc.names.lookup x = some .cell) : ∃ c, (cellsFrom n sc.names []).lookup x = some c := by
  have q := PySem.W.cellsFrom_some sc.names n [] (.inl h)
  exact Option.isSome_iff_exists.mp q
theorem inv_start {CX : CXT} {P : Program} {w : World} {K : PySem.W.Frag} {mg : Str -> Option Value} {base : Heap} {N ps : List Str} {qual : Str} {scope : Scope} {f : Addr} {cd : Value} {A : Around} {outer : List Env} {s s1 : Shared} {H : Hp} {E : XK} {us : List Value} {vs : List V}
    (S : FnScope N ps scope) (hd : A.handled = none) (e0 : Env0 P w K mg base A outer s H) (hl : vs.length = ps.length) (r : Vals vs us)
    (x : InCallC s s.heap.objs.size (bindL (envOfC qual scope s.heap.objs.size f cd).kindOf (ps.zip us) fun _ => none) (cellsFrom (s.heap.objs.size + 1) scope.names []) (bindC (envOfC qual scope s.heap.objs.size f cd).kindOf (ps.zip us) fun _ => none) s1) :
    Inv (cxOf CX P w K mg base N qual scope f cd A outer s H E) [] (start N vs) H s1 := by
  have hpl : ps.length <= N.length := by have := congrArg List.length S.pre; rw [List.length_take] at this; omega
  obtain ⟨h1, tk, rfl, hk⟩ := x.done
  have noA : ∀ b : Addr, b ∉ (cxOf CX P w K mg base N qual scope f cd A outer s H E).ex := fun b z => absurd (show b ∈ ([] : List Addr) from z) (by simp)
  refine ⟨⟨e0.mod, S.kind, rfl, rfl, Nat.le_refl _, fun y z c h1 h2 => ?_, fun y hy => ?_, fun y c _ h => ?_, fun _ => hd, Around.frames_deeper e0.frames, .inr ⟨rfl, rfl⟩, fun b z => absurd z (noA b), e0.bs, e0.bsz, fun b _ _ => noA b, fun b z => absurd z (noA b), e0.funs, e0.frf⟩,
    rfl, e0.bare, Un.kept hk, ⟨_, x.toInCall.ns, fun i y v h1 h2 h3 => ?_⟩, fun y c h => ⟨_, x.cell y c h⟩, e0.hok.fresh (Nat.le_refl _), fun y c h => ?_, fun p hp => absurd (show p ∈ ([] : List (Addr × Obj)) from hp) (by simp), e0.hok.kept hk, ?_⟩
  . exact name_of_addr x.apart (PySem.mem_of_lookup h1) (PySem.mem_of_lookup h2)
  . have hy : scope.names.lookup y = some .cell \/ scope.names.lookup y = some .free := hy
    rcases hy with hy | hy
    . exact cell_has hy
    . exact absurd rfl (S.nofree _ (PySem.mem_of_lookup hy))
  . exact Nat.le_of_lt (x.above y c (PySem.mem_of_lookup h))
  . have hi : i < vs.length := by
      unfold start at h2
      by_cases hi : i < vs.length
      . exact hi
      . rw [List.getElem?_append_right (by simpa using hi)] at h2
        rw [List.getElem?_replicate] at h2
        split at h2 <;> cases h2
    have ha : vs[i]? = some v := by
      unfold start at h2
      rw [List.getElem?_append_left (by simpa using hi), List.getElem?_map] at h2
      cases e : vs[i]? with
      | none => rw [e] at h2; cases h2
      | some a => rw [e] at h2; cases h2; rfl
    obtain ⟨u, hu, rv⟩ := r.get ha
    have hp : ps[i]? = some y := by
      rw [<- S.pre, List.getElem?_take_of_lt (by omega)]; exact h1
    have ndP : ps.Nodup := by rw [<- S.pre]; exact S.nd.sublist (List.take_sublist _ _)
    refine ⟨u, rv, ?_⟩
    rcases S.par y (List.mem_of_getElem? hp) with k | k
    . exact .inl ⟨k, bindL_get ndP hp hu k⟩
    . obtain ⟨c, e⟩ := cell_has (n := s.heap.objs.size + 1) k
      refine .inr ⟨.inl k, c, e, ?_⟩
      have q := x.cell y c e
      rw [bindC_get ndP hp hu (by show scope.names.lookup y ≠ _; rw [k]; decide)] at q
      exact q
  . exact e0.hok.fresh (Nat.le_of_lt (x.above y c (PySem.mem_of_lookup h)))
  . unfold start
    show _ = N.length
    rw [List.length_append, List.length_map, List.length_replicate]
    omega
theorem fn_of {CX : CXT} {P : Program} {w : World} {K : PySem.W.Frag} {mg : Str -> Option Value} {base : Heap} {k : Nat} {f : Addr} {name qual : Str} {params : Arguments} {body : List Stmt} {scope : Scope} {dV kV doc pm cdv ct oc : Value} {an od : Option Addr}
    {osl : Array (Option Value)} {N ps : List Str} {sp : Sp} (lk : K.lookup f = some ⟨oc, od, .func (PySem.W.fnOf name qual params body scope dV kV doc pm an cdv ct), osl⟩) (hcd : PySem.W.codeIn K cdv qual = true) (S : FnScope N ps scope)
    (len : ∀ vs H Q E, sp vs H Q E -> vs.length = ps.length)
    (hbody : ∀ (A : Around) (outer : List Env) (s : Shared) (H : Hp) (vs : List V) (Q : VK) (E : XK), Room k (A.deeper (envOfC qual scope s.heap.objs.size f cdv)) -> sp vs H Q E ->
      ∃ t, PSs (cxOf CX P w K mg base N qual scope f cdv A outer s H E) body t /\ t { nx := fun _ H' => Q .non H', rt := Q } (start N vs) H) :
    FnOk P w K mg base CX (k + 1) f (PySem.W.fnOf name qual params body scope dV kV doc pm an cdv ct) ps sp := by
  refine ⟨len, fun A outer s H args us vs Q E hr e0 hb r hsp => ?_⟩
  have hl := len _ _ _ _ hsp
  have KX : K.In s.heap := e0.mod.kin.keeps fun b o e => (e0.bs b o e).1
  have lim : s.heap.NoLimit := e0.mod.nolimit.keeps fun b o e => (e0.bs b o e).1
  have hkind : ∀ y ∈ ps.zip us, scope.names.lookup y.1 = some .local \/ (scope.names.lookup y.1 = some .cell /\ ((cellsFrom (s.heap.objs.size + 1) scope.names []).lookup y.1).isSome = true) := fun ⟨n, v⟩ hy => by
    rcases S.par n (List.of_mem_zip hy).1 with q | q
    . exact .inl q
    . exact .inr ⟨q, PySem.W.cellsFrom_some _ _ _ (.inl q)⟩
  refine codeAny_call_function hr.depth (KX _ _ lk) rfl S.co S.gen rfl (PySem.W.codeRec_of KX hcd) (hb _ _ _ _ ?_)
  refine wpAny_newFunctionEnv_cells S.kind hkind fun env he s1 x => ?_
  subst he
  refine ⟨lim.keeps x.toInCall.keep, codeAny_func ?_⟩
  obtain ⟨t, ht, hq⟩ := hbody A outer s H vs Q E (hr.deeper _) hsp
  have I : Inv (cxOf CX P w K mg base N qual scope f cdv A outer s H E) [] (start N vs) H s1 := inv_start S hr.hd e0 hl r x
  refine wpAny_mono (ht [] s1 (start N vs) H _ I hq) (fun fl s' hs => ?_) fun e s' hs => hs
  have fin : ∀ {σ' : St} {H' : Hp} {v : V} {u : Value}, Inv (cxOf CX P w K mg base N qual scope f cdv A outer s H E) [] σ' H' s' -> RelV v u -> Q v H' -> CE outer P w H s Q u s' :=
    fun {σ' H' v u} J rv q => ⟨v, H', J.os, J.bare, J.base, J.hok, rv, q⟩
  cases fl with
  | ret u =>
    obtain ⟨v, σ', H', J, rv, q⟩ := hs
    exact fin J rv q
  | next =>
    obtain ⟨σ', H', J, q⟩ := hs
    exact fin (v := V.non) (u := Value.none) J rfl q
  | brk =>
    obtain ⟨_, _, _, q⟩ := hs
    exact False.elim q
  | cont =>
    obtain ⟨_, _, _, q⟩ := hs
    exact False.elim q
section
variable {X : Cx} {x : Str} {p pos : Pos} {e : Expr} {es : List Expr} {t : TA} {id T : String} {r : List V -> Hp -> VK -> Prop}
def tCB (r : List V -> Hp -> VK -> Prop) (t : TA) : TE := fun σ H Q => t σ H fun vs H1 => r vs H1 Q
theorem pe_callB (hc : CallR X (.builtin id) r) (hg : Gl X x) (hm : X.mg x = none) (hv : bootBuiltins x = some (.builtin id)) (ha : PA X (e :: es) t) (hn : x ≠ "__name__" := by decide) (hdb : (x == ("__debug__" : Str)) = false := by decide)
    (he : starEach (e :: es) X.env = (false, eval e X.env) :: starEach es X.env := by rfl) (hpl : (backTo pos (starEach es X.env)).any (·.1) = false := by rfl) : PE X (.Call (.Name x p) (e :: es) [] pos) (tCB r t) := by
  intro pins s σ H Q I h
  refine wpAny_Call_Name_kw (ld_blt I hg hm hv ?_ hn hdb)
  exact PyProof.Rows.callWith_builtin1 (thn (ha pos pins s σ H _ I h) fun us s1 ⟨vs, H1, I1, r1, q1⟩ => hc pins s1 σ H1 vs us Q I1 r1 q1) he hpl
end
end L2
namespace HT
open PySem PyProof.Rows
section
open PySem.SeqAt
open PySem.AutoSeq1 (wpAny_loadPart')
open PySem.MeetsSeq PySem.MeetsSeq2 PySem.MeetsSeq3
end
section
variable {prog : Program} {w : World} {A : Around} {E : Value -> Shared -> Prop} {s : Shared}
def sIx (n d : Nat) : Option Int -> Nat
  | none => d
  | some v => if v < 0 then (v + (n : Int)).toNat else min v.toNat n
theorem sIx_none (n d : Nat) : sIx n d none = d := rfl
theorem sIx_nat (n d k : Nat) : sIx n d (some (k : Int)) = min k n := by
  show (if (k : Int) < 0 then ((k : Int) + (n : Int)).toNat else min (k : Int).toNat n) = min k n
  rw [if_neg (by omega), Int.toNat_natCast]
end
end HT
namespace L2
open PySem PySem.Spec PyProof.Rows
abbrev TO := St -> Hp -> (Option Int -> Hp -> Prop) -> Prop
def PO (X : Cx) (e : Option Expr) (t : TO) : Prop :=
  ∀ (pins : List (Addr × Obj)) (s : Shared) (σ : St) (H : Hp) (Q : Option Int -> Hp -> Prop), Inv X pins σ H s -> t σ H Q ->
    wpAny (model X.prog X.w) X.A (evalPart e X.env) (fun u s' => ∃ o H', Inv X pins σ H' s' /\ IsPart u o /\ Q o H') X.xe s
def tNoPart : TO := fun _ H Q => Q none H
def tPart (t : TE) : TO := fun σ H Q => t σ H fun x H1 => ∃ i, x = .int i /\ Q (some i) H1
section
variable {X : Cx} {e : Expr} {te : TE} {lo hi : Option Expr} {tl th : TO} {pos p2 : Pos}
theorem po_none : PO X none tNoPart := by
  intro pins s σ H Q I h
  rw [evalPart_none]
  exact wpAny_pure ⟨none, H, I, .none, h⟩
theorem po_some (h : PE X e te) : PO X (some e) (tPart te) := by
  intro pins s σ H Q I hw
  rw [evalPart_some]
  refine thn (h pins s σ H _ I hw) fun u s1 ⟨x, H1, I1, r1, q1⟩ => ?_
  obtain ⟨i, rfl, q⟩ := q1
  obtain ⟨t, rfl⟩ := r1
  exact ⟨some i, H1, I1, .int i t, q⟩
def SlR (X : Cx) (r : V -> Option Int -> Option Int -> Hp -> VK -> Prop) : Prop :=
  ∀ (pins : List (Addr × Obj)) (s : Shared) (σ : St) (H : Hp) (x : V) (v vl vu : Value) (lo hi : Option Int) (sl : Addr) (Q : VK), Inv X pins σ H s -> RelV x v -> s.heap.IsSliceOf sl vl vu .none -> IsPart vl lo -> IsPart vu hi -> r x lo hi H Q ->
    ∃ T id, typeLookup (.type T) "__getitem__" = pure (some (.builtin id)) /\ s.TypeIs v T /\ wpAny (model X.prog X.w) X.A (getItem v (.ref sl)) (EP X pins σ Q) X.xe s
def tSl (r : V -> Option Int -> Option Int -> Hp -> VK -> Prop) (te : TE) (tl th : TO) : TE := fun σ H Q => te σ H fun x H1 => tl σ H1 fun l H2 => th σ H2 fun u H3 => r x l u H3 Q
theorem pe_slice {r : V -> Option Int -> Option Int -> Hp -> VK -> Prop} (hr : SlR X r) (he : PE X e te) (hl : PO X lo tl) (hu : PO X hi th) : PE X (.Subscript e (.Slice lo hi none p2) pos) (tSl r te tl th) := by
  intro pins s σ H Q I h
  refine Subscript_ (thn (he pins s σ H _ I h) fun v s1 ⟨x, H1, I1, r1, q1⟩ => ?_)
  refine wpAny_Slice (thn (hl pins s1 σ H1 _ I1 q1) fun vl s2 ⟨l, H2, I2, pl, q2⟩ => thn (hu pins s2 σ H2 _ I2 q2) fun vu s3 ⟨u, H3, I3, pu, q3⟩ => ?_)
  rw [evalPart_none]
  refine wpAny_pure ?_
  have I4 : Inv X pins σ H3 { s3 with heap := s3.heap.push { cls := .type "slice", data := .fields #[vl, vu, .none] } } := I3.kept (t' := s3.toks) fun b ob q => Heap.get?_push_of_some _ q
  obtain ⟨T, id, hT, ht, hg⟩ := hr pins { s3 with heap := s3.heap.push { cls := .type "slice", data := .fields #[vl, vu, .none] } } σ H3 x v vl vu l u s3.heap.objs.size Q I4 r1 (Heap.IsSliceOf.new ..) pl pu q3
  show wpAny (model X.prog X.w) X.A (subscriptTail e (.Slice lo hi none p2) v (.ref s3.heap.objs.size)) (EP X pins σ Q) X.xe { s3 with heap := s3.heap.push { cls := .type "slice", data := .fields #[vl, vu, .none] } }
  exact tail_any (ops := [.ref s3.heap.objs.size, v]) ht hT hg (by with_unfolding_all rfl)
def cutV (xs : List V) (lo hi : Option Int) : List V := (xs.drop (HT.sIx xs.length 0 lo)).take (HT.sIx xs.length xs.length hi - HT.sIx xs.length 0 lo)
theorem cutV_length (xs : List V) (lo hi : Option Int) : (cutV xs lo hi).length <= xs.length := by
  unfold cutV
  rw [List.length_take, List.length_drop]
  omega
end
def ixN (n : Nat) (i : Int) : Option Nat := if 0 <= i then (if i < n then some i.toNat else none) else if -(n : Int) <= i then some (i + n).toNat else none
def atI {α : Type} (xs : List α) (i : Int) : Option α := (ixN xs.length i).bind fun j => xs[j]?
theorem ixN_seq {n : Nat} {i : Int} {j : Nat} (h : ixN n i = some j) : seqIndex? i n = some j /\ j < n /\ -(n : Int) <= i /\ i < n := by
  unfold ixN at h
  by_cases h0 : 0 <= i
  . rw [if_pos h0] at h
    by_cases h1 : i < n
    . rw [if_pos h1] at h
      have e : i.toNat = j := Option.some.inj h
      exact ⟨by rw [seqIndex_of h0 h1, e], by omega, by omega, h1⟩
    . rw [if_neg h1] at h; cases h
  . rw [if_neg h0] at h
    by_cases h1 : -(n : Int) <= i
    . rw [if_pos h1] at h
      have e : (i + n).toNat = j := Option.some.inj h
      exact ⟨by rw [seqIndex_neg (by omega) h1, e], by omega, h1, by omega⟩
    . rw [if_neg h1] at h; cases h
theorem atI_get {α : Type} {xs : List α} {i : Int} {v : α} (h : atI xs i = some v) : ∃ j, seqIndex? i xs.length = some j /\ xs[j]? = some v /\ j < xs.length /\ -(xs.length : Int) <= i /\ i < xs.length := by
  unfold atI at h
  cases e : ixN xs.length i with
  | none => rw [e] at h; cases h
  | some j =>
    rw [e] at h
    obtain ⟨h1, h2, h3, h4⟩ := ixN_seq e
    exact ⟨j, h1, h, h2, h3, h4⟩
theorem atI_nat {α : Type} {xs : List α} {j : Nat} {v : α} (h : xs[j]? = some v) : atI xs (j : Int) = some v := by
  have hj : j < xs.length := (List.getElem?_eq_some_iff.mp h).1
  have e : ixN xs.length (j : Int) = some j := by
    unfold ixN
    rw [if_pos (by omega), if_pos (by omega)]; simp
  unfold atI; rw [e]; exact h
def PlainIx (b : Expr) : Prop := ∀ o i, subscripted b false o i = operate [o, i] (getItem o i)
def IxR (X : Cx) (r : R2) : Prop :=
  ∀ (value slice : Expr) (pins : List (Addr × Obj)) (s : Shared) (σ : St) (H : Hp) (x y : V) (v u : Value) (Q : VK), Inv X pins σ H s -> RelV x v -> RelV y u -> r x y H Q ->
    subscripted slice false v u = operate [v, u] (getItem v u) -> wpAny (model X.prog X.w) X.A (subscriptTail value slice v u) (EP X pins σ Q) X.xe s
def MtR (X : Cx) (id : String) (r : V -> List V -> Hp -> VK -> Prop) : Prop :=
  ∀ (pins : List (Addr × Obj)) (s : Shared) (σ : St) (H : Hp) (x : V) (xs : List V) (v : Value) (us : List Value) (Q : VK), Inv X pins σ H s -> RelV x v -> Vals xs us -> r x xs H Q ->
    wpAny (model X.prog X.w) X.A (call (.builtin id) (v :: us)) (EP X pins σ Q) X.xe s
section
variable {X : Cx} {a b : Expr} {ta tb : TE} {pos : Pos}
theorem pe_ix {r : R2} (hr : IxR X r) (ha : PE X a ta) (hb : PE X b tb) (hs : PlainIx b) : PE X (.Subscript a b pos) (tOp r ta tb) := by
  intro pins s σ H Q I h
  exact Subscript_ (binT ha hb I h fun v u s2 x y H2 I2 rx ry q => hr a b pins s2 σ H2 x y v u Q I2 rx ry q (hs _ _))
def rIxL (K : PySem.W.Frag) : R2 := fun x y H Q => ∃ p xs i v, x = .ref p /\ y = .int i /\ SqL K H p xs /\ atI xs i = some v /\ Q v H
def rIxT (K : PySem.W.Frag) : R2 := fun x y H Q => ∃ p xs i v, x = .ref p /\ y = .int i /\ SqT K H p xs /\ atI xs i = some v /\ Q v H
theorem ix_list : IxR X (rIxL X.K) := by
  intro value slice pins s σ H x y v u Q I rx ry h hs
  obtain ⟨p, xs, i, z, rfl, rfl, hq, he, q⟩ := h
  cases rx
  obtain ⟨t, rfl⟩ := ry
  obtain ⟨its, r, pl, hz⟩ := I.list hq
  obtain ⟨j, h1, h2, h3, h4, h5⟩ := atI_get he
  obtain ⟨w, ew, rw'⟩ := r.get h2
  have hl := r.length
  have hn := line63
  have fin : EP X pins σ Q w s := ⟨z, H, I, rw', q⟩
  by_cases h0 : 0 <= i
  . have hj : i.toNat = j := by
      rw [seqIndex_of h0 h5] at h1
      exact Option.some.inj h1
    exact item_listR pl.isList h0 (by omega) (by rw [hj]; simpa using ew) fin hs
  . have hj : (i + (its.toArray.size : Int)).toNat = j := by
      rw [seqIndex_neg (by omega) h4] at h1
      rw [List.size_toArray, <- hl]
      exact Option.some.inj h1
    exact subscriptTail_builtinR (x := w) pl.isList.typeIs slot_list_getitem.lookup
      (wpAny_getItem_list_neg (Q := fun r s' => r = w /\ EP X pins σ Q r s') pl.isList (by omega) (by rw [List.size_toArray] <;> omega) (by omega) (by rw [hj]; simpa using ew) ⟨rfl, fin⟩) hs
theorem ix_tup : IxR X (rIxT X.K) := by
  intro value slice pins s σ H x y v u Q I rx ry h hs
  obtain ⟨p, xs, i, z, rfl, rfl, hq, he, q⟩ := h
  cases rx
  obtain ⟨t, rfl⟩ := ry
  obtain ⟨its, r, pl, hz⟩ := I.tuple hq
  obtain ⟨j, h1, h2, h3, h4, h5⟩ := atI_get he
  obtain ⟨w, ew, rw'⟩ := r.get h2
  have hl := r.length
  have hn := line63
  have fin : EP X pins σ Q w s := ⟨z, H, I, rw', q⟩
  exact subscriptTail_builtinR (x := w) pl.typeIs slot_tuple_getitem.lookup
    (getItem_tuple (j := j) (Q := fun r s' => r = w /\ EP X pins σ Q r s') pl (by omega) (by omega) (by rw [List.size_toArray, <- hl]; exact h1) (by simpa using ew) ⟨rfl, fin⟩) hs
theorem slice_bounds (lo hi : Option Int) (n : Nat) : (sliceBounds lo hi none n).1 = ((HT.sIx n 0 lo : Nat) : Int) /\ (sliceBounds lo hi none n).2.1 = ((HT.sIx n n hi : Nat) : Int) /\ (sliceBounds lo hi none n).2.2 = 1 := by
  refine ⟨?_, ?_, rfl⟩
  . cases lo with
    | none => simp [sliceBounds, HT.sIx]
    | some i =>
      simp only [sliceBounds, HT.sIx, Option.getD_none, show (1 : Int) > 0 by decide, if_true]
      by_cases h : i < 0
      . simp only [h, if_true] <;> omega
      . simp only [h, if_false] <;> omega
  . cases hi with
    | none => simp [sliceBounds, HT.sIx]
    | some i =>
      simp only [sliceBounds, HT.sIx, Option.getD_none, show (1 : Int) > 0 by decide, if_true]
      by_cases h : i < 0
      . simp only [h, if_true] <;> omega
      . simp only [h, if_false] <;> omega
theorem slicePick_cut (its : List Value) (lo hi : Option Int) : slicePick its.toArray lo hi none = ((its.drop (HT.sIx its.length 0 lo)).take (HT.sIx its.length its.length hi - HT.sIx its.length 0 lo)).toArray := by
  obtain ⟨h1, h2, h3⟩ := slice_bounds lo hi its.toArray.size
  unfold slicePick
  rw [h1, h2, h3]
  simp only [sliceRange_one, pick_run, List.size_toArray] <;> rfl
def rSlL (K : PySem.W.Frag) : V -> Option Int -> Option Int -> Hp -> VK -> Prop := fun x lo hi H Q => ∃ a xs, x = .ref a /\ SqL K H a xs /\ ∀ p, H p = none -> Q (.ref p) (upd H p (.lst (cutV xs lo hi)))
theorem sl_list : SlR X (rSlL X.K) := by
  intro pins s σ H x v vl vu lo hi sl Q I rx hs pl pu h
  obtain ⟨a, xs, rfl, hx, q⟩ := h
  cases rx
  obtain ⟨its, r, ht, hz⟩ := I.list hx
  have hlen := r.length
  refine ⟨"list", _, slot_list_getitem.lookup, ht.isList.typeIs, ?_⟩
  refine wpAny_getItem_list_slice ht.isList hs pl pu .none (by simp) ?_ (by rw [List.size_toArray] <;> omega)
  rw [slicePick_cut, <- hlen]
  refine ⟨.ref s.heap.objs.size, _, I.laid (t' := s.toks) (o := .lst (cutV xs lo hi)) (fun b ob q => Heap.get?_push_of_some _ q) (Nat.le_refl _) ?_, rfl, q _ (I.hok.fresh (Nat.le_refl _))⟩
  exact ⟨Nat.le_trans (cutV_length xs lo hi) hz, _, 0, (r.drop (HT.sIx xs.length 0 lo)).take (HT.sIx xs.length xs.length hi - HT.sIx xs.length 0 lo), Heap.get?_push_size _ rfl⟩
def flatV : V -> Bool
  | .non => true
  | .bl _ => true
  | .int _ => true
  | .str _ => true
  | _ => false
def eqV : V -> V -> Bool
  | .non, .non => true
  | .bl a, .bl b => a == b
  | .bl a, .int b => (if a then 1 else 0) == b
  | .int a, .bl b => a == (if b then 1 else 0)
  | .int a, .int b => a == b
  | .str a, .str b => a == b
  | _, _ => false
theorem eqAt_V {A : Around} {s : Shared} {y x : V} {u v : Value} (ry : RelV y u) (rx : RelV x v) (fy : flatV y = true) (fx : flatV x = true) : SeqAt.EqAt A s u v (eqV y x) := by
  cases y with
  | non =>
    cases ry
    cases x with
    | non => cases rx; exact SeqAt.EqAt.same _
    | bl b => cases rx; exact SeqAt.EqAt.none_bool b
    | int b => obtain ⟨t, rfl⟩ := rx; exact SeqAt.EqAt.none_int b t
    | str b => obtain ⟨t, rfl⟩ := rx; exact SeqAt.EqAt.none_str b t
    | _ => exact absurd (show false = true from fx) Bool.false_ne_true
  | bl a =>
    cases ry
    cases x with
    | non => cases rx; exact SeqAt.EqAt.bool_none a
    | bl b => cases rx; exact SeqAt.EqAt.bool_bool a b
    | int b => obtain ⟨t, rfl⟩ := rx; exact SeqAt.EqAt.bool_int a b t
    | str b => obtain ⟨t, rfl⟩ := rx; exact SeqAt.EqAt.bool_str a b t
    | _ => exact absurd (show false = true from fx) Bool.false_ne_true
  | int a =>
    obtain ⟨t', rfl⟩ := ry
    cases x with
    | non => cases rx; exact SeqAt.EqAt.int_none a t'
    | bl b => cases rx; exact SeqAt.EqAt.int_bool a t' b
    | int b => obtain ⟨t, rfl⟩ := rx; exact SeqAt.EqAt.int_int a t' b t
    | str b => obtain ⟨t, rfl⟩ := rx; exact SeqAt.EqAt.int_str a t' b t
    | _ => exact absurd (show false = true from fx) Bool.false_ne_true
  | str a =>
    obtain ⟨t', rfl⟩ := ry
    cases x with
    | non => cases rx; exact SeqAt.EqAt.str_none a t'
    | bl b => cases rx; exact SeqAt.EqAt.str_bool a t' b
    | int b => obtain ⟨t, rfl⟩ := rx; exact SeqAt.EqAt.str_int a t' b t
    | str b => obtain ⟨t, rfl⟩ := rx; exact SeqAt.EqAt.str_str a t' b t
    | _ => exact absurd (show false = true from fx) Bool.false_ne_true
  | _ => exact absurd (show false = true from fy) Bool.false_ne_true
def eqU (x : V) (u : Value) : Bool := match u with
  | .none => eqV .non x
  | .bool b => eqV (.bl b) x
  | .int i _ => eqV (.int i) x
  | .str z _ => eqV (.str z) x
  | _ => false
theorem eqU_of {x y : V} {u : Value} (r : RelV y u) (f : flatV y = true) : eqU x u = eqV y x := by
  cases y with
  | non => cases r; rfl
  | bl b => cases r; rfl
  | int i => obtain ⟨t, rfl⟩ := r; rfl
  | str z => obtain ⟨t, rfl⟩ := r; rfl
  | _ => exact absurd (show false = true from f) Bool.false_ne_true
theorem any_eqU {x : V} : ∀ {xs : List V} {us : List Value}, Vals xs us -> xs.all flatV = true -> us.any (eqU x) = xs.any fun y => eqV y x
  | _, _, .nil, _ => rfl
  | y :: xs, u :: us, .cons r t, f => by
    rw [List.all_cons, Bool.and_eq_true] at f
    rw [List.any_cons, List.any_cons, eqU_of r f.1, any_eqU t f.2]
theorem mem_eqAt {A : Around} {s : Shared} {x : V} {v : Value} (rx : RelV x v) (fx : flatV x = true) : ∀ {xs : List V} {us : List Value}, Vals xs us -> xs.all flatV = true -> ∀ u ∈ us, SeqAt.EqAt A s u v (eqU x u)
  | _, _, .nil, _ => fun u hu => by cases hu
  | y :: xs, u :: us, .cons r t, f => fun u' hu => by
    rw [List.all_cons, Bool.and_eq_true] at f
    rcases List.mem_cons.mp hu with rfl | hu
    . rw [eqU_of r f.1]; exact eqAt_V r rx f.1 fx
    . exact mem_eqAt rx fx t f.2 u' hu
def inV (x : V) (xs : List V) : Bool := xs.any fun y => eqV y x
def rIn (K : PySem.W.Frag) (neg : Bool) : R2 := fun x y H Q => ∃ p xs, y = .ref p /\ (SqL K H p xs \/ SqT K H p xs) /\ flatV x = true /\ xs.all flatV = true /\ Q (.bl (if neg then !inV x xs else inV x xs)) H
theorem op_in_seq : OpR X (compareOp .In) (rIn X.K false) := by
  intro pins s σ H x y v u Q I rx ry h
  obtain ⟨p, xs, rfl, hq, fx, fs, q⟩ := h
  cases ry
  rcases hq with hq | hq
  . obtain ⟨its, r, pl, hz⟩ := I.list hq
    refine SeqAt.in_listAt (eqU x) pl.isList (fun w hw => mem_eqAt rx fx r fs w (by simpa using hw)) ⟨.bl _, H, I, rfl, ?_⟩
    rw [show its.toArray.any (eqU x) = its.any (eqU x) by simp, any_eqU r fs]
    exact q
  . obtain ⟨its, r, pl, hz⟩ := I.tuple hq
    refine SeqAt.in_tupleAt (eqU x) pl (fun w hw => mem_eqAt rx fx r fs w (by simpa using hw)) ⟨.bl _, H, I, rfl, ?_⟩
    rw [show its.toArray.any (eqU x) = its.any (eqU x) by simp, any_eqU r fs]
    exact q
theorem call_len_seq : CallR X (.builtin "len") (fun xs H Q => ∃ p ys, xs = [.ref p] /\ (SqL X.K H p ys \/ SqT X.K H p ys) /\ Q (.int ys.length) H) := by
  intro pins s σ H xs us Q I r h
  obtain ⟨p, ys, rfl, hq, q⟩ := h
  obtain ⟨u, rfl, rx⟩ := vals1 r
  cases rx
  have hn := line63
  rcases hq with hq | hq
  . obtain ⟨its, r', pl, hz⟩ := I.list hq
    have hlen := r'.length
    exact Calls.call_len_list pl.isList (by simp only [List.size_toArray] <;> omega) ⟨.int ys.length, H, I.tok _, ⟨s.toks + 1, by rw [List.size_toArray, hlen]⟩, q⟩
  . obtain ⟨its, r', pl, hz⟩ := I.tuple hq
    have hlen := r'.length
    exact len_tuple pl (by simp only [List.size_toArray] <;> omega) ⟨.int ys.length, H, I.tok _, ⟨s.toks + 1, by rw [List.size_toArray, hlen]⟩, q⟩
def tyV (K : PySem.W.Frag) (T : String) (x : V) (H : Hp) : Prop := match x with
  | .str _ => T = "str"
  | .int _ => T = "int"
  | .ref p => (T = "list" /\ ∃ xs, SqL K H p xs) \/ (T = "tuple" /\ ∃ o, K.lookup p = some o /\ o.cls = .type "tuple" /\ o.dict = none) \/
      (T = "dict" /\ ((∃ kvs, H p = some (.dK kvs)) \/ ∃ kvs, H p = some (.dT kvs))) \/ (T = "set" /\ ∃ S n, H p = some (.set S n))
  | _ => False
theorem tyV_is {pins : List (Addr × Obj)} {σ : St} {H : Hp} {s : Shared} {T : String} {x : V} {v : Value} (I : Inv X pins σ H s) (r : RelV x v) (ty : tyV X.K T x H) :
    s.TypeIs v T /\ ∀ a, v = .ref a -> ∃ ob, s.heap.get? a = some ob /\ ob.dict = none := by
  cases x with
  | str z =>
    obtain ⟨t, rfl⟩ := r
    cases (show T = "str" from ty)
    exact ⟨typeIs_str s z t, fun _ e => nomatch e⟩
  | int i =>
    obtain ⟨t, rfl⟩ := r
    cases (show T = "int" from ty)
    exact ⟨typeIs_int s i t, fun _ e => nomatch e⟩
  | ref p =>
    cases r
    rcases ty with ⟨rfl, xs, hq⟩ | ⟨rfl, o, hk, hc, hd⟩ | ⟨rfl, hk⟩ | ⟨rfl, S, n, hk⟩
    . obtain ⟨its, _, pl, _⟩ := I.list hq
      refine ⟨pl.isList.typeIs, fun a e => ?_⟩
      cases e
      obtain ⟨o, n, e, c, hd, _⟩ := pl
      exact ⟨o, e, hd⟩
    . refine ⟨⟨o, I.kIn p o hk, hc⟩, fun a e => ?_⟩
      cases e
      exact ⟨o, I.kIn _ o hk, hd⟩
    . have z : ∃ o, s.heap.get? p = some o /\ o.ExactDict := by
        rcases hk with ⟨kvs, hk⟩ | ⟨kvs, hk⟩
        . obtain ⟨_, _, _, _, o, _, _, e, ex, _⟩ := I.hok p _ hk
          exact ⟨o, e, ex⟩
        . obtain ⟨_, _, _, _, o, _, _, e, ex, _⟩ := I.hok p _ hk
          exact ⟨o, e, ex⟩
      obtain ⟨o, e, ex⟩ := z
      refine ⟨⟨o, e, ex.1⟩, fun a e2 => ?_⟩
      cases e2
      exact ⟨o, e, ex.2.1⟩
    . obtain ⟨o, _, _, _, e, ex, _⟩ := I.hok p _ hk
      refine ⟨⟨o, e, ex.1⟩, fun a e2 => ?_⟩
      cases e2
      exact ⟨o, e, ex.2.1⟩
  | _ => exact False.elim ty
def tBM (K : PySem.W.Frag) (T : String) (r : V -> List V -> Hp -> VK -> Prop) (to : TE) (t : TA) : TE := fun σ H Q => to σ H fun x H1 => tyV K T x H1 /\ t σ H1 fun xs H2 => r x xs H2 Q
variable {o e : Expr} {es : List Expr} {to : TE} {t : TA} {name : Str} {apos cpos : Pos} {T id : String} {r : V -> List V -> Hp -> VK -> Prop}
theorem pe_bm (pa : PlainAttrs T) (slot : Slot T name id) (hty : typeOf (.builtin id) = pure (.type "method_descriptor")) (hm : MtR X id r) (ho : PE X o to) (ha : PA X (e :: es) t)
    (hbase : attributeBase o name X.env (eval o X.env) = eval o X.env := by rfl)
    (hfew : ((backTo cpos (starEach (e :: es) X.env)).all (fun x => !x.1) && (backToKw cpos (keywordEach [] X.env)).all (fun x => x.1.isSome)
      && decide ((e :: es).length + ([] : List Keyword).length + (if ([] : List Keyword).isEmpty then 0 else 1) < 30)) = true := by rfl)
    (hline : (apos.endLine == cpos.line) = true := by rfl) (hs : starEach (e :: es) X.env = (false, eval e X.env) :: starEach es X.env := by rfl) (hplain : (backTo cpos (starEach es X.env)).any (·.1) = false := by rfl) :
    PE X (.Call (.Attribute o name apos) (e :: es) [] cpos) (tBM X.K T r to t) := by
  intro pins s σ H Q I h
  refine wpAny_Call_method_late hbase hfew hline rfl (thn (ho pins s σ H _ I h) fun v s1 ⟨x, H1, I1, r1, ty, q1⟩ => ?_)
  obtain ⟨h1, h2⟩ := tyV_is I1 r1 ty
  refine ⟨T, id, pa, slot, hty, h1, h2, ?_⟩
  have hA := ha cpos pins s1 σ H1 _ I1 q1
  rw [hs] at hA ⊢
  refine Calls.callWith_builtin (by show (false || (backTo cpos (starEach es X.env)).any (·.1)) = false; rw [hplain] <;> rfl) (Calls.evalArgs_plain ?_)
  exact thn hA fun us s2 ⟨vs, H2, I2, r2, q2⟩ => hm pins s2 σ H2 x vs v us Q I2 r1 r2 q2
end
def MtM (X : Cx) (id : String) (r : V -> List V -> Hp -> VK -> Prop) : Prop :=
  ∀ (pins : List (Addr × Obj)) (s : Shared) (σ : St) (H : Hp) (x : V) (xs : List V) (v : Value) (us : List Value) (Q : VK), Inv X pins σ H s -> RelV x v -> Vals xs us -> r x xs H Q ->
    wpAny (model X.prog X.w) X.A (call (.builtin id) (v :: us)) (EP X pins σ Q) X.xe s
theorem Vals.one : ∀ {x : V} {us : List Value}, Vals [x] us -> ∃ u, us = [u] /\ RelV x u
  | _, _, .cons r .nil => ⟨_, rfl, r⟩
theorem Vals.rep {xs : List V} {us : List Value} (h : Vals xs us) : ∀ k : Nat, Vals (List.replicate k xs).flatten (List.replicate k us).flatten
  | 0 => .nil
  | k + 1 => by
    rw [List.replicate_succ, List.replicate_succ, List.flatten_cons, List.flatten_cons]
    exact Vals.append h (Vals.rep h k)
theorem foldl_rep (its : List Value) : ∀ (k : Nat) (acc : List Value),
    List.foldl (fun x1 x2 => x1 ++ x2) acc.toArray (List.replicate k its.toArray) = (acc ++ (List.replicate k its).flatten).toArray
  | 0, acc => by simp
  | k + 1, acc => by
    have e : acc.toArray ++ its.toArray = (acc ++ its).toArray := by simp
    have e2 : (acc ++ its) ++ (List.replicate k its).flatten = acc ++ (List.replicate (k + 1) its).flatten := by
      rw [List.replicate_succ, List.flatten_cons, List.append_assoc]
    rw [<- e2, <- foldl_rep its k (acc ++ its), <- e, List.replicate_succ, List.foldl_cons]
section
variable {X : Cx} {pins : List (Addr × Obj)} {σ : St} {H : Hp} {s : Shared} {l b : Addr} {xs ys zs : List V}
theorem Inv.lset {its its' : List Value} {n : Nat} {f : Array Value -> Array Value} {t' : Nat} (I : Inv X pins σ H s) (hH : H l = some (.lst xs))
    (e : s.heap.get? l = some { cls := .type "list", data := .seq its.toArray n }) (hf : f its.toArray = its'.toArray) (hv : Vals ys its') (hz : ys.length <= sizeLine) :
    Inv X pins σ (upd H l (.lst ys)) { s with heap := s.heap.update l (Obj.mapSeq f), toks := t' } := by
  have q := PySem.IsL.update e f
  rw [hf] at q
  refine I.write (x := l) (e := l) (by rw [hH]; exact trivial) (.inl rfl) (fun b' u hb hu => (Heap.get?_update_other s.heap (Obj.mapSeq f) (Ne.symm hb)).trans hu) ⟨_, q⟩ ?_
  exact ⟨hz, its', _, hv, q⟩
theorem Inv.lnew {its : List Value} {t' : Nat} (I : Inv X pins σ H s) (hv : Vals ys its) (hz : ys.length <= sizeLine) :
    Inv X pins σ (upd H s.heap.objs.size (.lst ys)) { s with heap := s.heap.push { cls := .type "list", data := .seq its.toArray }, toks := t' } :=
  I.laid (fun _ _ q => Heap.get?_push_of_some _ q) (Nat.le_refl _) ⟨hz, its, 0, hv, Heap.get?_push_size _ rfl⟩
theorem Inv.fresh (I : Inv X pins σ H s) : H s.heap.objs.size = none := I.hok.fresh (Nat.le_refl _)
theorem Inv.lstM (I : Inv X pins σ H s) (hH : H l = some (.lst xs)) : xs.length <= sizeLine /\ ∃ (its : List Value) (n : Nat), Vals xs its /\ xs.length = its.length /\ s.heap.get? l = some { cls := .type "list", data := .seq its.toArray n } := by
  obtain ⟨z, its, n, r, e⟩ := I.hok l _ hH
  exact ⟨z, its, n, r, r.length, e⟩
theorem notLongL {n : Nat} (h : n <= sizeLine) : Builtin.List.listTooLong n = false := by
  unfold Builtin.List.listTooLong
  exact decide_eq_false (by omega)
end
section
variable {X : Cx}
def rAppend : V -> List V -> Hp -> VK -> Prop := fun x vs H Q => ∃ l xs y, x = .ref l /\ vs = [y] /\ H l = some (.lst xs) /\ xs.length < sizeLine /\ Q .non (upd H l (.lst (xs ++ [y])))
theorem mt_append : MtM X "list.append" rAppend := by
  intro pins s σ H x vs v us Q I rx rv h
  obtain ⟨l, xs, y, rfl, rfl, hH, hz, q⟩ := h
  cases rx
  obtain ⟨u, rfl, ru⟩ := rv.one
  obtain ⟨z, its, n, r, hl, e⟩ := I.lstM hH
  refine call_meets F.slot_list_append ⟨_, e, rfl⟩ F.entry_list_append (F.args_list_append_2 _ _) (PySem.list_append l its.toArray n u (by rw [List.size_toArray]; omega)) ⟨e, ?_⟩
  refine ⟨.non, _, I.lset (its' := its ++ [u]) hH e (by simp) (r.append (.cons ru .nil)) ?_, rfl, q⟩
  rw [List.length_append, List.length_singleton]
  omega
def rExtend : V -> List V -> Hp -> VK -> Prop := fun x vs H Q => ∃ l b xs zs, x = .ref l /\ vs = [.ref b] /\ H l = some (.lst xs) /\ H b = some (.lst zs) /\ xs.length + zs.length <= sizeLine /\ Q .non (upd H l (.lst (xs ++ zs)))
theorem mt_extend : MtM X "list.extend" rExtend := by
  intro pins s σ H x vs v us Q I rx rv h
  obtain ⟨l, b, xs, zs, rfl, rfl, hH, hB, hz, q⟩ := h
  cases rx
  obtain ⟨u, rfl, ru⟩ := rv.one
  cases ru
  obtain ⟨z, its, n, r, hl, e⟩ := I.lstM hH
  obtain ⟨z2, its2, n2, r2, hl2, e2⟩ := I.lstM hB
  have hsz : its.toArray.size + its2.toArray.size <= sizeLine := by rw [List.size_toArray, List.size_toArray]; omega
  have hlong : ¬ (!its.toArray.isEmpty && Builtin.List.listTooLong (its.toArray.size + its2.toArray.size)) = true := by
    rw [notLongL hsz, Bool.and_false]
    exact Bool.false_ne_true
  refine call_meets F.slot_list_extend ⟨_, e, rfl⟩ F.entry_list_extend (F.args_list_extend_2 _ _)
    (AutoSeq1.list_extend_list_list_0 l its.toArray n b its2.toArray n2 hlong (by rw [List.size_toArray]; omega) (by omega)) ⟨e, e2, ?_⟩
  refine ⟨.non, _, I.lset (its' := its ++ its2) hH e (by simp) (r.append r2) ?_, rfl, q⟩
  rw [List.length_append]
  omega
def rCat : R2 := fun x y H Q => ∃ l b xs zs, x = .ref l /\ y = .ref b /\ H l = some (.lst xs) /\ H b = some (.lst zs) /\ xs.length + zs.length <= sizeLine /\ ∀ p, H p = none -> Q (.ref p) (upd H p (.lst (xs ++ zs)))
theorem op_cat : OpR X (binaryOp .Add) rCat := by
  intro pins s σ H x y v u Q I rx ry h
  obtain ⟨l, b, xs, zs, rfl, rfl, hH, hB, hz, q⟩ := h
  cases rx
  cases ry
  obtain ⟨z, its, n, r, hl, e⟩ := I.lstM hH
  obtain ⟨z2, its2, n2, r2, hl2, e2⟩ := I.lstM hB
  refine PySem.P.add_list e e2 ?_ (by rw [List.size_toArray, List.size_toArray]; omega)
  have ea : its.toArray ++ its2.toArray = (its ++ its2).toArray := by simp
  rw [ea]
  exact ⟨.ref _, _, I.lnew (t' := s.toks) (r.append r2) (by rw [List.length_append]; omega), rfl, q _ I.fresh⟩
def rRep : R2 := fun x y H Q => ∃ l k xs, x = .ref l /\ y = .int k /\ H l = some (.lst xs) /\ -(2 ^ 63) <= k /\ k < 2 ^ 63 /\ xs.length * k.toNat <= sizeLine /\
  ∀ p, H p = none -> Q (.ref p) (upd H p (.lst (List.replicate k.toNat xs).flatten))
theorem len_rep {α : Type} (xs : List α) (k : Nat) : (List.replicate k xs).flatten.length = k * xs.length := by
  induction k with
  | zero => simp
  | succ k ih => rw [List.replicate_succ, List.flatten_cons, List.length_append, ih, Nat.succ_mul, Nat.add_comm]
theorem op_rep : OpR X (binaryOp .Mult) rRep := by
  intro pins s σ H x y v u Q I rx ry h
  obtain ⟨l, k, xs, rfl, rfl, hH, h1, h2, hz, q⟩ := h
  cases rx
  obtain ⟨t, rfl⟩ := ry
  obtain ⟨z, its, n, r, hl, e⟩ := I.lstM hH
  have hlen : its.toArray.size * k.toNat <= sizeLine := by rw [List.size_toArray, <- hl]; exact hz
  have hcap : ¬ its.toArray.size * k.toNat > (2 ^ 63 - 1) / 8 := by
    have : (sizeLine : Nat) <= (2 ^ 63 - 1) / 8 := by decide
    omega
  have hfit : ¬ (!Builtin.List.listFitsIndex k) = true := by
    rw [fitsIndex_both h1 h2]
    exact Bool.false_ne_true
  have hlong : ¬ Builtin.List.listTooLong (its.toArray.size * k.toNat) = true := by
    rw [notLongL hlen]
    exact Bool.false_ne_true
  have hnew : List.foldl (fun x1 x2 => x1 ++ x2) #[] (List.replicate (if its.toArray.isEmpty = true then 0 else k.toNat) its.toArray) = (List.replicate k.toNat its).flatten.toArray := by
    have f0 : ∀ m : Nat, List.foldl (fun x1 x2 => x1 ++ x2) #[] (List.replicate m its.toArray) = (List.replicate m its).flatten.toArray := fun m => by
      have := foldl_rep its m []
      rw [List.nil_append] at this
      exact this
    rw [f0]
    cases its with
    | nil => simp
    | cons a r' => rw [if_neg (by simp)]
  refine wpAny_binaryOp_repeat_ref (T := "list") (U := "int") (by decide) ⟨_, e, rfl⟩ (fun s' => typeIs_int s' k t) noFill_list_mul F.fills_int_mul F.slot_int_rmul repeat_list F.slot_int_index.lookup
    (call_meets F.slot_int_rmul (typeIs_int s k t) F.entry_int_rmul (F.args_int_rmul_2 _ _) (int___rmul___int_list k t l its.toArray n)
      ⟨e, rfl, ⟨_, e, rfl⟩, call_meets F.slot_list_mul ⟨_, e, rfl⟩ F.entry_list_mul (F.args_list_mul_2 _ _) (AutoListH.list___mul___list_int_3 l its.toArray n k t hfit hcap hlong) ⟨e, ?_⟩⟩)
  rw [hnew]
  exact ⟨.ref _, _, I.lnew (t' := s.toks) (r.rep k.toNat) (by rw [len_rep, Nat.mul_comm]; exact hz), rfl, q _ I.fresh⟩
end
theorem Vals.ints : ∀ {ns : List Int} {us : List Value}, Vals (ns.map V.int) us -> IntsAre us ns
  | [], us, h => by
    rw [List.map_nil] at h
    cases h
    exact IntsAre.nil
  | n :: ns, us, h => by
    rw [List.map_cons] at h
    cases h with
    | cons r t =>
      obtain ⟨k, rfl⟩ := r
      exact IntsAre.cons n k (Vals.ints t)
theorem Vals.ref1 {a : Addr} {us : List Value} (r : Vals [V.ref a] us) : us = [Value.ref a] := by
  cases r with
  | cons r t =>
    cases t
    cases r
    rfl
section
variable {prog : Program} {w : World} {A : Around} {E : Value -> Shared -> Prop} {s : Shared} {l : Addr} {its : List Value} {ns : List Int} {Q : Value -> Shared -> Prop}
theorem sum_raw (hh : A.handled = none) (hl : s.heap.IsList l its.toArray) (hi : IntsAre its ns)
    (h : ∀ h' tk t', (∀ b o, s.heap.get? b = some o -> h'.get? b = some o) -> Q (.int ns.sum t') { s with heap := h', toks := tk }) : wpAny (model prog w) A (call (.builtin "sum") [.ref l]) Q E s := by
  obtain ⟨xs, e⟩ := hi.allInts.items
  have hn : numsOf (intItems xs).toList = ns := by rw [<- e]; exact hi.numsOf
  rw [nums_intItems] at hn
  rw [e] at hl
  refine PySem.sum_intListG hh hl fun h' tk t' hk => ?_
  have := h h' tk t' hk
  rw [preSum_eq, List.take_of_length_le (by simp), hn]; exact this
theorem max_raw (hh : A.handled = none) (hl : s.heap.IsList l its.toArray) (hi : IntsAre its ns) (hne : 0 < ns.length)
    (h : ∀ h' tk M t', (∀ b o, s.heap.get? b = some o -> h'.get? b = some o) -> M ∈ ns -> (∀ a, a ∈ ns -> a <= M) -> Q (.int M t') { s with heap := h', toks := tk }) : wpAny (model prog w) A (call (.builtin "max") [.ref l]) Q E s := by
  obtain ⟨xs, e⟩ := hi.allInts.items
  have hn : numsOf (intItems xs).toList = ns := by rw [<- e]; exact hi.numsOf
  rw [nums_intItems] at hn
  subst hn
  rw [e] at hl
  have hsz : 0 < xs.size := by simpa using hne
  refine PySem.max_intList hh hl hsz fun v h' tk hv hk => ?_
  obtain ⟨t, rfl⟩ := intItems_at hv
  obtain ⟨h1, h2⟩ := argBest_gt (numAt xs) (xs.size - 1)
  refine h h' tk _ t hk ?_ fun a ha => ?_
  . rw [numAt_eq]; exact PySem.getD_mem (by rw [List.length_map, Array.length_toList]; omega)
  . obtain ⟨j, hj, rfl⟩ := mem_getD ha
    rw [List.length_map, Array.length_toList] at hj
    rw [<- numAt_eq]; exact h2 j (by omega)
end
section
variable {X : Cx}
def rSum (K : PySem.W.Frag) : List V -> Hp -> VK -> Prop := fun vs H Q => ∃ (a : Addr) (ns : List Int), vs = [V.ref a] /\ SqL K H a (ns.map V.int) /\ Q (.int ns.sum) H
def rMax (K : PySem.W.Frag) : List V -> Hp -> VK -> Prop := fun vs H Q => ∃ (a : Addr) (ns : List Int), vs = [V.ref a] /\ SqL K H a (ns.map V.int) /\ 0 < ns.length /\ ∀ m, m ∈ ns -> (∀ y, y ∈ ns -> y <= m) -> Q (.int m) H
theorem cr_sum (hc : X.calm = true) : CallR X (.builtin "sum") (rSum X.K) := by
  intro pins s σ H vs us Q I r h
  obtain ⟨a, ns, rfl, hs, q⟩ := h
  obtain ⟨its, rv, hl, _⟩ := I.list hs
  rw [Vals.ref1 r]
  exact sum_raw (I.ok.hd hc) hl.isList rv.ints fun h' tk t' hk => ⟨.int _, H, I.kept hk, ⟨_, rfl⟩, q⟩
theorem cr_max (hc : X.calm = true) : CallR X (.builtin "max") (rMax X.K) := by
  intro pins s σ H vs us Q I r h
  obtain ⟨a, ns, rfl, hs, hne, q⟩ := h
  obtain ⟨its, rv, hl, _⟩ := I.list hs
  rw [Vals.ref1 r]
  exact max_raw (I.ok.hd hc) hl.isList rv.ints hne fun h' tk m t' hk h1 h2 => ⟨.int _, H, I.kept hk, ⟨_, rfl⟩, q m h1 h2⟩
def rIndex (K : PySem.W.Frag) : V -> List V -> Hp -> VK -> Prop := fun x xs H Q => ∃ (a : Addr) (ys : List V) (y : V) (j : Nat) (z : V), x = V.ref a /\ xs = [y] /\ SqL K H a ys /\ flatV y = true /\ ys.all flatV = true /\ ys[j]? = some z /\ eqV z y = true /\
  (∀ (m : Nat) (z' : V), m < j -> ys[m]? = some z' -> eqV z' y = false) /\ Q (.int (j : Nat)) H
theorem flat_at {ys : List V} (f : ys.all flatV = true) {j : Nat} {z : V} (h : ys[j]? = some z) : flatV z = true := List.all_eq_true.mp f z (List.mem_of_getElem? h)
theorem mt_index : MtR X "list.index" (rIndex X.K) := by
  intro pins s σ H x xs v us Q I rx rxs h
  obtain ⟨a, ys, y, j, z, rfl, rfl, hs, fy, fys, hz, hzj, hno, q⟩ := h
  cases rx
  cases rxs with
  | cons ry rt =>
    rename_i uy ut
    cases rt
    obtain ⟨its, rv, ⟨⟨cls, dd, data, sl⟩, n, ho, hc, hdn, hd⟩, hlen⟩ := I.list hs
    simp only at hc hd
    subst hc hd
    obtain ⟨u, hu, ru⟩ := rv.get hz
    obtain ⟨hjl, hje⟩ := List.getElem?_eq_some_iff.mp hu
    have hvl := rv.length
    have hj : j < its.toArray.size := by simpa using hjl
    have hsl := sizeLine_eq
    refine call_meets PySem.F.slot_list_index ⟨_, ho, rfl⟩ PySem.F.entry_list_index (PySem.F.args_list_index_2 _ _)
      (SeqAt.list_indexAt a its.toArray n dd sl uy (eqU y) j hj (by omega) ?_ ?_) ⟨ho, fun u' hu' => mem_eqAt ry fy rv fys u' (by simpa using hu'), ?_⟩
    . have e1 : its.toArray[j] = u := by simpa using hje
      rw [e1, eqU_of ru (flat_at fys hz)]
      exact hzj
    . intro m hm hmj
      have hml : m < its.length := by simpa using hm
      have hmy : m < ys.length := by omega
      have hy' : ys[m]? = some ys[m] := List.getElem?_eq_getElem hmy
      obtain ⟨u2, hu2, ru2⟩ := rv.get hy'
      obtain ⟨_, hme⟩ := List.getElem?_eq_some_iff.mp hu2
      have e1 : its.toArray[m] = u2 := by simpa using hme
      rw [e1, eqU_of ru2 (flat_at fys hy')]
      exact hno m _ hmj hy'
    . exact ⟨.int (j : Nat), H, I.tok _, ⟨_, rfl⟩, q⟩
end
mutual
inductive Dp (K : PySem.W.Frag) (H : Hp) : V -> PyData -> Prop
  | non : Dp K H .non .none
  | bl (b : Bool) : Dp K H (.bl b) (.bool b)
  | int (i : Int) : Dp K H (.int i) (.int i)
  | str (x : Str) : Dp K H (.str x) (.str x)
  | lst {a : Addr} {xs : List V} {ds : List PyData} : SqL K H a xs -> DpAll K H xs ds -> Dp K H (.ref a) (.list ds)
  | tup {a : Addr} {xs : List V} {ds : List PyData} : SqT K H a xs -> DpAll K H xs ds -> Dp K H (.ref a) (.tuple ds)
inductive DpAll (K : PySem.W.Frag) (H : Hp) : List V -> List PyData -> Prop
  | nil : DpAll K H [] []
  | cons {v : V} {vs : List V} {d : PyData} {ds : List PyData} : Dp K H v d -> DpAll K H vs ds -> DpAll K H (v :: vs) (d :: ds)
end
section
variable {X : Cx} {pins : List (Addr × Obj)} {σ : St} {H : Hp} {s : Shared}
mutual
theorem Dp.reads (I : Inv X pins σ H s) : ∀ (d : PyData) (v : V) (u : Value), Dp X.K H v d -> RelV v u -> ∃ as, Reads s.heap u d as
  | .none, _, _, h, r => by
    cases h
    cases r
    exact ⟨_, Reads.none⟩
  | .bool b, _, _, h, r => by
    cases h
    cases r
    exact ⟨_, Reads.bool b⟩
  | .int i, _, _, h, r => by
    cases h
    obtain ⟨t, rfl⟩ := r
    exact ⟨_, Reads.int i t⟩
  | .str x, _, _, h, r => by
    cases h
    obtain ⟨t, rfl⟩ := r
    exact ⟨_, Reads.str x t⟩
  | .list ds, _, _, h, r => by
    cases h with
    | lst hs ha =>
      cases r
      obtain ⟨its, rv, ⟨o, n, ho, hc, _, hd⟩, _⟩ := I.list hs
      obtain ⟨as, hr⟩ := Dp.readsAll I ds _ its ha rv
      exact ⟨_, Reads.list ho hc hd hr⟩
  | .tuple ds, _, _, h, r => by
    cases h with
    | tup hs ha =>
      cases r
      obtain ⟨its, rv, ⟨o, ho, hc, n, hd⟩, _⟩ := I.tuple hs
      obtain ⟨as, hr⟩ := Dp.readsAll I ds _ its ha rv
      exact ⟨_, Reads.tuple ho hc hd hr⟩
  | .dict _, _, _, h, _ => by cases h
theorem Dp.readsAll (I : Inv X pins σ H s) : ∀ (ds : List PyData) (vs : List V) (us : List Value), DpAll X.K H vs ds -> Vals vs us -> ∃ as, ReadsAll s.heap us ds as
  | [], _, _, h, r => by
    cases h
    cases r
    exact ⟨_, ReadsAll.nil⟩
  | d :: ds, _, _, h, r => by
    cases h with
    | cons h1 h2 =>
      cases r with
      | cons r1 r2 =>
        obtain ⟨as, q1⟩ := Dp.reads I d _ _ h1 r1
        obtain ⟨bs, q2⟩ := Dp.readsAll I ds _ _ h2 r2
        exact ⟨_, ReadsAll.cons q1 q2⟩
end
end
section
variable {X : Cx}
def rEqD (K : PySem.W.Frag) : R2 := fun x y H Q => ∃ d e, Dp K H x d /\ Dp K H y e /\ SeqAt.shaped d = true /\ SeqAt.shaped e = true /\ Q (.bl (PyData.eqv d e)) H
theorem op_eqD (hu : X.A.units + 64 < cLine) : OpR X (compareOp .Eq) (rEqD X.K) := by
  intro pins s σ H x y v u Q I rx ry h
  obtain ⟨d, e, hd, he, sd, se, q⟩ := h
  obtain ⟨as, r1⟩ := Dp.reads I d x v hd rx
  obtain ⟨bs, r2⟩ := Dp.reads I e y u he ry
  exact SeqAt.compareEq_shaped r1 r2 sd se hu ⟨.bl _, H, I, rfl, q⟩
end
abbrev CellAt (h : Heap) (c : Addr) (v : Option Value) : Prop := h.IsCell c v
def relS (scope sc : Scope) : Scope :=
  { scope with names := scope.names.map fun (n, k) => if (k == .free && sc.kind == .function && sc.names.lookup n == some .cell) then (n, .cell) else (n, k) }
def cloFrom (cells : List (Str × Addr)) : List (Str × NameKind) -> List (Str × Addr) -> List (Str × Addr)
  | [], acc => acc
  | (n, k) :: r, acc => if k == .free then cloFrom cells r ((n, (cells.lookup n).getD 0) :: acc) else cloFrom cells r acc
theorem closure_loop (env : Env) (f : Str × NameKind -> List (Str × Addr) -> Sem (ForInStep (List (Str × Addr))))
    (hf : ∀ n k c, f (n, k) c = if k == .free then (do let a <- cellOf env n; pure (.yield ((n, a) :: c))) else pure (.yield c)) :
    ∀ (names : List (Str × NameKind)) (acc : List (Str × Addr)), (∀ y ∈ names, y.2 = .free -> ∃ c, env.cells.lookup y.1 = some c) -> forIn names acc f = pure (cloFrom env.cells names acc)
  | [], acc, _ => by rw [List.forIn_nil]; rfl
  | (n, k) :: r, acc, h => by
    rw [List.forIn_cons, hf]
    have ih := fun acc => closure_loop env f hf r acc fun y hy => h y (List.mem_cons_of_mem _ hy)
    unfold cloFrom
    by_cases hk : (k == NameKind.free) = true
    . rw [if_pos hk, if_pos hk]
      obtain ⟨c, hc⟩ := h (n, k) List.mem_cons_self (by simpa using hk)
      have e : cellOf env n = pure c := by unfold cellOf; rw [hc]
      rw [e]
      have e2 : (env.cells.lookup n).getD 0 = c := by rw [hc]; rfl
      rw [e2]
      exact ih _
    . rw [if_neg hk, if_neg hk]
      exact ih _
theorem closure_ok {scope : Scope} {env : Env} (h : ∀ y ∈ scope.names, y.2 = .free -> ∃ c, env.cells.lookup y.1 = some c) : closureFor scope env = pure (cloFrom env.cells scope.names []) := by
  simp only [closureFor]
  rw [closure_loop env _ (fun n k c => rfl) scope.names [] h]
  rfl
theorem mem_lookup {α : Type} : ∀ {l : List (Str × α)} {n : Str} {c : α}, (n, c) ∈ l -> ∃ c', l.lookup n = some c'
  | (k, v) :: r, n, c, h => by
    rw [List.lookup_cons]
    cases hb : n == k with
    | true => exact ⟨_, rfl⟩
    | false =>
      rcases List.mem_cons.mp h with e | h
      . cases e; simp at hb
      . exact mem_lookup h
theorem cloFrom_mem {cells : List (Str × Addr)} : ∀ {names : List (Str × NameKind)} {acc : List (Str × Addr)} {n : Str} {c : Addr}, (n, c) ∈ cloFrom cells names acc -> (n, c) ∈ acc \/ ((n, .free) ∈ names /\ c = (cells.lookup n).getD 0)
  | [], _, _, _, h => .inl h
  | (m, k) :: r, acc, n, c, h => by
    unfold cloFrom at h
    split at h
    . rename_i hk
      have hk : k = .free := by simpa using hk
      rcases cloFrom_mem h with h | ⟨h1, h2⟩
      . rcases List.mem_cons.mp h with e | h
        . cases e; exact .inr ⟨hk ▸ List.mem_cons_self, rfl⟩
        . exact .inl h
      . exact .inr ⟨List.mem_cons_of_mem _ h1, h2⟩
    . rcases cloFrom_mem h with h | ⟨h1, h2⟩
      . exact .inl h
      . exact .inr ⟨List.mem_cons_of_mem _ h1, h2⟩
theorem cloFrom_acc {cells : List (Str × Addr)} : ∀ {names : List (Str × NameKind)} {acc : List (Str × Addr)} {p : Str × Addr}, p ∈ acc -> p ∈ cloFrom cells names acc
  | [], _, _, h => h
  | (m, k) :: r, acc, p, h => by
    unfold cloFrom
    split
    . exact cloFrom_acc (List.mem_cons_of_mem _ h)
    . exact cloFrom_acc h
theorem cloFrom_has {cells : List (Str × Addr)} : ∀ {names : List (Str × NameKind)} {acc : List (Str × Addr)} {n : Str}, (n, .free) ∈ names -> (n, (cells.lookup n).getD 0) ∈ cloFrom cells names acc
  | (m, k) :: r, acc, n, h => by
    unfold cloFrom
    rcases List.mem_cons.mp h with e | h
    . cases e
      exact cloFrom_acc List.mem_cons_self
    . split
      . exact cloFrom_has h
      . exact cloFrom_has h
theorem cells_mem : ∀ {names : List (Str × NameKind)} {h : Heap} {acc : List (Str × Addr)} {x : Str} {c : Addr}, (x, c) ∈ cellsFrom h.objs.size names acc ->
    (x, c) ∈ acc \/ ((x, .cell) ∈ names /\ h.objs.size <= c /\ CellAt (pushCells h names) c none)
  | [], _, _, _, _, h => .inl h
  | (n, k) :: r, h, acc, x, c, hm => by
    unfold cellsFrom at hm
    unfold pushCells
    split at hm
    . rename_i hk
      rw [if_pos hk]
      have hk : k = .cell := by simpa using hk
      rw [<- Heap.size_push h { cls := .type "cell", data := .cell none }] at hm
      rcases cells_mem hm with hm | ⟨h1, h2, h3⟩
      . rcases List.mem_cons.mp hm with e | hm
        . cases e
          exact .inr ⟨hk ▸ List.mem_cons_self, Nat.le_refl _, _, pushCells_keeps r _ _ _ (Heap.get?_push_size _ rfl), rfl⟩
        . exact .inl hm
      . rw [Heap.size_push] at h2
        exact .inr ⟨List.mem_cons_of_mem _ h1, Nat.le_of_succ_le h2, h3⟩
    . rename_i hk
      rw [if_neg hk]
      rcases cells_mem hm with hm | ⟨h1, h2, h3⟩
      . exact .inl hm
      . exact .inr ⟨List.mem_cons_of_mem _ h1, h2, h3⟩
theorem cells_acc : ∀ {names : List (Str × NameKind)} {n : Nat} {acc : List (Str × Addr)} {p : Str × Addr}, p ∈ acc -> p ∈ cellsFrom n names acc
  | [], _, _, _, h => h
  | (m, k) :: r, n, acc, p, h => by
    unfold cellsFrom
    split
    . exact cells_acc (List.mem_cons_of_mem _ h)
    . exact cells_acc h
theorem cells_has : ∀ {names : List (Str × NameKind)} {n : Nat} {acc : List (Str × Addr)} {x : Str}, (x, .cell) ∈ names -> ∃ c, (x, c) ∈ cellsFrom n names acc
  | (m, k) :: r, n, acc, x, h => by
    unfold cellsFrom
    rcases List.mem_cons.mp h with e | h
    . cases e
      exact ⟨n, cells_acc List.mem_cons_self⟩
    . split
      . exact cells_has h
      . exact cells_has h
theorem cells_inj : ∀ {names : List (Str × NameKind)} {h : Heap} {acc : List (Str × Addr)} {x y : Str} {c : Addr}, (∀ p ∈ acc, p.2 < h.objs.size) -> (∀ x y c, (x, c) ∈ acc -> (y, c) ∈ acc -> x = y) ->
    (x, c) ∈ cellsFrom h.objs.size names acc -> (y, c) ∈ cellsFrom h.objs.size names acc -> x = y
  | [], _, _, _, _, _, _, hi, h1, h2 => hi _ _ _ h1 h2
  | (n, k) :: r, h, acc, x, y, c, hl, hi, h1, h2 => by
    unfold cellsFrom at h1 h2
    split at h1
    . rename_i hk
      rw [if_pos hk] at h2
      rw [<- Heap.size_push h { cls := .type "cell", data := .cell none }] at h1 h2
      refine cells_inj (h := h.push _) (fun p hp => ?_) (fun x y c a b => ?_) h1 h2
      . rw [Heap.size_push]
        rcases List.mem_cons.mp hp with rfl | hp
        . exact Nat.lt_succ_self _
        . exact Nat.lt_succ_of_lt (hl p hp)
      . rcases List.mem_cons.mp a with e | a <;> rcases List.mem_cons.mp b with e' | b
        . cases e; cases e'; rfl
        . cases e; exact absurd (hl _ b) (Nat.lt_irrefl _)
        . cases e'; exact absurd (hl _ a) (Nat.lt_irrefl _)
        . exact hi _ _ _ a b
    . rename_i hk
      rw [if_neg hk] at h2
      exact cells_inj hl hi h1 h2
theorem newEnv_comp {M : Model} {A : Around} {E : Value -> Shared -> Prop} {s : Shared} {scope : Scope} {globals : Addr} {closure : List (Str × Addr)} {qual : Str} {func : Option Addr} {code : Value} {around : Env} {builtins : Addr} {Q : Env -> Shared -> Prop}
    (h : Q (newEnv scope s.heap.objs.size globals (cellsFrom (s.heap.objs.size + 1) scope.names closure) qual func code (some around) builtins)
      { s with heap := pushCells (s.heap.push { cls := .type "dict", data := .dict #[] }) scope.names }) :
    wpAny M A (newFunctionEnv scope globals closure [] qual func code (some around) builtins) Q E s := by
  simp only [newFunctionEnv, Option.isSome_some, if_true]
  refine wpAny_bind (wpAny_alloc ?_)
  refine wpAny_bind (wpAny_layCells _ (fun n k c => rfl) scope.names closure _ _ ?_)
  rw [show ({ s with heap := s.heap.push { cls := .type "dict", data := .dict #[] } } : Shared).heap.objs.size = s.heap.objs.size + 1 from Heap.size_push ..]
  rw [List.forIn_nil]
  exact wpAny_bind (wpAny_pure (wpAny_pure h))
theorem lookup_relS {sc : Scope} : ∀ {names : List (Str × NameKind)} {x : Str} {k : NameKind},
    (names.map fun (n, k) => if (k == NameKind.free && sc.kind == .function && sc.names.lookup n == some .cell) then (n, NameKind.cell) else (n, k)).lookup x = some k ->
    ∃ k', names.lookup x = some k' /\ (k = k' \/ (k' = .free /\ k = .cell))
  | [], _, _, h => by simp at h
  | (n, k₀) :: r, x, k, h => by
    have ih := @lookup_relS sc r x k
    have h' : List.lookup x ((if (k₀ == NameKind.free && sc.kind == .function && sc.names.lookup n == some .cell) = true then (n, NameKind.cell) else (n, k₀)) :: (r.map _)) = some k := h
    cases hx : x == n with
    | true =>
      simp only [List.lookup_cons, hx]
      by_cases hc : (k₀ == NameKind.free && sc.kind == .function && sc.names.lookup n == some .cell) = true
      . rw [if_pos hc] at h'
        simp only [List.lookup_cons, hx] at h'
        cases h'
        simp only [Bool.and_eq_true, beq_iff_eq] at hc
        exact ⟨k₀, rfl, .inr ⟨hc.1.1, rfl⟩⟩
      . rw [if_neg hc] at h'
        simp only [List.lookup_cons, hx] at h'
        cases h'
        exact ⟨_, rfl, .inl rfl⟩
    | false =>
      simp only [List.lookup_cons, hx]
      by_cases hc : (k₀ == NameKind.free && sc.kind == .function && sc.names.lookup n == some .cell) = true
      . rw [if_pos hc] at h'
        simp only [List.lookup_cons, hx] at h'
        exact ih h'
      . rw [if_neg hc] at h'
        simp only [List.lookup_cons, hx] at h'
        exact ih h'
structure BlkOk (N : List Str) (sc scope : Scope) (own : List (Str × Nat)) : Prop where
  kind : scope.kind = .function
  uniq : ∀ y ∈ scope.names, scope.names.lookup y.1 = some y.2
  ix : ∀ p ∈ own, N[p.2]? = some p.1
  free : ∀ y ∈ scope.names, y.2 = .free -> sc.names.lookup y.1 = some .cell \/ sc.names.lookup y.1 = some .free
  own : ∀ y ∈ scope.names, y.2 = .local \/ y.2 = .cell -> y.1 ∈ own.map (·.1) \/ y.1 ∉ N
def wipe (σ : St) : List Nat -> St
  | [] => σ
  | v :: vs => (wipe σ vs).set v none
theorem wipe_length (σ : St) : ∀ vs : List Nat, (wipe σ vs).length = σ.length
  | [] => rfl
  | v :: vs => by unfold wipe; rw [List.length_set, wipe_length σ vs]
theorem wipe_some {σ : St} {i : Nat} {x : V} : ∀ {vs : List Nat}, (wipe σ vs)[i]? = some (some x) -> σ[i]? = some (some x) /\ i ∉ vs
  | [], h => ⟨h, by simp⟩
  | v :: vs, h => by
    unfold wipe at h
    by_cases hi : v = i
    . subst hi
      by_cases hv : v < (wipe σ vs).length
      . rw [List.getElem?_set_self hv] at h; cases h
      . rw [List.getElem?_eq_none (by simpa using hv)] at h; cases h
    . rw [List.getElem?_set_ne hi] at h
      obtain ⟨h1, h2⟩ := wipe_some h
      exact ⟨h1, by simp only [List.mem_cons, not_or]; exact ⟨fun e => hi e.symm, h2⟩⟩
abbrev Cx.blk (X : Cx) (s : Shared) (H : Hp) (scope : Scope) (cenv : Env) (fp : List Addr) : Cx := { X with s_0 := s, H_0 := H, env := cenv, outer := X.stack, ex := fp, fn := fun x => scope.names.lookup x == some .cell, pn := [], xe := fun _ _ => False }
section
variable {X : Cx} {pins : List (Addr × Obj)} {σ : St} {H : Hp} {s : Shared}
theorem block_start {scope : Scope} {own : List (Str × Nat)} {fp : List Addr} (I : Inv X pins σ H s) (ok : BlkOk X.N X.env.scope scope own) (hN : X.N.Nodup) (hfp : ∀ b ∈ fp, FpOk X pins H b /\ b < s.heap.objs.size) :
    Inv (X.blk s H scope (compEnvC scope (cellsFrom (s.heap.objs.size + 1) scope.names (cloFrom X.env.cells scope.names [])) s.heap.objs.size X.env) fp) [] (wipe σ (own.map (·.2))) H { s with heap := pushCells (s.heap.push { cls := .type "dict", data := .dict #[] }) scope.names } := by
  have hfree : ∀ y ∈ scope.names, y.2 = .free -> ∃ c, X.env.cells.lookup y.1 = some c := fun y hy e => by
    rcases ok.free y hy e with k | k
    . exact I.ok.has _ (.inl k)
    . exact I.ok.has _ (.inr k)
  generalize hcenv : compEnvC scope (cellsFrom (s.heap.objs.size + 1) scope.names (cloFrom X.env.cells scope.names [])) s.heap.objs.size X.env = cenv
  have kp : ∀ b o, s.heap.get? b = some o -> (pushCells (s.heap.push { cls := .type "dict", data := .dict #[] }) scope.names).get? b = some o := fun b o e => pushCells_keeps _ _ _ _ (Heap.get?_push_of_some _ e)
  have hL : cenv.locals = s.heap.objs.size := by rw [<- hcenv]; rfl
  have hcl : cenv.cells = cellsFrom (s.heap.objs.size + 1) scope.names (cloFrom X.env.cells scope.names []) := by rw [<- hcenv]; rfl
  have hsc : cenv.scope = relS scope X.env.scope := by rw [<- hcenv]; rfl
  rw [<- Heap.size_push s.heap { cls := .type "dict", data := .dict #[] }] at hcl
  have cm : ∀ {y c}, (y, c) ∈ cloFrom X.env.cells scope.names [] -> X.env.cells.lookup y = some c /\ c < s.heap.objs.size := fun {y c} hm => by
    rcases cloFrom_mem hm with hm | ⟨h1, rfl⟩
    . cases hm
    . obtain ⟨c, hc⟩ := hfree _ h1 rfl
      rw [hc]
      obtain ⟨w, z⟩ := I.cell _ _ hc
      exact ⟨rfl, z.lt⟩
  have mem : ∀ {y c}, cenv.cells.lookup y = some c -> (X.env.cells.lookup y = some c /\ c < s.heap.objs.size) \/ (s.heap.objs.size + 1 <= c /\ CellAt (pushCells (s.heap.push { cls := .type "dict", data := .dict #[] }) scope.names) c none) := fun {y c} e => by
    rw [hcl] at e
    rcases cells_mem (PySem.mem_of_lookup e) with hm | ⟨_, h2, h3⟩
    . exact .inl (cm hm)
    . rw [Heap.size_push] at h2; exact .inr ⟨h2, h3⟩
  have look : ∀ {y}, scope.names.lookup y = some .free -> ∃ c, cenv.cells.lookup y = some c /\ X.env.cells.lookup y = some c := fun {y} hl => by
    have hy : (y, NameKind.free) ∈ scope.names := PySem.mem_of_lookup hl
    obtain ⟨c', e'⟩ := mem_lookup (cells_acc (names := scope.names) (n := (s.heap.push { cls := .type "dict", data := .dict #[] }).objs.size) (cloFrom_has (cells := X.env.cells) (acc := []) hy))
    rw [<- hcl] at e'
    refine ⟨c', e', ?_⟩
    rw [hcl] at e'
    rcases cells_mem (PySem.mem_of_lookup e') with hm | ⟨h1, _, _⟩
    . exact (cm hm).1
    . have := ok.uniq _ h1
      rw [hl] at this; cases this
  have okB : (X.blk s H scope cenv fp).Ok := by
    refine ⟨I.ok.mod, by show cenv.scope.kind = _; rw [hsc]; exact ok.kind, by show cenv.globals = _; rw [<- hcenv]; exact I.ok.glob, by show cenv.builtins = _; rw [<- hcenv]; exact I.ok.blt, by show s.heap.objs.size <= cenv.locals; rw [hL]; exact Nat.le_refl _,
      fun y z c e1 e2 => ?_, fun y hy => ?_, fun y c z e => ?_, I.ok.hd, I.ok.frames, .inl rfl, fun b hb => ⟨?_, fun y c e z => ?_⟩, I.bs, Nat.le_trans I.ok.bsz I.sz, fun b o e hb => ?_, fun b hb z => ?_, I.stack, I.stkFree⟩
    . have e1 : cenv.cells.lookup y = some c := e1
      have e2 : cenv.cells.lookup z = some c := e2
      rw [hcl] at e1 e2
      refine cells_inj (fun p hp => ?_) (fun y z c a b => I.ok.inj y z c (cm a).1 (cm b).1) (PySem.mem_of_lookup e1) (PySem.mem_of_lookup e2)
      rw [Heap.size_push]
      exact Nat.lt_succ_of_lt (cm (y := p.1) (c := p.2) hp).2
    . show ∃ c, cenv.cells.lookup y = some c
      have key : ∀ k, cenv.kindOf y = some k -> (k = .cell \/ k = .free) -> ∃ c, cenv.cells.lookup y = some c := fun k hk hk' => by
        unfold Env.kindOf at hk
        rw [hsc] at hk
        obtain ⟨k', e, r⟩ := lookup_relS hk
        have : k' = .cell \/ k' = .free := by
          rcases r with rfl | ⟨rfl, _⟩
          . exact hk'
          . exact .inr rfl
        rcases this with rfl | rfl
        . obtain ⟨c, hm⟩ := cells_has (n := (s.heap.push { cls := .type "dict", data := .dict #[] }).objs.size) (acc := cloFrom X.env.cells scope.names []) (PySem.mem_of_lookup e)
          obtain ⟨c', e'⟩ := mem_lookup hm
          exact ⟨c', by rw [hcl]; exact e'⟩
        . obtain ⟨c, h1, _⟩ := look e
          exact ⟨c, h1⟩
      rcases hy with hy | hy
      . exact key _ hy (.inl rfl)
      . exact key _ hy (.inr rfl)
    . have z : (scope.names.lookup y == some NameKind.cell) = true := z
      have z : scope.names.lookup y = some .cell := by simpa using z
      have e : cenv.cells.lookup y = some c := e
      rw [hcl] at e
      rcases cells_mem (PySem.mem_of_lookup e) with hm | ⟨_, h2, _⟩
      . rcases cloFrom_mem hm with hm | ⟨h1, _⟩
        . cases hm
        . have q := ok.uniq _ h1
          rw [z] at q; cases q
      . rw [Heap.size_push] at h2
        exact Nat.le_of_succ_le h2
    . show b ≠ cenv.locals
      rw [hL]; exact Nat.ne_of_lt (hfp b hb).2
    . have e : cenv.cells.lookup y = some c := e
      rcases mem e with ⟨h1, _⟩ | ⟨h1, _⟩
      . exact (hfp b hb).1.2.2.2.2.1 y c h1 z
      . have h2 : s.heap.objs.size + 1 <= b := by rw [<- z]; exact h1
        exact absurd (Nat.lt_of_lt_of_le (hfp b hb).2 (Nat.le_of_succ_le h2)) (Nat.lt_irrefl _)
    . rcases (hfp b hb).1.2.2.2.1 with z | z
      . exact I.ok.noex b o e z
      . exact absurd (Nat.lt_of_lt_of_le (Heap.lt_size e) (Nat.le_trans I.ok.bsz z)) (Nat.lt_irrefl _)
    . rcases List.mem_cons.mp (I.stkSub b z) with z | z
      . exact (hfp b hb).1.2.1 z
      . exact (hfp b hb).1.2.2.1 z
  refine ⟨okB, rfl, I.bare, Un.kept kp, ⟨fun _ => none, ?_, fun i y av e1 e2 e3 => ?_⟩, fun y c e => ?_, ?_, fun y c e => ?_, fun p hp => ?_, I.hok.kept kp, by rw [wipe_length]; exact I.len⟩
  . show Heap.Ns _ cenv.locals _
    rw [hL]
    exact Heap.Ns.keeps (Heap.Ns.new ..) fun b o e => pushCells_keeps _ _ _ _ e
  . obtain ⟨e2, hne⟩ := wipe_some e2
    have hfr : scope.names.lookup y = some .free /\ (cenv.kindOf y = some .cell \/ cenv.kindOf y = some .free) := by
      have key : ∀ k, cenv.scope.names.lookup y = some k -> k = .local \/ k = .cell \/ k = .free -> scope.names.lookup y = some .free /\ (cenv.kindOf y = some .cell \/ cenv.kindOf y = some .free) := fun k hk hk' => by
        have hk0 := hk
        rw [hsc] at hk
        obtain ⟨k', e, r⟩ := lookup_relS hk
        have no : ¬ (k' = .local \/ k' = .cell) := fun hh => by
          rcases ok.own _ (PySem.mem_of_lookup e) hh with e' | e'
          . obtain ⟨p, hp, hpy⟩ := List.mem_map.mp e'
            have e3 := ok.ix p hp
            have : p.1 = y := hpy
            rw [this] at e3
            exact hne (List.mem_map.mpr ⟨p, hp, nodup_ix hN e3 e1⟩)
          . exact e' (List.mem_of_getElem? e1)
        rcases r with rfl | ⟨rfl, rfl⟩
        . rcases hk' with rfl | rfl | rfl
          . exact absurd (.inl rfl) no
          . exact absurd (.inr rfl) no
          . exact ⟨e, .inr hk0⟩
        . exact ⟨e, .inl hk0⟩
      have e3 : Vis cenv.scope y := e3
      rcases e3 with e3 | e3 | e3
      . exact key _ e3 (.inl rfl)
      . exact key _ e3 (.inr (.inl rfl))
      . exact key _ e3 (.inr (.inr rfl))
    obtain ⟨m, hn, hl⟩ := I.loc
    have hvis : Vis X.env.scope y := (ok.free _ (PySem.mem_of_lookup hfr.1) rfl).elim (fun k => .inr (.inl k)) (fun k => .inr (.inr k))
    obtain ⟨w, r, q⟩ := hl i y av e1 e2 hvis
    refine ⟨w, r, .inr ⟨hfr.2, ?_⟩⟩
    obtain ⟨c, h1, h2⟩ := look hfr.1
    rcases q with ⟨k, _⟩ | ⟨_, c', e', z⟩
    . have k : X.env.scope.names.lookup y = some .local := k
      rcases ok.free _ (PySem.mem_of_lookup hfr.1) rfl with k' | k' <;> rw [show X.env.scope.names.lookup y = _ from k'] at k <;> cases k
    . rw [h2] at e'; cases e'
      exact ⟨c, h1, z.keeps kp⟩
  . have e : cenv.cells.lookup y = some c := e
    rcases mem e with ⟨h1, _⟩ | ⟨_, z⟩
    . obtain ⟨w, z⟩ := I.cell y c h1
      exact ⟨w, z.keeps kp⟩
    . exact ⟨_, z⟩
  . show H cenv.locals = none
    rw [hL]; exact I.hok.fresh (Nat.le_refl _)
  . have e : cenv.cells.lookup y = some c := e
    rcases mem e with ⟨h1, _⟩ | ⟨h1, _⟩
    . exact I.freeC y c h1
    . exact I.hok.fresh (Nat.le_of_succ_le h1)
  . exact absurd (show p ∈ ([] : List (Addr × Obj)) ++ [] from hp) (by simp)
theorem app_ok {E : Value -> Shared -> Prop} {D : Addr} {xs : List V} {y : V} {v : Value} {Q : Value -> Shared -> Prop} (I : Inv X pins σ H s) (hD : H D = some (.lst xs)) (hz : xs.length < sizeLine) (r : RelV y v)
    (h : ∀ s', Inv X pins σ (upd H D (.lst (xs ++ [y]))) s' -> Q .none s') : wpAny (model X.prog X.w) X.A (call (.builtin "list.append") [.ref D, v]) Q E s := by
  obtain ⟨hz', its, n, ri, e⟩ := I.hok D _ hD
  have hl := ri.length
  refine append_at (hsz := by rw [List.size_toArray]; omega) e fun h' sb ho' => ?_
  refine h { s with heap := h' } (I.write (t' := s.toks) (by rw [hD]; trivial) (.inl rfl) (fun b u hb q => (sb.2 b hb).trans q) ⟨_, ho'⟩ ⟨by rw [List.length_append]; exact hz, its ++ [v], n + 1, ri.append (.cons r .nil), ?_⟩)
  rw [ho']
  simp
def PTs (X : Cx) (ifs : List Expr) (t : TT) : Prop :=
  ∀ (pins : List (Addr × Obj)) (s : Shared) (σ : St) (H : Hp) (Q : Bool -> Hp -> Prop), Inv X pins σ H s -> t σ H Q ->
    wpAny (model X.prog X.w) X.A (forIn ifs true fun c r => if r = true then do let ok <- isTrue c X.env (eval c X.env); pure (ForInStep.yield ok) else pure (ForInStep.yield r)) (TP X pins σ Q) X.xe s
def tYes : TT := fun _ H Q => Q true H
theorem pts_nil : PTs X [] tYes := fun _ _ _ H _ I h => wpAny_tests_nil ⟨H, I, h⟩
theorem pts_one {c : Expr} {t : TT} (h : PT X c t) : PTs X [c] t := fun pins s σ H Q I hw => wpAny_tests_one (h pins s σ H Q I hw)
end
theorem thnF {α : Type} {t : Sem α} {Q Q' : α -> Shared -> Prop} {M : Model} {A : Around} {E : Value -> Shared -> Prop} {s : Shared} (h : wpAny M A t Q (fun _ _ => False) s) (hQ : ∀ a s, Q a s -> Q' a s) : wpAny M A t Q' E s := wpAny_mono h hQ fun _ _ z => False.elim z
theorem compLoop_any {prog : Program} {w : World} {A : Around} {R : Result -> Shared -> Prop} {s : Shared} {elt target iter : Expr} {ifs : List Expr} {scope : Scope} {pos : Pos} {it acc : Value} {env : Env} (I : Nat -> Shared -> Prop)
    (turn : ∀ n s, I n s -> wpAny (model prog w) A (pyNext it) (fun r s₁ => match r with
      | none => R (.ok .next) s₁
      | some v => wpAny (model prog w) A (letOwnedTupleGo target it v) (fun _ s₁' => wpAny (model prog w) A (assign target env v) (fun _ s₂ =>
          wpAny (model prog w) A (forIn ifs true fun c r => if r = true then do let ok <- isTrue c env (eval c env); pure (ForInStep.yield ok) else pure (ForInStep.yield r)) (fun ok s₃ =>
            if ok = true then wpAny (model prog w) A (eval elt env) (fun x s₄ =>
              wpAny (model prog w) A (call (.builtin "list.append") [acc, x]) (fun _ s₅ => ∃ m, m < n /\ I m s₅) (notedBy (model prog w) A env fun e s' => R (.error e) s') s₄) (notedBy (model prog w) A env fun e s' => R (.error e) s') s₃
            else ∃ m, m < n /\ I m s₃) (notedBy (model prog w) A env fun e s' => R (.error e) s') s₂) (notedBy (model prog w) A env fun e s' => R (.error e) s') s₁') (notedBy (model prog w) A env fun e s' => R (.error e) s') s₁) (notedBy (model prog w) A env fun e s' => R (.error e) s') s)
    (n : Nat) (h : I n s) :
    codeAny (model prog w) A (.compLoop (.ListComp elt [⟨target, iter, ifs, 0⟩] scope pos) 0 it acc env) R s := by
  refine codeAny_loop rfl I (fun n s hI => ?_) n h
  show wpAny _ A ((compTurn (.ListComp elt [⟨target, iter, ifs, 0⟩] scope pos) 0 it acc env).onRaise (fun x => do noteFrame x env; theTreesLotGoes x)) _ _ s
  refine wpAny_noted ?_
  rw [compTurn_list]
  refine wpAny_bind (wpAny_standAt (wpAny_bind (wpAny_mono (turn n s hI) (fun r s₁ h₁ => ?_) fun _ _ h' => h')))
  cases r with
  | none => exact wpAny_pure h₁
  | some v =>
    refine wpAny_bind (wpAny_mono h₁ (fun _ s₁' h₁' => ?_) fun _ _ h' => h')
    refine wpAny_bind (wpAny_mono h₁' (fun _ s₂ h₂ => wpAny_bind (wpAny_mono h₂ (fun ok s₃ h₃ => ?_) fun _ _ h' => h')) fun _ _ h' => h')
    cases ok with
    | false => exact wpAny_pure ⟨rfl, h₃⟩
    | true =>
      exact wpAny_bind (wpAny_bind (wpAny_mono h₃ (fun x s₄ h₄ => wpAny_bind (wpAny_mono h₄ (fun _ s₅ h₅ => wpAny_pure (wpAny_pure ⟨rfl, h₅⟩)) fun _ _ h' => h')) fun _ _ h' => h'))
section
variable {X : Cx}
def tLc (wi : TI) (g : TG) (tt : TT) (te : TE) (vs : List Nat) : TE := fun σ H Q => wi σ H fun J H1 => ∀ D, H1 D = none -> ∃ W : Nat -> Nat -> Hp -> Prop, (∃ m, W 0 m (upd H1 D (.lst []))) /\ ∀ i m H, W i m H ->
  (J.stop i H /\ Q (.ref D) H) \/ (J.go i H /\ ∃ Nx : Hp -> Prop, (∀ H', Nx H' -> ∃ m', m' < m /\ W (i + 1) m' H') /\ ∀ x H', J.yld i H x H' -> g x (wipe σ vs) H' fun σ2 H2 => wipe σ2 vs = wipe σ vs /\ tt σ2 H2 fun b H3 =>
    if b = true then te σ2 H3 fun y H4 => ∃ acc, H4 D = some (.lst acc) /\ acc.length < sizeLine /\ Nx (upd H4 D (.lst (acc ++ [y]))) else Nx H3)
theorem lc_core {pins : List (Addr × Obj)} {s : Shared} {σ : St} {H : Hp} {Q : VK} {elt tg iter : Expr} {ifs : List Expr} {scope : Scope} {own : List (Str × Nat)} {pos pos' : Pos} {wi : TI} {g : TG} {tt : TT} {te : TE} {use : Option (Value -> Sem Unit)} {Qf : Value -> Shared -> Prop}
    (hc : X.calm = true) (hN : X.N.Nodup) (I : Inv X pins σ H s) (hi : PI X tg iter wi) (ok : BlkOk X.N X.env.scope scope own)
    (hg : ∀ (s : Shared) (H : Hp) (C : Addr) (cl : List (Str × Addr)) (fp : List Addr), PG (X.blk s H scope (compEnvC scope cl C X.env) fp) tg g) (ht : ∀ (s : Shared) (H : Hp) (C : Addr) (cl : List (Str × Addr)) (fp : List Addr), PTs (X.blk s H scope (compEnvC scope cl C X.env) fp) ifs tt)
    (he : ∀ (s : Shared) (H : Hp) (C : Addr) (cl : List (Str × Addr)) (fp : List Addr), PE (X.blk s H scope (compEnvC scope cl C X.env) fp) elt te) (hs : ∀ x, foldedSetIterable iter X.env x = pure x)
    (h : tLc wi g tt te (own.map (·.2)) σ H Q)
    (hRR : ∀ D C s' m H', Inv X pins σ H' s' -> Q (.ref D) H' -> s'.heap.Ns C m -> FpOk X pins H' C -> compPost (model X.prog X.w) X.A X.xe use Qf (.ref D) C (.ok .next) s') :
    wpAny (model X.prog X.w) X.A (comprehension (.ListComp elt [⟨tg, iter, ifs, 0⟩] scope pos) scope X.env pos' (newList []) false (eval iter X.env) use) Qf X.xe s := by
  have hfree : ∀ y ∈ scope.names, y.2 = .free -> ∃ c, X.env.cells.lookup y.1 = some c := fun y hy e => by
    rcases ok.free y hy e with k | k
    . exact I.ok.has _ (.inl k)
    . exact I.ok.has _ (.inr k)
  refine wpAny_comprehension_free (use := use) rfl hs (closure_ok hfree) ok.kind (fun y hy e => by rw [ok.uniq y hy, e])
    (thn (hi pins s σ H _ I h) fun xv s1 hx => thn hx fun itv s2 h2 => ?_)
  obtain ⟨it, fp, tn, J, H2, e, I2, T, st2, f2, q⟩ := h2
  subst e
  refine wpAny_newObj_type (newEnv_comp ?_) (by show 0 <= sizeLine; decide)
  generalize hD : s2.heap.objs.size = D
  have hDn : H2 D = none := I2.hok.fresh (Nat.le_of_eq hD)
  obtain ⟨W, ⟨m0, w0⟩, turn⟩ := q D hDn
  generalize hs3 : ({ s2 with heap := s2.heap.push { cls := .type "list", data := .seq ([] : List Value).toArray } } : Shared) = s3
  have I3 : Inv X pins σ (upd H2 D (.lst [])) s3 := by
    rw [<- hs3]
    refine I2.laid (t' := s2.toks) (fun b o e => Heap.get?_push_of_some _ e) (Nat.le_of_eq hD) ⟨Nat.zero_le _, [], 0, .nil, ?_⟩
    rw [<- hD]
    exact Heap.get?_push_size _ rfl
  have h3 : s3.heap = s2.heap.push { cls := .type "list", data := .seq ([] : List Value).toArray } := by rw [<- hs3]
  have sz : ∀ b ∈ fp, b < s2.heap.objs.size := fun b hb => by
    obtain ⟨o, e, _⟩ := T.obj _ _ st2 b hb
    exact Heap.lt_size e
  have f3 : ∀ b ∈ fp, FpOk X pins (upd H2 D (.lst [])) b /\ b < s3.heap.objs.size := fun b hb => by
    have hlt := sz b hb
    refine ⟨⟨?_, (f2 b hb).2⟩, by rw [h3, Heap.size_push]; exact Nat.lt_succ_of_lt hlt⟩
    rw [upd_ne (by rw [<- hD]; exact Nat.ne_of_lt hlt)]
    exact (f2 b hb).1
  have st3 : tn 0 s3.heap := T.keep _ _ _ st2 fun b _ o e => by rw [h3]; exact Heap.get?_push_of_some _ e
  have I4 := block_start I3 ok hN f3
  have pg := hg s3 (upd H2 D (.lst [])) s3.heap.objs.size (cellsFrom (s3.heap.objs.size + 1) scope.names (cloFrom X.env.cells scope.names [])) fp
  have pt := ht s3 (upd H2 D (.lst [])) s3.heap.objs.size (cellsFrom (s3.heap.objs.size + 1) scope.names (cloFrom X.env.cells scope.names [])) fp
  have pe := he s3 (upd H2 D (.lst [])) s3.heap.objs.size (cellsFrom (s3.heap.objs.size + 1) scope.names (cloFrom X.env.cells scope.names [])) fp
  show codeAny _ _ (.compStart (.ListComp elt [⟨tg, iter, ifs, 0⟩] scope pos) 0 (.ref it) (.ref D) (compEnvC scope (cellsFrom (s3.heap.objs.size + 1) scope.names (cloFrom X.env.cells scope.names [])) s3.heap.objs.size X.env)) (compPost (model X.prog X.w) X.A X.xe use Qf (.ref D) s3.heap.objs.size) { s3 with heap := pushCells (s3.heap.push { cls := .type "dict", data := .dict #[] }) scope.names }
  have nfp : ∀ b ∈ fp, (upd H2 D (.lst [])) b = none := fun b hb => (f3 b hb).1.1
  generalize hce : compEnvC scope (cellsFrom (s3.heap.objs.size + 1) scope.names (cloFrom X.env.cells scope.names [])) s3.heap.objs.size X.env = ce at I4 pg pt pe ⊢
  have cL : ce.locals = s3.heap.objs.size := by subst hce; rfl
  generalize hH3 : upd H2 D (.lst []) = H3 at I3 I4 pg pt pe w0 nfp f3
  generalize hs4 : ({ s3 with heap := pushCells (s3.heap.push { cls := .type "dict", data := .dict #[] }) scope.names } : Shared) = s4 at I4 ⊢
  have st4 : tn 0 s4.heap := T.keep _ _ _ st3 fun b _ o e => by rw [<- hs4]; exact pushCells_keeps _ _ _ _ (Heap.get?_push_of_some _ e)
  have stat : ∀ {σ' : St} {H' : Hp} {s' : Shared}, Inv (X.blk s3 H3 scope ce fp) [] σ' H' s' -> (∀ b ∈ fp, H' b = none) -> ∀ b ∈ fp, FpOk (X.blk s3 H3 scope ce fp) [] H' b := fun {σ' H' s'} I' hn b hb =>
    ⟨hn b hb, (I'.ok.exf b hb).1, I'.ok.exfs b hb, .inl hb, fun x c e => (I'.ok.exf b hb).2 x c e, fun p hp => absurd (show p ∈ ([] : List (Addr × Obj)) ++ [] from hp) (by simp)⟩
  have loop : codeAny (model X.prog X.w) X.A (.compLoop (.ListComp elt [⟨tg, iter, ifs, 0⟩] scope pos) 0 (.ref it) (.ref D) ce) (compPost (model X.prog X.w) X.A X.xe use Qf (.ref D) s3.heap.objs.size) s4 := by
    refine compLoop_any (fun n s' => ∃ i H', Inv (X.blk s3 H3 scope ce fp) [] (wipe σ (own.map (·.2))) H' s' /\ tn i s'.heap /\ (∀ b ∈ fp, H' b = none) /\ W i n H') ?_ m0 ⟨0, H3, I4, st4, nfp, w0⟩
    rintro n s5 ⟨i, H5, I5, st5, n5, w5⟩
    rcases turn i n H5 w5 with ⟨stop, qq⟩ | ⟨go, Nx, hNx, step⟩
    . have td := T.done (X.blk s3 H3 scope ce fp) rfl rfl rfl hc i [] s5 _ H5 (fun _ _ => False) I5 (stat I5 n5) st5 stop
      refine thnF td fun r s6 ⟨hr, I6⟩ => ?_
      subst hr
      have I7 : Inv X pins σ H5 s6 := I3.call' (ch := fp) I6.os I6.base I6.hok I6.bare fun b hb => ⟨(f3 b hb).1.2.2.2.1, (f3 b hb).1.2.1, (f3 b hb).1.2.2.2.2.1, (f3 b hb).1.2.2.2.2.2⟩
      have nC : H5 s3.heap.objs.size = none := by
        have z : H5 ce.locals = none := I6.free
        rw [cL] at z
        exact z
      obtain ⟨m, hn, _⟩ := I6.loc
      have hn : s6.heap.Ns ce.locals m := hn
      rw [cL] at hn
      exact hRR D s3.heap.objs.size s6 m H5 I7 qq hn (I3.fpOk (Nat.le_refl _) nC)
    . have ti := T.item (X.blk s3 H3 scope ce fp) rfl rfl rfl hc i [] s5 _ H5 (fun _ _ => False) I5 (stat I5 n5) st5 go
      refine thnF ti fun r s6 ⟨u, hr, h6⟩ => ?_
      subst hr
      refine thnF h6 fun _ s7 ⟨x, H7, I7, r7, y7, st7, n7⟩ => ?_
      have I7' := I7.pinned (stat I7 n7) (T.obj _ _ st7)
      refine thnF (pg _ s7 _ H7 x u _ I7' r7 (step x H7 y7)) fun _ s8 ⟨σ8, H8, I8, hw8, q8⟩ => ?_
      refine thnF (pt _ s8 σ8 H8 _ I8 q8) fun b s9 ⟨H9, I9, q9⟩ => ?_
      have fin : ∀ {s' : Shared} {H' : Hp}, Inv (X.blk s3 H3 scope ce fp) ([] ++ pinsAt fp s7.heap) σ8 H' s' -> Nx H' -> ∃ m, m < n /\ ∃ i H', Inv (X.blk s3 H3 scope ce fp) [] (wipe σ (own.map (·.2))) H' s' /\ tn i s'.heap /\ (∀ b ∈ fp, H' b = none) /\ W i m H' := fun {s' H'} I' nx => by
        obtain ⟨m', hm, w'⟩ := hNx H' nx
        have pin' : ∀ b ∈ fp, ∀ o, s7.heap.get? b = some o -> s'.heap.get? b = some o /\ H' b = none := fun b hb o e =>
          let z := I'.pin (b, o) (List.mem_append_right _ (List.mem_append_right _ (mem_pinsAt hb e)))
          ⟨z.1, z.2.1⟩
        have hl : (wipe σ (own.map (·.2))).length = σ8.length := by rw [<- hw8, wipe_length]
        refine ⟨m', hm, i + 1, H', (I'.unpinned (pins := [])).weak hl (fun j v e => ?_), T.keep _ _ _ st7 fun b hb o e => (pin' b hb o e).1, fun b hb => ?_, w'⟩
        . rw [<- hw8] at e
          exact (wipe_some e).1
        . obtain ⟨o, e, _⟩ := T.obj _ _ st7 b hb
          exact (pin' b hb o e).2
      cases b with
      | false =>
        simp only [Bool.false_eq_true, if_false] at q9 ⊢
        exact fin I9 q9
      | true =>
        simp only [if_true] at q9 ⊢
        refine thnF (pe _ s9 σ8 H9 _ I9 q9) fun z s10 ⟨yv, H10, I10, r10, acc, hD10, hz10, nx⟩ => ?_
        exact app_ok (X := X.blk s3 H3 scope ce fp) I10 hD10 hz10 r10 fun s11 I11 => fin I11 nx
  exact codeAny_compStart_list loop (T.self X.A 0 _ _ _ st4 loop)
theorem pe_lc {elt tg iter : Expr} {ifs : List Expr} {scope : Scope} {own : List (Str × Nat)} {pos : Pos} {wi : TI} {g : TG} {tt : TT} {te : TE} (hc : X.calm = true) (hN : X.N.Nodup) (hi : PI X tg iter wi) (ok : BlkOk X.N X.env.scope scope own)
    (hg : ∀ (s : Shared) (H : Hp) (C : Addr) (cl : List (Str × Addr)) (fp : List Addr), PG (X.blk s H scope (compEnvC scope cl C X.env) fp) tg g) (ht : ∀ (s : Shared) (H : Hp) (C : Addr) (cl : List (Str × Addr)) (fp : List Addr), PTs (X.blk s H scope (compEnvC scope cl C X.env) fp) ifs tt)
    (he : ∀ (s : Shared) (H : Hp) (C : Addr) (cl : List (Str × Addr)) (fp : List Addr), PE (X.blk s H scope (compEnvC scope cl C X.env) fp) elt te) (hs : ∀ x, foldedSetIterable iter X.env x = pure x := by intro _; rfl) :
    PE X (.ListComp elt [⟨tg, iter, ifs, 0⟩] scope pos) (tLc wi g tt te (own.map (·.2))) := by
  intro pins s σ H Q I h
  rw [eval_ListComp]
  refine lc_core hc hN I hi ok hg ht he hs h fun D C s' m H' I' q hn f => ⟨m, hn, fun h'' sb => ?_⟩
  obtain ⟨f0, f1, f2, f3, f4, f5⟩ := f
  exact ⟨.ref D, H', I'.turned (t' := s'.toks) (fun b o hb e => (sb.2 b hb).trans e) f0 f1 f3 f4 f5, rfl, q⟩
theorem ps_setLc {i : Nat} {y : Str} {py : Pos} {elt tg iter : Expr} {ifs : List Expr} {scope : Scope} {own : List (Str × Nat)} {pos spos : Pos} {wi : TI} {g : TG} {tt : TT} {te : TE} (hc : X.calm = true) (hN : X.N.Nodup) (hy : X.N[i]? = some y) (hyl : X.env.scope.names.lookup y = some .local)
    (hsw : swapsWith (.ListComp elt [⟨tg, iter, ifs, 0⟩] scope pos) (some (.Name y py)) spos.line X.env = pure true) (hi : PI X tg iter wi) (ok : BlkOk X.N X.env.scope scope own)
    (hg : ∀ (s : Shared) (H : Hp) (C : Addr) (cl : List (Str × Addr)) (fp : List Addr), PG (X.blk s H scope (compEnvC scope cl C X.env) fp) tg g) (ht : ∀ (s : Shared) (H : Hp) (C : Addr) (cl : List (Str × Addr)) (fp : List Addr), PTs (X.blk s H scope (compEnvC scope cl C X.env) fp) ifs tt)
    (he : ∀ (s : Shared) (H : Hp) (C : Addr) (cl : List (Str × Addr)) (fp : List Addr), PE (X.blk s H scope (compEnvC scope cl C X.env) fp) elt te) (hs : ∀ x, foldedSetIterable iter X.env x = pure x := by intro _; rfl) :
    PS X (.Assign [.Name y py] (.ListComp elt [⟨tg, iter, ifs, 0⟩] scope pos) spos) (tAsg (tLc wi g tt te (own.map (·.2))) (gName i)) := by
  intro pins s σ H D I h
  rw [exec_Assign_Name_used _ _ _ _ hsw]
  refine wpAny_bind (wpAny_standAt (wpAny_bind ?_))
  show wpAny _ X.A (do let _ <- comprehension (.ListComp elt [⟨tg, iter, ifs, 0⟩] scope pos) scope X.env (firstIterPos [⟨tg, iter, ifs, 0⟩] pos) (newList []) false (eval iter X.env) (some (assign (.Name y py) X.env))) _ _ s
  have h : tLc wi g tt te (own.map (·.2)) σ H (fun x H1 => gName i x σ H1 D.nx) := h
  refine wpAny_bind (thn (lc_core (Qf := fun _ s' => SP X pins D .next s') hc hN I hi ok hg ht he hs h fun L C s' m H' I' q hn f => ?_) fun _ s' hq => wpAny_pure (wpAny_pure hq))
  show wpAny _ _ (assign (.Name y py) X.env (.ref L)) _ _ _
  refine wpAny_assign_Name (store_ok2 (v := V.ref L) I' hN hy (.inl hyl) rfl (fun s2 I2 ⟨a, sb, ha⟩ => ?_) (.inr hyl))
  obtain ⟨f0, f1, f2, f3, f4, f5⟩ := f
  have haC : C ≠ a := by
    rcases ha with z | z
    . rw [z]; exact f1
    . exact fun e => f4 y a z e.symm
  refine ⟨m, hn.sameBut sb haC, fun h3 sb3 => ?_⟩
  exact ⟨_, H', I2.turned (t' := s2.toks) (fun b o hb e => (sb3.2 b hb).trans e) f0 f1 f3 f4 f5, q⟩
theorem sw_true {elt : Expr} {gs : List Comprehension} {scope : Scope} {pos py : Pos} {y : Str} {l : Nat} {env : Env} (hk : env.scope.kind = .function) (hy : env.scope.names.lookup y = some .local) (hl : (py.line == pos.line) = true)
    (ha : (scope.names.any fun (n, k) => n == y && (k == .local || k == .cell)) = false) : swapsWith (.ListComp elt gs scope pos) (some (.Name y py)) l env = pure true := by
  have ky : env.kindOf y = some .local := hy
  have hb : env.blockKind = .function := by unfold Env.blockKind; rw [hk]; rfl
  unfold swapsWith
  simp only [hb, ky, ha, Expr.pos, hl]
  rfl
end
theorem lc_range {lo : Int} {n : Nat} {g : TG} {tt : TT} {te : TE} {vs : List Nat} {σ : St} {H1 : Hp} {D : Addr} {Qd : Hp -> Prop} (Pv : Nat -> Hp -> Prop) (h0 : Pv 0 (upd H1 D (.lst [])))
    (hs : ∀ i H, i < n -> Pv i H -> g (.int (lo + i)) (wipe σ vs) H fun σ2 H2 => wipe σ2 vs = wipe σ vs /\ tt σ2 H2 fun b H3 =>
      if b = true then te σ2 H3 fun y H4 => ∃ acc, H4 D = some (.lst acc) /\ acc.length < sizeLine /\ Pv (i + 1) (upd H4 D (.lst (acc ++ [y]))) else Pv (i + 1) H3) (hd : ∀ H, Pv n H -> Qd H) :
    ∃ W : Nat -> Nat -> Hp -> Prop, (∃ m, W 0 m (upd H1 D (.lst []))) /\ ∀ i m H, W i m H ->
      ((Itr lo n).stop i H /\ Qd H) \/ ((Itr lo n).go i H /\ ∃ Nx : Hp -> Prop, (∀ H', Nx H' -> ∃ m', m' < m /\ W (i + 1) m' H') /\ ∀ x H', (Itr lo n).yld i H x H' -> g x (wipe σ vs) H' fun σ2 H2 => wipe σ2 vs = wipe σ vs /\ tt σ2 H2 fun b H3 =>
        if b = true then te σ2 H3 fun y H4 => ∃ acc, H4 D = some (.lst acc) /\ acc.length < sizeLine /\ Nx (upd H4 D (.lst (acc ++ [y]))) else Nx H3) := by
  refine ⟨fun i m H => m = n - i /\ i <= n /\ Pv i H, ⟨n, by simp, Nat.zero_le _, h0⟩, ?_⟩
  rintro i m H ⟨rfl, hi, p⟩
  by_cases hlt : i < n
  . refine .inr ⟨hlt, Pv (i + 1), fun H' p' => ⟨n - (i + 1), by omega, rfl, hlt, p'⟩, fun x H' y => ?_⟩
    obtain ⟨e, y⟩ := y
    subst e y
    exact hs i _ hlt p
  . have e : i = n := by omega
    subst e
    exact .inl ⟨Nat.le_refl _, hd H p⟩
theorem lc_list {K : PySem.W.Frag} {a : Addr} {xs : List V} {g : TG} {tt : TT} {te : TE} {vs : List Nat} {σ : St} {H1 : Hp} {D : Addr} {Qd : Hp -> Prop} (Pv : Nat -> Hp -> Prop) (h0 : Pv 0 (upd H1 D (.lst []))) (hl : ∀ i H, i <= xs.length -> Pv i H -> SqL K H a xs)
    (hs : ∀ i x H, xs[i]? = some x -> Pv i H -> g x (wipe σ vs) H fun σ2 H2 => wipe σ2 vs = wipe σ vs /\ tt σ2 H2 fun b H3 =>
      if b = true then te σ2 H3 fun y H4 => ∃ acc, H4 D = some (.lst acc) /\ acc.length < sizeLine /\ Pv (i + 1) (upd H4 D (.lst (acc ++ [y]))) else Pv (i + 1) H3) (hd : ∀ H, Pv xs.length H -> Qd H) :
    ∃ W : Nat -> Nat -> Hp -> Prop, (∃ m, W 0 m (upd H1 D (.lst []))) /\ ∀ i m H, W i m H ->
      ((Itl K a).stop i H /\ Qd H) \/ ((Itl K a).go i H /\ ∃ Nx : Hp -> Prop, (∀ H', Nx H' -> ∃ m', m' < m /\ W (i + 1) m' H') /\ ∀ x H', (Itl K a).yld i H x H' -> g x (wipe σ vs) H' fun σ2 H2 => wipe σ2 vs = wipe σ vs /\ tt σ2 H2 fun b H3 =>
        if b = true then te σ2 H3 fun y H4 => ∃ acc, H4 D = some (.lst acc) /\ acc.length < sizeLine /\ Nx (upd H4 D (.lst (acc ++ [y]))) else Nx H3) := by
  refine ⟨fun i m H => m = xs.length - i /\ i <= xs.length /\ Pv i H, ⟨xs.length, by simp, Nat.zero_le _, h0⟩, ?_⟩
  rintro i m H ⟨rfl, hi, p⟩
  have q := hl i H hi p
  by_cases hlt : i < xs.length
  . refine .inr ⟨⟨xs, xs[i], q, by simp [hlt]⟩, Pv (i + 1), fun H' p' => ⟨xs.length - (i + 1), by omega, rfl, hlt, p'⟩, fun x H' y => ?_⟩
    obtain ⟨e, y⟩ := y
    subst e
    exact hs i x _ (y xs q) p
  . have e : i = xs.length := by omega
    subst e
    exact .inl ⟨⟨xs, q, Nat.le_refl _⟩, hd H p⟩
def blkC (N : List Str) (sc scope : Scope) (own : List (Str × Nat)) : Bool :=
  (match scope.kind with | .function => true | _ => false) && (scope.names.all fun y => decide (scope.names.lookup y.1 = some y.2)) && (own.all fun p => decide (N[p.2]? = some p.1)) &&
    (scope.names.all fun y => match y.2 with
      | .free => (match sc.names.lookup y.1 with | some .cell => true | some .free => true | _ => false)
      | .local => decide (y.1 ∈ own.map (·.1)) || decide (y.1 ∉ N)
      | .cell => decide (y.1 ∈ own.map (·.1)) || decide (y.1 ∉ N)
      | _ => true)
theorem blkOk_by {N : List Str} {sc scope : Scope} {own : List (Str × Nat)} (h : blkC N sc scope own = true) : BlkOk N sc scope own := by
  unfold blkC at h
  simp only [Bool.and_eq_true, List.all_eq_true, decide_eq_true_eq] at h
  obtain ⟨⟨⟨h1, h2⟩, h3⟩, h4⟩ := h
  refine ⟨?_, h2, h3, fun y hy e => ?_, fun y hy e => ?_⟩
  . split at h1
    . assumption
    . cases h1
  . have q := h4 y hy
    simp only [e] at q
    split at q <;> first | exact .inl (by assumption) | exact .inr (by assumption) | cases q
  . have q := h4 y hy
    rcases e with e | e <;> (simp only [e, Bool.or_eq_true, decide_eq_true_eq] at q; exact q)
def NoSl (i : Expr) : Prop := ∀ ov iv, subscripted i false ov iv = operate [ov, iv] (getItem ov iv)
theorem subD_of {prog : Program} {w : World} {A : Around} {E : Value -> Shared -> Prop} {s : Shared} {env : Env} {value slice : Expr} {pos : Pos} {T id : String} {Q : Value -> Shared -> Prop}
    (hl : typeLookup (.type T) "__getitem__" = pure (some (.builtin id))) (hs : NoSl slice)
    (h : wpAny (model prog w) A (eval value env) (fun o s₁ => wpAny (model prog w) A (eval slice env) (fun i s₂ => s₂.TypeIs o T /\ wpAny (model prog w) A (getItem o i) Q E s₂) E s₁) E s) :
    wpAny (model prog w) A (eval (.Subscript value slice pos) env) Q E s := by
  refine Subscript_ (wpAny_mono h (fun o s₁ h₁ => wpAny_mono h₁ (fun i s₂ h₂ => ?_) fun _ _ x => x) fun _ _ x => x)
  obtain ⟨hT, h₂⟩ := h₂
  unfold subscriptTail
  refine wpAny_bind ?_
  rw [getitemInPython_of_ne hT.not_modules]
  refine wpAny_bind (wpAny_specialOf hT hl ?_)
  have fin : wpAny (model prog w) A (subscripted slice false o i) (fun r s₃ => wpAny (model prog w) A (letTemporaryGo value o r >>= fun _ => pure r) Q E s₃) E s₂ := by
    rw [hs o i]
    exact wpAny_operating (wpAny_mono h₂ (fun r s₃ h₃ => wpAny_bind (wpAny_letTemporaryGo (wpAny_pure h₃))) fun _ _ x => x)
  first
    | exact wpAny_pure (wpAny_bind fin)
    | exact wpAny_bind (wpAny_pure (wpAny_bind fin))
    | exact wpAny_bind fin
structure M2 (X : Cx) (o : Expr) (m : Str) (apos : Pos) (e f : Expr) (cpos : Pos) : Prop where
  base : attributeBase o m X.env (eval o X.env) = eval o X.env
  few : ((backTo cpos (starEach [e, f] X.env)).all (fun x => !x.1) && (backToKw cpos (keywordEach [] X.env)).all (fun x => x.1.isSome)
    && decide (([e, f] : List Expr).length + ([] : List Keyword).length + (if ([] : List Keyword).isEmpty then 0 else 1) < 30)) = true
  line : (apos.endLine == cpos.line) = true
  trees : backTo cpos (starEach [e, f] X.env) = [(false, eval e X.env), (false, eval f X.env)]
section
variable {X : Cx} {pins : List (Addr × Obj)} {σ : St} {H : Hp} {s : Shared} {h' : Heap}
theorem Inv.turnedL {t' : Nat} {ch : List Addr} (I : Inv X pins σ H s) (k : ∀ b o, b ∉ ch -> s.heap.get? b = some o -> h'.get? b = some o) (hf : ∀ b ∈ ch, FpOk X pins H b) : Inv X pins σ H { s with heap := h', toks := t' } := by
  have nit : ∀ b u, H b = some u -> b ∉ ch := fun b u e z => by
    have q := (hf b z).1
    rw [q] at e; cases e
  refine I.step (g' := s.gens) (d' := s.drawn) (ch := ch) (fun b hb => ⟨(hf b hb).2.2.2.1, (hf b hb).2.1, (hf b hb).2.2.2.2.1, (hf b hb).2.2.2.2.2⟩) (fun b o _ _ hc e _ => k b o hc e) (fun b o _ _ hc e _ => ⟨o.slots, k b o hc e⟩)
    (fun _ _ _ _ n => n) (fun b o hc e => ⟨o, k b o hc e⟩) (fun _ _ e => e) (fun _ _ _ e => e) (fun b ps e => ⟨#[], by rw [e]; simp⟩) (fun m hm => ?_) (fun b u e => ?_) I.bare
  . obtain ⟨o, es, ep, ho, r⟩ := hm
    exact ⟨o, es, ep, k _ o (fun z => (hf _ z).2.1 rfl) ho, r⟩
  . refine (I.hok b u e).stay (fun c v hc q => k c v ?_ q) (fun _ q => q) fun _ _ q => q
    rcases hc with z | z
    . rw [z]; exact nit b u e
    . exact nit c _ z
theorem Inv.turnedNew {t' : Nat} {ch : List Addr} {T : Addr} {ob : HO} (I : Inv X pins σ H s) (k : ∀ b o, b ∉ ch -> s.heap.get? b = some o -> h'.get? b = some o) (hf : ∀ b ∈ ch, FpOk X pins H b) (hT : s.heap.objs.size <= T)
    (new : ObjOk X.prog X.w (upd H T ob) h' T ob) : Inv X pins σ (upd H T ob) { s with heap := h', toks := t' } := by
  have hn : H T = none := I.hok.fresh hT
  have nit : ∀ b u, H b = some u -> b ∉ ch := fun b u e z => by
    have q := (hf b z).1
    rw [q] at e; cases e
  refine I.step (g' := s.gens) (d' := s.drawn) (ch := ch) (fun b hb => ⟨(hf b hb).2.2.2.1, (hf b hb).2.1, (hf b hb).2.2.2.2.1, (hf b hb).2.2.2.2.2⟩) (fun b o _ _ hc e _ => k b o hc e) (fun b o _ _ hc e _ => ⟨o.slots, k b o hc e⟩)
    (fun b o _ e n => ?_) (fun b o hc e => ⟨o, k b o hc e⟩) (fun b xs e => ?_) (fun b o u e => ?_) (fun b ps e => ⟨#[], ?_⟩) (fun m hm => ?_) (fun b u e => ?_) I.bare
  . rw [upd_ne (Nat.ne_of_lt (Nat.lt_of_lt_of_le (Heap.lt_size e) hT))]; exact n
  . rw [upd_ne (ne_of_none e hn)]; exact e
  . rw [upd_ne (ne_of_none e hn)]; exact e
  . rw [upd_ne (ne_of_none e hn), e]; simp
  . obtain ⟨o, es, ep, ho, r⟩ := hm
    exact ⟨o, es, ep, k _ o (fun z => (hf _ z).2.1 rfl) ho, r⟩
  . by_cases hb : b = T
    . subst hb
      rw [upd_same] at e
      cases e
      exact new
    . rw [upd_ne hb] at e
      refine (I.hok b u e).stay (fun c v hc q => k c v ?_ q) (fun c q => by rw [upd_ne (ne_of_none q hn)]; exact q) fun c xs q => by rw [upd_ne (ne_of_none q hn)]; exact q
      rcases hc with z | z
      . rw [z]; exact nit b u e
      . exact nit c _ z
end
section
variable {X : Cx}
theorem pi_one {tg : Expr} {pins : List (Addr × Obj)} {σ : St} {H : Hp} {s : Shared} {R : It -> Hp -> Prop} {J : It} {tn : Nat -> Heap -> Prop} {tk : Nat} (I : Inv X pins σ H s) (o : Obj)
    (T : Turn X.prog X.w X.K tg J [s.heap.objs.size] s.heap.objs.size tn) (st : tn 0 (s.heap.push o)) (q : R J H) : PIE X pins σ tg R (.ref s.heap.objs.size) { s with heap := s.heap.push o, toks := tk } := by
  refine ⟨s.heap.objs.size, [s.heap.objs.size], tn, J, H, rfl, I.kept fun b ob e => Heap.get?_push_of_some _ e, T, st, fun b hb => ?_, q⟩
  have e : b = s.heap.objs.size := by simpa using hb
  subst e
  exact I.fpOk (Nat.le_refl _) (I.hok.fresh (Nat.le_refl _))
end
def Itc (lo c : Int) (n : Nat) : It := ⟨fun i _ => i < n, fun i H x H' => H' = H /\ x = .int (lo + (i : Nat) * c), fun i _ => n <= i⟩
theorem turn_rangeC {P : Program} {w : World} {K : PySem.W.Frag} {tg : Expr} (it : Addr) (lo c : Int) (n : Nat) : Turn P w K tg (Itc lo c n) [it] it (fun i h => IsRangeIter h it (lo + (i : Nat) * c) ((n : Int) - (i : Nat)) c) where
  mem := by simp
  obj := fun i h st b hb => by
    have e : b = it := by simpa using hb
    subst e
    exact ⟨_, st, fun v z => nomatch z⟩
  keep := fun i h h' st k => k it (by simp) _ st
  item := by
    intro X hP hw hK hc i pins s σ H E I hf st hg
    subst hP hw hK
    obtain ⟨f0, f1, f2, f3, f4, f5⟩ := hf it (by simp)
    have W := Walks.range (prog := X.prog) (w := X.w) (I.ok.hd hc) it lo c n
    refine W.item i s _ _ hg st fun v h' tk hv st' kk => ?_
    obtain ⟨t, rfl⟩ := hv
    have I1 : Inv X pins σ H { s with heap := h', toks := tk } := I.turned (fun b o hb e => kk b o (by simpa using hb) e) f0 f1 f3 f4 f5
    exact ⟨_, rfl, go_of (s := { s with heap := h', toks := tk }) (n := "range_iterator") st' rfl rfl (by decide) ⟨.int (lo + (i : Nat) * c), H, I1, ⟨t, rfl⟩, ⟨rfl, rfl⟩, st', fun b hb => (hf b hb).1⟩⟩
  done := by
    intro X hP hw hK hc i pins s σ H E I hf st hg
    subst hP hw hK
    obtain ⟨f0, f1, f2, f3, f4, f5⟩ := hf it (by simp)
    exact wpAny_pyNext_range_end (I.ok.hd hc) st (by have : n <= i := hg; omega) fun h' eb => ⟨rfl, I.turned (t' := s.toks) (fun b o hb e => eb b o hb e) f0 f1 f3 f4 f5⟩
  self := fun A i s Q E st h => wpAny_pyIter_rangeiter st h
def RgC (i j c : Int) (n : Nat) : Prop := c ≠ 0 /\ c.natAbs < 1073741824 /\ Builtin.Range.small i j c = true /\ Builtin.Range.rangeSize i j c = n
def iRng3 (ta : TA) : TI := fun σ H R => ta σ H fun vs H1 => ∃ (i j c : Int) (n : Nat), vs = [.int i, .int j, .int c] /\ RgC i j c n /\ R (Itc i c n) H1
section
variable {X : Cx} {tg : Expr}
theorem pi_range3 {a b c : Expr} {ta : TA} {p pos : Pos} (hg : Gl X "range") (hm : X.mg "range" = none) (ha : PA X [a, b, c] ta)
    (hs : starEach [a, b, c] X.env = (false, eval a X.env) :: starEach [b, c] X.env := by rfl) (hpl : (backTo pos (starEach [b, c] X.env)).any (·.1) = false := by rfl) :
    PI X tg (.Call (.Name "range" p) [a, b, c] [] pos) (iRng3 ta) := by
  intro pins s σ H R I h
  refine Call_ (ld_blt I hg hm boot_range (PyProof.Rows.callWith_type1 (thn (ha pos pins s σ H _ I h) fun us s1 ⟨vs, H1, I1, r1, q1⟩ => ?_) hs hpl))
  obtain ⟨i, j, k, n, e, ⟨c0, c1, c2, c3⟩, q⟩ := q1
  subst e
  cases r1 with
  | cons r rr =>
    cases rr with
    | cons r' rr =>
      cases rr with
      | cons r'' rr =>
        cases rr
        obtain ⟨t, rfl⟩ := r
        obtain ⟨t', rfl⟩ := r'
        obtain ⟨t'', rfl⟩ := r''
        refine call_range_3 c0 ?_ (.inl (PyProof.noPylong_small c1))
        refine wpAny_pyIter_range (IsRange.new ..) c2 ?_
        have I2 : Inv X pins σ H1 { s1 with heap := s1.heap.push { cls := .type "range", data := .fields #[.int i t, .int j t', .int k t''] } } := I1.kept (t' := s1.toks) fun b o e => Heap.get?_push_of_some _ e
        refine pi_one (tk := s1.toks) I2 _ (turn_rangeC _ i k n) ?_ q
        have e1 : i + ((0 : Nat) : Int) * k = i := by simp
        have e2 : (n : Int) - ((0 : Nat) : Int) = Builtin.Range.rangeSize i j k := by rw [c3]; simp
        show IsRangeIter _ _ (i + ((0 : Nat) : Int) * k) ((n : Int) - ((0 : Nat) : Int)) k
        rw [e1, e2]
        exact Heap.get?_push_size _ rfl
end
theorem for_rangeC {lo c : Int} {n : Nat} {g : TG} {tb : TS} {D : Ends} {σ : St} {H : Hp} (Pv : Nat -> St -> Hp -> Prop) (h0 : Pv 0 σ H)
    (hs : ∀ i σ H, i < n -> Pv i σ H -> g (.int (lo + (i : Nat) * c)) σ H fun σ2 H2 => tb { D with nx := Pv (i + 1), ct := Pv (i + 1), bk := D.nx } σ2 H2) (hd : ∀ σ H, Pv n σ H -> D.nx σ H) :
    ∃ W : Nat -> Nat -> St -> Hp -> Prop, (∃ m, W 0 m σ H) /\ ∀ i m σ H, W i m σ H ->
      ((Itc lo c n).stop i H /\ D.nx σ H) \/ ((Itc lo c n).go i H /\ ∃ N : St -> Hp -> Prop, (∀ σ' H', N σ' H' -> ∃ m', m' < m /\ W (i + 1) m' σ' H') /\ ∀ x H', (Itc lo c n).yld i H x H' -> g x σ H' fun σ2 H2 => tb { D with nx := N, ct := N, bk := D.nx } σ2 H2) := by
  refine ⟨fun i m σ H => m = n - i /\ i <= n /\ Pv i σ H, ⟨n, by simp, Nat.zero_le _, h0⟩, ?_⟩
  rintro i m σ H ⟨rfl, hi, p⟩
  by_cases hlt : i < n
  . refine .inr ⟨hlt, Pv (i + 1), fun σ' H' p' => ⟨n - (i + 1), by omega, rfl, hlt, p'⟩, fun x H' y => ?_⟩
    obtain ⟨e, y⟩ := y
    subst e y
    exact hs i σ _ hlt p
  . have e : i = n := by omega
    subst e
    exact .inl ⟨Nat.le_refl _, hd σ H p⟩
def Its (x : Str) : It := ⟨fun i _ => i < x.cps.size, fun i H v H' => H' = H /\ ∃ c, x.cps[i]? = some c /\ v = .str ⟨#[c]⟩, fun i _ => x.cps.size <= i⟩
theorem turn_str {P : Program} {w : World} {K : PySem.W.Frag} {tg : Expr} (it : Addr) (x : Str) (t : Tok) (ty : String) (hty : ty = "str_ascii_iterator" \/ ty = "str_iterator") :
    Turn P w K tg (Its x) [it] it (fun i h => h.IsStrIter it ty x t i) where
  mem := by simp
  obj := fun i h st b hb => by
    have e : b = it := by simpa using hb
    subst e
    obtain ⟨o, e, c, d⟩ := st
    exact ⟨o, e, fun v z => by rw [d] at z; cases z⟩
  keep := fun i h h' st k => let ⟨o, ho, r⟩ := st; ⟨o, k it (by simp) o ho, r⟩
  item := by
    intro X hP hw hK hc i pins s σ H E I hf st hg
    subst hP hw hK
    obtain ⟨f0, f1, f2, f3, f4, f5⟩ := hf it (by simp)
    have W : Walks X.prog X.w X.A it [it] [it] x.cps.size (SignAt x) (fun i h => h.IsStrIter it ty x t i) := by
      rcases hty with e | e
      . rw [e]; exact Walks.strAscii (I.ok.hd hc) it x t
      . rw [e]; exact Walks.strWide (I.ok.hd hc) it x t
    have hno : ["enumerate", "zip", "dict_itemiterator", "dict_reverseitemiterator", "odict_iterator", "itertools.zip_longest", "itertools.pairwise"].contains ty = false := by
      rcases hty with e | e
      . rw [e]; decide
      . rw [e]; decide
    refine W.item i s _ _ hg st fun v h' tk hv st' kk => ?_
    obtain ⟨c, u, hcx, rfl⟩ := hv
    have I1 : Inv X pins σ H { s with heap := h', toks := tk } := I.turned (fun b o hb e => kk b o (by simpa using hb) e) f0 f1 f3 f4 f5
    obtain ⟨oi, e, cc, dd⟩ := id st'
    exact ⟨_, rfl, go_of (s := { s with heap := h', toks := tk }) e cc dd hno ⟨.str ⟨#[c]⟩, H, I1, ⟨u, rfl⟩, ⟨rfl, c, hcx, rfl⟩, st', fun b hb => (hf b hb).1⟩⟩
  done := by
    intro X hP hw hK hc i pins s σ H E I hf st hg
    subst hP hw hK
    obtain ⟨f0, f1, f2, f3, f4, f5⟩ := hf it (by simp)
    have hx : x.cps[i]? = none := Array.getElem?_eq_none hg
    rcases hty with e | e
    . rw [e] at st
      exact wpAny_pyNext_ascii_end (I.ok.hd hc) st hx fun h' eb => ⟨rfl, I.turned (t' := s.toks) (fun b o hb e => eb b o hb e) f0 f1 f3 f4 f5⟩
    . rw [e] at st
      exact wpAny_pyNext_wide_end (I.ok.hd hc) st hx fun h' eb => ⟨rfl, I.turned (t' := s.toks) (fun b o hb e => eb b o hb e) f0 f1 f3 f4 f5⟩
  self := fun A i s Q E st h => by
    rcases hty with e | e
    . rw [e] at st; exact wpAny_pyIter_striter_ascii st h
    . rw [e] at st; exact wpAny_pyIter_striter_wide st h
def iStr (te : TE) : TI := fun σ H R => te σ H fun v H1 => ∃ x, v = .str x /\ R (Its x) H1
theorem pi_str {X : Cx} {tg e : Expr} {te : TE} (he : PE X e te) : PI X tg e (iStr te) := by
  intro pins s σ H R I h
  refine thn (he pins s σ H _ I h) fun v s1 ⟨y, H1, I1, r1, x, ex, q⟩ => ?_
  subst ex
  obtain ⟨t, rfl⟩ := r1
  cases ha : x.cps.all (· < 128)
  . exact wpAny_pyIter_wide ha (pi_one (tk := s1.toks) I1 _ (turn_str _ x t "str_iterator" (.inr rfl)) ⟨_, Heap.get?_push_size _ rfl, rfl, rfl⟩ q)
  . exact wpAny_pyIter_ascii ha (pi_one (tk := s1.toks) I1 _ (turn_str _ x t "str_ascii_iterator" (.inl rfl)) ⟨_, Heap.get?_push_size _ rfl, rfl, rfl⟩ q)
def Ite (K : PySem.W.Frag) (a : Addr) : It :=
  ⟨fun i H => ∃ (xs : List V) (x : V), SqL K H a xs /\ xs[i]? = some x, fun i H v H' => ∃ T x, v = .ref T /\ H T = none /\ H' = upd H T (.tup [.int (i : Nat), x]) /\ ∀ xs, SqL K H a xs -> xs[i]? = some x, fun i H => ∃ xs : List V, SqL K H a xs /\ xs.length <= i⟩
theorem turn_enum {P : Program} {w : World} {K : PySem.W.Frag} {elts : List Expr} {kk : Nat} {tpos : Pos} (a e it : Addr) :
    Turn P w K (.Tuple elts kk tpos) (Ite K a) [e, it] e (fun i h => (∃ old, IsEnum h e it ((i : Nat) : Int) old) /\ h.IsListIter it a i /\ e ≠ it) where
  mem := by simp
  obj := fun i h st b hb => by
    obtain ⟨⟨old, he⟩, ⟨o, ho, hc, hd⟩, _⟩ := st
    have e' : b = e \/ b = it := by simpa using hb
    rcases e' with z | z
    . rw [z]; exact ⟨_, he, fun v q => nomatch q⟩
    . rw [z]; exact ⟨o, ho, fun v q => by rw [hd] at q; cases q⟩
  keep := fun i h h' st k => let ⟨⟨old, he⟩, hi, hne⟩ := st; ⟨⟨old, k e (by simp) _ he⟩, hi.at fun o q => k it (by simp) o q, hne⟩
  item := by
    intro X hP hw hK hc i pins s σ H E I hf st hg
    subst hP hw hK
    obtain ⟨⟨old, he⟩, hit, hne⟩ := st
    obtain ⟨xs, x, hq, hx⟩ := hg
    obtain ⟨its, rv, p, hz⟩ := I.list hq
    obtain ⟨u, hu, ru⟩ := rv.get hx
    have hel : e < s.heap.objs.size := Heap.lt_size he
    have hil : it < s.heap.objs.size := by obtain ⟨_, q, _⟩ := hit; exact Heap.lt_size q
    refine wpAny_pyNext_enum_item he hit p.isList (x := u) (by simpa using hu) hne fun h' ho hit' hT hsz hk => ?_
    refine ⟨_, rfl, wpAny_letOwnedTupleGo_enum (s := { s with heap := h', toks := s.toks + 1 }) ho fun h'' he' sb => ?_⟩
    have hT2 : h''.get? s.heap.objs.size = some { cls := .type "tuple", data := .seq #[.int i s.toks, u] } := (sb.2 _ (Nat.ne_of_gt hel)).trans hT
    have new : ObjOk X.prog X.w (upd H s.heap.objs.size (.tup [.int (i : Nat), x])) h'' s.heap.objs.size (.tup [.int (i : Nat), x]) :=
      ⟨by show 2 <= sizeLine; decide, [.int i s.toks, u], .cons ⟨_, rfl⟩ (.cons ru .nil), ⟨_, hT2, rfl, _, rfl⟩⟩
    have I1 : Inv X pins σ (upd H s.heap.objs.size (.tup [.int (i : Nat), x])) { s with heap := h'', toks := s.toks + 1 } :=
      I.turnedNew (ch := [e, it]) (fun b ob hb q => (sb.2 b (fun z => hb (by simp [z]))).trans (hk b ob (fun z => hb (by simp [z])) (fun z => hb (by simp [z])) q)) hf (Nat.le_refl _) new
    refine ⟨.ref s.heap.objs.size, _, I1, rfl, ⟨_, x, rfl, I.hok.fresh (Nat.le_refl _), rfl, fun ys hy => by rw [I.list_inj hy hq]; exact hx⟩, ⟨⟨u, ?_⟩, hit'.at fun o q => (sb.2 it (Ne.symm hne)).trans q, hne⟩, fun b hb => ?_⟩
    . have e1 : ((i + 1 : Nat) : Int) = (i : Int) + 1 := by omega
      rw [e1]; exact he'
    . have hb' : b < s.heap.objs.size := by
        have e' : b = e \/ b = it := by simpa using hb
        rcases e' with z | z
        . rw [z]; exact hel
        . rw [z]; exact hil
      rw [upd_ne (Nat.ne_of_lt hb')]
      exact (hf b hb).1
  done := by
    intro X hP hw hK hc i pins s σ H E I hf st hg
    subst hP hw hK
    obtain ⟨⟨old, he⟩, hit, hne⟩ := st
    obtain ⟨xs, hq, hx⟩ := hg
    obtain ⟨its, rv, p, hz⟩ := I.list hq
    obtain ⟨f0, f1, f2, f3, f4, f5⟩ := hf it (by simp)
    have hl := rv.length
    exact wpAny_pyNext_enum_end (I.ok.hd hc) he hit p.isList (by simp; omega) fun h' eb => ⟨rfl, I.turned (t' := s.toks) (fun b o hb q => eb b o hb q) f0 f1 f3 f4 f5⟩
  self := fun A i s Q E st h => let ⟨⟨_, he⟩, _⟩ := st; wpAny_pyIter_enum he h
def iEnum (K : PySem.W.Frag) (ta : TA) : TI := fun σ H R => ta σ H fun vs H1 => ∃ a xs, vs = [.ref a] /\ SqL K H1 a xs /\ R (Ite K a) H1
theorem pi_enum {X : Cx} {e : Expr} {ta : TA} {p pos tpos : Pos} {elts : List Expr} {kk : Nat} (hg : Gl X "enumerate") (hm : X.mg "enumerate" = none) (ha : PA X [e] ta) (hs : starEach [e] X.env = [(false, eval e X.env)] := by rfl) :
    PI X (.Tuple elts kk tpos) (.Call (.Name "enumerate" p) [e] [] pos) (iEnum X.K ta) := by
  intro pins s σ H R I h
  refine Call_ (ld_blt I hg hm boot_enumerate (PyProof.Rows.callWith_type1 (thn (ha pos pins s σ H _ I h) fun us s1 ⟨vs, H1, I1, r1, q1⟩ => ?_) hs rfl))
  obtain ⟨a, xs, ex, hq, q⟩ := q1
  subst ex
  cases r1 with
  | cons r rr =>
    cases rr
    cases r
    obtain ⟨its, rv, p', hz⟩ := I1.list hq
    refine call_enumerate_list p'.isList fun h' he hit hsz hk => wpAny_pyIter_enum he ?_
    have I2 : Inv X pins σ H1 { s1 with heap := h' } := I1.kept (t' := s1.toks) hk
    refine ⟨s1.heap.objs.size + 1, [s1.heap.objs.size + 1, s1.heap.objs.size], _, _, H1, rfl, I2, turn_enum a (s1.heap.objs.size + 1) s1.heap.objs.size, ⟨⟨.none, he⟩, hit, Nat.succ_ne_self _⟩, fun b hb => ?_, q⟩
    have e' : b = s1.heap.objs.size + 1 \/ b = s1.heap.objs.size := by simpa using hb
    have hle : s1.heap.objs.size <= b := by
      rcases e' with z | z
      . rw [z]; exact Nat.le_add_right _ _
      . rw [z]; exact Nat.le_refl _
    exact I1.fpOk hle (I1.hok.fresh hle)
theorem boot_zip5 : bootBuiltins "zip" = some (.type "zip") := by decide +kernel
def Itz (K : PySem.W.Frag) (a b : Addr) : It :=
  ⟨fun i H => ∃ (xs ys : List V) (x y : V), SqL K H a xs /\ SqL K H b ys /\ xs[i]? = some x /\ ys[i]? = some y,
    fun i H v H' => ∃ T x y, v = .ref T /\ H T = none /\ H' = upd H T (.tup [x, y]) /\ (∀ xs, SqL K H a xs -> xs[i]? = some x) /\ ∀ ys, SqL K H b ys -> ys[i]? = some y,
    fun i H => ∃ xs ys : List V, SqL K H a xs /\ SqL K H b ys /\ (xs.length <= i \/ ys.length <= i)⟩
theorem turn_zip {P : Program} {w : World} {K : PySem.W.Frag} {elts : List Expr} {kk : Nat} {tpos : Pos} {a b z TI TO i1 i2 : Addr} (D : ZipApart z TI TO i1 i2 a b) :
    Turn P w K (.Tuple elts kk tpos) (Itz K a b) [z, TI, TO, i1, i2] z (fun i h => IsZip h z TI TO .none /\ IsPair h TI (.ref i1) (.ref i2) /\ (∃ x y, IsPair h TO x y) /\ h.IsListIter i1 a i /\ h.IsListIter i2 b i) where
  mem := by simp
  obj := fun i h st c hc => by
    obtain ⟨hz, hTI, ⟨x, y, hTO⟩, ⟨o1, e1, _, d1⟩, ⟨o2, e2, _, d2⟩⟩ := st
    have e' : c = z \/ c = TI \/ c = TO \/ c = i1 \/ c = i2 := by simpa using hc
    rcases e' with q | q | q | q | q
    . rw [q]; exact ⟨_, hz, fun v q => nomatch q⟩
    . rw [q]; exact ⟨_, hTI, fun v q => nomatch q⟩
    . rw [q]; exact ⟨_, hTO, fun v q => nomatch q⟩
    . rw [q]; exact ⟨o1, e1, fun v q => by rw [d1] at q; cases q⟩
    . rw [q]; exact ⟨o2, e2, fun v q => by rw [d2] at q; cases q⟩
  keep := fun i h h' st k => by
    obtain ⟨hz, hTI, ⟨x, y, hTO⟩, h1, h2⟩ := st
    exact ⟨k z (by simp) _ hz, k TI (by simp) _ hTI, ⟨x, y, k TO (by simp) _ hTO⟩, h1.at fun o q => k i1 (by simp) o q, h2.at fun o q => k i2 (by simp) o q⟩
  item := by
    intro X hP hw hK hc i pins s σ H E I hf st hg
    subst hP hw hK
    obtain ⟨hz, hTI, ⟨x0, y0, hTO⟩, h1, h2⟩ := st
    obtain ⟨xs, ys, x, y, hqx, hqy, hx, hy⟩ := hg
    obtain ⟨its, rv, p, _⟩ := I.list hqx
    obtain ⟨its2, rv2, p2, _⟩ := I.list hqy
    obtain ⟨u, hu, ru⟩ := rv.get hx
    obtain ⟨u2, hu2, ru2⟩ := rv2.get hy
    have hzl : z < s.heap.objs.size := Heap.lt_size hz
    refine wpAny_pyNext_zip_item D hz hTI hTO h1 h2 p.isList p2.isList (x := u) (y := u2) (by simpa using hu) (by simpa using hu2) fun h' z' TO' h1' h2' hT hsz hk => ?_
    refine ⟨_, rfl, wpAny_letOwnedTupleGo_zip (s := { s with heap := h' }) z' fun h'' z'' sb => ?_⟩
    have hT2 : h''.get? s.heap.objs.size = some { cls := .type "tuple", data := .seq #[u, u2] } := (sb.2 _ (Nat.ne_of_gt hzl)).trans hT
    have new : ObjOk X.prog X.w (upd H s.heap.objs.size (.tup [x, y])) h'' s.heap.objs.size (.tup [x, y]) :=
      ⟨by show 2 <= sizeLine; decide, [u, u2], .cons ru (.cons ru2 .nil), ⟨_, hT2, rfl, _, rfl⟩⟩
    have I1 : Inv X pins σ (upd H s.heap.objs.size (.tup [x, y])) { s with heap := h'' } :=
      I.turnedNew (t' := s.toks) (ch := [z, TI, TO, i1, i2]) (fun c o hb q => (sb.2 c (fun q' => hb (by simp [q']))).trans (hk c o (fun q' => hb (by simp [q'])) (fun q' => hb (by simp [q'])) (fun q' => hb (by simp [q'])) (fun q' => hb (by simp [q'])) q)) hf (Nat.le_refl _) new
    refine ⟨.ref s.heap.objs.size, _, I1, rfl, ⟨_, x, y, rfl, I.hok.fresh (Nat.le_refl _), rfl, fun l hl => by rw [I.list_inj hl hqx]; exact hx, fun l hl => by rw [I.list_inj hl hqy]; exact hy⟩, ⟨z'', ?_, ⟨u, u2, ?_⟩, ?_, ?_⟩, fun c hcm => ?_⟩
    . exact (sb.2 _ D.TIz).trans (hk _ _ D.TIz D.TITO D.TIi1 D.TIi2 hTI)
    . exact (sb.2 _ D.TOz).trans TO'
    . exact h1'.at fun o q => (sb.2 _ D.i1z).trans q
    . exact h2'.at fun o q => (sb.2 _ D.i2z).trans q
    . have hlt : c < s.heap.objs.size := by
        have e' : c = z \/ c = TI \/ c = TO \/ c = i1 \/ c = i2 := by simpa using hcm
        rcases e' with q | q | q | q | q
        . rw [q]; exact hzl
        . rw [q]; exact Heap.lt_size hTI
        . rw [q]; exact Heap.lt_size hTO
        . rw [q]; obtain ⟨_, e1, _⟩ := h1; exact Heap.lt_size e1
        . rw [q]; obtain ⟨_, e2, _⟩ := h2; exact Heap.lt_size e2
      rw [upd_ne (Nat.ne_of_lt hlt)]
      exact (hf c hcm).1
  done := by
    intro X hP hw hK hc i pins s σ H E I hf st hg
    subst hP hw hK
    obtain ⟨hz, hTI, ⟨x0, y0, hTO⟩, h1, h2⟩ := st
    obtain ⟨xs, ys, hqx, hqy, hend⟩ := hg
    obtain ⟨its, rv, p, _⟩ := I.list hqx
    obtain ⟨its2, rv2, p2, _⟩ := I.list hqy
    have l1 := rv.length
    have l2 := rv2.length
    have he : its.toArray[i]? = none \/ its2.toArray[i]? = none := by
      rcases hend with q | q
      . exact .inl (by simp; omega)
      . exact .inr (by simp; omega)
    exact wpAny_pyNext_zip_end (I.ok.hd hc) D hz hTI hTO h1 h2 p.isList p2.isList he fun h' hk => ⟨rfl, I.turnedL (t' := s.toks) (ch := [z, TI, TO, i1, i2]) (fun c o hb q =>
      hk c o (fun q' => hb (by simp [q'])) (fun q' => hb (by simp [q'])) (fun q' => hb (by simp [q'])) (fun q' => hb (by simp [q'])) q) hf⟩
  self := fun A i s Q E st h => wpAny_pyIter_zip st.1 h
def iZip (K : PySem.W.Frag) (ta : TA) : TI := fun σ H R => ta σ H fun vs H1 => ∃ a b xs ys, vs = [.ref a, .ref b] /\ SqL K H1 a xs /\ SqL K H1 b ys /\ R (Itz K a b) H1
theorem pi_zip {X : Cx} {e e2 : Expr} {ta : TA} {p pos tpos : Pos} {elts : List Expr} {kk : Nat} (hg : Gl X "zip") (hm : X.mg "zip" = none) (ha : PA X [e, e2] ta)
    (hs : starEach [e, e2] X.env = (false, eval e X.env) :: starEach [e2] X.env := by rfl) (hpl : (backTo pos (starEach [e2] X.env)).any (·.1) = false := by rfl) :
    PI X (.Tuple elts kk tpos) (.Call (.Name "zip" p) [e, e2] [] pos) (iZip X.K ta) := by
  intro pins s σ H R I h
  refine Call_ (ld_blt I hg hm boot_zip5 (PyProof.Rows.callWith_type1 (thn (ha pos pins s σ H _ I h) fun us s1 ⟨vs, H1, I1, r1, q1⟩ => ?_) hs hpl))
  obtain ⟨a, b, xs, ys, ex, hqx, hqy, q⟩ := q1
  subst ex
  cases r1 with
  | cons r rr =>
    cases rr with
    | cons r' rr =>
      cases rr
      cases r
      cases r'
      obtain ⟨its, rv, p1, _⟩ := I1.list hqx
      obtain ⟨its2, rv2, p2, _⟩ := I1.list hqy
      have la : a < s1.heap.objs.size := p1.lt
      have lb : b < s1.heap.objs.size := p2.lt
      refine call_zip_2 p1.isList p2.isList fun h' hz hTI hTO h1 h2 hsz hk => wpAny_pyIter_zip hz ?_
      have I2 : Inv X pins σ H1 { s1 with heap := h' } := I1.kept (t' := s1.toks) hk
      refine ⟨s1.heap.objs.size + 4, [s1.heap.objs.size + 4, s1.heap.objs.size + 2, s1.heap.objs.size + 3, s1.heap.objs.size, s1.heap.objs.size + 1], _, _, H1, rfl, I2, turn_zip (PySem.W.ktu_apart s1.heap.objs.size a b la lb), ⟨hz, hTI, ⟨_, _, hTO⟩, h1, h2⟩, fun c hcm => ?_, q⟩
      have e' : c = s1.heap.objs.size + 4 \/ c = s1.heap.objs.size + 2 \/ c = s1.heap.objs.size + 3 \/ c = s1.heap.objs.size \/ c = s1.heap.objs.size + 1 := by simpa using hcm
      have hle : s1.heap.objs.size <= c := by
        rcases e' with z | z | z | z | z
        . rw [z]; exact Nat.le_add_right _ _
        . rw [z]; exact Nat.le_add_right _ _
        . rw [z]; exact Nat.le_add_right _ _
        . rw [z]; exact Nat.le_refl _
        . rw [z]; exact Nat.le_add_right _ _
      exact I1.fpOk hle (I1.hok.fresh hle)
end L2
section 
namespace Bits
open PySem PyProof.Rows
end Bits
end 
section 
namespace TL
open PySem PySem.Builtin PySem.Builtin.Str PySem.StrLaws
end TL
end 
namespace L2
open PySem PySem.Spec PyProof.Rows
end L2
namespace Att
open PySem PySem.W PySem.Calls PyProof.Rows
end Att
namespace L2
open PySem PySem.Spec PyProof.Rows
abbrev KOf {K : PySem.W.Frag} {h : Heap} (_ : K.In h) : PySem.W.Frag := K
def inClass (s : Stmt) (j : Nat) : Stmt := match s with
  | .ClassDef _ _ _ body _ _ _ _ _ _ _ => body.getD j (.Pass ⟨0, 0, 0, 0⟩)
  | _ => .Pass ⟨0, 0, 0, 0⟩
def defArgs (s : Stmt) : Arguments := match s with
  | .FunctionDef _ a _ _ _ _ _ _ _ _ => a
  | _ => { posonlyargs := [], args := [], vararg := none, kwonlyargs := [], kw_defaults := [], kwarg := none, defaults := [] }
def defBody (s : Stmt) : List Stmt := match s with
  | .FunctionDef _ _ b _ _ _ _ _ _ _ => b
  | _ => []
def defScope (s : Stmt) : Scope := match s with
  | .FunctionDef _ _ _ _ _ _ sc _ _ _ => sc
  | _ => { kind := .function, names := [], isGenerator := false, isCoroutine := false }
abbrev CX0 : CXT := fun _ _ _ _ _ _ => False
abbrev E0 : XK := fun _ _ _ => False
theorem pass0 {X : Cx} : Passes CX0 X E0 := fun _ _ _ _ _ _ _ h => h.elim
structure Fun (K : PySem.W.Frag) (x qual : Str) (st : Stmt) (f : Addr) (fd : FuncData) : Prop where
  ex : ∃ (oc : Value) (od : Option Addr) (kV doc pm : Value) (an : Option Addr) (cdv ct : Value) (osl : Array (Option Value)),
    fd = PySem.W.fnOf x qual (defArgs st) (defBody st) (defScope st) .none kV doc pm an cdv ct /\ K.lookup f = some ⟨oc, od, .func fd, osl⟩ /\ PySem.W.codeIn K cdv qual = true
  kp : PySem.W.keepIn K (.ref f) = true
section
variable {P : Program} {w : World} {K : PySem.W.Frag} {mg : Str -> Option Value} {base : Heap}
theorem Fun.ok {x qual : Str} {st : Stmt} {f : Addr} {fd : FuncData} {N ps : List Str} {k : Nat} {sp : Sp} (F : Fun K x qual st f fd) (S : FnScope N ps (defScope st)) (len : ∀ vs H Q E, sp vs H Q E -> vs.length = ps.length)
    (hbody : ∀ (cdv : Value) (A : Around) (outer : List Env) (s : Shared) (H : Hp) (vs : List V) (Q : VK) (E : XK), Room k (A.deeper (envOfC qual (defScope st) s.heap.objs.size f cdv)) -> sp vs H Q E ->
      ∃ t, PSs (cxOf CX0 P w K mg base N qual (defScope st) f cdv A outer s H E).nox (defBody st) t /\ t { nx := fun _ H' => Q .non H', rt := Q } (start N vs) H) : FnOk P w K mg base CX0 (k + 1) f fd ps sp := by
  obtain ⟨oc, od, kV, doc, pm, an, cdv, ct, osl, rfl, lk, hcd⟩ := F.ex
  refine fn_of lk hcd S len fun A outer s H vs Q E hr hsp => ?_
  obtain ⟨t, h, q⟩ := hbody cdv A outer s H vs Q E hr hsp
  exact ⟨t, h.nox, q⟩
theorem fun_mk {x qual : Str} {st : Stmt} {f : Addr} {oc : Value} {od an : Option Addr} {osl : Array (Option Value)} {kV doc pm cdv ct : Value} (l : K.lookup f = some ⟨oc, od, .func (PySem.W.fnOf x qual (defArgs st) (defBody st) (defScope st) .none kV doc pm an cdv ct), osl⟩)
    (c : PySem.W.codeIn K cdv qual = true) (k : PySem.W.keepIn K (.ref f) = true) : Fun K x qual st f (PySem.W.fnOf x qual (defArgs st) (defBody st) (defScope st) .none kV doc pm an cdv ct) := ⟨⟨oc, od, kV, doc, pm, an, cdv, ct, osl, rfl, l, c⟩, k⟩
end
theorem small1000 {n : Nat} (h : n <= 1000) : n < sizeLine := Nat.lt_of_le_of_lt h (by decide)
section
variable {X : Cx}
theorem pv (i : Nat) {x : Str} {pos : Pos} (hN : X.N[i]? = some x := by rfl) (hv : Vis X.env.scope x := by first | exact Or.inl rfl | exact Or.inr (Or.inl rfl) | exact Or.inr (Or.inr rfl)) (hd : (x == ("__debug__" : Str)) = false := by decide)
    (hcd : (x == ("__classdict__" : Str)) = false := by decide) : PE X (.Name x pos) (tVar i) := pe_var hN hv hd hcd
end
theorem iteF {A B : Prop} (h : B) : if false = true then A else B := by
  rw [if_neg Bool.false_ne_true]
  exact h
theorem iteT {A B : Prop} (h : A) : if true = true then A else B := by
  rw [if_pos rfl]
  exact h
theorem ite2 {c A B : Prop} [Decidable c] (h1 : c -> A) (h2 : ¬ c -> B) : if c then A else B := by
  by_cases h : c
  . rw [if_pos h]
    exact h1 h
  . rw [if_neg h]
    exact h2 h
def Same (H H' : Hp) : Prop := ∀ b o, H b = some o -> H' b = some o
theorem Same.free {H H' : Hp} (e : Same H H') {l : Addr} (h : H' l = Option.none) : H l = Option.none := by
  cases q : H l with
  | none => rfl
  | some o =>
    rw [e l o q] at h
    cases h
section
variable {κ : Type} [DecidableEq κ]
theorem nd_snoc : ∀ {l : List κ} {k : κ}, l.Nodup -> ¬ k ∈ l -> (l ++ [k]).Nodup
  | [], k, _, _ => by simp
  | a :: r, k, h, hk => by
    obtain ⟨h1, h2⟩ := List.nodup_cons.mp h
    show (a :: (r ++ [k])).Nodup
    refine List.nodup_cons.mpr ⟨fun m => ?_, nd_snoc h2 fun m => hk (List.mem_cons.mpr (Or.inr m))⟩
    rcases List.mem_append.mp m with q | q
    . exact h1 q
    . exact hk (List.mem_cons.mpr (Or.inl (List.mem_singleton.mp q).symm))
end
theorem nd_ix {α : Type} {l : List α} (hN : l.Nodup) {i j : Nat} {x : α} (a : l[i]? = some x) (b : l[j]? = some x) : i = j := by
  obtain ⟨h1, e1⟩ := List.getElem?_eq_some_iff.mp a
  obtain ⟨h2, e2⟩ := List.getElem?_eq_some_iff.mp b
  exact (List.getElem_inj hN).mp (e1.trans e2.symm)
theorem Same.made {H H1 : Hp} {x dx C : Addr} (nx : H x = Option.none) (nd : H dx = Option.none) (k : ∀ b o, (upd (upd H dx (.own x)) x (.ins C dx [])) b = some o -> b ≠ x -> H1 b = some o) : Same H H1 := fun b o e =>
  k b o (by rw [upd_ne (ne_of_none e nx), upd_ne (ne_of_none e nd)]; exact e) (ne_of_none e nx)
end L2
namespace L2
open PySem PySem.Spec PyProof.Rows
open PySem.W (WData Codec OpenSpec Well WellAll ReadsW ReadsAllW)
mutual
/-- x stands for the datum d, lists and tuples all the way -/
inductive Dw (K : PySem.W.Frag) (H : Hp) : V -> WData -> Prop
  | non : Dw K H .non .none
  | bl (b : Bool) : Dw K H (.bl b) (.bool b)
  | int (i : Int) : Dw K H (.int i) (.int i)
  | str (x : Str) : Dw K H (.str x) (.str x)
  | byt (b : Array UInt8) : Dw K H (.byt b) (.bytes b.toList)
  | lst {a : Addr} {xs : List V} {ds : List WData} : SqL K H a xs -> DwAll K H xs ds -> Dw K H (.ref a) (.list ds)
  | tup {a : Addr} {xs : List V} {ds : List WData} : SqT K H a xs -> DwAll K H xs ds -> Dw K H (.ref a) (.tuple ds)
inductive DwAll (K : PySem.W.Frag) (H : Hp) : List V -> List WData -> Prop
  | nil : DwAll K H [] []
  | cons {v : V} {vs : List V} {d : WData} {ds : List WData} : Dw K H v d -> DwAll K H vs ds -> DwAll K H (v :: vs) (d :: ds)
end
theorem dw_ints {K : PySem.W.Frag} {H : Hp} : ∀ ns : List Int, DwAll K H (ns.map V.int) (ns.map WData.int)
  | [] => .nil
  | n :: r => .cons (.int n) (dw_ints r)
theorem ints_dw {K : PySem.W.Frag} {H : Hp} : ∀ (ns : List Int) (xs : List V), DwAll K H xs (ns.map WData.int) -> xs = ns.map V.int
  | [], xs, h => by
    cases h
    rfl
  | n :: r, xs, h => by
    cases h with
    | cons h1 h2 =>
      cases h1
      rw [ints_dw r _ h2] <;> rfl
section
variable {P : Program} {w : World} {K : PySem.W.Frag} {H : Hp} {h : Heap} {R : PySem.W.WRecords} {cl : Str -> Option Addr}
theorem sqL_at {a : Addr} {xs : List V} (hok : HOk P w H h) (KX : K.In h) (q : SqL K H a xs) : ∃ (its : List Value) (o : Obj) (n : Nat), Vals xs its /\ h.get? a = some o /\ o.cls = .type "list" /\ o.data = .seq its.toArray n := by
  rcases q with q | ⟨o, its, n, e, hc, _, hd, _, hv⟩
  . obtain ⟨_, its, n, hv, e⟩ := (show ObjOk P w H h a (.lst xs) from q.ok hok)
    exact ⟨its, _, n, hv, e, rfl, rfl⟩
  . exact ⟨its.toList, o, n, hv, KX _ _ e, hc, by simp [hd]⟩
theorem sqT_at {a : Addr} {xs : List V} (hok : HOk P w H h) (KX : K.In h) (q : SqT K H a xs) : ∃ (its : List Value) (o : Obj) (n : Nat), Vals xs its /\ h.get? a = some o /\ o.cls = .type "tuple" /\ o.data = .seq its.toArray n := by
  rcases q with q | ⟨o, its, n, e, hc, hd, _, hv⟩
  . obtain ⟨_, its, hv, o, e, hc, n, hd⟩ := (show ObjOk P w H h a (.tup xs) from q.ok hok)
    exact ⟨its, o, n, hv, e, hc, hd⟩
  . exact ⟨its.toList, o, n, hv, KX _ _ e, hc, by simp [hd]⟩
mutual
theorem Dw.reads (hok : HOk P w H h) (KX : K.In h) : ∀ (d : WData) (v : V) (u : Value), Dw K H v d -> RelV v u -> ∃ as, ReadsW R cl h u d as
  | .none, _, _, x, r => by
    cases x
    cases r
    exact ⟨_, ReadsW.none⟩
  | .bool b, _, _, x, r => by
    cases x
    cases r
    exact ⟨_, ReadsW.bool b⟩
  | .int i, _, _, x, r => by
    cases x
    obtain ⟨t, rfl⟩ := r
    exact ⟨_, ReadsW.int i t⟩
  | .str s, _, _, x, r => by
    cases x
    obtain ⟨t, rfl⟩ := r
    exact ⟨_, ReadsW.str s t⟩
  | .bytes b, _, _, x, r => by
    cases x
    obtain ⟨t, rfl⟩ := r
    exact ⟨_, ReadsW.bytes _ t⟩
  | .list ds, _, _, x, r => by
    cases x with
    | lst hs ha =>
      cases r
      obtain ⟨its, o, n, rv, ho, hc, hd⟩ := sqL_at hok KX hs
      obtain ⟨as, hr⟩ := Dw.readsAll hok KX ds _ its ha rv
      exact ⟨_, ReadsW.list ho hc hd hr⟩
  | .tuple ds, _, _, x, r => by
    cases x with
    | tup hs ha =>
      cases r
      obtain ⟨its, o, n, rv, ho, hc, hd⟩ := sqT_at hok KX hs
      obtain ⟨as, hr⟩ := Dw.readsAll hok KX ds _ its ha rv
      exact ⟨_, ReadsW.tuple ho hc hd hr⟩
  | .float _, _, _, x, _ => by cases x
  | .dict _, _, _, x, _ => by cases x
  | .bytearray _, _, _, x, _ => by cases x
  | .set _, _, _, x, _ => by cases x
  | .frozenset _, _, _, x, _ => by cases x
  | .obj _ _, _, _, x, _ => by cases x
theorem Dw.readsAll (hok : HOk P w H h) (KX : K.In h) : ∀ (ds : List WData) (vs : List V) (us : List Value), DwAll K H vs ds -> Vals vs us -> ∃ as, ReadsAllW R cl h us ds as
  | [], _, _, x, r => by
    cases x
    cases r
    exact ⟨_, ReadsAllW.nil⟩
  | d :: ds, _, _, x, r => by
    cases x with
    | cons h1 h2 =>
      cases r with
      | cons r1 r2 =>
        obtain ⟨as, q1⟩ := Dw.reads hok KX d _ _ h1 r1
        obtain ⟨bs, q2⟩ := Dw.readsAll hok KX ds _ _ h2 r2
        exact ⟨_, ReadsAllW.cons q1 q2⟩
end
end
mutual
/-- data that a codec tells -/
def plW : WData -> Bool
  | .none => true
  | .bool _ => true
  | .int _ => true
  | .str _ => true
  | .bytes _ => true
  | .list xs => plWs xs
  | .tuple xs => plWs xs
  | _ => false
def plWs : List WData -> Bool
  | [] => true
  | x :: r => plW x && plWs r
end
theorem plWs_map {α : Type} {f : α -> WData} (h : ∀ a, plW (f a) = true) : ∀ l : List α, plWs (l.map f) = true
  | [] => rfl
  | x :: r => by
    show (plW (f x) && plWs (r.map f)) = true
    rw [h x, plWs_map h r] <;> rfl
theorem pl_enc : ∀ (c : Codec) (a : c.denote), plW (c.enc a) = true
  | .unit, _ => rfl
  | .bool, _ => rfl
  | .int _ _, _ => rfl
  | .nat _ _, _ => rfl
  | .u8, _ => rfl
  | .bytes _ _, _ => rfl
  | .text _ _ _ _, _ => rfl
  | .list _ _ c, a => plWs_map (fun x => pl_enc c x) a
  | .pair c d, a => by
    show (plW (c.enc a.1) && (plW (d.enc a.2) && true)) = true
    rw [pl_enc c a.1, pl_enc d a.2] <;> rfl
  | .triple c d e, a => by
    show (plW (c.enc a.1) && (plW (d.enc a.2.1) && (plW (e.enc a.2.2) && true))) = true
    rw [pl_enc c a.1, pl_enc d a.2.1, pl_enc e a.2.2] <;> rfl
  | .option c, none => rfl
  | .option c, some x => pl_enc c x
theorem pl_encAll : ∀ (cs : List Codec) (a : Codec.denoteAll cs), plWs (Codec.encAll cs a) = true
  | [], _ => rfl
  | c :: cs, a => by
    show (plW (c.enc a.1) && plWs (Codec.encAll cs a.2)) = true
    rw [pl_enc c a.1, pl_encAll cs a.2] <;> rfl
theorem weight_mem : ∀ {xs : List WData} {d : WData}, d ∈ xs -> d.weight <= WData.weightAll xs
  | [], d, h => absurd h (by simp)
  | x :: r, d, h => by
    show d.weight <= x.weight + 1 + WData.weightAll r
    rcases List.mem_cons.mp h with e | m
    . rw [e]
      omega
    . have z := weight_mem m
      omega
def toV : Value -> V
  | .none => .non
  | .bool b => .bl b
  | .int i _ => .int i
  | .str x _ => .str x
  | .bytes b _ => .byt b
  | .ref a => .ref a
  | _ => .non
def OkU (A : List Addr) : Value -> Prop
  | .none => True
  | .bool _ => True
  | .int _ _ => True
  | .str _ _ => True
  | .bytes _ _ => True
  | .ref a => a ∈ A
  | _ => False
theorem OkU.mono {A B : List Addr} (h : ∀ a ∈ A, a ∈ B) : ∀ {u : Value}, OkU A u -> OkU B u := fun {u} x => by
  cases u with
  | ref a => exact h a x
  | none => trivial
  | bool b => trivial
  | int i t => trivial
  | str s t => trivial
  | bytes b t => trivial
  | _ => exact False.elim x
theorem relV_toV {A : List Addr} {u : Value} (x : OkU A u) : RelV (toV u) u := by
  cases u with
  | ref a => rfl
  | none => rfl
  | bool b => rfl
  | int i t => exact ⟨t, rfl⟩
  | str s t => exact ⟨t, rfl⟩
  | bytes b t => exact ⟨t, rfl⟩
  | _ => exact False.elim x
theorem vals_toV {A : List Addr} : ∀ {vs : List Value}, (∀ u ∈ vs, OkU A u) -> Vals (vs.map toV) vs
  | [], _ => .nil
  | u :: r, h => .cons (relV_toV (h u (List.mem_cons_self ..))) (vals_toV fun x hx => h x (List.mem_cons_of_mem _ hx))
def ArgOb (h : Heap) (A : List Addr) (a : Addr) : Prop := ∃ vs : List Value, vs.length <= sizeLine /\ (∀ u ∈ vs, OkU A u) /\
  (h.get? a = some { cls := .type "list", data := .seq vs.toArray } \/ h.get? a = some { cls := .type "tuple", data := .seq vs.toArray })
theorem ArgOb.mono {h : Heap} {A B : List Addr} {a : Addr} (k : ∀ a ∈ A, a ∈ B) (x : ArgOb h A a) : ArgOb h B a := by
  obtain ⟨vs, h1, h2, h3⟩ := x
  exact ⟨vs, h1, fun u hu => (h2 u hu).mono k, h3⟩
theorem wellAll_len {P : Params} {h : Heap} : ∀ {vs : List Value} {ds : List WData}, WellAll P h vs ds -> vs.length = ds.length
  | _, _, .nil => rfl
  | _, _, .cons _ b => by
    show _ + 1 = _ + 1
    rw [wellAll_len b]
theorem well_list {P : Params} {h : Heap} {v : Value} {ds : List WData} (x : Well P h v (.list ds)) : ∃ (a : Addr) (vs : List Value), v = .ref a /\ h.get? a = some { cls := .type "list", data := .seq vs.toArray } /\ WellAll P h vs ds := by
  cases x with
  | list ho hall => exact ⟨_, _, rfl, ho, hall⟩
theorem well_tuple {P : Params} {h : Heap} {v : Value} {ds : List WData} (x : Well P h v (.tuple ds)) : ∃ (a : Addr) (vs : List Value), v = .ref a /\ h.get? a = some { cls := .type "tuple", data := .seq vs.toArray } /\ WellAll P h vs ds := by
  cases x with
  | tuple ho hall => exact ⟨_, _, rfl, ho, hall⟩
theorem well_cons {P : Params} {h : Heap} {us : List Value} {d : WData} {ds : List WData} (x : WellAll P h us (d :: ds)) : ∃ (v : Value) (vs : List Value), us = v :: vs /\ Well P h v d /\ WellAll P h vs ds := by
  cases x with
  | cons a b => exact ⟨_, _, rfl, a, b⟩
theorem line_of {n : Nat} (h : n <= 1048576) : n <= sizeLine := Nat.le_trans h (by decide)
section
variable {P : Params} {h : Heap}
mutual
theorem area_one : ∀ (d : WData) (v : Value), Well P h v d -> plW d = true -> d.weight <= 1048576 -> ∃ A : List Addr, OkU A v /\ ∀ a ∈ A, ArgOb h A a
  | .none, _, x, _, _ => by
    cases x
    exact ⟨[], trivial, fun a m => absurd m (by simp)⟩
  | .bool b, _, x, _, _ => by
    cases x
    exact ⟨[], trivial, fun a m => absurd m (by simp)⟩
  | .int i, _, x, _, _ => by
    cases x
    exact ⟨[], trivial, fun a m => absurd m (by simp)⟩
  | .str s, _, x, _, _ => by
    cases x
    exact ⟨[], trivial, fun a m => absurd m (by simp)⟩
  | .bytes b, _, x, _, _ => by
    cases x
    exact ⟨[], trivial, fun a m => absurd m (by simp)⟩
  | .list ds, _, x, p, z => by
    obtain ⟨a, vs, rfl, ho, hall⟩ := well_list x
    have z2 : WData.weightAll ds <= 1048576 := z
    obtain ⟨A, h1, h2⟩ := area_all ds _ hall p fun d hd => Nat.le_trans (weight_mem hd) z2
    have k : ∀ b ∈ A, b ∈ a :: A := fun b hb => List.mem_cons_of_mem _ hb
    refine ⟨a :: A, List.mem_cons_self .., fun b hb => ?_⟩
    rcases List.mem_cons.mp hb with e | m
    . rw [e]
      exact ⟨vs, line_of (by rw [wellAll_len hall]; exact Nat.le_trans (PySem.W.length_le_weightAllW ds) z2), fun u hu => (h1 u hu).mono k, .inl ho⟩
    . exact (h2 b m).mono k
  | .tuple ds, _, x, p, z => by
    obtain ⟨a, vs, rfl, ho, hall⟩ := well_tuple x
    have z2 : WData.weightAll ds <= 1048576 := z
    obtain ⟨A, h1, h2⟩ := area_all ds _ hall p fun d hd => Nat.le_trans (weight_mem hd) z2
    have k : ∀ b ∈ A, b ∈ a :: A := fun b hb => List.mem_cons_of_mem _ hb
    refine ⟨a :: A, List.mem_cons_self .., fun b hb => ?_⟩
    rcases List.mem_cons.mp hb with e | m
    . rw [e]
      exact ⟨vs, line_of (by rw [wellAll_len hall]; exact Nat.le_trans (PySem.W.length_le_weightAllW ds) z2), fun u hu => (h1 u hu).mono k, .inr ho⟩
    . exact (h2 b m).mono k
  | .float _, _, _, p, _ => Bool.noConfusion (show false = true from p)
  | .dict _, _, _, p, _ => Bool.noConfusion (show false = true from p)
  | .bytearray _, _, _, p, _ => Bool.noConfusion (show false = true from p)
  | .set _, _, _, p, _ => Bool.noConfusion (show false = true from p)
  | .frozenset _, _, _, p, _ => Bool.noConfusion (show false = true from p)
  | .obj _ _, _, _, p, _ => Bool.noConfusion (show false = true from p)
theorem area_all : ∀ (ds : List WData) (vs : List Value), WellAll P h vs ds -> plWs ds = true -> (∀ d ∈ ds, d.weight <= 1048576) -> ∃ A : List Addr, (∀ u ∈ vs, OkU A u) /\ ∀ a ∈ A, ArgOb h A a
  | [], _, x, _, _ => by
    cases x
    exact ⟨[], fun u m => absurd m (by simp), fun a m => absurd m (by simp)⟩
  | d :: ds, _, x, p, z => by
    obtain ⟨v, vs, rfl, x1, x2⟩ := well_cons x
    have q : plW d = true /\ plWs ds = true := Bool.and_eq_true_iff.mp p
    obtain ⟨A, a1, a2⟩ := area_one d v x1 q.1 (z d (List.mem_cons_self ..))
    obtain ⟨B, b1, b2⟩ := area_all ds vs x2 q.2 fun e he => z e (List.mem_cons_of_mem _ he)
    have kA : ∀ b ∈ A, b ∈ A ++ B := fun b hb => List.mem_append.mpr (.inl hb)
    have kB : ∀ b ∈ B, b ∈ A ++ B := fun b hb => List.mem_append.mpr (.inr hb)
    refine ⟨A ++ B, fun u hu => ?_, fun b hb => ?_⟩
    . rcases List.mem_cons.mp hu with e | m
      . rw [e]
        exact a1.mono kA
      . exact (b1 u m).mono kB
    . rcases List.mem_append.mp hb with m | m
      . exact (a2 b m).mono kA
      . exact (b2 b m).mono kB
end
end
def hoOf (o : Obj) : Option HO := match o.data with
  | .seq vs _ => if (o.cls == Value.type "list") = true then some (.frz o (.lst (vs.toList.map toV))) else some (.frz o (.tup (vs.toList.map toV)))
  | _ => none
def argH (K : PySem.W.Frag) (h : Heap) (A : List Addr) : Hp := fun b => if b ∈ A then (if (K.lookup b).isNone = true then (h.get? b).bind hoOf else none) else none
def OnlyF (H : Hp) : Prop := ∀ b, H b = none \/ ∃ o u, H b = some (.frz o u)
theorem hoOf_lst (vs : List Value) : hoOf { cls := .type "list", data := .seq vs.toArray } = some (.frz { cls := .type "list", data := .seq vs.toArray } (.lst (vs.map toV))) := by
  show (if (Value.type "list" == Value.type "list") = true then some (HO.frz { cls := .type "list", data := .seq vs.toArray } (.lst (vs.toArray.toList.map toV))) else some (HO.frz { cls := .type "list", data := .seq vs.toArray } (.tup (vs.toArray.toList.map toV)))) = _
  rw [if_pos (beq_self_eq_true _)]
theorem hoOf_tup (vs : List Value) : hoOf { cls := .type "tuple", data := .seq vs.toArray } = some (.frz { cls := .type "tuple", data := .seq vs.toArray } (.tup (vs.map toV))) := by
  show (if (Value.type "tuple" == Value.type "list") = true then some (HO.frz { cls := .type "tuple", data := .seq vs.toArray } (.lst (vs.toArray.toList.map toV))) else some (HO.frz { cls := .type "tuple", data := .seq vs.toArray } (.tup (vs.toArray.toList.map toV)))) = _
  rw [if_neg (by decide)]
section
variable {P : Program} {w : World} {K : PySem.W.Frag} {h : Heap} {A : List Addr}
theorem argH_at {b : Addr} {o : Obj} (hb : b ∈ A) (hk : K.lookup b = none) (e : h.get? b = some o) : argH K h A b = hoOf o := by
  unfold argH
  rw [if_pos hb, hk, if_pos (show (none : Option Obj).isNone = true from rfl), e] <;> rfl
theorem of_argH {b : Addr} {u : HO} (q : argH K h A b = some u) : b ∈ A /\ K.lookup b = none := by
  unfold argH at q
  by_cases hb : b ∈ A
  . rw [if_pos hb] at q
    cases hk : K.lookup b with
    | none => exact ⟨hb, rfl⟩
    | some o =>
      rw [hk, if_neg (by simp)] at q
      cases q
  . rw [if_neg hb] at q
    cases q
theorem argH_is (ar : ∀ a ∈ A, ArgOb h A a) {b : Addr} {u : HO} (q : argH K h A b = some u) : K.lookup b = none /\ ∃ vs : List Value, vs.length <= sizeLine /\ (∀ u ∈ vs, OkU A u) /\
    ((h.get? b = some { cls := .type "list", data := .seq vs.toArray } /\ u = .frz { cls := .type "list", data := .seq vs.toArray } (.lst (vs.map toV))) \/
     (h.get? b = some { cls := .type "tuple", data := .seq vs.toArray } /\ u = .frz { cls := .type "tuple", data := .seq vs.toArray } (.tup (vs.map toV)))) := by
  obtain ⟨hb, hk⟩ := of_argH q
  obtain ⟨vs, h1, h2, h3⟩ := ar b hb
  refine ⟨hk, vs, h1, h2, ?_⟩
  rcases h3 with e | e
  . rw [argH_at hb hk e, hoOf_lst] at q
    exact .inl ⟨e, (Option.some.inj q).symm⟩
  . rw [argH_at hb hk e, hoOf_tup] at q
    exact .inr ⟨e, (Option.some.inj q).symm⟩
theorem argH_only (ar : ∀ a ∈ A, ArgOb h A a) : OnlyF (argH K h A) := fun b => by
  cases q : argH K h A b with
  | none => exact .inl rfl
  | some u =>
    obtain ⟨_, vs, _, _, ⟨_, e⟩ | ⟨_, e⟩⟩ := argH_is ar q
    . exact .inr ⟨_, _, by rw [e]⟩
    . exact .inr ⟨_, _, by rw [e]⟩
theorem seq_inj {c c' : Value} {vs us : List Value} (e : (some { cls := c, data := .seq vs.toArray } : Option Obj) = some { cls := c', data := .seq us.toArray }) : c = c' /\ vs = us := by
  have e1 := Option.some.inj e
  have e2 : c = c' := congrArg Obj.cls e1
  have e3 : Data.seq vs.toArray = Data.seq us.toArray := congrArg Obj.data e1
  injection e3 with e4
  refine ⟨e2, ?_⟩
  have e5 := congrArg Array.toList e4
  simpa using e5
theorem argL (KX : K.In h) (ar : ∀ a ∈ A, ArgOb h A a) {a : Addr} {vs : List Value} (ha : a ∈ A) (e : h.get? a = some { cls := .type "list", data := .seq vs.toArray }) : (∀ u ∈ vs, OkU A u) /\ SqL K (argH K h A) a (vs.map toV) := by
  obtain ⟨us, h1, h2, h3⟩ := ar a ha
  have hu : us = vs := by
    rcases h3 with q | q
    . rw [e] at q
      exact (seq_inj q).2.symm
    . rw [e] at q
      exact absurd (Value.type.inj (seq_inj q).1) (by decide)
  subst hu
  refine ⟨h2, ?_⟩
  cases hk : K.lookup a with
  | none => exact .inl (.inr ⟨_, by rw [argH_at ha hk e, hoOf_lst]⟩)
  | some o =>
    have e2 := KX a o hk
    rw [e] at e2
    obtain rfl := Option.some.inj e2
    exact .inr ⟨_, us.toArray, _, hk, rfl, rfl, rfl, by rw [List.size_toArray]; exact h1, by simpa using vals_toV h2⟩
theorem argT (KX : K.In h) (ar : ∀ a ∈ A, ArgOb h A a) {a : Addr} {vs : List Value} (ha : a ∈ A) (e : h.get? a = some { cls := .type "tuple", data := .seq vs.toArray }) : (∀ u ∈ vs, OkU A u) /\ SqT K (argH K h A) a (vs.map toV) := by
  obtain ⟨us, h1, h2, h3⟩ := ar a ha
  have hu : us = vs := by
    rcases h3 with q | q
    . rw [e] at q
      exact absurd (Value.type.inj (seq_inj q).1) (by decide)
    . rw [e] at q
      exact (seq_inj q).2.symm
  subst hu
  refine ⟨h2, ?_⟩
  cases hk : K.lookup a with
  | none => exact .inl (.inr ⟨_, by rw [argH_at ha hk e, hoOf_tup]⟩)
  | some o =>
    have e2 := KX a o hk
    rw [e] at e2
    obtain rfl := Option.some.inj e2
    exact .inr ⟨_, us.toArray, _, hk, rfl, rfl, by rw [List.size_toArray]; exact h1, by simpa using vals_toV h2⟩
mutual
theorem dw_one {Pm : Params} (KX : K.In h) (ar : ∀ a ∈ A, ArgOb h A a) : ∀ (d : WData) (v : Value), Well Pm h v d -> plW d = true -> OkU A v -> Dw K (argH K h A) (toV v) d
  | .none, _, x, _, _ => by
    cases x
    exact .non
  | .bool b, _, x, _, _ => by
    cases x
    exact .bl b
  | .int i, _, x, _, _ => by
    cases x
    exact .int i
  | .str s, _, x, _, _ => by
    cases x
    exact .str s
  | .bytes b, _, x, _, _ => by
    cases x
    have z := Dw.byt (K := K) (H := argH K h A) b.toArray
    exact z
  | .list ds, _, x, p, hu => by
    obtain ⟨a, vs, rfl, ho, hall⟩ := well_list x
    obtain ⟨h2, hs⟩ := argL KX ar hu ho
    exact .lst hs (dw_all KX ar ds _ hall p h2)
  | .tuple ds, _, x, p, hu => by
    obtain ⟨a, vs, rfl, ho, hall⟩ := well_tuple x
    obtain ⟨h2, hs⟩ := argT KX ar hu ho
    exact .tup hs (dw_all KX ar ds _ hall p h2)
  | .float _, _, _, p, _ => Bool.noConfusion (show false = true from p)
  | .dict _, _, _, p, _ => Bool.noConfusion (show false = true from p)
  | .bytearray _, _, _, p, _ => Bool.noConfusion (show false = true from p)
  | .set _, _, _, p, _ => Bool.noConfusion (show false = true from p)
  | .frozenset _, _, _, p, _ => Bool.noConfusion (show false = true from p)
  | .obj _ _, _, _, p, _ => Bool.noConfusion (show false = true from p)
theorem dw_all {Pm : Params} (KX : K.In h) (ar : ∀ a ∈ A, ArgOb h A a) : ∀ (ds : List WData) (vs : List Value), WellAll Pm h vs ds -> plWs ds = true -> (∀ u ∈ vs, OkU A u) -> DwAll K (argH K h A) (vs.map toV) ds
  | [], _, x, _, _ => by
    cases x
    exact .nil
  | d :: ds, _, x, p, hu => by
    obtain ⟨v, vs, rfl, x1, x2⟩ := well_cons x
    have q : plW d = true /\ plWs ds = true := Bool.and_eq_true_iff.mp p
    exact .cons (dw_one KX ar d v x1 q.1 (hu _ (List.mem_cons_self ..))) (dw_all KX ar ds vs x2 q.2 fun u m => hu u (List.mem_cons_of_mem _ m))
end
end
theorem layable_weight {ds : List WData} (h : WData.layableAll ds = true) : ∀ d ∈ ds, d.weight <= 1048576 := fun d hd =>
  (PySem.W.layableW_iff.mp (List.all_eq_true.mp h d hd)).2.2
theorem encAll_len : ∀ (cs : List Codec) (a : Codec.denoteAll cs), (Codec.encAll cs a).length = cs.length
  | [], _ => rfl
  | c :: cs, a => by
    show (Codec.encAll cs a.2).length + 1 = cs.length + 1
    rw [encAll_len cs a.2]
end L2
namespace W2
open PySem PySem.Spec PyProof.Rows L2
open PySem.W (WData Codec OpenSpec Well WellAll ReadsW ReadsAllW)
def BM (mg : Str -> Option Value) (h : Heap) : Prop := ∃ bm o, mg "__builtins__" = some (.ref bm) /\ bm ≠ builtinsNs /\ h.get? bm = some o /\ o.cls = .type "module" /\ o.dict = some builtinsNs /\ o.data = .plain
def tabH (K : PySem.W.Frag) (h : Heap) (A : List Addr) (PT : Addr) : Hp := fun b => if b = PT then some (.tbl #[]) else argH K h A b
section
variable {P : Program} {w : World} {K : PySem.W.Frag} {h : Heap} {A : List Addr} {PT : Addr}
theorem argH_cls (ar : ∀ a ∈ A, ArgOb h A a) {b : Addr} {o : Obj} (e : h.get? b = some o) (h1 : o.cls ≠ .type "list") (h2 : o.cls ≠ .type "tuple") : argH K h A b = none := by
  cases q : argH K h A b with
  | none => rfl
  | some u =>
    obtain ⟨_, vs, _, _, ⟨e2, _⟩ | ⟨e2, _⟩⟩ := argH_is ar q
    . rw [e] at e2
      exact absurd (congrArg Obj.cls (Option.some.inj e2)) h1
    . rw [e] at e2
      exact absurd (congrArg Obj.cls (Option.some.inj e2)) h2
theorem argH_dict (ar : ∀ a ∈ A, ArgOb h A a) {b : Addr} {o : Obj} {es : Array DictEntry} {ep : Nat} (e : h.get? b = some o) (d : o.data = .dict es ep) : argH K h A b = none := by
  cases q : argH K h A b with
  | none => rfl
  | some u =>
    obtain ⟨_, vs, _, _, ⟨e2, _⟩ | ⟨e2, _⟩⟩ := argH_is ar q
    . rw [e] at e2
      have z : o.data = Data.seq vs.toArray _ := congrArg Obj.data (Option.some.inj e2)
      rw [d] at z; cases z
    . rw [e] at e2
      have z : o.data = Data.seq vs.toArray _ := congrArg Obj.data (Option.some.inj e2)
      rw [d] at z; cases z
theorem tabH_ne {b : Addr} (n : b ≠ PT) : tabH K h A PT b = argH K h A b := by unfold tabH; rw [if_neg n]
theorem tabH_at : tabH K h A PT PT = some (.tbl #[]) := by unfold tabH; rw [if_pos rfl]
theorem tabH_ok (ar : ∀ a ∈ A, ArgOb h A a) (hP : h.get? PT = some (PySem.W.tabObj #[])) : HOk P w (tabH K h A PT) h := fun b u q => by
  by_cases n : b = PT
  . subst n
    rw [tabH_at] at q
    cases q
    exact hP
  . rw [tabH_ne n] at q
    obtain ⟨_, vs, h1, h2, ⟨e, rfl⟩ | ⟨e, rfl⟩⟩ := argH_is ar q
    . exact ⟨e, by rw [List.length_map]; exact h1, vs, _, vals_toV h2, e⟩
    . exact ⟨e, by rw [List.length_map]; exact h1, vs, vals_toV h2, _, e, rfl, _, rfl⟩
theorem tabH_same (ar : ∀ a ∈ A, ArgOb h A a) (hP : h.get? PT = some (PySem.W.tabObj #[])) : ∀ b o, argH K h A b = some o -> tabH K h A PT b = some o := fun b o e => by
  by_cases n : b = PT
  . subst n
    rw [argH_cls ar hP (by decide) (by decide)] at e
    cases e
  . rw [tabH_ne n]; exact e
end
theorem sq_mono {K : PySem.W.Frag} {H H' : Hp} (s : ∀ b o, H b = some o -> H' b = some o) {a : Addr} {xs : List V} (q : SqL K H a xs) : SqL K H' a xs := by
  rcases q with (e | ⟨o, e⟩) | q
  . exact .inl (.inl (s _ _ e))
  . exact .inl (.inr ⟨o, s _ _ e⟩)
  . exact .inr q
theorem sqT_mono {K : PySem.W.Frag} {H H' : Hp} (s : ∀ b o, H b = some o -> H' b = some o) {a : Addr} {xs : List V} (q : SqT K H a xs) : SqT K H' a xs := by
  rcases q with (e | ⟨o, e⟩) | q
  . exact .inl (.inl (s _ _ e))
  . exact .inl (.inr ⟨o, s _ _ e⟩)
  . exact .inr q
mutual
theorem dw_mono {K : PySem.W.Frag} {H H' : Hp} (s : ∀ b o, H b = some o -> H' b = some o) : ∀ {v : V} {d : WData}, Dw K H v d -> Dw K H' v d
  | _, _, .non => .non
  | _, _, .bl b => .bl b
  | _, _, .int i => .int i
  | _, _, .str x => .str x
  | _, _, .byt b => .byt b
  | _, _, .lst q r => .lst (sq_mono s q) (dws_mono s r)
  | _, _, .tup q r => .tup (sqT_mono s q) (dws_mono s r)
theorem dws_mono {K : PySem.W.Frag} {H H' : Hp} (s : ∀ b o, H b = some o -> H' b = some o) : ∀ {vs : List V} {ds : List WData}, DwAll K H vs ds -> DwAll K H' vs ds
  | _, _, .nil => .nil
  | _, _, .cons a b => .cons (dw_mono s a) (dws_mono s b)
end
theorem callT {P : Program} {w : World} {K : PySem.W.Frag} {mg mb : Str -> Option Value} {k : Nat} {fa : Addr} {fd : FuncData} {ps : List Str} {sp : Sp} {s₁ : Shared} {vals : List Value} {ds : List WData} {R : PySem.W.WRecords} {cl : Str -> Option Addr} {d0 : WData} {c PT : Addr}
    (KX : K.In s₁.heap) (hK0 : K.lookup PT = none) (hns : s₁.heap.Ns mainGlobals mg) (hb : s₁.heap.Ns builtinsNs mb) (hbb : ∀ x : Str, x ≠ "__name__" -> mb x = bootBuiltins x) (hlim : s₁.heap.NoLimit) (hg : s₁.gens = #[])
    (hcd : PySem.W.CodeHd s₁.heap c PT) (hP : s₁.heap.get? PT = some (PySem.W.tabObj #[])) (hbm : BM mg s₁.heap)
    (hwl : WellAll w.params s₁.heap vals ds) (hpl : plWs ds = true) (hwt : ∀ d ∈ ds, d.weight <= 1048576) (hr : Room k callerA)
    (F : ∀ base : Heap, K.In base -> base.Ns mainGlobals mg -> PySem.W.CodeHd base c PT -> BM mg base -> FnOk P w K mg base CX0 k fa fd ps sp) (hbind : ∀ (s : Shared) (us : List Value), us.length = ps.length -> BindsTo s fd ⟨us, []⟩ (ps.zip us)) (hlen : ds.length = ps.length)
    (hsp : ∀ (H : Hp) (xs : List V), H PT = some (.tbl #[]) -> DwAll K H xs ds -> sp xs H (fun v H' => Dw K H' v d0) fun _ _ _ => False) :
    codeAny (model P w) callerA (.call (.ref fa) ⟨vals, []⟩) (fun r s' => ∃ u as, r = .ok (.ret u) /\ ReadsW R cl s'.heap u d0 as /\ OldK s₁.heap s'.heap /\ s'.os = s₁.os /\ AllBare s'.gens) s₁ := by
  obtain ⟨A, ho, ar⟩ := area_all ds vals hwl hpl hwt
  have hok : HOk P w (tabH K s₁.heap A PT) s₁.heap := tabH_ok ar hP
  have hS := dws_mono (tabH_same (K := K) ar hP) (dw_all KX ar ds vals hwl hpl ho)
  have hV := vals_toV ho
  have hnone : ∀ {b : Addr} {o : Obj}, s₁.heap.get? b = some o -> o.cls ≠ .none -> argH K s₁.heap A b = none -> tabH K s₁.heap A PT b = none := fun {b o} e hc n => by
    by_cases z : b = PT
    . subst z
      rw [hP] at e
      cases e
      exact absurd rfl hc
    . rw [tabH_ne z]; exact n
  have hdict : ∀ {b : Addr} {o : Obj} {es : Array DictEntry} {ep : Nat}, s₁.heap.get? b = some o -> o.data = .dict es ep -> tabH K s₁.heap A PT b = none := fun {b o es ep} e d => by
    by_cases z : b = PT
    . subst z
      rw [hP] at e
      cases e
      cases d
    . rw [tabH_ne z]; exact argH_dict ar e d
  have nK : ∀ b o, K.lookup b = some o -> tabH K s₁.heap A PT b = none := fun b o e => by
    by_cases z : b = PT
    . subst z
      rw [hK0] at e; cases e
    . rw [tabH_ne z]
      cases q : argH K s₁.heap A b with
      | none => rfl
      | some u =>
        rw [(argH_is ar q).1] at e
        cases e
  have hkind : ∀ b, tabH K s₁.heap A PT b = none \/ b = PT \/ ∃ o u, tabH K s₁.heap A PT b = some (.frz o u) := fun b => by
    by_cases z : b = PT
    . exact .inr (.inl z)
    . rw [tabH_ne z]
      rcases argH_only ar b with q | q
      . exact .inl q
      . exact .inr (.inr q)
  have hcls : ∀ {b : Addr} {o : Obj} {t : String}, s₁.heap.get? b = some o -> o.cls = .type t -> t ≠ "list" -> t ≠ "tuple" -> tabH K s₁.heap A PT b = none := fun {b o t} e hc n1 n2 =>
    hnone e (by rw [hc]; intro z; cases z) (argH_cls ar e (by rw [hc]; intro z; exact n1 (Value.type.inj z)) (by rw [hc]; intro z; exact n2 (Value.type.inj z)))
  have hPT := tabH_at (K := K) (h := s₁.heap) (A := A) (PT := PT)
  generalize tabH K s₁.heap A PT = H at hok hS hdict nK hkind hcls hPT
  have base_of : ∀ {b : Addr} {o : Obj}, s₁.heap.get? b = some o -> H b = none -> (hidT s₁.heap H).get? b = some o := fun e n => hidT_get e n
  have nsK : ∀ {b : Addr} {m : Str -> Option Value}, s₁.heap.Ns b m -> (hidT s₁.heap H).Ns b m := fun {b m} ⟨o, es, ep, e, d, r⟩ => ⟨o, es, ep, base_of e (hdict e d), d, r⟩
  have hKb : K.In (hidT s₁.heap H) := fun b o e => base_of (KX b o e) (nK b o e)
  have hM : Mod K mg (hidT s₁.heap H) := ⟨hKb, nsK hns, ⟨mb, nsK hb, hbb⟩, let ⟨mc, h1, h2⟩ := hlim; ⟨mc, nsK h1, h2⟩⟩
  have e0 : Env0 P w K mg (hidT s₁.heap H) callerA [] s₁ H := ⟨rfl, hM, fun b o e => of_hidT e, Nat.le_of_eq (hidT_size _ _), trivial, fun b hb => absurd (show b ∈ ([] : List Addr) from hb) (by simp), hok, .of_eq hg⟩
  have hl : vals.length = ps.length := by rw [wellAll_len hwl]; exact hlen
  have hcd' : PySem.W.CodeHd (hidT s₁.heap H) c PT := by
    obtain ⟨o, vs, file, tf, flags, tg, inF, text, tt, e1, r1, r⟩ := hcd
    exact ⟨o, vs, file, tf, flags, tg, inF, text, tt, base_of e1 (hcls e1 r1 (by decide) (by decide)), r1, r⟩
  have hbm' : BM mg (hidT s₁.heap H) := by
    obtain ⟨bm, o, b1, b2, b3, b4, b5⟩ := hbm
    exact ⟨bm, o, b1, b2, base_of b3 (hcls b3 b4 (by decide) (by decide)), b4, b5⟩
  refine codeAny_mono ((F _ hKb (nsK hns) hcd' hbm').run callerA [] s₁ H ⟨vals, []⟩ vals (vals.map toV) _ _ hr e0 (hbind s₁ vals hl) hV (hsp H _ hPT hS)) fun r s' x => ?_
  cases r with
  | error e => exact False.elim x
  | ok fl =>
    cases fl with
    | next => exact False.elim x
    | brk => exact False.elim x
    | cont => exact False.elim x
    | ret u =>
      obtain ⟨v, H', os, bare, un, hok', r', q⟩ := x
      have kept : ∀ b o, b ≠ PT -> s₁.heap.get? b = some o -> s'.heap.get? b = some o := fun b o nb e => by
        rcases hkind b with q2 | z | ⟨ob, u3, z⟩
        . exact un.keep b o e q2 (by intro z; exact absurd (show b ∈ ([] : List Addr) from z) (by simp)) (by simp)
        . exact absurd z nb
        . have z2 := un.frzs b ob _ z
          obtain ⟨e1, _⟩ := hok b _ z
          obtain ⟨e2, _⟩ := hok' b _ z2
          rw [e] at e1
          cases e1
          exact e2
      obtain ⟨more, hm⟩ := un.tbls PT #[] hPT
      have hP' : s'.heap.get? PT = some (PySem.W.tabObj (#[] ++ more)) := hok' PT _ hm
      have KX' : K.In s'.heap := fun b o e => kept b o (fun z => by rw [z, hK0] at e; cases e) (KX b o e)
      obtain ⟨as, hrd⟩ := Dw.reads (R := R) (cl := cl) hok' KX' d0 v u q r'
      refine ⟨u, as, rfl, hrd, ⟨fun b o e => ?_, fun b o e => ?_⟩, os, bare⟩
      . by_cases nb : b = PT
        . subst nb
          rw [hP] at e
          cases e
          exact .inr (.inl ⟨(hcd.tab hP).isCodeTable, rfl, #[], more, rfl, hP'⟩)
        . exact .inl (kept b o nb e)
      . by_cases nb : b = PT
        . subst nb
          exact ⟨_, hP'⟩
        . exact ⟨o, kept b o nb e⟩
theorem not_in {K : PySem.W.Frag} {h : Heap} {PT : Addr} (KX : K.In h) (nt : PySem.W.noTabs K = true) (hP : h.get? PT = some (PySem.W.tabObj #[])) : K.lookup PT = none := by
  cases e : K.lookup PT with
  | none => rfl
  | some o =>
    have e2 := KX _ _ e
    rw [hP] at e2
    cases e2
    have z := List.all_eq_true.mp nt _ (PySem.W.mem_of_lookupK e)
    exact absurd (show false = true from z) Bool.false_ne_true
theorem walkT {r : OpenSpec} {k : Nat} {q : Program} {loose : List Str} {XP : (Str -> Option Value) -> Heap -> Prop} {YP : World -> Heap -> Prop} {d dr : DefRec} {K : Params -> PySem.W.Frag} {ps : List Str} {sp : PySem.W.Frag -> Addr -> Sp}
    (hwell : r.wellSaid = true) (hlen : r.args.length = ps.length) (hr : Room k callerA)
    (hY : ∀ (w : World) (h : Heap), YP w h -> (K w.params).In h) (hnt : ∀ w : World, PySem.W.noTabs (K w.params) = true) (hdr : dr ∈ recsOf q)
    (F : ∀ (w : World) (mg : Str -> Option Value) (fa : Addr) (h : Heap) (c PT : Addr), YP w h -> (K w.params).In h -> h.Ns mainGlobals mg -> mg d.name = some (.ref fa) -> (∃ f o fx, mg dr.name = some (.ref f) /\ h.get? f = some o /\ o.data = .func fx /\ fx.code = .ref c) ->
      ∃ fd : FuncData, (∀ (s : Shared) (us : List Value), us.length = ps.length -> BindsTo s fd ⟨us, []⟩ (ps.zip us)) /\
        ∀ base : Heap, (K w.params).In base -> base.Ns mainGlobals mg -> PySem.W.CodeHd base c PT -> BM mg base -> FnOk r.prog w (K w.params) mg base CX0 k fa fd ps (sp (K w.params) PT))
    (hsp : ∀ (K : PySem.W.Frag) (PT : Addr) (H : Hp) (xs : List V) (a : Codec.denoteAll r.args), H PT = some (.tbl #[]) -> Codec.withinAll r.args a = true -> Codec.app r.args r.asked a = true -> DwAll K H xs (Codec.encAll r.args a) ->
      sp K PT xs H (fun v H' => Dw K H' v (r.ret.enc (Codec.app r.args r.f a))) fun _ _ _ => False) :
    PySem.W.WalkOS q loose XP YP r d [] (fun f vs => PySem.call f vs) := by
  intro w s_0 s₁ mg mb G Y fa o pm cd doc dV kV ho hd hcd hD hmg hg args vals as hpre hlay hrd hwl hlo
  obtain ⟨a, e1, e2⟩ := PySem.W.os_pre_some hpre
  obtain ⟨e3, hwi⟩ := Codec.encAll_of_decAll r.args args a e1
  subst e3
  have KX := hY w _ Y
  obtain ⟨f, of, fx, c, PT, t1, t2, t3, t4, t5, t6⟩ := G.T.tab dr hdr
  have hP : s₁.heap.get? PT = some (PySem.W.tabObj #[]) := t6.2
  obtain ⟨fd, hb, hF⟩ := F w mg fa _ c PT Y KX G.T.g hmg ⟨f, of, fx, t1, t2, t3, t4⟩
  refine PySem.W.enter_call (codeAny_mono (callT (R := []) (cl := classAt s_0.heap) (d0 := r.ret.enc (Codec.app r.args r.f a)) KX (not_in KX (hnt w) hP) G.T.g G.T.b G.T.builtins G.T.nolimit hg (PySem.W.CodeHd.of t5 t6) hP G.T.bmain hwl (pl_encAll _ _) (layable_weight hlay) hr hF hb (by rw [encAll_len]; exact hlen)
    (fun H xs hO hS => hsp (K w.params) PT H xs a hO hwi e2 hS)) fun r' s' hq => ?_)
  obtain ⟨u, as', rfl, h1, h2, h3, h4⟩ := hq
  exact ⟨.inl ⟨u, _, as', rfl, fun _ => rfl, h1, (OpenSpec.post_iff hwell hwi _ _).mpr rfl, fun z => Bool.noConfusion (show false = true from z)⟩, h2, h3, h4⟩
end W2
namespace M
open Vbhoak
theorem foldl_add : ∀ (l : List Nat) (a : Nat), l.foldl (fun a b => a + b) a = a + l.sum
  | [], a => by simp
  | x :: l, a => by rw [List.foldl_cons, foldl_add l, List.sum_cons]; omega
theorem sum_eq (l : List Nat) : Vbhoak.sum l = l.sum := by unfold Vbhoak.sum; rw [foldl_add]; omega
def mins (l : List Duty) : List Nat := l.map fun t => t.minutes
theorem load_eq (l : List Duty) : load l = (mins l).sum := by unfold load; rw [sum_eq]; rfl
theorem load_cons (t : Duty) (l : List Duty) : load (t :: l) = t.minutes + load l := by rw [load_eq, load_eq]; simp [mins]
theorem load_nil : load [] = 0 := rfl
def need (most : Nat) : List Nat -> Nat -> Nat -> Nat
  | [], n, _ => n
  | t :: l, n, used => if most < used + t then need most l (n + 1) t else need most l n (used + t)
theorem greedy_need (most : Nat) : ∀ (l : List Duty) (n used : Nat), n ≠ 0 -> greedy most l n used = need most (mins l) n used
  | [], n, used, _ => rfl
  | t :: l, n, used, hn => by
    unfold greedy
    show _ = need most (t.minutes :: mins l) n used
    unfold need
    by_cases h : used + t.minutes <= most
    . rw [if_pos ⟨h, hn⟩, if_neg (by omega)]; exact greedy_need most l n _ hn
    . rw [if_neg (fun z => h z.1), if_pos (by omega)]; exact greedy_need most l (n + 1) _ (by omega)
theorem greedy0 (most : Nat) (t : Duty) (l : List Duty) : greedy most (t :: l) 0 0 = need most (mins l) 1 t.minutes := by
  unfold greedy
  rw [if_neg (fun z => z.2 rfl)]
  exact greedy_need most l 1 _ (by omega)
theorem fits_iff (most k : Nat) (l : List Duty) (hk : 1 <= k) (ha : ∀ t ∈ l, t.minutes <= most) : fits most k l = true ↔ need most (mins l) 1 0 <= k := by
  unfold fits
  have h1 : (l.all fun t => decide (t.minutes <= most)) = true := List.all_eq_true.mpr fun t h => decide_eq_true (ha t h)
  rw [h1, Bool.true_and]
  cases l with
  | nil => simp [greedy, need, mins]; omega
  | cons t l =>
    rw [greedy0]
    show decide (need most (mins l) 1 t.minutes <= k) = true ↔ need most (t.minutes :: mins l) 1 0 <= k
    have h2 : t.minutes <= most := ha t (List.mem_cons_self ..)
    unfold need
    rw [if_neg (by omega)]
    simp
    cases l <;> simp [need, mins]
theorem need_mono {most most' : Nat} (hm : most <= most') : ∀ (l : List Nat) (n n' used used' : Nat), (∀ t ∈ l, t <= most) -> (n' < n \/ (n' = n /\ used' <= used)) -> need most' l n' used' <= need most l n used
  | [], n, n', used, used', _, h => by unfold need; omega
  | t :: l, n, n', used, used', ha, h => by
    have ht : t <= most := ha t (List.mem_cons_self ..)
    have hl : ∀ t ∈ l, t <= most := fun x hx => ha x (List.mem_cons_of_mem _ hx)
    unfold need
    by_cases c1 : most < used + t
    . rw [if_pos c1]
      by_cases c2 : most' < used' + t
      . rw [if_pos c2]; exact need_mono hm l _ _ _ _ hl (by omega)
      . rw [if_neg c2]; exact need_mono hm l _ _ _ _ hl (by omega)
    . rw [if_neg c1]
      by_cases c2 : most' < used' + t
      . rw [if_pos c2]; exact need_mono hm l _ _ _ _ hl (by omega)
      . rw [if_neg c2]; exact need_mono hm l _ _ _ _ hl (by omega)
theorem fits_all {most k : Nat} {l : List Duty} (h : fits most k l = true) : ∀ t ∈ l, t.minutes <= most := by
  unfold fits at h
  rw [Bool.and_eq_true] at h
  exact fun t ht => of_decide_eq_true (List.all_eq_true.mp h.1 t ht)
theorem mem_mins {l : List Duty} {x : Nat} : x ∈ mins l ↔ ∃ t ∈ l, t.minutes = x := by simp [mins]
theorem fits_mono {most most' k : Nat} {l : List Duty} (hk : 1 <= k) (hm : most <= most') (h : fits most k l = true) : fits most' k l = true := by
  have h1 := fits_all h
  rw [fits_iff most' k l hk fun t ht => Nat.le_trans (h1 t ht) hm]
  have h2 := (fits_iff most k l hk h1).mp h
  exact Nat.le_trans (need_mono hm _ _ _ _ _ (fun x hx => let ⟨t, ht, e⟩ := mem_mins.mp hx; e ▸ h1 t ht) (.inr ⟨rfl, Nat.le_refl _⟩)) h2
theorem need_whole {most : Nat} : ∀ (l : List Nat) (n used : Nat), used + l.sum <= most -> need most l n used = n
  | [], n, used, _ => rfl
  | t :: l, n, used, h => by
    rw [List.sum_cons] at h
    unfold need
    rw [if_neg (by omega)]
    exact need_whole l n _ (by omega)
theorem le_sum {x : Nat} : ∀ {l : List Nat}, x ∈ l -> x <= l.sum
  | y :: l, h => by
    rw [List.sum_cons]
    rcases List.mem_cons.mp h with rfl | h
    . omega
    . have := le_sum h; omega
theorem fits_load {k : Nat} {l : List Duty} (hk : 1 <= k) : fits (load l) k l = true := by
  rw [fits_iff _ k l hk fun t ht => by rw [load_eq]; exact le_sum (mem_mins.mpr ⟨t, ht, rfl⟩)]
  rw [need_whole _ _ _ (by rw [load_eq]; omega)]
  exact hk
theorem firstFit_spec (l : List Duty) (k : Nat) : ∀ (f m : Nat), fits (m + f) k l = true -> fits (firstFit l k f m) k l = true /\ m <= firstFit l k f m /\ firstFit l k f m <= m + f /\ ∀ x, m <= x -> x < firstFit l k f m -> fits x k l = false
  | 0, m, h => ⟨by simpa [firstFit] using h, by simp [firstFit], by simp [firstFit], fun x h1 h2 => by simp [firstFit] at h2; omega⟩
  | f + 1, m, h => by
    unfold firstFit
    by_cases c : fits m k l = true
    . rw [if_pos c]
      exact ⟨c, Nat.le_refl _, by omega, fun x h1 h2 => by omega⟩
    . rw [if_neg c]
      obtain ⟨h1, h2, h3, h4⟩ := firstFit_spec l k f (m + 1) (by rw [show m + 1 + f = m + (f + 1) by omega]; exact h)
      refine ⟨h1, by omega, by omega, fun x hx1 hx2 => ?_⟩
      by_cases e : x = m
      . subst e; simpa using c
      . exact h4 x (by omega) hx2
theorem least_fits {k : Nat} {l : List Duty} (hk : 1 <= k) : fits (leastLoad l k) k l = true := (firstFit_spec l k (load l) 0 (by rw [Nat.zero_add]; exact fits_load hk)).1
theorem least_le {k : Nat} {l : List Duty} (hk : 1 <= k) : leastLoad l k <= load l := by
  have h := (firstFit_spec l k (load l) 0 (by rw [Nat.zero_add]; exact fits_load hk)).2.2.1
  unfold leastLoad
  omega
theorem least_min {k m : Nat} {l : List Duty} (hk : 1 <= k) (h : m < leastLoad l k) : fits m k l = false := (firstFit_spec l k (load l) 0 (by rw [Nat.zero_add]; exact fits_load hk)).2.2.2 m (Nat.zero_le _) h
theorem least_iff {k m : Nat} {l : List Duty} (hk : 1 <= k) : fits m k l = true ↔ leastLoad l k <= m := by
  constructor
  . intro h
    refine Nat.le_of_not_lt fun z => ?_
    rw [least_min hk z] at h
    cases h
  . exact fun h => fits_mono hk h (least_fits hk)
def maxD (l : List Nat) : Nat := l.foldr max 0
theorem maxD_ge : ∀ {l : List Nat} {x : Nat}, x ∈ l -> x <= maxD l
  | y :: l, x, h => by
    show x <= max y (maxD l)
    rcases List.mem_cons.mp h with rfl | h
    . omega
    . have := maxD_ge h; omega
theorem maxD_le {m : Nat} : ∀ {l : List Nat}, (∀ x ∈ l, x <= m) -> maxD l <= m
  | [], _ => Nat.zero_le _
  | y :: l, h => by
    show max y (maxD l) <= m
    have h1 := h y (List.mem_cons_self ..)
    have h2 := maxD_le fun x hx => h x (List.mem_cons_of_mem y hx)
    omega
theorem maxD_is {m : Nat} {l : List Nat} (hm : m ∈ l) (h : ∀ x ∈ l, x <= m) : m = maxD l := Nat.le_antisymm (maxD_ge hm) (maxD_le h)
theorem max_least {k : Nat} {l : List Duty} (hk : 1 <= k) : maxD (mins l) <= leastLoad l k := maxD_le fun x hx => let ⟨t, ht, e⟩ := mem_mins.mp hx; e ▸ fits_all (least_fits hk) t ht
theorem search_yes {k mid : Nat} {l : List Duty} (hk : 1 <= k) (hm : maxD (mins l) <= mid) (h : need mid (mins l) 1 0 <= k) : leastLoad l k <= mid :=
  (least_iff hk).mp ((fits_iff mid k l hk fun t ht => Nat.le_trans (maxD_ge (mem_mins.mpr ⟨t, ht, rfl⟩)) hm).mpr h)
theorem search_no {k mid : Nat} {l : List Duty} (hk : 1 <= k) (hm : maxD (mins l) <= mid) (h : ¬ need mid (mins l) 1 0 <= k) : mid + 1 <= leastLoad l k := by
  refine Nat.lt_of_not_le fun z => h ?_
  exact (fits_iff mid k l hk fun t ht => Nat.le_trans (maxD_ge (mem_mins.mpr ⟨t, ht, rfl⟩)) hm).mp ((least_iff hk).mpr z)
theorem need_le (most : Nat) : ∀ (l : List Nat) (n used : Nat), n <= need most l n used /\ need most l n used <= n + l.length
  | [], n, used => by simp [need]
  | t :: l, n, used => by
    unfold need
    rw [List.length_cons]
    by_cases c : most < used + t
    . rw [if_pos c]; have := need_le most l (n + 1) t; omega
    . rw [if_neg c]; have := need_le most l n (used + t); omega
def stp (l : List Duty) (most i : Nat) (rest : List (Option Split)) (m : Option Split) (n : Nat) : Option Split :=
  if most < load ((l.drop i).take n) then m else match rest.getD (i + n) none with
    | none => m
    | some s => pick m ⟨load ((l.drop i).take n) * load ((l.drop i).take n) + s.cost, n :: s.cuts⟩
def part (l : List Duty) (most i : Nat) (rest : List (Option Split)) (N : Nat) : Option Split := (List.range N).foldl (stp l most i rest) none
theorem part_succ (l : List Duty) (most i : Nat) (rest : List (Option Split)) (N : Nat) : part l most i rest (N + 1) = stp l most i rest (part l most i rest N) N := by
  unfold part
  rw [List.range_succ, List.foldl_append]
  rfl
theorem oneMore_eq (l : List Duty) (most : Nat) (rest : List (Option Split)) : oneMore l most rest = (List.range (l.length + 1)).map fun i => part l most i rest (l.length + 1 - i) := rfl
theorem oneMore_at {l : List Duty} {most i : Nat} {rest : List (Option Split)} (h : i <= l.length) : (oneMore l most rest)[i]? = some (part l most i rest (l.length + 1 - i)) := by
  rw [oneMore_eq, List.getElem?_map, List.getElem?_range (by omega)]
  rfl
theorem oneMore_len (l : List Duty) (most : Nat) (rest : List (Option Split)) : (oneMore l most rest).length = l.length + 1 := by rw [oneMore_eq]; simp
theorem splits_len (l : List Duty) (most : Nat) : ∀ k, (splits l most k).length = l.length + 1
  | 0 => by simp [splits]
  | k + 1 => oneMore_len l most _
def enc (i : Nat) (s : Split) : Nat × Nat := (s.cost, i + s.cuts.headD 0)
structure From (l : List Duty) (most i : Nat) (rest : List (Option Split)) (N : Nat) (s : Split) : Prop where
  ex : ∃ n s', s.cuts = n :: s'.cuts /\ n < N /\ rest.getD (i + n) none = some s' /\ load ((l.drop i).take n) <= most /\ s.cost = load ((l.drop i).take n) * load ((l.drop i).take n) + s'.cost
theorem From.more {l : List Duty} {most i N : Nat} {rest : List (Option Split)} {s : Split} (h : From l most i rest N s) : From l most i rest (N + 1) s := by
  obtain ⟨n, s', h1, h2, h3⟩ := h.ex
  exact ⟨n, s', h1, by omega, h3⟩
theorem part_from (l : List Duty) (most i : Nat) (rest : List (Option Split)) : ∀ (N : Nat) (s : Split), part l most i rest N = some s -> From l most i rest N s
  | 0, s, h => by cases h
  | N + 1, s, h => by
    rw [part_succ] at h
    unfold stp at h
    by_cases c : most < load ((l.drop i).take N)
    . rw [if_pos c] at h
      exact (part_from l most i rest N s h).more
    . rw [if_neg c] at h
      cases e : rest.getD (i + N) none with
      | none =>
        rw [e] at h
        exact (part_from l most i rest N s h).more
      | some s' =>
        rw [e] at h
        dsimp only at h
        have new : From l most i rest (N + 1) ⟨load ((l.drop i).take N) * load ((l.drop i).take N) + s'.cost, N :: s'.cuts⟩ := ⟨N, s', rfl, by omega, e, by omega, rfl⟩
        cases e2 : part l most i rest N with
        | none =>
          rw [e2] at h
          have h' := Option.some.inj h
          subst h'
          exact new
        | some z =>
          rw [e2] at h
          unfold pick at h
          dsimp only at h
          split at h
          . have h' := Option.some.inj h
            subst h'
            exact new
          . have h' := Option.some.inj h
            subst h'
            exact (part_from l most i rest N _ e2).more
theorem part_big {l : List Duty} {most i N : Nat} {rest : List (Option Split)} (c : most < load ((l.drop i).take N)) : part l most i rest (N + 1) = part l most i rest N := by
  rw [part_succ]; unfold stp; rw [if_pos c]
theorem part_non {l : List Duty} {most i N : Nat} {rest : List (Option Split)} (e : rest.getD (i + N) none = none) : part l most i rest (N + 1) = part l most i rest N := by
  rw [part_succ]; unfold stp; rw [e]; split <;> rfl
theorem part_first {l : List Duty} {most i N : Nat} {rest : List (Option Split)} {s : Split} (c : ¬ most < load ((l.drop i).take N)) (e : rest.getD (i + N) none = some s) (h : part l most i rest N = none) :
    (part l most i rest (N + 1)).map (enc i) = some (load ((l.drop i).take N) * load ((l.drop i).take N) + s.cost, i + N) := by
  rw [part_succ]; unfold stp; rw [if_neg c, e, h]; rfl
theorem part_lower {l : List Duty} {most i N : Nat} {rest : List (Option Split)} {s z : Split} (c : ¬ most < load ((l.drop i).take N)) (e : rest.getD (i + N) none = some s) (h : part l most i rest N = some z)
    (q : load ((l.drop i).take N) * load ((l.drop i).take N) + s.cost <= z.cost) :
    (part l most i rest (N + 1)).map (enc i) = some (load ((l.drop i).take N) * load ((l.drop i).take N) + s.cost, i + N) := by
  obtain ⟨n, s', h1, h2, _⟩ := (part_from l most i rest N z h).ex
  rw [part_succ]; unfold stp; rw [if_neg c, e, h]
  dsimp only
  unfold pick
  dsimp only
  have b : better ⟨load ((l.drop i).take N) * load ((l.drop i).take N) + s.cost, N :: s.cuts⟩ z = true := by
    unfold better
    dsimp only
    rw [h1]
    unfold longer
    rw [decide_eq_true h2]
    rcases Nat.lt_or_eq_of_le q with q | q
    . simp [q]
    . simp [q]
  rw [if_pos b]
  rfl
theorem part_higher {l : List Duty} {most i N : Nat} {rest : List (Option Split)} {s z : Split} (c : ¬ most < load ((l.drop i).take N)) (e : rest.getD (i + N) none = some s) (h : part l most i rest N = some z)
    (q : ¬ load ((l.drop i).take N) * load ((l.drop i).take N) + s.cost <= z.cost) : part l most i rest (N + 1) = some z := by
  rw [part_succ]; unfold stp; rw [if_neg c, e, h]
  dsimp only
  unfold pick
  dsimp only
  have b : better ⟨load ((l.drop i).take N) * load ((l.drop i).take N) + s.cost, N :: s.cuts⟩ z = false := by
    unfold better
    dsimp only
    rw [decide_eq_false (by omega), Bool.false_or, beq_eq_false_iff_ne.mpr (by omega), Bool.false_and]
  rw [if_neg (by rw [b]; exact Bool.false_ne_true)]
theorem sum_take_le : ∀ (l : List Nat) (a b : Nat), a <= b -> (l.take a).sum <= (l.take b).sum
  | [], a, b, _ => by simp
  | x :: l, 0, b, _ => by simp
  | x :: l, a + 1, 0, h => by omega
  | x :: l, a + 1, b + 1, h => by
    rw [List.take_succ_cons, List.take_succ_cons, List.sum_cons, List.sum_cons]
    have := sum_take_le l a b (by omega)
    omega
theorem mins_take (l : List Duty) (n : Nat) : mins (l.take n) = (mins l).take n := by unfold mins; rw [List.map_take]
theorem mins_drop (l : List Duty) (n : Nat) : mins (l.drop n) = (mins l).drop n := by unfold mins; rw [List.map_drop]
theorem mins_len (l : List Duty) : (mins l).length = l.length := by simp [mins]
theorem load_cut (l : List Duty) (i n : Nat) : load ((l.drop i).take n) = (((mins l).drop i).take n).sum := by rw [load_eq, mins_take, mins_drop]
theorem sum_take_succ : ∀ (l : List Nat) (n : Nat), n < l.length -> (l.take (n + 1)).sum = (l.take n).sum + l.getD n 0
  | [], n, h => by simp at h
  | x :: l, 0, _ => by simp
  | x :: l, n + 1, h => by
    have ih := sum_take_succ l n (by simpa using h)
    rw [List.take_succ_cons, List.sum_cons, ih, List.take_succ_cons, List.sum_cons, List.getD_cons_succ]
    omega
theorem load_more {l : List Duty} {i n : Nat} (h : i + n < l.length) : load ((l.drop i).take (n + 1)) = load ((l.drop i).take n) + (mins l).getD (i + n) 0 := by
  rw [load_cut, load_cut, sum_take_succ _ _ (by rw [List.length_drop, mins_len]; omega)]
  congr 1
  rw [List.getD_eq_getElem?_getD, List.getD_eq_getElem?_getD, List.getElem?_drop]
theorem load_grows (l : List Duty) (i a b : Nat) (h : a <= b) : load ((l.drop i).take a) <= load ((l.drop i).take b) := by rw [load_cut, load_cut]; exact sum_take_le _ _ _ h
theorem part_stop {l : List Duty} {most i N : Nat} {rest : List (Option Split)} (c : most < load ((l.drop i).take N)) : ∀ d, part l most i rest (N + d) = part l most i rest N
  | 0 => rfl
  | d + 1 => by
    rw [<- Nat.add_assoc, part_big (Nat.lt_of_lt_of_le c (load_grows l i N (N + d) (by omega)))]
    exact part_stop c d
inductive Can (most : Nat) : Nat -> List Duty -> Prop
  | nil : Can most 0 []
  | more {k : Nat} {l : List Duty} (n : Nat) (hn : n <= l.length) (h : load (l.take n) <= most) (r : Can most k (l.drop n)) : Can most (k + 1) l
theorem Can.empty (most : Nat) : ∀ k, Can most k []
  | 0 => .nil
  | k + 1 => .more 0 (Nat.le_refl _) (Nat.zero_le _) (Can.empty most k)
theorem can_need {most : Nat} : ∀ (l : List Duty) (k n used : Nat), (∀ t ∈ l, t.minutes <= most) -> need most (mins l) n used <= k + n -> ∃ p, p <= l.length /\ (used <= most -> used + load (l.take p) <= most) /\ Can most k (l.drop p)
  | [], k, n, used, _, _ => ⟨0, Nat.le_refl _, fun h => h, Can.empty most k⟩
  | t :: l, k, n, used, ha, h => by
    have h' : (if most < used + t.minutes then need most (mins l) (n + 1) t.minutes else need most (mins l) n (used + t.minutes)) <= k + n := h
    have ht : t.minutes <= most := ha t (List.mem_cons_self ..)
    have hl : ∀ t ∈ l, t.minutes <= most := fun x hx => ha x (List.mem_cons_of_mem _ hx)
    by_cases c : most < used + t.minutes
    . rw [if_pos c] at h'
      have hb := (need_le most (mins l) (n + 1) t.minutes).1
      obtain ⟨k', rfl⟩ : ∃ k', k = k' + 1 := ⟨k - 1, by omega⟩
      obtain ⟨p, h1, h2, h3⟩ := can_need l k' (n + 1) t.minutes hl (by omega)
      refine ⟨0, Nat.zero_le _, fun z => z, .more (p + 1) (by simpa using h1) ?_ h3⟩
      show load ((t :: l).take (p + 1)) <= most
      rw [List.take_succ_cons, load_cons]
      exact h2 ht
    . rw [if_neg c] at h'
      obtain ⟨p, h1, h2, h3⟩ := can_need l k n (used + t.minutes) hl h'
      refine ⟨p + 1, by simpa using h1, fun _ => ?_, h3⟩
      rw [List.take_succ_cons, load_cons]
      have := h2 (by omega)
      omega
theorem can_of_fits {most k : Nat} {l : List Duty} (hk : 1 <= k) (h : fits most k l = true) : Can most k l := by
  have h1 := fits_all h
  have h2 := (fits_iff most k l hk h1).mp h
  obtain ⟨k', rfl⟩ : ∃ k', k = k' + 1 := ⟨k - 1, by omega⟩
  obtain ⟨p, h3, h4, h5⟩ := can_need l k' 1 0 h1 (by omega)
  exact .more p h3 (by have := h4 (Nat.zero_le _); omega) h5
theorem part_some {l : List Duty} {most i : Nat} {rest : List (Option Split)} : ∀ {N n : Nat} {s : Split}, n < N -> load ((l.drop i).take n) <= most -> rest.getD (i + n) none = some s -> ∃ z, part l most i rest N = some z
  | 0, n, s, h, _, _ => by omega
  | N + 1, n, s, h, hl, e => by
    by_cases q : n = N
    . subst q
      cases h1 : part l most i rest n with
      | none =>
        have z := part_first (by omega) e h1
        cases h2 : part l most i rest (n + 1) with
        | none => rw [h2] at z; cases z
        | some y => exact ⟨y, rfl⟩
      | some y =>
        by_cases c : load ((l.drop i).take n) * load ((l.drop i).take n) + s.cost <= y.cost
        . have z := part_lower (by omega) e h1 c
          cases h2 : part l most i rest (n + 1) with
          | none => rw [h2] at z; cases z
          | some y => exact ⟨y, rfl⟩
        . exact ⟨y, part_higher (by omega) e h1 c⟩
    . obtain ⟨y, hy⟩ := part_some (N := N) (by omega) hl e
      by_cases c : most < load ((l.drop i).take N)
      . exact ⟨y, by rw [part_big c]; exact hy⟩
      . cases e2 : rest.getD (i + N) none with
        | none => exact ⟨y, by rw [part_non e2]; exact hy⟩
        | some s2 =>
          by_cases c2 : load ((l.drop i).take N) * load ((l.drop i).take N) + s2.cost <= y.cost
          . have z := part_lower c e2 hy c2
            cases h2 : part l most i rest (N + 1) with
            | none => rw [h2] at z; cases z
            | some y => exact ⟨y, rfl⟩
          . exact ⟨y, part_higher c e2 hy c2⟩
theorem getD_of {α : Type} {l : List α} {i : Nat} {x d : α} (h : l[i]? = some x) : l.getD i d = x := by rw [List.getD_eq_getElem?_getD, h]; rfl
theorem splits_some {l : List Duty} {most : Nat} : ∀ (k i : Nat), i <= l.length -> Can most k (l.drop i) -> ∃ s, (splits l most k).getD i none = some s
  | 0, i, hi, h => by
    have e : i = l.length := by
      generalize hd : l.drop i = d at h
      cases h
      have := congrArg List.length hd
      simp at this
      omega
    subst e
    refine ⟨⟨0, []⟩, getD_of ?_⟩
    unfold splits
    rw [List.getElem?_map, List.getElem?_range (by omega)]
    simp
  | k + 1, i, hi, h => by
    generalize hd : l.drop i = d at h
    cases h with
    | more n hn hl r =>
      subst hd
      rw [List.length_drop] at hn
      rw [List.drop_drop] at r
      obtain ⟨s, hs⟩ := splits_some k (i + n) (by omega) r
      obtain ⟨z, hz⟩ := part_some (l := l) (most := most) (i := i) (N := l.length + 1 - i) (n := n) (by omega) hl hs
      exact ⟨z, getD_of (by show (oneMore l most (splits l most k))[i]? = _; rw [oneMore_at hi, hz])⟩
theorem splits_cuts {l : List Duty} {most k i : Nat} {s : Split} (hi : i <= l.length) (h : (splits l most (k + 1)).getD i none = some s) : ∃ n s', s.cuts = n :: s'.cuts /\ i + n <= l.length /\ (splits l most k).getD (i + n) none = some s' := by
  have h1 : (oneMore l most (splits l most k)).getD i none = some s := h
  rw [getD_of (oneMore_at hi)] at h1
  obtain ⟨n, s', h2, h3, h4, _⟩ := (part_from l most i _ _ s h1).ex
  exact ⟨n, s', h2, by omega, h4⟩
theorem splits_zero {l : List Duty} {most i : Nat} {s : Split} (h : (splits l most 0).getD i none = some s) : i = l.length /\ s = ⟨0, []⟩ := by
  by_cases hi : i <= l.length
  . have e : (splits l most 0)[i]? = some (if i = l.length then some ⟨0, []⟩ else none) := by
      unfold splits
      rw [List.getElem?_map, List.getElem?_range (by omega)]
      rfl
    rw [getD_of e] at h
    by_cases c : i = l.length
    . rw [if_pos c] at h
      exact ⟨c, (Option.some.inj h).symm⟩
    . rw [if_neg c] at h
      cases h
  . rw [List.getD_eq_getElem?_getD, List.getElem?_eq_none (by rw [splits_len]; omega)] at h
    cases h
theorem headD_getD {α : Type} (l : List α) (d : α) : l.headD d = l.getD 0 d := by cases l <;> rfl
theorem splitOf_some {l : List Duty} {k : Nat} (hk : 1 <= k) : ∃ s, (splits l (leastLoad l k) k).getD 0 none = some s /\ splitOf l k = s.cuts := by
  obtain ⟨s, hs⟩ := splits_some (l := l) (most := leastLoad l k) k 0 (Nat.zero_le _) (can_of_fits hk (least_fits hk))
  refine ⟨s, hs, ?_⟩
  unfold splitOf
  rw [headD_getD, hs]
def pairs : Nat -> List Nat -> List (Nat × Nat)
  | _, [] => []
  | i, n :: r => (i, i + n) :: pairs (i + n) r
theorem pairs_len : ∀ (i : Nat) (c : List Nat), (pairs i c).length = c.length
  | _, [] => rfl
  | i, n :: r => by simp [pairs, pairs_len (i + n) r]
theorem pairs_snoc : ∀ (i : Nat) (c : List Nat) (n : Nat), pairs i (c ++ [n]) = pairs i c ++ [(i + c.sum, i + c.sum + n)]
  | i, [], n => by simp [pairs]
  | i, m :: c, n => by
    show (i, i + m) :: pairs (i + m) (c ++ [n]) = (i, i + m) :: (pairs (i + m) c ++ [(i + (m :: c).sum, i + (m :: c).sum + n)])
    rw [pairs_snoc (i + m) c n, List.sum_cons, Nat.add_assoc]
theorem stretches_eq : ∀ (c : List Nat) (i : Nat) (l : List Duty), stretches c (l.drop i) = (pairs i c).map fun x => (l.drop x.1).take (x.2 - x.1)
  | [], i, l => rfl
  | n :: r, i, l => by
    show (l.drop i).take n :: stretches r ((l.drop i).drop n) = (l.drop i).take (i + n - i) :: (pairs (i + n) r).map fun x => (l.drop x.1).take (x.2 - x.1)
    rw [List.drop_drop, stretches_eq r (i + n) l, Nat.add_sub_cancel_left]
theorem stretches_pairs (c : List Nat) (l : List Duty) : stretches c l = (pairs 0 c).map fun x => (l.drop x.1).take (x.2 - x.1) := stretches_eq c 0 l
structure Walk (l : List Duty) (most k j : Nat) (cuts done : List Nat) (s : Split) : Prop where
  le : j <= k
  cuts : cuts = done ++ s.cuts
  len : done.length = j
  at_ : (splits l most (k - j)).getD done.sum none = some s
  within : done.sum <= l.length
theorem Walk.next {l : List Duty} {most k j : Nat} {cuts done : List Nat} {s : Split} (w : Walk l most k j cuts done s) (h : j < k) : ∃ n s', s.cuts = n :: s'.cuts /\ Walk l most k (j + 1) cuts (done ++ [n]) s' := by
  obtain ⟨d, hd⟩ : ∃ d, k - j = d + 1 := ⟨k - j - 1, by omega⟩
  have a := w.at_
  rw [hd] at a
  obtain ⟨n, s', h1, h2, h3⟩ := splits_cuts w.within a
  refine ⟨n, s', h1, by omega, by rw [w.cuts, h1]; simp, by simp [w.len], ?_, by simp; omega⟩
  rw [show k - (j + 1) = d by omega]
  simpa using h3
theorem Walk.start {l : List Duty} {k : Nat} (hk : 1 <= k) : ∃ s, Walk l (leastLoad l k) k 0 (splitOf l k) [] s := by
  obtain ⟨s, h1, h2⟩ := splitOf_some (l := l) hk
  exact ⟨s, Nat.zero_le _, by rw [h2]; rfl, rfl, h1, Nat.zero_le _⟩
theorem Walk.last {l : List Duty} {most k : Nat} {cuts done : List Nat} {s : Split} (w : Walk l most k k cuts done s) : cuts = done /\ done.sum = l.length := by
  have a := w.at_
  rw [Nat.sub_self] at a
  obtain ⟨h1, h2⟩ := splits_zero a
  have c := w.cuts
  rw [h2] at c
  exact ⟨by simpa using c, h1⟩
theorem walk_to {l : List Duty} {most k : Nat} {cuts done : List Nat} {s : Split} : ∀ {j : Nat} (d : Nat), k = j + d -> Walk l most k j cuts done s -> ∃ done' s', Walk l most k k cuts done' s'
  | j, 0, e, w => ⟨done, s, by
    have e' : k = j := e
    subst e'
    exact w⟩
  | j, d + 1, e, w => by
    obtain ⟨n, s', _, w'⟩ := w.next (by omega)
    exact walk_to d (by omega) w'
theorem splitOf_len {l : List Duty} {k : Nat} (hk : 1 <= k) : (splitOf l k).length = k /\ (splitOf l k).sum = l.length := by
  obtain ⟨s, w⟩ := Walk.start (l := l) hk
  obtain ⟨d, s', w'⟩ := walk_to k (by omega) w
  obtain ⟨h1, h2⟩ := w'.last
  rw [h1]
  exact ⟨w'.len, h2⟩
theorem need_shift (most : Nat) : ∀ (l : List Nat) (n c used : Nat), need most l (n + c) used = need most l n used + c
  | [], n, c, used => rfl
  | t :: l, n, c, used => by
    unfold need
    by_cases h : most < used + t
    . rw [if_pos h, if_pos h, show n + c + 1 = n + 1 + c by omega]; exact need_shift most l _ c _
    . rw [if_neg h, if_neg h]; exact need_shift most l _ c _
theorem need_next {most : Nat} : ∀ (l : List Nat) (n used : Nat), (∀ t ∈ l, t <= most) -> n < need most l n used -> ∃ p, p < l.length /\ (used <= most -> used + (l.take p).sum <= most) /\ most < used + (l.take (p + 1)).sum /\ need most l n used = need most (l.drop p) (n + 1) 0
  | [], n, used, _, h => by unfold need at h; omega
  | t :: l, n, used, ha, h => by
    have ht : t <= most := ha t (List.mem_cons_self ..)
    have hl : ∀ t ∈ l, t <= most := fun x hx => ha x (List.mem_cons_of_mem _ hx)
    unfold need at h
    by_cases c : most < used + t
    . refine ⟨0, by simp, fun z => z, by simpa using c, ?_⟩
      show need most (t :: l) n used = need most (t :: l) (n + 1) 0
      unfold need
      rw [if_pos c, if_neg (by omega), Nat.zero_add]
    . rw [if_neg c] at h
      obtain ⟨p, h1, h2, h3, h4⟩ := need_next l n (used + t) hl h
      refine ⟨p + 1, by simpa using h1, fun _ => ?_, ?_, ?_⟩
      . rw [List.take_succ_cons, List.sum_cons]; have := h2 (by omega); omega
      . rw [List.take_succ_cons, List.sum_cons]; omega
      . rw [List.drop_succ_cons, <- h4]
        show need most (t :: l) n used = _
        rw [need, if_neg c]
structure Rch (ms : List Nat) (m i j : Nat) : Prop where
  le : i <= j
  lt : j < ms.length
  big : m <= ((ms.drop i).take (j + 1 - i)).sum
  first : ∀ q, i <= q -> q < j -> ((ms.drop i).take (q + 1 - i)).sum < m
theorem reach_is {l : List Duty} {m i e : Nat} (h : Rch (mins l) m i e) : ∀ (f j used : Nat), i <= j -> j <= e -> e - j <= f -> used = (((mins l).drop i).take (j - i)).sum -> reach l m f j used = e
  | 0, j, used, h1, h2, h3, _ => by unfold reach; omega
  | f + 1, j, used, h1, h2, h3, hu => by
    have hl := h.lt
    rw [mins_len] at hl
    have ej : ((l[j]?).map fun t => t.minutes).getD 0 = (mins l).getD j 0 := by
      unfold mins
      rw [List.getD_eq_getElem?_getD, List.getElem?_map]
    have eu : used + ((l[j]?).map fun t => t.minutes).getD 0 = (((mins l).drop i).take (j + 1 - i)).sum := by
      rw [ej, hu, show j + 1 - i = (j - i) + 1 by omega, sum_take_succ _ _ (by rw [List.length_drop, mins_len]; omega)]
      congr 1
      rw [List.getD_eq_getElem?_getD, List.getD_eq_getElem?_getD, List.getElem?_drop, show i + (j - i) = j by omega]
    unfold reach
    dsimp only
    rw [eu]
    by_cases q : j = e
    . subst q
      rw [if_pos (.inl h.big)]
    . have hb := h.first j h1 (by omega)
      rw [if_neg (by omega)]
      exact reach_is h f (j + 1) _ (by omega) (by omega) (by omega) rfl
def place (l : List Duty) (m : Nat) : Nat -> Nat
  | 0 => 0
  | a + 1 => reach l m l.length (place l m a) 0
theorem marks_eq (l : List Duty) (m : Nat) : ∀ (n a : Nat), marks l m n (place l m a) = (List.range n).map fun b => place l m (a + b)
  | 0, a => rfl
  | n + 1, a => by
    unfold marks
    rw [List.range_succ_eq_map, List.map_cons, List.map_map]
    have e : reach l m l.length (place l m a) 0 = place l m (a + 1) := rfl
    rw [e, marks_eq l m n (a + 1)]
    show _ :: _ = place l m (a + 0) :: _
    rw [Nat.add_zero]
    congr 1
    apply List.map_congr_left
    intro b _
    show place l m (a + 1 + b) = place l m (a + (b + 1))
    rw [show a + 1 + b = a + (b + 1) by omega]
structure Chain (l : List Duty) (m k a : Nat) : Prop where
  lt : place l m a < l.length
  left : k + 1 <= need (m - 1) ((mins l).drop (place l m a)) 1 0 + a
theorem Chain.next {l : List Duty} {m k a : Nat} (hm : 1 <= m) (ha : ∀ t ∈ l, t.minutes <= m - 1) (c : Chain l m k a) (h : a < k) : Rch (mins l) m (place l m a) (place l m (a + 1)) /\ Chain l m k (a + 1) := by
  have hd : ∀ t ∈ (mins l).drop (place l m a), t <= m - 1 := fun x hx => by
    obtain ⟨t, ht, e⟩ := mem_mins.mp (List.mem_of_mem_drop hx)
    exact e ▸ ha t ht
  obtain ⟨p, h1, h2, h3, h4⟩ := need_next _ 1 0 hd (by have := c.left; omega)
  rw [List.length_drop, mins_len] at h1
  have r : Rch (mins l) m (place l m a) (place l m a + p) := by
    refine ⟨by omega, by rw [mins_len]; omega, ?_, fun q hq1 hq2 => ?_⟩
    . rw [show place l m a + p + 1 - place l m a = p + 1 by omega]; omega
    . have h5 := sum_take_le ((mins l).drop (place l m a)) (q + 1 - place l m a) p (by omega)
      have h6 := h2 (by omega)
      omega
  have e : place l m (a + 1) = place l m a + p := reach_is r l.length (place l m a) 0 (Nat.le_refl _) (by omega) (by omega) (by simp)
  rw [e]
  refine ⟨r, by rw [e]; omega, ?_⟩
  rw [e]
  have c2 := c.left
  rw [h4, List.drop_drop, show (1 : Nat) + 1 = 1 + 1 from rfl, need_shift] at c2
  omega
theorem chain_start {l : List Duty} {k : Nat} (hk : 1 <= k) (hn : ∀ t ∈ l, t.minutes ≠ leastLoad l k) (hl : l ≠ []) : 1 <= leastLoad l k /\ (∀ t ∈ l, t.minutes <= leastLoad l k - 1) /\ Chain l (leastLoad l k) k 0 := by
  have h1 := fits_all (least_fits (l := l) hk)
  obtain ⟨t0, r0, rfl⟩ : ∃ t r, l = t :: r := by
    cases l with
    | nil => exact absurd rfl hl
    | cons t r => exact ⟨t, r, rfl⟩
  have hm : 1 <= leastLoad (t0 :: r0) k := by
    have a1 := h1 t0 (List.mem_cons_self ..)
    have a2 := hn t0 (List.mem_cons_self ..)
    omega
  have ha : ∀ t ∈ t0 :: r0, t.minutes <= leastLoad (t0 :: r0) k - 1 := fun t ht => by
    have a1 := h1 t ht
    have a2 := hn t ht
    omega
  refine ⟨hm, ha, by simp [place], ?_⟩
  have f := least_min (l := t0 :: r0) (m := leastLoad (t0 :: r0) k - 1) hk (by omega)
  have g : ¬ need (leastLoad (t0 :: r0) k - 1) (mins (t0 :: r0)) 1 0 <= k := fun z => by
    rw [(fits_iff _ k _ hk ha).mpr z] at f
    cases f
  show k + 1 <= need (leastLoad (t0 :: r0) k - 1) ((mins (t0 :: r0)).drop 0) 1 0 + 0
  rw [List.drop_zero]
  omega
theorem chain_all {l : List Duty} {k : Nat} (hk : 1 <= k) (hn : ∀ t ∈ l, t.minutes ≠ leastLoad l k) (hl : l ≠ []) : ∀ a, a <= k -> Chain l (leastLoad l k) k a
  | 0, _ => (chain_start hk hn hl).2.2
  | a + 1, h => ((chain_all hk hn hl a (by omega)).next (chain_start hk hn hl).1 (chain_start hk hn hl).2.1 (by omega)).2
theorem chain_rch {l : List Duty} {k a : Nat} (hk : 1 <= k) (hn : ∀ t ∈ l, t.minutes ≠ leastLoad l k) (hl : l ≠ []) (h : a < k) : Rch (mins l) (leastLoad l k) (place l (leastLoad l k) a) (place l (leastLoad l k) (a + 1)) :=
  ((chain_all hk hn hl a (by omega)).next (chain_start hk hn hl).1 (chain_start hk hn hl).2.1 h).1
theorem witness_none {l : List Duty} {k : Nat} (hn : ∀ t ∈ l, t.minutes ≠ leastLoad l k) : witnessOf l k = (List.range (k + 1)).map (place l (leastLoad l k)) := by
  unfold witnessOf
  dsimp only
  have e : (l.findIdx? fun t => t.minutes == leastLoad l k) = none := by
    rw [List.findIdx?_eq_none_iff]
    intro t ht
    exact beq_eq_false_iff_ne.mpr (hn t ht)
  rw [e]
  have h := marks_eq l (leastLoad l k) (k + 1) 0
  dsimp only
  show marks l (leastLoad l k) (k + 1) (place l (leastLoad l k) 0) = _
  rw [h]
  simp
theorem witness_some {l : List Duty} {k i : Nat} (hi : (mins l)[i]? = some (leastLoad l k)) (hf : ∀ j x, j < i -> (mins l)[j]? = some x -> x ≠ leastLoad l k) : witnessOf l k = List.replicate (k + 1) i := by
  unfold witnessOf
  dsimp only
  have e : (l.findIdx? fun t => t.minutes == leastLoad l k) = some i := by
    rw [List.findIdx?_eq_some_iff_getElem]
    obtain ⟨h1, h2⟩ := List.getElem?_eq_some_iff.mp hi
    rw [mins_len] at h1
    refine ⟨h1, ?_, fun j hj => ?_⟩
    . simp [mins] at h2
      simp [h2]
    . have h3 : j < l.length := by omega
      have h4 := hf j l[j].minutes hj (by simp [mins, List.getElem?_eq_getElem h3])
      simpa using h4
  rw [e]
theorem eq_of_perm {α : Type} {r : α -> α -> Prop} (as : ∀ a b, r a b -> r b a -> False) : ∀ {l1 l2 : List α}, l1.Perm l2 -> l1.Pairwise r -> l2.Pairwise r -> l1 = l2
  | [], l2, p, _, _ => by rw [List.nil_perm.mp p]
  | a :: l1, [], p, _, _ => absurd p.symm (by simp)
  | a :: l1, b :: l2, p, h1, h2 => by
    obtain ⟨a1, a2⟩ := List.pairwise_cons.mp h1
    obtain ⟨b1, b2⟩ := List.pairwise_cons.mp h2
    have e : a = b := by
      have ma : a ∈ b :: l2 := p.subset (List.mem_cons_self ..)
      have mb : b ∈ a :: l1 := p.symm.subset (List.mem_cons_self ..)
      rcases List.mem_cons.mp ma with z | z
      . exact z
      . rcases List.mem_cons.mp mb with y | y
        . exact y.symm
        . exact (as a b (a1 b y) (b1 a z)).elim
    subst e
    rw [eq_of_perm as (List.Perm.cons_inv p) a2 b2]
def bef (s t : Duty) : Prop := before s t = true
theorem bef_iff {s t : Duty} : bef s t ↔ ((s.due = 0 /\ t.due = 0 /\ s.room < t.room) \/ (s.due ≠ 0 /\ (t.due = 0 \/ s.due < t.due \/ (s.due = t.due /\ s.room < t.room)))) := by
  unfold bef before
  by_cases h : s.due = 0
  . simp [h]
  . simp [h]
theorem bef_asymm (a b : Duty) : bef a b -> bef b a -> False := by
  rw [bef_iff, bef_iff]; omega
theorem bef_trans {a b c : Duty} : bef a b -> bef b c -> bef a c := by
  rw [bef_iff, bef_iff, bef_iff]; omega
theorem bef_total {a b : Duty} (h : a.room ≠ b.room) : bef a b \/ bef b a := by
  rw [bef_iff, bef_iff]; omega
theorem put_perm (t : Duty) : ∀ l : List Duty, (putTask t l).Perm (t :: l)
  | [] => .refl _
  | x :: r => by
    unfold putTask
    split
    . exact .refl _
    . exact ((put_perm t r).cons x).trans (List.Perm.swap t x r)
theorem put_sorted {t : Duty} : ∀ {l : List Duty}, l.Pairwise bef -> (∀ x ∈ l, t.room ≠ x.room) -> (putTask t l).Pairwise bef
  | [], _, _ => List.pairwise_singleton ..
  | x :: r, h, hn => by
    obtain ⟨h1, h2⟩ := List.pairwise_cons.mp h
    unfold putTask
    by_cases c : before t x = true
    . rw [if_pos c]
      refine List.pairwise_cons.mpr ⟨fun y hy => ?_, h⟩
      rcases List.mem_cons.mp hy with rfl | hy
      . exact c
      . exact bef_trans c (h1 y hy)
    . rw [if_neg c]
      refine List.pairwise_cons.mpr ⟨fun y hy => ?_, put_sorted h2 fun y hy => hn y (List.mem_cons_of_mem _ hy)⟩
      rcases List.mem_cons.mp ((put_perm t r).subset hy) with rfl | hy
      . rcases bef_total (hn x (List.mem_cons_self ..)) with z | z
        . exact absurd z c
        . exact z
      . exact h1 y hy
theorem ordered_ok : ∀ {l : List Duty}, l.Pairwise (fun a b => a.room ≠ b.room) -> (ordered l).Perm l /\ (ordered l).Pairwise bef
  | [], _ => ⟨.refl _, List.Pairwise.nil⟩
  | t :: l, h => by
    obtain ⟨h1, h2⟩ := List.pairwise_cons.mp h
    obtain ⟨p, q⟩ := ordered_ok h2
    show (putTask t (ordered l)).Perm (t :: l) /\ (putTask t (ordered l)).Pairwise bef
    exact ⟨(put_perm t _).trans (p.cons t), put_sorted q fun x hx => h1 x (p.subset hx)⟩
def isDue (t : Duty) : Bool := t.due != 0
def keyLe (a b : Duty) : Prop := a.due < b.due \/ (a.due = b.due /\ a.room <= b.room)
theorem filter_split {α : Type} (p : α -> Bool) : ∀ l : List α, (l.filter p ++ l.filter fun x => !p x).Perm l
  | [] => .refl _
  | x :: l => by
    have ih := filter_split p l
    by_cases h : p x = true
    . rw [List.filter_cons_of_pos h, List.filter_cons_of_neg (by simp [h])]
      exact ih.cons x
    . rw [List.filter_cons_of_neg h, List.filter_cons_of_pos (by simp [h])]
      exact List.perm_middle.trans (ih.cons x)
theorem order_is {l ys : List Duty} (hl : l.Pairwise fun a b => a.room < b.room) (hp : ys.Perm (l.filter isDue)) (hs : ys.Pairwise keyLe) : ys ++ (l.filter fun t => !isDue t) = ordered l := by
  have hne : l.Pairwise fun a b => a.room ≠ b.room := hl.imp fun h => Nat.ne_of_lt h
  obtain ⟨p, q⟩ := ordered_ok hne
  refine eq_of_perm bef_asymm (((hp.append (.refl _)).trans (filter_split isDue l)).trans p.symm) ?_ q
  have dy : ∀ t ∈ ys, t.due ≠ 0 := fun t ht => by
    have := (List.mem_filter.mp (hp.subset ht)).2
    simpa [isDue] using this
  have nd : (l.filter isDue).Pairwise fun a b => a.room ≠ b.room := hne.sublist List.filter_sublist
  have ny : ys.Pairwise fun a b => a.room ≠ b.room := (hp.symm.pairwise_iff (fun {a b} h => fun e => h e.symm)).mp nd
  refine List.pairwise_append.mpr ⟨?_, ?_, fun a ha b hb => ?_⟩
  . refine ((hs.and ny).imp_of_mem fun {a b} ma mb h => ?_)
    have d1 := dy a ma
    have d2 := dy b mb
    obtain ⟨k, n⟩ := h
    unfold keyLe at k
    rw [bef_iff]
    omega
  . refine (hl.sublist List.filter_sublist).imp_of_mem fun {a b} ma mb h => ?_
    have d1 : a.due = 0 := by simpa [isDue] using (List.mem_filter.mp ma).2
    have d2 : b.due = 0 := by simpa [isDue] using (List.mem_filter.mp mb).2
    rw [bef_iff]
    omega
  . have d1 := dy a ha
    have d2 : b.due = 0 := by simpa [isDue] using (List.mem_filter.mp hb).2
    rw [bef_iff]
    omega
theorem times_snoc : ∀ (t : Nat) (l : List Duty) (x : Duty), timesFrom t (l ++ [x]) = timesFrom t l ++ [(x, t + load l + x.minutes)]
  | t, [], x => by simp [timesFrom, load_nil]
  | t, y :: l, x => by
    show (y, t + y.minutes) :: timesFrom (t + y.minutes) (l ++ [x]) = (y, t + y.minutes) :: (timesFrom (t + y.minutes) l ++ [(x, t + load (y :: l) + x.minutes)])
    rw [times_snoc (t + y.minutes) l x, load_cons, show t + y.minutes + load l = t + (y.minutes + load l) by omega]
def lates (s : List (Duty × Nat)) : List Int := (s.filter fun x => isDue x.1).map fun x => (x.2 : Int) - (x.1.due : Int)
def latF (m : Option Int) (x : Duty × Nat) : Option Int := if x.1.due = 0 then m else
  let d : Int := (x.2 : Int) - (x.1.due : Int)
  match m with
  | none => some d
  | some e => some (max e d)
theorem latest_eq (s : List (Duty × Nat)) : latest s = s.foldl latF none := rfl
theorem latF_some : ∀ (s : List (Duty × Nat)) (e : Int), s.foldl latF (some e) = some ((lates s).foldl max e)
  | [], e => rfl
  | x :: s, e => by
    rw [List.foldl_cons]
    by_cases h : x.1.due = 0
    . have e1 : latF (some e) x = some e := by unfold latF; rw [if_pos h]
      have e2 : lates (x :: s) = lates s := by unfold lates; rw [List.filter_cons_of_neg (by simp [isDue, h])]
      rw [e1, e2]; exact latF_some s e
    . have e1 : latF (some e) x = some (max e ((x.2 : Int) - (x.1.due : Int))) := by unfold latF; rw [if_neg h]
      have e2 : lates (x :: s) = ((x.2 : Int) - (x.1.due : Int)) :: lates s := by unfold lates; rw [List.filter_cons_of_pos (by simp [isDue, h])]; rfl
      rw [e1, e2, List.foldl_cons]; exact latF_some s _
theorem latF_none : ∀ (s : List (Duty × Nat)), s.foldl latF none = match lates s with
    | [] => none
    | d :: r => some (r.foldl max d)
  | [] => rfl
  | x :: s => by
    rw [List.foldl_cons]
    by_cases h : x.1.due = 0
    . have e1 : latF none x = none := by unfold latF; rw [if_pos h]
      have e2 : lates (x :: s) = lates s := by unfold lates; rw [List.filter_cons_of_neg (by simp [isDue, h])]
      rw [e1, e2]; exact latF_none s
    . have e1 : latF none x = some ((x.2 : Int) - (x.1.due : Int)) := by unfold latF; rw [if_neg h]
      have e2 : lates (x :: s) = ((x.2 : Int) - (x.1.due : Int)) :: lates s := by unfold lates; rw [List.filter_cons_of_pos (by simp [isDue, h])]; rfl
      rw [e1, e2]; exact latF_some s _
theorem foldl_max : ∀ (r : List Int) (d : Int), (r.foldl max d ∈ d :: r) /\ ∀ y ∈ d :: r, y <= r.foldl max d
  | [], d => ⟨List.mem_cons_self .., fun y hy => by simp at hy; simp [hy]⟩
  | x :: r, d => by
    obtain ⟨h1, h2⟩ := foldl_max r (max d x)
    rw [List.foldl_cons]
    refine ⟨?_, fun y hy => ?_⟩
    . rcases List.mem_cons.mp h1 with z | z
      . rw [z]
        by_cases c : d <= x
        . rw [Int.max_eq_right c]; exact List.mem_cons_of_mem _ (List.mem_cons_self ..)
        . rw [Int.max_eq_left (by omega)]; exact List.mem_cons_self ..
      . exact List.mem_cons_of_mem _ (List.mem_cons_of_mem _ z)
    . have h3 := h2 (max d x) (List.mem_cons_self ..)
      rcases List.mem_cons.mp hy with rfl | hy
      . omega
      . rcases List.mem_cons.mp hy with rfl | hy
        . omega
        . exact h2 y (List.mem_cons_of_mem _ hy)
theorem latest_none {s : List (Duty × Nat)} (h : lates s = []) : latest s = none := by rw [latest_eq, latF_none, h]
theorem latest_some {s : List (Duty × Nat)} {m : Int} (hm : m ∈ lates s) (h : ∀ y ∈ lates s, y <= m) : latest s = some m := by
  rw [latest_eq, latF_none]
  cases e : lates s with
  | nil => rw [e] at hm; cases hm
  | cons d r =>
    rw [e] at hm h
    obtain ⟨h1, h2⟩ := foldl_max r d
    have a := h _ h1
    have b := h2 m hm
    dsimp only
    rw [Int.le_antisymm a b]
theorem lates_snoc (s : List (Duty × Nat)) (x : Duty × Nat) : lates (s ++ [x]) = lates s ++ (if x.1.due = 0 then [] else [(x.2 : Int) - (x.1.due : Int)]) := by
  unfold lates
  rw [List.filter_append, List.map_append]
  by_cases h : x.1.due = 0
  . rw [if_pos h, List.filter_cons_of_neg (by simp [isDue, h])]; rfl
  . rw [if_neg h, List.filter_cons_of_pos (by simp [isDue, h])]; rfl
theorem tasks_sorted (h : House) : (tasksOf h).Pairwise fun a b => a.room < b.room := by
  unfold tasksOf
  refine List.Pairwise.sublist List.filter_sublist ?_
  rw [List.pairwise_map]
  have e : ∀ (l : List Room) (n : Nat), (l.zipIdx n).Pairwise fun a b => a.2 < b.2 := by
    intro l
    induction l with
    | nil => intro n; exact List.Pairwise.nil
    | cons x l ih =>
      intro n
      rw [List.zipIdx_cons]
      refine List.pairwise_cons.mpr ⟨fun y hy => ?_, ih (n + 1)⟩
      have := List.mem_zipIdx hy
      omega
  exact e h.rooms 0
def named (b : List Nat) : Option Nat := CODES.findIdx? fun c => c == b
theorem codes_eq : CODES = [[86, 68], [86, 67], [86, 73], [79, 68], [79, 67], [79, 79]] := by decide
theorem codes_two {c : List Nat} (h : c ∈ CODES) : c.length = 2 := by
  rw [codes_eq] at h
  simp only [List.mem_cons, List.not_mem_nil, or_false] at h
  rcases h with rfl | rfl | rfl | rfl | rfl | rfl <;> rfl
theorem named_len {b : List Nat} {c : Nat} (h : named b = some c) : b.length = 2 /\ c < 6 := by
  unfold named at h
  obtain ⟨h1, h2, _⟩ := List.findIdx?_eq_some_iff_getElem.mp h
  have e : CODES[c] = b := by simpa using h2
  refine ⟨?_, ?_⟩
  . rw [<- e]; exact codes_two (List.getElem_mem h1)
  . rw [codes_eq] at h1; exact h1
theorem named_at {b : List Nat} {c : Nat} (h : CODES[c]? = some b) : named b = some c := by
  have hc : c < 6 := by
    obtain ⟨h1, _⟩ := List.getElem?_eq_some_iff.mp h
    rw [codes_eq] at h1
    exact h1
  rw [codes_eq] at h
  unfold named
  rw [codes_eq]
  match c, hc, h with
  | 0, _, h => cases h; rfl
  | 1, _, h => cases h; rfl
  | 2, _, h => cases h; rfl
  | 3, _, h => cases h; rfl
  | 4, _, h => cases h; rfl
  | 5, _, h => cases h; rfl
theorem named_none {b : List Nat} (h : ∀ c ∈ CODES, c ≠ b) : named b = none := by
  unfold named
  rw [List.findIdx?_eq_none_iff]
  intro c hc
  exact beq_eq_false_iff_ne.mpr (h c hc)
theorem two_of {b : List Nat} (h : (b.take 2).length = 2) : ∃ x y r, b = x :: y :: r := by
  match b, h with
  | x :: y :: r, _ => exact ⟨x, y, r, rfl⟩
theorem codesIn_step (f x y : Nat) (r : List Nat) : codesIn (f + 1) (x :: y :: r) = match named [x, y] with
    | none => none
    | some c => match r with
      | [] => some [c]
      | s :: t => if s = 32 then (codesIn f t).map fun l => c :: l else none := rfl
theorem codes_none {b : List Nat} {f : Nat} (h : named (b.take 2) = none) : codesIn (f + 1) b = none := by
  match b, h with
  | [], _ => rfl
  | [x], _ => rfl
  | x :: y :: r, h =>
    rw [codesIn_step, show named [x, y] = none from h]
theorem codes_bad {b : List Nat} {f c : Nat} (h : named (b.take 2) = some c) (h1 : (b.drop 2).take 1 ≠ []) (h2 : (b.drop 2).take 1 ≠ [32]) : codesIn (f + 1) b = none := by
  obtain ⟨x, y, r, rfl⟩ := two_of (named_len h).1
  rw [codesIn_step, show named [x, y] = some c from h]
  match r, h1, h2 with
  | [], h1, _ => exact absurd rfl h1
  | s :: t, _, h2 =>
    have hs : s ≠ 32 := fun z => h2 (by subst z; rfl)
    show (if s = 32 then (codesIn f t).map fun l => c :: l else none) = none
    rw [if_neg hs]
theorem codes_end {b : List Nat} {f c : Nat} (h : named (b.take 2) = some c) (h1 : (b.drop 2).take 1 = []) : codesIn (f + 1) b = some [c] /\ b.length = 2 := by
  obtain ⟨x, y, r, rfl⟩ := two_of (named_len h).1
  rw [codesIn_step, show named [x, y] = some c from h]
  match r, h1 with
  | [], _ => exact ⟨rfl, rfl⟩
  | s :: t, h1 => exact absurd h1 (by simp)
theorem codes_go {b : List Nat} {f c : Nat} (h : named (b.take 2) = some c) (h1 : (b.drop 2).take 1 = [32]) : codesIn (f + 1) b = (codesIn f (b.drop 3)).map (fun l => c :: l) /\ 3 <= b.length := by
  obtain ⟨x, y, r, rfl⟩ := two_of (named_len h).1
  rw [codesIn_step, show named [x, y] = some c from h]
  match r, h1 with
  | [], h1 => exact absurd h1 (by simp)
  | s :: t, h1 =>
    have hs : s = 32 := by simpa using h1
    subst hs
    exact ⟨if_pos rfl, by simp⟩
def CodesAt (b : List Nat) (i : Nat) (cs : List Nat) : Prop :=
  (3 * i <= b.length /\ codesIn (b.length + 1) b = (codesIn (b.length + 1 - i) (b.drop (3 * i))).map fun l => cs ++ l) \/ (i = b.length / 3 + 1 /\ codesIn (b.length + 1) b = some cs)
theorem CodesAt.start (b : List Nat) : CodesAt b 0 [] := .inl ⟨Nat.zero_le _, by
  show _ = (codesIn (b.length + 1) b).map fun l => [] ++ l
  cases codesIn (b.length + 1) b <;> rfl⟩
theorem CodesAt.live {b cs : List Nat} {i : Nat} (h : CodesAt b i cs) (hi : i < b.length / 3 + 1) : 3 * i <= b.length /\ ∃ f, codesIn (b.length + 1) b = (codesIn (f + 1) (b.drop (3 * i))).map (fun l => cs ++ l) /\ f + 1 = b.length + 1 - i := by
  rcases h with ⟨h1, h2⟩ | ⟨h1, _⟩
  . exact ⟨h1, b.length - i, by rw [h2, show b.length - i + 1 = b.length + 1 - i by omega], by omega⟩
  . omega
theorem CodesAt.done {b cs : List Nat} (h : CodesAt b (b.length / 3 + 1) cs) : codesIn (b.length + 1) b = some cs := by
  rcases h with ⟨h1, _⟩ | ⟨_, h2⟩
  . omega
  . exact h2
theorem CodesAt.no {b cs : List Nat} {i : Nat} (h : CodesAt b i cs) (hi : i < b.length / 3 + 1) (hn : named ((b.drop (3 * i)).take 2) = none) : codesIn (b.length + 1) b = none := by
  obtain ⟨_, f, e, _⟩ := h.live hi
  rw [e, codes_none hn]; rfl
theorem CodesAt.bad {b cs : List Nat} {i c : Nat} (h : CodesAt b i cs) (hi : i < b.length / 3 + 1) (hn : named ((b.drop (3 * i)).take 2) = some c) (h1 : ((b.drop (3 * i)).drop 2).take 1 ≠ []) (h2 : ((b.drop (3 * i)).drop 2).take 1 ≠ [32]) : codesIn (b.length + 1) b = none := by
  obtain ⟨_, f, e, _⟩ := h.live hi
  rw [e, codes_bad hn h1 h2]; rfl
theorem CodesAt.next {b cs : List Nat} {i c : Nat} (h : CodesAt b i cs) (hi : i < b.length / 3 + 1) (hn : named ((b.drop (3 * i)).take 2) = some c) (h1 : ((b.drop (3 * i)).drop 2).take 1 = [] \/ ((b.drop (3 * i)).drop 2).take 1 = [32]) : CodesAt b (i + 1) (cs ++ [c]) := by
  obtain ⟨h0, f, e, hf⟩ := h.live hi
  rcases h1 with h1 | h1
  . obtain ⟨e2, l2⟩ := codes_end (f := f) hn h1
    rw [List.length_drop] at l2
    refine .inr ⟨by omega, ?_⟩
    rw [e, e2]; rfl
  . obtain ⟨e2, l2⟩ := codes_go (f := f) hn h1
    rw [List.length_drop] at l2
    refine .inl ⟨by omega, ?_⟩
    rw [e, e2, List.drop_drop, show 3 * i + 3 = 3 * (i + 1) by omega, show b.length + 1 - (i + 1) = f by omega]
    cases codesIn f (b.drop (3 * (i + 1))) with
    | none => rfl
    | some l => simp
theorem joined_snoc (sep : Bytes) : ∀ (l : List Bytes) (x : Bytes), joined sep (l ++ [x]) = if l = [] then x else joined sep l ++ (sep ++ x)
  | [], x => rfl
  | [a], x => by simp [joined]
  | a :: b :: l, x => by
    have ih := joined_snoc sep (b :: l) x
    rw [if_neg (by simp)] at ih
    rw [if_neg (by simp)]
    show a ++ (sep ++ joined sep ((b :: l) ++ [x])) = (a ++ (sep ++ joined sep (b :: l))) ++ (sep ++ x)
    rw [ih]; simp
theorem joined_pos (sep : Bytes) {l : List Bytes} (h : l ≠ []) (h2 : ∀ x ∈ l, x.length = 2) : 0 < (joined sep l).length := by
  match l, h with
  | [a], _ => have := h2 a (by simp); simp [joined]; omega
  | a :: b :: l, _ => have := h2 a (by simp); simp [joined]; omega
theorem joined_len (l : List Bytes) (h2 : ∀ x ∈ l, x.length = 2) : (joined [32] l).length <= 3 * l.length := by
  match l with
  | [] => simp [joined]
  | [a] => have := h2 a (by simp); simp [joined]; omega
  | a :: b :: l =>
    have := h2 a (by simp)
    have ih := joined_len (b :: l) fun x hx => h2 x (List.mem_cons_of_mem _ hx)
    simp [joined] at ih ⊢
    omega
theorem count_filter {α : Type} (f : α -> Nat) (c : Nat) : ∀ l : List α, (l.filter fun r => f r == c).length = ((l.map fun r => (f r : Int))).count (c : Int)
  | [] => rfl
  | x :: l => by
    rw [List.map_cons, List.count_cons]
    by_cases h : f x = c
    . rw [List.filter_cons_of_pos (by simp [h]), List.length_cons, count_filter f c l, if_pos (by simp [h])]
    . rw [List.filter_cons_of_neg (by simp [h]), count_filter f c l, if_neg (by simp; omega)]; rfl
theorem take_zip {α : Type} {l : List α} {i : Nat} {x : α} (h : l[i]? = some x) : l.zipIdx.take (i + 1) = l.zipIdx.take i ++ [(x, i)] := by
  obtain ⟨h1, h2⟩ := List.getElem?_eq_some_iff.mp h
  rw [List.take_succ_eq_append_getElem (by simpa using h1)]
  simp [h2]
theorem take_all {α : Type} (l : List α) : l.zipIdx.take l.length = l.zipIdx := List.take_of_length_le (by simp)
def RG : List (Int × List (Int × Int)) := [(0, [(1, 30), (1, 120), (1, 120), (0, 30)]), (1, [(0, 29)]), (2, [(0, 29)]), (3, [(0, 29), (0, 29)]), (4, []), (5, [(0, 29), (0, 1), (0, 2)]), (6, [(0, 29), (0, 1)]), (7, [(0, 29)]), (8, [(0, 29)]), (9, [(0, 29), (0, 1440)]), (10, [(0, 29), (0, 120)]), (11, []), (12, [(1, 8)]), (13, [(1, 8)]), (14, [(1, 8), (0, 10000)]), (15, [(1, 8), (1, 8), (0, 1440)]), (16, []), (17, [(0, 29), (0, 1)]), (18, [(0, 29)]), (19, []), (20, []), (21, [])]
def RW : List (Int × Int × Int × Int) := [(14, 9, 0, 29), (21, 100, 0, 255)]
def RN : List (Int × Int) := [(1, 1), (2, 1), (3, 2), (5, 1), (6, 1), (7, 1), (8, 1), (9, 1), (10, 1), (17, 1), (18, 1)]
def at? {α : Type} (l : List (Int × α)) (p : Int) : Option α := (l.find? fun x => decide (x.1 = p)).map (·.2)
def inR (bs : List (Int × Int)) (vs : List Int) : Bool := (vs.zip bs).all fun x => within x.1 x.2.1 x.2.2
def rowOk (p : Int) (row : List Int) : Bool := match at? RW p with
  | none => true
  | some b => decide ((row.length : Int) <= b.1) && row.all fun x => within x b.2.1 b.2.2
def roomsThere (h : House) (p : Int) (nums : List Int) : Bool := (nums.take ((at? RN p).getD 0).toNat).all fun x => decide (x < (h.rooms.length : Int))
def attThere (p : Int) (nums : List Int) : Bool := decide (p ≠ 15) || decide (nums.getD 1 0 <= nums.getD 0 0)
def early (h : Option House) (p : Int) (nums row : List Int) : Int :=
  if (!inR ((at? RG p).getD []) nums || !rowOk p row) = true then -1
  else if p = 0 then 0
  else match h with
    | none => -2
    | some h => if (!roomsThere h p nums || !attThere p nums) = true then -3 else 0
def Opp (p : Int) (h : House) (ns : List Int) (c : Call) : Prop :=
  (p = 1 /\ ∃ n : Nat, ns = [(n : Int)] /\ n < h.rooms.length /\ c = .in_ n) \/
  (p = 2 /\ ∃ n : Nat, ns = [(n : Int)] /\ n < h.rooms.length /\ c = .out n) \/
  (p = 3 /\ ∃ n m : Nat, ns = [(n : Int), (m : Int)] /\ n < h.rooms.length /\ m < h.rooms.length /\ c = .move n m) \/
  (p = 4 /\ ns = [] /\ c = .night) \/
  (p = 5 /\ ∃ (n : Nat) (b : Bool) (d : Nat), ns = [(n : Int), if b = true then 1 else 0, (d : Int)] /\ n < h.rooms.length /\ d <= 2 /\ c = .report n b d) \/
  (p = 6 /\ ∃ (n : Nat) (b : Bool), ns = [(n : Int), if b = true then 1 else 0] /\ n < h.rooms.length /\ c = .inspect n b) \/
  (p = 7 /\ ∃ n : Nat, ns = [(n : Int)] /\ n < h.rooms.length /\ c = .shut n) \/
  (p = 8 /\ ∃ n : Nat, ns = [(n : Int)] /\ n < h.rooms.length /\ c = .back n) \/
  (p = 9 /\ ∃ n m : Nat, ns = [(n : Int), (m : Int)] /\ n < h.rooms.length /\ m <= 1440 /\ c = .due n m) \/
  (p = 10 /\ ∃ n m : Nat, ns = [(n : Int), (m : Int)] /\ n < h.rooms.length /\ m <= 120 /\ c = .extra n m) \/
  (p = 11 /\ ns = [] /\ c = .work) \/
  (p = 12 /\ ∃ k : Nat, ns = [(k : Int)] /\ 1 <= k /\ k <= 8 /\ c = .split k) \/
  (p = 13 /\ ∃ k : Nat, ns = [(k : Int)] /\ 1 <= k /\ k <= 8 /\ c = .bound k) \/
  (p = 14 /\ ∃ (k m : Nat) (q : List Nat), ns = (k : Int) :: (m : Int) :: q.map Int.ofNat /\ 1 <= k /\ k <= 8 /\ q.length <= 9 /\ c = .prove k m q) \/
  (p = 15 /\ ∃ k j t : Nat, ns = [(k : Int), (j : Int), (t : Int)] /\ 1 <= k /\ k <= 8 /\ 1 <= j /\ j <= k /\ c = .order k j t) \/
  (p = 16 /\ ns = [] /\ c = .differences) \/
  (p = 17 /\ ∃ (n : Nat) (b : Bool), ns = [(n : Int), if b = true then 1 else 0] /\ n < h.rooms.length /\ c = .resolve n b) \/
  (p = 18 /\ ∃ n : Nat, ns = [(n : Int)] /\ n < h.rooms.length /\ c = .room n) \/
  (p = 19 /\ ns = [] /\ c = .count) \/
  (p = 20 /\ ns = [] /\ c = .board) \/
  (p = 21 /\ ∃ b : List Nat, ns = b.map Int.ofNat /\ b.length <= 100 /\ c = .write b)
theorem ite_some {c : Prop} [Decidable c] {α : Type} {a x : α} {b : Option α} (h : (if c then some a else b) = some x) : (c /\ a = x) \/ b = some x := by
  by_cases z : c
  . rw [if_pos z] at h; exact .inl ⟨z, Option.some.inj h⟩
  . rw [if_neg z] at h; exact .inr h
theorem shape_cases {p : Int} {n k : Nat} (h : PyVbhoak.shape p = some (n, k)) :
    (p = 0 /\ n = 4 /\ k = 0) \/ (p = 1 /\ n = 1 /\ k = 0) \/ (p = 2 /\ n = 1 /\ k = 0) \/ (p = 3 /\ n = 2 /\ k = 0) \/ (p = 4 /\ n = 0 /\ k = 0) \/ (p = 5 /\ n = 3 /\ k = 0) \/ (p = 6 /\ n = 2 /\ k = 0) \/ (p = 7 /\ n = 1 /\ k = 0) \/ (p = 8 /\ n = 1 /\ k = 0) \/ (p = 9 /\ n = 2 /\ k = 0) \/ (p = 10 /\ n = 2 /\ k = 0) \/
    (p = 11 /\ n = 0 /\ k = 0) \/ (p = 12 /\ n = 1 /\ k = 0) \/ (p = 13 /\ n = 1 /\ k = 0) \/ (p = 14 /\ n = 2 /\ k = 1) \/ (p = 15 /\ n = 3 /\ k = 0) \/ (p = 16 /\ n = 0 /\ k = 0) \/ (p = 17 /\ n = 2 /\ k = 0) \/ (p = 18 /\ n = 1 /\ k = 0) \/ (p = 19 /\ n = 0 /\ k = 0) \/ (p = 20 /\ n = 0 /\ k = 0) \/ (p = 21 /\ n = 0 /\ k = 1) := by
  unfold PyVbhoak.shape at h
  refine (ite_some h).imp (fun ⟨e, q⟩ => by cases q; exact ⟨e, rfl, rfl⟩) fun h => ?_
  refine (ite_some h).imp (fun ⟨e, q⟩ => by cases q; exact ⟨e, rfl, rfl⟩) fun h => ?_
  refine (ite_some h).imp (fun ⟨e, q⟩ => by cases q; exact ⟨e, rfl, rfl⟩) fun h => ?_
  refine (ite_some h).imp (fun ⟨e, q⟩ => by cases q; exact ⟨e, rfl, rfl⟩) fun h => ?_
  refine (ite_some h).imp (fun ⟨e, q⟩ => by cases q; exact ⟨e, rfl, rfl⟩) fun h => ?_
  refine (ite_some h).imp (fun ⟨e, q⟩ => by cases q; exact ⟨e, rfl, rfl⟩) fun h => ?_
  refine (ite_some h).imp (fun ⟨e, q⟩ => by cases q; exact ⟨e, rfl, rfl⟩) fun h => ?_
  refine (ite_some h).imp (fun ⟨e, q⟩ => by cases q; exact ⟨e, rfl, rfl⟩) fun h => ?_
  refine (ite_some h).imp (fun ⟨e, q⟩ => by cases q; exact ⟨e, rfl, rfl⟩) fun h => ?_
  refine (ite_some h).imp (fun ⟨e, q⟩ => by cases q; exact ⟨e, rfl, rfl⟩) fun h => ?_
  refine (ite_some h).imp (fun ⟨e, q⟩ => by cases q; exact ⟨e, rfl, rfl⟩) fun h => ?_
  refine (ite_some h).imp (fun ⟨e, q⟩ => by cases q; exact ⟨e, rfl, rfl⟩) fun h => ?_
  refine (ite_some h).imp (fun ⟨e, q⟩ => by cases q; exact ⟨e, rfl, rfl⟩) fun h => ?_
  refine (ite_some h).imp (fun ⟨e, q⟩ => by cases q; exact ⟨e, rfl, rfl⟩) fun h => ?_
  refine (ite_some h).imp (fun ⟨e, q⟩ => by cases q; exact ⟨e, rfl, rfl⟩) fun h => ?_
  refine (ite_some h).imp (fun ⟨e, q⟩ => by cases q; exact ⟨e, rfl, rfl⟩) fun h => ?_
  refine (ite_some h).imp (fun ⟨e, q⟩ => by cases q; exact ⟨e, rfl, rfl⟩) fun h => ?_
  refine (ite_some h).imp (fun ⟨e, q⟩ => by cases q; exact ⟨e, rfl, rfl⟩) fun h => ?_
  refine (ite_some h).imp (fun ⟨e, q⟩ => by cases q; exact ⟨e, rfl, rfl⟩) fun h => ?_
  refine (ite_some h).imp (fun ⟨e, q⟩ => by cases q; exact ⟨e, rfl, rfl⟩) fun h => ?_
  refine (ite_some h).imp (fun ⟨e, q⟩ => by cases q; exact ⟨e, rfl, rfl⟩) fun h => ?_
  rcases ite_some h with ⟨e, q⟩ | h
  . cases q; exact ⟨e, rfl, rfl⟩
  . cases h
def okC (p : Int) (nums row : List Int) : Bool := inR ((at? RG p).getD []) nums && rowOk p row
structure StepAs (h : Option House) (p : Int) (nums row : List Int) (call : List (List Int)) : Prop where
  as : (early h p nums row ≠ 0 /\ stepNumbers ⟨h⟩ call = (⟨h⟩, [early h p nums row])) \/
    (early h p nums row = 0 /\ p = 0 /\ ∃ n a b d : Nat, nums = [(n : Int), (a : Int), (b : Int), (d : Int)] /\ row = [] /\ n <= 30 /\ a <= 120 /\ b <= 120 /\ d <= 30 /\ stepNumbers ⟨h⟩ call = (⟨some ⟨List.replicate n empty, a, b, d, 0⟩⟩, [0])) \/
    (early h p nums row = 0 /\ p ≠ 0 /\ ∃ hh c, h = some hh /\ Opp p hh (nums ++ row) c /\ stepNumbers ⟨h⟩ call = (⟨some (onHouse hh c).1⟩, (onHouse hh c).2))
theorem step_some {hh : House} {c : Call} (no : ∀ a b d e, c ≠ .open_ a b d e) : step ⟨some hh⟩ c = (⟨some (onHouse hh c).1⟩, (onHouse hh c).2) := by
  cases c with
  | open_ a b d e => exact absurd rfl (no a b d e)
  | _ => rfl
theorem step_none {c : Call} (no : ∀ a b d e, c ≠ .open_ a b d e) : step ⟨none⟩ c = (⟨none⟩, [-2]) := by
  cases c with
  | open_ a b d e => exact absurd rfl (no a b d e)
  | _ => rfl
theorem step_of {h : Option House} {p : Int} {nums row : List Int} {call : List (List Int)} {c : Call} (hp : p ≠ 0) (e2 : callOf call = if okC p nums row = true then some c else none) (no : ∀ a b d e, c ≠ .open_ a b d e)
    (e3 : okC p nums row = true -> ∀ hh : House, (roomsThere hh p nums && attThere p nums) = false -> onHouse hh c = (hh, [-3])) (e4 : okC p nums row = true -> ∀ hh : House, (roomsThere hh p nums && attThere p nums) = true -> Opp p hh (nums ++ row) c) : StepAs h p nums row call := by
  refine ⟨?_⟩
  have eo : (!inR ((at? RG p).getD []) nums || !rowOk p row) = !okC p nums row := by
    unfold okC
    cases inR ((at? RG p).getD []) nums <;> cases rowOk p row <;> rfl
  cases ok : okC p nums row with
  | false =>
    have ee : early h p nums row = -1 := by unfold early; rw [eo, ok]; rfl
    refine .inl ⟨by rw [ee]; decide, ?_⟩
    rw [ee]
    unfold stepNumbers
    rw [e2, ok]
    rfl
  | true =>
    have es : stepNumbers ⟨h⟩ call = step ⟨h⟩ c := by
      unfold stepNumbers
      rw [e2, ok]
      rfl
    cases h with
    | none =>
      have ee : early none p nums row = -2 := by
        unfold early
        rw [eo, ok, if_neg (by decide), if_neg hp]
      refine .inl ⟨by rw [ee]; decide, ?_⟩
      rw [ee, es]
      exact step_none no
    | some hh =>
      have er : (!roomsThere hh p nums || !attThere p nums) = !(roomsThere hh p nums && attThere p nums) := by
        cases roomsThere hh p nums <;> cases attThere p nums <;> rfl
      cases rt : roomsThere hh p nums && attThere p nums with
      | false =>
        have ee : early (some hh) p nums row = -3 := by
          unfold early
          rw [eo, ok, if_neg (by decide), if_neg hp]
          dsimp only
          rw [er, rt]
          rfl
        refine .inl ⟨by rw [ee]; decide, ?_⟩
        rw [ee, es, step_some no, e3 ok hh rt]
      | true =>
        have ee : early (some hh) p nums row = 0 := by
          unfold early
          rw [eo, ok, if_neg (by decide), if_neg hp]
          dsimp only
          rw [er, rt]
          rfl
        exact .inr (.inr ⟨ee, hp, hh, c, rfl, e4 ok hh rt, by rw [es]; exact step_some no⟩)
theorem within_iff {x lo hi : Int} : within x lo hi = true ↔ lo <= x /\ x <= hi := by unfold within; simp
theorem nat_of {x hi : Int} (h : within x 0 hi = true) : x = (x.toNat : Int) /\ (x.toNat : Int) <= hi := by
  rw [within_iff] at h; omega
theorem when_eq (b : Bool) (c : Call) : when_ b c = if b = true then some c else none := rfl
theorem inR1 (x a b : Int) : inR [(a, b)] [x] = within x a b := by simp [inR]
theorem inR2 (x y a b c d : Int) : inR [(a, b), (c, d)] [x, y] = (within x a b && within y c d) := by simp [inR]
theorem inR3 (x y z a b c d e f : Int) : inR [(a, b), (c, d), (e, f)] [x, y, z] = (within x a b && (within y c d && within z e f)) := by simp [inR]
theorem inR4 (x y z w a b c d e f g i : Int) : inR [(a, b), (c, d), (e, f), (g, i)] [x, y, z, w] = (within x a b && (within y c d && (within z e f && within w g i))) := by simp [inR]
theorem rooms1 {hh : House} {p x : Int} {r : List Int} (e : at? RN p = some 1) : roomsThere hh p (x :: r) = decide (x < (hh.rooms.length : Int)) := by unfold roomsThere; rw [e]; simp
theorem rooms0 {hh : House} {p : Int} {r : List Int} (e : at? RN p = none) : roomsThere hh p r = true := by unfold roomsThere; rw [e]; simp
theorem rooms2 {hh : House} {p x y : Int} {r : List Int} (e : at? RN p = some 2) : roomsThere hh p (x :: y :: r) = (decide (x < (hh.rooms.length : Int)) && decide (y < (hh.rooms.length : Int))) := by unfold roomsThere; rw [e]; simp
theorem att_no {p : Int} {r : List Int} (h : p ≠ 15) : attThere p r = true := by unfold attThere; simp [h]
theorem ok_row {p : Int} {nums : List Int} (e : at? RW p = none) : okC p nums [] = inR ((at? RG p).getD []) nums := by unfold okC rowOk; rw [e]; simp
theorem onRoom_out {hh : House} {n : Nat} {may : Room -> Bool} {f : Room -> Room} {told : Room -> Ans} (h : hh.rooms.length <= n) : onRoom hh n may f told = (hh, [-3]) := by
  unfold onRoom roomAt
  rw [List.getElem?_eq_none h]
theorem one_room {h : Option House} {p x : Int} {c : Nat -> Call} (hp : p ≠ 0) (hp2 : p ≠ 15) (eG : at? RG p = some [(0, 29)]) (eW : at? RW p = none) (eN : at? RN p = some 1) (ec : callOf [[p, x]] = when_ (isRoom x) (c x.toNat))
    (no : ∀ n a b d e, c n ≠ .open_ a b d e) (e3 : ∀ (hh : House) (n : Nat), hh.rooms.length <= n -> onHouse hh (c n) = (hh, [-3])) (e4 : ∀ (hh : House) (n : Nat), n < hh.rooms.length -> Opp p hh [(n : Int)] (c n)) : StepAs h p [x] [] [[p, x]] := by
  have eo : okC p [x] [] = isRoom x := by rw [ok_row eW, eG]; exact inR1 x 0 29
  refine step_of (c := c x.toNat) hp (by rw [ec, eo, when_eq]) (no _) (fun ok hh rt => ?_) (fun ok hh rt => ?_)
  . rw [eo] at ok
    obtain ⟨z, _⟩ := nat_of ok
    rw [rooms1 eN, att_no hp2] at rt
    exact e3 hh _ (by simp at rt; omega)
  . rw [eo] at ok
    obtain ⟨z, _⟩ := nat_of ok
    rw [rooms1 eN, att_no hp2] at rt
    rw [List.append_nil, z, Int.toNat_natCast]
    exact e4 hh _ (by simp at rt; omega)
theorem two_num {h : Option House} {p x y hi : Int} {c : Nat -> Call} (hp : p ≠ 0) (hp2 : p ≠ 15) (eG : at? RG p = some [(0, 29), (0, hi)]) (eW : at? RW p = none) (eN : at? RN p = some 1) (ec : callOf [[p, x, y]] = when_ (isRoom x && within y 0 hi) (c x.toNat))
    (no : ∀ n a b d e, c n ≠ .open_ a b d e) (e3 : ∀ (hh : House) (n : Nat), hh.rooms.length <= n -> onHouse hh (c n) = (hh, [-3])) (e4 : within y 0 hi = true -> ∀ (hh : House) (n : Nat), n < hh.rooms.length -> Opp p hh [(n : Int), y] (c n)) : StepAs h p [x, y] [] [[p, x, y]] := by
  have eo : okC p [x, y] [] = (isRoom x && within y 0 hi) := by rw [ok_row eW, eG]; exact inR2 x y 0 29 0 hi
  refine step_of (c := c x.toNat) hp (by rw [ec, eo, when_eq]) (no _) (fun ok hh rt => ?_) (fun ok hh rt => ?_)
  . rw [eo, Bool.and_eq_true] at ok
    obtain ⟨z, _⟩ := nat_of ok.1
    rw [rooms1 eN, att_no hp2] at rt
    exact e3 hh _ (by simp at rt; omega)
  . rw [eo, Bool.and_eq_true] at ok
    obtain ⟨z, _⟩ := nat_of ok.1
    rw [rooms1 eN, att_no hp2] at rt
    rw [List.append_nil, z, Int.toNat_natCast]
    exact e4 ok.2 hh _ (by simp at rt; omega)
theorem no_num {h : Option House} {p : Int} {c : Call} (hp : p ≠ 0) (hp2 : p ≠ 15) (eG : at? RG p = some []) (eW : at? RW p = none) (eN : at? RN p = none) (ec : callOf [[p]] = some c) (no : ∀ a b d e, c ≠ .open_ a b d e) (e4 : ∀ hh : House, Opp p hh [] c) : StepAs h p [] [] [[p]] := by
  have eo : okC p [] [] = true := by rw [ok_row eW, eG]; rfl
  refine step_of (c := c) hp (by rw [ec, eo]; rfl) no (fun ok hh rt => ?_) (fun ok hh rt => e4 hh)
  rw [rooms0 eN, att_no hp2] at rt
  cases rt
theorem bit_of {y : Int} (h : within y 0 1 = true) : y = if (y == 1) = true then 1 else 0 := by
  rw [within_iff] at h
  by_cases e : y = 1
  . simp [e]
  . have : y = 0 := by omega
    simp [this]
theorem nats_of {l : List Int} {hi : Int} (h : (l.all fun x => within x 0 hi) = true) : l = (l.map Int.toNat).map Int.ofNat := by
  rw [List.map_map]
  conv => lhs; rw [<- List.map_id l]
  apply List.map_congr_left
  intro x hx
  have := (nat_of (List.all_eq_true.mp h x hx)).1
  simpa using this
theorem step_all {h : Option House} {p : Int} {n k : Nat} {nums : List Int} {rows : List (List Int)} (hs : PyVbhoak.shape p = some (n, k)) (hn : nums.length = n) (hr : rows.length = k) : StepAs h p nums (rows.headD []) ((p :: nums) :: rows) := by
  have r0 : k = 0 -> rows = [] := fun e => List.eq_nil_of_length_eq_zero (hr.trans e)
  have l0 : n = 0 -> nums = [] := fun e => List.eq_nil_of_length_eq_zero (hn.trans e)
  have l1 : n = 1 -> ∃ x, nums = [x] := fun e => List.length_eq_one_iff.mp (hn.trans e)
  have l2 : n = 2 -> ∃ x y, nums = [x, y] := fun e => by
    match nums, hn.trans e with
    | [x, y], _ => exact ⟨x, y, rfl⟩
  have l3 : n = 3 -> ∃ x y z, nums = [x, y, z] := fun e => by
    match nums, hn.trans e with
    | [x, y, z], _ => exact ⟨x, y, z, rfl⟩
  have l4 : n = 4 -> ∃ x y z u, nums = [x, y, z, u] := fun e => by
    match nums, hn.trans e with
    | [x, y, z, u], _ => exact ⟨x, y, z, u, rfl⟩
  rcases shape_cases hs with ⟨rfl, e1, e2⟩ | ⟨rfl, e1, e2⟩ | ⟨rfl, e1, e2⟩ | ⟨rfl, e1, e2⟩ | ⟨rfl, e1, e2⟩ | ⟨rfl, e1, e2⟩ | ⟨rfl, e1, e2⟩ | ⟨rfl, e1, e2⟩ | ⟨rfl, e1, e2⟩ | ⟨rfl, e1, e2⟩ | ⟨rfl, e1, e2⟩ | ⟨rfl, e1, e2⟩ | ⟨rfl, e1, e2⟩ | ⟨rfl, e1, e2⟩ | ⟨rfl, e1, e2⟩ | ⟨rfl, e1, e2⟩ | ⟨rfl, e1, e2⟩ | ⟨rfl, e1, e2⟩ | ⟨rfl, e1, e2⟩ | ⟨rfl, e1, e2⟩ | ⟨rfl, e1, e2⟩ | ⟨rfl, e1, e2⟩
  . -- open
    obtain ⟨x, y, z, u, rfl⟩ := l4 e1
    rw [r0 e2, List.headD_nil]
    have eo : okC 0 [x, y, z, u] [] = (within x 1 30 && (within y 1 120 && (within z 1 120 && within u 0 30))) := by rw [ok_row rfl]; exact inR4 x y z u 1 30 1 120 1 120 0 30
    have ec : callOf [[0, x, y, z, u]] = when_ (within x 1 30 && (within y 1 120 && (within z 1 120 && within u 0 30))) (.open_ x.toNat y.toNat z.toNat u.toNat) := rfl
    have eq : (!inR ((at? RG 0).getD []) [x, y, z, u] || !rowOk 0 []) = !okC 0 [x, y, z, u] [] := by
      unfold okC
      cases inR ((at? RG 0).getD []) [x, y, z, u] <;> cases rowOk 0 [] <;> rfl
    refine ⟨?_⟩
    show (early h 0 [x, y, z, u] [] ≠ 0 /\ _) \/ _
    cases ok : okC 0 [x, y, z, u] [] with
    | false =>
      have ee : early h 0 [x, y, z, u] [] = -1 := by unfold early; rw [eq, ok]; rfl
      refine .inl ⟨by rw [ee]; decide, ?_⟩
      show stepNumbers ⟨h⟩ [[0, x, y, z, u]] = (⟨h⟩, [early h 0 [x, y, z, u] []])
      rw [ee]
      unfold stepNumbers
      rw [ec, <- eo, ok]
      rfl
    | true =>
      have ee : early h 0 [x, y, z, u] [] = 0 := by unfold early; rw [eq, ok]; rfl
      have ok' := ok
      rw [eo, Bool.and_eq_true, Bool.and_eq_true, Bool.and_eq_true] at ok'
      obtain ⟨a1, a2, a3, a4⟩ := ok'
      rw [within_iff] at a1 a2 a3 a4
      refine .inr (.inl ⟨ee, rfl, x.toNat, y.toNat, z.toNat, u.toNat, ?_, rfl, by omega, by omega, by omega, by omega, ?_⟩)
      . rw [Int.toNat_of_nonneg (by omega), Int.toNat_of_nonneg (by omega), Int.toNat_of_nonneg (by omega), Int.toNat_of_nonneg (by omega)]
      . show stepNumbers ⟨h⟩ [[0, x, y, z, u]] = _
        unfold stepNumbers
        rw [ec, <- eo, ok]
        rfl
  . obtain ⟨x, rfl⟩ := l1 e1
    rw [r0 e2, List.headD_nil]
    exact one_room (c := .in_) (by decide) (by decide) rfl rfl rfl rfl (fun _ _ _ _ _ z => nomatch z) (fun hh n hn => onRoom_out hn) (fun hh n hn => .inl ⟨rfl, n, rfl, hn, rfl⟩)
  . obtain ⟨x, rfl⟩ := l1 e1
    rw [r0 e2, List.headD_nil]
    exact one_room (c := .out) (by decide) (by decide) rfl rfl rfl rfl (fun _ _ _ _ _ z => nomatch z) (fun hh n hn => onRoom_out hn) (fun hh n hn => .inr (.inl ⟨rfl, n, rfl, hn, rfl⟩))
  . obtain ⟨x, y, rfl⟩ := l2 e1
    rw [r0 e2, List.headD_nil]
    have eo : okC 3 [x, y] [] = (isRoom x && isRoom y) := by rw [ok_row rfl]; exact inR2 x y 0 29 0 29
    refine step_of (c := .move x.toNat y.toNat) (by decide) (by rw [eo]; rfl) (fun _ _ _ _ z => nomatch z) (fun ok hh rt => ?_) (fun ok hh rt => ?_)
    . rw [eo, Bool.and_eq_true] at ok
      obtain ⟨z1, _⟩ := nat_of ok.1
      obtain ⟨z2, _⟩ := nat_of ok.2
      rw [rooms2 rfl, att_no (by decide)] at rt
      show (match roomAt hh x.toNat, roomAt hh y.toNat with
        | some a, some b => if (a.taken && ready b) = false then (hh, [-6]) else (setRoom (setRoom hh x.toNat (vacated a)) y.toNat (filled b), [0])
        | _, _ => (hh, [-3])) = (hh, [-3])
      unfold roomAt
      by_cases q : hh.rooms.length <= x.toNat
      . rw [List.getElem?_eq_none q]
      . have q2 : hh.rooms.length <= y.toNat := by simp at rt; omega
        rw [List.getElem?_eq_none q2, List.getElem?_eq_getElem (by omega : x.toNat < hh.rooms.length)]
    . rw [eo, Bool.and_eq_true] at ok
      obtain ⟨z1, _⟩ := nat_of ok.1
      obtain ⟨z2, _⟩ := nat_of ok.2
      rw [rooms2 rfl, att_no (by decide)] at rt
      refine .inr (.inr (.inl ⟨rfl, x.toNat, y.toNat, by rw [<- z1, <- z2]; rfl, ?_, ?_, rfl⟩)) <;> (simp at rt; omega)
  . rw [l0 e1, r0 e2, List.headD_nil]
    exact no_num (c := .night) (by decide) (by decide) rfl rfl rfl rfl (fun _ _ _ _ z => nomatch z) fun hh => .inr (.inr (.inr (.inl ⟨rfl, rfl, rfl⟩)))
  . obtain ⟨x, y, z, rfl⟩ := l3 e1
    rw [r0 e2, List.headD_nil]
    have eo : okC 5 [x, y, z] [] = (isRoom x && (isBit y && within z 0 2)) := by rw [ok_row rfl]; exact inR3 x y z 0 29 0 1 0 2
    refine step_of (c := .report x.toNat (y == 1) z.toNat) (by decide) (by rw [eo]; rfl) (fun _ _ _ _ z => nomatch z) (fun ok hh rt => ?_) (fun ok hh rt => ?_)
    . rw [eo, Bool.and_eq_true] at ok
      obtain ⟨z1, _⟩ := nat_of ok.1
      rw [rooms1 rfl, att_no (by decide)] at rt
      exact onRoom_out (by simp at rt; omega)
    . rw [eo, Bool.and_eq_true, Bool.and_eq_true] at ok
      obtain ⟨z1, _⟩ := nat_of ok.1
      obtain ⟨z3, b3⟩ := nat_of ok.2.2
      have z2 := bit_of ok.2.1
      rw [rooms1 rfl, att_no (by decide)] at rt
      refine .inr (.inr (.inr (.inr (.inl ⟨rfl, x.toNat, y == 1, z.toNat, ?_, ?_, by omega, rfl⟩))))
      . rw [<- z1, <- z2, <- z3]; rfl
      . simp at rt; omega
  . obtain ⟨x, y, rfl⟩ := l2 e1
    rw [r0 e2, List.headD_nil]
    exact two_num (hi := 1) (c := fun n => .inspect n (y == 1)) (by decide) (by decide) rfl rfl rfl rfl (fun _ _ _ _ _ z => nomatch z) (fun hh n hn => onRoom_out hn) (fun q hh n hn => .inr (.inr (.inr (.inr (.inr (.inl ⟨rfl, n, y == 1, by rw [<- bit_of q], hn, rfl⟩))))))
  . obtain ⟨x, rfl⟩ := l1 e1
    rw [r0 e2, List.headD_nil]
    exact one_room (c := .shut) (by decide) (by decide) rfl rfl rfl rfl (fun _ _ _ _ _ z => nomatch z) (fun hh n hn => onRoom_out hn) (fun hh n hn => .inr (.inr (.inr (.inr (.inr (.inr (.inl ⟨rfl, n, rfl, hn, rfl⟩)))))))
  . obtain ⟨x, rfl⟩ := l1 e1
    rw [r0 e2, List.headD_nil]
    exact one_room (c := .back) (by decide) (by decide) rfl rfl rfl rfl (fun _ _ _ _ _ z => nomatch z) (fun hh n hn => onRoom_out hn) (fun hh n hn => .inr (.inr (.inr (.inr (.inr (.inr (.inr (.inl ⟨rfl, n, rfl, hn, rfl⟩))))))))
  . obtain ⟨x, y, rfl⟩ := l2 e1
    rw [r0 e2, List.headD_nil]
    exact two_num (hi := 1440) (c := fun n => .due n y.toNat) (by decide) (by decide) rfl rfl rfl rfl (fun _ _ _ _ _ z => nomatch z) (fun hh n hn => onRoom_out hn) (fun q hh n hn => .inr (.inr (.inr (.inr (.inr (.inr (.inr (.inr (.inl ⟨rfl, n, y.toNat, by rw [<- (nat_of q).1], hn, by have := (nat_of q).2; omega, rfl⟩)))))))))
  . obtain ⟨x, y, rfl⟩ := l2 e1
    rw [r0 e2, List.headD_nil]
    exact two_num (hi := 120) (c := fun n => .extra n y.toNat) (by decide) (by decide) rfl rfl rfl rfl (fun _ _ _ _ _ z => nomatch z) (fun hh n hn => onRoom_out hn) (fun q hh n hn => .inr (.inr (.inr (.inr (.inr (.inr (.inr (.inr (.inr (.inl ⟨rfl, n, y.toNat, by rw [<- (nat_of q).1], hn, by have := (nat_of q).2; omega, rfl⟩))))))))))
  . rw [l0 e1, r0 e2, List.headD_nil]
    exact no_num (c := .work) (by decide) (by decide) rfl rfl rfl rfl (fun _ _ _ _ z => nomatch z) fun hh => .inr (.inr (.inr (.inr (.inr (.inr (.inr (.inr (.inr (.inr (.inl ⟨rfl, rfl, rfl⟩))))))))))
  . obtain ⟨x, rfl⟩ := l1 e1
    rw [r0 e2, List.headD_nil]
    have eo : okC 12 [x] [] = isTeam x := by rw [ok_row rfl]; exact inR1 x 1 8
    refine step_of (c := .split x.toNat) (by decide) (by rw [eo]; rfl) (fun _ _ _ _ z => nomatch z) (fun ok hh rt => ?_) (fun ok hh rt => ?_)
    . rw [rooms0 rfl, att_no (by decide)] at rt; cases rt
    . rw [eo] at ok
      have ok := within_iff.mp ok
      exact .inr (.inr (.inr (.inr (.inr (.inr (.inr (.inr (.inr (.inr (.inr (.inl ⟨rfl, x.toNat, by rw [Int.toNat_of_nonneg (by omega)]; rfl, by omega, by omega, rfl⟩)))))))))))
  . obtain ⟨x, rfl⟩ := l1 e1
    rw [r0 e2, List.headD_nil]
    have eo : okC 13 [x] [] = isTeam x := by rw [ok_row rfl]; exact inR1 x 1 8
    refine step_of (c := .bound x.toNat) (by decide) (by rw [eo]; rfl) (fun _ _ _ _ z => nomatch z) (fun ok hh rt => ?_) (fun ok hh rt => ?_)
    . rw [rooms0 rfl, att_no (by decide)] at rt; cases rt
    . rw [eo] at ok
      have ok := within_iff.mp ok
      exact .inr (.inr (.inr (.inr (.inr (.inr (.inr (.inr (.inr (.inr (.inr (.inr (.inl ⟨rfl, x.toNat, by rw [Int.toNat_of_nonneg (by omega)]; rfl, by omega, by omega, rfl⟩))))))))))))
  . obtain ⟨x, y, rfl⟩ := l2 e1
    obtain ⟨q, rfl⟩ := List.length_eq_one_iff.mp (hr.trans e2)
    show StepAs h 14 [x, y] q [[14, x, y], q]
    have eo : okC 14 [x, y] q = (isTeam x && (within y 0 10000 && (decide (q.length <= 9) && q.all isRoom))) := by
      unfold okC
      rw [show (at? RG 14).getD [] = [(1, 8), (0, 10000)] from rfl, inR2]
      show ((within x 1 8 && within y 0 10000) && (decide ((q.length : Int) <= 9) && q.all fun z => within z 0 29)) = _
      rw [show decide ((q.length : Int) <= 9) = decide (q.length <= 9) from decide_eq_decide.mpr (by omega), Bool.and_assoc]
      rfl
    refine step_of (c := .prove x.toNat y.toNat (q.map Int.toNat)) (by decide) (by show callOf [[14, x, y], q] = if okC 14 [x, y] q = true then _ else _; rw [eo]; rfl) (fun _ _ _ _ z => nomatch z) (fun ok hh rt => ?_) (fun ok hh rt => ?_)
    . rw [rooms0 rfl, att_no (by decide)] at rt; cases rt
    . have ok : okC 14 [x, y] q = true := ok
      rw [eo, Bool.and_eq_true, Bool.and_eq_true, Bool.and_eq_true] at ok
      obtain ⟨a1, a2, a3, a4⟩ := ok
      have a1 := within_iff.mp a1
      have z2 := (nat_of a2).1
      have a3 : q.length <= 9 := of_decide_eq_true a3
      refine .inr (.inr (.inr (.inr (.inr (.inr (.inr (.inr (.inr (.inr (.inr (.inr (.inr (.inl ⟨rfl, x.toNat, y.toNat, q.map Int.toNat, ?_, by omega, by omega, by rw [List.length_map]; exact a3, rfl⟩)))))))))))))
      show x :: y :: q = _
      rw [<- nats_of a4, <- z2, Int.toNat_of_nonneg (by omega)]
  . obtain ⟨x, y, z, rfl⟩ := l3 e1
    rw [r0 e2, List.headD_nil]
    have eo : okC 15 [x, y, z] [] = (isTeam x && (isTeam y && within z 0 1440)) := by rw [ok_row rfl]; exact inR3 x y z 1 8 1 8 0 1440
    refine step_of (c := .order x.toNat y.toNat z.toNat) (by decide) (by rw [eo]; rfl) (fun _ _ _ _ z => nomatch z) (fun ok hh rt => ?_) (fun ok hh rt => ?_)
    . rw [eo, Bool.and_eq_true, Bool.and_eq_true] at ok
      have a1 := within_iff.mp ok.1
      have a2 := within_iff.mp ok.2.1
      rw [rooms0 rfl] at rt
      have rt : ¬ y <= x := by simpa [attThere] using rt
      exact if_pos (by omega)
    . rw [eo, Bool.and_eq_true, Bool.and_eq_true] at ok
      have a1 := within_iff.mp ok.1
      have a2 := within_iff.mp ok.2.1
      have z3 := (nat_of ok.2.2).1
      rw [rooms0 rfl] at rt
      have rt : y <= x := by simpa [attThere] using rt
      refine .inr (.inr (.inr (.inr (.inr (.inr (.inr (.inr (.inr (.inr (.inr (.inr (.inr (.inr (.inl ⟨rfl, x.toNat, y.toNat, z.toNat, ?_, by omega, by omega, by omega, by omega, rfl⟩))))))))))))))
      rw [Int.toNat_of_nonneg (by omega), Int.toNat_of_nonneg (by omega), <- z3]; rfl
  . rw [l0 e1, r0 e2, List.headD_nil]
    exact no_num (c := .differences) (by decide) (by decide) rfl rfl rfl rfl (fun _ _ _ _ z => nomatch z) fun hh => .inr (.inr (.inr (.inr (.inr (.inr (.inr (.inr (.inr (.inr (.inr (.inr (.inr (.inr (.inr (.inl ⟨rfl, rfl, rfl⟩)))))))))))))))
  . obtain ⟨x, y, rfl⟩ := l2 e1
    rw [r0 e2, List.headD_nil]
    exact two_num (hi := 1) (c := fun n => .resolve n (y == 1)) (by decide) (by decide) rfl rfl rfl rfl (fun _ _ _ _ _ z => nomatch z) (fun hh n hn => onRoom_out hn) (fun q hh n hn => .inr (.inr (.inr (.inr (.inr (.inr (.inr (.inr (.inr (.inr (.inr (.inr (.inr (.inr (.inr (.inr (.inl ⟨rfl, n, y == 1, by rw [<- bit_of q], hn, rfl⟩)))))))))))))))))
  . obtain ⟨x, rfl⟩ := l1 e1
    rw [r0 e2, List.headD_nil]
    refine one_room (c := .room) (by decide) (by decide) rfl rfl rfl rfl (fun _ _ _ _ _ z => nomatch z) (fun hh n hn => ?_) (fun hh n hn => .inr (.inr (.inr (.inr (.inr (.inr (.inr (.inr (.inr (.inr (.inr (.inr (.inr (.inr (.inr (.inr (.inr (.inl ⟨rfl, n, rfl, hn, rfl⟩))))))))))))))))))
    show (match roomAt hh n with
      | none => (hh, [-3])
      | some x => _) = (hh, [-3])
    unfold roomAt
    rw [List.getElem?_eq_none hn]
  . rw [l0 e1, r0 e2, List.headD_nil]
    exact no_num (c := .count) (by decide) (by decide) rfl rfl rfl rfl (fun _ _ _ _ z => nomatch z) fun hh => .inr (.inr (.inr (.inr (.inr (.inr (.inr (.inr (.inr (.inr (.inr (.inr (.inr (.inr (.inr (.inr (.inr (.inr (.inl ⟨rfl, rfl, rfl⟩))))))))))))))))))
  . rw [l0 e1, r0 e2, List.headD_nil]
    exact no_num (c := .board) (by decide) (by decide) rfl rfl rfl rfl (fun _ _ _ _ z => nomatch z) fun hh => .inr (.inr (.inr (.inr (.inr (.inr (.inr (.inr (.inr (.inr (.inr (.inr (.inr (.inr (.inr (.inr (.inr (.inr (.inr (.inl ⟨rfl, rfl, rfl⟩)))))))))))))))))))
  . rw [l0 e1]
    obtain ⟨q, rfl⟩ := List.length_eq_one_iff.mp (hr.trans e2)
    show StepAs h 21 [] q [[21], q]
    have eo : okC 21 [] q = (decide (q.length <= 100) && q.all fun c => within c 0 255) := by
      unfold okC
      show (true && (decide ((q.length : Int) <= 100) && q.all fun z => within z 0 255)) = _
      rw [show decide ((q.length : Int) <= 100) = decide (q.length <= 100) from decide_eq_decide.mpr (by omega), Bool.true_and]
    have ec : callOf [[21], q] = if okC 21 [] q = true then some (.write (q.map Int.toNat)) else none := by
      show (bytesOf q).map Call.write = _
      unfold bytesOf
      rw [eo]
      split <;> rfl
    refine step_of (c := .write (q.map Int.toNat)) (by decide) ec (fun _ _ _ _ z => nomatch z) (fun ok hh rt => ?_) (fun ok hh rt => ?_)
    . rw [rooms0 rfl, att_no (by decide)] at rt; cases rt
    . have ok : okC 21 [] q = true := ok
      rw [eo, Bool.and_eq_true] at ok
      refine .inr (.inr (.inr (.inr (.inr (.inr (.inr (.inr (.inr (.inr (.inr (.inr (.inr (.inr (.inr (.inr (.inr (.inr (.inr (.inr ⟨rfl, q.map Int.toNat, ?_, by rw [List.length_map]; exact of_decide_eq_true ok.1, rfl⟩)))))))))))))))))))
      show q = _
      exact nats_of ok.2
end M
namespace R
open PySem PySem.Spec PyProof.Rows L2
def GInt (mg : Str -> Option Value) (x : Str) (v : Int) : Prop := ∃ t, mg x = some (.int v t)
theorem pe_gint {X : Cx} {x : Str} {v : Int} {pos : Pos} (hg : Gl X x) (h : GInt X.mg x v) (hd : (x == ("__debug__" : Str)) = false := by decide) : PE X (.Name x pos) (tC (.int v)) := by
  obtain ⟨t, h⟩ := h
  exact pe_glob hg h ⟨t, rfl⟩ hd
theorem pe_gref {X : Cx} {x : Str} {a : Addr} {pos : Pos} (hg : Gl X x) (h : X.mg x = some (.ref a)) (hd : (x == ("__debug__" : Str)) = false := by decide) : PE X (.Name x pos) (tC (.ref a)) :=
  pe_glob hg h rfl hd
def BA (fd : FuncData) (ps : List Str) : Prop := ∀ us : List Value, us.length = ps.length -> bindArgs fd ⟨us, []⟩ = pure (ps.zip us)
theorem BA.binds {K : PySem.W.Frag} {fd : FuncData} {ps : List Str} (b : BA fd ps) : Binds K fd ps [] := .all b
structure Def (K : PySem.W.Frag) (mg : Str -> Option Value) (x qual : Str) (st : Stmt) (ps : List Str) : Prop where
  ex : ∃ f fd, Fun K x qual st f fd /\ mg x = some (.ref f) /\ BA fd ps
structure FOk (P : Program) (w : World) (K : PySem.W.Frag) (mg : Str -> Option Value) (base : Heap) (k : Nat) (f : Addr) (sp : Sp) : Prop where
  ex : ∃ fd ps, FnOk P w K mg base CX0 k f fd ps sp /\ PySem.W.keepIn K (.ref f) = true /\ Binds K fd ps []
structure COk (P : Program) (w : World) (K : PySem.W.Frag) (mg : Str -> Option Value) (base : Heap) (k : Nat) (x : Str) (sp : Sp) : Prop where
  ex : ∃ f, FOk P w K mg base k f sp /\ mg x = some (.ref f)
section
variable {P : Program} {w : World} {K : PySem.W.Frag} {mg : Str -> Option Value} {base : Heap} {k : Nat}
theorem FOk.mono {j : Nat} {f : Addr} {sp : Sp} (h : FOk P w K mg base k f sp) (l : k <= j) : FOk P w K mg base j f sp := by
  obtain ⟨fd, ps, h1, h2, h3⟩ := h.ex
  exact ⟨fd, ps, h1.mono l, h2, h3⟩
theorem COk.mono {j : Nat} {x : Str} {sp : Sp} (h : COk P w K mg base k x sp) (l : k <= j) : COk P w K mg base j x sp := by
  obtain ⟨f, h1, h2⟩ := h.ex
  exact ⟨f, h1.mono l, h2⟩
theorem COk.imp {x : Str} {sp sp' : Sp} (h : COk P w K mg base k x sp) (i : ∀ vs H Q E, sp' vs H Q E -> sp vs H Q E) : COk P w K mg base k x sp' := by
  obtain ⟨f, ⟨fd, ps, h1, h2, h3⟩, h4⟩ := h.ex
  exact ⟨f, ⟨fd, ps, h1.imp i, h2, h3⟩, h4⟩
theorem Def.ok {x qual : Str} {st : Stmt} {N ps : List Str} {sp : Sp} (D : Def K mg x qual st ps) (S : FnScope N ps (defScope st)) (len : ∀ vs H Q E, sp vs H Q E -> vs.length = ps.length)
    (hbody : ∀ (f : Addr) (cdv : Value) (A : Around) (outer : List Env) (s : Shared) (H : Hp) (vs : List V) (Q : VK) (E : XK), Room k (A.deeper (envOfC qual (defScope st) s.heap.objs.size f cdv)) -> sp vs H Q E ->
      ∃ t, PSs (cxOf CX0 P w K mg base N qual (defScope st) f cdv A outer s H E).nox (defBody st) t /\ t { nx := fun _ H' => Q .non H', rt := Q } (start N vs) H) : COk P w K mg base (k + 1) x sp := by
  obtain ⟨f, fd, F, m, b⟩ := D.ex
  exact ⟨f, ⟨fd, ps, F.ok S len (hbody f), F.kp, b.binds⟩, m⟩
end
section
variable {X : Cx} {k : Nat} {sp : Sp} {x : Str} {p pos : Pos} {e fe : Expr} {es : List Expr} {t : TA} {tf : TE} {E : XK}
theorem pe_callN (C : COk X.prog X.w X.K X.mg X.base k x sp) (hr : Room k X.A) (hg : Gl X x) (ha : PA X (e :: es) t) (hdb : (x == ("__debug__" : Str)) = false := by decide)
    (he : starEach (e :: es) X.env = (false, eval e X.env) :: starEach es X.env := by rfl) (hpl : (backTo pos (starEach es X.env)).any (·.1) = false := by rfl) :
    PE X (.Call (.Name x p) (e :: es) [] pos) (tCall sp [] E0 t) := by
  obtain ⟨f, ⟨fd, ps, F, kp, b⟩, m⟩ := C.ex
  exact pe_call F hr hg m kp b .nil pass0 ha hdb he hpl
def tCallX (ok : Addr -> Sp -> Prop) (tf : TE) (t : TA) : TE := fun σ H Q => tf σ H fun x H1 => ∃ f sp, x = .ref f /\ ok f sp /\ t σ H1 fun vs H2 => sp vs H2 Q E0
theorem pe_callX {ok : Addr -> Sp -> Prop} (hok : ∀ f sp, ok f sp -> FOk X.prog X.w X.K X.mg X.base k f sp) (hr : Room k X.A) (hf : PE X fe tf) (ha : PA X (e :: es) t)
    (hev : eval (.Call fe (e :: es) [] pos) X.env = (do callWith pos (<- eval fe X.env) [] (backTo pos (starEach (e :: es) X.env)) (backToKw pos (keywordEach [] X.env))) := by rfl)
    (he : starEach (e :: es) X.env = (false, eval e X.env) :: starEach es X.env := by rfl) (hpl : (backTo pos (starEach es X.env)).any (·.1) = false := by rfl) :
    PE X (.Call fe (e :: es) [] pos) (tCallX ok tf t) := by
  intro pins s σ H Q I h
  refine Call_ (thn (hf pins s σ H _ I h) fun u s0 ⟨y, H1, I1, ry, f, sp, ey, o, q⟩ => ?_) hev
  subst ey
  obtain rfl : u = Value.ref f := ry
  obtain ⟨fd, ps, F, kp, b⟩ := (hok f sp o).ex
  refine PySem.W.callWith_K (h₀ := X.base) I.ok.mod.kin kp (thn (ha pos pins s0 σ H1 _ I1 q) fun us s1 ⟨vs, H2, I2, r, q2⟩ => ⟨I2.kIn, ?_⟩) he hpl
  exact run_fn (dvs := []) (ds := []) F hr b .nil pass0 I2 r (by rw [List.append_nil]; exact q2)
end
def MD (K : PySem.W.Frag) (a : Addr) (kvs : List (Int × V)) : Prop :=
  ∃ (es : List DictEntry) (ep : Nat), K.lookup a = some ⟨.type "dict", none, .dict es.toArray ep, #[]⟩ /\
    Paired (fun (kv : Int × V) (e : DictEntry) => (∃ t, e.key = .int kv.1 t) /\ e.hash = hashInt kv.1 /\ RelV kv.2 e.val) kvs es /\ (kvs.map (·.1)).Nodup
def vAt (kvs : List (Int × V)) (i : Int) : Option V := (kvs.find? fun kv => decide (kv.1 = i)).map (·.2)
theorem MD.dictOf {P : Program} {w : World} {K : PySem.W.Frag} {h : Heap} {a : Addr} {kvs : List (Int × V)} (m : MD K a kvs) (X : K.In h) :
    ∃ vs : List (Key × Value), h.DictOf (mixKind P w) a vs /\ (∀ (i : Int) (v : V), vAt kvs i = some v -> ∃ u, valueAt vs (Sum.inl i) = some u /\ RelV v u) /\ ∀ i : Int, vAt kvs i = none -> valueAt vs (Sum.inl i) = none := by
  obtain ⟨es, ep, lk, pr, nd⟩ := m
  have key : ∀ {kvs : List (Int × V)} {es : List DictEntry}, Paired (fun (kv : Int × V) (e : DictEntry) => (∃ t, e.key = .int kv.1 t) /\ e.hash = hashInt kv.1 /\ RelV kv.2 e.val) kvs es ->
      ∃ vs : List (Key × Value), vs.map (·.1) = kvs.map (fun kv => (Sum.inl kv.1 : Key)) /\ Pairs (mixKind P w) es vs /\ (∀ e ∈ es, ∃ k, (mixKind P w).is k e.key = true /\ e.hash = (mixKind P w).hash k) /\
        (∀ (i : Int) (v : V), vAt kvs i = some v -> ∃ u, valueAt vs (Sum.inl i) = some u /\ RelV v u) /\ ∀ i : Int, vAt kvs i = none -> valueAt vs (Sum.inl i) = none := by
    intro kvs es pr
    induction pr with
    | nil => exact ⟨[], rfl, .nil, fun e he => absurd he (by simp), fun i v e => by simp [vAt] at e, fun _ _ => rfl⟩
    | @cons kv e ps qs h t ih =>
      obtain ⟨vs, h1, h2, h3, h4, h5⟩ := ih
      obtain ⟨⟨tk, hk⟩, hh, hv⟩ := h
      have his : (mixKind P w).is (Sum.inl kv.1) e.key = true := by rw [hk]; exact mixKind_int P w kv.1 tk
      refine ⟨(Sum.inl kv.1, e.val) :: vs, by simp [h1], .cons his rfl h2, fun e' he' => ?_, fun i v q => ?_, fun i q => ?_⟩
      . rcases List.mem_cons.mp he' with z | z
        . rw [z]; exact ⟨_, his, hh⟩
        . exact h3 e' z
      . by_cases ei : kv.1 = i
        . subst ei
          have q' : some kv.2 = some v := by simpa [vAt] using q
          cases q'
          exact ⟨e.val, by simp [valueAt], hv⟩
        . have q' : vAt ps i = some v := by simpa [vAt, List.find?_cons, ei] using q
          obtain ⟨u, hu, ru⟩ := h4 i v q'
          refine ⟨u, ?_, ru⟩
          have ne : ¬ (Sum.inl kv.1 : Key) = Sum.inl i := fun z => ei (Sum.inl.inj z)
          simpa [valueAt, List.find?_cons, ne, ei] using hu
      . by_cases ei : kv.1 = i
        . subst ei
          simp [vAt] at q
        . have q' : vAt ps i = none := by simpa [vAt, List.find?_cons, ei] using q
          have ne : ¬ (Sum.inl kv.1 : Key) = Sum.inl i := fun z => ei (Sum.inl.inj z)
          have hu := h5 i q'
          simpa [valueAt, List.find?_cons, ne, ei] using hu
  obtain ⟨vs, h1, h2, h3, h4⟩ := key pr
  refine ⟨vs, ⟨_, _, ep, X a _ lk, ⟨rfl, rfl, rfl⟩, rfl, fun e he => h3 e (by simpa using he), by simpa using h2, ?_⟩, h4⟩
  rw [h1]
  have inj : ∀ {l : List (Int × V)}, (l.map (·.1)).Nodup -> (l.map (fun kv => (Sum.inl kv.1 : Key))).Nodup := by
    intro l hl
    induction l with
    | nil => exact List.nodup_nil
    | cons a r ih =>
      have hl' : (a.1 :: r.map (·.1)).Nodup := hl
      obtain ⟨x1, x2⟩ := List.nodup_cons.mp hl'
      refine List.nodup_cons.mpr ⟨fun m => x1 ?_, ih x2⟩
      obtain ⟨q, hq, e⟩ := List.mem_map.mp m
      exact List.mem_map.mpr ⟨q, hq, Sum.inl.inj e⟩
  exact inj nd
def tMGet (K : PySem.W.Frag) (td ty : TE) : TE := fun σ H Q => td σ H fun x H1 => ty σ H1 fun y H2 => ∃ a kvs i v, x = .ref a /\ y = .int i /\ MD K a kvs /\ vAt kvs i = some v /\ Q v H2
theorem pe_mget {X : Cx} {o i : Expr} {pos : Pos} {td ty : TE} (ho : PE X o td) (hi : PE X i ty) (hs : NoSl i) : PE X (.Subscript o i pos) (tMGet X.K td ty) := by
  intro pins s σ H Q I h
  refine subD_of PySem.F.slot_dict_getitem.lookup hs (thn (ho pins s σ H _ I h) fun u s1 ⟨x, H1, I1, rx, q1⟩ => thn (hi pins s1 σ H1 _ I1 q1) fun iv s2 ⟨y, H2, I2, ry, a, kvs, n, v, ex, ey, m, l, q2⟩ => ?_)
  subst ex ey
  obtain rfl : u = Value.ref a := rx
  obtain ⟨vs, dd, hv, _⟩ := m.dictOf (P := X.prog) (w := X.w) I2.kIn
  obtain ⟨w', hw, rw'⟩ := hv n v l
  refine ⟨dd.typeIs, ?_⟩
  obtain ⟨t, rfl⟩ := (show ∃ t, iv = Value.int n t from ry)
  exact wpAny_getItem_of (mixKind_int X.prog X.w n t) dd.mapOf hw ⟨v, H2, I2.tok _, rw', q2⟩
structure MkD (K : PySem.W.Frag) (mg : Str -> Option Value) (x : Str) (C : Addr) (qual : Str) (st : Stmt) (ps : List Str) : Prop where
  ex : ∃ f fd, Mk K C f /\ Fun K "__init__" qual st f fd /\ mg x = some (.ref C) /\ BA fd ps
structure IOk (P : Program) (w : World) (K : PySem.W.Frag) (mg : Str -> Option Value) (base : Heap) (k : Nat) (x : Str) (C : Addr) (sp : Sp) : Prop where
  ex : ∃ f fd ps, Mk K C f /\ FnOk P w K mg base CX0 k f fd ps sp /\ mg x = some (.ref C) /\ Binds K fd ps []
theorem MkD.ok {P : Program} {w : World} {K : PySem.W.Frag} {mg : Str -> Option Value} {base : Heap} {k : Nat} {x qual : Str} {C : Addr} {st : Stmt} {N ps : List Str} {sp : Sp} (D : MkD K mg x C qual st ps) (S : FnScope N ps (defScope st)) (len : ∀ vs H Q E, sp vs H Q E -> vs.length = ps.length)
    (hbody : ∀ (f : Addr) (cdv : Value) (A : Around) (outer : List Env) (s : Shared) (H : Hp) (vs : List V) (Q : VK) (E : XK), Room k (A.deeper (envOfC qual (defScope st) s.heap.objs.size f cdv)) -> sp vs H Q E ->
      ∃ t, PSs (cxOf CX0 P w K mg base N qual (defScope st) f cdv A outer s H E).nox (defBody st) t /\ t { nx := fun _ H' => Q .non H', rt := Q } (start N vs) H) : IOk P w K mg base (k + 1) x C sp := by
  obtain ⟨f, fd, M, F, m, b⟩ := D.ex
  exact ⟨f, fd, ps, M, F.ok S len (hbody f), m, b.binds⟩
section
variable {X : Cx} {k : Nat} {sp : Sp} {x : Str} {C : Addr} {p pos : Pos} {e : Expr} {es : List Expr} {t : TA}
theorem pe_mk (G : IOk X.prog X.w X.K X.mg X.base k x C sp) (hr : Room (k + 1) X.A) (hg : Gl X x) (ha : PA X (e :: es) t) (hdb : (x == ("__debug__" : Str)) = false := by decide)
    (he : starEach (e :: es) X.env = (false, eval e X.env) :: starEach es X.env := by rfl) (hpl : (backTo pos (starEach es X.env)).any (·.1) = false := by rfl) :
    PE X (.Call (.Name x p) (e :: es) [] pos) (tMake C sp [] E0 t) := by
  obtain ⟨f, fd, ps, M, F, m, b⟩ := G.ex
  exact pe_make M F hr hg m b .nil pass0 ha hdb he hpl
theorem pe_mk0 (G : IOk X.prog X.w X.K X.mg X.base k x C sp) (hr : Room (k + 1) X.A) (hg : Gl X x) (hdb : (x == ("__debug__" : Str)) = false := by decide) : PE X (.Call (.Name x p) [] [] pos) (tMake C sp [] E0 tNil) := by
  obtain ⟨f, fd, ps, M, F, m, b⟩ := G.ex
  exact pe_make0 M F hr hg m b .nil pass0 hdb
end
inductive Dt where
  | i (n : Int)
  | s (x : Str)
  | t (ds : List Dt)
def KT (K : PySem.W.Frag) (a : Addr) (xs : List V) : Prop := ∃ (o : Obj) (its : Array Value) (n : Nat), K.lookup a = some o /\ o.cls = .type "tuple" /\ o.data = .seq its n /\ its.size <= sizeLine /\ Vals xs its.toList
theorem KT.sq {K : PySem.W.Frag} {a : Addr} {xs : List V} {H : Hp} (h : KT K a xs) : SqT K H a xs := .inr h
mutual
def Tr (K : PySem.W.Frag) : Dt -> V -> Prop
  | .i n, v => v = .int n
  | .s x, v => v = .str x
  | .t ds, v => ∃ a xs, v = .ref a /\ KT K a xs /\ Trs K ds xs
def Trs (K : PySem.W.Frag) : List Dt -> List V -> Prop
  | [], vs => vs = []
  | d :: ds, vs => ∃ v r, vs = v :: r /\ Tr K d v /\ Trs K ds r
end
def TD (K : PySem.W.Frag) (a : Addr) (ds : List Dt) : Prop := ∃ xs, KT K a xs /\ Trs K ds xs
def MDT (K : PySem.W.Frag) (a : Addr) (l : List (Int × Dt)) : Prop := ∃ kvs, MD K a kvs /\ Paired (fun (kv : Int × V) (d : Int × Dt) => kv.1 = d.1 /\ Tr K d.2 kv.2) kvs l
def tMIn (K : PySem.W.Frag) (neg : Bool) (ty td : TE) : TE := fun σ H Q => ty σ H fun y H1 => td σ H1 fun x H2 => ∃ a kvs i, x = .ref a /\ y = .int i /\ (a == sysModules) = false /\ MD K a kvs /\ Q (.bl (if neg then !(vAt kvs i).isSome else (vAt kvs i).isSome)) H2
theorem MD.isSome {P : Program} {w : World} {K : PySem.W.Frag} {h : Heap} {a : Addr} {kvs : List (Int × V)} (m : MD K a kvs) (X : K.In h) :
    ∃ vs : List (Key × Value), h.DictOf (mixKind P w) a vs /\ (∀ (i : Int) (v : V), vAt kvs i = some v -> ∃ u, valueAt vs (Sum.inl i) = some u /\ RelV v u) /\ (∀ i : Int, vAt kvs i = none -> valueAt vs (Sum.inl i) = none) /\ ∀ i : Int, (valueAt vs (Sum.inl i)).isSome = (vAt kvs i).isSome := by
  obtain ⟨vs, d, h1, h2⟩ := m.dictOf (P := P) (w := w) X
  refine ⟨vs, d, h1, h2, fun i => ?_⟩
  cases e : vAt kvs i with
  | none => rw [h2 i e]; rfl
  | some v =>
    obtain ⟨u, hu, _⟩ := h1 i v e
    rw [hu]; rfl
section
variable {X : Cx} {i o e f : Expr} {ty td tx : TE} {apos cpos : Pos}
theorem pc_min (hi : PE X i ty) (ho : PE X o td) : PC X .In i o (tMIn X.K false ty td) := by
  intro pins s σ H Q I h
  refine thn (hi pins s σ H _ I h) fun iv s1 ⟨y, H1, I1, ry, q1⟩ => thn (ho pins s1 σ H1 _ I1 q1) fun u s2 ⟨x, H2, I2, rx, a, kvs, n, ex, ey, hs, m, q2⟩ => ?_
  subst ex ey
  obtain rfl : u = Value.ref a := rx
  obtain ⟨t, rfl⟩ := (show ∃ t, iv = Value.int n t from ry)
  obtain ⟨vs, dd, _, _, hv⟩ := m.isSome (P := X.prog) (w := X.w) I2.kIn
  refine wpAny_in_of (mixKind_int X.prog X.w n t) hs dd.mapOf ?_
  rw [hv n]
  exact ⟨.bl _, H2, I2.tok _, rfl, q2⟩
theorem pc_mnotin (hi : PE X i ty) (ho : PE X o td) : PC X .NotIn i o (tMIn X.K true ty td) := by
  intro pins s σ H Q I h
  refine thn (hi pins s σ H _ I h) fun iv s1 ⟨y, H1, I1, ry, q1⟩ => thn (ho pins s1 σ H1 _ I1 q1) fun u s2 ⟨x, H2, I2, rx, a, kvs, n, ex, ey, hs, m, q2⟩ => ?_
  subst ex ey
  obtain rfl : u = Value.ref a := rx
  obtain ⟨t, rfl⟩ := (show ∃ t, iv = Value.int n t from ry)
  obtain ⟨vs, dd, _, _, hv⟩ := m.isSome (P := X.prog) (w := X.w) I2.kIn
  refine wpAny_notIn_of (mixKind_int X.prog X.w n t) hs dd.mapOf ?_
  rw [hv n]
  exact ⟨.bl _, H2, I2.tok _, rfl, q2⟩
def tMGet2 (K : PySem.W.Frag) (td ty tx : TE) : TE := fun σ H Q => td σ H fun x H1 => ∃ a kvs, x = .ref a /\ MD K a kvs /\ (a == sysModules) = false /\ ty σ H1 fun y H2 => tx σ H2 fun z H3 => ∃ i, y = .int i /\ Q ((vAt kvs i).getD z) H3
theorem pe_mget2 (ho : PE X o td) (he : PE X e ty) (hf : PE X f tx) (m : M2 X o "get" apos e f cpos) : PE X (.Call (.Attribute o "get" apos) [e, f] [] cpos) (tMGet2 X.K td ty tx) := by
  intro pins s σ H Q I h
  refine wpAny_Call_method m.base m.few m.line PySem.F.plainAttrs_dict PySem.F.slot_dict_get PySem.F.type_dict_get (thn (ho pins s σ H _ I h) fun u s1 ⟨x, H1, I1, rx, a, kvs, ex, md, hs, q1⟩ => ?_)
  subst ex
  obtain rfl : u = Value.ref a := rx
  obtain ⟨vs1, d1, _⟩ := md.isSome (P := X.prog) (w := X.w) I1.kIn
  refine ⟨d1.typeIs, d1.mapOf.noDict, ?_⟩
  rw [m.trees]
  refine Calls.callWith_builtin rfl (Calls.evalArgs_plain (Calls.spliced_cons (thn (he pins s1 σ H1 _ I1 q1) fun iv s2 ⟨y, H2, I2, ry, q2⟩ =>
    Calls.spliced_cons (thn (hf pins s2 σ H2 _ I2 q2) fun fv s3 ⟨z, H3, I3, rz, n, ey, q3⟩ => Calls.spliced_nil ?_))))
  subst ey
  obtain ⟨t, rfl⟩ := (show ∃ t, iv = Value.int n t from ry)
  obtain ⟨vs, dd, h1, h2, _⟩ := md.isSome (P := X.prog) (w := X.w) I3.kIn
  refine call_meetsIn PySem.F.slot_dict_get dd.typeIs PySem.F.entry_dict_get (PySem.F.args_dict_get_3 _ _ _) (meets_dict_get_default (mixKind X.prog X.w) a (mixKind_int X.prog X.w n t) hs fv) ⟨_, dd.mapOf, ?_⟩
  refine ⟨_, H3, I3.tok _, ?_, q3⟩
  cases q : vAt kvs n with
  | none => rw [h2 n q]; exact rz
  | some v =>
    obtain ⟨u, hu, ru⟩ := h1 n v q
    rw [hu]; exact ru
def rCountI (K : PySem.W.Frag) : V -> List V -> Hp -> VK -> Prop := fun x xs H Q => ∃ (a : Addr) (ns : List Int) (k : Int), x = V.ref a /\ xs = [.int k] /\ SqL K H a (ns.map V.int) /\ Q (.int (ns.count k : Nat)) H
theorem mt_countI : MtR X "list.count" (rCountI X.K) := by
  intro pins s σ H x xs v us Q I rx rxs h
  obtain ⟨a, ns, k, rfl, rfl, hs, q⟩ := h
  cases rx
  obtain ⟨u, rfl, t, rfl⟩ := vals1 rxs
  obtain ⟨its, rv, hl, _⟩ := I.list hs
  exact count_list_ints hl.isList rv.ints ⟨.int _, H, I.tok _, ⟨_, rfl⟩, q⟩
def rInD (K : PySem.W.Frag) (neg : Bool) : R2 := fun x y H Q => ∃ t xs d ds, y = .ref t /\ SqT K H t xs /\ Dp K H x d /\ DpAll K H xs ds /\ SeqAt.shaped d = true /\ ds.all SeqAt.shaped = true /\ Q (.bl (if neg then !(ds.any fun e => PyData.eqv e d) else ds.any fun e => PyData.eqv e d)) H
end
open Classical in
/-- the answer that an item gives, read off the heap -/
noncomputable def eqR (h : Heap) (d : PyData) (u : Value) : Bool := decide (∃ e as, Reads h u e as /\ SeqAt.shaped e = true /\ PyData.eqv e d = true)
open Classical in
theorem eqR_is {h : Heap} {d e : PyData} {u : Value} {as : List Addr} (r : Reads h u e as) (s : SeqAt.shaped e = true) : eqR h d u = PyData.eqv e d := by
  unfold eqR
  cases q : PyData.eqv e d with
  | true => exact decide_eq_true ⟨e, as, r, s, q⟩
  | false =>
    refine decide_eq_false fun ⟨e', as', r', s', q'⟩ => ?_
    have z := SeqAt.Reads.unique e e' u as as' (SeqAt.canLay_of_shaped s) r r'
    rw [<- z, q] at q'
    cases q'
theorem any_eqR {h : Heap} {d : PyData} : ∀ {ds : List PyData} {us : List Value} {as : List Addr}, ReadsAll h us ds as -> ds.all SeqAt.shaped = true -> us.any (eqR h d) = ds.any fun e => PyData.eqv e d
  | [], _, _, r, _ => by cases r; rfl
  | e :: ds, _, _, r, s => by
    rw [List.all_cons, Bool.and_eq_true] at s
    cases r with
    | cons r1 r2 =>
      rw [List.any_cons, List.any_cons, eqR_is r1 s.1, any_eqR r2 s.2]
theorem at_eqR {A : Around} {st : Shared} {d : PyData} {v : Value} {bs : List Addr} (hu : A.units + 64 < cLine) (rv : Reads st.heap v d bs) (sd : SeqAt.shaped d = true) : ∀ {ds : List PyData} {us : List Value} {as : List Addr}, ReadsAll st.heap us ds as -> ds.all SeqAt.shaped = true -> ∀ u ∈ us, SeqAt.EqAt A st u v (eqR st.heap d u)
  | [], _, _, r, _ => fun u hu => by cases r; cases hu
  | e :: ds, _, _, r, s => fun u hm => by
    rw [List.all_cons, Bool.and_eq_true] at s
    cases r with
    | cons r1 r2 =>
      rcases List.mem_cons.mp hm with rfl | hm
      . rw [eqR_is r1 s.1]
        exact SeqAt.eqAt_reads e d A st _ v _ bs r1 rv (SeqAt.canLay_of_shaped s.1) (SeqAt.canLay_of_shaped sd) (SeqAt.room_of_shaped s.1 hu)
      . exact at_eqR hu rv sd r2 s.2 u hm
section
variable {X : Cx}
theorem op_notInL (hu : X.A.in1.units + 64 < cLine) : OpR X (compareOp .NotIn) (rInD X.K true) := by
  intro pins s σ H x y v u Q I rx ry h
  obtain ⟨t, xs, d, ds, rfl, ht, hd, hds, sd, sds, q⟩ := h
  cases ry
  obtain ⟨its, r, pl, hz⟩ := I.tuple ht
  obtain ⟨as, r1⟩ := Dp.reads I d x v hd rx
  obtain ⟨bs, r2⟩ := Dp.readsAll I ds xs its hds r
  refine SeqAt.notIn_tupleAt (eqR s.heap d) pl (fun w hw => at_eqR hu r1 sd r2 sds w (by simpa using hw)) ⟨.bl _, H, I, rfl, ?_⟩
  rw [show its.toArray.any (eqR s.heap d) = its.any (eqR s.heap d) by simp, any_eqR r2 sds]
  exact q
end
section
variable {prog : Program} {w : World} {A : Around} {E : Value -> Shared -> Prop} {st : Shared}
theorem nextT_item {q t : Addr} {i : Nat} {xs : Array Value} {x : Value} {Q : Value -> Shared -> Prop} (hq : st.heap.IsTupleIter q t i) (ht : st.heap.IsTuple t xs) (hx : xs[i]? = some x)
    (k : ∀ h', h'.IsTupleIter q t (i + 1) -> Heap.SameBut q st.heap h' -> Q x { st with heap := h' }) : wpAny (model prog w) A (Builtin.SmallTypes.nextOf (.ref q)) Q E st := by
  obtain ⟨oq, gq, cq, dq⟩ := id hq; obtain ⟨ot, gt, _, nt, dt⟩ := ht
  unfold Builtin.SmallTypes.nextOf; refine wpAny_bind (wpAny_callSpecial?_slot (name := Str.ofString "__next__") hq.typeIs F.slot_tuple_iterator_next (wpAny_call_entry F.slot_tuple_iterator_next hq.typeIs F.entry_tuple_iterator_next ?_ (F.args_tuple_iterator_next_1 _)))
  show wpAny _ _ (field (.ref q) 0 >>= _) _ _ st; refine wpAny_bind (wpAny_field gq dq (x := .ref t) rfl ?_)
  show wpAny _ _ (if (Value.ref t == Value.none) = true then _ else _) _ _ st; rw [if_neg (show ¬ ((Value.ref t == Value.none) = true) from Bool.false_ne_true)]
  show wpAny _ _ (field (.ref q) 1 >>= _) _ _ st; refine wpAny_bind (wpAny_field gq dq (x := .int i 0) rfl ?_)
  show wpAny _ _ (seqItems? (.ref t) >>= _) _ _ st; refine wpAny_bind (wpAny_seqItems gt dt ?_)
  simp only [Int.toNat_natCast, hx]; refine wpAny_bind (wpAny_setField gq dq (by simp) (wpAny_pure ⟨x, rfl, wpAny_pure (k _ ?_ (Heap.SameBut.update ..))⟩))
  exact ⟨_, Heap.get?_update_self _ gq (Obj.isFreed_of_fields (Obj.data_mapFields dq _)), (Obj.cls_mapFields ..).trans cq, by rw [Obj.data_mapFields dq]; simp [rawInt]⟩
theorem nextT_end {q t : Addr} {i : Nat} {xs : Array Value} {Q : Value -> Shared -> Prop} (hh : A.handled = none) (hq : st.heap.IsTupleIter q t i) (ht : st.heap.IsTuple t xs) (hx : xs[i]? = none)
    (k : ∀ h' e, Heap.ExtBut q st.heap h' -> (∃ o, h'.get? e = some o /\ o.cls = .type "StopIteration") -> E (.ref e) { st with heap := h' }) : wpAny (model prog w) A (Builtin.SmallTypes.nextOf (.ref q)) Q E st := by
  obtain ⟨oq, gq, cq, dq⟩ := id hq; obtain ⟨ot, gt, _, nt, dt⟩ := ht
  unfold Builtin.SmallTypes.nextOf; refine wpAny_bind (wpAny_callSpecial?_slot (name := Str.ofString "__next__") hq.typeIs F.slot_tuple_iterator_next (wpAny_call_entry F.slot_tuple_iterator_next hq.typeIs F.entry_tuple_iterator_next ?_ (F.args_tuple_iterator_next_1 _)))
  show wpAny _ _ (field (.ref q) 0 >>= _) _ _ st; refine wpAny_bind (wpAny_field gq dq (x := .ref t) rfl ?_)
  show wpAny _ _ (if (Value.ref t == Value.none) = true then _ else _) _ _ st; rw [if_neg (show ¬ ((Value.ref t == Value.none) = true) from Bool.false_ne_true)]
  show wpAny _ _ (field (.ref q) 1 >>= _) _ _ st; refine wpAny_bind (wpAny_field gq dq (x := .int i 0) rfl ?_)
  show wpAny _ _ (seqItems? (.ref t) >>= _) _ _ st; refine wpAny_bind (wpAny_seqItems gt dt ?_)
  simp only [Int.toNat_natCast, hx]; refine wpAny_bind (wpAny_rule (wpAny_bind (wpAny_setField gq dq (by simp) ?_)))
  show wpAny _ _ (newExc (.type "StopIteration") [] >>= _) _ _ _; refine wpAny_bind ?_
  simp only [newExc, newTuple]; refine wpAny_bind (wpAny_newObj_type ?_ (by size_fits))
  refine wpAny_bind (m := firstArgMember _ _) (wpAny_of_eq (a := Value.none) (by first | rfl | (simp only [firstArgMember]; rfl)) (wpAny_newObj_type ?_ (by size_fits)))
  simp only [raiseNew]; refine wpAny_bind (wpAny_handled ?_)
  first | rw [show A.in1.handled = none from hh] | rw [hh]
  exact wpAny_bind (wpAny_pure (wpAny_throw (k _ _ (((Heap.SameBut.update ..).extBut.push _).push _) ⟨_, Heap.get?_push_size _ rfl, rfl⟩)))
end
theorem iter_apart {h : Heap} {q t : Addr} {i : Nat} {xs : Array Value} (hq : h.IsTupleIter q t i) (ht : h.IsTuple t xs) : t ≠ q := fun z => by
  obtain ⟨o, e, c, _⟩ := hq
  obtain ⟨o', e', c', _⟩ := ht
  rw [z, e] at e'; cases e'
  rw [c] at c'
  exact absurd c' (by decide)
theorem drawsT {prog : Program} {w : World} {A : Around} (hh : A.handled = none) (q t : Addr) (xs : Array Value) : Draws prog w A q [q, t] xs.size (fun i v => xs[i]? = some v) (fun i h => h.IsTupleIter q t i /\ h.IsTuple t xs) where
  live := fun _ _ z => let ⟨o, ho, _⟩ := z.1; ⟨o, ho⟩
  frame := fun _ _ _ z k => ⟨z.1.at fun o e => k q (by simp) o e, let ⟨o, ho, r⟩ := z.2; ⟨o, k t (by simp) o ho, r⟩⟩
  item := fun i s Q E hi z k => nextT_item z.1 z.2 (x := xs[i]) (by simp [hi]) fun h' y sb => k _ h' s.toks (by simp [hi]) ⟨y, z.2.extBut sb.extBut (iter_apart z.1 z.2)⟩ sb
  done := fun s Q E z k => nextT_end hh z.1 z.2 (by simp) k
theorem meets_enumT (l : Addr) (items : Array Value) (n : Nat) (dct : Option Addr) (sl : Array (Option Value)) :
    Meets (Builtin.«enumerate.__new__» ⟨[.type "enumerate", .ref l], []⟩) (fun _ R s => s.heap.get? l = some { cls := .type "tuple", dict := dct, data := .seq items n, slots := sl } /\
      R (.ok (.ret (.ref (s.heap.push { cls := .type "tuple_iterator", data := .fields #[.ref l, .int 0 0] }).objs.size)))
        { s with heap := (s.heap.push { cls := .type "tuple_iterator", data := .fields #[.ref l, .int 0 0] }).push { cls := .type "enumerate", data := .fields #[.none, .bool false, .ref s.heap.objs.size, rawInt 0, .none, .none] } }) :=
  .of_wp fun prog w A R s h => by
    obtain ⟨hp, g, d, tk, os⟩ := s; obtain ⟨gl, h⟩ := h
    have hsub := sub_enumerate
    have hT : Heap.IsTuple (Shared.heap ⟨hp, g, d, tk, os⟩) l items := ⟨_, gl, rfl, n, rfl⟩
    wp_walk using AutoSeq1.wpAny_loadPart' gl
    refine wpAny_stack_any fun stk => wpAny_pure ?_
    split
    . rename_i c _ _ _ _ _
      cases (c == Value.type "enumerate") <;> (wp_walk using AutoSeq1.wpAny_loadPart' gl, wpAny_pyIter_tuple hT; exact ⟨_, rfl, h⟩)
    . wp_walk using AutoSeq1.wpAny_loadPart' gl, wpAny_pyIter_tuple hT
      exact ⟨_, rfl, h⟩
section
variable {prog : Program} {w : World} {A : Around} {E : Value -> Shared -> Prop} {s : Shared}
theorem call_enumT {l : Addr} {items : Array Value} {Q : Value -> Shared -> Prop} (hL : s.heap.IsTuple l items)
    (k : ∀ h', IsEnum h' (s.heap.objs.size + 1) s.heap.objs.size 0 .none -> h'.IsTupleIter s.heap.objs.size l 0 -> (∀ b o, s.heap.get? b = some o -> h'.get? b = some o) -> Q (.ref (s.heap.objs.size + 1)) { s with heap := h' }) :
    wpAny (model prog w) A (call (.type "enumerate") [.ref l]) Q E s := by
  obtain ⟨⟨c, dct, dt, sl⟩, gl, hc, n, hd⟩ := hL
  replace hc : c = .type "tuple" := hc
  replace hd : dt = .seq items n := hd
  subst hc hd
  refine callType_new F.called_enumerate (by decide) (F.typeCall_enumerate_1 _) (F.newCall_enumerate_1 _) (fun obj => F.args_object_init_2 obj _) F.entry_enumerate_new (meets_enumT l items n dct sl) ⟨gl, ?_⟩
  have z : (s.heap.push { cls := .type "tuple_iterator", data := .fields #[.ref l, .int 0 0] }).objs.size = s.heap.objs.size + 1 := Heap.size_push ..
  have e : IsEnum ((s.heap.push { cls := .type "tuple_iterator", data := .fields #[.ref l, .int 0 0] }).push { cls := .type "enumerate", data := .fields #[.none, .bool false, .ref s.heap.objs.size, rawInt 0, .none, .none] }) (s.heap.objs.size + 1) s.heap.objs.size 0 .none := by
    have y := Heap.get?_push_size (s.heap.push { cls := .type "tuple_iterator", data := .fields #[.ref l, .int 0 0] }) (o := { cls := .type "enumerate", data := .fields #[.none, .bool false, .ref s.heap.objs.size, rawInt 0, .none, .none] }) rfl
    rw [z] at y; exact y
  show _ /\ _
  rw [z]
  exact ⟨⟨_, e, rfl⟩, k _ e ⟨_, Heap.get?_push_of_some _ (Heap.get?_push_size _ rfl), rfl, rfl⟩ fun b o x => Heap.get?_push_of_some _ (Heap.get?_push_of_some _ x)⟩
end
def IteT (K : PySem.W.Frag) (a : Addr) : It :=
  ⟨fun i H => ∃ (xs : List V) (x : V), SqT K H a xs /\ xs[i]? = some x, fun i H v H' => ∃ T x, v = .ref T /\ H T = none /\ H' = upd H T (.tup [.int (i : Nat), x]) /\ ∀ xs, SqT K H a xs -> xs[i]? = some x, fun i H => ∃ xs : List V, SqT K H a xs /\ xs.length = i⟩
theorem turn_enumT {P : Program} {w : World} {K : PySem.W.Frag} {elts : List Expr} {kk : Nat} {tpos : Pos} (a e it : Addr) :
    Turn P w K (.Tuple elts kk tpos) (IteT K a) [e, it] e (fun i h => (∃ old, IsEnum h e it ((i : Nat) : Int) old) /\ h.IsTupleIter it a i /\ e ≠ it) where
  mem := by simp
  obj := fun i h z b hb => by
    obtain ⟨⟨old, he⟩, ⟨o, ho, hc, hd⟩, _⟩ := z
    have y : b = e \/ b = it := by simpa using hb
    rcases y with y | y <;> rw [y]
    . exact ⟨_, he, fun v q => nomatch q⟩
    . exact ⟨o, ho, fun v q => by rw [hd] at q; cases q⟩
  keep := fun i h h' z k => let ⟨⟨old, he⟩, hi, hne⟩ := z; ⟨⟨old, k e (by simp) _ he⟩, hi.at fun o q => k it (by simp) o q, hne⟩
  item := by
    intro X hP hw hK hc i pins s σ H E I hf z hg
    subst hP hw hK
    obtain ⟨⟨old, he⟩, hit, hne⟩ := z
    obtain ⟨xs, x, hq, hx⟩ := hg
    obtain ⟨its, rv, p, hz⟩ := I.tuple hq
    have pT : s.heap.IsTuple a its.toArray := p
    obtain ⟨u, hu, ru⟩ := rv.get hx
    have hel : e < s.heap.objs.size := Heap.lt_size he
    have hil : it < s.heap.objs.size := by obtain ⟨_, q, _⟩ := hit; exact Heap.lt_size q
    have hua : its.toArray[i]? = some u := by simpa using hu
    have hi : i < its.toArray.size := by
      obtain ⟨y, _⟩ := Array.getElem?_eq_some_iff.mp hua
      exact y
    have hef : e ∉ [it, a] := by
      intro y
      rcases List.mem_cons.mp y with y | y
      . exact hne y
      . have y : e = a := by simpa using y
        obtain ⟨o, ho, hc', _⟩ := pT
        rw [<- y] at ho
        rw [show s.heap.get? e = some _ from he] at ho
        cases ho
        exact absurd (show Value.type "enumerate" = Value.type "tuple" from hc') (by decide)
    refine wpAny_pyNext_enum_itemD (drawsT (prog := X.prog) (w := X.w) (A := X.A.in1) (I.ok.hd hc) it a its.toArray) he ⟨hit, pT⟩ hi hne hef fun x' h' tk hx' ho st' hT hsz hk => ?_
    have ex : u = x' := Option.some.inj (hua.symm.trans hx')
    subst ex
    obtain ⟨hit', _⟩ := st'
    refine ⟨_, rfl, wpAny_letOwnedTupleGo_enum (s := { s with heap := h', toks := tk + 1 }) ho fun h'' he' sb => ?_⟩
    have hT2 : h''.get? s.heap.objs.size = some { cls := .type "tuple", data := .seq #[.int i tk, u] } := (sb.2 _ (Nat.ne_of_gt hel)).trans hT
    have new : ObjOk X.prog X.w (upd H s.heap.objs.size (.tup [.int (i : Nat), x])) h'' s.heap.objs.size (.tup [.int (i : Nat), x]) :=
      ⟨by show 2 <= sizeLine; decide, [.int i tk, u], .cons ⟨_, rfl⟩ (.cons ru .nil), ⟨_, hT2, rfl, _, rfl⟩⟩
    have I1 : Inv X pins σ (upd H s.heap.objs.size (.tup [.int (i : Nat), x])) { s with heap := h'', toks := tk + 1 } :=
      I.turnedNew (ch := [e, it]) (fun b ob hb q => (sb.2 b (fun y => hb (by simp [y]))).trans (hk b ob (fun y => hb (by simp [y])) (fun y => hb (by simp [y])) q)) hf (Nat.le_refl _) new
    refine ⟨.ref s.heap.objs.size, _, I1, rfl, ⟨_, x, rfl, I.hok.fresh (Nat.le_refl _), rfl, fun ys hy => by rw [I.tuple_inj hy hq]; exact hx⟩, ⟨⟨u, ?_⟩, hit'.at fun o q => (sb.2 it (Ne.symm hne)).trans q, hne⟩, fun b hb => ?_⟩
    . rw [show ((i + 1 : Nat) : Int) = (i : Int) + 1 by omega]; exact he'
    . have hb' : b < s.heap.objs.size := by
        have y : b = e \/ b = it := by simpa using hb
        rcases y with y | y <;> rw [y]
        . exact hel
        . exact hil
      rw [upd_ne (Nat.ne_of_lt hb')]
      exact (hf b hb).1
  done := by
    intro X hP hw hK hc i pins s σ H E I hf z hg
    subst hP hw hK
    obtain ⟨⟨old, he⟩, hit, hne⟩ := z
    obtain ⟨xs, hq, hx⟩ := hg
    obtain ⟨its, rv, p, hz⟩ := I.tuple hq
    obtain ⟨f0, f1, f2, f3, f4, f5⟩ := hf it (by simp)
    have hl := rv.length
    have en : i = its.toArray.size := by simp only [List.size_toArray]; omega
    exact wpAny_pyNext_enum_endD (drawsT (prog := X.prog) (w := X.w) (A := X.A.in1) (I.ok.hd hc) it a its.toArray) he ⟨by rw [<- en]; exact hit, p⟩ fun h' eb => ⟨rfl, I.turned (t' := s.toks) (fun b o hb q => eb b o hb q) f0 f1 f3 f4 f5⟩
  self := fun A i s Q E z h => let ⟨⟨_, he⟩, _⟩ := z; wpAny_pyIter_enum he h
def iEnumT (K : PySem.W.Frag) (ta : TA) : TI := fun σ H R => ta σ H fun vs H1 => ∃ a xs, vs = [.ref a] /\ SqT K H1 a xs /\ R (IteT K a) H1
theorem pi_enumT {X : Cx} {e : Expr} {ta : TA} {p pos tpos : Pos} {elts : List Expr} {kk : Nat} (hg : Gl X "enumerate") (hm : X.mg "enumerate" = none) (ha : PA X [e] ta) (hs : starEach [e] X.env = [(false, eval e X.env)] := by rfl) :
    PI X (.Tuple elts kk tpos) (.Call (.Name "enumerate" p) [e] [] pos) (iEnumT X.K ta) := by
  intro pins s σ H R I h
  refine Call_ (ld_blt I hg hm boot_enumerate (PyProof.Rows.callWith_type1 (thn (ha pos pins s σ H _ I h) fun us s1 ⟨vs, H1, I1, r1, q1⟩ => ?_) hs rfl))
  obtain ⟨a, xs, ex, hq, q⟩ := q1
  subst ex
  obtain ⟨u, rfl, r⟩ := vals1 r1
  cases r
  obtain ⟨its, rv, p', hz⟩ := I1.tuple hq
  refine call_enumT (show s1.heap.IsTuple a its.toArray from p') fun h' he hit hk => wpAny_pyIter_enum he ?_
  have I2 : Inv X pins σ H1 { s1 with heap := h' } := I1.kept (t' := s1.toks) hk
  refine ⟨s1.heap.objs.size + 1, [s1.heap.objs.size + 1, s1.heap.objs.size], _, _, H1, rfl, I2, turn_enumT a (s1.heap.objs.size + 1) s1.heap.objs.size, ⟨⟨.none, he⟩, hit, Nat.succ_ne_self _⟩, fun b hb => ?_, q⟩
  have y : b = s1.heap.objs.size + 1 \/ b = s1.heap.objs.size := by simpa using hb
  have hle : s1.heap.objs.size <= b := by rcases y with y | y <;> rw [y] <;> omega
  exact I1.fpOk hle (I1.hok.fresh hle)
theorem for_enumT {K : PySem.W.Frag} {a : Addr} {xs : List V} {g : TG} {tb : TS} {D : Ends} {σ : L2.St} {H : Hp} (Pv : Nat -> L2.St -> Hp -> Prop) (h0 : Pv 0 σ H) (hl : ∀ i σ H, i <= xs.length -> Pv i σ H -> SqT K H a xs)
    (hs : ∀ i x σ H T, xs[i]? = some x -> Pv i σ H -> H T = none -> g (.ref T) σ (upd H T (.tup [.int (i : Nat), x])) fun σ2 H2 => tb { D with nx := Pv (i + 1), ct := Pv (i + 1), bk := D.nx } σ2 H2) (hd : ∀ σ H, Pv xs.length σ H -> D.nx σ H) :
    ∃ W : Nat -> Nat -> L2.St -> Hp -> Prop, (∃ m, W 0 m σ H) /\ ∀ i m σ H, W i m σ H ->
      ((IteT K a).stop i H /\ D.nx σ H) \/ ((IteT K a).go i H /\ ∃ N : L2.St -> Hp -> Prop, (∀ σ' H', N σ' H' -> ∃ m', m' < m /\ W (i + 1) m' σ' H') /\ ∀ x H', (IteT K a).yld i H x H' -> g x σ H' fun σ2 H2 => tb { D with nx := N, ct := N, bk := D.nx } σ2 H2) := by
  refine ⟨fun i m σ H => m = xs.length - i /\ i <= xs.length /\ Pv i σ H, ⟨xs.length, by simp, Nat.zero_le _, h0⟩, ?_⟩
  rintro i m σ H ⟨rfl, hi, p⟩
  have q := hl i σ H hi p
  by_cases hlt : i < xs.length
  . refine .inr ⟨⟨xs, xs[i], q, by simp [hlt]⟩, Pv (i + 1), fun σ' H' p' => ⟨xs.length - (i + 1), by omega, rfl, hlt, p'⟩, fun v H' y => ?_⟩
    obtain ⟨T, x, rfl, hT, rfl, y⟩ := y
    exact hs i x σ H T (y xs q) p hT
  . have e : i = xs.length := by omega
    subst e
    exact .inl ⟨⟨xs, q, rfl⟩, hd σ H p⟩
structure ZA (z p g u v l t : Addr) : Prop where
  pz : p ≠ z
  gz : g ≠ z
  uz : u ≠ z
  vz : v ≠ z
  pg : p ≠ g
  pu : p ≠ u
  pv : p ≠ v
  gu : g ≠ u
  gv : g ≠ v
  uv : u ≠ v
  lz : l ≠ z
  lg : l ≠ g
  lu : l ≠ u
  lv : l ≠ v
  tz : t ≠ z
  tg : t ≠ g
  tu : t ≠ u
  tv : t ≠ v
theorem za_new {n l t : Addr} (hl : l < n) (ht : t < n) : ZA (n + 4) (n + 2) (n + 3) n (n + 1) l t := by
  constructor <;> (simp only [ne_eq]; intro h; simp only [Addr] at *; omega)
section
variable {prog : Program} {w : World} {A : Around} {E : Value -> Shared -> Prop} {st : Shared}
theorem tIsTuple {h : Heap} {t : Addr} {ys : Array Value} {b : Addr} {h' : Heap} (x : h.IsTuple t ys) (k : Heap.ExtBut b h h') (n : t ≠ b) : h'.IsTuple t ys := x.extBut k n
theorem zipT_item {z p g u v l t : Addr} {i : Nat} {xs ys : Array Value} {x y a b : Value} {Q : Value -> Shared -> Prop} (D : ZA z p g u v l t) (hz : IsZip st.heap z p g .none) (hp : IsPair st.heap p (.ref u) (.ref v)) (hg : IsPair st.heap g a b)
    (hu : st.heap.IsListIter u l i) (hv : st.heap.IsTupleIter v t i) (hl : st.heap.IsList l xs) (ht : st.heap.IsTuple t ys) (hx : xs[i]? = some x) (hy : ys[i]? = some y)
    (k : ∀ h', IsZip h' z p g (rawInt st.heap.objs.size) -> IsPair h' g x y -> h'.IsListIter u l (i + 1) -> h'.IsTupleIter v t (i + 1) -> IsPair h' st.heap.objs.size x y ->
      (∀ c o, c ≠ z -> c ≠ g -> c ≠ u -> c ≠ v -> st.heap.get? c = some o -> h'.get? c = some o) -> Q (.ref st.heap.objs.size) { st with heap := h' }) :
    wpAny (model prog w) A (Builtin.«zip.__next__» ⟨[.ref z], []⟩) (fun fin s' => ∃ r, fin = .done (.ret r) /\ Q r s') E st := by
  show wpAny _ _ (field (.ref z) 2 >>= _) _ _ st; refine wpAny_bind (wpAny_field hz rfl (x := .bool false) rfl ?_)
  show wpAny _ _ (field (.ref z) 3 >>= _) _ _ st; refine wpAny_bind (wpAny_field hz rfl (x := .ref p) rfl (wpAny_bind (wpAny_seqItems hp rfl ?_)))
  show wpAny _ _ (Builtin.SmallTypes.ownedTupleIsFree (.ref z) >>= _) _ _ st; refine wpAny_bind ?_
  unfold Builtin.SmallTypes.ownedTupleIsFree; refine wpAny_bind (wpAny_field hz rfl (x := .none) rfl (wpAny_pure ?_))
  simp only [if_true]; refine wpAny_bind (wpAny_rule (wpAny_bind (wpAny_field hz rfl (x := .ref g) rfl ?_)))
  refine wpAny_bind (wpAny_setField_rec hz (by simp) fun h1 z1 b1 => ?_)
  replace z1 : IsZip h1 z p g .ellipsis := z1
  refine wpAny_bind ?_; simp only [List.zipIdx_cons, List.zipIdx_nil, List.forIn_cons, List.forIn_nil]
  refine wpAny_bind (wpAny_bind (wpAny_onRaise ?_)); show wpAny _ _ (Builtin.SmallTypes.nextOf (.ref u) >>= _) _ _ _
  refine wpAny_bind (wpAny_nextOf_list_item (hu.extBut b1.extBut D.uz) (hl.extBut b1.extBut D.lz) hx fun h2 u2 b2 => wpAny_pure ?_)
  have g2 : IsPair h2 g a b := b2.extBut _ _ D.gu (b1.extBut _ _ D.gz hg)
  refine wpAny_bind (wpAny_seqItems g2 rfl (wpAny_bind (wpAny_updateSeq_pair g2 fun h3 g3 b3 => ?_)))
  replace g3 : IsPair h3 g x b := g3
  refine wpAny_bind (wpAny_letGo (wpAny_pure (wpAny_bind (wpAny_bind (wpAny_onRaise ?_)))))
  show wpAny _ _ (Builtin.SmallTypes.nextOf (.ref v) >>= _) _ _ _
  refine wpAny_bind (nextT_item (((hv.extBut b1.extBut D.vz).extBut b2.extBut D.uv.symm).extBut b3.extBut D.gv.symm) (tIsTuple (tIsTuple (tIsTuple ht b1.extBut D.tz) b2.extBut D.tu) b3.extBut D.tg) hy fun h4 v4 b4 => wpAny_pure ?_)
  have g4 : IsPair h4 g x b := b4.extBut _ _ D.gv g3
  refine wpAny_bind (wpAny_seqItems g4 rfl (wpAny_bind (wpAny_updateSeq_pair g4 fun h5 g5 b5 => ?_)))
  replace g5 : IsPair h5 g x y := g5
  refine wpAny_bind (wpAny_letGo (wpAny_pure (wpAny_pure (wpAny_bind (wpAny_seqItems g5 rfl (wpAny_bind (wpAny_newTuple ?_)))))))
  have sz : h5.objs.size = st.heap.objs.size := by rw [b5.1, b4.1, b3.1, b2.1, b1.1]
  have z5 : IsZip h5 z p g .ellipsis := b5.extBut _ _ D.gz.symm (b4.extBut _ _ D.vz.symm (b3.extBut _ _ D.gz.symm (b2.extBut _ _ D.uz.symm z1)))
  have k5 : ∀ c o, c ≠ z -> c ≠ g -> c ≠ u -> c ≠ v -> st.heap.get? c = some o -> h5.get? c = some o := fun c o c1 c2 c3 c4 e => b5.extBut _ _ c2 (b4.extBut _ _ c4 (b3.extBut _ _ c2 (b2.extBut _ _ c3 (b1.extBut _ _ c1 e))))
  have u5 : h5.IsListIter u l (i + 1) := ((u2.extBut b3.extBut D.gu.symm).extBut b4.extBut D.uv).extBut b5.extBut D.gu.symm
  have v5 : h5.IsTupleIter v t (i + 1) := v4.extBut b5.extBut D.gv.symm
  have zlt : z < h5.objs.size := Heap.lt_size z5
  show wpAny _ _ (Builtin.SmallTypes.ownedTupleHandOut (.ref z) (.ref h5.objs.size) >>= _) _ _ _; refine wpAny_bind ?_
  unfold Builtin.SmallTypes.ownedTupleHandOut
  have z6 : IsZip (h5.push { cls := .type "tuple", data := .seq #[x, y] }) z p g .ellipsis := Heap.get?_push_of_some _ z5
  refine wpAny_bind (wpAny_setField_rec z6 (by simp) fun h7 z7 b7 => ?_)
  replace z7 : IsZip h7 z p g (rawInt h5.objs.size) := z7
  refine wpAny_setField_rec z7 (by simp) fun h8 z8 b8 => ?_
  replace z8 : IsZip h8 z p g (rawInt h5.objs.size) := z8
  have up : ∀ c o, c ≠ z -> h5.get? c = some o -> h8.get? c = some o := fun c o c1 e => b8.extBut _ _ c1 (b7.extBut _ _ c1 (Heap.get?_push_of_some _ e))
  have t8 : IsPair h8 h5.objs.size x y := b8.extBut _ _ (Nat.ne_of_gt zlt) (b7.extBut _ _ (Nat.ne_of_gt zlt) (Heap.get?_push_size _ rfl))
  rw [sz] at z8 t8
  refine wpAny_pure ⟨_, rfl, ?_⟩
  show Q (.ref h5.objs.size) _
  rw [sz]
  exact k h8 z8 (up _ _ D.gz g5) (u5.at fun o e => up _ o D.uz e) (v5.at fun o e => up _ o D.vz e) t8 fun c o c1 c2 c3 c4 e => up c o c1 (k5 c o c1 c2 c3 c4 e)
theorem zipT_end {z p g u v l t : Addr} {i : Nat} {xs ys : Array Value} {a b : Value} {Q : PySem.Fin -> Shared -> Prop} (hh : A.handled = none) (D : ZA z p g u v l t) (hz : IsZip st.heap z p g .none) (hp : IsPair st.heap p (.ref u) (.ref v)) (hg : IsPair st.heap g a b)
    (hu : st.heap.IsListIter u l i) (hv : st.heap.IsTupleIter v t i) (hl : st.heap.IsList l xs) (ht : st.heap.IsTuple t ys) (hend : xs[i]? = none \/ ys[i]? = none)
    (k : ∀ h' e, (∀ c o, c ≠ z -> c ≠ g -> c ≠ u -> c ≠ v -> st.heap.get? c = some o -> h'.get? c = some o) -> (∃ o, h'.get? e = some o /\ o.cls = .type "StopIteration") -> E (.ref e) { st with heap := h' }) :
    wpAny (model prog w) A (Builtin.«zip.__next__» ⟨[.ref z], []⟩) Q E st := by
  show wpAny _ _ (field (.ref z) 2 >>= _) _ _ st; refine wpAny_bind (wpAny_field hz rfl (x := .bool false) rfl ?_)
  show wpAny _ _ (field (.ref z) 3 >>= _) _ _ st; refine wpAny_bind (wpAny_field hz rfl (x := .ref p) rfl (wpAny_bind (wpAny_seqItems hp rfl ?_)))
  show wpAny _ _ (Builtin.SmallTypes.ownedTupleIsFree (.ref z) >>= _) _ _ st; refine wpAny_bind ?_
  unfold Builtin.SmallTypes.ownedTupleIsFree; refine wpAny_bind (wpAny_field hz rfl (x := .none) rfl (wpAny_pure ?_))
  simp only [if_true]; refine wpAny_bind (wpAny_rule (wpAny_bind (wpAny_field hz rfl (x := .ref g) rfl ?_)))
  refine wpAny_bind (wpAny_setField_rec hz (by simp) fun h1 z1 b1 => ?_)
  replace z1 : IsZip h1 z p g .ellipsis := z1
  refine wpAny_bind ?_; simp only [List.zipIdx_cons, List.zipIdx_nil, List.forIn_cons, List.forIn_nil]
  refine wpAny_bind (wpAny_bind (wpAny_onRaise ?_)); show wpAny _ _ (Builtin.SmallTypes.nextOf (.ref u) >>= _) _ _ _
  have stop : ∀ {h4 h5 : Heap} {e : Addr} {oe : Obj}, h4.get? e = some oe -> oe.cls = .type "StopIteration" -> IsZip h4 z p g .ellipsis -> Heap.SameBut z h4 h5 -> ∃ o, h5.get? e = some o /\ o.cls = .type "StopIteration" := fun {h4 h5 e oe} ge ce z4 b5 => by
    have ne : e ≠ z := fun q => by rw [q] at ge; rw [show h4.get? z = _ from z4] at ge; cases ge; simp at ce
    exact ⟨oe, b5.extBut _ _ ne ge, ce⟩
  cases hx : xs[i]? with
  | none =>
    refine wpAny_bind (wpAny_nextOf_list_end hh (hu.extBut b1.extBut D.uz) (hl.extBut b1.extBut D.lz) hx fun h2 e b2 he => ?_)
    obtain ⟨oe, ge, ce⟩ := he
    have z2 : IsZip h2 z p g .ellipsis := b2 _ _ D.uz.symm z1
    exact wpAny_setField_rec z2 (by simp) fun h3 _ b3 => k h3 e (fun c o c1 _ c3 _ q => b3.extBut _ _ c1 (b2 _ _ c3 (b1.extBut _ _ c1 q))) (stop ge ce z2 b3)
  | some x =>
    have hy : ys[i]? = none := by rcases hend with q | q; rw [hx] at q; cases q; exact q
    refine wpAny_bind (wpAny_nextOf_list_item (hu.extBut b1.extBut D.uz) (hl.extBut b1.extBut D.lz) hx fun h2 u2 b2 => wpAny_pure ?_)
    have g2 : IsPair h2 g a b := b2.extBut _ _ D.gu (b1.extBut _ _ D.gz hg)
    refine wpAny_bind (wpAny_seqItems g2 rfl (wpAny_bind (wpAny_updateSeq_pair g2 fun h3 g3 b3 => ?_)))
    refine wpAny_bind (wpAny_letGo (wpAny_pure (wpAny_bind (wpAny_bind (wpAny_onRaise ?_)))))
    show wpAny _ _ (Builtin.SmallTypes.nextOf (.ref v) >>= _) _ _ _
    refine wpAny_bind (nextT_end hh (((hv.extBut b1.extBut D.vz).extBut b2.extBut D.uv.symm).extBut b3.extBut D.gv.symm) (tIsTuple (tIsTuple (tIsTuple ht b1.extBut D.tz) b2.extBut D.tu) b3.extBut D.tg) hy fun h4 e b4 he => ?_)
    obtain ⟨oe, ge, ce⟩ := he
    have z4 : IsZip h4 z p g .ellipsis := b4 _ _ D.vz.symm (b3.extBut _ _ D.gz.symm (b2.extBut _ _ D.uz.symm z1))
    exact wpAny_setField_rec z4 (by simp) fun h5 _ b5 => k h5 e (fun c o c1 c2 c3 c4 q => b5.extBut _ _ c1 (b4 _ _ c4 (b3.extBut _ _ c2 (b2.extBut _ _ c3 (b1.extBut _ _ c1 q))))) (stop ge ce z4 b5)
theorem zipT_next {z p g u v l t : Addr} {i : Nat} {xs ys : Array Value} {x y a b : Value} {Q : Option Value -> Shared -> Prop} (D : ZA z p g u v l t) (hz : IsZip st.heap z p g .none) (hp : IsPair st.heap p (.ref u) (.ref v)) (hg : IsPair st.heap g a b)
    (hu : st.heap.IsListIter u l i) (hv : st.heap.IsTupleIter v t i) (hl : st.heap.IsList l xs) (ht : st.heap.IsTuple t ys) (hx : xs[i]? = some x) (hy : ys[i]? = some y)
    (k : ∀ h', IsZip h' z p g (rawInt st.heap.objs.size) -> IsPair h' g x y -> h'.IsListIter u l (i + 1) -> h'.IsTupleIter v t (i + 1) -> IsPair h' st.heap.objs.size x y ->
      (∀ c o, c ≠ z -> c ≠ g -> c ≠ u -> c ≠ v -> st.heap.get? c = some o -> h'.get? c = some o) -> Q (some (.ref st.heap.objs.size)) { st with heap := h' }) : wpAny (model prog w) A (pyNext (.ref z)) Q E st := by
  have hT : st.TypeIs (.ref z) "zip" := ⟨_, hz, rfl⟩
  unfold pyNext; exact wpAny_bind (wpAny_attempt (wpAny_callSpecial?_slot (name := Str.ofString "__next__") hT F.slot_zip_next (wpAny_call_entry F.slot_zip_next hT F.entry_zip_next (zipT_item D hz hp hg hu hv hl ht hx hy fun h' a1 a2 a3 a4 a5 a6 => wpAny_pure (k h' a1 a2 a3 a4 a5 a6)) (F.args_zip_next_1 _))))
theorem zipT_stop {z p g u v l t : Addr} {i : Nat} {xs ys : Array Value} {a b : Value} {Q : Option Value -> Shared -> Prop} (hh : A.handled = none) (D : ZA z p g u v l t) (hz : IsZip st.heap z p g .none) (hp : IsPair st.heap p (.ref u) (.ref v)) (hg : IsPair st.heap g a b)
    (hu : st.heap.IsListIter u l i) (hv : st.heap.IsTupleIter v t i) (hl : st.heap.IsList l xs) (ht : st.heap.IsTuple t ys) (hend : xs[i]? = none \/ ys[i]? = none)
    (k : ∀ h', (∀ c o, c ≠ z -> c ≠ g -> c ≠ u -> c ≠ v -> st.heap.get? c = some o -> h'.get? c = some o) -> Q none { st with heap := h' }) : wpAny (model prog w) A (pyNext (.ref z)) Q E st := by
  have hT : st.TypeIs (.ref z) "zip" := ⟨_, hz, rfl⟩
  unfold pyNext; refine wpAny_bind (wpAny_attempt (wpAny_callSpecial?_slot (name := Str.ofString "__next__") hT F.slot_zip_next (wpAny_call_entry F.slot_zip_next hT F.entry_zip_next (zipT_end hh D hz hp hg hu hv hl ht hend fun h' e hk he => ?_) (F.args_zip_next_1 _))))
  obtain ⟨o, ho, hc⟩ := he
  exact wpAny_bind (wpAny_isInstance (T := "StopIteration") (b := true) ⟨o, ho, hc⟩ isSubtype_stop (wpAny_pure (k _ hk)))
end
abbrev zt1 (h : Heap) (l : Addr) : Heap := h.push { cls := .type "list_iterator", data := .fields #[.ref l, .int 0 0] }
abbrev zt2 (h : Heap) (l t : Addr) : Heap := (zt1 h l).push { cls := .type "tuple_iterator", data := .fields #[.ref t, .int 0 0] }
abbrev zt3 (h : Heap) (l t : Addr) : Heap := (zt2 h l t).push { cls := .type "tuple", data := .seq #[.ref h.objs.size, .ref (zt1 h l).objs.size] }
abbrev zt4 (h : Heap) (l t : Addr) : Heap := (zt3 h l t).push { cls := .type "tuple", data := .seq #[.none, .none] }
abbrev zt5 (h : Heap) (l t : Addr) : Heap := (zt4 h l t).push { cls := .type "zip", data := .fields #[.none, .bool false, .bool false, .ref (zt2 h l t).objs.size, .ref (zt3 h l t).objs.size] }
theorem meets_zipT (l t : Addr) (xs ys : Array Value) : Meets (Builtin.«zip.__new__» ⟨[.type "zip", .ref l, .ref t], []⟩) (fun _ R s => s.heap.IsList l xs /\ s.heap.IsTuple t ys /\ R (.ok (.ret (.ref (zt4 s.heap l t).objs.size))) { s with heap := zt5 s.heap l t }) :=
  .of_wp fun prog w A R s h => by
    obtain ⟨hp, g, d, tk, os⟩ := s; obtain ⟨hl, ht, h⟩ := h
    have hsub := sub_zip
    have gl : Heap.IsList (Shared.heap ⟨hp, g, d, tk, os⟩) l xs := hl
    have gt : Heap.IsTuple (Shared.heap ⟨hp.push { cls := .type "list_iterator", data := .fields #[.ref l, .int 0 0] }, g, d, tk, os⟩) t ys := Heap.IsTuple.push ht _
    wp_walk using wpAny_pyIter_list gl, wpAny_pyIter_tuple gt
    exact ⟨_, rfl, h⟩
section
variable {prog : Program} {w : World} {A : Around} {E : Value -> Shared -> Prop} {s : Shared}
theorem call_zipT {l t : Addr} {xs ys : Array Value} {Q : Value -> Shared -> Prop} (hl : s.heap.IsList l xs) (ht : s.heap.IsTuple t ys)
    (k : ∀ h', IsZip h' (s.heap.objs.size + 4) (s.heap.objs.size + 2) (s.heap.objs.size + 3) .none -> IsPair h' (s.heap.objs.size + 2) (.ref s.heap.objs.size) (.ref (s.heap.objs.size + 1)) ->
      IsPair h' (s.heap.objs.size + 3) .none .none -> h'.IsListIter s.heap.objs.size l 0 -> h'.IsTupleIter (s.heap.objs.size + 1) t 0 -> (∀ c o, s.heap.get? c = some o -> h'.get? c = some o) -> Q (.ref (s.heap.objs.size + 4)) { s with heap := h' }) :
    wpAny (model prog w) A (call (.type "zip") [.ref l, .ref t]) Q E s := by
  refine callType_new F.called_zip (by decide) (F.typeCall_zip_2 _ _) (F.newCall_zip_2 _ _) (fun obj => F.args_object_init_3 obj _ _) F.entry_zip_new (meets_zipT l t xs ys) ⟨hl, ht, ?_⟩
  have z1 : (zt1 s.heap l).objs.size = s.heap.objs.size + 1 := Heap.size_push ..
  have z2 : (zt2 s.heap l t).objs.size = s.heap.objs.size + 2 := by rw [Heap.size_push, z1]
  have z3 : (zt3 s.heap l t).objs.size = s.heap.objs.size + 3 := by rw [Heap.size_push, z2]
  have z4 : (zt4 s.heap l t).objs.size = s.heap.objs.size + 4 := by rw [Heap.size_push, z3]
  have g5 : (zt5 s.heap l t).get? (zt4 s.heap l t).objs.size = some _ := Heap.get?_push_size _ rfl
  have g4 : (zt5 s.heap l t).get? (zt3 s.heap l t).objs.size = some _ := Heap.get?_push_of_some _ (Heap.get?_push_size _ rfl)
  have g3 : (zt5 s.heap l t).get? (zt2 s.heap l t).objs.size = some _ := Heap.get?_push_of_some _ (Heap.get?_push_of_some _ (Heap.get?_push_size _ rfl))
  have g2 : (zt5 s.heap l t).get? (zt1 s.heap l).objs.size = some _ := Heap.get?_push_of_some _ (Heap.get?_push_of_some _ (Heap.get?_push_of_some _ (Heap.get?_push_size _ rfl)))
  have g1 : (zt5 s.heap l t).get? s.heap.objs.size = some _ := Heap.get?_push_of_some _ (Heap.get?_push_of_some _ (Heap.get?_push_of_some _ (Heap.get?_push_of_some _ (Heap.get?_push_size _ rfl))))
  show _ /\ _
  rw [z2, z3, z4] at g5; rw [z1, z2] at g3; rw [z3] at g4; rw [z1] at g2; rw [z4]
  exact ⟨⟨_, g5, rfl⟩, k _ g5 g3 g4 ⟨_, g1, rfl, rfl⟩ ⟨_, g2, rfl, rfl⟩ fun c o x => Heap.get?_push_of_some _ (Heap.get?_push_of_some _ (Heap.get?_push_of_some _ (Heap.get?_push_of_some _ (Heap.get?_push_of_some _ x))))⟩
end
def ItzT (K : PySem.W.Frag) (a b : Addr) : It :=
  ⟨fun i H => ∃ (xs ys : List V) (x y : V), SqL K H a xs /\ SqT K H b ys /\ xs[i]? = some x /\ ys[i]? = some y,
    fun i H v H' => ∃ T x y, v = .ref T /\ H T = none /\ H' = upd H T (.tup [x, y]) /\ (∀ xs, SqL K H a xs -> xs[i]? = some x) /\ ∀ ys, SqT K H b ys -> ys[i]? = some y,
    fun i H => ∃ xs ys : List V, SqL K H a xs /\ SqT K H b ys /\ (xs.length <= i \/ ys.length <= i)⟩
theorem turn_zipT {P : Program} {w : World} {K : PySem.W.Frag} {elts : List Expr} {kk : Nat} {tpos : Pos} {a b z p g u v : Addr} (D : ZA z p g u v a b) :
    Turn P w K (.Tuple elts kk tpos) (ItzT K a b) [z, p, g, u, v] z (fun i h => IsZip h z p g .none /\ IsPair h p (.ref u) (.ref v) /\ (∃ x y, IsPair h g x y) /\ h.IsListIter u a i /\ h.IsTupleIter v b i) where
  mem := by simp
  obj := fun i h y c hc => by
    obtain ⟨hz, hp, ⟨x1, x2, hg⟩, ⟨o1, e1, _, d1⟩, ⟨o2, e2, _, d2⟩⟩ := y
    have e' : c = z \/ c = p \/ c = g \/ c = u \/ c = v := by simpa using hc
    rcases e' with q | q | q | q | q <;> rw [q]
    . exact ⟨_, hz, fun v q => nomatch q⟩
    . exact ⟨_, hp, fun v q => nomatch q⟩
    . exact ⟨_, hg, fun v q => nomatch q⟩
    . exact ⟨o1, e1, fun v q => by rw [d1] at q; cases q⟩
    . exact ⟨o2, e2, fun v q => by rw [d2] at q; cases q⟩
  keep := fun i h h' y k => by
    obtain ⟨hz, hp, ⟨x1, x2, hg⟩, h1, h2⟩ := y
    exact ⟨k z (by simp) _ hz, k p (by simp) _ hp, ⟨x1, x2, k g (by simp) _ hg⟩, h1.at fun o q => k u (by simp) o q, h2.at fun o q => k v (by simp) o q⟩
  item := by
    intro X hP hw hK hc i pins s σ H E I hf y hgo
    subst hP hw hK
    obtain ⟨hz, hp, ⟨x0, y0, hg⟩, h1, h2⟩ := y
    obtain ⟨xs, ys, x, y, hqx, hqy, hx, hy⟩ := hgo
    obtain ⟨its, rv, pl, _⟩ := I.list hqx
    obtain ⟨its2, rv2, pt, _⟩ := I.tuple hqy
    obtain ⟨m, hm, rm⟩ := rv.get hx
    obtain ⟨m2, hm2, rm2⟩ := rv2.get hy
    have hzl : z < s.heap.objs.size := Heap.lt_size hz
    refine zipT_next D hz hp hg h1 h2 pl.isList (show s.heap.IsTuple b its2.toArray from pt) (x := m) (y := m2) (by simpa using hm) (by simpa using hm2) fun h' z' g' h1' h2' hT hk => ?_
    refine ⟨_, rfl, wpAny_letOwnedTupleGo_zip (s := { s with heap := h' }) z' fun h'' z'' sb => ?_⟩
    have hT2 : h''.get? s.heap.objs.size = some { cls := .type "tuple", data := .seq #[m, m2] } := (sb.2 _ (Nat.ne_of_gt hzl)).trans hT
    have new : ObjOk X.prog X.w (upd H s.heap.objs.size (.tup [x, y])) h'' s.heap.objs.size (.tup [x, y]) := ⟨by show 2 <= sizeLine; decide, [m, m2], .cons rm (.cons rm2 .nil), ⟨_, hT2, rfl, _, rfl⟩⟩
    have I1 : Inv X pins σ (upd H s.heap.objs.size (.tup [x, y])) { s with heap := h'' } :=
      I.turnedNew (t' := s.toks) (ch := [z, p, g, u, v]) (fun c o hb q => (sb.2 c (fun q' => hb (by simp [q']))).trans (hk c o (fun q' => hb (by simp [q'])) (fun q' => hb (by simp [q'])) (fun q' => hb (by simp [q'])) (fun q' => hb (by simp [q'])) q)) hf (Nat.le_refl _) new
    refine ⟨.ref s.heap.objs.size, _, I1, rfl, ⟨_, x, y, rfl, I.hok.fresh (Nat.le_refl _), rfl, fun l hl => by rw [I.list_inj hl hqx]; exact hx, fun l hl => by rw [I.tuple_inj hl hqy]; exact hy⟩, ⟨z'', ?_, ⟨m, m2, ?_⟩, ?_, ?_⟩, fun c hcm => ?_⟩
    . exact (sb.2 _ D.pz).trans (hk _ _ D.pz D.pg D.pu D.pv hp)
    . exact (sb.2 _ D.gz).trans g'
    . exact h1'.at fun o q => (sb.2 _ D.uz).trans q
    . exact h2'.at fun o q => (sb.2 _ D.vz).trans q
    . have hlt : c < s.heap.objs.size := by
        have e' : c = z \/ c = p \/ c = g \/ c = u \/ c = v := by simpa using hcm
        rcases e' with q | q | q | q | q <;> rw [q]
        . exact hzl
        . exact Heap.lt_size hp
        . exact Heap.lt_size hg
        . obtain ⟨_, e1, _⟩ := h1; exact Heap.lt_size e1
        . obtain ⟨_, e2, _⟩ := h2; exact Heap.lt_size e2
      rw [upd_ne (Nat.ne_of_lt hlt)]
      exact (hf c hcm).1
  done := by
    intro X hP hw hK hc i pins s σ H E I hf y hgo
    subst hP hw hK
    obtain ⟨hz, hp, ⟨x0, y0, hg⟩, h1, h2⟩ := y
    obtain ⟨xs, ys, hqx, hqy, hend⟩ := hgo
    obtain ⟨its, rv, pl, _⟩ := I.list hqx
    obtain ⟨its2, rv2, pt, _⟩ := I.tuple hqy
    have l1 := rv.length
    have l2 := rv2.length
    have he : its.toArray[i]? = none \/ its2.toArray[i]? = none := by
      rcases hend with q | q
      . exact .inl (by simp; omega)
      . exact .inr (by simp; omega)
    exact zipT_stop (I.ok.hd hc) D hz hp hg h1 h2 pl.isList (show s.heap.IsTuple b its2.toArray from pt) he fun h' hk => ⟨rfl, I.turnedL (t' := s.toks) (ch := [z, p, g, u, v]) (fun c o hb q =>
      hk c o (fun q' => hb (by simp [q'])) (fun q' => hb (by simp [q'])) (fun q' => hb (by simp [q'])) (fun q' => hb (by simp [q'])) q) hf⟩
  self := fun A i s Q E y h => wpAny_pyIter_zip y.1 h
def iZipT (K : PySem.W.Frag) (ta : TA) : TI := fun σ H R => ta σ H fun vs H1 => ∃ a b xs ys, vs = [.ref a, .ref b] /\ SqL K H1 a xs /\ SqT K H1 b ys /\ R (ItzT K a b) H1
theorem pi_zipT {X : Cx} {e e2 : Expr} {ta : TA} {p pos tpos : Pos} {elts : List Expr} {kk : Nat} (hg : Gl X "zip") (hm : X.mg "zip" = none) (ha : PA X [e, e2] ta)
    (hs : starEach [e, e2] X.env = (false, eval e X.env) :: starEach [e2] X.env := by rfl) (hpl : (backTo pos (starEach [e2] X.env)).any (·.1) = false := by rfl) :
    PI X (.Tuple elts kk tpos) (.Call (.Name "zip" p) [e, e2] [] pos) (iZipT X.K ta) := by
  intro pins s σ H R I h
  refine Call_ (ld_blt I hg hm boot_zip5 (PyProof.Rows.callWith_type1 (thn (ha pos pins s σ H _ I h) fun us s1 ⟨vs, H1, I1, r1, q1⟩ => ?_) hs hpl))
  obtain ⟨a, b, xs, ys, ex, hqx, hqy, q⟩ := q1
  subst ex
  cases r1 with
  | cons r rr =>
    obtain ⟨m, rfl, r'⟩ := vals1 rr
    cases r
    cases r'
    obtain ⟨its, rv, p1, _⟩ := I1.list hqx
    obtain ⟨its2, rv2, p2, _⟩ := I1.tuple hqy
    have la : a < s1.heap.objs.size := p1.lt
    have lb : b < s1.heap.objs.size := p2.lt
    refine call_zipT p1.isList (show s1.heap.IsTuple b its2.toArray from p2) fun h' hz hTI hTO h1 h2 hk => wpAny_pyIter_zip hz ?_
    have I2 : Inv X pins σ H1 { s1 with heap := h' } := I1.kept (t' := s1.toks) hk
    refine ⟨s1.heap.objs.size + 4, [s1.heap.objs.size + 4, s1.heap.objs.size + 2, s1.heap.objs.size + 3, s1.heap.objs.size, s1.heap.objs.size + 1], _, _, H1, rfl, I2, turn_zipT (za_new la lb), ⟨hz, hTI, ⟨_, _, hTO⟩, h1, h2⟩, fun c hcm => ?_, q⟩
    have e' : c = s1.heap.objs.size + 4 \/ c = s1.heap.objs.size + 2 \/ c = s1.heap.objs.size + 3 \/ c = s1.heap.objs.size \/ c = s1.heap.objs.size + 1 := by simpa using hcm
    have hle : s1.heap.objs.size <= c := by rcases e' with y | y | y | y | y <;> rw [y] <;> omega
    exact I1.fpOk hle (I1.hok.fresh hle)
def Best (ns : List Int) (j : Nat) (bs : Array Value) : Prop := (j = 0 /\ bs = #[]) \/ (0 < j /\ ∃ m t, bs = #[.int m t, .int m t] /\ m ∈ ns.take j /\ ∀ y ∈ ns.take j, y <= m)
def MaxIs (ns : List Int) (d v : Value) : Prop := (ns = [] /\ v = d) \/ ∃ m t, v = .int m t /\ m ∈ ns /\ ∀ y ∈ ns, y <= m
theorem ints_at {its : List Value} {ns : List Int} (hi : IntsAre its ns) : ∀ {j : Nat} {v : Value}, its[j]? = some v -> ∃ n t, v = .int n t /\ ns[j]? = some n := by
  induction hi with
  | nil => intro j v h; simp at h
  | cons n t r ih =>
    intro j v h
    cases j with
    | zero => exact ⟨n, t, by simpa using h.symm, rfl⟩
    | succ j => exact ih (by simpa using h)
theorem take_more {ns : List Int} {j : Nat} {n : Int} (h : ns[j]? = some n) : ns.take (j + 1) = ns.take j ++ [n] := by
  obtain ⟨h1, h2⟩ := List.getElem?_eq_some_iff.mp h
  rw [List.take_succ_eq_append_getElem h1, h2]
section
variable {prog : Program} {w : World} {A : Around} {R : Result -> Shared -> Prop} {I S : Addr} {fp wr : List Addr} {its : List Value} {ns : List Int} {Sa : Nat -> Heap -> Prop} {d : Value}
theorem maxD_loop (hi : IntsAre its ns) (W : Walks prog w A.in1 I fp wr its.length (fun i v => its[i]? = some v) Sa) (hSf : S ∉ fp) : ∀ (k j : Nat) (s : Shared) (bs : Array Value) (c : Nat), its.length - j = k -> j <= its.length -> Sa j s.heap -> Best ns j bs ->
    s.heap.get? S = some { cls := .type "list", dict := none, data := .seq bs c, slots := #[] } ->
    (∀ v h' tk, MaxIs ns d v -> (∀ b o, b ∉ wr -> b ≠ S -> s.heap.get? b = some o -> h'.get? b = some o) -> R (.ok (.ret v)) { s with heap := h', toks := tk }) ->
    codeAny (model prog w) A (.builtin "max.loop" ⟨[.ref I, .none, .ref S], [("default", d)]⟩) R s := by
  have hSw : S ∉ wr := fun h => hSf (W.sub _ h)
  have nm : (toString "max" ++ toString ".loop" : String) = "max.loop" := by decide
  have ln := hi.length
  intro k
  induction k with
  | zero =>
    intro j s bs c hk hj hst hb hS hR
    have hin : j = its.length := by omega
    refine codeAny_builtin F.entry_max_loop ?_; rw [Around.under_plainId F.plain_max_loop _]
    show wpAny _ A.in1 (seqItems? (.ref S) >>= _) _ _ s; refine wpAny_bind (wpAny_seqItems hS rfl ?_)
    show wpAny _ A.in1 (tryCatch (pyNext (.ref I)) _ >>= _) _ _ s; refine wpAny_bind (wpAny_tryCatch (W.done s _ _ (hin ▸ hst) fun h' tk hk' => ?_))
    rcases hb with ⟨h0, rfl⟩ | ⟨h0, m, t, rfl, h1, h2⟩
    . have e : ns = [] := List.eq_nil_of_length_eq_zero (by omega)
      show wpAny _ A.in1 (rule _ >>= _) _ _ _
      exact wpAny_bind (wpAny_rule (wpAny_pure (hR d _ tk (.inl ⟨e, rfl⟩) fun b o hbw hbS g => hk' b o hbw g)))
    . have gS := hk' S _ hSw hS
      have tk' : ns.take j = ns := List.take_of_length_le (by omega)
      rw [tk'] at h1 h2
      show wpAny _ A.in1 (updateSeq S (fun _ => #[]) >>= _) _ _ _; refine wpAny_bind (wpAny_updateSeq gS rfl (wpAny_bind (wpAny_letGo (wpAny_pure ?_))))
      exact hR _ _ tk (.inr ⟨m, t, rfl, h1, h2⟩) fun b o hbw hbS g => (Heap.get?_update_other _ _ (Ne.symm hbS)).trans (hk' b o hbw g)
  | succ k ih =>
    intro j s bs c hk hj hst hb hS hR
    have hlt : j < its.length := by omega
    refine codeAny_builtin F.entry_max_loop ?_; rw [Around.under_plainId F.plain_max_loop _]
    show wpAny _ A.in1 (seqItems? (.ref S) >>= _) _ _ s; refine wpAny_bind (wpAny_seqItems hS rfl ?_)
    show wpAny _ A.in1 (tryCatch (pyNext (.ref I)) _ >>= _) _ _ s; refine wpAny_bind (wpAny_tryCatch (W.item j s _ _ hlt hst fun v h' tk hP hst' hk' => ?_))
    have gS := hk' S _ hSw hS
    obtain ⟨n, t, rfl, hn⟩ := ints_at hi hP
    have fr : ∀ {h1 : Heap}, (∀ b o, b ≠ S -> h'.get? b = some o -> h1.get? b = some o) -> Sa (j + 1) h1 := fun {h1} q => W.frame _ _ _ hst' fun b hbf o g => q b o (fun z => hSf (z ▸ hbf)) g
    rcases hb with ⟨h0, rfl⟩ | ⟨h0, m, t0, rfl, h1, h2⟩
    . show wpAny _ A.in1 (updateSeq S (fun _ => #[.int n t, .int n t]) >>= _) _ _ _
      refine wpAny_bind (wpAny_updateSeq gS rfl ?_)
      rw [nm]
      refine wpAny_pure ⟨plainId_quiet F.plain_max_loop _, ih (j + 1) _ _ _ (by omega) hlt (fr fun b o hbS g => (Heap.get?_update_other _ _ (Ne.symm hbS)).trans g) ?_ (Heap.get?_update_self _ gS rfl) fun v' h'' tk'' hP' hk'' => ?_⟩
      . refine .inr ⟨Nat.succ_pos _, n, t, rfl, ?_, ?_⟩
        . rw [take_more hn]; simp
        . rw [take_more hn, h0]; intro y hy; simp at hy; omega
      . exact hR v' h'' tk'' hP' fun b o hbw hbS g => hk'' b o hbw hbS ((Heap.get?_update_other _ _ (Ne.symm hbS)).trans (hk' b o hbw g))
    . show wpAny _ A.in1 (tryCatch (holding [.int n t, .int n t] (richCompare .Gt (.int n t) (.int m t0) >>= _)) _ >>= _) _ _ _
      refine wpAny_bind (wpAny_tryCatch (wpAny_holding (wpAny_bind (richCompare_gives (op := .Gt) (typeIs_int _ _ t) (typeIs_int _ _ t0) F.slot_int_gt F.entry_int_gt (F.args_int_gt_2 _ _) (gives_int_gt _ _ t t0) (fun x => nomatch x) ?_))))
      refine wpAny_bind (wpAny_holding (wpAny_truthy_bool (wpAny_bind (wpAny_letGo (wpAny_pure ?_)))))
      by_cases q : n > m
      . rw [decide_eq_true q]; simp only [if_true]
        refine wpAny_bind (wpAny_updateSeq gS rfl (wpAny_bind (wpAny_letGo ?_)))
        rw [nm]
        refine wpAny_pure ⟨plainId_quiet F.plain_max_loop _, ih (j + 1) _ _ _ (by omega) hlt (fr fun b o hbS g => (Heap.get?_update_other _ _ (Ne.symm hbS)).trans g) ?_ (Heap.get?_update_self _ gS rfl) fun v' h'' tk'' hP' hk'' => ?_⟩
        . refine .inr ⟨Nat.succ_pos _, n, t, rfl, ?_, ?_⟩
          . rw [take_more hn]; simp
          . rw [take_more hn]
            intro y hy
            rcases List.mem_append.mp hy with z | z
            . have := h2 y z; omega
            . simp at z; omega
        . exact hR v' h'' tk'' hP' fun b o hbw hbS g => hk'' b o hbw hbS ((Heap.get?_update_other _ _ (Ne.symm hbS)).trans (hk' b o hbw g))
      . rw [decide_eq_false q]; simp only [Bool.false_eq_true, if_false]
        refine wpAny_bind (wpAny_letGo ?_)
        rw [nm]
        refine wpAny_pure ⟨plainId_quiet F.plain_max_loop _, ih (j + 1) _ _ _ (by omega) hlt hst' ?_ gS fun v' h'' tk'' hP' hk'' => ?_⟩
        . refine .inr ⟨Nat.succ_pos _, m, t0, rfl, ?_, ?_⟩
          . rw [take_more hn]; exact List.mem_append_left _ h1
          . rw [take_more hn]
            intro y hy
            rcases List.mem_append.mp hy with z | z
            . exact h2 y z
            . simp at z; omega
        . exact hR v' h'' tk'' hP' fun b o hbw hbS g => hk'' b o hbw hbS (hk' b o hbw g)
end
theorem args_maxD (a d : Value) : argsOk "max" ⟨[a], [(Str.ofString "default", d)]⟩ := by unfold argsOk; kernel_rfl
section
variable {prog : Program} {w : World} {A : Around} {E : Value -> Shared -> Prop} {s : Shared} {l : Addr} {its : List Value} {ns : List Int} {d : Value} {Q : Value -> Shared -> Prop}
theorem call_maxD (hh : A.handled = none) (hl : s.heap.IsList l its.toArray) (hi : IntsAre its ns) (k : ∀ v h' tk, MaxIs ns d v -> (∀ b o, s.heap.get? b = some o -> h'.get? b = some o) -> Q v { s with heap := h', toks := tk }) :
    wpAny (model prog w) A (call (.builtin "max") [.ref l] [(Str.ofString "default", d)]) Q E s := by
  have nm : (toString "max" ++ toString ".loop" : String) = "max.loop" := by decide
  have hlt : l < s.heap.objs.size := by obtain ⟨_, e, _⟩ := hl; exact Heap.lt_size e
  refine wpAny_call (codeAny_call_builtin F.plain_max F.entry_max ?_)
  simp only [checkBuiltinCall, F.kind_max]
  have ha := args_maxD (.ref l) d
  have fin : wpAny (model prog w) A.in1 (Builtin.«max» ⟨[.ref l], [(Str.ofString "default", d)]⟩) (fun f s' => match f with
      | .done g => (match (Except.ok g : Result) with | .ok (.ret v) => Q v s' | .ok _ => False | .error e => E e s')
      | .again c' => c'.quiet = true /\ codeAny (model prog w) A c' (fun r s' => match r with | .ok (.ret v) => Q v s' | .ok _ => False | .error e => E e s') s') E s := by
    show wpAny _ A.in1 (Builtin.Builtins.bindParams "max" ["key", "default"] 0 ⟨[], [(Str.ofString "default", d)]⟩ >>= _) _ _ s
    refine wpAny_bind (wpAny_of_eq (show Builtin.Builtins.bindParams "max" ["key", "default"] 0 ⟨[], [(Str.ofString "default", d)]⟩ = pure [none, some d] from rfl) (wpAny_bind (wpAny_pure ?_)))
    refine wpAny_bind (wpAny_pyIter_list hl (wpAny_bind (wpAny_newObj_type ?_)))
    rw [nm]
    have hz : (s.heap.push { cls := .type "list_iterator", data := .fields #[.ref l, .int 0 0] }).objs.size = s.heap.objs.size + 1 := Heap.size_push ..
    have W : Walks prog w A.in1 s.heap.objs.size [s.heap.objs.size, l] [s.heap.objs.size] its.length (fun i v => its[i]? = some v) (fun i h => h.IsListIter s.heap.objs.size l i /\ h.IsList l its.toArray) := by
      have W0 := Walks.list (prog := prog) (w := w) (A := A.in1) hh s.heap.objs.size l (Nat.ne_of_lt hlt) its.toArray
      simpa using W0
    refine wpAny_pure ⟨plainId_quiet F.plain_max_loop _, maxD_loop (ns := ns) hi W ?_ _ 0 _ #[] 0 rfl (Nat.zero_le _) ?_ (.inl ⟨rfl, rfl⟩) (Heap.get?_push_size _ rfl) fun v h' tk hv hk => ?_⟩
    . intro z
      rcases List.mem_cons.mp z with z | z
      . rw [hz] at z; exact absurd z (Nat.succ_ne_self _)
      . rw [List.mem_singleton, hz] at z
        rw [<- z] at hlt
        exact absurd hlt (Nat.not_lt.mpr (Nat.le_succ _))
    . exact ⟨⟨_, Heap.get?_push_of_some _ (Heap.get?_push_size _ rfl), rfl, rfl⟩, (hl.push _).push _⟩
    . refine k v h' tk hv fun b o g => hk b o (fun z => ?_) (fun z => ?_) (Heap.get?_push_of_some _ (Heap.get?_push_of_some _ g))
      . have z : b = s.heap.objs.size := by simpa using z
        exact absurd (z ▸ Heap.lt_size g) (Nat.lt_irrefl _)
      . have y := Heap.lt_size g
        rw [z, hz] at y
        exact absurd y (Nat.not_lt.mpr (Nat.le_succ _))
  cases hsig : Manifest.signature? "max" with
  | none => exact wpAny_pure fin
  | some sig =>
    have ha' : Bind.checkArgs "max" sig ⟨[.ref l], [(Str.ofString "default", d)]⟩ = pure () := by simpa only [argsOk, hsig] using ha
    simp only [ha']
    exact wpAny_pure fin
end
def tMaxD (K : PySem.W.Frag) (te tf : TE) : TE := fun σ H Q => te σ H fun x H1 => tf σ H1 fun y H2 => ∃ (a : Addr) (ns : List Int), x = .ref a /\ SqL K H2 a (ns.map V.int) /\ (ns = [] -> Q y H2) /\ ∀ m, m ∈ ns -> (∀ z, z ∈ ns -> z <= m) -> Q (.int m) H2
theorem pe_maxD {X : Cx} {e f : Expr} {te tf : TE} {p pos kp : Pos} (hc : X.calm = true) (hg : Gl X "max") (hm : X.mg "max" = none) (he : PE X e te) (hf : PE X f tf)
    (hs : backTo pos (starEach [e] X.env) = [(false, eval e X.env)] := by rfl) :
    PE X (.Call (.Name "max" p) [e] [⟨some "default", f, kp⟩] pos) (tMaxD X.K te tf) := by
  intro pins s σ H Q I h
  refine wpAny_Call_Name_kw (ld_blt I hg hm (show bootBuiltins "max" = some (.builtin "max") by decide +kernel) ?_ (by decide) (by decide))
  refine callWith_kw ?_ (by rw [hs]; rfl) (by rw [hs]; rfl)
  rw [hs]
  refine Calls.spliced_cons (thn (he pins s σ H _ I h) fun u s1 ⟨x, H1, I1, rx, q1⟩ => Calls.spliced_nil ?_)
  refine kws_cons (thn (hf pins s1 σ H1 _ I1 q1) fun v s2 ⟨y, H2, I2, ry, a, ns, ex, hl, q2, q3⟩ => kws_nil ?_)
  subst ex
  cases rx
  obtain ⟨its, rv, pl, _⟩ := I2.list hl
  show wpAny _ _ (call (.builtin "max") [.ref a] [(Str.ofString "default", v)]) _ _ s2
  refine call_maxD (I2.ok.hd hc) pl.isList rv.ints fun r h' tk hr hk => ?_
  rcases hr with ⟨e, rfl⟩ | ⟨m, t, rfl, h1, h2⟩
  . exact ⟨y, H2, I2.kept hk, ry, q2 e⟩
  . exact ⟨.int m, H2, I2.kept hk, ⟨t, rfl⟩, q3 m h1 h2⟩
theorem lam_run {P : Program} {w : World} {K : PySem.W.Frag} {mg : Str -> Option Value} {base : Heap} {k : Nat} {f c : Addr} {qual : Str} {params : Arguments} {body : Expr} {scope : Scope} {pm ct : Value} {N ps : List Str} {A : Around} {outer : List Env} {s : Shared} {H : Hp} {args : Args} {us : List Value} {vs : List V} {Q : VK} {o : Obj} {t : TE}
    (ho : s.heap.get? f = some o) (hd : o.data = .func (PySem.W.kla_fn "<lambda>" qual params body scope [] pm (.ref c) ct)) (hrec : s.heap.CodeRec (.ref c) qual) (S : FnScope N ps scope) (hr : Room (k + 1) A) (e0 : Env0 P w K mg base A outer s H)
    (hb : bindArgs (PySem.W.kla_fn "<lambda>" qual params body scope [] pm (.ref c) ct) args = pure (ps.zip us)) (r : Vals vs us) (hl : vs.length = ps.length)
    (hbody : PE (cxOf CX0 P w K mg base N qual scope f (.ref c) A outer s H E0) body t) (q : t (start N vs) H Q) : codeAny (model P w) A (.call (.ref f) args) (CR CX0 outer P w H s Q E0) s := by
  have lim : s.heap.NoLimit := e0.mod.nolimit.keeps fun b o e => (e0.bs b o e).1
  have hkind : ∀ y ∈ ps.zip us, scope.names.lookup y.1 = some .local \/ (scope.names.lookup y.1 = some .cell /\ ((cellsFrom (s.heap.objs.size + 1) scope.names []).lookup y.1).isSome = true) := fun ⟨n, v⟩ hy => by
    rcases S.par n (List.of_mem_zip hy).1 with q | q
    . exact .inl q
    . exact .inr ⟨q, PySem.W.cellsFrom_some _ _ _ (.inl q)⟩
  refine PySem.W.kla_callFunE hr.depth ho hd S.co S.gen rfl hrec ?_
  rw [hb]
  refine wpAny_pure (wpAny_newFunctionEnv_cells S.kind hkind fun env he s1 x => ?_)
  subst he
  refine ⟨lim.keeps x.toInCall.keep, PySem.W.kla_codeExpr ?_⟩
  have I : Inv (cxOf CX0 P w K mg base N qual scope f (.ref c) A outer s H E0) [] (start N vs) H s1 := inv_start S hr.hd e0 hl r x
  refine wpAny_mono (hbody [] s1 (start N vs) H _ I q) (fun u s' z => ?_) fun e s' hs => hs
  obtain ⟨v, H', J, rv, y⟩ := z
  exact ⟨v, H', J.os, J.bare, J.base, J.hok, rv, y⟩
abbrev K2 := Int × Int
def le2 (a b : K2) : Prop := a.1 < b.1 \/ (a.1 = b.1 /\ a.2 <= b.2)
def Keys {β : Type} (key : β -> K2) (H : Hp) (ks : List Value) (bs : List β) : Prop := Paired (fun (k : Value) (b : β) => ∃ t, k = .ref t /\ H t = some (.tup [.int (key b).1, .int (key b).2])) ks bs
theorem Keys.len {β : Type} {key : β -> K2} {H : Hp} {ks : List Value} {bs : List β} (h : Keys key H ks bs) : ks.length = bs.length := Paired.length h
theorem paired_snoc {α β : Type} {F : α -> β -> Prop} : ∀ {l : List α} {m : List β} {x : α} {y : β}, Paired F l m -> F x y -> Paired F (l ++ [x]) (m ++ [y])
  | _, _, _, _, .nil, h => .cons h .nil
  | _, _, _, _, .cons r t, h => .cons r (paired_snoc t h)
theorem Keys.grow {β : Type} {key : β -> K2} {H H' : Hp} {ks : List Value} {bs : List β} (h : Keys key H ks bs) (g : ∀ b o, H b = some o -> H' b = some o) : Keys key H' ks bs :=
  Paired.mapP h fun k b ⟨t, e, q⟩ => ⟨t, e, g _ _ q⟩
theorem paired_perm {α β : Type} {F : α -> β -> Prop} : ∀ {l l' : List α}, l'.Perm l -> ∀ {m : List β}, Paired F l m -> ∃ m', m'.Perm m /\ Paired F l' m' := by
  intro l l' p
  induction p with
  | nil => intro m h; cases h; exact ⟨[], .refl _, .nil⟩
  | cons x _ ih =>
    intro m h
    cases h with
    | cons r t =>
      obtain ⟨m', p', h'⟩ := ih t
      exact ⟨_ :: m', p'.cons _, .cons r h'⟩
  | swap x y l =>
    intro m h
    cases h with
    | cons r t =>
      cases t with
      | cons r2 t2 => exact ⟨_ :: _ :: _, .swap _ _ _, .cons r2 (.cons r t2)⟩
  | trans _ _ ih1 ih2 =>
    intro m h
    obtain ⟨m1, p1, h1⟩ := ih2 h
    obtain ⟨m2, p2, h2⟩ := ih1 h1
    exact ⟨m2, p2.trans p1, h2⟩
theorem paired_get {α β : Type} {F : α -> β -> Prop} : ∀ {l : List α} {m : List β} {i : Nat} {x : α}, Paired F l m -> l[i]? = some x -> ∃ y, m[i]? = some y /\ F x y
  | _, _, _, _, .nil, e => by simp at e
  | _, _, 0, _, .cons r _, e => by
    have e := Option.some.inj e
    subst e
    exact ⟨_, rfl, r⟩
  | _, _, i + 1, x, .cons _ t, e => by
    obtain ⟨y, h1, h2⟩ := paired_get (i := i) (x := x) t (by simpa using e)
    exact ⟨y, by simpa using h1, h2⟩
theorem key_of2 {h : Heap} {t : Addr} {i j : Int} {t1 t2 : Tok} (p : IsTup h t (#[.int i t1, .int j t2] : Array Value)) : G.tupKeyC h (fun _ => false) (.ref t) = some [Sum.inl i, Sum.inl j] := by
  obtain ⟨o, ho, hc, n, hd⟩ := p
  unfold G.tupKeyC G.isTupObj tupKey
  simp only [ho, hc, hd]
  simp [tupItems]
theorem tup2 {P : Program} {w : World} {H : Hp} {h : Heap} {t : Addr} {i j : Int} (hok : HOk P w H h) (e : H t = some (.tup [.int i, .int j])) : ∃ t1 t2, IsTup h t (#[.int i t1, .int j t2] : Array Value) := by
  obtain ⟨_, its, r, p⟩ := hok t _ e
  cases r with
  | cons r1 r =>
    cases r with
    | cons r2 r =>
      cases r
      obtain ⟨t1, rfl⟩ := r1
      obtain ⟨t2, rfl⟩ := r2
      exact ⟨t1, t2, p⟩
theorem lex2 {a b c d : Int} : (listOrd itemOrd).kle [Sum.inl a, Sum.inl b] [Sum.inl c, Sum.inl d] -> le2 (a, b) (c, d) := by
  intro h
  have h : lexLt itemOrd [Sum.inl c, Sum.inl d] [Sum.inl a, Sum.inl b] = false := h
  unfold le2
  have h1 := lex_false.mp h
  obtain ⟨h1, h2⟩ := h1
  have h1 : decide (c < a) = false := h1
  have h1 : ¬ c < a := of_decide_eq_false h1
  rcases h2 with h2 | h2
  . have h2 : decide (a < c) = true := h2
    exact .inl (of_decide_eq_true h2)
  . obtain ⟨h3, h4⟩ := lex_false.mp h2
    have h3 : decide (d < b) = false := h3
    have h3 : ¬ d < b := of_decide_eq_false h3
    by_cases q : a < c
    . exact .inl q
    . exact .inr ⟨by show a = c; omega, by show b <= d; omega⟩
structure SK {β : Type} (X : Cx) (pins : List (Addr × Obj)) (σ : L2.St) (key : β -> K2) (f a kS : Addr) (ofn : Obj) (e1 e : Nat) (ks : List Value) (bs : List β) (H : Hp) (s : Shared) : Prop where
  inv : Inv X pins σ H s
  fa : FpOk X pins H a
  fk : FpOk X pins H kS
  ff : FpOk X pins H f
  ga : s.heap.get? a = some (seqObj "list" #[] e1)
  gk : s.heap.get? kS = some (seqObj "list" ks.toArray e)
  gf : s.heap.get? f = some ofn
  nf : ∀ v, ofn.data ≠ .cell v
  ak : a ≠ kS
  fk2 : f ≠ kS
  fa2 : f ≠ a
  keys : Keys key H ks bs
def Grow (H H' : Hp) : Prop := ∀ b o, H b = some o -> H' b = some o
theorem Grow.refl (H : Hp) : Grow H H := fun _ _ e => e
theorem Grow.trans {H H1 H2 : Hp} (x : Grow H H1) (y : Grow H1 H2) : Grow H H2 := fun b o e => y b o (x b o e)
theorem Grow.new {H : Hp} {q : Addr} {o : HO} (hq : H q = Option.none) : Grow H (upd H q o) := fun b u e => by rw [upd_ne (ne_of_none e hq)]; exact e
theorem SK.more {β : Type} {X : Cx} {pins : List (Addr × Obj)} {σ : L2.St} {key : β -> K2} {f a kS : Addr} {ofn : Obj} {e1 e : Nat} {ks : List Value} {bs : List β} {H : Hp} {s : Shared} (S : SK X pins σ key f a kS ofn e1 e ks bs H s) {u : Value} {b : β} {A : Around} {Q : ForInStep PUnit -> Shared -> Prop} {E : Value -> Shared -> Prop} {bad : Value -> Sem (ForInStep PUnit)}
    (hz : ks.length < 1000)
    (hcall : ∀ (pins' : List (Addr × Obj)) (Q : VK), (f, ofn) ∈ pins' -> Inv X pins' σ H s -> (∀ q, H q = Option.none -> Q (.ref q) (upd H q (.tup [.int (key b).1, .int (key b).2]))) -> wpAny (model X.prog X.w) A (call (.ref f) [u]) (EP X pins' σ Q) (fun _ _ => False) s)
    (k : ∀ s' H' k' e', Grow H H' -> (∃ q o, H q = Option.none /\ H' = upd H q o) -> SK X pins σ key f a kS ofn e1 e' (ks ++ [k']) (bs ++ [b]) H' s' -> Q (.yield ⟨⟩) s') :
    wpAny (model X.prog X.w) A (do
      let r <- (call (.ref f) [u]).attempt
      match r with
      | .ok k => Builtin.List.listUpdate (.ref kS) (·.push k); pure (ForInStep.yield PUnit.unit)
      | .error e => bad e) Q E s := by
  have hf : ∀ c ∈ [a, kS, f], FpOk X pins H c := fun c hc => by
    have z : c = a \/ c = kS \/ c = f := by simpa using hc
    rcases z with z | z | z <;> rw [z]
    . exact S.fa
    . exact S.fk
    . exact S.ff
  have ho : ∀ c ∈ [a, kS, f], ∃ o, s.heap.get? c = some o /\ ∀ v, o.data ≠ .cell v := fun c hc => by
    have z : c = a \/ c = kS \/ c = f := by simpa using hc
    rcases z with z | z | z <;> rw [z]
    . exact ⟨_, S.ga, fun v q => nomatch q⟩
    . exact ⟨_, S.gk, fun v q => nomatch q⟩
    . exact ⟨_, S.gf, S.nf⟩
  have I' := S.inv.pinned hf ho
  have mp : ∀ {c : Addr} {o : Obj}, c ∈ [a, kS, f] -> s.heap.get? c = some o -> (c, o) ∈ pins ++ pinsAt [a, kS, f] s.heap := fun hc e => List.mem_append_right _ (mem_pinsAt hc e)
  refine wpAny_bind (wpAny_attempt (wpAny_mono (hcall _ (fun v H1 => ∃ q, v = .ref q /\ H q = Option.none /\ H1 = upd H q (.tup [.int (key b).1, .int (key b).2])) (mp (by simp) S.gf) I' fun q hq => ⟨q, rfl, hq, rfl⟩) (fun k1 s1 z => ?_) fun _ _ z => z.elim))
  obtain ⟨v, H1, I1, rv, q, rfl, hq, rfl⟩ := z
  cases rv
  have at_ : ∀ {c : Addr} {o : Obj}, c ∈ [a, kS, f] -> s.heap.get? c = some o -> s1.heap.get? c = some o /\ upd H q (.tup [.int (key b).1, .int (key b).2]) c = Option.none := fun hc e =>
    let z := I1.pin _ (List.mem_append_right _ (mp hc e)); ⟨z.1, z.2.1⟩
  obtain ⟨ga1, na1⟩ := at_ (by simp) S.ga
  obtain ⟨gk1, nk1⟩ := at_ (by simp) S.gk
  obtain ⟨gf1, nf1⟩ := at_ (by simp) S.gf
  have I2 := I1.unpinned
  have ea : ks.toArray.push (.ref q) = (ks ++ [Value.ref q]).toArray := by simp
  show wpAny (model X.prog X.w) A (Builtin.List.listUpdate (.ref kS) (·.push (.ref q)) >>= _) Q E s1
  refine wpAny_bind (listUpdate_at gk1 rfl ?_ (by rw [List.size_toArray, sizeLine_eq]; omega) (Nat.le_trans (Nat.le_of_eq (Array.size_push ..)) (by rw [List.size_toArray, sizeLine_eq]; omega)))
  have sb := Heap.SameBut.update s1.heap kS (Obj.mapSeq (·.push (.ref q)))
  obtain ⟨e2, g2⟩ : ∃ e2, (s1.heap.update kS (Obj.mapSeq (·.push (.ref q)))).get? kS = some (seqObj "list" (ks ++ [Value.ref q]).toArray e2) := ⟨_, by rw [<- ea]; exact get?_update_seq gk1 (·.push (.ref q))⟩
  refine wpAny_pure (k _ (upd H q (.tup [.int (key b).1, .int (key b).2])) (.ref q) e2 (Grow.new hq) ⟨q, _, hq, rfl⟩ ⟨?_, ⟨na1, S.fa.2⟩, ⟨nk1, S.fk.2⟩, ⟨nf1, S.ff.2⟩, (sb.2 _ S.ak).trans ga1, g2, (sb.2 _ S.fk2).trans gf1, S.nf, S.ak, S.fk2, S.fa2, paired_snoc (S.keys.grow (Grow.new hq)) ⟨q, rfl, upd_same⟩⟩)
  obtain ⟨_, y1, y2, y3, y4, y5⟩ := S.fk
  exact I2.turned (t' := s1.toks) (fun c o hc g => (sb.2 c hc).trans g) nk1 y1 y3 y4 y5
theorem Inv.track {X : Cx} {pins : List (Addr × Obj)} {σ : L2.St} {H : Hp} {s : Shared} {a : Addr} {h' : Heap} {ys : List V} (I : Inv X pins σ H s) (fa : FpOk X pins H a) (k : ∀ b o, b ≠ a -> s.heap.get? b = some o -> h'.get? b = some o)
    (new : ObjOk X.prog X.w (upd H a (.lst ys)) h' a (.lst ys)) : Inv X pins σ (upd H a (.lst ys)) { s with heap := h' } := by
  obtain ⟨n0, y1, y2, y3, y4, y5⟩ := fa
  have ne : ∀ b u, H b = some u -> b ≠ a := fun b u e z => by rw [z, n0] at e; cases e
  refine I.step (g' := s.gens) (d' := s.drawn) (t' := s.toks) (ch := [a]) (fun b hb => ?_) (fun b o _ _ hc e _ => k b o (fun z => hc (by simp [z])) e) (fun b o _ _ hc e _ => ⟨o.slots, k b o (fun z => hc (by simp [z])) e⟩) (fun b o hc e n => by rw [upd_ne (fun z => hc (by simp [z]))]; exact n)
    (fun b o hc e => ⟨o, k b o (fun z => hc (by simp [z])) e⟩) (fun b xs e => by rw [upd_ne (ne b _ e)]; exact e) (fun b o u e => by rw [upd_ne (ne b _ e)]; exact e) (fun b ps e => ⟨#[], by rw [upd_ne (ne b _ e), e]; simp⟩) (fun m hm => ?_) (fun b u e => ?_) I.bare
  . have z : b = a := by simpa using hb
    rw [z]
    exact ⟨y3, y1, y4, y5⟩
  . obtain ⟨o, es, ep, g, r⟩ := hm
    exact ⟨o, es, ep, k _ o (fun z => y1 z.symm) g, r⟩
  . by_cases hb : b = a
    . subst hb
      rw [upd_same] at e
      cases e
      exact new
    . rw [upd_ne hb] at e
      refine (I.hok b u e).stay (fun c v hc g => k c v ?_ g) (fun c g => by rw [upd_ne (ne c _ g)]; exact g) fun c xs g => by rw [upd_ne (ne c _ g)]; exact g
      rcases hc with rfl | hc
      . exact hb
      . exact ne c _ hc
theorem SK.fin {β : Type} {X : Cx} {pins : List (Addr × Obj)} {σ : L2.St} {key : β -> K2} {f a kS : Addr} {ofn : Obj} {e1 e : Nat} {ks : List Value} {bs : List β} {H : Hp} {s : Shared} (S : SK X pins σ key f a kS ofn e1 e ks bs H s) {st : SortSt} {xs : List V} {us : List Value} {A : Around} {P : PySem.Fin -> Shared -> Prop} {E : Value -> Shared -> Prop}
    (hv : Vals xs us) (hl : ks.length = us.length) (hb : xs.length = bs.length) (hz : us.length <= 1000) (hp : (arrOf st).Perm (ks.toArray.zip us.toArray)) (hs : SortedToK (G.tupKindC s.heap fun _ => false) (arrOf st) us.length) (hfl : failedOf st = Option.none)
    (k : ∀ (ys : List (V × β)) s', ys.Perm (xs.zip bs) -> ys.Pairwise (fun p q => le2 (key p.2) (key q.2)) -> Inv X pins σ (upd H a (.lst (ys.map (·.1)))) s' -> P (.done (.ret .none)) s') :
    wpAny (model X.prog X.w) A (ksk_tail a false e1 (.ref kS) st) P E s := by
  have hpl : (arrOf st).toList.Perm (ks.zip us) := by
    have z := Array.perm_iff_toList_perm.mp hp
    rwa [show (ks.toArray.zip us.toArray).toList = ks.zip us by simp] at z
  have hkk : Paired (fun (x : Value × Value) (y : V × β) => (∃ t, x.1 = .ref t /\ H t = some (.tup [.int (key y.2).1, .int (key y.2).2])) /\ RelV y.1 x.2) (ks.zip us) (xs.zip bs) := by
    have z1 : Paired (fun (k : Value) (b : β) => ∃ t, k = .ref t /\ H t = some (.tup [.int (key b).1, .int (key b).2])) ks bs := S.keys
    have flip : ∀ {xs : List V} {us : List Value}, Vals xs us -> Paired (fun (u : Value) (x : V) => RelV x u) us xs := by
      intro xs us h
      induction h with
      | nil => exact .nil
      | cons r _ ih => exact .cons r ih
    have mk : ∀ {ks us : List Value} {bs : List β} {xs : List V}, Paired (fun (k : Value) (b : β) => ∃ t, k = .ref t /\ H t = some (.tup [.int (key b).1, .int (key b).2])) ks bs -> Paired (fun (u : Value) (x : V) => RelV x u) us xs ->
        Paired (fun (x : Value × Value) (y : V × β) => (∃ t, x.1 = .ref t /\ H t = some (.tup [.int (key y.2).1, .int (key y.2).2])) /\ RelV y.1 x.2) (ks.zip us) (xs.zip bs) := by
      intro ks us bs xs p1
      induction p1 generalizing us xs with
      | nil => intro p2; simp only [List.zip_nil_left, List.zip_nil_right]; exact .nil
      | cons r _ ih =>
        intro p2
        cases p2 with
        | nil => simp only [List.zip_nil_left, List.zip_nil_right]; exact .nil
        | cons r2 t2 => exact .cons ⟨r, r2⟩ (ih t2)
    exact mk z1 (flip hv)
  obtain ⟨ys, yp, yr⟩ := paired_perm hpl hkk
  have ylen : ys.length = (arrOf st).toList.length := (Paired.length yr).symm
  have alen : (arrOf st).size = us.length := by
    rw [hp.size_eq]
    simp only [Array.size_zip, List.size_toArray]
    omega
  have hsort : ys.Pairwise (fun p q => le2 (key p.2) (key q.2)) := by
    rw [List.pairwise_iff_getElem]
    intro i j hi hj hij
    have hia : i < (arrOf st).size := by rw [<- Array.length_toList]; omega
    have hja : j < (arrOf st).size := by rw [<- Array.length_toList]; omega
    have z := hs i j (Nat.le_of_lt hij) (by omega)
    have kk : ∀ {m : Nat} (hm : m < (arrOf st).size) (hy : m < ys.length), KK (G.tupKindC s.heap fun _ => false) (arrOf st) m = [Sum.inl (key ys[m].2).1, Sum.inl (key ys[m].2).2] := fun {m} hm hy => by
      have g1 : (arrOf st).toList[m]? = some (arrOf st)[m] := by simp [hm]
      obtain ⟨y, hy2, ⟨t, et, ht⟩, _⟩ := paired_get yr g1
      have ey : y = ys[m] := by rw [List.getElem?_eq_getElem hy] at hy2; exact (Option.some.inj hy2).symm
      subst ey
      obtain ⟨t1, t2, p⟩ := tup2 S.inv.hok ht
      unfold KK
      rw [show (arrOf st)[m]? = some (arrOf st)[m] from Array.getElem?_eq_getElem hm]
      show ((G.tupKeyC s.heap (fun _ => false) (arrOf st)[m].1).getD []) = _
      rw [et, key_of2 p]
      rfl
    rw [kk hia hi, kk hja hj] at z
    exact lex2 z
  have hvals : Vals (ys.map (·.1)) ((arrOf st).toList.map (·.2)) := by
    have go : ∀ {l : List (Value × Value)} {m : List (V × β)}, Paired (fun (x : Value × Value) (y : V × β) => (∃ t, x.1 = .ref t /\ H t = some (.tup [.int (key y.2).1, .int (key y.2).2])) /\ RelV y.1 x.2) l m -> Vals (m.map (·.1)) (l.map (·.2)) := by
      intro l m h
      induction h with
      | nil => exact .nil
      | cons r _ ih => exact .cons r.2 ih
    exact go yr
  unfold ksk_tail
  dsimp only
  refine wpAny_bind (listUpdate_at S.gk rfl ?_ (by rw [List.size_toArray, sizeLine_eq]; omega) (Nat.zero_le _))
  have sb := Heap.SameBut.update s.heap kS (Obj.mapSeq fun _ => (#[] : Array Value))
  have ga1 : (s.heap.update kS (Obj.mapSeq fun _ => (#[] : Array Value))).get? a = some (seqObj "list" #[] e1) := (sb.2 _ S.ak).trans S.ga
  refine wpAny_bind (wpAny_letGo (wpAny_bind (seqEpoch_at ga1 rfl ?_)))
  have hz2 : ((arrOf st).map (·.2)).size <= sizeLine + 1 := by rw [Array.size_map, alen, sizeLine_eq]; omega
  refine wpAny_bind (listUpdate_at ga1 rfl ?_ (by rw [sizeLine_eq]; simp) hz2)
  rw [hfl]
  simp only [bne_self_eq_false, Bool.false_eq_true, if_false]
  obtain ⟨_, y1, y2, y3, y4, y5⟩ := S.fk
  have I1 : Inv X pins σ H { s with heap := s.heap.update kS (Obj.mapSeq fun _ => (#[] : Array Value)) } := S.inv.turned (t' := s.toks) (fun c o hc g => (sb.2 c hc).trans g) S.fk.1 y1 y3 y4 y5
  have sb2 := Heap.SameBut.update (s.heap.update kS (Obj.mapSeq fun _ => (#[] : Array Value))) a (Obj.mapSeq fun _ => (arrOf st).map (·.2))
  have ea : (arrOf st).map (·.2) = ((arrOf st).toList.map (·.2)).toArray := by
    apply Array.ext'
    simp
  obtain ⟨n2, g2⟩ : ∃ n2, ((s.heap.update kS (Obj.mapSeq fun _ => (#[] : Array Value))).update a (Obj.mapSeq fun _ => (arrOf st).map (·.2))).get? a = some { cls := .type "list", data := .seq ((arrOf st).toList.map (·.2)).toArray n2 } :=
    ⟨_, by rw [get?_update_seq ga1 (fun _ => (arrOf st).map (·.2)), ea]⟩
  refine wpAny_pure (k ys _ yp hsort (Inv.track (s := { s with heap := s.heap.update kS (Obj.mapSeq fun _ => (#[] : Array Value)) }) I1 S.fa (fun b o hb g => (sb2.2 b hb).trans g) ⟨?_, (arrOf st).toList.map (·.2), n2, hvals, g2⟩))
  rw [List.length_map, ylen, Array.length_toList, alen, sizeLine_eq]; omega
section
variable {β : Type} {X : Cx} {pins : List (Addr × Obj)} {σ : L2.St} {key : β -> K2}
theorem Keys.tups {P : Program} {w : World} {H : Hp} {h : Heap} (hok : HOk P w H h) : ∀ {ks : List Value} {bs : List β}, Keys key H ks bs -> ∃ fs, TupsOf h (fun _ => false) ks fs /\ fs.length = ks.length
  | _, _, .nil => ⟨[], .nil, rfl⟩
  | _, _, .cons r t => by
    obtain ⟨fs, h1, h2⟩ := Keys.tups hok t
    obtain ⟨q, rfl, hq⟩ := r
    obtain ⟨t1, t2, o, ho, hc, n, hd⟩ := tup2 hok hq
    exact ⟨_ :: fs, .cons ⟨q, o, _, n, rfl, ho, hc, hd, rfl, fun _ => ⟨_, _, rfl⟩, fun z => nomatch z⟩ h1, by simp [h2]⟩
theorem Keys.keysOf {P : Program} {w : World} {H : Hp} {h : Heap} (hok : HOk P w H h) {ks us : List Value} {bs : List β} (hk : Keys key H ks bs) : KeysOf (G.tupKindC h fun _ => false) (ks.toArray.zip us.toArray) := by
  intro p hp
  rw [show (ks.toArray.zip us.toArray).toList = ks.zip us by simp] at hp
  have m := (List.of_mem_zip hp).1
  obtain ⟨i, hi⟩ := List.mem_iff_getElem?.mp m
  obtain ⟨b, _, t, et, ht⟩ := paired_get hk hi
  obtain ⟨t1, t2, q⟩ := tup2 hok ht
  exact ⟨_, by show G.tupKeyC h (fun _ => false) p.1 = _; rw [et, key_of2 q]⟩
theorem sortK_tree {f a : Addr} {ofn : Obj} {H : Hp} {s : Shared} (Gd : Hp -> Prop) (I : Inv X pins σ H s) {us : List Value} {n : Nat} (ga : s.heap.get? a = some (seqObj "list" us.toArray n)) (fa : FpOk X pins H a) (ff : FpOk X pins H f) (gf : s.heap.get? f = some ofn) (nf : ∀ v, ofn.data ≠ .cell v) (fa2 : f ≠ a)
    {xs : List (V × β)} (hv : Vals (xs.map (·.1)) us) (hz : xs.length <= 900) (g0 : Gd H) (gst : ∀ H q o, Gd H -> H q = Option.none -> Gd (upd H q o)) {A : Around} {P : PySem.Fin -> Shared -> Prop} {E : Value -> Shared -> Prop}
    (hkey : ∀ (i : Nat) (x : V) (b : β) (u : Value) (pins' : List (Addr × Obj)) (s' : Shared) (H' : Hp) (Q : VK), xs[i]? = some (x, b) -> RelV x u -> (f, ofn) ∈ pins' -> Inv X pins' σ H' s' -> Gd H' -> (∀ q, H' q = Option.none -> Q (.ref q) (upd H' q (.tup [.int (key b).1, .int (key b).2]))) ->
      wpAny (model X.prog X.w) A (call (.ref f) [u]) (EP X pins' σ Q) (fun _ _ => False) s')
    (k : ∀ (ys : List (V × β)) (H' : Hp) (s' : Shared), ys.Perm xs -> ys.Pairwise (fun p q => le2 (key p.2) (key q.2)) -> Grow H H' -> H' a = Option.none -> Gd H' -> Inv X pins σ (upd H' a (.lst (ys.map (·.1)))) s' -> P (.done (.ret .none)) s') :
    wpAny (model X.prog X.w) A (ksk_tree a (.ref f) false) P E s := by
  have hul : us.length = xs.length := by rw [<- hv.length, List.length_map]
  have hlt : a < s.heap.objs.size := Heap.lt_size ga
  have sb := Heap.SameBut.update s.heap a (Obj.mapSeq fun _ => (#[] : Array Value))
  obtain ⟨e1, ga1⟩ : ∃ e1, (s.heap.update a (Obj.mapSeq fun _ => (#[] : Array Value))).get? a = some (seqObj "list" #[] e1) := ⟨_, get?_update_seq ga fun _ => #[]⟩
  obtain ⟨_, y1, y2, y3, y4, y5⟩ := id fa
  have I1 : Inv X pins σ H { s with heap := s.heap.update a (Obj.mapSeq fun _ => (#[] : Array Value)) } := I.turned (t' := s.toks) (fun c o hc g => (sb.2 c hc).trans g) fa.1 y1 y3 y4 y5
  have I2 : Inv X pins σ H { s with heap := (s.heap.update a (Obj.mapSeq fun _ => (#[] : Array Value))).push (seqObj "tuple" us.toArray 0) } := I1.kept (t' := s.toks) fun b o g => Heap.get?_push_of_some _ g
  have fk := I2.fpOk (b := ((s.heap.update a (Obj.mapSeq fun _ => (#[] : Array Value))).push (seqObj "tuple" us.toArray 0)).objs.size) (Nat.le_refl _) (I2.hok.fresh (Nat.le_refl _))
  have I3 : Inv X pins σ H { s with heap := ((s.heap.update a (Obj.mapSeq fun _ => (#[] : Array Value))).push (seqObj "tuple" us.toArray 0)).push (seqObj "list" #[] 0) } := I2.kept (t' := s.toks) fun b o g => Heap.get?_push_of_some _ g
  have hkS : ((s.heap.update a (Obj.mapSeq fun _ => (#[] : Array Value))).push (seqObj "tuple" us.toArray 0)).objs.size = s.heap.objs.size + 1 := by rw [size_push', Heap.size_update]
  generalize hkE : ((s.heap.update a (Obj.mapSeq fun _ => (#[] : Array Value))).push (seqObj "tuple" us.toArray 0)).objs.size = kS at fk hkS
  have gf1 := (sb.2 f fa2).trans gf
  have S0 : SK X pins σ key f a kS ofn e1 0 [] [] H { s with heap := ((s.heap.update a (Obj.mapSeq fun _ => (#[] : Array Value))).push (seqObj "tuple" us.toArray 0)).push (seqObj "list" #[] 0) } :=
    ⟨I3, fa, fk, ff, Heap.get?_push_of_some _ (Heap.get?_push_of_some _ ga1), hkE ▸ Heap.get?_push_size _ rfl, Heap.get?_push_of_some _ (Heap.get?_push_of_some _ gf1), nf, fun z => by rw [z, hkS] at hlt; exact absurd hlt (Nat.not_lt.mpr (Nat.le_succ _)),
      fun z => by have y := Heap.lt_size gf; rw [z, hkS] at y; exact absurd y (Nat.not_lt.mpr (Nat.le_succ _)), fa2, .nil⟩
  unfold ksk_tree
  refine wpAny_bind (listItems_at ga rfl (wpAny_bind (listUpdate_at ga rfl ?_ (by rw [List.size_toArray, sizeLine_eq]; omega) (Nat.zero_le _))))
  refine wpAny_bind (seqEpoch_at ga1 rfl (wpAny_bind (wpAny_newTuple ?_ (by show us.length <= _; rw [sizeLine_eq]; omega))))
  refine wpAny_bind (wpAny_newList ?_ (Nat.zero_le _))
  refine wpAny_holding ?_
  show wpAny _ _ (ksk_rest a (.ref f) false us.toArray e1 (.ref ((s.heap.update a (Obj.mapSeq fun _ => (#[] : Array Value))).push (seqObj "tuple" us.toArray 0)).objs.size)) _ _ _
  rw [hkE]
  unfold ksk_rest
  refine wpAny_bind (wpAny_rule ?_)
  rw [List.forIn_toArray]
  refine wpAny_bind (ksk_fold (fun i s' => ∃ H' ks e, SK X pins σ key f a kS ofn e1 e ks ((xs.take i).map (·.2)) H' s' /\ Grow H H' /\ Gd H') us 0 _ ⟨H, [], 0, S0, Grow.refl _, g0⟩ (fun j u s' hu z => ?_) fun s' z => ?_)
  . obtain ⟨H', ks, e, S, gr, gd⟩ := z
    rw [Nat.zero_add] at S ⊢
    have hj : j < xs.length := by rw [<- hul]; exact (List.getElem?_eq_some_iff.mp hu).1
    obtain ⟨u', hu', rx⟩ := hv.get (i := j) (x := xs[j].1) (by rw [List.getElem?_map, List.getElem?_eq_getElem hj]; rfl)
    have eu : u = u' := Option.some.inj (hu.symm.trans hu')
    subst eu
    have hlen : ks.length = j := by rw [S.keys.len, List.length_map, List.length_take]; omega
    refine SK.more (b := xs[j].2) S (by omega) (fun pins' Q hp I' hQ => hkey j xs[j].1 xs[j].2 u pins' s' H' Q (List.getElem?_eq_getElem hj) rx hp I' gd hQ) fun s2 H2 k2 e2 g2 hn S2 => ⟨rfl, H2, ks ++ [k2], e2, ?_, gr.trans g2, ?_⟩
    . have et : (xs.take (j + 1)).map (·.2) = (xs.take j).map (·.2) ++ [xs[j].2] := by rw [List.take_succ_eq_append_getElem hj, List.map_append]; rfl
      rw [et]
      exact S2
    . obtain ⟨q, o, hq, rfl⟩ := hn
      exact gst _ q o gd hq
  . obtain ⟨H', ks, e, S, gr, gd⟩ := z
    rw [Nat.zero_add, hul, List.take_length] at S
    have hkl : ks.length = us.length := by rw [S.keys.len, List.length_map, hul]
    have hbl : (xs.map (·.1)).length = (xs.map (·.2)).length := by rw [List.length_map, List.length_map]
    have zipx : (xs.map (·.1)).zip (xs.map (·.2)) = xs := by rw [List.zip_map']; exact List.map_id' xs |>.symm ▸ (by simp)
    have last : ∀ st : SortSt, (arrOf st).Perm (ks.toArray.zip us.toArray) -> SortedToK (G.tupKindC s'.heap fun _ => false) (arrOf st) us.length -> failedOf st = Option.none -> wpAny (model X.prog X.w) A (ksk_tail a false e1 (.ref kS) st) P E s' := fun st hp hs hfl =>
      S.fin hv hkl hbl (by omega) hp hs hfl fun ys s2 yp yso I' => k ys H' s2 (by rw [zipx] at yp; exact yp) yso gr S.fa.1 gd I'
    refine wpAny_bind (listItems_at S.gk rfl ?_)
    unfold ksk_end
    dsimp only
    simp only [Bool.false_eq_true, if_false]
    have hzs : (ks.toArray.zip us.toArray).size = us.length := by simp only [Array.size_zip, List.size_toArray]; omega
    by_cases h2 : us.toArray.size < 2
    . rw [if_pos h2, if_pos h2]
      refine wpAny_bind (wpAny_pure ?_)
      rw [StateT.run_pure]
      refine wpAny_bind (wpAny_pure ?_)
      refine last _ (Array.Perm.refl _) (fun i j hij hj => ?_) rfl
      rw [List.size_toArray] at h2
      have z : i = j := by omega
      subst z
      exact KeyOrd.kle_refl _
    . rw [if_neg h2, if_neg h2]
      rw [List.size_toArray] at h2
      obtain ⟨fs, ht, hfl⟩ := S.keys.tups S.inv.hok
      refine wpAny_bind (tup_kind (by omega) ht ?_)
      refine wpAny_bind (wpAny_mono (G.wpS_sortRunsSt (κ := G.tupKindC s'.heap fun _ => false) (kd := tuples' true) (a₀ := ks.toArray.zip us.toArray) (st := SortSt.mk' (tuples' true) (ks.toArray.zip us.toArray) #[] 7 none)
        (Q := fun _ st' => (arrOf st').Perm (ks.toArray.zip us.toArray) /\ failedOf st' = none /\ SortedToK (G.tupKindC s'.heap fun _ => false) (arrOf st') (ks.toArray.zip us.toArray).size)
        (G.tupC_ltAt (s := s') true (G.KeepsTups.refl _)) (S.keys.keysOf S.inv.hok) ⟨Array.Perm.refl _, rfl, rfl⟩ rfl (Stable.refl _) (by rw [hzs]; omega) fun st' a1 a2 a3 _ => ⟨a1, a2, a3⟩) ?_ fun _ _ z => z)
      rintro ⟨⟨⟩, st'⟩ s2 ⟨rfl, hp, hf, hs⟩
      rw [hzs] at hs
      exact last st' hp hs hf
theorem sortedK_call {f l : Addr} {ofn : Obj} {H : Hp} {s : Shared} (Gd : Hp -> Prop) (I : Inv X pins σ H s) (ff : FpOk X pins H f) (gf : s.heap.get? f = some ofn) (nf : ∀ v, ofn.data ≠ .cell v)
    {xs : List (V × β)} (hl : SqL X.K H l (xs.map (·.1))) (hz : xs.length <= 900) (g0 : Gd H) (gst : ∀ H q o, Gd H -> H q = Option.none -> Gd (upd H q o)) {Q : VK} {E : Value -> Shared -> Prop}
    (hkey : ∀ (i : Nat) (x : V) (b : β) (u : Value) (pins' : List (Addr × Obj)) (s' : Shared) (H' : Hp) (Q : VK), xs[i]? = some (x, b) -> RelV x u -> (f, ofn) ∈ pins' -> Inv X pins' σ H' s' -> Gd H' -> (∀ q, H' q = Option.none -> Q (.ref q) (upd H' q (.tup [.int (key b).1, .int (key b).2]))) ->
      wpAny (model X.prog X.w) X.A.in1.in1 (call (.ref f) [u]) (EP X pins' σ Q) (fun _ _ => False) s')
    (k : ∀ (ys : List (V × β)) (H' : Hp) (D : Addr), ys.Perm xs -> ys.Pairwise (fun p q => le2 (key p.2) (key q.2)) -> Grow H H' -> H' D = Option.none -> Gd H' -> Q (.ref D) (upd H' D (.lst (ys.map (·.1))))) :
    wpAny (model X.prog X.w) X.A (call (.builtin "sorted") [.ref l] [(Str.ofString "key", .ref f)]) (EP X pins σ Q) E s := by
  obtain ⟨us, rv, pl, _⟩ := I.list hl
  have hul : us.length = xs.length := by rw [<- rv.length, List.length_map]
  refine call_function_entry_kw kind_sorted plain_sorted entry_sorted (ksk_s1 _ _) ?_
  unfold Builtin.«sorted»
  refine wpAny_bind (m := checkCount "sorted" 1 1 _) (wpAny_pure (wpAny_bind (collect_list pl.isList ?_ (by rw [sizeLine_eq]; omega))))
  refine wpAny_bind (wpAny_newList ?_ (by rw [sizeLine_eq]; omega))
  have hsz : ((s.heap.push (seqObj "list" #[] 0)).update s.heap.objs.size (Obj.mapSeq (· ++ us.toArray))).objs.size = s.heap.objs.size + 1 := by rw [Heap.size_update, size_push']
  have keep1 : ∀ b o, s.heap.get? b = some o -> ((s.heap.push (seqObj "list" #[] 0)).update s.heap.objs.size (Obj.mapSeq (· ++ us.toArray))).get? b = some o := fun b o q => by
    have hlt : b < s.heap.objs.size := Heap.lt_size q
    rw [Heap.get?_update_ne _ _ _ _ (Nat.ne_of_lt hlt)]
    exact Heap.get?_push_of_some _ q
  have I1 : Inv X pins σ H { s with heap := (s.heap.push (seqObj "list" #[] 0)).update s.heap.objs.size (Obj.mapSeq (· ++ us.toArray)) } := I.kept (t' := s.toks) keep1
  have fD := I1.fpOk (b := ((s.heap.push (seqObj "list" #[] 0)).update s.heap.objs.size (Obj.mapSeq (· ++ us.toArray))).objs.size) (Nat.le_refl _) (I1.hok.fresh (Nat.le_refl _))
  have I2 : Inv X pins σ H { s with heap := ((s.heap.push (seqObj "list" #[] 0)).update s.heap.objs.size (Obj.mapSeq (· ++ us.toArray))).push (seqObj "list" us.toArray 0) } := I1.kept (t' := s.toks) fun b o g => Heap.get?_push_of_some _ g
  have gD : (((s.heap.push (seqObj "list" #[] 0)).update s.heap.objs.size (Obj.mapSeq (· ++ us.toArray))).push (seqObj "list" us.toArray 0)).get? ((s.heap.push (seqObj "list" #[] 0)).update s.heap.objs.size (Obj.mapSeq (· ++ us.toArray))).objs.size = some (seqObj "list" us.toArray 0) := Heap.get?_push_size _ rfl
  generalize hD : ((s.heap.push (seqObj "list" #[] 0)).update s.heap.objs.size (Obj.mapSeq (· ++ us.toArray))).objs.size = D at fD gD hsz
  show wpAny _ _ _ _ _ { s with heap := ((s.heap.push (seqObj "list" #[] 0)).update s.heap.objs.size (Obj.mapSeq (· ++ us.toArray))).push (seqObj "list" us.toArray 0) }
  refine wpAny_bind (wpAny_holding (wpAny_call_entry_kw slot_list_sort ⟨_, gD, rfl⟩ entry_list_sort ?body (ksk_l1 _ _)))
  case body =>
    show wpAny (model X.prog X.w) X.A.in1.in1 (Builtin.«list.sort» ⟨[.ref D], [(Str.ofString "key", .ref f)]⟩) _ _ _
    rw [ksk_t1]
    refine sortK_tree (key := key) Gd I2 gD fD ff (Heap.get?_push_of_some _ (keep1 _ _ gf)) nf (fun z => ?_) rv hz g0 gst hkey fun ys H' s' yp yso gr nD gd I' => ⟨_, rfl, wpAny_pure ⟨_, rfl, .ref D, _, I', rfl, k ys H' D yp yso gr nD gd⟩⟩
    have y := Heap.lt_size gf
    rw [z, hsz] at y
    exact absurd y (Nat.not_lt.mpr (Nat.le_succ _))
end
structure LamCx (X : Cx) (c P : Addr) : Prop where
  code : X.env.code = .ref c
  hd : PySem.W.CodeHd X.base c P
  bm : ∃ bm o, X.mg "__builtins__" = some (.ref bm) /\ bm ≠ builtinsNs /\ X.base.get? bm = some o /\ o.cls = .type "module" /\ o.dict = some builtinsNs /\ o.data = .plain
abbrev codeHO (qual : Str) (c : Addr) : HO := .ext fun h => h.CodeRec (.ref c) qual
def LamOk (P : Addr) (pos : Pos) (qual : Str) (H : Hp) : Prop := H P = some (.tbl #[]) \/ ∃ c, H P = some (.tbl #[rawInt pos.line, rawInt pos.col, .ref c]) /\ H c = some (codeHO qual c)
section
variable {X : Cx} {pins : List (Addr × Obj)} {σ : L2.St} {H : Hp} {s : Shared} {c P : Addr}
theorem Inv.tab {h' : Heap} {q : Addr} {ps more : Array Value} {φ : Heap -> Prop} {tk : Nat} (I : Inv X pins σ H s) (hP : H P = some (.tbl ps)) (hx : ∀ b o, b ≠ P -> s.heap.get? b = some o -> h'.get? b = some o) (gP : h'.get? P = some { cls := .none, data := .fields (ps ++ more) }) (hq : s.heap.objs.size <= q)
    (new : ∀ H', ObjOk X.prog X.w H' h' q (.ext φ)) : Inv X pins σ (upd (upd H P (.tbl (ps ++ more))) q (.ext φ)) { s with heap := h', toks := tk } := by
  have hPl : P < s.heap.objs.size := I.hok.lt hP
  have qP : q ≠ P := fun z => by rw [z] at hq; exact absurd hPl (Nat.not_lt.mpr hq)
  have ltq : ∀ {b : Addr} {o : Obj}, s.heap.get? b = some o -> b ≠ q := fun e => Nat.ne_of_lt (Nat.lt_of_lt_of_le (Heap.lt_size e) hq)
  have trq : ∀ {b : Addr} {u : HO}, H b = some u -> b ≠ q := fun e => Nat.ne_of_lt (Nat.lt_of_lt_of_le (I.hok.lt e) hq)
  have nP : ∀ {b : Addr}, H b = Option.none -> b ≠ P := fun e z => by rw [z, hP] at e; cases e
  have get : ∀ {b : Addr}, b ≠ P -> b ≠ q -> upd (upd H P (.tbl (ps ++ more))) q (.ext φ) b = H b := fun h1 h2 => by rw [upd_ne h2, upd_ne h1]
  refine I.step (g' := s.gens) (d' := s.drawn) (t' := tk) (ch := []) (fun _ z => nomatch z) (fun b o _ _ _ e n => hx b o (nP n) e) (fun b o _ _ _ e n => ⟨o.slots, hx b o (nP n) e⟩) (fun b o _ e n => by rw [get (nP n) (ltq e)]; exact n)
    (fun b o _ e => ?_) (fun b xs e => ?_) (fun b o u e => ?_) (fun b qs e => ?_) (fun m hm => ?_) (fun b u e => ?_) I.bare
  . by_cases hb : b = P
    . rw [hb]; exact ⟨_, gP⟩
    . exact ⟨o, hx b o hb e⟩
  . rw [get (fun z => by rw [z, hP] at e; cases e) (trq e)]; exact e
  . rw [get (fun z => by rw [z, hP] at e; cases e) (trq e)]; exact e
  . by_cases hb : b = P
    . subst hb
      rw [hP] at e
      cases e
      exact ⟨more, by rw [upd_ne qP.symm, upd_same]⟩
    . exact ⟨#[], by rw [get hb (trq e), e]; simp⟩
  . obtain ⟨o, es, ep, g, r⟩ := hm
    exact ⟨o, es, ep, hx _ o (nP I.free) g, r⟩
  . by_cases hb : b = q
    . subst hb
      rw [upd_same] at e
      cases e
      exact new _
    . rw [upd_ne hb] at e
      by_cases hb2 : b = P
      . subst hb2
        rw [upd_same] at e
        cases e
        exact gP
      . rw [upd_ne hb2] at e
        refine (I.hok b u e).stay (fun d v hd g => hx d v ?_ g) (fun d g => by rw [get (fun z => by rw [z, hP] at g; cases g) (trq g)]; exact g) fun d xs g => by rw [get (fun z => by rw [z, hP] at g; cases g) (trq g)]; exact g
        rcases hd with rfl | hd
        . exact hb2
        . exact fun z => by rw [z, hP] at hd; cases hd
theorem triples0 : TriplesOk ([] : List Value) := by first | exact trivial | constructor | simp [TriplesOk]
theorem lam_made {params : Arguments} {body : Expr} {scope : Scope} {pos : Pos} {Q : Value -> Shared -> Prop} {E : Value -> Shared -> Prop} {A : Around} (I : Inv X pins σ H s) (L : LamCx X c P) (hdef : defaultsOf params X.env = ([], [])) (hcl : closureFor scope X.env = pure []) (ok : LamOk P pos (X.env.qual ++ "<lambda>") H)
    (hhit : ∀ q : Addr, codeAmong pos [rawInt pos.line, rawInt pos.col, .ref q] = some (.ref q) /\ TriplesOk [rawInt pos.line, rawInt pos.col, .ref q])
    (k : ∀ (f c' : Addr) (pm ct : Value) (H' : Hp) (s' : Shared), Inv X pins σ H' s' -> FpOk X pins H' f -> s'.heap.get? f = some { cls := .type "function", data := .func (PySem.W.kla_fn "<lambda>" (X.env.qual ++ "<lambda>") params body scope [] pm (.ref c') ct) } ->
      H' P = some (.tbl #[rawInt pos.line, rawInt pos.col, .ref c']) -> H' c' = some (codeHO (X.env.qual ++ "<lambda>") c') -> (∀ b o, b ≠ P -> H b = some o -> H' b = some o) -> Q (.ref f) s') :
    wpAny (model X.prog X.w) A (eval (.Lambda params body scope pos) X.env) Q E s := by
  have hgs : s.heap.Ns mainGlobals X.mg := I.mod.glob.keeps I.bk
  obtain ⟨bm, ob, b1, b2, b3, b4, b5, b6⟩ := L.bm
  have noP : ∀ {b : Addr} {o : Obj}, X.base.get? b = some o -> b ≠ P := fun {b o} e z => by
    have y := (I.bs b o e).2
    rcases ok with q | ⟨_, q, _⟩ <;> (rw [z, q] at y; cases y)
  have hgP : mainGlobals ≠ P := by
    obtain ⟨o, es, ep, e, _⟩ := I.mod.glob
    exact noP e
  have hbG : bm ≠ mainGlobals := fun z => by
    obtain ⟨o, es, ep, e, hd, _⟩ := I.mod.glob
    rw [z, e] at b3; cases b3; rw [hd] at b6; cases b6
  have hb : s.heap.BuiltinsAt X.mg P := ⟨bm, ob, b1, b2, hbG, noP b3, I.bk _ _ b3, b4, b5, b6⟩
  have C : PySem.W.CodeHd s.heap c P := L.hd.keeps I.bk
  refine PySem.W.kla_eval hdef ?_
  rcases ok with hP | ⟨c', hP, hc⟩
  . have gP : s.heap.get? P = some (PySem.W.tabObj #[]) := I.hok P _ hP
    refine PySem.W.kla_makeFunction (mg := X.mg) hcl I.ok.glob hgs L.code C gP triples0 rfl hgP hb fun c' ctv h' tk hx hge hlt hrec htb => ?_
    have hfs : s.heap.objs.size <= h'.objs.size := Nat.le_trans hge (Nat.le_of_lt hlt)
    have hxp : ∀ b o, b ≠ P -> s.heap.get? b = some o -> (h'.push (PySem.W.kla_obj "<lambda>" (X.env.qual ++ "<lambda>") params body scope [] ((X.mg "__name__").getD .none) c' ctv)).get? b = some o := fun b o hb e => Heap.get?_push_of_some _ (hx b o hb e)
    obtain ⟨c2, oc, vs, tq, ec, goc, hdc, hvq⟩ := hrec
    cases ec
    have I' : Inv X pins σ (upd (upd H P (.tbl (#[] ++ #[rawInt pos.line, rawInt pos.col, .ref c']))) c' (codeHO (X.env.qual ++ "<lambda>") c')) { s with heap := h'.push (PySem.W.kla_obj "<lambda>" (X.env.qual ++ "<lambda>") params body scope [] ((X.mg "__name__").getD .none) c' ctv), toks := tk } :=
      Inv.tab I hP hxp (Heap.get?_push_of_some _ htb) hge fun H' => ⟨⟨c', oc, vs, tq, rfl, Heap.get?_push_of_some _ goc, hdc, hvq⟩, ⟨oc, Heap.get?_push_of_some _ goc⟩, fun h1 h2 ⟨c3, o3, v3, t3, e3, g3, r3⟩ kp => by
        cases e3
        exact ⟨c', o3, v3, t3, rfl, kp _ g3, r3⟩⟩
    have cP : c' ≠ P := fun z => by
      have y := I.hok.lt hP
      rw [<- z] at y
      exact absurd y (Nat.not_lt.mpr hge)
    have fP : h'.objs.size ≠ P := fun z => by
      have y := I.hok.lt hP
      rw [<- z] at y
      exact absurd y (Nat.not_lt.mpr hfs)
    refine k h'.objs.size c' _ ctv _ _ I' (I.fpOk (H' := upd (upd H P (.tbl (#[] ++ #[rawInt pos.line, rawInt pos.col, .ref c']))) c' (codeHO (X.env.qual ++ "<lambda>") c')) hfs ?_) (Heap.get?_push_size _ rfl) ?_ upd_same fun b o hb e => ?_
    . rw [upd_ne (Nat.ne_of_gt hlt), upd_ne fP]
      exact I.hok.fresh hfs
    . rw [upd_ne cP.symm, upd_same]; rfl
    . have ne : b ≠ c' := Nat.ne_of_lt (Nat.lt_of_lt_of_le (I.hok.lt e) hge)
      rw [upd_ne ne, upd_ne hb]; exact e
  . have gP : s.heap.get? P = some (PySem.W.tabObj #[rawInt pos.line, rawInt pos.col, .ref c']) := I.hok P _ hP
    refine PySem.W.kla_makeFunctionHit (mg := X.mg) (cv := .ref c') hcl I.ok.glob hgs L.code C gP (hhit c').2 (hhit c').1 hb fun ctv h' tk hk hsz => ?_
    have I' : Inv X pins σ H { s with heap := h'.push { cls := .type "function", data := .func (PySem.W.kla_fn "<lambda>" (X.env.qual ++ "<lambda>") params body scope [] ((X.mg "__name__").getD .none) (.ref c') ctv) }, toks := tk } :=
      I.kept fun b o e => Heap.get?_push_of_some _ (hk b o e)
    exact k h'.objs.size c' _ ctv H _ I' (I.fpOk hsz (I.hok.fresh hsz)) (Heap.get?_push_size _ rfl) hP hc fun b o _ e => e
end
theorem LamOk.grow {P : Addr} {pos : Pos} {qual : Str} {H H' : Hp} (h : LamOk P pos qual H) (g : Grow H H') : LamOk P pos qual H' := by
  rcases h with e | ⟨c, e, e2⟩
  . exact .inl (g _ _ e)
  . exact .inr ⟨c, g _ _ e, g _ _ e2⟩
def tSortK {β : Type} (K : PySem.W.Frag) (P : Addr) (pos : Pos) (qual : Str) (N : List Str) (tb : TE) (key : β -> K2) (te : TE) : TE := fun σ H Q => te σ H fun x H1 => ∃ (l : Addr) (xs : List (V × β)) (Gd : Hp -> Prop), x = .ref l /\ xs.length <= 900 /\ LamOk P pos qual H1 /\
  (∀ H2, (∀ b o, b ≠ P -> H1 b = some o -> H2 b = some o) -> Gd H2 /\ SqL K H2 l (xs.map (·.1))) /\ (∀ H q o, Gd H -> H q = Option.none -> Gd (upd H q o)) /\
  (∀ (i : Nat) (x : V) (b : β) (H2 : Hp) (Q' : VK), xs[i]? = some (x, b) -> Gd H2 -> (∀ q, H2 q = Option.none -> Q' (.ref q) (upd H2 q (.tup [.int (key b).1, .int (key b).2]))) -> tb (start N [x]) H2 Q') /\
  ∀ (ys : List (V × β)) (H2 : Hp) (D : Addr), ys.Perm xs -> ys.Pairwise (fun p q => le2 (key p.2) (key q.2)) -> (∀ b o, b ≠ P -> H1 b = some o -> H2 b = some o) -> LamOk P pos qual H2 -> H2 D = Option.none -> Q (.ref D) (upd H2 D (.lst (ys.map (·.1))))
theorem pe_sortK {β : Type} {key : β -> K2} {X : Cx} {c P : Addr} {e body : Expr} {te tb : TE} {params : Arguments} {scope : Scope} {p pos kp lpos : Pos} {N : List Str} {ps : List Str} (hg : Gl X "sorted") (hm : X.mg "sorted" = none) (hr : Room 3 X.A) (L : LamCx X c P) (he : PE X e te)
    (hdef : defaultsOf params X.env = ([], [])) (hcl : closureFor scope X.env = pure [])
    (hhit : ∀ q : Addr, codeAmong lpos [rawInt lpos.line, rawInt lpos.col, .ref q] = some (.ref q) /\ TriplesOk [rawInt lpos.line, rawInt lpos.col, .ref q])
    (S : FnScope N ps scope) (hps : ps.length = 1) (hb : ∀ (pm ct : Value) (c' : Addr) (u : Value), bindArgs (PySem.W.kla_fn "<lambda>" (X.env.qual ++ "<lambda>") params body scope [] pm (.ref c') ct) ⟨[u], []⟩ = pure (ps.zip [u]))
    (hbody : ∀ (f c' : Addr) (A : Around) (outer : List Env) (s : Shared) (H : Hp), PE (cxOf CX0 X.prog X.w X.K X.mg X.base N (X.env.qual ++ "<lambda>") scope f (.ref c') A outer s H E0) body tb)
    (hs : backTo pos (starEach [e] X.env) = [(false, eval e X.env)] := by rfl) :
    PE X (.Call (.Name "sorted" p) [e] [⟨some "key", .Lambda params body scope lpos, kp⟩] pos) (tSortK X.K P lpos (X.env.qual ++ "<lambda>") N tb key te) := by
  intro pins s σ H Q I h
  refine wpAny_Call_Name_kw (ld_blt I hg hm (show bootBuiltins "sorted" = some (.builtin "sorted") by decide +kernel) ?_ (by decide) (by decide))
  refine callWith_kw ?_ (by rw [hs]; rfl) (by rw [hs]; rfl)
  rw [hs]
  refine Calls.spliced_cons (thn (he pins s σ H _ I h) fun u s1 ⟨x, H1, I1, rx, l, xs, Gd, ex, hz, ok, hG, gst, hkey, k⟩ => Calls.spliced_nil ?_)
  subst ex
  cases rx
  refine kws_cons (lam_made I1 L hdef hcl ok hhit fun f c' pm ct H2 s2 I2 ff gf hP hc keep => kws_nil ?_)
  show wpAny _ _ (call (.builtin "sorted") [.ref l] [(Str.ofString "key", .ref f)]) _ _ s2
  obtain ⟨g0, hl⟩ := hG H2 keep
  refine sortedK_call (key := key) (fun H' => Gd H' /\ H' c' = some (codeHO (X.env.qual ++ "<lambda>") c')) I2 ff gf (fun v z => by cases z) hl hz ⟨g0, hc⟩ (fun H' q o ⟨g1, g2⟩ hq => ⟨gst H' q o g1 hq, by rw [upd_ne (ne_of_none g2 hq)]; exact g2⟩) ?_ ?_
  . intro i x b u pins' s' H' Q' hx rx mem I' ⟨gd, hc'⟩ hq
    have gf' := (I'.pin (f, _) (List.mem_append_right _ mem)).1
    have hrec : s'.heap.CodeRec (.ref c') (X.env.qual ++ "<lambda>") := (I'.hok c' _ hc').1
    refine wpAny_call (codeAny_mono (lam_run (k := 0) (A := X.A.in1.in1) (vs := [x]) gf' rfl hrec S hr.in1.in1 I'.env0.in1.in1 (hb pm ct c' u) (.cons rx .nil) hps.symm (hbody f c' X.A.in1.in1 X.stack s' H') (hkey i x b H' Q' hx gd hq)) fun r s'' hq2 => ?_)
    cases r with
    | error e => exact hq2.elim
    | ok fl =>
      cases fl with
      | ret u => exact I'.after hq2
      | next => exact False.elim hq2
      | brk => exact False.elim hq2
      | cont => exact False.elim hq2
  . intro ys H' D yp yso gr hD ⟨gd, hc'⟩
    exact k ys H' D yp yso (fun b o nb e => gr _ _ (keep b o nb e)) (LamOk.grow (.inr ⟨c', hP, hc⟩) gr) hD
theorem Def.okc {P : Program} {w : World} {K : PySem.W.Frag} {mg : Str -> Option Value} {base : Heap} {k : Nat} {x qual : Str} {st : Stmt} {N ps : List Str} {sp : Sp} {c : Addr} (D : ∃ f fd, Fun K x qual st f fd /\ mg x = some (.ref f) /\ BA fd ps /\ fd.code = .ref c) (S : FnScope N ps (defScope st)) (len : ∀ vs H Q E, sp vs H Q E -> vs.length = ps.length)
    (hbody : ∀ (f : Addr) (A : Around) (outer : List Env) (s : Shared) (H : Hp) (vs : List V) (Q : VK) (E : XK), Room k (A.deeper (envOfC qual (defScope st) s.heap.objs.size f (.ref c))) -> sp vs H Q E ->
      ∃ t, PSs (cxOf CX0 P w K mg base N qual (defScope st) f (.ref c) A outer s H E).nox (defBody st) t /\ t { nx := fun _ H' => Q .non H', rt := Q } (start N vs) H) : COk P w K mg base (k + 1) x sp := by
  obtain ⟨f, fd, F, m, b, hc⟩ := D
  refine ⟨f, ⟨fd, ps, ?_, F.kp, b.binds⟩, m⟩
  obtain ⟨oc, od, kV, doc, pm, an, cdv, ct, osl, rfl, lk, hcd⟩ := F.ex
  obtain rfl : cdv = .ref c := hc
  refine fn_of lk hcd S len fun A outer s H vs Q E hr hsp => ?_
  obtain ⟨t, h, q⟩ := hbody f A outer s H vs Q E hr hsp
  exact ⟨t, h.nox, q⟩
end R
namespace Z
open PySem PySem.Spec PyProof.Rows L2 R
def top (i : Nat) : Stmt := PySem.Challenge.pw_roomcodes_s01_answers.main.body.getD i (.Pass ⟨0, 0, 0, 0⟩)
abbrev s_Room_init : Stmt := inClass (top 19) 0
abbrev s_House_init : Stmt := inClass (top 20) 0
abbrev s_Task_init : Stmt := inClass (top 21) 0
abbrev s_forget_the_day : Stmt := top 22
abbrev s_make_vacated : Stmt := top 23
abbrev s_make_filled : Stmt := top 24
abbrev s_code_of : Stmt := top 25
abbrev s_difference_about : Stmt := top 26
abbrev s_minutes_of : Stmt := top 27
abbrev s_tasks_of : Stmt := top 28
abbrev s_letters_of : Stmt := top 32
abbrev s_text_of : Stmt := top 33
abbrev s_code_named : Stmt := top 34
abbrev s_codes_in : Stmt := top 35
abbrev s_state_written : Stmt := top 36
abbrev s_give_code : Stmt := top 37
abbrev s_attendants_needed : Stmt := top 39
abbrev s_least_greatest_load : Stmt := top 40
abbrev s_best_share : Stmt := top 41
abbrev s_best_shares : Stmt := top 42
abbrev s_parting_told : Stmt := top 43
abbrev s_first_place_reaching : Stmt := top 44
abbrev s_witness_told : Stmt := top 45
abbrev s_is_witness : Stmt := top 46
abbrev s_row_of : Stmt := top 52
abbrev s_minutes_in_order : Stmt := top 53
abbrev s_guest_in : Stmt := top 54
abbrev s_guest_out : Stmt := top 55
abbrev s_guest_moves : Stmt := top 56
abbrev s_night_passes : Stmt := top 57
abbrev s_maid_reports : Stmt := top 58
abbrev s_room_inspected : Stmt := top 59
abbrev s_room_shut : Stmt := top 60
abbrev s_room_back : Stmt := top 61
abbrev s_room_due : Stmt := top 62
abbrev s_room_extra : Stmt := top 63
abbrev s_work_told : Stmt := top 64
abbrev s_split_told : Stmt := top 65
abbrev s_bound_told : Stmt := top 66
abbrev s_witness_proved : Stmt := top 67
abbrev s_due_ones_first : Stmt := top 68
abbrev s_order_told : Stmt := top 69
abbrev s_differences_told : Stmt := top 70
abbrev s_difference_resolved : Stmt := top 71
abbrev s_room_told : Stmt := top 72
abbrev s_codes_counted : Stmt := top 73
abbrev s_board_told : Stmt := top 74
abbrev s_board_written : Stmt := top 75
abbrev s_carry_out : Stmt := top 77
abbrev s_all_in_range : Stmt := top 88
abbrev s_row_as_told : Stmt := top 89
abbrev s_all_rooms_there : Stmt := top 90
abbrev s_attendant_there : Stmt := top 91
abbrev s_early_refusal : Stmt := top 92
abbrev s_row_at : Stmt := top 93
abbrev s_answers : Stmt := top 94
theorem sc_Room_init : FnScope ["self"] ["self"] (defScope s_Room_init) := ⟨rfl, rfl, rfl, by decide +kernel, rfl, by decide +kernel, by decide +kernel⟩
theorem sc_House_init : FnScope ["self", "how_many_rooms", "heavy", "light", "check", "place"] ["self", "how_many_rooms", "heavy", "light", "check"] (defScope s_House_init) := ⟨rfl, rfl, rfl, by decide +kernel, rfl, by decide +kernel, by decide +kernel⟩
theorem sc_Task_init : FnScope ["self", "number", "minutes", "due"] ["self", "number", "minutes", "due"] (defScope s_Task_init) := ⟨rfl, rfl, rfl, by decide +kernel, rfl, by decide +kernel, by decide +kernel⟩
theorem sc_forget_the_day : FnScope ["room"] ["room"] (defScope s_forget_the_day) := ⟨rfl, rfl, rfl, by decide +kernel, rfl, by decide +kernel, by decide +kernel⟩
theorem sc_make_vacated : FnScope ["room"] ["room"] (defScope s_make_vacated) := ⟨rfl, rfl, rfl, by decide +kernel, rfl, by decide +kernel, by decide +kernel⟩
theorem sc_make_filled : FnScope ["room"] ["room"] (defScope s_make_filled) := ⟨rfl, rfl, rfl, by decide +kernel, rfl, by decide +kernel, by decide +kernel⟩
theorem sc_code_of : FnScope ["room"] ["room"] (defScope s_code_of) := ⟨rfl, rfl, rfl, by decide +kernel, rfl, by decide +kernel, by decide +kernel⟩
theorem sc_difference_about : FnScope ["room"] ["room"] (defScope s_difference_about) := ⟨rfl, rfl, rfl, by decide +kernel, rfl, by decide +kernel, by decide +kernel⟩
theorem sc_minutes_of : FnScope ["house", "room"] ["house", "room"] (defScope s_minutes_of) := ⟨rfl, rfl, rfl, by decide +kernel, rfl, by decide +kernel, by decide +kernel⟩
theorem sc_tasks_of : FnScope ["house", "tasks", "number", "room", "minutes"] ["house"] (defScope s_tasks_of) := ⟨rfl, rfl, rfl, by decide +kernel, rfl, by decide +kernel, by decide +kernel⟩
theorem sc_letters_of : FnScope ["name", "letter"] ["name"] (defScope s_letters_of) := ⟨rfl, rfl, rfl, by decide +kernel, rfl, by decide +kernel, by decide +kernel⟩
theorem sc_text_of : FnScope ["rooms", "text", "room"] ["rooms"] (defScope s_text_of) := ⟨rfl, rfl, rfl, by decide +kernel, rfl, by decide +kernel, by decide +kernel⟩
theorem sc_code_named : FnScope ["letters", "code", "name"] ["letters"] (defScope s_code_named) := ⟨rfl, rfl, rfl, by decide +kernel, rfl, by decide +kernel, by decide +kernel⟩
theorem sc_codes_in : FnScope ["text", "codes", "at", "code"] ["text"] (defScope s_codes_in) := ⟨rfl, rfl, rfl, by decide +kernel, rfl, by decide +kernel, by decide +kernel⟩
theorem sc_state_written : FnScope ["code"] ["code"] (defScope s_state_written) := ⟨rfl, rfl, rfl, by decide +kernel, rfl, by decide +kernel, by decide +kernel⟩
theorem sc_give_code : FnScope ["room", "code", "due"] ["room", "code"] (defScope s_give_code) := ⟨rfl, rfl, rfl, by decide +kernel, rfl, by decide +kernel, by decide +kernel⟩
theorem sc_attendants_needed : FnScope ["minutes", "most", "needed", "load", "amount"] ["minutes", "most"] (defScope s_attendants_needed) := ⟨rfl, rfl, rfl, by decide +kernel, rfl, by decide +kernel, by decide +kernel⟩
theorem sc_least_greatest_load : FnScope ["minutes", "how_many", "least", "greatest", "middle"] ["minutes", "how_many"] (defScope s_least_greatest_load) := ⟨rfl, rfl, rfl, by decide +kernel, rfl, by decide +kernel, by decide +kernel⟩
theorem sc_best_share : FnScope ["minutes", "begin", "most", "behind", "best", "load", "end", "squares"] ["minutes", "begin", "most", "behind"] (defScope s_best_share) := ⟨rfl, rfl, rfl, by decide +kernel, rfl, by decide +kernel, by decide +kernel⟩
theorem sc_best_shares : FnScope ["minutes", "how_many", "most", "last", "nobody", "table", "attendant", "behind", "begin"] ["minutes", "how_many", "most"] (defScope s_best_shares) := ⟨rfl, rfl, rfl, by decide +kernel, rfl, by decide +kernel, by decide +kernel⟩
theorem sc_parting_told : FnScope ["minutes", "how_many", "table", "shares", "begin", "attendant", "end"] ["minutes", "how_many"] (defScope s_parting_told) := ⟨rfl, rfl, rfl, by decide +kernel, rfl, by decide +kernel, by decide +kernel⟩
theorem sc_first_place_reaching : FnScope ["minutes", "begin", "load", "place", "together"] ["minutes", "begin", "load"] (defScope s_first_place_reaching) := ⟨rfl, rfl, rfl, by decide +kernel, rfl, by decide +kernel, by decide +kernel⟩
theorem sc_witness_told : FnScope ["minutes", "how_many", "load", "places", "attendant"] ["minutes", "how_many"] (defScope s_witness_told) := ⟨rfl, rfl, rfl, by decide +kernel, rfl, by decide +kernel, by decide +kernel⟩
theorem sc_is_witness : FnScope ["minutes", "how_many", "load", "places", "place", "following"] ["minutes", "how_many", "load", "places"] (defScope s_is_witness) := ⟨rfl, rfl, rfl, by decide +kernel, rfl, by decide +kernel, by decide +kernel⟩
theorem sc_row_of : FnScope ["numbers"] ["numbers"] (defScope s_row_of) := ⟨rfl, rfl, rfl, by decide +kernel, rfl, by decide +kernel, by decide +kernel⟩
theorem sc_minutes_in_order : FnScope ["tasks", "task"] ["tasks"] (defScope s_minutes_in_order) := ⟨rfl, rfl, rfl, by decide +kernel, rfl, by decide +kernel, by decide +kernel⟩
theorem sc_guest_in : FnScope ["house", "numbers", "room"] ["house", "numbers"] (defScope s_guest_in) := ⟨rfl, rfl, rfl, by decide +kernel, rfl, by decide +kernel, by decide +kernel⟩
theorem sc_guest_out : FnScope ["house", "numbers", "room"] ["house", "numbers"] (defScope s_guest_out) := ⟨rfl, rfl, rfl, by decide +kernel, rfl, by decide +kernel, by decide +kernel⟩
theorem sc_guest_moves : FnScope ["house", "numbers", "room", "other"] ["house", "numbers"] (defScope s_guest_moves) := ⟨rfl, rfl, rfl, by decide +kernel, rfl, by decide +kernel, by decide +kernel⟩
theorem sc_night_passes : FnScope ["house", "numbers", "room"] ["house", "numbers"] (defScope s_night_passes) := ⟨rfl, rfl, rfl, by decide +kernel, rfl, by decide +kernel, by decide +kernel⟩
theorem sc_maid_reports : FnScope ["house", "numbers", "room", "came"] ["house", "numbers"] (defScope s_maid_reports) := ⟨rfl, rfl, rfl, by decide +kernel, rfl, by decide +kernel, by decide +kernel⟩
theorem sc_room_inspected : FnScope ["house", "numbers", "room"] ["house", "numbers"] (defScope s_room_inspected) := ⟨rfl, rfl, rfl, by decide +kernel, rfl, by decide +kernel, by decide +kernel⟩
theorem sc_room_shut : FnScope ["house", "numbers", "room"] ["house", "numbers"] (defScope s_room_shut) := ⟨rfl, rfl, rfl, by decide +kernel, rfl, by decide +kernel, by decide +kernel⟩
theorem sc_room_back : FnScope ["house", "numbers", "room"] ["house", "numbers"] (defScope s_room_back) := ⟨rfl, rfl, rfl, by decide +kernel, rfl, by decide +kernel, by decide +kernel⟩
theorem sc_room_due : FnScope ["house", "numbers", "room"] ["house", "numbers"] (defScope s_room_due) := ⟨rfl, rfl, rfl, by decide +kernel, rfl, by decide +kernel, by decide +kernel⟩
theorem sc_room_extra : FnScope ["house", "numbers", "room"] ["house", "numbers"] (defScope s_room_extra) := ⟨rfl, rfl, rfl, by decide +kernel, rfl, by decide +kernel, by decide +kernel⟩
theorem sc_work_told : FnScope ["house", "numbers", "tasks", "pairs", "task"] ["house", "numbers"] (defScope s_work_told) := ⟨rfl, rfl, rfl, by decide +kernel, rfl, by decide +kernel, by decide +kernel⟩
theorem sc_split_told : FnScope ["house", "numbers", "how_many", "minutes", "pairs", "share", "taken"] ["house", "numbers"] (defScope s_split_told) := ⟨rfl, rfl, rfl, by decide +kernel, rfl, by decide +kernel, by decide +kernel⟩
theorem sc_bound_told : FnScope ["house", "numbers", "how_many", "minutes"] ["house", "numbers"] (defScope s_bound_told) := ⟨rfl, rfl, rfl, by decide +kernel, rfl, by decide +kernel, by decide +kernel⟩
theorem sc_witness_proved : FnScope ["house", "numbers", "minutes", "proved"] ["house", "numbers"] (defScope s_witness_proved) := ⟨rfl, rfl, rfl, by decide +kernel, rfl, by decide +kernel, by decide +kernel⟩
theorem sc_due_ones_first : FnScope ["tasks", "due", "others", "task"] ["tasks"] (defScope s_due_ones_first) := ⟨rfl, rfl, rfl, by decide +kernel, rfl, by decide +kernel, by decide +kernel⟩
theorem sc_order_told : FnScope ["house", "numbers", "tasks", "shares", "share", "minute", "late", "pairs", "task", "latest"] ["house", "numbers"] (defScope s_order_told) := ⟨rfl, rfl, rfl, by decide +kernel, rfl, by decide +kernel, by decide +kernel⟩
theorem sc_differences_told : FnScope ["house", "numbers", "pairs", "number", "room", "difference"] ["house", "numbers"] (defScope s_differences_told) := ⟨rfl, rfl, rfl, by decide +kernel, rfl, by decide +kernel, by decide +kernel⟩
theorem sc_difference_resolved : FnScope ["house", "numbers", "room", "maid_is_right"] ["house", "numbers"] (defScope s_difference_resolved) := ⟨rfl, rfl, rfl, by decide +kernel, rfl, by decide +kernel, by decide +kernel⟩
theorem sc_room_told : FnScope ["house", "numbers", "room"] ["house", "numbers"] (defScope s_room_told) := ⟨rfl, rfl, rfl, by decide +kernel, rfl, by decide +kernel, by decide +kernel⟩
theorem sc_codes_counted : FnScope ["house", "numbers", "codes", "counts", "room", "code"] ["house", "numbers"] (defScope s_codes_counted) := ⟨rfl, rfl, rfl, by decide +kernel, rfl, by decide +kernel, by decide +kernel⟩
theorem sc_board_told : FnScope ["house", "numbers"] ["house", "numbers"] (defScope s_board_told) := ⟨rfl, rfl, rfl, by decide +kernel, rfl, by decide +kernel, by decide +kernel⟩
theorem sc_board_written : FnScope ["house", "numbers", "codes", "room", "code"] ["house", "numbers"] (defScope s_board_written) := ⟨rfl, rfl, rfl, by decide +kernel, rfl, by decide +kernel, by decide +kernel⟩
theorem sc_carry_out : FnScope ["house", "number", "numbers"] ["house", "number", "numbers"] (defScope s_carry_out) := ⟨rfl, rfl, rfl, by decide +kernel, rfl, by decide +kernel, by decide +kernel⟩
theorem sc_all_in_range : FnScope ["number", "numbers", "value", "bounds"] ["number", "numbers"] (defScope s_all_in_range) := ⟨rfl, rfl, rfl, by decide +kernel, rfl, by decide +kernel, by decide +kernel⟩
theorem sc_row_as_told : FnScope ["number", "row", "bounds", "value"] ["number", "row"] (defScope s_row_as_told) := ⟨rfl, rfl, rfl, by decide +kernel, rfl, by decide +kernel, by decide +kernel⟩
theorem sc_all_rooms_there : FnScope ["house", "number", "numbers", "room"] ["house", "number", "numbers"] (defScope s_all_rooms_there) := ⟨rfl, rfl, rfl, by decide +kernel, rfl, by decide +kernel, by decide +kernel⟩
theorem sc_attendant_there : FnScope ["number", "numbers"] ["number", "numbers"] (defScope s_attendant_there) := ⟨rfl, rfl, rfl, by decide +kernel, rfl, by decide +kernel, by decide +kernel⟩
theorem sc_early_refusal : FnScope ["house", "number", "numbers", "row"] ["house", "number", "numbers", "row"] (defScope s_early_refusal) := ⟨rfl, rfl, rfl, by decide +kernel, rfl, by decide +kernel, by decide +kernel⟩
theorem sc_row_at : FnScope ["calls", "number", "at"] ["calls", "number", "at"] (defScope s_row_at) := ⟨rfl, rfl, rfl, by decide +kernel, rfl, by decide +kernel, by decide +kernel⟩
theorem sc_answers : FnScope ["calls", "told", "house", "at", "number", "behind", "numbers", "row", "refusal", "answer"] ["calls"] (defScope s_answers) := ⟨rfl, rfl, rfl, by decide +kernel, rfl, by decide +kernel, by decide +kernel⟩
structure Ad where
  cRoom : Addr
  cHouse : Addr
  cTask : Addr
  mCODE_NAMES : Addr
  mCALLS : Addr
  mRANGES : Addr
  mROWS : Addr
  mROOMS_NAMED : Addr
  f_guest_in : Addr
  f_guest_out : Addr
  f_guest_moves : Addr
  f_night_passes : Addr
  f_maid_reports : Addr
  f_room_inspected : Addr
  f_room_shut : Addr
  f_room_back : Addr
  f_room_due : Addr
  f_room_extra : Addr
  f_work_told : Addr
  f_split_told : Addr
  f_bound_told : Addr
  f_witness_proved : Addr
  f_order_told : Addr
  f_differences_told : Addr
  f_difference_resolved : Addr
  f_room_told : Addr
  f_codes_counted : Addr
  f_board_told : Addr
  f_board_written : Addr
structure Txt (K : PySem.W.Frag) (mg : Str -> Option Value) (a : Ad) : Prop where
  g_DIRTY : GInt mg "DIRTY" (0)
  g_CLEANED : GInt mg "CLEANED" (1)
  g_INSPECTED : GInt mg "INSPECTED" (2)
  g_VD : GInt mg "VD" (0)
  g_VC : GInt mg "VC" (1)
  g_VI : GInt mg "VI" (2)
  g_OD : GInt mg "OD" (3)
  g_OC : GInt mg "OC" (4)
  g_OO : GInt mg "OO" (5)
  g_NOTHING_SEEN : GInt mg "NOTHING_SEEN" (0)
  g_NOBODY_SEEN : GInt mg "NOBODY_SEEN" (1)
  g_SOMEBODY_SEEN : GInt mg "SOMEBODY_SEEN" (2)
  g_NOTHING_TODAY : GInt mg "NOTHING_TODAY" (0)
  g_CLEANED_TODAY : GInt mg "CLEANED_TODAY" (1)
  g_DECLINED_TODAY : GInt mg "DECLINED_TODAY" (2)
  g_NO_DIFFERENCE : GInt mg "NO_DIFFERENCE" (0)
  g_TAKEN_BUT_NOBODY : GInt mg "TAKEN_BUT_NOBODY" (1)
  g_NOT_TAKEN_BUT_SOMEBODY : GInt mg "NOT_TAKEN_BUT_SOMEBODY" (2)
  g_BLANK : GInt mg "BLANK" (32)
  g_ACCEPTED : GInt mg "ACCEPTED" (0)
  g_TEXT_NOT_AS_TOLD : GInt mg "TEXT_NOT_AS_TOLD" (-5)
  g_ROOM_NOT_AS_TOLD : GInt mg "ROOM_NOT_AS_TOLD" (-6)
  g_NO_TASKS : GInt mg "NO_TASKS" (-8)
  g_NOT_REFUSED : GInt mg "NOT_REFUSED" (0)
  g_OUT_OF_RANGE : GInt mg "OUT_OF_RANGE" (-1)
  g_NO_HOUSE : GInt mg "NO_HOUSE" (-2)
  g_NOT_THERE : GInt mg "NOT_THERE" (-3)
  g_BEGIN_HOUSE : GInt mg "BEGIN_HOUSE" (0)
  g_ORDER : GInt mg "ORDER" (15)
  b_len : mg "len" = none
  b_range : mg "range" = none
  b_zip : mg "zip" = none
  b_enumerate : mg "enumerate" = none
  b_max : mg "max" = none
  b_sum : mg "sum" = none
  b_sorted : mg "sorted" = none
  b_ord : mg "ord" = none
  r_CODE_NAMES : mg "CODE_NAMES" = some (.ref a.mCODE_NAMES)
  m_CODE_NAMES : TD K a.mCODE_NAMES [.s "VD", .s "VC", .s "VI", .s "OD", .s "OC", .s "OO"]
  r_CALLS : mg "CALLS" = some (.ref a.mCALLS)
  m_CALLS : MD K a.mCALLS [(1, .ref a.f_guest_in), (2, .ref a.f_guest_out), (3, .ref a.f_guest_moves), (4, .ref a.f_night_passes), (5, .ref a.f_maid_reports), (6, .ref a.f_room_inspected), (7, .ref a.f_room_shut), (8, .ref a.f_room_back), (9, .ref a.f_room_due), (10, .ref a.f_room_extra), (11, .ref a.f_work_told), (12, .ref a.f_split_told), (13, .ref a.f_bound_told), (14, .ref a.f_witness_proved), (15, .ref a.f_order_told), (16, .ref a.f_differences_told), (17, .ref a.f_difference_resolved), (18, .ref a.f_room_told), (19, .ref a.f_codes_counted), (20, .ref a.f_board_told), (21, .ref a.f_board_written)]
  x_CALLS : (a.mCALLS == sysModules) = false
  r_RANGES : mg "RANGES" = some (.ref a.mRANGES)
  m_RANGES : MDT K a.mRANGES [(0, .t [.t [.i (1), .i (30)], .t [.i (1), .i (120)], .t [.i (1), .i (120)], .t [.i (0), .i (30)]]), (1, .t [.t [.i (0), .i (29)]]), (2, .t [.t [.i (0), .i (29)]]), (3, .t [.t [.i (0), .i (29)], .t [.i (0), .i (29)]]), (4, .t []), (5, .t [.t [.i (0), .i (29)], .t [.i (0), .i (1)], .t [.i (0), .i (2)]]), (6, .t [.t [.i (0), .i (29)], .t [.i (0), .i (1)]]), (7, .t [.t [.i (0), .i (29)]]), (8, .t [.t [.i (0), .i (29)]]), (9, .t [.t [.i (0), .i (29)], .t [.i (0), .i (1440)]]), (10, .t [.t [.i (0), .i (29)], .t [.i (0), .i (120)]]), (11, .t []), (12, .t [.t [.i (1), .i (8)]]), (13, .t [.t [.i (1), .i (8)]]), (14, .t [.t [.i (1), .i (8)], .t [.i (0), .i (10000)]]), (15, .t [.t [.i (1), .i (8)], .t [.i (1), .i (8)], .t [.i (0), .i (1440)]]), (16, .t []), (17, .t [.t [.i (0), .i (29)], .t [.i (0), .i (1)]]), (18, .t [.t [.i (0), .i (29)]]), (19, .t []), (20, .t []), (21, .t [])]
  x_RANGES : (a.mRANGES == sysModules) = false
  r_ROWS : mg "ROWS" = some (.ref a.mROWS)
  m_ROWS : MDT K a.mROWS [(14, .t [.i (9), .i (0), .i (29)]), (21, .t [.i (100), .i (0), .i (255)])]
  x_ROWS : (a.mROWS == sysModules) = false
  r_ROOMS_NAMED : mg "ROOMS_NAMED" = some (.ref a.mROOMS_NAMED)
  m_ROOMS_NAMED : MDT K a.mROOMS_NAMED [(1, .i (1)), (2, .i (1)), (3, .i (2)), (5, .i (1)), (6, .i (1)), (7, .i (1)), (8, .i (1)), (9, .i (1)), (10, .i (1)), (17, .i (1)), (18, .i (1))]
  x_ROOMS_NAMED : (a.mROOMS_NAMED == sysModules) = false
  c_Room : Cls K a.cRoom
  n_Room_due : NoAttr K a.cRoom "due"
  n_Room_extra : NoAttr K a.cRoom "extra"
  n_Room_seen : NoAttr K a.cRoom "seen"
  n_Room_shut : NoAttr K a.cRoom "shut"
  n_Room_state : NoAttr K a.cRoom "state"
  n_Room_taken : NoAttr K a.cRoom "taken"
  n_Room_today : NoAttr K a.cRoom "today"
  k_Room : MkD K mg "Room" a.cRoom "Room.__init__" s_Room_init ["self"]
  c_House : Cls K a.cHouse
  n_House_check : NoAttr K a.cHouse "check"
  n_House_day : NoAttr K a.cHouse "day"
  n_House_heavy : NoAttr K a.cHouse "heavy"
  n_House_light : NoAttr K a.cHouse "light"
  n_House_rooms : NoAttr K a.cHouse "rooms"
  k_House : MkD K mg "House" a.cHouse "House.__init__" s_House_init ["self", "how_many_rooms", "heavy", "light", "check"]
  c_Task : Cls K a.cTask
  n_Task_due : NoAttr K a.cTask "due"
  n_Task_minutes : NoAttr K a.cTask "minutes"
  n_Task_number : NoAttr K a.cTask "number"
  k_Task : MkD K mg "Task" a.cTask "Task.__init__" s_Task_init ["self", "number", "minutes", "due"]
  d_forget_the_day : Def K mg "forget_the_day" "forget_the_day" s_forget_the_day ["room"]
  d_make_vacated : Def K mg "make_vacated" "make_vacated" s_make_vacated ["room"]
  d_make_filled : Def K mg "make_filled" "make_filled" s_make_filled ["room"]
  d_code_of : Def K mg "code_of" "code_of" s_code_of ["room"]
  d_difference_about : Def K mg "difference_about" "difference_about" s_difference_about ["room"]
  d_minutes_of : Def K mg "minutes_of" "minutes_of" s_minutes_of ["house", "room"]
  d_tasks_of : Def K mg "tasks_of" "tasks_of" s_tasks_of ["house"]
  d_letters_of : Def K mg "letters_of" "letters_of" s_letters_of ["name"]
  d_text_of : Def K mg "text_of" "text_of" s_text_of ["rooms"]
  d_code_named : Def K mg "code_named" "code_named" s_code_named ["letters"]
  d_codes_in : Def K mg "codes_in" "codes_in" s_codes_in ["text"]
  d_state_written : Def K mg "state_written" "state_written" s_state_written ["code"]
  d_give_code : Def K mg "give_code" "give_code" s_give_code ["room", "code"]
  d_attendants_needed : Def K mg "attendants_needed" "attendants_needed" s_attendants_needed ["minutes", "most"]
  d_least_greatest_load : Def K mg "least_greatest_load" "least_greatest_load" s_least_greatest_load ["minutes", "how_many"]
  d_best_share : Def K mg "best_share" "best_share" s_best_share ["minutes", "begin", "most", "behind"]
  d_best_shares : Def K mg "best_shares" "best_shares" s_best_shares ["minutes", "how_many", "most"]
  d_parting_told : Def K mg "parting_told" "parting_told" s_parting_told ["minutes", "how_many"]
  d_first_place_reaching : Def K mg "first_place_reaching" "first_place_reaching" s_first_place_reaching ["minutes", "begin", "load"]
  d_witness_told : Def K mg "witness_told" "witness_told" s_witness_told ["minutes", "how_many"]
  d_is_witness : Def K mg "is_witness" "is_witness" s_is_witness ["minutes", "how_many", "load", "places"]
  d_row_of : Def K mg "row_of" "row_of" s_row_of ["numbers"]
  d_minutes_in_order : Def K mg "minutes_in_order" "minutes_in_order" s_minutes_in_order ["tasks"]
  d_guest_in : Def K mg "guest_in" "guest_in" s_guest_in ["house", "numbers"]
  d_guest_out : Def K mg "guest_out" "guest_out" s_guest_out ["house", "numbers"]
  d_guest_moves : Def K mg "guest_moves" "guest_moves" s_guest_moves ["house", "numbers"]
  d_night_passes : Def K mg "night_passes" "night_passes" s_night_passes ["house", "numbers"]
  d_maid_reports : Def K mg "maid_reports" "maid_reports" s_maid_reports ["house", "numbers"]
  d_room_inspected : Def K mg "room_inspected" "room_inspected" s_room_inspected ["house", "numbers"]
  d_room_shut : Def K mg "room_shut" "room_shut" s_room_shut ["house", "numbers"]
  d_room_back : Def K mg "room_back" "room_back" s_room_back ["house", "numbers"]
  d_room_due : Def K mg "room_due" "room_due" s_room_due ["house", "numbers"]
  d_room_extra : Def K mg "room_extra" "room_extra" s_room_extra ["house", "numbers"]
  d_work_told : Def K mg "work_told" "work_told" s_work_told ["house", "numbers"]
  d_split_told : Def K mg "split_told" "split_told" s_split_told ["house", "numbers"]
  d_bound_told : Def K mg "bound_told" "bound_told" s_bound_told ["house", "numbers"]
  d_witness_proved : Def K mg "witness_proved" "witness_proved" s_witness_proved ["house", "numbers"]
  d_due_ones_first : Def K mg "due_ones_first" "due_ones_first" s_due_ones_first ["tasks"]
  d_order_told : Def K mg "order_told" "order_told" s_order_told ["house", "numbers"]
  d_differences_told : Def K mg "differences_told" "differences_told" s_differences_told ["house", "numbers"]
  d_difference_resolved : Def K mg "difference_resolved" "difference_resolved" s_difference_resolved ["house", "numbers"]
  d_room_told : Def K mg "room_told" "room_told" s_room_told ["house", "numbers"]
  d_codes_counted : Def K mg "codes_counted" "codes_counted" s_codes_counted ["house", "numbers"]
  d_board_told : Def K mg "board_told" "board_told" s_board_told ["house", "numbers"]
  d_board_written : Def K mg "board_written" "board_written" s_board_written ["house", "numbers"]
  d_carry_out : Def K mg "carry_out" "carry_out" s_carry_out ["house", "number", "numbers"]
  d_all_in_range : Def K mg "all_in_range" "all_in_range" s_all_in_range ["number", "numbers"]
  d_row_as_told : Def K mg "row_as_told" "row_as_told" s_row_as_told ["number", "row"]
  d_all_rooms_there : Def K mg "all_rooms_there" "all_rooms_there" s_all_rooms_there ["house", "number", "numbers"]
  d_attendant_there : Def K mg "attendant_there" "attendant_there" s_attendant_there ["number", "numbers"]
  d_early_refusal : Def K mg "early_refusal" "early_refusal" s_early_refusal ["house", "number", "numbers", "row"]
  d_row_at : Def K mg "row_at" "row_at" s_row_at ["calls", "number", "at"]
  d_answers : Def K mg "answers" "answers" s_answers ["calls"]
  q_guest_in : mg "guest_in" = some (.ref a.f_guest_in)
  q_guest_out : mg "guest_out" = some (.ref a.f_guest_out)
  q_guest_moves : mg "guest_moves" = some (.ref a.f_guest_moves)
  q_night_passes : mg "night_passes" = some (.ref a.f_night_passes)
  q_maid_reports : mg "maid_reports" = some (.ref a.f_maid_reports)
  q_room_inspected : mg "room_inspected" = some (.ref a.f_room_inspected)
  q_room_shut : mg "room_shut" = some (.ref a.f_room_shut)
  q_room_back : mg "room_back" = some (.ref a.f_room_back)
  q_room_due : mg "room_due" = some (.ref a.f_room_due)
  q_room_extra : mg "room_extra" = some (.ref a.f_room_extra)
  q_work_told : mg "work_told" = some (.ref a.f_work_told)
  q_split_told : mg "split_told" = some (.ref a.f_split_told)
  q_bound_told : mg "bound_told" = some (.ref a.f_bound_told)
  q_witness_proved : mg "witness_proved" = some (.ref a.f_witness_proved)
  q_order_told : mg "order_told" = some (.ref a.f_order_told)
  q_differences_told : mg "differences_told" = some (.ref a.f_differences_told)
  q_difference_resolved : mg "difference_resolved" = some (.ref a.f_difference_resolved)
  q_room_told : mg "room_told" = some (.ref a.f_room_told)
  q_codes_counted : mg "codes_counted" = some (.ref a.f_codes_counted)
  q_board_told : mg "board_told" = some (.ref a.f_board_told)
  q_board_written : mg "board_written" = some (.ref a.f_board_written)
def sd (s : Option Bool) : Int := match s with
  | none => 0
  | some false => 1
  | some true => 2
def rf (r : Vbhoak.Room) : List (Str × V) := [("taken", .bl r.taken), ("state", .int (r.clean : Int)), ("shut", .bl r.shut), ("due", .int (r.due : Int)), ("extra", .int (r.extra : Int)), ("seen", .int (sd r.said)), ("today", .int (r.asked : Int))]
def RoomAt (a : Ad) (H : Hp) (p : Addr) (r : Vbhoak.Room) : Prop := ∃ dx, H p = some (.ins a.cRoom dx (rf r))
def Ch (H H' : Hp) (p : Addr) : Prop := ∀ b o, H b = some o -> b ≠ p -> H' b = some o
theorem Ch.refl (H : Hp) (p : Addr) : Ch H H p := fun _ _ h _ => h
theorem Ch.trans {H H1 H2 : Hp} {p : Addr} (x : Ch H H1 p) (y : Ch H1 H2 p) : Ch H H2 p := fun b o h n => y b o (x b o h n) n
theorem Ch.upd {H : Hp} {p : Addr} {o : HO} : Ch H (upd H p o) p := fun b o h n => by rw [upd_ne n]; exact h
section
variable {K : PySem.W.Frag} {mg : Str -> Option Value} {a : Ad} {H : Hp} {p : Addr} {r : Vbhoak.Room} {σ : L2.St} {i : Nat} {Q : VK} {D : Ends} {tv : TE}
theorem Txt.rd_taken (T : Txt K mg a) (h : RoomAt a H p r) (hσ : σ[i]? = some (some (.ref p))) (q : Q (.bl r.taken) H) : tFld K (tVar i) "taken" σ H Q := let ⟨dx, e⟩ := h; ⟨_, hσ, p, _, dx, _, _, rfl, e, T.c_Room, T.n_Room_taken, rfl, q⟩
theorem Txt.rd_state (T : Txt K mg a) (h : RoomAt a H p r) (hσ : σ[i]? = some (some (.ref p))) (q : Q (.int (r.clean : Int)) H) : tFld K (tVar i) "state" σ H Q := let ⟨dx, e⟩ := h; ⟨_, hσ, p, _, dx, _, _, rfl, e, T.c_Room, T.n_Room_state, rfl, q⟩
theorem Txt.rd_shut (T : Txt K mg a) (h : RoomAt a H p r) (hσ : σ[i]? = some (some (.ref p))) (q : Q (.bl r.shut) H) : tFld K (tVar i) "shut" σ H Q := let ⟨dx, e⟩ := h; ⟨_, hσ, p, _, dx, _, _, rfl, e, T.c_Room, T.n_Room_shut, rfl, q⟩
theorem Txt.rd_due (T : Txt K mg a) (h : RoomAt a H p r) (hσ : σ[i]? = some (some (.ref p))) (q : Q (.int (r.due : Int)) H) : tFld K (tVar i) "due" σ H Q := let ⟨dx, e⟩ := h; ⟨_, hσ, p, _, dx, _, _, rfl, e, T.c_Room, T.n_Room_due, rfl, q⟩
theorem Txt.rd_extra (T : Txt K mg a) (h : RoomAt a H p r) (hσ : σ[i]? = some (some (.ref p))) (q : Q (.int (r.extra : Int)) H) : tFld K (tVar i) "extra" σ H Q := let ⟨dx, e⟩ := h; ⟨_, hσ, p, _, dx, _, _, rfl, e, T.c_Room, T.n_Room_extra, rfl, q⟩
theorem Txt.rd_seen (T : Txt K mg a) (h : RoomAt a H p r) (hσ : σ[i]? = some (some (.ref p))) (q : Q (.int (sd r.said)) H) : tFld K (tVar i) "seen" σ H Q := let ⟨dx, e⟩ := h; ⟨_, hσ, p, _, dx, _, _, rfl, e, T.c_Room, T.n_Room_seen, rfl, q⟩
theorem Txt.rd_today (T : Txt K mg a) (h : RoomAt a H p r) (hσ : σ[i]? = some (some (.ref p))) (q : Q (.int (r.asked : Int)) H) : tFld K (tVar i) "today" σ H Q := let ⟨dx, e⟩ := h; ⟨_, hσ, p, _, dx, _, _, rfl, e, T.c_Room, T.n_Room_today, rfl, q⟩
abbrev StB (a : Ad) (p : Addr) (r : Vbhoak.Room) (g : Bool -> Vbhoak.Room) (D : Ends) (σ : L2.St) : VK := fun y H1 => ∃ b, y = .bl b /\ RoomAt a H1 p r /\ ∀ H', RoomAt a H' p (g b) -> Ch H1 H' p -> D.nx σ H'
abbrev StI (a : Ad) (p : Addr) (r : Vbhoak.Room) (g : Nat -> Vbhoak.Room) (D : Ends) (σ : L2.St) : VK := fun y H1 => ∃ n : Nat, y = .int (n : Int) /\ RoomAt a H1 p r /\ ∀ H', RoomAt a H' p (g n) -> Ch H1 H' p -> D.nx σ H'
abbrev StS (a : Ad) (p : Addr) (r : Vbhoak.Room) (g : Option Bool -> Vbhoak.Room) (D : Ends) (σ : L2.St) : VK := fun y H1 => ∃ s, y = .int (sd s) /\ RoomAt a H1 p r /\ ∀ H', RoomAt a H' p (g s) -> Ch H1 H' p -> D.nx σ H'
def Mono (t : TE) : Prop := ∀ (σ : L2.St) (H : Hp) (Q Q' : VK), (∀ v H1, Q v H1 -> Q' v H1) -> t σ H Q -> t σ H Q'
theorem mono_c (v : V) : Mono (tC v) := fun _ _ _ _ h q => h _ _ q
theorem mono_var (j : Nat) : Mono (tVar j) := fun _ _ _ _ h ⟨v, e, q⟩ => ⟨v, e, h _ _ q⟩
theorem st_of {C : Addr} {f : Str} {P : V -> Hp -> Prop} (m : Mono tv) (hσ : σ[i]? = some (some (.ref p))) (hv : tv σ H P)
    (hk : ∀ y H1, P y H1 -> ∃ dx fs, H1 p = some (.ins C dx fs) /\ Cls K C /\ NoAttr K C f /\ fs.length < 1000 /\ D.nx σ (upd H1 p (.ins C dx (putF f y fs)))) : sFld K (tVar i) tv f D σ H :=
  m σ H _ _ (fun y H1 q => let ⟨dx, fs, h1, h2, h3, h4, h5⟩ := hk y H1 q; ⟨_, hσ, p, C, dx, fs, rfl, h1, h2, h3, h4, h5⟩) hv
theorem Txt.st_taken (T : Txt K mg a) (hσ : σ[i]? = some (some (.ref p))) (m : Mono tv) (h : tv σ H (StB a p r (fun b => { r with taken := b }) D σ)) : sFld K (tVar i) tv "taken" D σ H :=
  st_of m hσ h fun y H1 ⟨b, e, ⟨dx, hp⟩, k⟩ => ⟨dx, _, hp, T.c_Room, T.n_Room_taken, (by show 7 < 1000; decide), (by subst e; exact k _ ⟨dx, upd_same⟩ Ch.upd)⟩
theorem Txt.st_state (T : Txt K mg a) (hσ : σ[i]? = some (some (.ref p))) (m : Mono tv) (h : tv σ H (StI a p r (fun b => { r with clean := b }) D σ)) : sFld K (tVar i) tv "state" D σ H :=
  st_of m hσ h fun y H1 ⟨b, e, ⟨dx, hp⟩, k⟩ => ⟨dx, _, hp, T.c_Room, T.n_Room_state, (by show 7 < 1000; decide), (by subst e; exact k _ ⟨dx, upd_same⟩ Ch.upd)⟩
theorem Txt.st_shut (T : Txt K mg a) (hσ : σ[i]? = some (some (.ref p))) (m : Mono tv) (h : tv σ H (StB a p r (fun b => { r with shut := b }) D σ)) : sFld K (tVar i) tv "shut" D σ H :=
  st_of m hσ h fun y H1 ⟨b, e, ⟨dx, hp⟩, k⟩ => ⟨dx, _, hp, T.c_Room, T.n_Room_shut, (by show 7 < 1000; decide), (by subst e; exact k _ ⟨dx, upd_same⟩ Ch.upd)⟩
theorem Txt.st_due (T : Txt K mg a) (hσ : σ[i]? = some (some (.ref p))) (m : Mono tv) (h : tv σ H (StI a p r (fun b => { r with due := b }) D σ)) : sFld K (tVar i) tv "due" D σ H :=
  st_of m hσ h fun y H1 ⟨b, e, ⟨dx, hp⟩, k⟩ => ⟨dx, _, hp, T.c_Room, T.n_Room_due, (by show 7 < 1000; decide), (by subst e; exact k _ ⟨dx, upd_same⟩ Ch.upd)⟩
theorem Txt.st_extra (T : Txt K mg a) (hσ : σ[i]? = some (some (.ref p))) (m : Mono tv) (h : tv σ H (StI a p r (fun b => { r with extra := b }) D σ)) : sFld K (tVar i) tv "extra" D σ H :=
  st_of m hσ h fun y H1 ⟨b, e, ⟨dx, hp⟩, k⟩ => ⟨dx, _, hp, T.c_Room, T.n_Room_extra, (by show 7 < 1000; decide), (by subst e; exact k _ ⟨dx, upd_same⟩ Ch.upd)⟩
theorem Txt.st_seen (T : Txt K mg a) (hσ : σ[i]? = some (some (.ref p))) (m : Mono tv) (h : tv σ H (StS a p r (fun b => { r with said := b }) D σ)) : sFld K (tVar i) tv "seen" D σ H :=
  st_of m hσ h fun y H1 ⟨b, e, ⟨dx, hp⟩, k⟩ => ⟨dx, _, hp, T.c_Room, T.n_Room_seen, (by show 7 < 1000; decide), (by subst e; exact k _ ⟨dx, upd_same⟩ Ch.upd)⟩
theorem Txt.st_today (T : Txt K mg a) (hσ : σ[i]? = some (some (.ref p))) (m : Mono tv) (h : tv σ H (StI a p r (fun b => { r with asked := b }) D σ)) : sFld K (tVar i) tv "today" D σ H :=
  st_of m hσ h fun y H1 ⟨b, e, ⟨dx, hp⟩, k⟩ => ⟨dx, _, hp, T.c_Room, T.n_Room_today, (by show 7 < 1000; decide), (by subst e; exact k _ ⟨dx, upd_same⟩ Ch.upd)⟩
end
def spCh (a : Ad) (g : Vbhoak.Room -> Vbhoak.Room) : Sp := fun vs H Q _ => ∃ (p : Addr) (r : Vbhoak.Room), vs = [.ref p] /\ RoomAt a H p r /\ ∀ H', RoomAt a H' p (g r) -> Ch H H' p -> Q .non H'
def spAsk (a : Ad) (ok : Vbhoak.Room -> Prop) (g : Vbhoak.Room -> Int) : Sp := fun vs H Q _ => ∃ (p : Addr) (r : Vbhoak.Room), vs = [.ref p] /\ RoomAt a H p r /\ ok r /\ Q (.int (g r)) H
def forgot (r : Vbhoak.Room) : Vbhoak.Room := { r with due := 0, said := none, asked := 0 }
section
variable {P : Program} {w : World} {K : PySem.W.Frag} {mg : Str -> Option Value} {base : Heap} {a : Ad}
theorem ok_forget (T : Txt K mg a) : COk P w K mg base 1 "forget_the_day" (spCh a forgot) := by
  have sc := sc_forget_the_day
  refine T.d_forget_the_day.ok sc (fun vs H Q E h => ?_) (fun f cdv A outer s H vs Q E hr h => ?_)
  . obtain ⟨p, r, rfl, _⟩ := h; rfl
  . obtain ⟨p, r, rfl, hR, k⟩ := h
    refine ⟨_, (pss_cons (ps_fld (pv 0) pe_int rfl)
      (pss_cons (ps_fld (pv 0) (pe_gint rfl T.g_NOTHING_SEEN) rfl)
      (pss_one (ps_fld (pv 0) (pe_gint rfl T.g_NOTHING_TODAY) rfl)))), ?_⟩
    refine T.st_due rfl (mono_c _) ⟨0, rfl, hR, fun H1 h1 c1 => ?_⟩
    refine T.st_seen rfl (mono_c _) ⟨none, rfl, h1, fun H2 h2 c2 => ?_⟩
    refine T.st_today rfl (mono_c _) ⟨0, rfl, h2, fun H3 h3 c3 => ?_⟩
    exact k H3 h3 ((c1.trans c2).trans c3)
theorem ok_vacated (T : Txt K mg a) : COk P w K mg base 2 "make_vacated" (spCh a Vbhoak.vacated) := by
  have sc := sc_make_vacated
  have C_forget_the_day := ok_forget (P := P) (w := w) (base := base) T
  refine T.d_make_vacated.ok sc (fun vs H Q E h => ?_) (fun f cdv A outer s H vs Q E hr h => ?_)
  . obtain ⟨p, r, rfl, _⟩ := h; rfl
  . obtain ⟨p, r, rfl, hR, k⟩ := h
    refine ⟨_, (pss_cons (ps_fld (pv 0) pe_bl rfl)
      (pss_cons (ps_fld (pv 0) (pe_gint rfl T.g_DIRTY) rfl)
      (pss_cons (ps_fld (pv 0) pe_bl rfl)
      (pss_one (ps_expr (pe_callN C_forget_the_day hr rfl (pa_cons (pv 0) pa_nil))))))), ?_⟩
    refine T.st_taken rfl (mono_c _) ⟨false, rfl, hR, fun H1 h1 c1 => ?_⟩
    refine T.st_state rfl (mono_c _) ⟨0, rfl, h1, fun H2 h2 c2 => ?_⟩
    refine T.st_shut rfl (mono_c _) ⟨false, rfl, h2, fun H3 h3 c3 => ?_⟩
    refine ⟨_, rfl, p, _, rfl, h3, fun H4 h4 c4 => ?_⟩
    exact k H4 h4 (((c1.trans c2).trans c3).trans c4)
theorem ok_filled (T : Txt K mg a) : COk P w K mg base 3 "make_filled" (spCh a Vbhoak.filled) := by
  have sc := sc_make_filled
  have C_make_vacated := ok_vacated (P := P) (w := w) (base := base) T
  refine T.d_make_filled.ok sc (fun vs H Q E h => ?_) (fun f cdv A outer s H vs Q E hr h => ?_)
  . obtain ⟨p, r, rfl, _⟩ := h; rfl
  . obtain ⟨p, r, rfl, hR, k⟩ := h
    refine ⟨_, (pss_cons (ps_expr (pe_callN C_make_vacated hr rfl (pa_cons (pv 0) pa_nil)))
      (pss_cons (ps_fld (pv 0) pe_bl rfl)
      (pss_one (ps_fld (pv 0) (pe_gint rfl T.g_CLEANED) rfl)))), ?_⟩
    refine ⟨_, rfl, p, _, rfl, hR, fun H1 h1 c1 => ?_⟩
    refine T.st_taken rfl (mono_c _) ⟨true, rfl, h1, fun H2 h2 c2 => ?_⟩
    refine T.st_state rfl (mono_c _) ⟨1, rfl, h2, fun H3 h3 c3 => ?_⟩
    exact k H3 h3 ((c1.trans c2).trans c3)
theorem ok_code (T : Txt K mg a) : COk P w K mg base 1 "code_of" (spAsk a (fun r => r.clean <= 2) (fun r => (Vbhoak.codeOf r : Int))) := by
  have sc := sc_code_of
  refine T.d_code_of.ok sc (fun vs H Q E h => ?_) (fun f cdv A outer s H vs Q E hr h => ?_)
  . obtain ⟨p, r, rfl, _⟩ := h; rfl
  . obtain ⟨p, r, rfl, hR, hc, k⟩ := h
    have k : Q (.int (Vbhoak.codeOf r : Int)) H := k
    refine ⟨_, (pss_cons (ps_if (pt_val (pe_fld (pv 0) rfl)) (pss_one (ps_ret (pe_gint rfl T.g_OO))) pss_nil)
      (pss_cons (ps_if (pt_val (pe_fld (pv 0) rfl)) (pss_one (ps_ret (pe_ifExp (pt_cmpR op_eq (pe_fld (pv 0) rfl) (pe_gint rfl T.g_DIRTY) (nomark _)) (pe_gint rfl T.g_OD) (pe_gint rfl T.g_OC)))) pss_nil)
      (pss_cons (ps_if (pt_cmpR op_eq (pe_fld (pv 0) rfl) (pe_gint rfl T.g_DIRTY) (nomark _)) (pss_one (ps_ret (pe_gint rfl T.g_VD))) pss_nil)
      (pss_cons (ps_if (pt_cmpR op_eq (pe_fld (pv 0) rfl) (pe_gint rfl T.g_CLEANED) (nomark _)) (pss_one (ps_ret (pe_gint rfl T.g_VC))) pss_nil)
      (pss_one (ps_ret (pe_gint rfl T.g_VI))))))), ?_⟩
    dsimp only [tSeq, tIfS, tB, tTest, tOp, tRet, tIf, tAnd, tNot, tOr, tNext, tC]
    refine T.rd_shut hR rfl ⟨_, rfl, ite2 (fun h1 => ?_) (fun h1 => ?_)⟩
    . have e : (Vbhoak.codeOf r : Int) = 5 := by simp [Vbhoak.codeOf, h1]
      rw [e] at k
      exact k
    refine T.rd_taken hR rfl ⟨_, rfl, ite2 (fun h2 => ?_) (fun h2 => ?_)⟩
    . refine T.rd_state hR rfl ⟨rfl, _, rfl, ite2 (fun h3 => ?_) (fun h3 => ?_)⟩
      . have e : (Vbhoak.codeOf r : Int) = 3 := by
          have h3 : r.clean = 0 := by simpa using h3
          simp [Vbhoak.codeOf, h1, h2, h3]
        rw [e] at k
        exact k
      . have e : (Vbhoak.codeOf r : Int) = 4 := by
          have h3 : ¬ r.clean = 0 := by simpa using h3
          simp [Vbhoak.codeOf, h1, h2, h3]
        rw [e] at k
        exact k
    refine T.rd_state hR rfl ⟨rfl, _, rfl, ite2 (fun h3 => ?_) (fun h3 => ?_)⟩
    . have e : (Vbhoak.codeOf r : Int) = 0 := by
        have h3 : r.clean = 0 := by simpa using h3
        simp [Vbhoak.codeOf, h1, h2, h3]
      rw [e] at k
      exact k
    refine T.rd_state hR rfl ⟨rfl, _, rfl, ite2 (fun h4 => ?_) (fun h4 => ?_)⟩
    . have e : (Vbhoak.codeOf r : Int) = 1 := by
        have h4 : r.clean = 1 := by simp at h4; omega
        simp [Vbhoak.codeOf, h1, h2, h4]
      rw [e] at k
      exact k
    . have e : (Vbhoak.codeOf r : Int) = 2 := by
        have h4 : r.clean = 2 := by
          simp at h3 h4
          omega
        simp [Vbhoak.codeOf, h1, h2, h4]
      rw [e] at k
      exact k
theorem ok_diff (T : Txt K mg a) : COk P w K mg base 1 "difference_about" (spAsk a (fun _ => True) (fun r => (Vbhoak.differs r : Int))) := by
  have sc := sc_difference_about
  refine T.d_difference_about.ok sc (fun vs H Q E h => ?_) (fun f cdv A outer s H vs Q E hr h => ?_)
  . obtain ⟨p, r, rfl, _⟩ := h; rfl
  . obtain ⟨p, r, rfl, hR, hc, k⟩ := h
    have k : Q (.int (Vbhoak.differs r : Int)) H := k
    refine ⟨_, (pss_cons (ps_if (PW.pt (pw_and (pt_val (pe_fld (pv 0) rfl)) (pw_and1 (pt_cmpR op_eq (pe_fld (pv 0) rfl) (pe_gint rfl T.g_NOBODY_SEEN) (nomark _))))) (pss_one (ps_ret (pe_gint rfl T.g_TAKEN_BUT_NOBODY))) pss_nil)
      (pss_cons (ps_if (PW.pt (pw_and (pt_not (pt_val (pe_fld (pv 0) rfl))) (pw_and1 (pt_cmpR op_eq (pe_fld (pv 0) rfl) (pe_gint rfl T.g_SOMEBODY_SEEN) (nomark _))))) (pss_one (ps_ret (pe_gint rfl T.g_NOT_TAKEN_BUT_SOMEBODY))) pss_nil)
      (pss_one (ps_ret (pe_gint rfl T.g_NO_DIFFERENCE))))), ?_⟩
    dsimp only [tSeq, tIfS, tB, tTest, tOp, tRet, tIf, tAnd, tNot, tOr, tNext, tC]
    obtain ⟨tk, cl, sh, du, ex, sa, as⟩ := r
    cases tk with
    | true =>
      refine T.rd_taken hR rfl ⟨_, rfl, iteT ?_⟩
      refine T.rd_seen hR rfl ⟨rfl, _, rfl, ?_⟩
      match sa, hR, k with
      | none, hR, k => exact iteF (T.rd_taken hR rfl ⟨_, rfl, iteF (iteF k)⟩)
      | some false, hR, k => exact iteT k
      | some true, hR, k => exact iteF (T.rd_taken hR rfl ⟨_, rfl, iteF (iteF k)⟩)
    | false =>
      refine T.rd_taken hR rfl ⟨_, rfl, iteF (iteF ?_)⟩
      refine T.rd_taken hR rfl ⟨_, rfl, iteT ?_⟩
      refine T.rd_seen hR rfl ⟨rfl, _, rfl, ?_⟩
      match sa, hR, k with
      | none, hR, k => exact iteF k
      | some false, hR, k => exact iteF k
      | some true, hR, k => exact iteT k
end
def hf (l : Addr) (h : Vbhoak.House) : List (Str × V) := [("rooms", .ref l), ("heavy", .int (h.heavy : Int)), ("light", .int (h.light : Int)), ("check", .int (h.check : Int)), ("day", .int (h.day : Int))]
structure HouseAt (a : Ad) (H : Hp) (hp l : Addr) (as : List Addr) (h : Vbhoak.House) : Prop where
  obj : ∃ dx, H hp = some (.ins a.cHouse dx (hf l h))
  lst : H l = some (.lst (as.map V.ref))
  nd : as.Nodup
  len : as.length = h.rooms.length
  at_ : ∀ (j : Nat) (p : Addr) (r : Vbhoak.Room), as[j]? = some p -> h.rooms[j]? = some r -> RoomAt a H p r
  out : hp ∉ as
def ChS (H H' : Hp) (S : List Addr) : Prop := ∀ b o, H b = some o -> b ∉ S -> H' b = some o
theorem ChS.refl (H : Hp) (S : List Addr) : ChS H H S := fun _ _ h _ => h
theorem ChS.trans {H H1 H2 : Hp} {S : List Addr} (x : ChS H H1 S) (y : ChS H1 H2 S) : ChS H H2 S := fun b o h n => y b o (x b o h n) n
theorem Ch.toS {H H' : Hp} {p : Addr} {S : List Addr} (x : Ch H H' p) (m : p ∈ S) : ChS H H' S := fun b o h n => x b o h fun e => n (e ▸ m)
theorem ChS.new {H : Hp} {S : List Addr} {q : Addr} {o : HO} (hq : H q = Option.none) : ChS H (upd H q o) S := fun b u h _ => by rw [upd_ne (ne_of_none h hq)]; exact h
structure GoodR (r : Vbhoak.Room) : Prop where
  clean : r.clean <= 2
  due : r.due <= 1440
  extra : r.extra <= 120
  asked : r.asked <= 2
  shut : r.shut = true -> r.taken = false /\ r.clean = 0 /\ r.said = none
structure Good (h : Vbhoak.House) : Prop where
  len : h.rooms.length <= 30
  heavy : h.heavy <= 120
  light : h.light <= 120
  check : h.check <= 30
  rooms : ∀ r ∈ h.rooms, GoodR r
section
variable {K : PySem.W.Frag} {mg : Str -> Option Value} {a : Ad} {H H' : Hp} {hp l np p : Addr} {as : List Addr} {h : Vbhoak.House} {r r' : Vbhoak.Room} {σ : L2.St} {i j : Nat} {Q : VK} {D : Ends} {tv : TE} {ns : List Int}
theorem Txt.rd_rooms (T : Txt K mg a) (hH : HouseAt a H hp l as h) (hσ : σ[i]? = some (some (.ref hp))) (q : Q (.ref l) H) : tFld K (tVar i) "rooms" σ H Q := let ⟨dx, e⟩ := hH.obj; ⟨_, hσ, hp, _, dx, _, _, rfl, e, T.c_House, T.n_House_rooms, rfl, q⟩
theorem Txt.rd_heavy (T : Txt K mg a) (hH : HouseAt a H hp l as h) (hσ : σ[i]? = some (some (.ref hp))) (q : Q (.int (h.heavy : Int)) H) : tFld K (tVar i) "heavy" σ H Q := let ⟨dx, e⟩ := hH.obj; ⟨_, hσ, hp, _, dx, _, _, rfl, e, T.c_House, T.n_House_heavy, rfl, q⟩
theorem Txt.rd_light (T : Txt K mg a) (hH : HouseAt a H hp l as h) (hσ : σ[i]? = some (some (.ref hp))) (q : Q (.int (h.light : Int)) H) : tFld K (tVar i) "light" σ H Q := let ⟨dx, e⟩ := hH.obj; ⟨_, hσ, hp, _, dx, _, _, rfl, e, T.c_House, T.n_House_light, rfl, q⟩
theorem Txt.rd_check (T : Txt K mg a) (hH : HouseAt a H hp l as h) (hσ : σ[i]? = some (some (.ref hp))) (q : Q (.int (h.check : Int)) H) : tFld K (tVar i) "check" σ H Q := let ⟨dx, e⟩ := hH.obj; ⟨_, hσ, hp, _, dx, _, _, rfl, e, T.c_House, T.n_House_check, rfl, q⟩
theorem Txt.rd_day (T : Txt K mg a) (hH : HouseAt a H hp l as h) (hσ : σ[i]? = some (some (.ref hp))) (q : Q (.int (h.day : Int)) H) : tFld K (tVar i) "day" σ H Q := let ⟨dx, e⟩ := hH.obj; ⟨_, hσ, hp, _, dx, _, _, rfl, e, T.c_House, T.n_House_day, rfl, q⟩
theorem rd_num {xs : List V} {k n : Nat} {v : V} (hN : SqL K H np xs) (hk : xs[k]? = some v) (q : Q v H) : rIxL K (.ref np) (.int (k : Int)) H Q := ⟨np, xs, _, v, rfl, rfl, hN, atI_nat hk, q⟩
theorem Txt.rd_room (T : Txt K mg a) (k : Nat) {n : Nat} (hH : HouseAt a H hp l as h) (h0 : σ[i]? = some (some (.ref hp))) (h1 : σ[j]? = some (some (.ref np))) (hN : H np = some (.lst (ns.map V.int))) (hk : ns[k]? = some (n : Int)) (hp : as[n]? = some p) (q : Q (.ref p) H) :
    tFld K (tVar i) "rooms" σ H fun x H1 => tVar j σ H1 fun x1 H2 => rIxL K x1 (.int (k : Int)) H2 fun y H3 => rIxL K x y H3 Q := by
  refine T.rd_rooms hH h0 ⟨_, h1, rd_num (n := 0) (SqL.of hN) (v := .int (n : Int)) (by rw [List.getElem?_map, hk]; rfl) (rd_num (n := 0) (SqL.of hH.lst) (v := .ref p) (by rw [List.getElem?_map, hp]; rfl) q)⟩
theorem HouseAt.room (hH : HouseAt a H hp l as h) {n : Nat} (hn : n < h.rooms.length) : ∃ p r, as[n]? = some p /\ h.rooms[n]? = some r /\ RoomAt a H p r /\ p ∈ as := by
  have h1 : n < as.length := by rw [hH.len]; exact hn
  exact ⟨as[n], h.rooms[n], List.getElem?_eq_getElem h1, List.getElem?_eq_getElem hn, hH.at_ n _ _ (List.getElem?_eq_getElem h1) (List.getElem?_eq_getElem hn), List.getElem_mem h1⟩
theorem HouseAt.set (hH : HouseAt a H hp l as h) {n : Nat} (hp' : as[n]? = some p) (hR : RoomAt a H' p r') (c : Ch H H' p) (hn : n < h.rooms.length) : HouseAt a H' hp l as (Vbhoak.setRoom h n r') := by
  have hm : p ∈ as := List.mem_of_getElem? hp'
  obtain ⟨dx0, e0⟩ := hH.at_ n p h.rooms[n] hp' (List.getElem?_eq_getElem hn)
  obtain ⟨dx, e⟩ := hH.obj
  have nl : l ≠ p := ne_of hH.lst e0 (by intro z; cases z)
  have nh : hp ≠ p := fun z => hH.out (z ▸ hm)
  refine ⟨⟨dx, c hp _ e nh⟩, c l _ hH.lst nl, hH.nd, by rw [hH.len]; simp [Vbhoak.setRoom], fun j q s hq hs => ?_, hH.out⟩
  by_cases hj : j = n
  . subst hj
    have eq : q = p := Option.some.inj (hq.symm.trans hp')
    subst eq
    have es : r' = s := by simpa [Vbhoak.setRoom, hn] using hs
    subst es
    exact hR
  . have hs' : h.rooms[j]? = some s := by
      have z : (h.rooms.set n r')[j]? = some s := hs
      rwa [List.getElem?_set_ne (fun z => hj z.symm)] at z
    obtain ⟨dq, eq⟩ := hH.at_ j q s hq hs'
    have nq : q ≠ p := fun z => hj (nd_ix hH.nd hq (by rw [z]; exact hp'))
    exact ⟨dq, c q _ eq nq⟩
theorem HouseAt.same (hH : HouseAt a H hp l as h) (s : Same H H') : HouseAt a H' hp l as h :=
  ⟨let ⟨dx, e⟩ := hH.obj; ⟨dx, s _ _ e⟩, s _ _ hH.lst, hH.nd, hH.len, fun j p r h1 h2 => let ⟨dx, e⟩ := hH.at_ j p r h1 h2; ⟨dx, s _ _ e⟩, hH.out⟩
theorem Same.new {q : Addr} {o : HO} (hq : H q = Option.none) : Same H (upd H q o) := fun b u e => by rw [upd_ne (ne_of_none e hq)]; exact e
end
def spOp (a : Ad) (pre : Vbhoak.House -> List Int -> Vbhoak.Call -> Prop) : Sp := fun vs H Q _ => ∃ (hp l : Addr) (as : List Addr) (h : Vbhoak.House) (np : Addr) (ns : List Int) (c : Vbhoak.Call),
  vs = [.ref hp, .ref np] /\ HouseAt a H hp l as h /\ Good h /\ H np = some (.lst (ns.map V.int)) /\ pre h ns c /\
  ∀ H' q, H q = Option.none -> HouseAt a H' hp l as (Vbhoak.onHouse h c).1 -> H' q = some (.lst ((Vbhoak.onHouse h c).2.map V.int)) -> ChS H H' (hp :: as) -> Q (.ref q) H'
section
variable {a : Ad} {H H1 : Hp} {hp l : Addr} {as : List Addr} {h h1 : Vbhoak.House} {c : Vbhoak.Call} {ans : List Int} {Q : VK}
theorem ready_no {r : Vbhoak.Room} (h : (!decide (V.int (Vbhoak.codeOf r : Int) = V.int 2)) = true) : Vbhoak.ready r = false := by
  simp [Vbhoak.ready] at h ⊢
  omega
theorem ready_yes {r : Vbhoak.Room} (h : ¬ (!decide (V.int (Vbhoak.codeOf r : Int) = V.int 2)) = true) : Vbhoak.ready r = true := by
  simp [Vbhoak.ready] at h ⊢
  omega
theorem HouseAt.fresh (hH : HouseAt a H1 hp l as h1) (ch : ChS H H1 (hp :: as)) {q : Addr} (hq : H1 q = Option.none) : H q = Option.none := by
  cases e : H q with
  | none => rfl
  | some o =>
    by_cases m : q ∈ hp :: as
    . rcases List.mem_cons.mp m with z | z
      . subst z
        obtain ⟨dx, y⟩ := hH.obj
        rw [hq] at y; cases y
      . obtain ⟨j, hj⟩ := List.mem_iff_getElem?.mp z
        obtain ⟨dx, y⟩ := hH.at_ j q _ hj (List.getElem?_eq_getElem (by rw [<- hH.len]; exact (List.getElem?_eq_some_iff.mp hj).1))
        rw [hq] at y; cases y
    . have y := ch q o e m
      rw [hq] at y; cases y
theorem end_at (k : ∀ H' q, H q = Option.none -> HouseAt a H' hp l as (Vbhoak.onHouse h c).1 -> H' q = some (.lst ((Vbhoak.onHouse h c).2.map V.int)) -> ChS H H' (hp :: as) -> Q (.ref q) H') (hH : HouseAt a H1 hp l as h1) (ch : ChS H H1 (hp :: as)) (e : Vbhoak.onHouse h c = (h1, ans)) (hl : ans.length <= 1000) :
    (ans.map V.int).length <= sizeLine /\ ∀ q, H1 q = Option.none -> Q (.ref q) (upd H1 q (.lst (ans.map V.int))) :=
  ⟨by rw [List.length_map]; exact Nat.le_of_lt (small1000 hl), fun q hq => k _ q (hH.fresh ch hq) (by rw [e]; exact hH.same (Same.new hq)) (by rw [e]; exact upd_same) (ch.trans (ChS.new hq))⟩
theorem onRoom_no {n : Nat} {r : Vbhoak.Room} {may : Vbhoak.Room -> Bool} {f : Vbhoak.Room -> Vbhoak.Room} {told : Vbhoak.Room -> Vbhoak.Ans} (e : h.rooms[n]? = some r) (m : may r = false) : Vbhoak.onRoom h n may f told = (h, [-6]) := by
  unfold Vbhoak.onRoom Vbhoak.roomAt
  rw [e]
  exact if_pos m
theorem onRoom_yes {n : Nat} {r : Vbhoak.Room} {may : Vbhoak.Room -> Bool} {f : Vbhoak.Room -> Vbhoak.Room} {told : Vbhoak.Room -> Vbhoak.Ans} (e : h.rooms[n]? = some r) (m : may r = true) : Vbhoak.onRoom h n may f told = (Vbhoak.setRoom h n (f r), told r) := by
  unfold Vbhoak.onRoom Vbhoak.roomAt
  rw [e]
  exact if_neg (by rw [m]; exact fun z => Bool.noConfusion z)
end
section
variable {P : Program} {w : World} {K : PySem.W.Frag} {mg : Str -> Option Value} {base : Heap} {a : Ad}
theorem ok_in (T : Txt K mg a) : COk P w K mg base 4 "guest_in" (spOp a fun h ns c => ∃ n : Nat, ns = [(n : Int)] /\ n < h.rooms.length /\ c = .in_ n) := by
  have sc := sc_guest_in
  have C_code_of := ok_code (P := P) (w := w) (base := base) T
  have C_make_filled := ok_filled (P := P) (w := w) (base := base) T
  refine T.d_guest_in.ok sc (fun vs H Q E h => ?_) (fun f cdv A outer s H vs Q E hr h => ?_)
  . obtain ⟨hp, l, as, h, np, ns, c, rfl, _⟩ := h; rfl
  . obtain ⟨hp, l, as, h, np, ns, c, rfl, hH, hg, hN, ⟨n, rfl, hn, rfl⟩, k⟩ := h
    obtain ⟨p, r, e1, e2, hR, hm⟩ := hH.room hn
    have gr : GoodR r := hg.rooms r (List.mem_of_getElem? e2)
    refine ⟨_, (pss_cons (ps_set (i := 2) sc.nd rfl (Or.inl rfl) (pe_ix ix_list (pe_fld (pv 0) rfl) (pe_ix ix_list (pv 1) pe_int (fun _ _ => rfl)) (fun _ _ => rfl)))
      (pss_cons (ps_if (pt_cmpR op_ne (pe_callN C_code_of (hr.mono (by decide)) rfl (pa_cons (pv 2) pa_nil)) (pe_gint rfl T.g_VI) (nomark _)) (pss_one (ps_ret (pe_lst (pa_cons (pe_gint rfl T.g_ROOM_NOT_AS_TOLD) pa_nil)))) pss_nil)
      (pss_cons (ps_expr (pe_callN C_make_filled hr rfl (pa_cons (pv 2) pa_nil)))
      (pss_one (ps_ret (pe_lst (pa_cons (pe_gint rfl T.g_ACCEPTED) pa_nil))))))), ?_⟩
    dsimp only [tSeq, tIfS, tB, tTest, tOp, tRet, tIf, tAnd, tNot, tOr, tNext, tC, tAsg, gName, tDrop, tCall, tCons, tNil, tLst]
    refine T.rd_room 0 hH rfl rfl hN rfl e1 ?_
    refine ⟨_, rfl, p, r, rfl, hR, gr.clean, ?_⟩
    refine ⟨rfl, _, rfl, ite2 (fun h1 => ?_) (fun h1 => ?_)⟩
    . exact end_at k hH (ChS.refl _ _) (onRoom_no (r := r) e2 (ready_no h1)) (by decide)
    . refine ⟨_, rfl, p, r, rfl, hR, fun H1 h1' c1 => ?_⟩
      exact end_at k (hH.set e1 h1' c1 hn) (c1.toS (List.mem_cons_of_mem _ hm)) (onRoom_yes (r := r) e2 (ready_yes h1)) (by decide)
theorem m_num (j : Nat) (k : Int) : Mono (tOp (rIxL K) (tVar j) (tC (.int k))) := fun _ _ _ _ h ⟨v, e, p, xs, i, u, h1, h2, h3, h4, q⟩ => ⟨v, e, p, xs, i, u, h1, h2, h3, h4, h _ _ q⟩
theorem m_ifnum (j : Nat) (k y z u : Int) : Mono (tIf (tTest (tOp rEq (tOp (rIxL K) (tVar j) (tC (.int k))) (tC (.int y)))) (tC (.int z)) (tC (.int u))) := fun _ _ _ _ h ⟨v, e, p, xs, i, u, h1, h2, h3, h4, f, b, h5, q⟩ => ⟨v, e, p, xs, i, u, h1, h2, h3, h4, f, b, h5, by
  cases b with
  | true => exact iteT (h _ _ ((if_pos rfl).mp q))
  | false => exact iteF (h _ _ ((if_neg Bool.false_ne_true).mp q))⟩
theorem code1 {r : Vbhoak.Room} (h : Vbhoak.codeOf r = 1) : r.shut = false /\ r.taken = false := by
  obtain ⟨tk, cl, sh, du, ex, sa, ak⟩ := r
  cases sh with
  | true => exact absurd h (by simp [Vbhoak.codeOf])
  | false =>
    cases tk with
    | true =>
      refine absurd h ?_
      by_cases z : cl = 0 <;> simp [Vbhoak.codeOf, z]
    | false => exact ⟨rfl, rfl⟩
theorem code2 {r : Vbhoak.Room} (h : Vbhoak.codeOf r = 2) : r.shut = false /\ r.taken = false := by
  obtain ⟨tk, cl, sh, du, ex, sa, ak⟩ := r
  cases sh with
  | true => exact absurd h (by simp [Vbhoak.codeOf])
  | false =>
    cases tk with
    | true =>
      refine absurd h ?_
      by_cases z : cl = 0 <;> simp [Vbhoak.codeOf, z]
    | false => exact ⟨rfl, rfl⟩
theorem ok_out (T : Txt K mg a) : COk P w K mg base 3 "guest_out" (spOp a fun h ns c => ∃ n : Nat, ns = [(n : Int)] /\ n < h.rooms.length /\ c = .out n) := by
  have sc := sc_guest_out
  have C_make_vacated := ok_vacated (P := P) (w := w) (base := base) T
  refine T.d_guest_out.ok sc (fun vs H Q E h => ?_) (fun f cdv A outer s H vs Q E hr h => ?_)
  . obtain ⟨hp, l, as, h, np, ns, c, rfl, _⟩ := h; rfl
  . obtain ⟨hp, l, as, h, np, ns, c, rfl, hH, hg, hN, ⟨n, rfl, hn, rfl⟩, k⟩ := h
    obtain ⟨p, r, e1, e2, hR, hm⟩ := hH.room hn
    refine ⟨_, (pss_cons (ps_set (i := 2) sc.nd rfl (Or.inl rfl) (pe_ix ix_list (pe_fld (pv 0) rfl) (pe_ix ix_list (pv 1) pe_int (fun _ _ => rfl)) (fun _ _ => rfl)))
      (pss_cons (ps_if (pt_not (pt_val (pe_fld (pv 2) rfl))) (pss_one (ps_ret (pe_lst (pa_cons (pe_gint rfl T.g_ROOM_NOT_AS_TOLD) pa_nil)))) pss_nil)
      (pss_cons (ps_expr (pe_callN C_make_vacated hr rfl (pa_cons (pv 2) pa_nil)))
      (pss_one (ps_ret (pe_lst (pa_cons (pe_gint rfl T.g_ACCEPTED) pa_nil))))))), ?_⟩
    dsimp only [tSeq, tIfS, tB, tTest, tOp, tRet, tIf, tAnd, tNot, tOr, tNext, tC, tAsg, gName, tDrop, tCall, tCons, tNil, tLst]
    refine T.rd_room 0 hH rfl rfl hN rfl e1 ?_
    refine T.rd_taken hR rfl ⟨_, rfl, ite2 (fun h1 => ?_) (fun h1 => ?_)⟩
    . exact end_at k hH (ChS.refl _ _) (onRoom_no (r := r) e2 (by simpa using h1)) (by decide)
    . refine ⟨_, rfl, p, r, rfl, hR, fun H1 h1' c1 => ?_⟩
      exact end_at k (hH.set e1 h1' c1 hn) (c1.toS (List.mem_cons_of_mem _ hm)) (onRoom_yes (r := r) e2 (by simpa using h1)) (by decide)
theorem ok_back (T : Txt K mg a) : COk P w K mg base 3 "room_back" (spOp a fun h ns c => ∃ n : Nat, ns = [(n : Int)] /\ n < h.rooms.length /\ c = .back n) := by
  have sc := sc_room_back
  have C_make_vacated := ok_vacated (P := P) (w := w) (base := base) T
  refine T.d_room_back.ok sc (fun vs H Q E h => ?_) (fun f cdv A outer s H vs Q E hr h => ?_)
  . obtain ⟨hp, l, as, h, np, ns, c, rfl, _⟩ := h; rfl
  . obtain ⟨hp, l, as, h, np, ns, c, rfl, hH, hg, hN, ⟨n, rfl, hn, rfl⟩, k⟩ := h
    obtain ⟨p, r, e1, e2, hR, hm⟩ := hH.room hn
    refine ⟨_, (pss_cons (ps_set (i := 2) sc.nd rfl (Or.inl rfl) (pe_ix ix_list (pe_fld (pv 0) rfl) (pe_ix ix_list (pv 1) pe_int (fun _ _ => rfl)) (fun _ _ => rfl)))
      (pss_cons (ps_if (pt_not (pt_val (pe_fld (pv 2) rfl))) (pss_one (ps_ret (pe_lst (pa_cons (pe_gint rfl T.g_ROOM_NOT_AS_TOLD) pa_nil)))) pss_nil)
      (pss_cons (ps_expr (pe_callN C_make_vacated hr rfl (pa_cons (pv 2) pa_nil)))
      (pss_one (ps_ret (pe_lst (pa_cons (pe_gint rfl T.g_ACCEPTED) pa_nil))))))), ?_⟩
    dsimp only [tSeq, tIfS, tB, tTest, tOp, tRet, tIf, tAnd, tNot, tOr, tNext, tC, tAsg, gName, tDrop, tCall, tCons, tNil, tLst]
    refine T.rd_room 0 hH rfl rfl hN rfl e1 ?_
    refine T.rd_shut hR rfl ⟨_, rfl, ite2 (fun h1 => ?_) (fun h1 => ?_)⟩
    . exact end_at k hH (ChS.refl _ _) (onRoom_no (r := r) e2 (by simpa using h1)) (by decide)
    . refine ⟨_, rfl, p, r, rfl, hR, fun H1 h1' c1 => ?_⟩
      exact end_at k (hH.set e1 h1' c1 hn) (c1.toS (List.mem_cons_of_mem _ hm)) (onRoom_yes (r := r) e2 (by simpa using h1)) (by decide)
theorem ok_shut (T : Txt K mg a) : COk P w K mg base 3 "room_shut" (spOp a fun h ns c => ∃ n : Nat, ns = [(n : Int)] /\ n < h.rooms.length /\ c = .shut n) := by
  have sc := sc_room_shut
  have C_make_vacated := ok_vacated (P := P) (w := w) (base := base) T
  refine T.d_room_shut.ok sc (fun vs H Q E h => ?_) (fun f cdv A outer s H vs Q E hr h => ?_)
  . obtain ⟨hp, l, as, h, np, ns, c, rfl, _⟩ := h; rfl
  . obtain ⟨hp, l, as, h, np, ns, c, rfl, hH, hg, hN, ⟨n, rfl, hn, rfl⟩, k⟩ := h
    obtain ⟨p, r, e1, e2, hR, hm⟩ := hH.room hn
    refine ⟨_, (pss_cons (ps_set (i := 2) sc.nd rfl (Or.inl rfl) (pe_ix ix_list (pe_fld (pv 0) rfl) (pe_ix ix_list (pv 1) pe_int (fun _ _ => rfl)) (fun _ _ => rfl)))
      (pss_cons (ps_if (PW.pt (pw_or (pt_val (pe_fld (pv 2) rfl)) (pw_or1 (pt_val (pe_fld (pv 2) rfl))))) (pss_one (ps_ret (pe_lst (pa_cons (pe_gint rfl T.g_ROOM_NOT_AS_TOLD) pa_nil)))) pss_nil)
      (pss_cons (ps_expr (pe_callN C_make_vacated hr rfl (pa_cons (pv 2) pa_nil)))
      (pss_cons (ps_fld (pv 2) pe_bl rfl)
      (pss_one (ps_ret (pe_lst (pa_cons (pe_gint rfl T.g_ACCEPTED) pa_nil)))))))), ?_⟩
    dsimp only [tSeq, tIfS, tB, tTest, tOp, tRet, tIf, tAnd, tNot, tOr, tNext, tAsg, gName, tDrop, tCall, tCons, tNil, tLst]
    refine T.rd_room 0 hH rfl rfl hN rfl e1 ?_
    refine T.rd_taken hR rfl ⟨_, rfl, ite2 (fun h1 => iteT ?_) (fun h1 => T.rd_shut hR rfl ⟨_, rfl, ite2 (fun h2 => ?_) (fun h2 => ?_)⟩)⟩
    . exact end_at k hH (ChS.refl _ _) (onRoom_no (r := r) e2 (by simp [h1])) (by decide)
    . exact end_at k hH (ChS.refl _ _) (onRoom_no (r := r) e2 (by simp [h2])) (by decide)
    . refine ⟨_, rfl, p, r, rfl, hR, fun H1 h1' c1 => ?_⟩
      refine T.st_shut rfl (mono_c _) ⟨true, rfl, h1', fun H2 h2' c2 => ?_⟩
      exact end_at k (hH.set e1 h2' (c1.trans c2) hn) ((c1.trans c2).toS (List.mem_cons_of_mem _ hm)) (onRoom_yes (r := r) e2 (by simp [h1, h2])) (by decide)
theorem ok_due (T : Txt K mg a) : COk P w K mg base 1 "room_due" (spOp a fun h ns c => ∃ n m : Nat, ns = [(n : Int), (m : Int)] /\ n < h.rooms.length /\ c = .due n m) := by
  have sc := sc_room_due
  refine T.d_room_due.ok sc (fun vs H Q E h => ?_) (fun f cdv A outer s H vs Q E hr h => ?_)
  . obtain ⟨hp, l, as, h, np, ns, c, rfl, _⟩ := h; rfl
  . obtain ⟨hp, l, as, h, np, ns, c, rfl, hH, hg, hN, ⟨n, m, rfl, hn, rfl⟩, k⟩ := h
    obtain ⟨p, r, e1, e2, hR, hm⟩ := hH.room hn
    refine ⟨_, (pss_cons (ps_set (i := 2) sc.nd rfl (Or.inl rfl) (pe_ix ix_list (pe_fld (pv 0) rfl) (pe_ix ix_list (pv 1) pe_int (fun _ _ => rfl)) (fun _ _ => rfl)))
      (pss_cons (ps_if (PW.pt (pw_or (pt_val (pe_fld (pv 2) rfl)) (pw_or1 (pt_val (pe_fld (pv 2) rfl))))) (pss_one (ps_ret (pe_lst (pa_cons (pe_gint rfl T.g_ROOM_NOT_AS_TOLD) pa_nil)))) pss_nil)
      (pss_cons (ps_fld (pv 2) (pe_ix ix_list (pv 1) pe_int (fun _ _ => rfl)) rfl)
      (pss_one (ps_ret (pe_lst (pa_cons (pe_gint rfl T.g_ACCEPTED) pa_nil))))))), ?_⟩
    dsimp only [tSeq, tIfS, tB, tTest, tOp, tRet, tIf, tAnd, tNot, tOr, tNext, tC, tAsg, gName, tDrop, tCall, tCons, tNil, tLst]
    refine T.rd_room 0 hH rfl rfl hN rfl e1 ?_
    refine T.rd_taken hR rfl ⟨_, rfl, ite2 (fun h1 => iteT ?_) (fun h1 => T.rd_shut hR rfl ⟨_, rfl, ite2 (fun h2 => ?_) (fun h2 => ?_)⟩)⟩
    . exact end_at k hH (ChS.refl _ _) (onRoom_no (r := r) e2 (by simp [h1])) (by decide)
    . exact end_at k hH (ChS.refl _ _) (onRoom_no (r := r) e2 (by simp [h2])) (by decide)
    . refine T.st_due rfl (m_num 1 1) ⟨_, rfl, np, _, 1, _, rfl, rfl, SqL.of hN, rfl, m, rfl, hR, fun H1 h1' c1 => ?_⟩
      exact end_at k (hH.set e1 h1' c1 hn) (c1.toS (List.mem_cons_of_mem _ hm)) (onRoom_yes (r := r) e2 (by simp [h1, h2])) (by decide)
theorem ok_extra (T : Txt K mg a) : COk P w K mg base 1 "room_extra" (spOp a fun h ns c => ∃ n m : Nat, ns = [(n : Int), (m : Int)] /\ n < h.rooms.length /\ c = .extra n m) := by
  have sc := sc_room_extra
  refine T.d_room_extra.ok sc (fun vs H Q E h => ?_) (fun f cdv A outer s H vs Q E hr h => ?_)
  . obtain ⟨hp, l, as, h, np, ns, c, rfl, _⟩ := h; rfl
  . obtain ⟨hp, l, as, h, np, ns, c, rfl, hH, hg, hN, ⟨n, m, rfl, hn, rfl⟩, k⟩ := h
    obtain ⟨p, r, e1, e2, hR, hm⟩ := hH.room hn
    refine ⟨_, (pss_cons (ps_set (i := 2) sc.nd rfl (Or.inl rfl) (pe_ix ix_list (pe_fld (pv 0) rfl) (pe_ix ix_list (pv 1) pe_int (fun _ _ => rfl)) (fun _ _ => rfl)))
      (pss_cons (ps_fld (pv 2) (pe_ix ix_list (pv 1) pe_int (fun _ _ => rfl)) rfl)
      (pss_one (ps_ret (pe_lst (pa_cons (pe_gint rfl T.g_ACCEPTED) pa_nil)))))), ?_⟩
    dsimp only [tSeq, tIfS, tB, tTest, tOp, tRet, tIf, tAnd, tNot, tOr, tNext, tC, tAsg, gName, tDrop, tCall, tCons, tNil, tLst]
    refine T.rd_room 0 hH rfl rfl hN rfl e1 ?_
    refine T.st_extra rfl (m_num 1 1) ⟨_, rfl, np, _, 1, _, rfl, rfl, SqL.of hN, rfl, m, rfl, hR, fun H1 h1' c1 => ?_⟩
    exact end_at k (hH.set e1 h1' c1 hn) (c1.toS (List.mem_cons_of_mem _ hm)) (onRoom_yes (r := r) e2 rfl) (by decide)
theorem ok_inspect (T : Txt K mg a) : COk P w K mg base 2 "room_inspected" (spOp a fun h ns c => ∃ (n : Nat) (b : Bool), ns = [(n : Int), if b = true then 1 else 0] /\ n < h.rooms.length /\ c = .inspect n b) := by
  have sc := sc_room_inspected
  have C_code_of := ok_code (P := P) (w := w) (base := base) T
  refine T.d_room_inspected.ok sc (fun vs H Q E h => ?_) (fun f cdv A outer s H vs Q E hr h => ?_)
  . obtain ⟨hp, l, as, h, np, ns, c, rfl, _⟩ := h; rfl
  . obtain ⟨hp, l, as, h, np, ns, c, rfl, hH, hg, hN, ⟨n, b, rfl, hn, rfl⟩, k⟩ := h
    obtain ⟨p, r, e1, e2, hR, hm⟩ := hH.room hn
    have gr : GoodR r := hg.rooms r (List.mem_of_getElem? e2)
    refine ⟨_, (pss_cons (ps_set (i := 2) sc.nd rfl (Or.inl rfl) (pe_ix ix_list (pe_fld (pv 0) rfl) (pe_ix ix_list (pv 1) pe_int (fun _ _ => rfl)) (fun _ _ => rfl)))
      (pss_cons (ps_if (pt_cmpR op_ne (pe_callN C_code_of hr rfl (pa_cons (pv 2) pa_nil)) (pe_gint rfl T.g_VC) (nomark _)) (pss_one (ps_ret (pe_lst (pa_cons (pe_gint rfl T.g_ROOM_NOT_AS_TOLD) pa_nil)))) pss_nil)
      (pss_cons (ps_fld (pv 2) (pe_ifExp (pt_cmpR op_eq (pe_ix ix_list (pv 1) pe_int (fun _ _ => rfl)) pe_int (nomark _)) (pe_gint rfl T.g_INSPECTED) (pe_gint rfl T.g_DIRTY)) rfl)
      (pss_one (ps_ret (pe_lst (pa_cons (pe_gint rfl T.g_ACCEPTED) pa_nil))))))), ?_⟩
    dsimp only [tSeq, tIfS, tB, tTest, tOp, tRet, tIf, tAnd, tNot, tOr, tNext, tC, tAsg, gName, tDrop, tCall, tCons, tNil, tLst]
    refine T.rd_room 0 hH rfl rfl hN rfl e1 ?_
    refine ⟨_, rfl, p, r, rfl, hR, gr.clean, ?_⟩
    refine ⟨rfl, _, rfl, ite2 (fun h1 => ?_) (fun h1 => ?_)⟩
    . exact end_at k hH (ChS.refl _ _) (onRoom_no (r := r) e2 (by simp at h1 ⊢; omega)) (by decide)
    . have h2 : Vbhoak.codeOf r = 1 := by simp at h1; omega
      have h3 : r.shut = false /\ r.taken = false := code1 h2
      refine T.st_state (r := r) rfl (m_ifnum 1 1 1 2 0) ⟨_, rfl, np, _, 1, _, rfl, rfl, SqL.of hN, rfl, by cases b <;> rfl, _, rfl, ?_⟩
      have fin : ∀ m : Nat, (m = if b = true then 2 else 0) -> StI a p r (fun b => { r with clean := b }) { nx := fun σ H => ([V.int 0].length <= sizeLine /\ ∀ (p : Addr), H p = none -> Q (V.ref p) (upd H p (HO.lst [V.int 0]))), rt := Q } [] (.int (m : Int)) H := fun m e => by
        refine ⟨m, rfl, hR, fun H1 h1' c1 => ?_⟩
        refine end_at (ans := [0]) k (hH.set e1 h1' c1 hn) (c1.toS (List.mem_cons_of_mem _ hm)) ?_ (by decide)
        refine (onRoom_yes (r := r) e2 (by simp [h2])).trans ?_
        obtain ⟨tk, cl, sh, du, ex, sa, ak⟩ := r
        obtain ⟨rfl, rfl⟩ := h3
        rw [e]
      cases b with
      | true => exact iteT (fin 2 rfl)
      | false => exact iteF (fin 0 rfl)
theorem ok_move (T : Txt K mg a) : COk P w K mg base 4 "guest_moves" (spOp a fun h ns c => ∃ n m : Nat, ns = [(n : Int), (m : Int)] /\ n < h.rooms.length /\ m < h.rooms.length /\ c = .move n m) := by
  have sc := sc_guest_moves
  have C_code_of := ok_code (P := P) (w := w) (base := base) T
  have C_make_vacated := ok_vacated (P := P) (w := w) (base := base) T
  have C_make_filled := ok_filled (P := P) (w := w) (base := base) T
  refine T.d_guest_moves.ok sc (fun vs H Q E h => ?_) (fun f cdv A outer s H vs Q E hr h => ?_)
  . obtain ⟨hp, l, as, h, np, ns, c, rfl, _⟩ := h; rfl
  . obtain ⟨hp, l, as, h, np, ns, c, rfl, hH, hg, hN, ⟨n, m, rfl, hn, hm', rfl⟩, k⟩ := h
    obtain ⟨p, r, e1, e2, hR, hm⟩ := hH.room hn
    obtain ⟨p2, r2, e3, e4, hR2, hm2⟩ := hH.room hm'
    have gr : GoodR r2 := hg.rooms r2 (List.mem_of_getElem? e4)
    refine ⟨_, (pss_cons (ps_set (i := 2) sc.nd rfl (Or.inl rfl) (pe_ix ix_list (pe_fld (pv 0) rfl) (pe_ix ix_list (pv 1) pe_int (fun _ _ => rfl)) (fun _ _ => rfl)))
      (pss_cons (ps_set (i := 3) sc.nd rfl (Or.inl rfl) (pe_ix ix_list (pe_fld (pv 0) rfl) (pe_ix ix_list (pv 1) pe_int (fun _ _ => rfl)) (fun _ _ => rfl)))
      (pss_cons (ps_if (PW.pt (pw_or (pt_not (pt_val (pe_fld (pv 2) rfl))) (pw_or1 (pt_cmpR op_ne (pe_callN C_code_of (hr.mono (by decide)) rfl (pa_cons (pv 3) pa_nil)) (pe_gint rfl T.g_VI) (nomark _))))) (pss_one (ps_ret (pe_lst (pa_cons (pe_gint rfl T.g_ROOM_NOT_AS_TOLD) pa_nil)))) pss_nil)
      (pss_cons (ps_expr (pe_callN C_make_vacated (hr.mono (by decide)) rfl (pa_cons (pv 2) pa_nil)))
      (pss_cons (ps_expr (pe_callN C_make_filled hr rfl (pa_cons (pv 3) pa_nil)))
      (pss_one (ps_ret (pe_lst (pa_cons (pe_gint rfl T.g_ACCEPTED) pa_nil))))))))), ?_⟩
    dsimp only [tSeq, tIfS, tB, tTest, tOp, tRet, tIf, tAnd, tNot, tOr, tNext, tC, tAsg, gName, tDrop, tCall, tCons, tNil, tLst]
    refine T.rd_room 0 hH rfl rfl hN rfl e1 ?_
    refine T.rd_room 1 hH rfl rfl hN rfl e3 ?_
    have no : (r.taken && Vbhoak.ready r2) = false -> Vbhoak.onHouse h (.move n m) = (h, [-6]) := fun z => by
      show (match Vbhoak.roomAt h n, Vbhoak.roomAt h m with
        | some x, some y => if (x.taken && Vbhoak.ready y) = false then (h, [-6]) else (Vbhoak.setRoom (Vbhoak.setRoom h n (Vbhoak.vacated x)) m (Vbhoak.filled y), [0])
        | _, _ => (h, [-3])) = (h, [-6])
      unfold Vbhoak.roomAt
      rw [e2, e4]
      exact if_pos z
    have yes : (r.taken && Vbhoak.ready r2) = true -> Vbhoak.onHouse h (.move n m) = (Vbhoak.setRoom (Vbhoak.setRoom h n (Vbhoak.vacated r)) m (Vbhoak.filled r2), [0]) := fun z => by
      show (match Vbhoak.roomAt h n, Vbhoak.roomAt h m with
        | some x, some y => if (x.taken && Vbhoak.ready y) = false then (h, [-6]) else (Vbhoak.setRoom (Vbhoak.setRoom h n (Vbhoak.vacated x)) m (Vbhoak.filled y), [0])
        | _, _ => (h, [-3])) = _
      unfold Vbhoak.roomAt
      rw [e2, e4]
      exact if_neg (by rw [z]; exact fun q => Bool.noConfusion q)
    refine T.rd_taken hR rfl ⟨_, rfl, ite2 (fun h1 => iteT ?_) (fun h1 => ?_)⟩
    . exact end_at k hH (ChS.refl _ _) (no (by simp at h1; simp [h1])) (by decide)
    refine ⟨_, rfl, p2, r2, rfl, hR2, gr.clean, ?_⟩
    refine ⟨rfl, _, rfl, ite2 (fun h2 => ?_) (fun h2 => ?_)⟩
    . exact end_at k hH (ChS.refl _ _) (no (by rw [ready_no h2]; simp)) (by decide)
    have h1t : r.taken = true := by simpa using h1
    have rd := ready_yes h2
    have c2 : Vbhoak.codeOf r2 = 2 := by simpa [Vbhoak.ready] using rd
    have ne : n ≠ m := fun z => by
      subst z
      have q : r = r2 := Option.some.inj (e2.symm.trans e4)
      subst q
      have q2 := (code2 c2).2
      rw [h1t] at q2
      cases q2
    have np2 : p2 ≠ p := fun z => ne (nd_ix hH.nd e1 (by rw [<- z]; exact e3))
    refine ⟨_, rfl, p, r, rfl, hR, fun H1 h1' c1 => ?_⟩
    have hH1 := hH.set e1 h1' c1 hn
    have hR2' : RoomAt a H1 p2 r2 := let ⟨dx, e⟩ := hR2; ⟨dx, c1 _ _ e np2⟩
    refine ⟨_, rfl, p2, r2, rfl, hR2', fun H2 h2' c2' => ?_⟩
    have hl : m < (Vbhoak.setRoom h n (Vbhoak.vacated r)).rooms.length := by simpa [Vbhoak.setRoom] using hm'
    exact end_at k (hH1.set e3 h2' c2' hl) ((c1.toS (List.mem_cons_of_mem _ hm)).trans (c2'.toS (List.mem_cons_of_mem _ hm2))) (yes (by simp [h1t, rd])) (by decide)
theorem seen_bit {b : Bool} {F : VK} {H : Hp} (h : F (.int (sd (some b))) H) : if decide (V.int (if b = true then 1 else 0) = V.int 1) = true then F (.int 2) H else F (.int 1) H := by
  cases b with
  | true => exact iteT h
  | false => exact iteF h
theorem ok_report (T : Txt K mg a) : COk P w K mg base 2 "maid_reports" (spOp a fun h ns c => ∃ (n : Nat) (b : Bool) (d : Nat), ns = [(n : Int), if b = true then 1 else 0, (d : Int)] /\ n < h.rooms.length /\ d <= 2 /\ c = .report n b d) := by
  have sc := sc_maid_reports
  have C_difference_about := ok_diff (P := P) (w := w) (base := base) T
  refine T.d_maid_reports.ok sc (fun vs H Q E h => ?_) (fun f cdv A outer s H vs Q E hr h => ?_)
  . obtain ⟨hp, l, as, h, np, ns, c, rfl, _⟩ := h; rfl
  . obtain ⟨hp, l, as, h, np, ns, c, rfl, hH, hg, hN, ⟨n, b, d, rfl, hn, hd, rfl⟩, k⟩ := h
    obtain ⟨p, r, e1, e2, hR, hm⟩ := hH.room hn
    refine ⟨_, (pss_cons (ps_set (i := 2) sc.nd rfl (Or.inl rfl) (pe_ix ix_list (pe_fld (pv 0) rfl) (pe_ix ix_list (pv 1) pe_int (fun _ _ => rfl)) (fun _ _ => rfl)))
      (pss_cons (ps_set (i := 3) sc.nd rfl (Or.inl rfl) (pe_ix ix_list (pv 1) pe_int (fun _ _ => rfl)))
      (pss_cons (ps_if (pt_val (pe_fld (pv 2) rfl)) (pss_one (ps_ret (pe_lst (pa_cons (pe_gint rfl T.g_ROOM_NOT_AS_TOLD) pa_nil)))) pss_nil)
      (pss_cons (ps_fld (pv 2) (pe_ifExp (pt_cmpR op_eq (pe_ix ix_list (pv 1) pe_int (fun _ _ => rfl)) pe_int (nomark _)) (pe_gint rfl T.g_SOMEBODY_SEEN) (pe_gint rfl T.g_NOBODY_SEEN)) rfl)
      (pss_cons (ps_if (PW.pt (pw_and (pt_cmpR op_eq (pv 3) (pe_gint rfl T.g_CLEANED_TODAY) (nomark _)) (pw_and1 (pt_cmpR op_eq (pe_fld (pv 2) rfl) (pe_gint rfl T.g_DIRTY) (nomark _))))) (pss_one (ps_fld (pv 2) (pe_gint rfl T.g_CLEANED) rfl)) pss_nil)
      (pss_cons (ps_if (pt_cmpR op_ne (pv 3) (pe_gint rfl T.g_NOTHING_TODAY) (nomark _)) (pss_one (ps_fld (pv 2) (pv 3) rfl)) pss_nil)
      (pss_one (ps_ret (pe_lst (pa_cons (pe_gint rfl T.g_ACCEPTED) (pa_cons (pe_callN C_difference_about hr rfl (pa_cons (pv 2) pa_nil)) pa_nil))))))))))), ?_⟩
    dsimp only [tSeq, tIfS, tB, tTest, tOp, tRet, tIf, tAnd, tNot, tOr, tNext, tC, tAsg, gName, tDrop, tCall, tCons, tNil, tLst]
    refine T.rd_room 0 hH rfl rfl hN rfl e1 ?_
    refine ⟨_, rfl, np, _, 2, _, rfl, rfl, SqL.of hN, rfl, ?_⟩
    refine T.rd_shut hR rfl ⟨_, rfl, ite2 (fun h1 => ?_) (fun h1 => ?_)⟩
    . exact end_at k hH (ChS.refl _ _) (onRoom_no (r := r) e2 (by simp [h1])) (by decide)
    have fin : ∀ H3 : Hp, RoomAt a H3 p (Vbhoak.reported r b d) -> Ch H H3 p ->
        [V.int 0, V.int (Vbhoak.differs (Vbhoak.reported r b d) : Int)].length <= sizeLine /\ ∀ (q : Addr), H3 q = none -> Q (V.ref q) (upd H3 q (HO.lst [V.int 0, V.int (Vbhoak.differs (Vbhoak.reported r b d) : Int)])) := fun H3 h3 c3 =>
      end_at k (hH.set e1 h3 c3 hn) (c3.toS (List.mem_cons_of_mem _ hm)) (onRoom_yes (r := r) e2 (by simp [h1])) (by show 2 <= 1000; decide)
    refine T.st_seen (r := r) rfl (m_ifnum 1 1 1 2 1) ⟨_, rfl, np, _, 1, _, rfl, rfl, SqL.of hN, rfl, by cases b <;> rfl, _, rfl, seen_bit ⟨some b, rfl, hR, fun H1 h1' c1 => ?_⟩⟩
    dsimp only [tSeq, tIfS, tB, tTest, tOp, tRet, tIf, tAnd, tNot, tOr, tNext, tC, tAsg, gName, tDrop, tCall, tCons, tNil, tLst]
    match d, hd, fin with
    | 0, _, fin =>
      have e : Vbhoak.reported r b 0 = { r with said := some b } := by simp [Vbhoak.reported]
      rw [e] at fin
      exact ⟨_, rfl, rfl, _, rfl, iteF (iteF ⟨_, rfl, rfl, _, rfl, iteF ⟨_, rfl, p, _, rfl, h1', trivial, fin H1 h1' c1⟩⟩)⟩
    | 2, _, fin =>
      have e : Vbhoak.reported r b 2 = { r with said := some b, asked := 2 } := by simp [Vbhoak.reported]
      rw [e] at fin
      exact ⟨_, rfl, rfl, _, rfl, iteF (iteF ⟨_, rfl, rfl, _, rfl, iteT (T.st_today rfl (mono_var 3) ⟨_, rfl, 2, rfl, h1', fun H2 h2' c2 => ⟨_, rfl, p, _, rfl, h2', trivial, fin H2 h2' (c1.trans c2)⟩⟩)⟩)⟩
    | 1, _, fin =>
      refine ⟨_, rfl, rfl, _, rfl, iteT (T.rd_state h1' rfl ⟨rfl, _, rfl, ite2 (fun h2 => ?_) (fun h2 => ?_)⟩)⟩
      . have z : r.clean = 0 := by simpa using h2
        have e : Vbhoak.reported r b 1 = { r with said := some b, clean := 1, asked := 1 } := by simp [Vbhoak.reported, z]
        rw [e] at fin
        refine T.st_state rfl (mono_c _) ⟨1, rfl, h1', fun H2 h2' c2 => ?_⟩
        exact ⟨_, rfl, rfl, _, rfl, iteT (T.st_today rfl (mono_var 3) ⟨_, rfl, 1, rfl, h2', fun H3 h3' c3 => ⟨_, rfl, p, _, rfl, h3', trivial, fin H3 h3' ((c1.trans c2).trans c3)⟩⟩)⟩
      . have z : ¬ r.clean = 0 := by simpa using h2
        have e : Vbhoak.reported r b 1 = { r with said := some b, asked := 1 } := by simp [Vbhoak.reported, z]
        rw [e] at fin
        exact ⟨_, rfl, rfl, _, rfl, iteT (T.st_today rfl (mono_var 3) ⟨_, rfl, 1, rfl, h1', fun H3 h3' c3 => ⟨_, rfl, p, _, rfl, h3', trivial, fin H3 h3' (c1.trans c3)⟩⟩)⟩
end
def MonoR (r : R2) : Prop := ∀ (x y : V) (H : Hp) (Q Q' : VK), (∀ v H1, Q v H1 -> Q' v H1) -> r x y H Q -> r x y H Q'
theorem mono_op {r : R2} {ta tb : TE} (hr : MonoR r) (ha : Mono ta) (hb : Mono tb) : Mono (tOp r ta tb) := fun σ H _ _ h q => ha σ H _ _ (fun _ H1 q1 => hb σ H1 _ _ (fun _ H2 q2 => hr _ _ H2 _ _ h q2) q1) q
theorem mr_I0 {g : Int -> Int -> V} : MonoR (rI0 g) := fun _ _ _ _ _ h ⟨i, j, e1, e2, q⟩ => ⟨i, j, e1, e2, h _ _ q⟩
theorem mono_fld {K : PySem.W.Frag} {ta : TE} {f : Str} (ha : Mono ta) : Mono (tFld K ta f) := fun σ H _ _ h q => ha σ H _ _ (fun _ _ ⟨a, C, dx, fs, v, e1, e2, e3, e4, e5, q⟩ => ⟨a, C, dx, fs, v, e1, e2, e3, e4, e5, h _ _ q⟩) q
theorem for_l {K : PySem.W.Frag} {tl : TE} {g : TG} {tb : TS} {D : Ends} {σ : L2.St} {H : Hp} (m : Mono tl) (h : tl σ H fun x H1 => ∃ (a : Addr) (xs : List V) (Pv : Nat -> L2.St -> Hp -> Prop), x = .ref a /\ SqL K H1 a xs /\ Pv 0 σ H1 /\ (∀ i σ H, i <= xs.length -> Pv i σ H -> SqL K H a xs) /\
    (∀ i x σ H, xs[i]? = some x -> Pv i σ H -> g x σ H fun σ2 H2 => tb { D with nx := Pv (i + 1), ct := Pv (i + 1), bk := D.nx } σ2 H2) /\ ∀ σ H, Pv xs.length σ H -> D.nx σ H) : tFor (iList K tl) g tb D σ H :=
  m σ H _ _ (fun x H1 ⟨a, xs, Pv, e, h1, h2, h3, h4, h5⟩ => ⟨a, e, ⟨xs, h1⟩, for_list Pv h2 h3 h4 h5⟩) h
theorem for_r {ta : TA} {g : TG} {tb : TS} {D : Ends} {σ : L2.St} {H : Hp} (m : ∀ Q Q' : List V -> Hp -> Prop, (∀ v H1, Q v H1 -> Q' v H1) -> ta σ H Q -> ta σ H Q') (h : ta σ H fun vs H1 => ∃ (n : Nat) (Pv : Nat -> L2.St -> Hp -> Prop), vs = [.int (n : Int)] /\ n < 2 ^ 62 /\ Pv 0 σ H1 /\
    (∀ i σ H, i < n -> Pv i σ H -> g (.int (i : Int)) σ H fun σ2 H2 => tb { D with nx := Pv (i + 1), ct := Pv (i + 1), bk := D.nx } σ2 H2) /\ ∀ σ H, Pv n σ H -> D.nx σ H) : tFor (iRng1 ta) g tb D σ H :=
  m _ _ (fun vs H1 ⟨n, Pv, e, hn, h2, h4, h5⟩ => ⟨n, e, by omega, by omega, for_range (n := n) Pv h2 (fun i σ H hi p => by rw [Int.zero_add]; exact h4 i σ H hi p) h5⟩) h
theorem set_map_take {α : Type} (f : α -> α) : ∀ (l : List α) (i : Nat) (x : α), l[i]? = some x -> ((l.take i).map f ++ l.drop i).set i (f x) = (l.take (i + 1)).map f ++ l.drop (i + 1)
  | [], i, x, h => by simp at h
  | y :: l, 0, x, h => by
    have e : y = x := Option.some.inj h
    subst e
    rfl
  | y :: l, i + 1, x, h => by
    have ih := set_map_take f l i x h
    show f y :: ((l.take i).map f ++ l.drop i).set i (f x) = f y :: ((l.take (i + 1)).map f ++ l.drop (i + 1))
    rw [ih]
theorem get_map_take {α : Type} (f : α -> α) : ∀ (l : List α) (i : Nat), ((l.take i).map f ++ l.drop i)[i]? = l[i]?
  | [], i => by simp
  | y :: l, 0 => rfl
  | y :: l, i + 1 => get_map_take f l i
theorem len_map_take {α : Type} (f : α -> α) (l : List α) (i : Nat) : ((l.take i).map f ++ l.drop i).length = l.length := by
  rw [List.length_append, List.length_map, List.length_take, List.length_drop]
  omega
def nightR (r : Vbhoak.Room) : Vbhoak.Room := if r.taken = true then ⟨true, 0, false, 0, r.extra, none, 0⟩ else ⟨r.taken, r.clean, r.shut, 0, r.extra, none, 0⟩
def nightTo (h : Vbhoak.House) (i : Nat) : Vbhoak.House := ⟨(h.rooms.take i).map nightR ++ h.rooms.drop i, h.heavy, h.light, h.check, h.day + 1⟩
section
variable {K : PySem.W.Frag} {mg : Str -> Option Value} {a : Ad} {H : Hp} {hp l : Addr} {as : List Addr} {h : Vbhoak.House} {σ : L2.St} {i : Nat} {D : Ends} {tv : TE}
theorem Txt.st_day (T : Txt K mg a) (hσ : σ[i]? = some (some (.ref hp))) (m : Mono tv) (hv : tv σ H fun y H1 => ∃ n : Nat, y = .int (n : Int) /\ HouseAt a H1 hp l as h /\ ∀ H', HouseAt a H' hp l as { h with day := n } -> Ch H1 H' hp -> D.nx σ H') : sFld K (tVar i) tv "day" D σ H := by
  refine st_of (C := a.cHouse) m hσ hv fun y H1 ⟨n, e, hH, k⟩ => ?_
  obtain ⟨dx, ho⟩ := hH.obj
  refine ⟨dx, _, ho, T.c_House, T.n_House_day, (by show 5 < 1000; decide), ?_⟩
  subst e
  have c : Ch H1 (upd H1 hp (.ins a.cHouse dx (putF "day" (V.int (n : Int)) (hf l h)))) hp := Ch.upd
  refine k _ ⟨⟨dx, upd_same⟩, c _ _ hH.lst (ne_of hH.lst ho (by intro z; cases z)), hH.nd, hH.len, fun j p r h1 h2 => ?_, hH.out⟩ c
  obtain ⟨dp, ep⟩ := hH.at_ j p r h1 h2
  exact ⟨dp, c _ _ ep fun z => hH.out (z ▸ List.mem_of_getElem? h1)⟩
end
section
variable {P : Program} {w : World} {K : PySem.W.Frag} {mg : Str -> Option Value} {base : Heap} {a : Ad}
theorem ok_night (T : Txt K mg a) : COk P w K mg base 2 "night_passes" (spOp a fun h ns c => ns = [] /\ c = .night) := by
  have sc := sc_night_passes
  have C_forget_the_day := ok_forget (P := P) (w := w) (base := base) T
  refine T.d_night_passes.ok sc (fun vs H Q E h => ?_) (fun f cdv A outer s H vs Q E hr h => ?_)
  . obtain ⟨hp, l, as, h, np, ns, c, rfl, _⟩ := h; rfl
  . obtain ⟨hp, l, as, h, np, ns, c, rfl, hH, hg, hN, ⟨rfl, rfl⟩, k⟩ := h
    refine ⟨_, (pss_cons (ps_fld (pv 0) (pe_op op_add (pe_fld (pv 0) rfl) pe_int) rfl)
      (pss_cons (ps_for PassesOwn.never rfl (pi_list (pe_fld (pv 0) rfl)) (pg_name (i := 2) sc.nd rfl (Or.inl rfl)) (pss_cons (ps_expr (pe_callN C_forget_the_day hr rfl (pa_cons (pv 2) pa_nil)))
      (pss_one (ps_if (pt_val (pe_fld (pv 2) rfl)) (pss_one (ps_fld (pv 2) (pe_gint rfl T.g_DIRTY) rfl)) pss_nil))))
      (pss_one (ps_ret (pe_lst (pa_cons (pe_gint rfl T.g_ACCEPTED) (pa_cons (pe_fld (pv 0) rfl) pa_nil))))))), ?_⟩
    refine T.st_day (h := h) (as := as) (l := l) rfl (mono_op mr_I0 (mono_fld (mono_var 0)) (mono_c _)) (T.rd_day hH rfl ⟨_, _, rfl, rfl, h.day + 1, rfl, hH, fun H1 hH1 c1 => ?_⟩)
    dsimp only [tSeq, tIfS, tB, tTest, tOp, tRet, tIf, tAnd, tNot, tOr, tNext, tC, tAsg, gName, tDrop, tCall, tCons, tNil, tLst]
    have h0 : HouseAt a H1 hp l as (nightTo h 0) := hH1
    refine for_l (mono_fld (mono_var 0)) (T.rd_rooms hH1 rfl ⟨l, as.map V.ref, fun i σ H' => ∃ v, σ = [some (.ref hp), some (.ref np), v] /\ HouseAt a H' hp l as (nightTo h i) /\ ChS H H' (hp :: as), rfl, SqL.of hH1.lst,
      ⟨none, rfl, h0, c1.toS (List.mem_cons_self ..)⟩, fun i σ H' _ ⟨_, _, hI, _⟩ => SqL.of hI.lst, ?_, ?_⟩)
    . rintro i y σ H2 hi ⟨v, rfl, hI, ch⟩
      obtain ⟨p, hp1, rfl⟩ : ∃ p, as[i]? = some p /\ y = V.ref p := by
        rw [List.getElem?_map] at hi
        cases e : as[i]? with
        | none => rw [e] at hi; cases hi
        | some p => rw [e] at hi; exact ⟨p, rfl, (Option.some.inj hi).symm⟩
      have hil : i < h.rooms.length := by rw [<- hH.len]; exact (List.getElem?_eq_some_iff.mp hp1).1
      obtain ⟨r, hr1⟩ : ∃ r, h.rooms[i]? = some r := ⟨_, List.getElem?_eq_getElem hil⟩
      have hm : p ∈ as := List.mem_of_getElem? hp1
      have gr : GoodR r := hg.rooms r (List.mem_of_getElem? hr1)
      have hR : RoomAt a H2 p r := hI.at_ i p r hp1 (by show ((h.rooms.take i).map nightR ++ h.rooms.drop i)[i]? = some r; rw [get_map_take]; exact hr1)
      have hil' : i < (nightTo h i).rooms.length := by show i < ((h.rooms.take i).map nightR ++ h.rooms.drop i).length; rw [len_map_take]; exact hil
      have fin : ∀ H4, RoomAt a H4 p (nightR r) -> Ch H2 H4 p -> HouseAt a H4 hp l as (nightTo h (i + 1)) /\ ChS H H4 (hp :: as) := fun H4 h4 c4 => by
        have z := hI.set hp1 h4 c4 hil'
        have e : Vbhoak.setRoom (nightTo h i) i (nightR r) = nightTo h (i + 1) := by
          unfold Vbhoak.setRoom nightTo
          dsimp only
          rw [set_map_take nightR h.rooms i r hr1]
        rw [e] at z
        exact ⟨z, ch.trans (c4.toS (List.mem_cons_of_mem _ hm))⟩
      dsimp only [tSeq, tIfS, tB, tTest, tOp, tRet, tIf, tAnd, tNot, tOr, tNext, tC, tAsg, gName, tDrop, tCall, tCons, tNil, tLst]
      refine ⟨_, rfl, p, r, rfl, hR, fun H3 h3 c3 => ?_⟩
      refine T.rd_taken h3 rfl ⟨_, rfl, ite2 (fun ht => ?_) (fun ht => ?_)⟩
      . have ht : r.taken = true := ht
        have e : nightR r = { forgot r with clean := 0 } := by
          have hs : r.shut = false := by
            cases z : r.shut with
            | false => rfl
            | true => have q := (gr.shut z).1; rw [ht] at q; cases q
          obtain ⟨tk, cl, sh, du, ex, sa, ak⟩ := r
          have ht : tk = true := ht
          have hs : sh = false := hs
          subst ht hs
          rfl
        refine T.st_state rfl (mono_c _) ⟨0, rfl, h3, fun H4 h4 c4 => ?_⟩
        obtain ⟨z1, z2⟩ := fin H4 (by rw [e]; exact h4) (c3.trans c4)
        exact ⟨_, rfl, z1, z2⟩
      . have ht : ¬ r.taken = true := ht
        have e : nightR r = forgot r := by
          unfold nightR
          rw [if_neg ht]
          rfl
        obtain ⟨z1, z2⟩ := fin H3 (by rw [e]; exact h3) c3
        exact ⟨_, rfl, z1, z2⟩
    . rintro σ H2 ⟨v, rfl, hI, ch⟩
      have e : nightTo h (as.map V.ref).length = ⟨h.rooms.map nightR, h.heavy, h.light, h.check, h.day + 1⟩ := by
        unfold nightTo
        rw [List.length_map, hH.len, List.take_length, List.drop_length, List.append_nil]
      rw [e] at hI
      refine T.rd_day hI rfl ?_
      exact end_at (ans := [0, ((h.day + 1 : Nat) : Int)]) k hI ch rfl (by show 2 <= 1000; decide)
end
def MonoA (t : TA) : Prop := ∀ (σ : L2.St) (H : Hp) (Q Q' : List V -> Hp -> Prop), (∀ v H1, Q v H1 -> Q' v H1) -> t σ H Q -> t σ H Q'
theorem ma_nil : MonoA tNil := fun _ _ _ _ h q => h _ _ q
theorem ma_cons {ta : TE} {t : TA} (ha : Mono ta) (hb : MonoA t) : MonoA (tCons ta t) := fun σ H _ _ h q => ha σ H _ _ (fun _ H1 q1 => hb σ H1 _ _ (fun _ _ q2 => h _ _ q2) q1) q
theorem lc_r {ta : TA} {g : TG} {tt : TT} {te : TE} {vs : List Nat} {σ : L2.St} {H : Hp} {Q : VK} (m : MonoA ta) (h : ta σ H fun us H1 => ∃ n : Nat, us = [.int (n : Int)] /\ n < 2 ^ 62 /\ ∀ D, H1 D = Option.none -> ∃ Pv : Nat -> Hp -> Prop, Pv 0 (upd H1 D (.lst [])) /\
    (∀ i H, i < n -> Pv i H -> g (.int (i : Int)) (wipe σ vs) H fun σ2 H2 => wipe σ2 vs = wipe σ vs /\ tt σ2 H2 fun b H3 =>
      if b = true then te σ2 H3 fun y H4 => ∃ acc, H4 D = some (.lst acc) /\ acc.length < sizeLine /\ Pv (i + 1) (upd H4 D (.lst (acc ++ [y]))) else Pv (i + 1) H3) /\ ∀ H, Pv n H -> Q (.ref D) H) : tLc (iRng1 ta) g tt te vs σ H Q :=
  m σ H _ _ (fun us H1 ⟨n, e, hn, k⟩ => ⟨n, e, by omega, by omega, fun D hD => let ⟨Pv, h0, hs, hd⟩ := k D hD; lc_range (n := n) Pv h0 (fun i H hi p => by rw [Int.zero_add]; exact hs i H hi p) hd⟩) h
theorem fld_st {K : PySem.W.Frag} {tv ta : TE} {f : Str} {D : Ends} {σ : L2.St} {H : Hp} (h : tv σ H fun y H1 => ta σ H1 fun x H2 => ∃ a C dx fs, x = .ref a /\ H2 a = some (.ins C dx fs) /\ Cls K C /\ NoAttr K C f /\ fs.length < 1000 /\ D.nx σ (upd H2 a (.ins C dx (putF f y fs)))) : sFld K ta tv f D σ H := h
def spRoomI (a : Ad) : Sp := fun vs H Q _ => ∃ p dx, vs = [.ref p] /\ H p = some (.ins a.cRoom dx []) /\ ∀ H', RoomAt a H' p Vbhoak.empty -> Ch H H' p -> Q .non H'
def spHouseI (a : Ad) : Sp := fun vs H Q _ => ∃ (p dx : Addr) (n hv lt ck : Nat), vs = [.ref p, .int (n : Int), .int (hv : Int), .int (lt : Int), .int (ck : Int)] /\ n <= 30 /\ H p = some (.ins a.cHouse dx []) /\
  ∀ H' l as, H l = Option.none -> HouseAt a H' p l as ⟨List.replicate n Vbhoak.empty, hv, lt, ck, 0⟩ -> Ch H H' p -> Q .non H'
section
variable {P : Program} {w : World} {K : PySem.W.Frag} {mg : Str -> Option Value} {base : Heap} {a : Ad}
theorem ok_Room (T : Txt K mg a) : IOk P w K mg base 1 "Room" a.cRoom (spRoomI a) := by
  have sc := sc_Room_init
  refine T.k_Room.ok sc (fun vs H Q E h => ?_) (fun f cdv A outer s H vs Q E hr h => ?_)
  . obtain ⟨p, dx, rfl, _⟩ := h; rfl
  . obtain ⟨p, dx, rfl, hp, k⟩ := h
    refine ⟨_, (pss_cons (ps_fld (pv 0) pe_bl rfl)
      (pss_cons (ps_fld (pv 0) (pe_gint rfl T.g_INSPECTED) rfl)
      (pss_cons (ps_fld (pv 0) pe_bl rfl)
      (pss_cons (ps_fld (pv 0) pe_int rfl)
      (pss_cons (ps_fld (pv 0) pe_int rfl)
      (pss_cons (ps_fld (pv 0) (pe_gint rfl T.g_NOTHING_SEEN) rfl)
      (pss_one (ps_fld (pv 0) (pe_gint rfl T.g_NOTHING_TODAY) rfl)))))))), ?_⟩
    refine ⟨_, rfl, p, _, dx, _, rfl, hp, T.c_Room, T.n_Room_taken, (by show 0 < 1000; decide), ?_⟩
    refine ⟨_, rfl, p, _, dx, _, rfl, upd_same, T.c_Room, T.n_Room_state, (by show 1 < 1000; decide), ?_⟩
    refine ⟨_, rfl, p, _, dx, _, rfl, upd_same, T.c_Room, T.n_Room_shut, (by show 2 < 1000; decide), ?_⟩
    refine ⟨_, rfl, p, _, dx, _, rfl, upd_same, T.c_Room, T.n_Room_due, (by show 3 < 1000; decide), ?_⟩
    refine ⟨_, rfl, p, _, dx, _, rfl, upd_same, T.c_Room, T.n_Room_extra, (by show 4 < 1000; decide), ?_⟩
    refine ⟨_, rfl, p, _, dx, _, rfl, upd_same, T.c_Room, T.n_Room_seen, (by show 5 < 1000; decide), ?_⟩
    refine ⟨_, rfl, p, _, dx, _, rfl, upd_same, T.c_Room, T.n_Room_today, (by show 6 < 1000; decide), ?_⟩
    exact k _ ⟨dx, upd_same⟩ ((((((Ch.upd.trans Ch.upd).trans Ch.upd).trans Ch.upd).trans Ch.upd).trans Ch.upd).trans Ch.upd)
theorem ok_House (T : Txt K mg a) : IOk P w K mg base 3 "House" a.cHouse (spHouseI a) := by
  have sc := sc_House_init
  have C_Room := ok_Room (P := P) (w := w) (base := base) T
  refine T.k_House.ok sc (fun vs H Q E h => ?_) (fun f cdv A outer s H vs Q E hr h => ?_)
  . obtain ⟨p, dx, n, hv, lt, ck, rfl, _⟩ := h; rfl
  . obtain ⟨p, dx, n, hv, lt, ck, rfl, hn, hp, k⟩ := h
    refine ⟨_, (pss_cons (ps_fld (pv 0) (pe_lc rfl sc.nd (pi_range1 rfl T.b_range (pa_cons (pv 1) pa_nil)) (blkOk_by (own := [("place", 5)]) (by kernel_rfl)) (fun _ _ _ _ _ => (pg_name (i := 5) sc.nd rfl (Or.inl rfl))) (fun _ _ _ _ _ => pts_nil) (fun _ _ _ _ _ => (pe_mk0 C_Room hr rfl))) rfl)
      (pss_cons (ps_fld (pv 0) (pv 2) rfl)
      (pss_cons (ps_fld (pv 0) (pv 3) rfl)
      (pss_cons (ps_fld (pv 0) (pv 4) rfl)
      (pss_one (ps_fld (pv 0) pe_int rfl)))))), ?_⟩
    refine fld_st (lc_r (ma_cons (mono_var 1) ma_nil) ⟨_, rfl, n, rfl, by omega, fun D hD => ⟨fun i H' => ∃ as : List Addr, as.length = i /\ as.Nodup /\ H' D = some (.lst (as.map V.ref)) /\ (∀ q ∈ as, RoomAt a H' q Vbhoak.empty /\ H q = Option.none /\ q ≠ D) /\ Same H H', ?_, ?_, ?_⟩⟩)
    . exact ⟨[], rfl, List.nodup_nil, upd_same, fun q m => absurd m (by simp), Same.new hD⟩
    . rintro i H1 hi ⟨as, hl, nd, hL, hR, sm⟩
      dsimp only [gName, tYes]
      refine ⟨rfl, iteT ?_⟩
      intro x dx1 nx ndx ne
      refine ⟨x, dx1, rfl, upd_same, fun H2 h2 c2 => ⟨rfl, ?_⟩⟩
      have s2 : Same H1 H2 := Same.made nx ndx c2
      refine ⟨as.map V.ref, s2 _ _ hL, by rw [List.length_map, hl]; exact small1000 (by omega), as ++ [x], ?_⟩
      have xD : x ≠ D := fun z => by rw [z, hL] at nx; cases nx
      have xas : ¬ x ∈ as := fun m => by
        obtain ⟨dq, e⟩ := (hR x m).1
        rw [e] at nx
        cases nx
      refine ⟨by simp [hl], nd_snoc nd xas, by rw [upd_same, List.map_append]; rfl, fun q m => ?_, fun b o e => ?_⟩
      . rcases List.mem_append.mp m with z | z
        . obtain ⟨⟨dq, e⟩, f, qD⟩ := hR q z
          exact ⟨⟨dq, by rw [upd_ne qD]; exact s2 _ _ e⟩, f, qD⟩
        . have z : q = x := by simpa using z
          subst z
          obtain ⟨dq, e⟩ := h2
          exact ⟨⟨dq, by rw [upd_ne xD]; exact e⟩, sm.free nx, xD⟩
      . have z : b ≠ D := ne_of_none e hD
        rw [upd_ne z]
        exact s2 _ _ (sm _ _ e)
    . rintro H1 ⟨as, hl, nd, hL, hR, sm⟩
      have hp1 := sm _ _ hp
      have out : p ∉ as := fun m => by
        have z := (hR p m).2.1
        rw [hp] at z
        cases z
      have last : ∀ H5 : Hp, Ch H1 H5 p -> H5 p = some (.ins a.cHouse dx (hf D ⟨List.replicate n Vbhoak.empty, hv, lt, ck, 0⟩)) -> Q .non H5 := fun H5 c e5 => by
        refine k _ D as hD ⟨⟨dx, e5⟩, c _ _ hL (fun z => ?_), nd, by rw [hl, List.length_replicate], fun j q r h1 h2 => ?_, out⟩ fun b o e ne => c _ _ (sm _ _ e) ne
        . rw [z, hp1] at hL
          cases hL
        . have m : q ∈ as := List.mem_of_getElem? h1
          have er : r = Vbhoak.empty := (List.mem_replicate.mp (List.mem_of_getElem? h2)).2
          subst er
          obtain ⟨dq, e⟩ := (hR q m).1
          exact ⟨dq, c _ _ e fun z => out (z ▸ m)⟩
      refine ⟨_, rfl, p, _, dx, _, rfl, hp1, T.c_House, T.n_House_rooms, (by show 0 < 1000; decide), ?_⟩
      refine ⟨_, rfl, _, rfl, p, _, dx, _, rfl, upd_same, T.c_House, T.n_House_heavy, (by show 1 < 1000; decide), ?_⟩
      refine ⟨_, rfl, _, rfl, p, _, dx, _, rfl, upd_same, T.c_House, T.n_House_light, (by show 2 < 1000; decide), ?_⟩
      refine ⟨_, rfl, _, rfl, p, _, dx, _, rfl, upd_same, T.c_House, T.n_House_check, (by show 3 < 1000; decide), ?_⟩
      refine ⟨_, rfl, p, _, dx, _, rfl, upd_same, T.c_House, T.n_House_day, (by show 4 < 1000; decide), ?_⟩
      exact last _ ((((Ch.upd.trans Ch.upd).trans Ch.upd).trans Ch.upd).trans Ch.upd) upd_same
end
theorem mono_call {sp : Sp} {ds : List V} {E : XK} {ta : TA} (hs : ∀ vs H (Q Q' : VK), (∀ v H1, Q v H1 -> Q' v H1) -> sp vs H Q E -> sp vs H Q' E) (ha : MonoA ta) : Mono (tCall sp ds E ta) := fun σ H _ _ h q => ha σ H _ _ (fun _ H1 q1 => hs _ H1 _ _ h q1) q
theorem mono_cb {r : List V -> Hp -> VK -> Prop} {ta : TA} (hs : ∀ vs H (Q Q' : VK), (∀ v H1, Q v H1 -> Q' v H1) -> r vs H Q -> r vs H Q') (ha : MonoA ta) : Mono (tCB r ta) := fun σ H _ _ h q => ha σ H _ _ (fun _ H1 q1 => hs _ H1 _ _ h q1) q
section
variable {K : PySem.W.Frag} {ta : TA} {tl : TE} {g : TG} {tb : TS} {D : Ends} {σ : L2.St} {H : Hp}
theorem for_enum {a : Addr} {xs : List V} (Pv : Nat -> L2.St -> Hp -> Prop) (h0 : Pv 0 σ H) (hl : ∀ i σ H, i <= xs.length -> Pv i σ H -> SqL K H a xs)
    (hs : ∀ i x σ H T, xs[i]? = some x -> Pv i σ H -> H T = Option.none -> g (.ref T) σ (upd H T (.tup [.int (i : Nat), x])) fun σ2 H2 => tb { D with nx := Pv (i + 1), ct := Pv (i + 1), bk := D.nx } σ2 H2) (hd : ∀ σ H, Pv xs.length σ H -> D.nx σ H) :
    ∃ W : Nat -> Nat -> L2.St -> Hp -> Prop, (∃ m, W 0 m σ H) /\ ∀ i m σ H, W i m σ H ->
      ((Ite K a).stop i H /\ D.nx σ H) \/ ((Ite K a).go i H /\ ∃ N : L2.St -> Hp -> Prop, (∀ σ' H', N σ' H' -> ∃ m', m' < m /\ W (i + 1) m' σ' H') /\ ∀ x H', (Ite K a).yld i H x H' -> g x σ H' fun σ2 H2 => tb { D with nx := N, ct := N, bk := D.nx } σ2 H2) := by
  refine ⟨fun i m σ H => m = xs.length - i /\ i <= xs.length /\ Pv i σ H, ⟨xs.length, by simp, Nat.zero_le _, h0⟩, ?_⟩
  rintro i m σ H ⟨rfl, hi, p⟩
  have q := hl i σ H hi p
  by_cases hlt : i < xs.length
  . refine .inr ⟨⟨xs, xs[i], q, by simp [hlt]⟩, Pv (i + 1), fun σ' H' p' => ⟨xs.length - (i + 1), by omega, rfl, hlt, p'⟩, fun v H' y => ?_⟩
    obtain ⟨T, x, rfl, hT, rfl, y⟩ := y
    exact hs i x σ H T (y xs q) p hT
  . have e : i = xs.length := by omega
    subst e
    exact .inl ⟨⟨xs, q, Nat.le_refl _⟩, hd σ H p⟩
theorem for_e (m : MonoA ta) (h : ta σ H fun vs H1 => ∃ (a : Addr) (xs : List V) (Pv : Nat -> L2.St -> Hp -> Prop), vs = [.ref a] /\ SqL K H1 a xs /\ Pv 0 σ H1 /\ (∀ i σ H, i <= xs.length -> Pv i σ H -> SqL K H a xs) /\
    (∀ i x σ H T, xs[i]? = some x -> Pv i σ H -> H T = Option.none -> g (.ref T) σ (upd H T (.tup [.int (i : Nat), x])) fun σ2 H2 => tb { D with nx := Pv (i + 1), ct := Pv (i + 1), bk := D.nx } σ2 H2) /\ ∀ σ H, Pv xs.length σ H -> D.nx σ H) : tFor (iEnum K ta) g tb D σ H :=
  m σ H _ _ (fun vs H1 ⟨a, xs, Pv, e, h1, h2, h3, h4, h5⟩ => ⟨a, xs, e, h1, for_enum Pv h2 h3 h4 h5⟩) h
theorem for_et (m : MonoA ta) (h : ta σ H fun vs H1 => ∃ (a : Addr) (xs : List V) (Pv : Nat -> L2.St -> Hp -> Prop), vs = [.ref a] /\ SqT K H1 a xs /\ Pv 0 σ H1 /\ (∀ i σ H, i <= xs.length -> Pv i σ H -> SqT K H a xs) /\
    (∀ i x σ H T, xs[i]? = some x -> Pv i σ H -> H T = Option.none -> g (.ref T) σ (upd H T (.tup [.int (i : Nat), x])) fun σ2 H2 => tb { D with nx := Pv (i + 1), ct := Pv (i + 1), bk := D.nx } σ2 H2) /\ ∀ σ H, Pv xs.length σ H -> D.nx σ H) : tFor (iEnumT K ta) g tb D σ H :=
  m σ H _ _ (fun vs H1 ⟨a, xs, Pv, e, h1, h2, h3, h4, h5⟩ => ⟨a, xs, e, h1, for_enumT Pv h2 h3 h4 h5⟩) h
theorem for_zip {a b : Addr} {xs ys : List V} (hlen : xs.length = ys.length) (Pv : Nat -> L2.St -> Hp -> Prop) (h0 : Pv 0 σ H) (hl : ∀ i σ H, i <= xs.length -> Pv i σ H -> SqL K H a xs /\ SqL K H b ys)
    (hs : ∀ i x y σ H T, xs[i]? = some x -> ys[i]? = some y -> Pv i σ H -> H T = Option.none -> g (.ref T) σ (upd H T (.tup [x, y])) fun σ2 H2 => tb { D with nx := Pv (i + 1), ct := Pv (i + 1), bk := D.nx } σ2 H2) (hd : ∀ σ H, Pv xs.length σ H -> D.nx σ H) :
    ∃ W : Nat -> Nat -> L2.St -> Hp -> Prop, (∃ m, W 0 m σ H) /\ ∀ i m σ H, W i m σ H ->
      ((Itz K a b).stop i H /\ D.nx σ H) \/ ((Itz K a b).go i H /\ ∃ N : L2.St -> Hp -> Prop, (∀ σ' H', N σ' H' -> ∃ m', m' < m /\ W (i + 1) m' σ' H') /\ ∀ x H', (Itz K a b).yld i H x H' -> g x σ H' fun σ2 H2 => tb { D with nx := N, ct := N, bk := D.nx } σ2 H2) := by
  refine ⟨fun i m σ H => m = xs.length - i /\ i <= xs.length /\ Pv i σ H, ⟨xs.length, by simp, Nat.zero_le _, h0⟩, ?_⟩
  rintro i m σ H ⟨rfl, hi, p⟩
  obtain ⟨q, q2⟩ := hl i σ H hi p
  by_cases hlt : i < xs.length
  . refine .inr ⟨⟨xs, ys, xs[i], ys[i]'(by omega), q, q2, by simp [hlt], by simp⟩, Pv (i + 1), fun σ' H' p' => ⟨xs.length - (i + 1), by omega, rfl, hlt, p'⟩, fun v H' y => ?_⟩
    obtain ⟨T, x, z, rfl, hT, rfl, y, y2⟩ := y
    exact hs i x z σ H T (y xs q) (y2 ys q2) p hT
  . have e : i = xs.length := by omega
    subst e
    exact .inl ⟨⟨xs, ys, q, q2, .inl (Nat.le_refl _)⟩, hd σ H p⟩
theorem for_zip1 {a b : Addr} {xs ys : List V} (hlen : xs.length = ys.length + 1) (Pv : Nat -> L2.St -> Hp -> Prop) (h0 : Pv 0 σ H) (hl : ∀ i σ H, i <= ys.length -> Pv i σ H -> SqL K H a xs /\ SqL K H b ys)
    (hs : ∀ i x y σ H T, xs[i]? = some x -> ys[i]? = some y -> Pv i σ H -> H T = Option.none -> g (.ref T) σ (upd H T (.tup [x, y])) fun σ2 H2 => tb { D with nx := Pv (i + 1), ct := Pv (i + 1), bk := D.nx } σ2 H2) (hd : ∀ σ H, Pv ys.length σ H -> D.nx σ H) :
    ∃ W : Nat -> Nat -> L2.St -> Hp -> Prop, (∃ m, W 0 m σ H) /\ ∀ i m σ H, W i m σ H ->
      ((Itz K a b).stop i H /\ D.nx σ H) \/ ((Itz K a b).go i H /\ ∃ N : L2.St -> Hp -> Prop, (∀ σ' H', N σ' H' -> ∃ m', m' < m /\ W (i + 1) m' σ' H') /\ ∀ x H', (Itz K a b).yld i H x H' -> g x σ H' fun σ2 H2 => tb { D with nx := N, ct := N, bk := D.nx } σ2 H2) := by
  refine ⟨fun i m σ H => m = ys.length - i /\ i <= ys.length /\ Pv i σ H, ⟨ys.length, by simp, Nat.zero_le _, h0⟩, ?_⟩
  rintro i m σ H ⟨rfl, hi, p⟩
  obtain ⟨q, q2⟩ := hl i σ H hi p
  by_cases hlt : i < ys.length
  . refine .inr ⟨⟨xs, ys, xs[i]'(by omega), ys[i], q, q2, by simp, by simp⟩, Pv (i + 1), fun σ' H' p' => ⟨ys.length - (i + 1), by omega, rfl, hlt, p'⟩, fun v H' y => ?_⟩
    obtain ⟨T, x, z, rfl, hT, rfl, y, y2⟩ := y
    exact hs i x z σ H T (y xs q) (y2 ys q2) p hT
  . have e : i = ys.length := by omega
    subst e
    exact .inl ⟨⟨xs, ys, q, q2, .inr (Nat.le_refl _)⟩, hd σ H p⟩
theorem for_z (m : MonoA ta) (h : ta σ H fun vs H1 => ∃ (a b : Addr) (xs ys : List V) (Pv : Nat -> L2.St -> Hp -> Prop), vs = [.ref a, .ref b] /\ SqL K H1 a xs /\ SqL K H1 b ys /\ xs.length = ys.length /\ Pv 0 σ H1 /\ (∀ i σ H, i <= xs.length -> Pv i σ H -> SqL K H a xs /\ SqL K H b ys) /\
    (∀ i x y σ H T, xs[i]? = some x -> ys[i]? = some y -> Pv i σ H -> H T = Option.none -> g (.ref T) σ (upd H T (.tup [x, y])) fun σ2 H2 => tb { D with nx := Pv (i + 1), ct := Pv (i + 1), bk := D.nx } σ2 H2) /\ ∀ σ H, Pv xs.length σ H -> D.nx σ H) : tFor (iZip K ta) g tb D σ H :=
  m σ H _ _ (fun vs H1 ⟨a, b, xs, ys, Pv, e, h1, h1', hl, h2, h3, h4, h5⟩ => ⟨a, b, xs, ys, e, h1, h1', for_zip hl Pv h2 h3 h4 h5⟩) h
theorem for_z1 (m : MonoA ta) (h : ta σ H fun vs H1 => ∃ (a b : Addr) (xs ys : List V) (Pv : Nat -> L2.St -> Hp -> Prop), vs = [.ref a, .ref b] /\ SqL K H1 a xs /\ SqL K H1 b ys /\ xs.length = ys.length + 1 /\ Pv 0 σ H1 /\ (∀ i σ H, i <= ys.length -> Pv i σ H -> SqL K H a xs /\ SqL K H b ys) /\
    (∀ i x y σ H T, xs[i]? = some x -> ys[i]? = some y -> Pv i σ H -> H T = Option.none -> g (.ref T) σ (upd H T (.tup [x, y])) fun σ2 H2 => tb { D with nx := Pv (i + 1), ct := Pv (i + 1), bk := D.nx } σ2 H2) /\ ∀ σ H, Pv ys.length σ H -> D.nx σ H) : tFor (iZip K ta) g tb D σ H :=
  m σ H _ _ (fun vs H1 ⟨a, b, xs, ys, Pv, e, h1, h1', hl, h2, h3, h4, h5⟩ => ⟨a, b, xs, ys, e, h1, h1', for_zip1 hl Pv h2 h3 h4 h5⟩) h
theorem for_zipT {a b : Addr} {xs ys : List V} (hlen : xs.length = ys.length) (Pv : Nat -> L2.St -> Hp -> Prop) (h0 : Pv 0 σ H) (hl : ∀ i σ H, i <= xs.length -> Pv i σ H -> SqL K H a xs /\ SqT K H b ys)
    (hs : ∀ i x y σ H T, xs[i]? = some x -> ys[i]? = some y -> Pv i σ H -> H T = Option.none -> g (.ref T) σ (upd H T (.tup [x, y])) fun σ2 H2 => tb { D with nx := Pv (i + 1), ct := Pv (i + 1), bk := D.nx } σ2 H2) (hd : ∀ σ H, Pv xs.length σ H -> D.nx σ H) :
    ∃ W : Nat -> Nat -> L2.St -> Hp -> Prop, (∃ m, W 0 m σ H) /\ ∀ i m σ H, W i m σ H ->
      ((ItzT K a b).stop i H /\ D.nx σ H) \/ ((ItzT K a b).go i H /\ ∃ N : L2.St -> Hp -> Prop, (∀ σ' H', N σ' H' -> ∃ m', m' < m /\ W (i + 1) m' σ' H') /\ ∀ x H', (ItzT K a b).yld i H x H' -> g x σ H' fun σ2 H2 => tb { D with nx := N, ct := N, bk := D.nx } σ2 H2) := by
  refine ⟨fun i m σ H => m = xs.length - i /\ i <= xs.length /\ Pv i σ H, ⟨xs.length, by simp, Nat.zero_le _, h0⟩, ?_⟩
  rintro i m σ H ⟨rfl, hi, p⟩
  obtain ⟨q, q2⟩ := hl i σ H hi p
  by_cases hlt : i < xs.length
  . refine .inr ⟨⟨xs, ys, xs[i], ys[i]'(by omega), q, q2, by simp [hlt], by simp⟩, Pv (i + 1), fun σ' H' p' => ⟨xs.length - (i + 1), by omega, rfl, hlt, p'⟩, fun v H' y => ?_⟩
    obtain ⟨T, x, z, rfl, hT, rfl, y, y2⟩ := y
    exact hs i x z σ H T (y xs q) (y2 ys q2) p hT
  . have e : i = xs.length := by omega
    subst e
    exact .inl ⟨⟨xs, ys, q, q2, .inl (Nat.le_refl _)⟩, hd σ H p⟩
theorem for_zt (m : MonoA ta) (h : ta σ H fun vs H1 => ∃ (a b : Addr) (xs ys : List V) (Pv : Nat -> L2.St -> Hp -> Prop), vs = [.ref a, .ref b] /\ SqL K H1 a xs /\ SqT K H1 b ys /\ xs.length = ys.length /\ Pv 0 σ H1 /\ (∀ i σ H, i <= xs.length -> Pv i σ H -> SqL K H a xs /\ SqT K H b ys) /\
    (∀ i x y σ H T, xs[i]? = some x -> ys[i]? = some y -> Pv i σ H -> H T = Option.none -> g (.ref T) σ (upd H T (.tup [x, y])) fun σ2 H2 => tb { D with nx := Pv (i + 1), ct := Pv (i + 1), bk := D.nx } σ2 H2) /\ ∀ σ H, Pv xs.length σ H -> D.nx σ H) : tFor (iZipT K ta) g tb D σ H :=
  m σ H _ _ (fun vs H1 ⟨a, b, xs, ys, Pv, e, h1, h1', hl, h2, h3, h4, h5⟩ => ⟨a, b, xs, ys, e, h1, h1', for_zipT hl Pv h2 h3 h4 h5⟩) h
theorem for_r2 (m : MonoA ta) (h : ta σ H fun vs H1 => ∃ (lo n : Nat) (Pv : Nat -> L2.St -> Hp -> Prop), vs = [.int (lo : Int), .int ((lo + n : Nat) : Int)] /\ lo + n < 2 ^ 62 /\ Pv 0 σ H1 /\
    (∀ i σ H, i < n -> Pv i σ H -> g (.int ((lo + i : Nat) : Int)) σ H fun σ2 H2 => tb { D with nx := Pv (i + 1), ct := Pv (i + 1), bk := D.nx } σ2 H2) /\ ∀ σ H, Pv n σ H -> D.nx σ H) : tFor (iRng2 ta) g tb D σ H :=
  m σ H _ _ (fun vs H1 ⟨lo, n, Pv, e, hn, h2, h4, h5⟩ => ⟨lo, ((lo + n : Nat) : Int), e, ⟨by omega, by omega, by omega, by omega⟩, by
    rw [show (((lo + n : Nat) : Int) - (lo : Int)).toNat = n by omega]
    exact for_range (n := n) Pv h2 (fun i σ H hi p => by rw [show (lo : Int) + (i : Int) = ((lo + i : Nat) : Int) by omega]; exact h4 i σ H hi p) h5⟩) h
theorem size3 (n : Nat) (h : n < 2 ^ 40) : RgC 0 ((n + 1 : Nat) : Int) 3 (n / 3 + 1) := by
  have e : Builtin.Range.rangeSize 0 ((n + 1 : Nat) : Int) 3 = ((n / 3 + 1 : Nat) : Int) := by
    unfold Builtin.Range.rangeSize
    rw [if_pos (by decide), if_pos (by omega)]
    omega
  refine ⟨by decide, by decide, ?_, e⟩
  have fl : ∀ i : Int, -2 ^ 63 <= i -> i < 2 ^ 63 -> Builtin.Range.rangeFitsLong i = true := fun i h1 h2 => by
    unfold Builtin.Range.rangeFitsLong
    rw [decide_eq_true h1, decide_eq_true h2]; rfl
  unfold Builtin.Range.small
  rw [e, fl 0 (by decide) (by decide), fl 3 (by decide) (by decide), fl ((n + 1 : Nat) : Int) (by omega) (by omega), fl ((n / 3 + 1 : Nat) : Int) (by omega) (by omega), if_pos (show (3 : Int) > 0 by decide), fl (((n + 1 : Nat) : Int) + (3 - 1)) (by omega) (by omega)]
  rw [Bool.or_true]; rfl
theorem for_r3 (m : MonoA ta) (h : ta σ H fun vs H1 => ∃ (n : Nat) (Pv : Nat -> L2.St -> Hp -> Prop), vs = [.int 0, .int ((n + 1 : Nat) : Int), .int 3] /\ n < 2 ^ 40 /\ Pv 0 σ H1 /\
    (∀ i σ H, i < n / 3 + 1 -> Pv i σ H -> g (.int ((3 * i : Nat) : Int)) σ H fun σ2 H2 => tb { D with nx := Pv (i + 1), ct := Pv (i + 1), bk := D.nx } σ2 H2) /\ ∀ σ H, Pv (n / 3 + 1) σ H -> D.nx σ H) : tFor (iRng3 ta) g tb D σ H :=
  m σ H _ _ (fun vs H1 ⟨n, Pv, e, hn, h2, h4, h5⟩ => ⟨0, _, 3, n / 3 + 1, e, size3 n hn, for_rangeC Pv h2 (fun i σ H hi p => by rw [show (0 : Int) + (i : Nat) * 3 = ((3 * i : Nat) : Int) by omega]; exact h4 i σ H hi p) h5⟩) h
end
section
variable {K : PySem.W.Frag} {tl : TE} {g : TG} {tt : TT} {te : TE} {vs : List Nat} {σ : L2.St} {H : Hp} {Q : VK}
theorem lc_l (m : Mono tl) (h : tl σ H fun x H1 => ∃ (a : Addr) (xs : List V), x = .ref a /\ SqL K H1 a xs /\ ∀ D, H1 D = Option.none -> ∃ Pv : Nat -> Hp -> Prop, Pv 0 (upd H1 D (.lst [])) /\ (∀ i H, i <= xs.length -> Pv i H -> SqL K H a xs) /\
    (∀ i x H, xs[i]? = some x -> Pv i H -> g x (wipe σ vs) H fun σ2 H2 => wipe σ2 vs = wipe σ vs /\ tt σ2 H2 fun b H3 =>
      if b = true then te σ2 H3 fun y H4 => ∃ acc, H4 D = some (.lst acc) /\ acc.length < sizeLine /\ Pv (i + 1) (upd H4 D (.lst (acc ++ [y]))) else Pv (i + 1) H3) /\ ∀ H, Pv xs.length H -> Q (.ref D) H) : tLc (iList K tl) g tt te vs σ H Q :=
  m σ H _ _ (fun x H1 ⟨a, xs, e, h1, k⟩ => ⟨a, e, ⟨xs, h1⟩, fun D hD => let ⟨Pv, h0, hl, hs, hd⟩ := k D hD; lc_list (xs := xs) Pv h0 hl hs hd⟩) h
theorem lc_s (m : Mono tl) (h : tl σ H fun x H1 => ∃ (z : Str), x = .str z /\ ∀ D, H1 D = Option.none -> ∃ Pv : Nat -> Hp -> Prop, Pv 0 (upd H1 D (.lst [])) /\
    (∀ i c H, z.cps[i]? = some c -> Pv i H -> g (.str ⟨#[c]⟩) (wipe σ vs) H fun σ2 H2 => wipe σ2 vs = wipe σ vs /\ tt σ2 H2 fun b H3 =>
      if b = true then te σ2 H3 fun y H4 => ∃ acc, H4 D = some (.lst acc) /\ acc.length < sizeLine /\ Pv (i + 1) (upd H4 D (.lst (acc ++ [y]))) else Pv (i + 1) H3) /\ ∀ H, Pv z.cps.size H -> Q (.ref D) H) : tLc (iStr tl) g tt te vs σ H Q :=
  m σ H _ _ (fun x H1 ⟨z, e, k⟩ => ⟨z, e, fun D hD => by
    obtain ⟨Pv, h0, hs, hd⟩ := k D hD
    refine ⟨fun i m H => m = z.cps.size - i /\ i <= z.cps.size /\ Pv i H, ⟨z.cps.size, by simp, Nat.zero_le _, h0⟩, ?_⟩
    rintro i m H ⟨rfl, hi, p⟩
    by_cases hlt : i < z.cps.size
    . refine .inr ⟨hlt, Pv (i + 1), fun H' p' => ⟨z.cps.size - (i + 1), by omega, rfl, hlt, p'⟩, fun x H' y => ?_⟩
      obtain ⟨e, c, hc, ex⟩ := y
      subst e ex
      exact hs i c _ hc p
    . have e : i = z.cps.size := by omega
      subst e
      exact .inl ⟨Nat.le_refl _, hd H p⟩⟩) h
end
def tCut (t u : TS) : TS := fun D σ H => ∃ R : L2.St -> Hp -> Prop, t { D with nx := R } σ H /\ ∀ σ' H', R σ' H' -> u D σ' H'
theorem pss_cut {X : Cx} {st : Stmt} {rest : List Stmt} {t u : TS} (h1 : PS X st t) (h2 : PSs X rest u) : PSs X (st :: rest) (tCut t u) := by
  intro pins s σ H D I ⟨R, q1, q2⟩
  refine wpAny_execs_cons (thn (h1 pins s σ H { D with nx := R } I q1) fun f s1 q => ?_)
  cases f with
  | next =>
    obtain ⟨σ', H', I', q⟩ := q
    exact h2 pins s1 σ' H' D I' (q2 σ' H' q)
  | ret v => exact q
  | brk => exact q
  | cont => exact q
def tCutV (te : TE) : TE := fun σ H Q => ∃ R : V -> Hp -> Prop, te σ H R /\ ∀ v H', R v H' -> Q v H'
theorem pe_cut {X : Cx} {e : Expr} {te : TE} (h : PE X e te) : PE X e (tCutV te) := by
  intro pins s σ H Q I ⟨R, q1, q2⟩
  exact thn (h pins s σ H R I q1) fun u s1 ⟨v, H', I', r, q⟩ => ⟨v, H', I', r, q2 v H' q⟩
theorem ixE {K : PySem.W.Frag} {H : Hp} {p : Addr} {xs : List V} {i : Int} {n : Nat} {v : V} {Q : VK} (e : i = (n : Int)) (hS : SqL K H p xs) (h : xs[n]? = some v) (q : Q v H) : rIxL K (.ref p) (.int i) H Q := ⟨p, xs, i, v, rfl, rfl, hS, by rw [e]; exact atI_nat h, q⟩
theorem ixT {K : PySem.W.Frag} {H : Hp} {p : Addr} {xs : List V} {i : Int} {n : Nat} {v : V} {Q : VK} (e : i = (n : Int)) (hS : SqT K H p xs) (h : xs[n]? = some v) (q : Q v H) : rIxT K (.ref p) (.int i) H Q := ⟨p, xs, i, v, rfl, rfl, hS, by rw [e]; exact atI_nat h, q⟩
abbrev nv (ms : List Nat) : List V := (ms.map Int.ofNat).map V.int
theorem nv_get {ms : List Nat} {i n : Nat} (h : ms[i]? = some n) : (nv ms)[i]? = some (.int (n : Int)) := by
  rw [List.getElem?_map, List.getElem?_map, h]; rfl
theorem nv_len (ms : List Nat) : (nv ms).length = ms.length := by rw [List.length_map, List.length_map]
theorem of_nv {ms : List Nat} {i : Nat} {v : V} (h : (nv ms)[i]? = some v) : ∃ n, ms[i]? = some n /\ v = .int (n : Int) := by
  rw [List.getElem?_map, List.getElem?_map] at h
  cases e : ms[i]? with
  | none => rw [e] at h; cases h
  | some n => rw [e] at h; exact ⟨n, rfl, (Option.some.inj h).symm⟩
theorem sum_nv : ∀ ms : List Nat, (ms.map Int.ofNat).sum = ((ms.sum : Nat) : Int)
  | [] => rfl
  | m :: ms => by rw [List.map_cons, List.sum_cons, sum_nv ms, List.sum_cons]; simp
theorem nv_snoc (ms : List Nat) (n : Nat) : nv ms ++ [.int (n : Int)] = nv (ms ++ [n]) := by simp [nv]
theorem drop_at {α : Type} {l : List α} {i : Nat} {x : α} (h : l[i]? = some x) : l.drop i = x :: l.drop (i + 1) := by
  obtain ⟨h1, h2⟩ := List.getElem?_eq_some_iff.mp h
  rw [List.drop_eq_getElem_cons h1, h2]
section
variable {P : Program} {w : World} {K : PySem.W.Frag} {mg : Str -> Option Value} {base : Heap} {a : Ad}
def spNeed (K : PySem.W.Frag) : Sp := fun vs H Q _ => ∃ (p : Addr) (ms : List Nat) (most : Nat), vs = [.ref p, .int (most : Int)] /\ SqL K H p (nv ms) /\ Q (.int (M.need most ms 1 0 : Nat)) H
theorem ok_need (T : Txt K mg a) : COk P w K mg base 1 "attendants_needed" (spNeed K) := by
  have sc := sc_attendants_needed
  refine T.d_attendants_needed.ok sc (fun vs H Q E h => ?_) (fun f cdv A outer s H vs Q E hr h => ?_)
  . obtain ⟨p, ms, most, rfl, _⟩ := h; rfl
  . obtain ⟨p, ms, most, rfl, hS, k⟩ := h
    refine ⟨_, (pss_cons (ps_set (i := 2) sc.nd rfl (Or.inl rfl) pe_int)
      (pss_cons (ps_set (i := 3) sc.nd rfl (Or.inl rfl) pe_int)
      (pss_cons (ps_for PassesOwn.never rfl (pi_list (pv 0)) (pg_name (i := 4) sc.nd rfl (Or.inl rfl)) (pss_cons (ps_if (pt_cmpR op_gt (pe_op op_add (pv 3) (pv 4)) (pv 1) (nomark _)) (pss_cons (ps_set (i := 2) sc.nd rfl (Or.inl rfl) (pe_op op_add (pv 2) pe_int))
      (pss_one (ps_set (i := 3) sc.nd rfl (Or.inl rfl) pe_int))) pss_nil)
      (pss_one (ps_set (i := 3) sc.nd rfl (Or.inl rfl) (pe_op op_add (pv 3) (pv 4))))))
      (pss_one (ps_ret (pv 2)))))), ?_⟩
    dsimp only [tSeq, tIfS, tB, tTest, tOp, tRet, tIf, tAnd, tNot, tOr, tNext, tC, tAsg, gName, tDrop, tCall, tCons, tNil, tLst]
    refine for_l (mono_var 0) ⟨_, rfl, p, nv ms, fun i σ H' => H' = H /\ ∃ (n used : Nat) (v : Option V), σ = [some (.ref p), some (.int (most : Int)), some (.int (n : Int)), some (.int (used : Int)), v] /\ M.need most ms 1 0 = M.need most (ms.drop i) n used, rfl, hS, ⟨rfl, 1, 0, none, rfl, rfl⟩, fun i σ H' _ ⟨e, _⟩ => e ▸ hS, ?_, ?_⟩
    . rintro i x σ H' hi ⟨rfl, n, used, v, rfl, e⟩
      obtain ⟨t, ht, rfl⟩ := of_nv hi
      rw [drop_at ht, M.need] at e
      refine ⟨_, rfl, _, rfl, _, _, rfl, rfl, _, rfl, _, _, rfl, rfl, _, rfl, ite2 (fun c => ?_) (fun c => ?_)⟩
      . have c : most < used + t := by simp at c; omega
        rw [if_pos c] at e
        exact ⟨_, rfl, _, _, rfl, rfl, _, rfl, _, rfl, _, _, rfl, rfl, rfl, n + 1, t, some (.int (t : Int)), by simp, e⟩
      . have c : ¬ most < used + t := by simp at c; omega
        rw [if_neg c] at e
        exact ⟨_, rfl, _, rfl, _, _, rfl, rfl, rfl, n, used + t, some (.int (t : Int)), by simp, e⟩
    . rintro σ H' ⟨rfl, n, used, v, rfl, e⟩
      rw [nv_len, List.drop_length] at e
      refine ⟨_, rfl, ?_⟩
      rw [e] at k
      exact k
theorem maxD_rd {σ : L2.St} {H : Hp} {Q : VK} {i : Nat} {p : Addr} {ms : List Nat} (hσ : σ[i]? = some (some (.ref p))) (hS : SqL K H p (nv ms)) (q : Q (.int (M.maxD ms : Nat)) H) : tMaxD K (tVar i) (tC (.int 0)) σ H Q := by
  refine ⟨_, hσ, p, ms.map Int.ofNat, rfl, hS, fun e => ?_, fun m h1 h2 => ?_⟩
  . have e : ms = [] := by simpa using e
    rw [e] at q
    exact q
  . obtain ⟨n, hn, rfl⟩ := List.mem_map.mp h1
    have z : n = M.maxD ms := M.maxD_is hn fun x hx => by
      have := h2 (Int.ofNat x) (List.mem_map.mpr ⟨x, hx, rfl⟩)
      simpa using this
    subst z
    exact q
def spLeast (K : PySem.W.Frag) : Sp := fun vs H Q _ => ∃ (p : Addr) (l : List Vbhoak.Duty) (k : Nat), vs = [.ref p, .int (k : Int)] /\ 1 <= k /\ SqL K H p (nv (M.mins l)) /\ Q (.int (Vbhoak.leastLoad l k : Nat)) H
theorem ok_least (T : Txt K mg a) : COk P w K mg base 2 "least_greatest_load" (spLeast K) := by
  have sc := sc_least_greatest_load
  have C_attendants_needed := ok_need (P := P) (w := w) (base := base) T
  refine T.d_least_greatest_load.ok sc (fun vs H Q E h => ?_) (fun f cdv A outer s H vs Q E hr h => ?_)
  . obtain ⟨p, l, k, rfl, _⟩ := h; rfl
  . obtain ⟨p, l, k, rfl, hk, hS, q⟩ := h
    refine ⟨_, (pss_cons (ps_set (i := 2) sc.nd rfl (Or.inl rfl) (pe_maxD rfl rfl T.b_max (pv 0) pe_int))
      (pss_cons (ps_set (i := 3) sc.nd rfl (Or.inl rfl) (pe_callB (cr_sum rfl) (by rfl) T.b_sum boot_sum (pa_cons (pv 0) pa_nil)))
      (pss_cons (ps_while PassesOwn.never (pt_cmpR op_lt (pv 2) (pv 3) (nomark _)) (pss_cons (ps_set (i := 4) sc.nd rfl (Or.inl rfl) (pe_op op_fdiv (pe_op op_add (pv 2) (pv 3)) pe_int))
      (pss_one (ps_if (pt_cmpR op_le (pe_callN C_attendants_needed hr rfl (pa_cons (pv 0) (pa_cons (pv 4) pa_nil))) (pv 1) (nomark _)) (pss_one (ps_set (i := 3) sc.nd rfl (Or.inl rfl) (pv 4))) (pss_one (ps_set (i := 2) sc.nd rfl (Or.inl rfl) (pe_op op_add (pv 4) pe_int)))))))
      (pss_one (ps_ret (pv 2)))))), ?_⟩
    dsimp only [tSeq, tIfS, tB, tTest, tOp, tRet, tIf, tAnd, tNot, tOr, tNext, tC, tAsg, gName, tDrop, tCall, tCons, tNil, tLst, tCB]
    have hmx := M.max_least (l := l) hk
    have hle := M.least_le (l := l) hk
    refine maxD_rd rfl hS ?_
    refine ⟨_, rfl, p, (M.mins l).map Int.ofNat, rfl, hS, ?_⟩
    rw [sum_nv, <- M.load_eq]
    refine ⟨fun m σ H' => H' = H /\ ∃ (lo hi : Nat) (v : Option V), m = hi - lo /\ σ = [some (.ref p), some (.int (k : Int)), some (.int (lo : Int)), some (.int (hi : Int)), v] /\ M.maxD (M.mins l) <= lo /\ lo <= Vbhoak.leastLoad l k /\ Vbhoak.leastLoad l k <= hi, ⟨_, rfl, _, _, none, rfl, rfl, Nat.le_refl _, hmx, hle⟩, ?_⟩
    rintro m σ H' ⟨rfl, lo, hi, v, rfl, rfl, h1, h2, h3⟩
    refine ⟨_, rfl, _, rfl, _, _, rfl, rfl, _, rfl, ite2 (fun c => ?_) (fun c => ?_)⟩
    . have c : lo < hi := by simp at c; omega
      refine ⟨fun σ' H1 => ∃ m', m' < hi - lo /\ (H1 = H' /\ ∃ (lo hi : Nat) (v : Option V), m' = hi - lo /\ σ' = [some (.ref p), some (.int (k : Int)), some (.int (lo : Int)), some (.int (hi : Int)), v] /\ M.maxD (M.mins l) <= lo /\ lo <= Vbhoak.leastLoad l k /\ Vbhoak.leastLoad l k <= hi), fun σ' H1 z => z, ?_⟩
      refine ⟨_, rfl, _, rfl, _, _, rfl, rfl, _, _, rfl, rfl, ⟨by decide, by decide⟩, ?_⟩
      have em : ((lo : Int) + (hi : Int)) / 2 = (((lo + hi) / 2 : Nat) : Int) := by omega
      dsimp only [tSeq, tIfS, tB, tTest, tOp, tRet, tIf, tAnd, tNot, tOr, tNext, tC, tAsg, gName, tDrop, tCall, tCons, tNil, tLst, tCB]
      rw [em]
      refine ⟨_, rfl, _, rfl, p, M.mins l, (lo + hi) / 2, rfl, hS, ?_⟩
      refine ⟨_, rfl, _, _, rfl, rfl, _, rfl, ite2 (fun c2 => ?_) (fun c2 => ?_)⟩
      . have c2 : M.need ((lo + hi) / 2) (M.mins l) 1 0 <= k := by simp at c2; omega
        exact ⟨_, rfl, (lo + hi) / 2 - lo, by omega, rfl, lo, (lo + hi) / 2, some (.int (((lo + hi) / 2 : Nat) : Int)), rfl, rfl, h1, h2, M.search_yes hk (by omega) c2⟩
      . have c2 : ¬ M.need ((lo + hi) / 2) (M.mins l) 1 0 <= k := by simp at c2; omega
        exact ⟨_, rfl, _, _, rfl, rfl, hi - ((lo + hi) / 2 + 1), by omega, rfl, (lo + hi) / 2 + 1, hi, some (.int (((lo + hi) / 2 : Nat) : Int)), rfl, rfl, by omega, M.search_no hk (by omega) c2, h3⟩
    . have c : ¬ lo < hi := by simp at c; omega
      refine ⟨_, rfl, ?_⟩
      have e : lo = Vbhoak.leastLoad l k := by omega
      subst e
      exact q
end
theorem mono_len {K : PySem.W.Frag} {ta : TA} (ha : MonoA ta) : Mono (tCB (fun xs H Q => ∃ p ys, xs = [.ref p] /\ (SqL K H p ys \/ SqT K H p ys) /\ Q (.int ys.length) H) ta) :=
  mono_cb (fun _ _ _ _ h ⟨p, ys, e, s, q⟩ => ⟨p, ys, e, s, h _ _ q⟩) ha
def CellV (H : Hp) (j : Nat) (o : Option Vbhoak.Split) (v : V) : Prop := match o with
  | none => v = .non
  | some s => ∃ t, v = .ref t /\ H t = some (.tup [.int (s.cost : Int), .int ((j + s.cuts.headD 0 : Nat) : Int)])
theorem CellV.grow {H H' : Hp} {j : Nat} {o : Option Vbhoak.Split} {v : V} (h : CellV H j o v) (g : Same H H') : CellV H' j o v := by
  cases o with
  | none => exact h
  | some s => obtain ⟨t, e, q⟩ := h; exact ⟨t, e, g _ _ q⟩
structure RowAt (H : Hp) (p : Addr) (rest : List (Option Vbhoak.Split)) : Prop where
  ex : ∃ vs, H p = some (.lst vs) /\ vs.length = rest.length /\ ∀ j o v, rest[j]? = some o -> vs[j]? = some v -> CellV H j o v
theorem RowAt.grow {H H' : Hp} {p : Addr} {rest : List (Option Vbhoak.Split)} (h : RowAt H p rest) (g : Same H H') : RowAt H' p rest := by
  obtain ⟨vs, e, l, q⟩ := h.ex
  exact ⟨vs, g _ _ e, l, fun j o v h1 h2 => (q j o v h1 h2).grow g⟩
theorem RowAt.at {H : Hp} {p : Addr} {rest : List (Option Vbhoak.Split)} (h : RowAt H p rest) {j : Nat} (hj : j < rest.length) : ∃ vs v, H p = some (.lst vs) /\ vs[j]? = some v /\ CellV H j (rest.getD j none) v := by
  obtain ⟨vs, e, l, q⟩ := h.ex
  refine ⟨vs, vs[j]'(by omega), e, List.getElem?_eq_getElem _, ?_⟩
  rw [List.getD_eq_getElem?_getD, List.getElem?_eq_getElem hj]
  exact q j _ _ (List.getElem?_eq_getElem hj) (List.getElem?_eq_getElem _)
def spShare (K : PySem.W.Frag) : Sp := fun vs H Q _ => ∃ (p : Addr) (l : List Vbhoak.Duty) (begin most : Nat) (bh : Addr) (rest : List (Option Vbhoak.Split)), vs = [.ref p, .int (begin : Int), .int (most : Int), .ref bh] /\ begin <= l.length /\ l.length < 2 ^ 40 /\ most < 2 ^ 40 /\
  H p = some (.lst (nv (M.mins l))) /\ RowAt H bh rest /\ rest.length = l.length + 1 /\ ∀ H' v, Same H H' -> CellV H' begin (M.part l most begin rest (l.length + 1 - begin)) v -> Q v H'
section
variable {P : Program} {w : World} {K : PySem.W.Frag} {mg : Str -> Option Value} {base : Heap} {a : Ad}
theorem Same.refl' (H : Hp) : Same H H := fun _ _ e => e
theorem Same.trans' {H H1 H2 : Hp} (x : Same H H1) (y : Same H1 H2) : Same H H2 := fun b o e => y b o (x b o e)
theorem ok_share (T : Txt K mg a) : COk P w K mg base 1 "best_share" (spShare K) := by
  have sc := sc_best_share
  refine T.d_best_share.ok sc (fun vs H Q E h => ?_) (fun f cdv A outer s H vs Q E hr h => ?_)
  . obtain ⟨p, l, b, m, bh, rest, rfl, _⟩ := h; rfl
  . obtain ⟨p, l, b, m, bh, rest, rfl, hb, hl, hm, hS, hR, hlen, k⟩ := h
    refine ⟨_, (pss_cons (ps_set (i := 4) sc.nd rfl (Or.inl rfl) pe_non)
      (pss_cons (ps_set (i := 5) sc.nd rfl (Or.inl rfl) pe_int)
      (pss_cons (ps_for PassesOwn.never rfl (pi_range2 rfl T.b_range (pa_cons (pv 1) (pa_cons (pe_op op_add (pe_callB call_len_seq (by rfl) T.b_len PySem.boot_len (pa_cons (pv 0) pa_nil)) pe_int) pa_nil))) (pg_name (i := 6) sc.nd rfl (Or.inl rfl)) (pss_cut (ps_if (pt_cmpR op_gt (pv 6) (pv 1) (nomark _)) (pss_one (ps_set (i := 5) sc.nd rfl (Or.inl rfl) (pe_op op_add (pv 5) (pe_ix ix_list (pv 0) (pe_op op_sub (pv 6) pe_int) (fun _ _ => rfl))))) pss_nil)
      (pss_cons (ps_if (pt_cmpR op_gt (pv 5) (pv 2) (nomark _)) (pss_one ps_break) pss_nil)
      (pss_one (ps_if (pt_cmpR op_notN (pe_ix ix_list (pv 3) (pv 6) (fun _ _ => rfl)) pe_non (nomark _)) (pss_cons (ps_set (i := 7) sc.nd rfl (Or.inl rfl) (pe_op op_add (pe_op op_mul (pv 5) (pv 5)) (pe_ix ix_tup (pe_ix ix_list (pv 3) (pv 6) (fun _ _ => rfl)) pe_int (fun _ _ => rfl))))
      (pss_one (ps_if (PW.pt (pw_or (pt_cmpR op_isN (pv 4) pe_non (nomark _)) (pw_or1 (pt_cmpR op_le (pv 7) (pe_ix ix_tup (pv 4) pe_int (fun _ _ => rfl)) (nomark _))))) (pss_one (ps_set (i := 4) sc.nd rfl (Or.inl rfl) (pe_tup (pa_cons (pv 7) (pa_cons (pv 6) pa_nil))))) pss_nil))) pss_nil)))))
      (pss_one (ps_ret (pv 4)))))), ?_⟩
    dsimp only [tSeq, tIfS, tB, tTest, tOp, tRet, tIf, tAnd, tNot, tOr, tNext, tC, tAsg, gName, tDrop, tCall, tCons, tNil, tLst, tCB]
    have lenI : ((nv (M.mins l)).length : Int) = (l.length : Int) := by rw [nv_len, M.mins_len]
    have ld : ∀ n, Vbhoak.load ((l.drop b).take n) = (((M.mins l).drop b).take n).sum := fun n => M.load_cut l b n
    have fin : ∀ H' v, Same H H' -> CellV H' b (M.part l m b rest (l.length + 1 - b)) v -> Q v H' := k
    refine for_r2 (ma_cons (mono_var 1) (ma_cons (mono_op mr_I0 (mono_len (ma_cons (mono_var 0) ma_nil)) (mono_c _)) ma_nil)) ⟨_, rfl, _, rfl, p, _, rfl, .inl (SqL.of hS), _, _, rfl, rfl, b, l.length + 1 - b,
      fun n σ H' => ∃ (best : V) (e7 e8 : Option V), σ = [some (.ref p), some (.int (b : Int)), some (.int (m : Int)), some (.ref bh), some best, some (.int (Vbhoak.load ((l.drop b).take (n - 1)) : Int)), e7, e8] /\ Same H H' /\ CellV H' b (M.part l m b rest n) best, ?_, by omega, ?_, ?_, ?_⟩
    . rw [lenI]
      have z : ((b + (l.length + 1 - b) : Nat) : Int) = (l.length : Int) + 1 := by omega
      rw [z]
    . exact ⟨.non, none, none, rfl, Same.refl' H, rfl⟩
    . rintro n σ H' hn ⟨best, e7, e8, rfl, sm, hc⟩
      have hS' := sm _ _ hS
      have hR' := hR.grow sm
      have hbn : b + n <= l.length := by omega
      refine ⟨fun σ' H1 => H1 = H' /\ σ' = [some (.ref p), some (.int (b : Int)), some (.int (m : Int)), some (.ref bh), some best, some (.int (Vbhoak.load ((l.drop b).take n) : Int)), some (.int ((b + n : Nat) : Int)), e8], ?_, ?_⟩
      . refine ⟨_, rfl, _, rfl, _, _, rfl, rfl, _, rfl, ite2 (fun c => ?_) (fun c => ?_)⟩
        . have hn0 : 0 < n := by simp at c; omega
          have hx : (M.mins l)[b + (n - 1)]? = some ((M.mins l)[b + (n - 1)]'(by rw [M.mins_len]; omega)) := List.getElem?_eq_getElem _
          refine ⟨_, rfl, _, rfl, _, rfl, _, _, rfl, rfl, ixE (n := b + (n - 1)) (by omega) (SqL.of hS') (nv_get hx) ⟨_, _, rfl, rfl, rfl, ?_⟩⟩
          have e := M.load_more (l := l) (i := b) (n := n - 1) (by omega)
          rw [show n - 1 + 1 = n by omega, List.getD_eq_getElem?_getD, hx] at e
          rw [e]
          simp
        . have hn0 : n = 0 := by simp at c; omega
          subst hn0
          exact ⟨rfl, rfl⟩
      . rintro σ' H1 ⟨rfl, rfl⟩
        refine ⟨_, rfl, _, rfl, _, _, rfl, rfl, _, rfl, ite2 (fun c => ?_) (fun c => ?_)⟩
        . have c : m < Vbhoak.load ((l.drop b).take n) := by simp at c; omega
          refine ⟨_, rfl, fin H1 best sm ?_⟩
          have z := M.part_stop (rest := rest) c (l.length + 1 - b - n)
          rw [show n + (l.length + 1 - b - n) = l.length + 1 - b by omega] at z
          rw [z]
          exact hc
        . have c : ¬ m < Vbhoak.load ((l.drop b).take n) := by simp at c; omega
          obtain ⟨vs, v, e1, e2, e3⟩ := hR'.at (j := b + n) (by omega)
          have nx : ∀ (best' : V) (e8' : Option V) (H2 : Hp), Same H1 H2 -> CellV H2 b (M.part l m b rest (n + 1)) best' -> ∃ (best : V) (e7 e8 : Option V), [some (V.ref p), some (.int (b : Int)), some (.int (m : Int)), some (.ref bh), some best', some (.int (Vbhoak.load ((l.drop b).take n) : Int)), some (.int ((b + n : Nat) : Int)), e8'] =
              [some (V.ref p), some (.int (b : Int)), some (.int (m : Int)), some (.ref bh), some best, some (.int (Vbhoak.load ((l.drop b).take (n + 1 - 1)) : Int)), e7, e8] /\ Same H H2 /\ CellV H2 b (M.part l m b rest (n + 1)) best := fun best' e8' H2 s2 c2 => ⟨best', _, e8', rfl, Same.trans' sm s2, c2⟩
          refine ⟨_, rfl, _, rfl, ixE (n := b + n) rfl (SqL.of e1) e2 ⟨rfl, _, rfl, ?_⟩⟩
          cases eo : rest.getD (b + n) none with
          | none =>
            rw [eo] at e3
            have e3 : v = .non := e3
            subst e3
            refine iteF (nx best e8 H1 (Same.refl' _) ?_)
            rw [M.part_non eo]
            exact hc
          | some sp =>
            rw [eo] at e3
            obtain ⟨t, rfl, ht⟩ := e3
            refine iteT ?_
            refine ⟨_, rfl, _, rfl, _, _, rfl, rfl, .inl ⟨by omega, by omega⟩, _, rfl, _, rfl, ixE (n := b + n) rfl (SqL.of e1) e2 ?_⟩
            dsimp only [tC]
            refine ixT (n := 0) rfl (SqT.of ht) rfl ⟨_, _, rfl, rfl, ?_⟩
            have sq : (Vbhoak.load ((l.drop b).take n) : Int) * (Vbhoak.load ((l.drop b).take n) : Int) + (sp.cost : Int) = ((Vbhoak.load ((l.drop b).take n) * Vbhoak.load ((l.drop b).take n) + sp.cost : Nat) : Int) := by simp
            dsimp only [gName]
            rw [sq]
            have put : ∀ best0 : V, (M.part l m b rest (n + 1)).map (M.enc b) = some (Vbhoak.load ((l.drop b).take n) * Vbhoak.load ((l.drop b).take n) + sp.cost, b + n) -> ∀ q, H1 q = Option.none ->
                CellV (upd H1 q (.tup [.int ((Vbhoak.load ((l.drop b).take n) * Vbhoak.load ((l.drop b).take n) + sp.cost : Nat) : Int), .int ((b + n : Nat) : Int)])) b (M.part l m b rest (n + 1)) (.ref q) := fun _ hm q hq => by
              cases ep : M.part l m b rest (n + 1) with
              | none => rw [ep] at hm; cases hm
              | some z =>
                rw [ep] at hm
                have hm := Option.some.inj hm
                unfold M.enc at hm
                injection hm with h1 h2
                refine ⟨q, rfl, ?_⟩
                rw [upd_same, h1, h2]
            cases ep : M.part l m b rest n with
            | none =>
              rw [ep] at hc
              have hc : best = .non := hc
              subst hc
              refine ⟨_, rfl, rfl, _, rfl, iteT (iteT ?_)⟩
              refine ⟨_, rfl, _, rfl, (by show 2 <= sizeLine; decide), fun q hq => ?_⟩
              exact nx _ _ _ (Same.new hq) (put .non (M.part_first c eo ep) q hq)
            | some z =>
              rw [ep] at hc
              obtain ⟨tz, rfl, hz⟩ := hc
              refine ⟨_, rfl, rfl, _, rfl, iteF ⟨_, rfl, _, rfl, ?_⟩⟩
              dsimp only [tC]
              refine ixT (n := 0) rfl (SqT.of hz) rfl ⟨_, _, rfl, rfl, _, rfl, ?_⟩
              refine ite2 (fun c3 => ?_) (fun c3 => ?_)
              . have c3 : Vbhoak.load ((l.drop b).take n) * Vbhoak.load ((l.drop b).take n) + sp.cost <= z.cost := by
                  simp at c3
                  omega
                refine ⟨_, rfl, _, rfl, (by show 2 <= sizeLine; decide), fun q hq => ?_⟩
                exact nx _ _ _ (Same.new hq) (put .non (M.part_lower c eo ep c3) q hq)
              . have c3 : ¬ Vbhoak.load ((l.drop b).take n) * Vbhoak.load ((l.drop b).take n) + sp.cost <= z.cost := by
                  simp at c3
                  omega
                refine nx _ _ H1 (Same.refl' _) ?_
                rw [M.part_higher c eo ep c3]
                exact ⟨tz, rfl, hz⟩
    . rintro σ H' ⟨best, e7, e8, rfl, sm, hc⟩
      exact ⟨_, rfl, fin H' best sm hc⟩
end
structure TableAt (H : Hp) (q : Addr) (rs : List Addr) (l : List Vbhoak.Duty) (most k : Nat) : Prop where
  lst : H q = some (.lst (rs.map V.ref))
  len : rs.length = k + 1
  out : q ∉ rs
  row : ∀ j p, rs[j]? = some p -> RowAt H p (Vbhoak.splits l most j)
theorem RowAt.keep {H H' : Hp} {p : Addr} {rest : List (Option Vbhoak.Split)} (h : RowAt H p rest) (g : ∀ b o, H b = some o -> (b = p \/ ∃ xs, o = .tup xs) -> H' b = some o) : RowAt H' p rest := by
  obtain ⟨vs, e, l, q⟩ := h.ex
  refine ⟨vs, g _ _ e (.inl rfl), l, fun j o v h1 h2 => ?_⟩
  have z := q j o v h1 h2
  cases o with
  | none => exact z
  | some s => obtain ⟨t, et, ht⟩ := z; exact ⟨t, et, g _ _ ht (.inr ⟨_, rfl⟩)⟩
theorem row0 {H : Hp} {p t : Addr} {l : List Vbhoak.Duty} {most : Nat} (h : H p = some (.lst (List.replicate l.length V.non ++ [.ref t]))) (ht : H t = some (.tup [.int 0, .int (l.length : Int)])) : RowAt H p (Vbhoak.splits l most 0) := by
  refine ⟨_, h, by simp [Vbhoak.splits], fun j o v h1 h2 => ?_⟩
  unfold Vbhoak.splits at h1
  rw [List.getElem?_map] at h1
  by_cases hj : j < l.length
  . rw [List.getElem?_range (by omega)] at h1
    have h1 : (if j = l.length then some (⟨0, []⟩ : Vbhoak.Split) else none) = o := Option.some.inj h1
    rw [if_neg (by omega)] at h1
    subst h1
    rw [List.getElem?_append_left (by simpa using hj), List.getElem?_replicate, if_pos hj] at h2
    exact (Option.some.inj h2).symm
  . by_cases hj2 : j = l.length
    . subst hj2
      rw [List.getElem?_range (by omega)] at h1
      have h1 : (if l.length = l.length then some (⟨0, []⟩ : Vbhoak.Split) else none) = o := Option.some.inj h1
      rw [if_pos rfl] at h1
      subst h1
      rw [List.getElem?_append_right (by simp)] at h2
      have h2 : v = .ref t := by simpa using h2.symm
      exact ⟨t, h2, ht⟩
    . rw [List.getElem?_eq_none (by simp; omega)] at h2
      cases h2
def spShares (K : PySem.W.Frag) : Sp := fun vs H Q _ => ∃ (p : Addr) (l : List Vbhoak.Duty) (k most : Nat), vs = [.ref p, .int (k : Int), .int (most : Int)] /\ l.length <= 30 /\ k <= 8 /\ most < 2 ^ 40 /\ H p = some (.lst (nv (M.mins l))) /\
  ∀ H' q rs, Same H H' -> TableAt H' q rs l most k -> Q (.ref q) H'
section
variable {P : Program} {w : World} {K : PySem.W.Frag} {mg : Str -> Option Value} {base : Heap} {a : Ad}
theorem ok_shares (T : Txt K mg a) : COk P w K mg base 2 "best_shares" (spShares K) := by
  have sc := sc_best_shares
  have C_best_share := ok_share (P := P) (w := w) (base := base) T
  refine T.d_best_shares.ok sc (fun vs H Q E h => ?_) (fun f cdv A outer s H vs Q E hr h => ?_)
  . obtain ⟨p, l, k, m, rfl, _⟩ := h; rfl
  . obtain ⟨p, l, k, m, rfl, hl, hk, hm, hS, fin⟩ := h
    refine ⟨_, (pss_cons (ps_set (i := 3) sc.nd rfl (Or.inl rfl) (pe_callB call_len_seq (by rfl) T.b_len PySem.boot_len (pa_cons (pv 0) pa_nil)))
      (pss_cons (ps_set (i := 4) sc.nd rfl (Or.inl rfl) (pe_op op_cat (pe_op op_rep (pe_lst (pa_cons pe_non pa_nil)) (pv 3)) (pe_lst (pa_cons (pe_tup (pa_cons pe_int (pa_cons (pv 3) pa_nil))) pa_nil))))
      (pss_cons (ps_set (i := 5) sc.nd rfl (Or.inl rfl) (pe_lst (pa_cons (pv 4) pa_nil)))
      (pss_cons (ps_for PassesOwn.never rfl (pi_range1 rfl T.b_range (pa_cons (pv 1) pa_nil)) (pg_name (i := 6) sc.nd rfl (Or.inl rfl)) (pss_cons (ps_set (i := 7) sc.nd rfl (Or.inr rfl) (pe_ix ix_list (pv 5) (pv 6) (fun _ _ => rfl)))
      (pss_one (ps_expr (pe_bm PySem.F.plainAttrs_list PySem.F.slot_list_append PySem.F.type_list_append mt_append (pv 5) (pa_cons (pe_cut (pe_lc rfl sc.nd (pi_range1 rfl T.b_range (pa_cons (pe_op op_add (pv 3) pe_int) pa_nil)) (blkOk_by (own := [("begin", 8)]) (by kernel_rfl)) (fun _ _ _ _ _ => (pg_name (i := 8) sc.nd rfl (Or.inl rfl))) (fun _ _ _ _ _ => pts_nil) (fun _ _ _ _ _ => (pe_callN C_best_share hr rfl (pa_cons (pv 0) (pa_cons (pv 8) (pa_cons (pv 2) (pa_cons (pv 7) pa_nil)))))))) pa_nil))))))
      (pss_one (ps_ret (pv 5))))))), ?_⟩
    have lenI : ((nv (M.mins l)).length : Int) = (l.length : Int) := by rw [nv_len, M.mins_len]
    refine ⟨_, rfl, p, _, rfl, .inl (SqL.of hS), ?_⟩
    rw [lenI]
    refine ⟨(by show 1 <= sizeLine; decide), fun p1 h1 => ⟨_, rfl, p1, (l.length : Int), [.non], rfl, rfl, upd_same, by omega, by omega, ?_, fun p2 h2 => ?_⟩⟩
    . rw [Int.toNat_natCast, sizeLine_eq]; simp; omega
    refine ⟨_, rfl, (by show 2 <= sizeLine; decide), fun t ht => ⟨(by show 1 <= sizeLine; decide), fun p3 h3 => ?_⟩⟩
    have er : (List.replicate (l.length : Int).toNat [V.non]).flatten = List.replicate l.length V.non := by rw [Int.toNat_natCast, List.flatten_replicate_singleton]
    rw [er] at ht h3 ⊢
    have s1 : Same H (upd H p1 (.lst [.non])) := Same.new h1
    have s2 := Same.trans' s1 (Same.new (o := .lst (List.replicate l.length V.non)) h2)
    have s3 := Same.trans' s2 (Same.new (o := .tup [.int 0, .int (l.length : Int)]) ht)
    have s4 := Same.trans' s3 (Same.new (o := .lst [.ref t]) h3)
    refine ⟨p2, p3, List.replicate l.length V.non, [.ref t], rfl, rfl, ?_, upd_same, ?_, fun p4 h4 => ?_⟩
    . exact Same.new h3 _ _ (Same.new ht _ _ upd_same)
    . rw [sizeLine_eq]; simp; omega
    have s5 := Same.trans' s4 (Same.new (o := .lst (List.replicate l.length V.non ++ [.ref t])) h4)
    have r4 : RowAt (upd _ p4 (.lst (List.replicate l.length V.non ++ [.ref t]))) p4 (Vbhoak.splits l m 0) := row0 upd_same (Same.new h4 _ _ (Same.new h3 _ _ upd_same))
    generalize upd _ p4 (.lst (List.replicate l.length V.non ++ [.ref t])) = H4 at s5 r4 ⊢
    obtain ⟨vs4, e4, _⟩ := r4.ex
    refine ⟨_, rfl, (by show 1 <= sizeLine; decide), fun q hq => ?_⟩
    have hHq : H q = Option.none := Same.free s5 hq
    have tb0 : TableAt (upd H4 q (.lst [.ref p4])) q [p4] l m 0 := by
      refine ⟨upd_same, rfl, fun z => ?_, fun j p hp => ?_⟩
      . have z : q = p4 := by simpa using z
        rw [z, e4] at hq
        cases hq
      . match j, hp with
        | 0, hp =>
          have hp : p4 = p := Option.some.inj hp
          subst hp
          exact r4.grow (Same.new hq)
    refine for_r (ma_cons (mono_var 1) ma_nil _ _) ⟨_, rfl, k, fun j σ H' => ∃ (rs : List Addr) (x6 x7 x8 : Option V), σ = [some (.ref p), some (.int (k : Int)), some (.int (m : Int)), some (.int (l.length : Int)), some (.ref p4), some (.ref q), x6, x7, x8] /\ Same H H' /\ TableAt H' q rs l m j, rfl, by omega, ?_, ?_, ?_⟩
    . exact ⟨[p4], _, _, _, rfl, Same.trans' s5 (Same.new hq), tb0⟩
    . rintro j σ H' hj ⟨rs, x6, x7, x8, rfl, sm, tb⟩
      have hp' := sm _ _ hS
      have hjr : j < rs.length := by rw [tb.len]; omega
      obtain ⟨r, hr1⟩ : ∃ r, rs[j]? = some r := ⟨_, List.getElem?_eq_getElem hjr⟩
      have hrow := tb.row j r hr1
      have hjr2 : (rs.map V.ref)[j]? = some (.ref r) := by rw [List.getElem?_map, hr1]; rfl
      refine ⟨_, rfl, _, rfl, ixE (n := j) rfl (SqL.of tb.lst) hjr2 ?_⟩
      refine ⟨_, rfl, .inl ⟨rfl, _, SqL.of tb.lst⟩, fun v H2 => ∃ D, v = .ref D /\ H' D = Option.none /\ Same H' H2 /\ RowAt H2 D (Vbhoak.splits l m (j + 1)), ?_, ?_⟩
      . refine lc_r (ma_cons (mono_op mr_I0 (mono_var 3) (mono_c _)) ma_nil) ⟨_, rfl, _, _, rfl, rfl, l.length + 1, rfl, by omega, fun D hD => ⟨fun i H2 => ∃ vs, H2 D = some (.lst vs) /\ vs.length = i /\ Same H' H2 /\ ∀ b o v, b < i -> (Vbhoak.splits l m (j + 1))[b]? = some o -> vs[b]? = some v -> CellV H2 b o v, ?_, ?_, ?_⟩⟩
        . exact ⟨[], upd_same, rfl, Same.new hD, fun b o v hb => absurd hb (Nat.not_lt_zero _)⟩
        . rintro i H2 hi ⟨vs, hv, hvl, sm2, hc⟩
          dsimp only [gName, tYes]
          refine ⟨rfl, iteT ?_⟩
          refine ⟨_, rfl, _, rfl, _, rfl, _, rfl, p, l, i, m, r, Vbhoak.splits l m j, rfl, by omega, by omega, hm, sm2 _ _ hp', hrow.grow sm2, M.splits_len l m j, fun H3 v3 sm3 c3 => ?_⟩
          refine ⟨vs, sm3 _ _ hv, by rw [sizeLine_eq]; omega, vs ++ [v3], by rw [upd_same], by simp [hvl], fun b o e => ?_, fun b o v hb ho hv3 => ?_⟩
          . have z : b ≠ D := ne_of_none e hD
            rw [upd_ne z]
            exact sm3 _ _ (sm2 _ _ e)
          . have keep : ∀ {o : Option Vbhoak.Split} {v : V}, CellV H3 b o v -> CellV (upd H3 D (.lst (vs ++ [v3]))) b o v := fun {o v} z => by
              cases o with
              | none => exact z
              | some sp =>
                obtain ⟨t, et, ht⟩ := z
                refine ⟨t, et, ?_⟩
                rw [upd_ne (ne_of ht (sm3 _ _ hv) (by intro y; cases y))]
                exact ht
            by_cases hbi : b = i
            . subst hbi
              have e1 : v3 = v := by
                rw [List.getElem?_append_right (by omega)] at hv3
                simpa [hvl] using hv3
              subst e1
              have e2 : o = M.part l m b (Vbhoak.splits l m j) (l.length + 1 - b) := by
                have z := M.oneMore_at (l := l) (most := m) (i := b) (rest := Vbhoak.splits l m j) (by omega)
                exact Option.some.inj (ho.symm.trans z)
              subst e2
              exact keep c3
            . rw [List.getElem?_append_left (by omega)] at hv3
              exact keep ((hc b o v (by omega) ho hv3).grow sm3)
        . rintro H2 ⟨vs, hv, hvl, sm2, hc⟩
          refine ⟨D, rfl, hD, sm2, ⟨vs, hv, by rw [hvl, M.splits_len], fun b o v h1 h2 => hc b o v ?_ h1 h2⟩⟩
          have := (List.getElem?_eq_some_iff.mp h2).1
          omega
      . rintro v H2 ⟨D, rfl, hD, sm2, hrD⟩
        refine ⟨q, rs.map V.ref, .ref D, rfl, rfl, sm2 _ _ tb.lst, ?_, ?_⟩
        . rw [List.length_map, tb.len, sizeLine_eq]; omega
        have tq := sm2 _ _ tb.lst
        have nDq : D ≠ q := (ne_of_none tb.lst hD).symm
        obtain ⟨vsD, eD, _⟩ := hrD.ex
        refine ⟨rs ++ [D], _, _, _, rfl, fun b o e => ?_, ⟨by rw [upd_same, List.map_append]; rfl, by simp [tb.len], fun z => ?_, fun i p' hp2 => ?_⟩⟩
        . rw [upd_ne (ne_of_none e hHq)]
          exact sm2 _ _ (sm _ _ e)
        . rcases List.mem_append.mp z with z | z
          . exact tb.out z
          . have z : q = D := by simpa using z
            exact nDq z.symm
        . have keep : ∀ {p' : Addr} {rest : List (Option Vbhoak.Split)}, RowAt H2 p' rest -> p' ≠ q -> RowAt (upd H2 q (.lst (rs.map V.ref ++ [.ref D]))) p' rest := fun {p' rest} z hne => z.keep fun b o e hb => by
            have hbq : b ≠ q := by
              rcases hb with hb | ⟨xs, hb⟩
              . rw [hb]; exact hne
              . subst hb
                exact ne_of e tq (by intro y; cases y)
            rw [upd_ne hbq]
            exact e
          by_cases hi : i < rs.length
          . rw [List.getElem?_append_left hi] at hp2
            exact keep ((tb.row i p' hp2).grow sm2) fun z => tb.out (z ▸ List.mem_of_getElem? hp2)
          . have hi2 : i = j + 1 := by
              have := (List.getElem?_eq_some_iff.mp hp2).1
              simp [tb.len] at this
              have := tb.len
              omega
            subst hi2
            have ep : D = p' := by
              rw [List.getElem?_append_right (by rw [tb.len]; omega)] at hp2
              simpa [tb.len] using hp2
            subst ep
            exact keep hrD nDq
    . rintro σ H' ⟨rs, x6, x7, x8, rfl, sm, tb⟩
      exact ⟨_, rfl, fin H' q rs sm tb⟩
end
theorem TableAt.grow {H H' : Hp} {q : Addr} {rs : List Addr} {l : List Vbhoak.Duty} {m k : Nat} (h : TableAt H q rs l m k) (g : Same H H') : TableAt H' q rs l m k := ⟨g _ _ h.lst, h.len, h.out, fun j p e => (h.row j p e).grow g⟩
def PairsAt (H : Hp) (q : Addr) (ps : List (Nat × Nat)) : Prop := ∃ ts : List Addr, H q = some (.lst (ts.map V.ref)) /\ Paired (fun (t : Addr) (x : Nat × Nat) => H t = some (.tup [.int (x.1 : Int), .int (x.2 : Int)])) ts ps
theorem PairsAt.at {H : Hp} {q : Addr} {ps : List (Nat × Nat)} (h : PairsAt H q ps) {i : Nat} {x : Nat × Nat} (hi : ps[i]? = some x) : ∃ xs t, H q = some (.lst xs) /\ xs[i]? = some (.ref t) /\ H t = some (.tup [.int (x.1 : Int), .int (x.2 : Int)]) := by
  obtain ⟨ts, e, p⟩ := h
  have hl := Paired.length p
  have hi' : i < ts.length := by rw [hl]; exact (List.getElem?_eq_some_iff.mp hi).1
  obtain ⟨y, hy, ht⟩ := R.paired_get p (List.getElem?_eq_getElem hi')
  have : y = x := Option.some.inj (hy.symm.trans hi)
  subst this
  exact ⟨_, ts[i], e, by rw [List.getElem?_map, List.getElem?_eq_getElem hi']; rfl, ht⟩
def spPart (K : PySem.W.Frag) : Sp := fun vs H Q _ => ∃ (p : Addr) (l : List Vbhoak.Duty) (k : Nat), vs = [.ref p, .int (k : Int)] /\ l.length <= 30 /\ 1 <= k /\ k <= 8 /\ Vbhoak.load l < 2 ^ 40 /\ H p = some (.lst (nv (M.mins l))) /\
  ∀ H' q, Same H H' -> PairsAt H' q (M.pairs 0 (Vbhoak.splitOf l k)) -> Q (.ref q) H'
section
variable {P : Program} {w : World} {K : PySem.W.Frag} {mg : Str -> Option Value} {base : Heap} {a : Ad}
theorem ok_part (T : Txt K mg a) : COk P w K mg base 3 "parting_told" (spPart K) := by
  have sc := sc_parting_told
  have C_best_shares := ok_shares (P := P) (w := w) (base := base) T
  have C_least_greatest_load := ok_least (P := P) (w := w) (base := base) T
  refine T.d_parting_told.ok sc (fun vs H Q E h => ?_) (fun f cdv A outer s H vs Q E hr h => ?_)
  . obtain ⟨p, l, k, rfl, _⟩ := h; rfl
  . obtain ⟨p, l, k, rfl, hl, hk, hk8, hld, hS, fin⟩ := h
    refine ⟨_, (pss_cons (ps_set (i := 2) sc.nd rfl (Or.inl rfl) (pe_callN C_best_shares hr rfl (pa_cons (pv 0) (pa_cons (pv 1) (pa_cons (pe_callN C_least_greatest_load hr rfl (pa_cons (pv 0) (pa_cons (pv 1) pa_nil))) pa_nil)))))
      (pss_cons (ps_set (i := 3) sc.nd rfl (Or.inl rfl) (pe_lst pa_nil))
      (pss_cons (ps_set (i := 4) sc.nd rfl (Or.inl rfl) pe_int)
      (pss_cons (ps_for PassesOwn.never rfl (pi_range1 rfl T.b_range (pa_cons (pv 1) pa_nil)) (pg_name (i := 5) sc.nd rfl (Or.inl rfl)) (pss_cons (ps_set (i := 6) sc.nd rfl (Or.inl rfl) (pe_ix ix_tup (pe_ix ix_list (pe_ix ix_list (pv 2) (pe_op op_sub (pv 1) (pv 5)) (fun _ _ => rfl)) (pv 4) (fun _ _ => rfl)) pe_int (fun _ _ => rfl)))
      (pss_cons (ps_expr (pe_bm PySem.F.plainAttrs_list PySem.F.slot_list_append PySem.F.type_list_append mt_append (pv 3) (pa_cons (pe_tup (pa_cons (pv 4) (pa_cons (pv 6) pa_nil))) pa_nil)))
      (pss_one (ps_set (i := 4) sc.nd rfl (Or.inl rfl) (pv 6))))))
      (pss_one (ps_ret (pv 3))))))), ?_⟩
    have hlm := M.least_le (l := l) hk
    refine ⟨_, rfl, _, rfl, _, rfl, _, rfl, p, l, k, rfl, hk, SqL.of hS, p, l, k, Vbhoak.leastLoad l k, rfl, hl, hk8, by omega, hS, fun Ht tq rs smt tb => ?_⟩
    refine ⟨(by show 0 <= sizeLine; exact Nat.zero_le _), fun q hq => ?_⟩
    obtain ⟨s0, w0⟩ := M.Walk.start (l := l) hk
    refine for_r (ma_cons (mono_var 1) ma_nil _ _) ⟨_, rfl, k, fun j σ H' => ∃ (done : List Nat) (sp : Vbhoak.Split) (x5 x6 : Option V), σ = [some (.ref p), some (.int (k : Int)), some (.ref tq), some (.ref q), some (.int (done.sum : Int)), x5, x6] /\ Same Ht H' /\ M.Walk l (Vbhoak.leastLoad l k) k j (Vbhoak.splitOf l k) done sp /\ PairsAt H' q (M.pairs 0 done), rfl, by omega, ?_, ?_, ?_⟩
    . exact ⟨[], s0, none, none, rfl, Same.new hq, w0, [], upd_same, .nil⟩
    . rintro j σ H' hj ⟨done, sp, x5, x6, rfl, sm, wk, pr⟩
      have tb' := tb.grow sm
      obtain ⟨n, s', hcut, wk'⟩ := wk.next hj
      have hkj : k - j < rs.length := by rw [tb.len]; omega
      obtain ⟨r, hr1⟩ : ∃ r, rs[k - j]? = some r := ⟨_, List.getElem?_eq_getElem hkj⟩
      have hr2 : (rs.map V.ref)[k - j]? = some (.ref r) := by rw [List.getElem?_map, hr1]; rfl
      have hrow := tb'.row (k - j) r hr1
      obtain ⟨vs, v, e1, e2, e3⟩ := hrow.at (j := done.sum) (by rw [M.splits_len]; have := wk.within; omega)
      rw [wk.at_] at e3
      obtain ⟨t, rfl, ht⟩ := e3
      refine ⟨_, rfl, _, rfl, _, rfl, _, _, rfl, rfl, ixE (n := k - j) (by omega) (SqL.of tb'.lst) hr2 ⟨_, rfl, ixE (n := done.sum) rfl (SqL.of e1) e2 ?_⟩⟩
      dsimp only [tC]
      refine ixT (n := 1) rfl (SqT.of ht) rfl ?_
      obtain ⟨ts, eq, pp⟩ := pr
      refine ⟨_, rfl, .inl ⟨rfl, _, SqL.of eq⟩, _, rfl, _, rfl, (by show 2 <= sizeLine; decide), fun t2 ht2 => ?_⟩
      have ehd : sp.cuts.headD 0 = n := by rw [hcut]; rfl
      rw [ehd]
      have tl := Paired.length pp
      rw [M.pairs_len, wk.len] at tl
      refine ⟨q, ts.map V.ref, .ref t2, rfl, rfl, Same.new ht2 _ _ eq, ?_, ?_⟩
      . rw [List.length_map, tl, sizeLine_eq]; omega
      refine ⟨_, rfl, done ++ [n], s', some (.int (j : Int)), some (.int ((done.sum + n : Nat) : Int)), ?_, fun b o e => ?_, wk', ts ++ [t2], by rw [upd_same, List.map_append]; rfl, ?_⟩
      . simp
      . rw [upd_ne (ne_of_none e hq)]
        exact Same.new ht2 _ _ (sm _ _ e)
      . rw [M.pairs_snoc]
        refine paired_snoc (Paired.mapP pp fun t' x e => ?_) ?_
        . have z := Same.new (o := .tup [.int (done.sum : Int), .int ((done.sum + n : Nat) : Int)]) ht2 _ _ e
          rw [upd_ne (ne_of z (Same.new ht2 _ _ eq) (by intro y; cases y))]
          exact z
        . have z : t2 ≠ q := (ne_of_none eq ht2).symm
          rw [upd_ne z, upd_same, Nat.zero_add]
    . rintro σ H' ⟨done, sp, x5, x6, rfl, sm, wk, pr⟩
      obtain ⟨h1, _⟩ := wk.last
      rw [h1] at fin
      exact ⟨_, rfl, fin H' q (Same.trans' smt sm) pr⟩
end
def spReach (K : PySem.W.Frag) : Sp := fun vs H Q _ => ∃ (p : Addr) (ms : List Nat) (i m j : Nat), vs = [.ref p, .int (i : Int), .int (m : Int)] /\ SqL K H p (nv ms) /\ M.Rch ms m i j /\ Q (.int (j : Int)) H
theorem flat_nv (ms : List Nat) : (nv ms).all flatV = true := by
  rw [List.all_eq_true]
  intro v hv
  obtain ⟨n, _, rfl⟩ := List.mem_map.mp hv
  rfl
theorem in_nv (m : Nat) (ms : List Nat) : inV (.int (m : Int)) (nv ms) = decide (m ∈ ms) := by
  induction ms with
  | nil => rfl
  | cons x ms ih =>
    show ((x : Int) == (m : Int) || inV (.int (m : Int)) (nv ms)) = _
    rw [ih]
    by_cases h : x = m
    . subst h; simp
    . have h1 : ((x : Int) == (m : Int)) = false := beq_eq_false_iff_ne.mpr (by omega)
      have h2 : ¬ m = x := fun z => h z.symm
      rw [h1, Bool.false_or]
      simp [h2]
theorem first_at {m : Nat} : ∀ {ms : List Nat}, m ∈ ms -> ∃ j : Nat, ms[j]? = some m /\ ∀ i x : Nat, i < j -> ms[i]? = some x -> x ≠ m
  | y :: ms, h => by
    by_cases e : y = m
    . subst e
      exact ⟨0, rfl, fun i x hi => absurd hi (Nat.not_lt_zero _)⟩
    . obtain ⟨j, h1, h2⟩ := first_at (show m ∈ ms by
        rcases List.mem_cons.mp h with z | z
        . exact absurd z.symm e
        . exact z)
      refine ⟨j + 1, h1, fun i x hi hx => ?_⟩
      cases i with
      | zero => have hx : y = x := Option.some.inj hx; rw [<- hx]; exact e
      | succ i => exact h2 i x (by omega) hx
def spWit (K : PySem.W.Frag) : Sp := fun vs H Q _ => ∃ (p : Addr) (l : List Vbhoak.Duty) (k : Nat), vs = [.ref p, .int (k : Int)] /\ l ≠ [] /\ 1 <= k /\ k <= 8 /\ H p = some (.lst (nv (M.mins l))) /\ ∀ H' q, Same H H' -> H' q = some (.lst (nv (Vbhoak.witnessOf l k))) -> Q (.ref q) H'
section
variable {P : Program} {w : World} {K : PySem.W.Frag} {mg : Str -> Option Value} {base : Heap} {a : Ad}
theorem ok_reach (T : Txt K mg a) : COk P w K mg base 1 "first_place_reaching" (spReach K) := by
  have sc := sc_first_place_reaching
  refine T.d_first_place_reaching.ok sc (fun vs H Q E h => ?_) (fun f cdv A outer s H vs Q E hr h => ?_)
  . obtain ⟨p, ms, i, m, j, rfl, _⟩ := h; rfl
  . obtain ⟨p, ms, i, m, j, rfl, hS, rc, q⟩ := h
    refine ⟨_, (pss_cons (ps_set (i := 3) sc.nd rfl (Or.inl rfl) (pv 1))
      (pss_cons (ps_set (i := 4) sc.nd rfl (Or.inl rfl) (pe_ix ix_list (pv 0) (pv 1) (fun _ _ => rfl)))
      (pss_cons (ps_while PassesOwn.never (pt_cmpR op_lt (pv 4) (pv 2) (nomark _)) (pss_cons (ps_set (i := 3) sc.nd rfl (Or.inl rfl) (pe_op op_add (pv 3) pe_int))
      (pss_one (ps_set (i := 4) sc.nd rfl (Or.inl rfl) (pe_op op_add (pv 4) (pe_ix ix_list (pv 0) (pv 3) (fun _ _ => rfl)))))))
      (pss_one (ps_ret (pv 3)))))), ?_⟩
    have hil : i < ms.length := Nat.lt_of_le_of_lt rc.le rc.lt
    refine ⟨_, rfl, _, rfl, _, rfl, ixE (n := i) rfl hS (nv_get (List.getElem?_eq_getElem hil)) ?_⟩
    have e1 : ((ms.drop i).take (i + 1 - i)).sum = ms[i] := by
      rw [drop_at (List.getElem?_eq_getElem hil), show i + 1 - i = 1 by omega]
      simp only [List.take_succ_cons, List.take_zero, List.sum_cons, List.sum_nil, Nat.add_zero]
    refine ⟨fun μ σ H' => H' = H /\ ∃ pl : Nat, σ = [some (.ref p), some (.int (i : Int)), some (.int (m : Int)), some (.int (pl : Int)), some (.int (((ms.drop i).take (pl + 1 - i)).sum : Int))] /\ i <= pl /\ pl <= j /\ μ = j - pl, ⟨_, rfl, i, by rw [e1]; rfl, Nat.le_refl _, rc.le, rfl⟩, ?_⟩
    rintro μ σ H' ⟨rfl, pl, rfl, h1, h2, rfl⟩
    refine ⟨_, rfl, _, rfl, _, _, rfl, rfl, _, rfl, ite2 (fun c => ?_) (fun c => ?_)⟩
    . have c : ((ms.drop i).take (pl + 1 - i)).sum < m := by simp at c; omega
      have hpj : pl < j := by
        rcases Nat.lt_or_eq_of_le h2 with z | z
        . exact z
        . subst z; have := rc.big; omega
      have hlt := rc.lt
      have hx : ms[pl + 1]? = some (ms[pl + 1]'(by omega)) := List.getElem?_eq_getElem _
      refine ⟨fun σ' H1 => ∃ m', m' < j - pl /\ (H1 = H' /\ ∃ pl : Nat, σ' = [some (.ref p), some (.int (i : Int)), some (.int (m : Int)), some (.int (pl : Int)), some (.int (((ms.drop i).take (pl + 1 - i)).sum : Int))] /\ i <= pl /\ pl <= j /\ m' = j - pl), fun σ' H1 z => z, ?_⟩
      refine ⟨_, rfl, _, _, rfl, rfl, _, rfl, _, rfl, _, rfl, ixE (n := pl + 1) (by omega) hS (nv_get hx) ⟨_, _, rfl, rfl, ?_⟩⟩
      refine ⟨j - (pl + 1), by omega, rfl, pl + 1, ?_, by omega, by omega, rfl⟩
      have e2 : ((ms.drop i).take (pl + 1 + 1 - i)).sum = ((ms.drop i).take (pl + 1 - i)).sum + ms[pl + 1]'(by omega) := by
        rw [show pl + 1 + 1 - i = (pl + 1 - i) + 1 by omega, M.sum_take_succ _ _ (by rw [List.length_drop]; omega)]
        congr 1
        rw [List.getD_eq_getElem?_getD, List.getElem?_drop, show i + (pl + 1 - i) = pl + 1 by omega, hx]
        rfl
      rw [e2]
      simp
    . have c : ¬ ((ms.drop i).take (pl + 1 - i)).sum < m := by simp at c; omega
      have hpj : pl = j := by
        rcases Nat.lt_or_eq_of_le h2 with z | z
        . exact absurd (rc.first pl h1 z) c
        . exact z
      subst hpj
      exact ⟨_, rfl, q⟩
theorem ok_wit (T : Txt K mg a) : COk P w K mg base 3 "witness_told" (spWit K) := by
  have sc := sc_witness_told
  have C_least_greatest_load := ok_least (P := P) (w := w) (base := base) T
  have C_first_place_reaching := ok_reach (P := P) (w := w) (base := base) T
  refine T.d_witness_told.ok sc (fun vs H Q E h => ?_) (fun f cdv A outer s H vs Q E hr h => ?_)
  . obtain ⟨p, l, k, rfl, _⟩ := h; rfl
  . obtain ⟨p, l, k, rfl, hne, hk, hk8, hS, fin⟩ := h
    refine ⟨_, (pss_cons (ps_set (i := 2) sc.nd rfl (Or.inl rfl) (pe_callN C_least_greatest_load hr rfl (pa_cons (pv 0) (pa_cons (pv 1) pa_nil))))
      (pss_cons (ps_if (pt_cmpR op_in_seq (pv 2) (pv 0) (by with_unfolding_all rfl)) (pss_one (ps_ret (pe_op op_rep (pe_lst (pa_cons (pe_bm PySem.F.plainAttrs_list PySem.F.slot_list_index PySem.F.type_list_index mt_index (pv 0) (pa_cons (pv 2) pa_nil)) pa_nil)) (pe_op op_add (pv 1) pe_int)))) pss_nil)
      (pss_cons (ps_set (i := 3) sc.nd rfl (Or.inl rfl) (pe_lst (pa_cons pe_int pa_nil)))
      (pss_cons (ps_for PassesOwn.never rfl (pi_range1 rfl T.b_range (pa_cons (pv 1) pa_nil)) (pg_name (i := 4) sc.nd rfl (Or.inl rfl)) (pss_one (ps_expr (pe_bm PySem.F.plainAttrs_list PySem.F.slot_list_append PySem.F.type_list_append mt_append (pv 3) (pa_cons (pe_callN C_first_place_reaching (hr.mono (by decide)) rfl (pa_cons (pv 0) (pa_cons (pe_ix ix_list (pv 3) (pv 4) (fun _ _ => rfl)) (pa_cons (pv 2) pa_nil)))) pa_nil)))))
      (pss_one (ps_ret (pv 3))))))), ?_⟩
    refine ⟨_, rfl, _, rfl, p, l, k, rfl, hk, SqL.of hS, ?_⟩
    refine ⟨_, rfl, _, rfl, p, nv (M.mins l), rfl, .inl (SqL.of hS), rfl, flat_nv _, _, rfl, ite2 (fun c => ?_) (fun c => ?_)⟩
    . have c : Vbhoak.leastLoad l k ∈ M.mins l := by
        have c : inV (.int (Vbhoak.leastLoad l k : Int)) (nv (M.mins l)) = true := c
        rw [in_nv] at c
        exact of_decide_eq_true c
      obtain ⟨j, hj, hf⟩ := first_at c
      refine ⟨_, rfl, .inl ⟨rfl, _, SqL.of hS⟩, _, rfl, p, nv (M.mins l), .int (Vbhoak.leastLoad l k : Int), j, .int (Vbhoak.leastLoad l k : Int), rfl, rfl, SqL.of hS, rfl, flat_nv _, nv_get hj, by simp [eqV], fun i z hi hz => ?_, ?_⟩
      . obtain ⟨n, hn, rfl⟩ := of_nv hz
        have := hf i n hi hn
        simp [eqV]
        omega
      . refine ⟨(by show 1 <= sizeLine; decide), fun p1 h1 => ⟨_, rfl, _, _, rfl, rfl, p1, ((k : Int) + 1), [.int (j : Int)], rfl, rfl, upd_same, by omega, by omega, ?_, fun p2 h2 => ?_⟩⟩
        . rw [sizeLine_eq]; simp; omega
        . refine fin _ p2 (Same.trans' (Same.new h1) (Same.new h2)) ?_
          rw [upd_same, M.witness_some hj (fun i x hi hx => hf i x hi hx), show ((k : Int) + 1).toNat = k + 1 by omega, List.flatten_replicate_singleton]
          simp [nv]
    . have c : ¬ Vbhoak.leastLoad l k ∈ M.mins l := by
        intro z
        apply c
        show inV (.int (Vbhoak.leastLoad l k : Int)) (nv (M.mins l)) = true
        rw [in_nv]
        exact decide_eq_true z
      have hn : ∀ t ∈ l, t.minutes ≠ Vbhoak.leastLoad l k := fun t ht z => c (M.mem_mins.mpr ⟨t, ht, z⟩)
      refine ⟨(by show 1 <= sizeLine; decide), fun q hq => ?_⟩
      refine for_r (ma_cons (mono_var 1) ma_nil _ _) ⟨_, rfl, k, fun j σ H' => ∃ (x4 : Option V), σ = [some (.ref p), some (.int (k : Int)), some (.int (Vbhoak.leastLoad l k : Int)), some (.ref q), x4] /\ Same H H' /\ H' q = some (.lst (nv ((List.range (j + 1)).map (M.place l (Vbhoak.leastLoad l k))))), rfl, by omega, ?_, ?_, ?_⟩
      . exact ⟨none, rfl, Same.new hq, upd_same⟩
      . rintro j σ H' hj ⟨x4, rfl, sm, hl⟩
        refine ⟨_, rfl, .inl ⟨rfl, _, SqL.of hl⟩, _, rfl, _, rfl, _, rfl, ixE (n := j) rfl (SqL.of hl) (nv_get (n := M.place l (Vbhoak.leastLoad l k) j) (by simp)) ?_⟩
        refine ⟨_, rfl, p, M.mins l, M.place l (Vbhoak.leastLoad l k) j, Vbhoak.leastLoad l k, M.place l (Vbhoak.leastLoad l k) (j + 1), rfl, SqL.of (sm _ _ hS), M.chain_rch hk hn hne hj, ?_⟩
        refine ⟨q, _, _, rfl, rfl, hl, ?_, ?_⟩
        . rw [nv_len, sizeLine_eq]; simp; omega
        . refine ⟨_, rfl, fun b o e => ?_, ?_⟩
          . rw [upd_ne (ne_of_none e hq)]
            exact sm _ _ e
          . rw [upd_same, nv_snoc]
            congr 4
            rw [List.range_succ (n := j + 1), List.map_append]
            rfl
      . rintro σ H' ⟨x4, rfl, sm, hl⟩
        refine ⟨_, rfl, fin H' q sm ?_⟩
        rw [hl, M.witness_none hn]
end
theorem cut_nat (xs : List V) (i j : Nat) : cutV xs (some (i : Int)) (some (j : Int)) = (xs.drop i).take (j - i) := by
  unfold cutV
  rw [HT.sIx_nat, HT.sIx_nat]
  by_cases h : i <= xs.length
  . rw [Nat.min_eq_left h, List.take_eq_take_iff, List.length_drop]
    omega
  . rw [List.drop_eq_nil_of_le (by omega : xs.length <= i), List.drop_eq_nil_of_le (by omega : xs.length <= min i xs.length)]
    simp
theorem cut_from (xs : List V) (i : Nat) : cutV xs (some (i : Int)) none = xs.drop i := by
  unfold cutV
  rw [HT.sIx_nat, HT.sIx_none]
  by_cases h : i <= xs.length
  . rw [Nat.min_eq_left h]
    exact List.take_of_length_le (by rw [List.length_drop]; omega)
  . rw [List.drop_eq_nil_of_le (by omega : xs.length <= i), List.drop_eq_nil_of_le (by omega : xs.length <= min i xs.length)]
    simp
theorem cut_to (xs : List V) (j : Nat) : cutV xs none (some (j : Int)) = xs.take j := by
  unfold cutV
  rw [HT.sIx_nat, HT.sIx_none, List.drop_zero, List.take_eq_take_iff]
  omega
theorem nv_drop (ms : List Nat) (i : Nat) : (nv ms).drop i = nv (ms.drop i) := by simp [nv, List.map_drop]
theorem nv_take (ms : List Nat) (i : Nat) : (nv ms).take i = nv (ms.take i) := by simp [nv, List.map_take]
def spIsWit (K : PySem.W.Frag) : Sp := fun vs H Q _ => ∃ (p q : Addr) (l : List Vbhoak.Duty) (k m : Nat) (ps : List Nat), vs = [.ref p, .int (k : Int), .int (m : Int), .ref q] /\ H p = some (.lst (nv (M.mins l))) /\ H q = some (.lst (nv ps)) /\ ∀ H', Same H H' -> Q (.bl (Vbhoak.proves l k m ps)) H'
section
variable {P : Program} {w : World} {K : PySem.W.Frag} {mg : Str -> Option Value} {base : Heap} {a : Ad}
theorem ok_iswit (T : Txt K mg a) : COk P w K mg base 1 "is_witness" (spIsWit K) := by
  have sc := sc_is_witness
  refine T.d_is_witness.ok sc (fun vs H Q E h => ?_) (fun f cdv A outer s H vs Q E hr h => ?_)
  . obtain ⟨p, q, l, k, m, ps, rfl, _⟩ := h; rfl
  . obtain ⟨p, q, l, k, m, ps, rfl, hp, hq, fin⟩ := h
    refine ⟨_, (pss_cons (ps_if (pt_cmpR op_ne (pe_callB call_len_seq (by rfl) T.b_len PySem.boot_len (pa_cons (pv 3) pa_nil)) (pe_op op_add (pv 1) pe_int) (nomark _)) (pss_one (ps_ret pe_bl)) pss_nil)
      (pss_cons (ps_for PassesOwn.never rfl (pi_list (pv 3)) (pg_name (i := 4) sc.nd rfl (Or.inl rfl)) (pss_one (ps_if (pt_cmpR op_ge (pv 4) (pe_callB call_len_seq (by rfl) T.b_len PySem.boot_len (pa_cons (pv 0) pa_nil)) (nomark _)) (pss_one (ps_ret pe_bl)) pss_nil)))
      (pss_cons (ps_for PassesOwn.never rfl (pi_zip rfl T.b_zip (pa_cons (pv 3) (pa_cons (pe_slice sl_list (pv 3) (po_some pe_int) po_none) pa_nil))) (pg_tup rfl (pgs_cons (pg_name (i := 4) sc.nd rfl (Or.inl rfl)) (pgs_cons (pg_name (i := 5) sc.nd rfl (Or.inl rfl)) pgs_nil))) (pss_one (ps_if (PW.pt (pw_or (pt_cmpR op_lt (pv 5) (pv 4) (nomark _)) (pw_or1 (pt_cmpR op_lt (pe_callB (cr_sum rfl) (by rfl) T.b_sum boot_sum (pa_cons (pe_slice sl_list (pv 0) (po_some (pv 4)) (po_some (pe_op op_add (pv 5) pe_int))) pa_nil)) (pv 2) (nomark _))))) (pss_one (ps_ret pe_bl)) pss_nil)))
      (pss_one (ps_ret pe_bl))))), ?_⟩
    have lenP : ((nv ps).length : Int) = (ps.length : Int) := by rw [nv_len]
    have lenM : ((nv (M.mins l)).length : Int) = (l.length : Int) := by rw [nv_len, M.mins_len]
    refine ⟨_, rfl, q, _, rfl, .inl (SqL.of hq), _, rfl, _, _, rfl, rfl, rfl, _, rfl, ite2 (fun c => ?_) (fun c => ?_)⟩
    . have c : ¬ ps.length = k + 1 := by
        rw [lenP] at c
        simp at c
        omega
      have e : Vbhoak.proves l k m ps = false := by
        unfold Vbhoak.proves
        rw [beq_eq_false_iff_ne.mpr c, Bool.false_and]
      have z := fin H (Same.refl' H)
      rw [e] at z
      exact z
    have c : ps.length = k + 1 := by
      rw [lenP] at c
      simp at c
      omega
    refine for_l (mono_var 3) ⟨_, rfl, q, nv ps, fun i σ H' => H' = H /\ ∃ x4, σ = [some (.ref p), some (.int (k : Int)), some (.int (m : Int)), some (.ref q), x4, none] /\ ∀ j n, j < i -> ps[j]? = some n -> n < l.length, rfl, SqL.of hq, ⟨rfl, none, rfl, fun j n hj => absurd hj (Nat.not_lt_zero _)⟩, fun i σ H' _ ⟨e, _⟩ => (by rw [e]; exact SqL.of hq), ?_, ?_⟩
    . rintro i x σ H' hi ⟨rfl, x4, rfl, hall⟩
      obtain ⟨n, hn, rfl⟩ := of_nv hi
      refine ⟨_, rfl, _, rfl, p, _, rfl, .inl (SqL.of hp), _, _, rfl, rfl, _, rfl, ite2 (fun c2 => ?_) (fun c2 => ?_)⟩
      . have c2 : l.length <= n := by
          rw [lenM] at c2
          simp at c2
          omega
        have e : Vbhoak.proves l k m ps = false := by
          unfold Vbhoak.proves
          have z : (ps.all fun i => decide (i < l.length)) = false := by
            rw [List.all_eq_false]
            exact ⟨n, List.mem_of_getElem? hn, by simp; omega⟩
          rw [z, Bool.false_and, Bool.and_false]
        have z := fin H' (Same.refl' H')
        rw [e] at z
        exact z
      . have c2 : ¬ l.length <= n := by
          rw [lenM] at c2
          simp at c2
          omega
        refine ⟨rfl, _, rfl, fun j n' hj hn' => ?_⟩
        by_cases z : j = i
        . subst z
          have : n = n' := Option.some.inj (hn.symm.trans hn')
          omega
        . exact hall j n' (by omega) hn'
    . rintro σ H' ⟨rfl, x4, rfl, hall⟩
      rw [nv_len] at hall
      have h1 : (ps.all fun i => decide (i < l.length)) = true := by
        rw [List.all_eq_true]
        intro x hx
        obtain ⟨j, hj⟩ := List.mem_iff_getElem?.mp hx
        exact decide_eq_true (hall j x (List.getElem?_eq_some_iff.mp hj).1 hj)
      refine for_z1 (ma_cons (mono_var 3) (ma_cons (fun σ H Q Q' h => fun ⟨v, e, i, hi, a, xs, e2, hs, z⟩ => ⟨v, e, i, hi, a, xs, e2, hs, fun p hp => h _ _ (z p hp)⟩) ma_nil)) ⟨_, rfl, _, rfl, 1, rfl, q, _, rfl, SqL.of hq, fun q2 hq2 => ?_⟩
      rw [show (some (1 : Int)) = some ((1 : Nat) : Int) from rfl, cut_from, nv_drop]
      have sm0 : Same H' (upd H' q2 (.lst (nv (ps.drop 1)))) := Same.new hq2
      refine ⟨q, q2, nv ps, nv (ps.drop 1), fun i σ H2 => Same H' H2 /\ H2 q2 = some (.lst (nv (ps.drop 1))) /\ ∃ x4 x5, σ = [some (.ref p), some (.int (k : Int)), some (.int (m : Int)), some (.ref q), x4, x5] /\ ∀ j x y, j < i -> ps[j]? = some x -> ps[j + 1]? = some y -> x <= y /\ m <= Vbhoak.between l x y, rfl, SqL.of (sm0 _ _ hq), SqL.of upd_same, ?_, ?_, ?_, ?_, ?_⟩
      . rw [nv_len, nv_len, List.length_drop]; omega
      . exact ⟨sm0, upd_same, _, _, rfl, fun j x y hj => absurd hj (Nat.not_lt_zero _)⟩
      . rintro i σ H2 _ ⟨sm, h2, _⟩
        exact ⟨SqL.of (sm _ _ hq), SqL.of h2⟩
      . rintro i x y σ H2 T' hx hy ⟨sm, h2, x4, x5, rfl, hok⟩ hT
        obtain ⟨n, hn, rfl⟩ := of_nv hx
        obtain ⟨n2, hn2, rfl⟩ := of_nv hy
        rw [List.getElem?_drop, Nat.add_comm] at hn2
        refine ⟨T', _, rfl, SqT.of upd_same, rfl, _, _, rfl, _, _, rfl, rfl, ?_⟩
        have sm3 : Same H' (upd H2 T' (.tup [.int (n : Int), .int (n2 : Int)])) := Same.trans' sm (Same.new hT)
        have no : ¬ (n <= n2 /\ m <= Vbhoak.between l n n2) -> Vbhoak.proves l k m ps = false := fun z => by
          unfold Vbhoak.proves
          have y : ((ps.zip (ps.drop 1)).all fun x => decide (x.1 <= x.2) && decide (m <= Vbhoak.between l x.1 x.2)) = false := by
            rw [List.all_eq_false]
            refine ⟨(n, n2), ?_, ?_⟩
            . refine List.mem_iff_getElem?.mpr ⟨i, ?_⟩
              rw [List.getElem?_zip_eq_some]
              exact ⟨hn, by rw [List.getElem?_drop, Nat.add_comm]; exact hn2⟩
            . simp only [Bool.and_eq_true, decide_eq_true_eq]
              exact z
          rw [y, Bool.and_false, Bool.and_false]
        refine ⟨_, rfl, _, rfl, _, _, rfl, rfl, _, rfl, ite2 (fun c3 => iteT ?_) (fun c3 => ?_)⟩
        . have c3 : n2 < n := by simp at c3; omega
          have z := fin _ sm3
          rw [no (by omega)] at z
          exact z
        . have c3 : ¬ n2 < n := by simp at c3; omega
          refine ⟨_, rfl, _, rfl, _, rfl, _, rfl, _, _, rfl, rfl, _, rfl, p, _, rfl, SqL.of (sm3 _ _ hp), fun q3 hq3 => ?_⟩
          have e4 : cutV (nv (M.mins l)) (some (n : Int)) (some ((n2 : Int) + 1)) = nv (((M.mins l).drop n).take (n2 + 1 - n)) := by
            rw [show (n2 : Int) + 1 = ((n2 + 1 : Nat) : Int) by omega, cut_nat, nv_drop, nv_take]
          rw [e4]
          have sm4 : Same H' (upd (upd H2 T' (.tup [.int (n : Int), .int (n2 : Int)])) q3 (.lst (nv (((M.mins l).drop n).take (n2 + 1 - n))))) := Same.trans' sm3 (Same.new hq3)
          refine ⟨q3, _, rfl, SqL.of upd_same, _, rfl, _, _, rfl, rfl, _, rfl, ?_⟩
          rw [sum_nv]
          have eb : Vbhoak.between l n n2 = (((M.mins l).drop n).take (n2 + 1 - n)).sum := by
            unfold Vbhoak.between
            exact M.load_cut l n (n2 + 1 - n)
          refine ite2 (fun c5 => ?_) (fun c5 => ?_)
          . have c5 : (((M.mins l).drop n).take (n2 + 1 - n)).sum < m := by simp at c5; omega
            have z := fin _ sm4
            rw [no (by rw [eb]; omega)] at z
            exact z
          . have c5 : ¬ (((M.mins l).drop n).take (n2 + 1 - n)).sum < m := by simp at c5; omega
            refine ⟨sm4, ?_, _, _, rfl, fun j x y hj hx' hy' => ?_⟩
            . exact Same.new hq3 _ _ (Same.new hT _ _ h2)
            . by_cases z : j = i
              . subst z
                have e6 : n = x := Option.some.inj (hn.symm.trans hx')
                have e7 : n2 = y := Option.some.inj (hn2.symm.trans hy')
                subst e6 e7
                exact ⟨by omega, by rw [eb]; omega⟩
              . exact hok j x y (by omega) hx' hy'
      . rintro σ H2 ⟨sm, h2, x4, x5, rfl, hok⟩
        rw [nv_len, List.length_drop] at hok
        have e : Vbhoak.proves l k m ps = true := by
          unfold Vbhoak.proves
          have h3 : ((ps.zip (ps.drop 1)).all fun x => decide (x.1 <= x.2) && decide (m <= Vbhoak.between l x.1 x.2)) = true := by
            rw [List.all_eq_true]
            intro x hx
            obtain ⟨j, hj⟩ := List.mem_iff_getElem?.mp hx
            rw [List.getElem?_zip_eq_some] at hj
            obtain ⟨j1, j2⟩ := hj
            rw [List.getElem?_drop, Nat.add_comm] at j2
            have := (List.getElem?_eq_some_iff.mp j2).1
            obtain ⟨y1, y2⟩ := hok j x.1 x.2 (by omega) j1 j2
            rw [decide_eq_true y1, decide_eq_true y2]; rfl
          rw [h1, h3, beq_iff_eq.mpr c]; rfl
        have z := fin H2 sm
        rw [e] at z
        exact z
end
def tf (t : Vbhoak.Duty) : List (Str × V) := [("number", .int (t.room : Int)), ("minutes", .int (t.minutes : Int)), ("due", .int (t.due : Int))]
def TaskAt (a : Ad) (H : Hp) (p : Addr) (t : Vbhoak.Duty) : Prop := ∃ dx, H p = some (.ins a.cTask dx (tf t))
def TasksAt (a : Ad) (H : Hp) (q : Addr) (ds : List Vbhoak.Duty) : Prop := ∃ ts : List Addr, H q = some (.lst (ts.map V.ref)) /\ Paired (TaskAt a H) ts ds
theorem TaskAt.grow {a : Ad} {H H' : Hp} {p : Addr} {t : Vbhoak.Duty} (h : TaskAt a H p t) (g : Same H H') : TaskAt a H' p t := let ⟨dx, e⟩ := h; ⟨dx, g _ _ e⟩
theorem TasksAt.grow {a : Ad} {H H' : Hp} {q : Addr} {ds : List Vbhoak.Duty} (h : TasksAt a H q ds) (g : Same H H') : TasksAt a H' q ds := by
  obtain ⟨ts, e, p⟩ := h
  exact ⟨ts, g _ _ e, Paired.mapP p fun t x e => TaskAt.grow e g⟩
theorem paired_at {α β : Type} {F : α -> β -> Prop} {l : List α} {m : List β} (h : Paired F l m) {i : Nat} {x : α} (e : l[i]? = some x) : ∃ y, m[i]? = some y /\ F x y := by
  obtain ⟨y, h1, h2⟩ := R.paired_get h e
  exact ⟨y, h1, h2⟩
theorem of_refs {ts : List Addr} {i : Nat} {v : V} (h : (ts.map V.ref)[i]? = some v) : ∃ p, ts[i]? = some p /\ v = .ref p := by
  rw [List.getElem?_map] at h
  cases e : ts[i]? with
  | none => rw [e] at h; cases h
  | some p => rw [e] at h; exact ⟨p, rfl, (Option.some.inj h).symm⟩
section
variable {K : PySem.W.Frag} {mg : Str -> Option Value} {a : Ad} {H : Hp} {p : Addr} {t : Vbhoak.Duty} {σ : L2.St} {i : Nat} {Q : VK}
theorem Txt.rd_tnum (T : Txt K mg a) (h : TaskAt a H p t) (hσ : σ[i]? = some (some (.ref p))) (q : Q (.int (t.room : Int)) H) : tFld K (tVar i) "number" σ H Q := let ⟨dx, e⟩ := h; ⟨_, hσ, p, _, dx, _, _, rfl, e, T.c_Task, T.n_Task_number, rfl, q⟩
theorem Txt.rd_tmin (T : Txt K mg a) (h : TaskAt a H p t) (hσ : σ[i]? = some (some (.ref p))) (q : Q (.int (t.minutes : Int)) H) : tFld K (tVar i) "minutes" σ H Q := let ⟨dx, e⟩ := h; ⟨_, hσ, p, _, dx, _, _, rfl, e, T.c_Task, T.n_Task_minutes, rfl, q⟩
theorem Txt.rd_tdue (T : Txt K mg a) (h : TaskAt a H p t) (hσ : σ[i]? = some (some (.ref p))) (q : Q (.int (t.due : Int)) H) : tFld K (tVar i) "due" σ H Q := let ⟨dx, e⟩ := h; ⟨_, hσ, p, _, dx, _, _, rfl, e, T.c_Task, T.n_Task_due, rfl, q⟩
end
theorem minutes_le {h : Vbhoak.House} {r : Vbhoak.Room} (g : Good h) (gr : GoodR r) : Vbhoak.minutesOf h r <= 240 := by
  unfold Vbhoak.minutesOf
  have h1 := g.heavy; have h2 := g.light; have h3 := g.check; have h4 := gr.extra
  repeat' split
  all_goals omega
def tasksTo (h : Vbhoak.House) (i : Nat) : List Vbhoak.Duty := ((h.rooms.zipIdx.take i).map fun x => (⟨x.2, Vbhoak.minutesOf h x.1, x.1.due⟩ : Vbhoak.Duty)).filter fun t => t.minutes != 0
theorem tasksTo_all (h : Vbhoak.House) : tasksTo h h.rooms.length = Vbhoak.tasksOf h := by unfold tasksTo Vbhoak.tasksOf; rw [M.take_all]
theorem tasksTo_succ {h : Vbhoak.House} {i : Nat} {r : Vbhoak.Room} (e : h.rooms[i]? = some r) : tasksTo h (i + 1) = tasksTo h i ++ if Vbhoak.minutesOf h r = 0 then [] else [⟨i, Vbhoak.minutesOf h r, r.due⟩] := by
  unfold tasksTo
  rw [M.take_zip e, List.map_append, List.filter_append]
  congr 1
  by_cases z : Vbhoak.minutesOf h r = 0 <;> simp [z]
theorem tasksTo_len (h : Vbhoak.House) (i : Nat) : (tasksTo h i).length <= i := by
  unfold tasksTo
  refine Nat.le_trans (List.length_filter_le ..) ?_
  rw [List.length_map, List.length_take]
  omega
theorem sum_le_mul (c : Nat) : ∀ l : List Nat, (∀ x ∈ l, x <= c) -> l.sum <= c * l.length
  | [], _ => by simp
  | x :: l, h => by
    have h1 := h x (by simp)
    have h2 := sum_le_mul c l fun y hy => h y (List.mem_cons_of_mem _ hy)
    rw [List.sum_cons, List.length_cons, Nat.mul_add]
    omega
theorem tasks_len {h : Vbhoak.House} (g : Good h) : (Vbhoak.tasksOf h).length <= 30 := by
  rw [<- tasksTo_all]
  exact Nat.le_trans (tasksTo_len _ _) g.len
theorem tasks_small {h : Vbhoak.House} (g : Good h) : ∀ t ∈ Vbhoak.tasksOf h, t.minutes <= 240 := by
  intro t ht
  unfold Vbhoak.tasksOf at ht
  obtain ⟨h1, _⟩ := List.mem_filter.mp ht
  obtain ⟨x, hx, rfl⟩ := List.mem_map.mp h1
  have : x.1 ∈ h.rooms := by
    obtain ⟨j, hj⟩ := List.mem_iff_getElem?.mp hx
    rw [List.getElem?_zipIdx] at hj
    cases e : h.rooms[j]? with
    | none => rw [e] at hj; cases hj
    | some r => rw [e] at hj; cases hj; exact List.mem_of_getElem? e
  exact minutes_le g (g.rooms _ this)
theorem load_small {l : List Vbhoak.Duty} (h : ∀ t ∈ l, t.minutes <= 240) : Vbhoak.load l <= 240 * l.length := by
  rw [M.load_eq, <- M.mins_len]
  exact sum_le_mul 240 _ fun x hx => let ⟨t, ht, e⟩ := M.mem_mins.mp hx; e ▸ h t ht
theorem tasks_load {h : Vbhoak.House} (g : Good h) : Vbhoak.load (Vbhoak.tasksOf h) <= 7200 := by
  have h1 := load_small (tasks_small g)
  have h2 := tasks_len g
  omega
theorem iteT' {c A B : Prop} [Decidable c] (hc : c) (h : A) : if c then A else B := by rw [if_pos hc]; exact h
theorem iteF' {c A B : Prop} [Decidable c] (hc : ¬ c) (h : B) : if c then A else B := by rw [if_neg hc]; exact h
def spMinutes (a : Ad) : Sp := fun vs H Q _ => ∃ (hp l : Addr) (as : List Addr) (h : Vbhoak.House) (p : Addr) (r : Vbhoak.Room), vs = [.ref hp, .ref p] /\ HouseAt a H hp l as h /\ RoomAt a H p r /\ Q (.int (Vbhoak.minutesOf h r : Int)) H
def spTaskI (a : Ad) : Sp := fun vs H Q _ => ∃ (p dx : Addr) (t : Vbhoak.Duty), vs = [.ref p, .int (t.room : Int), .int (t.minutes : Int), .int (t.due : Int)] /\ H p = some (.ins a.cTask dx []) /\ ∀ H', TaskAt a H' p t -> Ch H H' p -> Q .non H'
def spTasks (a : Ad) : Sp := fun vs H Q _ => ∃ (hp l : Addr) (as : List Addr) (h : Vbhoak.House), vs = [.ref hp] /\ HouseAt a H hp l as h /\ Good h /\ ∀ H' q, Same H H' -> TasksAt a H' q (Vbhoak.tasksOf h) -> Q (.ref q) H'
def spMins (a : Ad) : Sp := fun vs H Q _ => ∃ (q : Addr) (ds : List Vbhoak.Duty), vs = [.ref q] /\ TasksAt a H q ds /\ ds.length <= 900 /\ ∀ H' p, Same H H' -> H' p = some (.lst (nv (M.mins ds))) -> Q (.ref p) H'
def spRow : Sp := fun vs H Q _ => ∃ (p : Addr) (ns : List Int), vs = [.ref p] /\ H p = some (.lst (ns.map V.int)) /\ ns.length <= 900 /\ ∀ H' q, Same H H' -> H' q = some (.lst ((Vbhoak.row ns).map V.int)) -> Q (.ref q) H'
section
variable {P : Program} {w : World} {K : PySem.W.Frag} {mg : Str -> Option Value} {base : Heap} {a : Ad}
theorem ok_minutes (T : Txt K mg a) : COk P w K mg base 1 "minutes_of" (spMinutes a) := by
  have sc := sc_minutes_of
  refine T.d_minutes_of.ok sc (fun vs H Q E h => ?_) (fun f cdv A outer s H vs Q E hr h => ?_)
  . obtain ⟨hp, l, as, h, p, r, rfl, _⟩ := h; rfl
  . obtain ⟨hp, l, as, h, p, r, rfl, hH, hR, k⟩ := h
    refine ⟨_, (pss_cons (ps_if (pt_val (pe_fld (pv 1) rfl)) (pss_one (ps_ret pe_int)) pss_nil)
      (pss_cons (ps_if (PW.pt (pw_and (pt_cmpR op_eq (pe_fld (pv 1) rfl) (pe_gint rfl T.g_DIRTY) (nomark _)) (pw_and1 (pt_val (pe_fld (pv 1) rfl))))) (pss_one (ps_ret (pe_ifExp (pt_cmpR op_eq (pe_fld (pv 1) rfl) (pe_gint rfl T.g_DECLINED_TODAY) (nomark _)) pe_int (pe_op op_add (pe_fld (pv 0) rfl) (pe_fld (pv 1) rfl))))) pss_nil)
      (pss_cons (ps_if (pt_cmpR op_eq (pe_fld (pv 1) rfl) (pe_gint rfl T.g_DIRTY) (nomark _)) (pss_one (ps_ret (pe_op op_add (pe_fld (pv 0) rfl) (pe_fld (pv 1) rfl)))) pss_nil)
      (pss_cons (ps_if (PW.pt (pw_and (pt_cmpR op_eq (pe_fld (pv 1) rfl) (pe_gint rfl T.g_CLEANED) (nomark _)) (pw_and1 (pt_not (pt_val (pe_fld (pv 1) rfl)))))) (pss_one (ps_ret (pe_fld (pv 0) rfl))) pss_nil)
      (pss_one (ps_ret pe_int)))))), ?_⟩
    dsimp only [tSeq, tIfS, tB, tTest, tOp, tRet, tIf, tAnd, tNot, tOr, tNext, tC]
    refine T.rd_shut hR rfl ⟨_, rfl, ite2 (fun h1 => ?_) (fun h1 => ?_)⟩
    . have e : (Vbhoak.minutesOf h r : Int) = 0 := by simp [Vbhoak.minutesOf, h1]
      rw [e] at k
      exact k
    refine T.rd_state hR rfl ⟨rfl, _, rfl, ite2 (fun h2 => ?_) (fun h2 => ?_)⟩
    . have h2 : r.clean = 0 := by simpa using h2
      refine T.rd_taken hR rfl ⟨_, rfl, ite2 (fun h3 => ?_) (fun h3 => ?_)⟩
      . refine T.rd_today hR rfl ⟨rfl, _, rfl, ite2 (fun h4 => ?_) (fun h4 => ?_)⟩
        . have h4 : r.asked = 2 := by simp at h4; omega
          have e : (Vbhoak.minutesOf h r : Int) = 0 := by simp [Vbhoak.minutesOf, h1, h2, h3, h4]
          rw [e] at k
          exact k
        . have h4 : ¬ r.asked = 2 := by simp at h4; omega
          have e : (Vbhoak.minutesOf h r : Int) = (h.light : Int) + (r.extra : Int) := by simp [Vbhoak.minutesOf, h1, h2, h3, h4]
          rw [e] at k
          exact T.rd_light hH rfl (T.rd_extra hR rfl ⟨_, _, rfl, rfl, k⟩)
      . refine T.rd_state hR rfl ⟨rfl, _, rfl, iteT' (by simp [h2]) ?_⟩
        have e : (Vbhoak.minutesOf h r : Int) = (h.heavy : Int) + (r.extra : Int) := by simp [Vbhoak.minutesOf, h1, h2, h3]
        rw [e] at k
        exact T.rd_heavy hH rfl (T.rd_extra hR rfl ⟨_, _, rfl, rfl, k⟩)
    . have h2 : ¬ r.clean = 0 := by simpa using h2
      refine iteF ?_
      refine T.rd_state hR rfl ⟨rfl, _, rfl, iteF' (by simp [h2]) ?_⟩
      refine T.rd_state hR rfl ⟨rfl, _, rfl, ite2 (fun h4 => ?_) (fun h4 => ?_)⟩
      . have h4 : r.clean = 1 := by simp at h4; omega
        refine T.rd_taken hR rfl ⟨_, rfl, ite2 (fun h3 => ?_) (fun h3 => ?_)⟩
        . have e : (Vbhoak.minutesOf h r : Int) = (h.check : Int) := by
            have h3 : r.taken = false := by simpa using h3
            simp [Vbhoak.minutesOf, h1, h3, h4]
          rw [e] at k
          exact T.rd_check hH rfl k
        . have e : (Vbhoak.minutesOf h r : Int) = 0 := by
            have h3 : r.taken = true := by simpa using h3
            simp [Vbhoak.minutesOf, h1, h3, h4]
          rw [e] at k
          exact k
      . have h4 : ¬ r.clean = 1 := by simp at h4; omega
        have e : (Vbhoak.minutesOf h r : Int) = 0 := by simp [Vbhoak.minutesOf, h2, h4]
        rw [e] at k
        exact iteF k
theorem ok_Task (T : Txt K mg a) : IOk P w K mg base 1 "Task" a.cTask (spTaskI a) := by
  have sc := sc_Task_init
  refine T.k_Task.ok sc (fun vs H Q E h => ?_) (fun f cdv A outer s H vs Q E hr h => ?_)
  . obtain ⟨p, dx, t, rfl, _⟩ := h; rfl
  . obtain ⟨p, dx, t, rfl, hp, k⟩ := h
    refine ⟨_, (pss_cons (ps_fld (pv 0) (pv 1) rfl)
      (pss_cons (ps_fld (pv 0) (pv 2) rfl)
      (pss_one (ps_fld (pv 0) (pv 3) rfl)))), ?_⟩
    refine ⟨_, rfl, _, rfl, p, _, dx, _, rfl, hp, T.c_Task, T.n_Task_number, (by show 0 < 1000; decide), ?_⟩
    refine ⟨_, rfl, _, rfl, p, _, dx, _, rfl, upd_same, T.c_Task, T.n_Task_minutes, (by show 1 < 1000; decide), ?_⟩
    refine ⟨_, rfl, _, rfl, p, _, dx, _, rfl, upd_same, T.c_Task, T.n_Task_due, (by show 2 < 1000; decide), ?_⟩
    exact k _ ⟨dx, upd_same⟩ ((Ch.upd.trans Ch.upd).trans Ch.upd)
theorem ok_row (T : Txt K mg a) : COk P w K mg base 1 "row_of" spRow := by
  have sc := sc_row_of
  refine T.d_row_of.ok sc (fun vs H Q E h => ?_) (fun f cdv A outer s H vs Q E hr h => ?_)
  . obtain ⟨p, ns, rfl, _⟩ := h; rfl
  . obtain ⟨p, ns, rfl, hp, hl, k⟩ := h
    refine ⟨_, (pss_one (ps_ret (pe_op op_cat (pe_lst (pa_cons (pe_callB call_len_seq (by rfl) T.b_len PySem.boot_len (pa_cons (pv 0) pa_nil)) pa_nil)) (pv 0)))), ?_⟩
    refine ⟨_, rfl, p, _, rfl, .inl (SqL.of hp), (by show 1 <= sizeLine; decide), fun q1 h1 => ?_⟩
    refine ⟨_, rfl, q1, p, _, _, rfl, rfl, upd_same, Same.new h1 _ _ hp, ?_, fun q hq => ?_⟩
    . rw [List.length_map, sizeLine_eq]; show 1 + _ <= _; omega
    . refine k _ q (Same.trans' (Same.new h1) (Same.new hq)) ?_
      rw [upd_same]
      show some (HO.lst ([V.int ((ns.map V.int).length : Int)] ++ ns.map V.int)) = _
      rw [List.length_map]; rfl
theorem ok_mins (T : Txt K mg a) : COk P w K mg base 1 "minutes_in_order" (spMins a) := by
  have sc := sc_minutes_in_order
  refine T.d_minutes_in_order.ok sc (fun vs H Q E h => ?_) (fun f cdv A outer s H vs Q E hr h => ?_)
  . obtain ⟨q, ds, rfl, _⟩ := h; rfl
  . obtain ⟨q, ds, rfl, hT, hl, k⟩ := h
    refine ⟨_, (pss_one (ps_ret (pe_lc (te := tFld K (tVar 1) "minutes") rfl sc.nd (pi_list (pv 0)) (blkOk_by (own := [("task", 1)]) (by kernel_rfl)) (fun _ _ _ _ _ => (pg_name (i := 1) sc.nd rfl (Or.inl rfl))) (fun _ _ _ _ _ => pts_nil) (fun _ _ _ _ _ => pe_fld (pv 1) rfl)))), ?_⟩
    obtain ⟨ts, e, pr⟩ := hT
    refine lc_l (mono_var 0) ⟨_, rfl, q, ts.map V.ref, rfl, SqL.of e, fun D hD => ⟨fun i H' => Same H H' /\ H' D = some (.lst (nv (M.mins (ds.take i)))), ⟨Same.new hD, upd_same⟩, fun i H' _ ⟨sm, _⟩ => SqL.of (sm _ _ e), ?_, ?_⟩⟩
    . rintro i x H' hx ⟨sm, hd⟩
      obtain ⟨p, hp, rfl⟩ := of_refs hx
      obtain ⟨t, ht, tA⟩ := paired_at pr hp
      dsimp only [gName, tYes]
      refine ⟨rfl, iteT ?_⟩
      refine T.rd_tmin (tA.grow sm) rfl ⟨_, hd, ?_, fun b o eb => ?_, ?_⟩
      . rw [nv_len, M.mins_len, List.length_take, sizeLine_eq]; omega
      . rw [upd_ne (ne_of_none eb hD)]; exact sm _ _ eb
      . rw [upd_same, nv_snoc, List.take_add_one, ht, M.mins, M.mins, List.map_append]; rfl
    . rintro H' ⟨sm, hd⟩
      refine k H' D sm ?_
      rw [hd, List.length_map, Paired.length pr, List.take_length]
theorem ok_tasks (T : Txt K mg a) : COk P w K mg base 3 "tasks_of" (spTasks a) := by
  have sc := sc_tasks_of
  have C_minutes_of := ok_minutes (P := P) (w := w) (base := base) T
  have C_Task := ok_Task (P := P) (w := w) (base := base) T
  refine T.d_tasks_of.ok sc (fun vs H Q E h => ?_) (fun f cdv A outer s H vs Q E hr h => ?_)
  . obtain ⟨hp, l, as, h, rfl, _⟩ := h; rfl
  . obtain ⟨hp, l, as, h, rfl, hH, hg, k⟩ := h
    refine ⟨_, (pss_cons (ps_set (i := 1) sc.nd rfl (Or.inl rfl) (pe_lst pa_nil))
      (pss_cons (ps_for PassesOwn.never rfl (pi_enum rfl T.b_enumerate (pa_cons (pe_fld (pv 0) rfl) pa_nil)) (pg_tup rfl (pgs_cons (pg_name (i := 2) sc.nd rfl (Or.inl rfl)) (pgs_cons (pg_name (i := 3) sc.nd rfl (Or.inl rfl)) pgs_nil))) (pss_cons (ps_set (i := 4) sc.nd rfl (Or.inl rfl) (pe_callN C_minutes_of (hr.mono (by decide)) rfl (pa_cons (pv 0) (pa_cons (pv 3) pa_nil))))
      (pss_one (ps_if (pt_cmpR op_ne (pv 4) pe_int (nomark _)) (pss_one (ps_expr (pe_bm PySem.F.plainAttrs_list PySem.F.slot_list_append PySem.F.type_list_append mt_append (pv 1) (pa_cons (pe_mk C_Task hr rfl (pa_cons (pv 2) (pa_cons (pv 4) (pa_cons (pe_fld (pv 3) rfl) pa_nil)))) pa_nil)))) pss_nil))))
      (pss_one (ps_ret (pv 1))))), ?_⟩
    refine ⟨Nat.zero_le _, fun q hq => ?_⟩
    have sm0 : Same H (upd H q (.lst [])) := Same.new hq
    have hH0 := hH.same sm0
    refine for_e (ma_cons (mono_fld (mono_var 0)) ma_nil) (T.rd_rooms hH0 rfl ⟨l, as.map V.ref, fun i σ H' => ∃ x2 x3 x4 : Option V, σ = [some (.ref hp), some (.ref q), x2, x3, x4] /\ Same H H' /\ TasksAt a H' q (tasksTo h i), rfl, SqL.of hH0.lst, ?_, ?_, ?_, ?_⟩)
    . exact ⟨none, none, none, rfl, sm0, [], upd_same, .nil⟩
    . rintro i σ H' _ ⟨_, _, _, _, sm, _⟩
      exact SqL.of (sm _ _ hH.lst)
    . rintro i x σ H' T' hx ⟨x2, x3, x4, rfl, sm, tA⟩ hT'
      obtain ⟨p, hp1, rfl⟩ := of_refs hx
      have hil : i < h.rooms.length := by rw [<- hH.len]; exact (List.getElem?_eq_some_iff.mp hp1).1
      obtain ⟨r, hr1⟩ : ∃ r, h.rooms[i]? = some r := ⟨_, List.getElem?_eq_getElem hil⟩
      have sm1 : Same H (upd H' T' (.tup [.int (i : Nat), .ref p])) := Same.trans' sm (Same.new hT')
      have hH1 := hH.same sm1
      have hR := hH1.at_ i p r hp1 hr1
      refine ⟨T', _, rfl, SqT.of upd_same, rfl, _, _, rfl, _, _, rfl, rfl, ?_⟩
      refine ⟨_, rfl, _, rfl, hp, l, as, h, p, r, rfl, hH1, hR, ?_⟩
      have e0 := tasksTo_succ hr1
      refine ⟨_, rfl, rfl, _, rfl, ite2 (fun c => ?_) (fun c => ?_)⟩
      . have c : ¬ Vbhoak.minutesOf h r = 0 := by simpa using c
        rw [if_neg c] at e0
        obtain ⟨ts, e, pr⟩ := tA
        have e1 := Same.new (o := .tup [.int (i : Nat), .ref p]) hT' _ _ e
        refine ⟨_, rfl, .inl ⟨rfl, _, SqL.of e1⟩, _, rfl, _, rfl, T.rd_due hR rfl ?_⟩
        intro x dx nx ndx ne
        refine ⟨x, dx, ⟨i, Vbhoak.minutesOf h r, r.due⟩, rfl, upd_same, fun H2 h2 c2 => ⟨rfl, ?_⟩⟩
        have s2 : Same (upd H' T' (.tup [.int (i : Nat), .ref p])) H2 := Same.made nx ndx c2
        have s3 : Same H' H2 := Same.trans' (Same.new hT') s2
        refine ⟨q, _, _, rfl, rfl, s3 _ _ e, ?_, ?_⟩
        . rw [List.length_map, Paired.length pr, sizeLine_eq]
          have := tasksTo_len h i
          have := hg.len
          omega
        . refine ⟨_, _, _, rfl, fun b o eb => ?_, ts ++ [x], by rw [upd_same, List.map_append]; rfl, ?_⟩
          . rw [upd_ne (ne_of_none eb hq)]; exact s2 _ _ (sm1 _ _ eb)
          . rw [e0]
            refine paired_snoc (Paired.mapP pr fun t d eb => ?_) ?_
            . obtain ⟨dq, z⟩ := eb
              exact ⟨dq, by rw [upd_ne (ne_of z e (by intro y; cases y))]; exact s3 _ _ z⟩
            . obtain ⟨dq, z⟩ := h2
              exact ⟨dq, by rw [upd_ne (ne_of z (s3 _ _ e) (by intro y; cases y))]; exact z⟩
      . have c : Vbhoak.minutesOf h r = 0 := by simpa using c
        rw [if_pos c, List.append_nil] at e0
        exact ⟨_, _, _, rfl, sm1, by rw [e0]; exact tA.grow (Same.new hT')⟩
    . rintro σ H' ⟨_, _, _, rfl, sm, tA⟩
      rw [List.length_map, hH.len, tasksTo_all] at tA
      exact ⟨_, rfl, k H' q sm tA⟩
end
section
variable {a : Ad} {H H1 : Hp} {hp l : Addr} {as : List Addr} {h : Vbhoak.House} {c : Vbhoak.Call} {ans : List Int} {Q : VK}
theorem end_q {o : HO} (k : ∀ H' q, H q = Option.none -> HouseAt a H' hp l as (Vbhoak.onHouse h c).1 -> H' q = some (.lst ((Vbhoak.onHouse h c).2.map V.int)) -> ChS H H' (hp :: as) -> Q (.ref q) H') (hH : HouseAt a H hp l as h) (sm : Same H H1) {q : Addr} (hn : H1 q = Option.none) (e : Vbhoak.onHouse h c = (h, ans)) (hq : upd H1 q o q = some (.lst (ans.map V.int))) : Q (.ref q) (upd H1 q o) :=
  k _ q (sm.free hn) (by rw [e]; exact hH.same (Same.trans' sm (Same.new hn))) (by rw [e]; exact hq) fun b u eb _ => Same.trans' sm (Same.new hn) b u eb
end
theorem flat2_len {α : Type} (f g : α -> Int) : ∀ l : List α, (l.flatMap fun x => [f x, g x]).length = 2 * l.length
  | [] => rfl
  | x :: l => by rw [List.flatMap_cons, List.length_append, flat2_len f g l]; simp; omega
theorem row_len (l : List Int) : (Vbhoak.row l).length = l.length + 1 := rfl
theorem flat2_take {α : Type} {F : α -> List Int} {l : List α} {i : Nat} {x : α} (h : l[i]? = some x) : (l.take (i + 1)).flatMap F = (l.take i).flatMap F ++ F x := by
  rw [List.take_add_one, h, List.flatMap_append]; simp
section
variable {P : Program} {w : World} {K : PySem.W.Frag} {mg : Str -> Option Value} {base : Heap} {a : Ad}
theorem ok_work (T : Txt K mg a) : COk P w K mg base 4 "work_told" (spOp a fun h ns c => ns = [] /\ c = .work) := by
  have sc := sc_work_told
  have C_tasks_of := ok_tasks (P := P) (w := w) (base := base) T
  have C_minutes_in_order := ok_mins (P := P) (w := w) (base := base) T
  have C_row_of := ok_row (P := P) (w := w) (base := base) T
  refine T.d_work_told.ok sc (fun vs H Q E h => ?_) (fun f cdv A outer s H vs Q E hr h => ?_)
  . obtain ⟨hp, l, as, h, np, ns, c, rfl, _⟩ := h; rfl
  . obtain ⟨hp, l, as, h, np, ns, c, rfl, hH, hg, hN, ⟨rfl, rfl⟩, k⟩ := h
    refine ⟨_, (pss_cons (ps_set (i := 2) sc.nd rfl (Or.inl rfl) (pe_callN C_tasks_of hr rfl (pa_cons (pv 0) pa_nil)))
      (pss_cons (ps_set (i := 3) sc.nd rfl (Or.inl rfl) (pe_lst pa_nil))
      (pss_cons (ps_for PassesOwn.never rfl (pi_list (pv 2)) (pg_name (i := 4) sc.nd rfl (Or.inl rfl)) (pss_one (ps_expr (pe_bm PySem.F.plainAttrs_list PySem.F.slot_list_extend PySem.F.type_list_extend mt_extend (pv 3) (pa_cons (pe_lst (pa_cons (pe_fld (pv 4) rfl) (pa_cons (pe_fld (pv 4) rfl) pa_nil))) pa_nil)))))
      (pss_one (ps_ret (pe_op op_cat (pe_lst (pa_cons (pe_gint rfl T.g_ACCEPTED) (pa_cons (pe_callB (cr_sum rfl) (by rfl) T.b_sum boot_sum (pa_cons (pe_callN C_minutes_in_order (hr.mono (by decide)) rfl (pa_cons (pv 2) pa_nil)) pa_nil)) pa_nil))) (pe_callN C_row_of (hr.mono (by decide)) rfl (pa_cons (pv 3) pa_nil)))))))), ?_⟩
    have hlen := tasks_len hg
    refine ⟨_, rfl, hp, l, as, h, rfl, hH, hg, fun H1 tq sm1 tA => ⟨Nat.zero_le _, fun pq hpq => ?_⟩⟩
    obtain ⟨ts, te, pr⟩ := id tA
    refine for_l (mono_var 2) ⟨_, rfl, tq, ts.map V.ref, fun i σ H' => ∃ x4 : Option V, σ = [some (.ref hp), some (.ref np), some (.ref tq), some (.ref pq), x4] /\ Same H1 H' /\ H' pq = some (.lst ((((Vbhoak.tasksOf h).take i).flatMap fun t => [(t.room : Int), (t.minutes : Int)]).map V.int)), rfl, SqL.of (Same.new hpq _ _ te), ?_, ?_, ?_, ?_⟩
    . exact ⟨none, rfl, Same.new hpq, upd_same⟩
    . rintro i σ H' _ ⟨_, _, sm, _⟩
      exact SqL.of (sm _ _ te)
    . rintro i x σ H' hx ⟨x4, rfl, sm, hq⟩
      obtain ⟨p, hp1, rfl⟩ := of_refs hx
      obtain ⟨t, ht, tA1⟩ := paired_at pr hp1
      have tA2 := tA1.grow sm
      refine ⟨_, rfl, .inl ⟨rfl, _, SqL.of hq⟩, ?_⟩
      dsimp only [tCons, tNil, tLst]
      refine T.rd_tnum tA2 rfl (T.rd_tmin tA2 rfl ⟨(by show 2 <= sizeLine; decide), fun z hz => ⟨pq, z, _, _, rfl, rfl, Same.new hz _ _ hq, upd_same, ?_, ?_⟩⟩)
      . rw [List.length_map, flat2_len, List.length_take, sizeLine_eq]; show _ + 2 <= _; omega
      . refine ⟨_, rfl, fun b o eb => ?_, ?_⟩
        . rw [upd_ne (ne_of_none eb hpq)]; exact Same.new hz _ _ (sm _ _ eb)
        . rw [upd_same, flat2_take ht, List.map_append]; rfl
    . rintro σ H2 ⟨x4, rfl, sm, hq⟩
      rw [List.length_map, Paired.length pr, List.take_length] at hq
      refine ⟨_, rfl, tq, Vbhoak.tasksOf h, rfl, tA.grow sm, by omega, fun H3 mq sm3 hm => ?_⟩
      refine ⟨mq, _, rfl, SqL.of hm, (by show 2 <= sizeLine; decide), fun q1 h1 => ?_⟩
      have hq3 := Same.new (o := .lst [.int 0, .int ((M.mins (Vbhoak.tasksOf h)).map Int.ofNat).sum]) h1 _ _ (sm3 _ _ hq)
      refine ⟨_, rfl, pq, _, rfl, hq3, by rw [flat2_len]; omega, fun H4 q2 sm4 hq2 => ?_⟩
      refine ⟨q1, q2, _, _, rfl, rfl, sm4 _ _ upd_same, hq2, ?_, fun q hq => ?_⟩
      . rw [List.length_map, row_len, flat2_len, sizeLine_eq]; show 2 + _ <= _; omega
      . refine end_q k hH (Same.trans' (Same.trans' (Same.trans' (Same.trans' sm1 sm) sm3) (Same.new h1)) sm4) hq rfl ?_
        rw [upd_same, sum_nv, <- M.load_eq]; rfl
theorem mono_part {ta : TA} {E : XK} (ha : MonoA ta) : Mono (tCall (spPart K) [] E ta) := mono_call (fun _ _ _ _ h ⟨p, l, k, e, h1, h2, h3, h4, h5, z⟩ => ⟨p, l, k, e, h1, h2, h3, h4, h5, fun H' q s y => h _ _ (z H' q s y)⟩) ha
theorem ok_split (T : Txt K mg a) : COk P w K mg base 4 "split_told" (spOp a fun h ns c => ∃ k : Nat, ns = [(k : Int)] /\ 1 <= k /\ k <= 8 /\ c = .split k) := by
  have sc := sc_split_told
  have C_tasks_of := ok_tasks (P := P) (w := w) (base := base) T
  have C_minutes_in_order := ok_mins (P := P) (w := w) (base := base) T
  have C_row_of := ok_row (P := P) (w := w) (base := base) T
  have C_parting_told := ok_part (P := P) (w := w) (base := base) T
  have C_least_greatest_load := ok_least (P := P) (w := w) (base := base) T
  refine T.d_split_told.ok sc (fun vs H Q E h => ?_) (fun f cdv A outer s H vs Q E hr h => ?_)
  . obtain ⟨hp, l, as, h, np, ns, c, rfl, _⟩ := h; rfl
  . obtain ⟨hp, l, as, h, np, ns, c, rfl, hH, hg, hN, ⟨n, rfl, hn1, hn8, rfl⟩, k⟩ := h
    refine ⟨_, (pss_cons (ps_set (i := 2) sc.nd rfl (Or.inl rfl) (pe_ix ix_list (pv 1) pe_int (fun _ _ => rfl)))
      (pss_cons (ps_set (i := 3) sc.nd rfl (Or.inl rfl) (pe_callN C_minutes_in_order (hr.mono (by decide)) rfl (pa_cons (pe_callN C_tasks_of hr rfl (pa_cons (pv 0) pa_nil)) pa_nil)))
      (pss_cons (ps_set (i := 4) sc.nd rfl (Or.inl rfl) (pe_lst pa_nil))
      (pss_cons (ps_for PassesOwn.never rfl (pi_list (pe_callN C_parting_told hr rfl (pa_cons (pv 3) (pa_cons (pv 2) pa_nil)))) (pg_name (i := 5) sc.nd rfl (Or.inl rfl)) (pss_cons (ps_set (i := 6) sc.nd rfl (Or.inl rfl) (pe_slice sl_list (pv 3) (po_some (pe_ix ix_tup (pv 5) pe_int (fun _ _ => rfl))) (po_some (pe_ix ix_tup (pv 5) pe_int (fun _ _ => rfl)))))
      (pss_one (ps_expr (pe_bm PySem.F.plainAttrs_list PySem.F.slot_list_extend PySem.F.type_list_extend mt_extend (pv 4) (pa_cons (pe_lst (pa_cons (pe_callB call_len_seq (by rfl) T.b_len PySem.boot_len (pa_cons (pv 6) pa_nil)) (pa_cons (pe_callB (cr_sum rfl) (by rfl) T.b_sum boot_sum (pa_cons (pv 6) pa_nil)) pa_nil))) pa_nil))))))
      (pss_one (ps_ret (pe_op op_cat (pe_lst (pa_cons (pe_gint rfl T.g_ACCEPTED) (pa_cons (pe_callN C_least_greatest_load (hr.mono (by decide)) rfl (pa_cons (pv 3) (pa_cons (pv 2) pa_nil))) pa_nil))) (pe_callN C_row_of (hr.mono (by decide)) rfl (pa_cons (pv 4) pa_nil))))))))), ?_⟩
    have hlen := tasks_len hg
    have hload := tasks_load hg
    refine ⟨_, rfl, np, _, 0, _, rfl, rfl, SqL.of hN, rfl, _, rfl, hp, l, as, h, rfl, hH, hg, fun H1 tq sm1 tA => ⟨tq, _, rfl, tA, by omega, fun H2 mq sm2 hm => ⟨Nat.zero_le _, fun pq hpq => ?_⟩⟩⟩
    generalize hD : Vbhoak.tasksOf h = ds at *
    have hm1 := Same.new (o := .lst []) hpq _ _ hm
    refine for_l (mono_part (ma_cons (mono_var 3) (ma_cons (mono_var 2) ma_nil))) ⟨_, rfl, _, rfl, mq, ds, n, rfl, hlen, hn1, hn8, by omega, hm1, fun H3 sq sm3 pA => ?_⟩
    obtain ⟨ts, te, pr⟩ := id pA
    obtain ⟨cl, cs⟩ := M.splitOf_len (l := ds) hn1
    have hpl : (M.pairs 0 (Vbhoak.splitOf ds n)).length = n := by rw [M.pairs_len, cl]
    refine ⟨sq, ts.map V.ref, fun i σ H' => ∃ x5 x6 : Option V, σ = [some (.ref hp), some (.ref np), some (.int (n : Int)), some (.ref mq), some (.ref pq), x5, x6] /\ (∀ b o, b ≠ pq -> H3 b = some o -> H' b = some o) /\ H' pq = some (.lst ((((M.pairs 0 (Vbhoak.splitOf ds n)).take i).flatMap fun x => [(((ds.drop x.1).take (x.2 - x.1)).length : Int), (Vbhoak.load ((ds.drop x.1).take (x.2 - x.1)) : Int)]).map V.int)), rfl, SqL.of te, ?_, ?_, ?_, ?_⟩
    . exact ⟨none, none, rfl, fun b o _ e => e, sm3 _ _ upd_same⟩
    . rintro i σ H' _ ⟨_, _, _, sm, _⟩
      exact SqL.of (sm _ _ (ne_of te (sm3 _ _ upd_same) (fun z => by
        cases ts with
        | nil => have z := Paired.length pr; rw [hpl] at z; simp at z; omega
        | cons t ts => cases z)) te)
    . rintro i x σ H' hx ⟨x5, x6, rfl, sm, hq⟩
      obtain ⟨t, ht, rfl⟩ := of_refs hx
      obtain ⟨x, hx1, hT⟩ := paired_at pr ht
      have hT1 := sm _ _ (ne_of hT (sm3 _ _ upd_same) (by intro z; cases z)) hT
      have hmp : mq ≠ pq := ne_of_none hm hpq
      have hm3 := sm _ _ hmp (sm3 _ _ hm1)
      have e4 : cutV (nv (M.mins ds)) (some (x.1 : Int)) (some (x.2 : Int)) = nv (((M.mins ds).drop x.1).take (x.2 - x.1)) := by
        rw [cut_nat, nv_drop, nv_take]
      refine ⟨_, rfl, _, rfl, t, _, 0, _, rfl, rfl, SqT.of hT1, rfl, _, rfl, _, rfl, t, _, 1, _, rfl, rfl, SqT.of hT1, rfl, _, rfl, mq, _, rfl, SqL.of hm3, fun q3 hq3 => ?_⟩
      rw [e4]
      have hq4 := Same.new (o := .lst (nv (((M.mins ds).drop x.1).take (x.2 - x.1)))) hq3 _ _ hq
      refine ⟨_, rfl, .inl ⟨rfl, _, SqL.of hq4⟩, _, rfl, q3, _, rfl, .inl (SqL.of upd_same), _, rfl, q3, _, rfl, SqL.of upd_same, (by show 2 <= sizeLine; decide), fun z hz => ⟨pq, z, _, _, rfl, rfl, Same.new hz _ _ hq4, upd_same, ?_, ?_⟩⟩
      . rw [List.length_map, flat2_len, List.length_take, sizeLine_eq]; show _ + 2 <= _; omega
      . refine ⟨_, _, rfl, fun b o nb eb => ?_, ?_⟩
        . rw [upd_ne nb]; exact Same.new hz _ _ (Same.new hq3 _ _ (sm _ _ nb eb))
        . rw [upd_same, flat2_take hx1, List.map_append, nv_len, sum_nv, <- M.load_cut, <- M.mins_drop, <- M.mins_take, M.mins_len]; rfl
    . rintro σ H4 ⟨x5, x6, rfl, sm, hq⟩
      rw [List.length_map, Paired.length pr, List.take_length] at hq
      have hmp : mq ≠ pq := ne_of_none hm hpq
      have hm3 := sm _ _ hmp (sm3 _ _ hm1)
      have smH : Same H H4 := fun b o eb => by
        have e2 := sm2 _ _ (sm1 _ _ eb)
        exact sm _ _ (ne_of_none e2 hpq) (sm3 _ _ (Same.new hpq _ _ e2))
      refine ⟨_, rfl, _, rfl, mq, ds, n, rfl, hn1, SqL.of hm3, (by show 2 <= sizeLine; decide), fun q1 h1 => ?_⟩
      have hq3 := Same.new (o := .lst [.int 0, .int (Vbhoak.leastLoad ds n : Int)]) h1 _ _ hq
      refine ⟨_, rfl, pq, _, rfl, hq3, by rw [flat2_len, hpl]; omega, fun H5 q2 sm4 hq2 => ?_⟩
      refine ⟨q1, q2, _, _, rfl, rfl, sm4 _ _ upd_same, hq2, ?_, fun q hq => ?_⟩
      . rw [List.length_map, row_len, flat2_len, hpl, sizeLine_eq]; show 2 + _ <= _; omega
      . have e9 : Vbhoak.onHouse h (.split n) = (h, 0 :: (Vbhoak.leastLoad ds n : Int) :: Vbhoak.row ((M.pairs 0 (Vbhoak.splitOf ds n)).flatMap fun x => [(((ds.drop x.1).take (x.2 - x.1)).length : Int), (Vbhoak.load ((ds.drop x.1).take (x.2 - x.1)) : Int)])) := by
          unfold Vbhoak.onHouse
          rw [hD]
          dsimp only
          rw [M.stretches_pairs, List.flatMap_map]
        refine end_q k hH (Same.trans' (Same.trans' smH (Same.new h1)) sm4) hq e9 ?_
        rw [upd_same]; rfl
theorem ok_bound (T : Txt K mg a) : COk P w K mg base 4 "bound_told" (spOp a fun h ns c => ∃ k : Nat, ns = [(k : Int)] /\ 1 <= k /\ k <= 8 /\ c = .bound k) := by
  have sc := sc_bound_told
  have C_tasks_of := ok_tasks (P := P) (w := w) (base := base) T
  have C_minutes_in_order := ok_mins (P := P) (w := w) (base := base) T
  have C_row_of := ok_row (P := P) (w := w) (base := base) T
  have C_witness_told := ok_wit (P := P) (w := w) (base := base) T
  have C_least_greatest_load := ok_least (P := P) (w := w) (base := base) T
  refine T.d_bound_told.ok sc (fun vs H Q E h => ?_) (fun f cdv A outer s H vs Q E hr h => ?_)
  . obtain ⟨hp, l, as, h, np, ns, c, rfl, _⟩ := h; rfl
  . obtain ⟨hp, l, as, h, np, ns, c, rfl, hH, hg, hN, ⟨n, rfl, hn1, hn8, rfl⟩, k⟩ := h
    refine ⟨_, (pss_cons (ps_set (i := 2) sc.nd rfl (Or.inl rfl) (pe_ix ix_list (pv 1) pe_int (fun _ _ => rfl)))
      (pss_cons (ps_set (i := 3) sc.nd rfl (Or.inl rfl) (pe_callN C_minutes_in_order (hr.mono (by decide)) rfl (pa_cons (pe_callN C_tasks_of hr rfl (pa_cons (pv 0) pa_nil)) pa_nil)))
      (pss_cons (ps_if (pt_cmpR op_eq (pe_callB call_len_seq (by rfl) T.b_len PySem.boot_len (pa_cons (pv 3) pa_nil)) pe_int (nomark _)) (pss_one (ps_ret (pe_lst (pa_cons (pe_gint rfl T.g_NO_TASKS) pa_nil)))) pss_nil)
      (pss_one (ps_ret (pe_op op_cat (pe_lst (pa_cons (pe_gint rfl T.g_ACCEPTED) (pa_cons (pe_callN C_least_greatest_load (hr.mono (by decide)) rfl (pa_cons (pv 3) (pa_cons (pv 2) pa_nil))) pa_nil))) (pe_callN C_row_of (hr.mono (by decide)) rfl (pa_cons (pe_callN C_witness_told hr rfl (pa_cons (pv 3) (pa_cons (pv 2) pa_nil))) pa_nil)))))))), ?_⟩
    have hlen := tasks_len hg
    refine ⟨_, rfl, np, _, 0, _, rfl, rfl, SqL.of hN, rfl, _, rfl, hp, l, as, h, rfl, hH, hg, fun H1 tq sm1 tA => ⟨tq, _, rfl, tA, by omega, fun H2 mq sm2 hm => ?_⟩⟩
    generalize hD : Vbhoak.tasksOf h = ds at *
    have lenM : ((nv (M.mins ds)).length : Int) = (ds.length : Int) := by rw [nv_len, M.mins_len]
    refine ⟨_, rfl, mq, _, rfl, .inl (SqL.of hm), rfl, _, rfl, ite2 (fun c => ?_) (fun c => ?_)⟩
    . have c : ds = [] := by
        rw [lenM] at c
        have c : ds.length = 0 := by simpa using c
        exact List.eq_nil_of_length_eq_zero c
      have e9 : Vbhoak.onHouse h (.bound n) = (h, [-8]) := by
        unfold Vbhoak.onHouse
        rw [hD, c]; rfl
      refine ⟨(by show 1 <= sizeLine; decide), fun q hq => ?_⟩
      exact end_q k hH (Same.trans' sm1 sm2) hq e9 upd_same
    . have c : ds ≠ [] := fun z => by
        rw [z] at c
        exact c rfl
      refine ⟨_, rfl, _, rfl, mq, ds, n, rfl, hn1, SqL.of hm, (by show 2 <= sizeLine; decide), fun q1 h1 => ?_⟩
      refine ⟨_, rfl, _, rfl, mq, ds, n, rfl, c, hn1, hn8, Same.new h1 _ _ hm, fun H4 wq sm4 hw => ?_⟩
      have wl : (Vbhoak.witnessOf ds n).length = n + 1 := by
        unfold Vbhoak.witnessOf
        dsimp only
        split
        . simp
        . have : ∀ k i, (Vbhoak.marks ds (Vbhoak.leastLoad ds n) k i).length = k := by
            intro k
            induction k with
            | zero => intro i; rfl
            | succ k ih => intro i; rw [Vbhoak.marks, List.length_cons, ih]
          exact this _ _
      refine ⟨wq, (Vbhoak.witnessOf ds n).map Int.ofNat, rfl, hw, by rw [List.length_map, wl]; omega, fun H5 q2 sm5 hq2 => ?_⟩
      refine ⟨q1, q2, _, _, rfl, rfl, sm5 _ _ (sm4 _ _ upd_same), hq2, ?_, fun q hq => ?_⟩
      . rw [List.length_map, row_len, List.length_map, wl, sizeLine_eq]; show 2 + _ <= _; omega
      . have e9 : Vbhoak.onHouse h (.bound n) = (h, 0 :: (Vbhoak.leastLoad ds n : Int) :: Vbhoak.row (Vbhoak.nats (Vbhoak.witnessOf ds n))) := by
          unfold Vbhoak.onHouse
          rw [hD]
          dsimp only
          rw [if_neg (by simpa using c)]
        refine end_q k hH (Same.trans' (Same.trans' (Same.trans' (Same.trans' sm1 sm2) (Same.new h1)) sm4) sm5) hq e9 ?_
        rw [upd_same]; rfl
theorem ok_proved (T : Txt K mg a) : COk P w K mg base 4 "witness_proved" (spOp a fun h ns c => ∃ (k m : Nat) (q : List Nat), ns = (k : Int) :: (m : Int) :: q.map Int.ofNat /\ 1 <= k /\ k <= 8 /\ q.length <= 9 /\ c = .prove k m q) := by
  have sc := sc_witness_proved
  have C_tasks_of := ok_tasks (P := P) (w := w) (base := base) T
  have C_minutes_in_order := ok_mins (P := P) (w := w) (base := base) T
  have C_is_witness := ok_iswit (P := P) (w := w) (base := base) T
  refine T.d_witness_proved.ok sc (fun vs H Q E h => ?_) (fun f cdv A outer s H vs Q E hr h => ?_)
  . obtain ⟨hp, l, as, h, np, ns, c, rfl, _⟩ := h; rfl
  . obtain ⟨hp, l, as, h, np, ns, c, rfl, hH, hg, hN, ⟨n, m, ps, rfl, hn1, hn8, hpl, rfl⟩, k⟩ := h
    refine ⟨_, (pss_cons (ps_set (i := 2) sc.nd rfl (Or.inl rfl) (pe_callN C_minutes_in_order (hr.mono (by decide)) rfl (pa_cons (pe_callN C_tasks_of hr rfl (pa_cons (pv 0) pa_nil)) pa_nil)))
      (pss_cons (ps_set (i := 3) sc.nd rfl (Or.inl rfl) (pe_callN C_is_witness (hr.mono (by decide)) rfl (pa_cons (pv 2) (pa_cons (pe_ix ix_list (pv 1) pe_int (fun _ _ => rfl)) (pa_cons (pe_ix ix_list (pv 1) pe_int (fun _ _ => rfl)) (pa_cons (pe_slice sl_list (pv 1) (po_some pe_int) po_none) pa_nil))))))
      (pss_one (ps_ret (pe_lst (pa_cons (pe_gint rfl T.g_ACCEPTED) (pa_cons (pe_ifExp (pt_val (pv 3)) pe_int pe_int) pa_nil))))))), ?_⟩
    have hlen := tasks_len hg
    refine ⟨_, rfl, hp, l, as, h, rfl, hH, hg, fun H1 tq sm1 tA => ⟨tq, _, rfl, tA, by omega, fun H2 mq sm2 hm => ?_⟩⟩
    generalize hD : Vbhoak.tasksOf h = ds at *
    have hN2 := sm2 _ _ (sm1 _ _ hN)
    refine ⟨_, rfl, _, rfl, np, _, 0, _, rfl, rfl, SqL.of hN2, atI_nat (show (((n : Int) :: (m : Int) :: ps.map Int.ofNat).map V.int)[0]? = some (.int (n : Int)) from rfl), _, rfl, np, _, 1, _, rfl, rfl, SqL.of hN2, atI_nat (show (((n : Int) :: (m : Int) :: ps.map Int.ofNat).map V.int)[1]? = some (.int (m : Int)) from rfl), _, rfl, 2, rfl, np, _, rfl, SqL.of hN2, fun q3 hq3 => ?_⟩
    rw [show (some (2 : Int)) = some ((2 : Nat) : Int) from rfl, cut_from]
    have e4 : (((n : Int) :: (m : Int) :: ps.map Int.ofNat).map V.int).drop 2 = nv ps := rfl
    rw [e4]
    refine ⟨mq, q3, ds, n, m, ps, rfl, Same.new hq3 _ _ hm, upd_same, fun H4 sm4 => ?_⟩
    have smH := Same.trans' (Same.trans' (Same.trans' sm1 sm2) (Same.new (o := .lst (nv ps)) hq3)) sm4
    have e9 : Vbhoak.onHouse h (.prove n m ps) = (h, [0, Vbhoak.bit (Vbhoak.proves ds n m ps)]) := by
      unfold Vbhoak.onHouse
      rw [hD]
    refine ⟨_, rfl, _, rfl, ?_⟩
    cases ep : Vbhoak.proves ds n m ps with
    | true =>
      rw [ep] at e9
      exact iteT ⟨(by show 2 <= sizeLine; decide), fun q hq => end_q k hH smH hq e9 upd_same⟩
    | false =>
      rw [ep] at e9
      exact iteF ⟨(by show 2 <= sizeLine; decide), fun q hq => end_q k hH smH hq e9 upd_same⟩
end
def diffTo (h : Vbhoak.House) (i : Nat) : List Int := ((h.rooms.zipIdx.take i).filter fun x => Vbhoak.differs x.1 != 0).flatMap fun x => [(x.2 : Int), (Vbhoak.differs x.1 : Int)]
theorem diffTo_succ {h : Vbhoak.House} {i : Nat} {r : Vbhoak.Room} (e : h.rooms[i]? = some r) : diffTo h (i + 1) = diffTo h i ++ if Vbhoak.differs r = 0 then [] else [(i : Int), (Vbhoak.differs r : Int)] := by
  unfold diffTo
  rw [M.take_zip e, List.filter_append, List.flatMap_append]
  congr 1
  by_cases z : Vbhoak.differs r = 0 <;> simp [z]
theorem diffTo_len (h : Vbhoak.House) (i : Nat) : (diffTo h i).length <= 2 * i := by
  unfold diffTo
  rw [flat2_len]
  have h1 := List.length_filter_le (fun x : Vbhoak.Room × Nat => Vbhoak.differs x.1 != 0) (h.rooms.zipIdx.take i)
  rw [List.length_take] at h1
  omega
theorem names_at {K : PySem.W.Frag} {mg : Str -> Option Value} {a : Ad} (T : Txt K mg a) : KT K a.mCODE_NAMES [.str "VD", .str "VC", .str "VI", .str "OD", .str "OC", .str "OO"] := by
  obtain ⟨xs, h1, h2⟩ := T.m_CODE_NAMES
  obtain ⟨_, _, rfl, rfl, _, _, rfl, rfl, _, _, rfl, rfl, _, _, rfl, rfl, _, _, rfl, rfl, _, _, rfl, rfl, rfl⟩ := h2
  exact h1
section
variable {P : Program} {w : World} {K : PySem.W.Frag} {mg : Str -> Option Value} {base : Heap} {a : Ad}
theorem ok_diffs (T : Txt K mg a) : COk P w K mg base 2 "differences_told" (spOp a fun h ns c => ns = [] /\ c = .differences) := by
  have sc := sc_differences_told
  have C_difference_about := ok_diff (P := P) (w := w) (base := base) T
  have C_row_of := ok_row (P := P) (w := w) (base := base) T
  refine T.d_differences_told.ok sc (fun vs H Q E h => ?_) (fun f cdv A outer s H vs Q E hr h => ?_)
  . obtain ⟨hp, l, as, h, np, ns, c, rfl, _⟩ := h; rfl
  . obtain ⟨hp, l, as, h, np, ns, c, rfl, hH, hg, hN, ⟨rfl, rfl⟩, k⟩ := h
    refine ⟨_, (pss_cons (ps_set (i := 2) sc.nd rfl (Or.inl rfl) (pe_lst pa_nil))
      (pss_cons (ps_for PassesOwn.never rfl (pi_enum rfl T.b_enumerate (pa_cons (pe_fld (pv 0) rfl) pa_nil)) (pg_tup rfl (pgs_cons (pg_name (i := 3) sc.nd rfl (Or.inl rfl)) (pgs_cons (pg_name (i := 4) sc.nd rfl (Or.inl rfl)) pgs_nil))) (pss_cons (ps_set (i := 5) sc.nd rfl (Or.inl rfl) (pe_callN C_difference_about hr rfl (pa_cons (pv 4) pa_nil)))
      (pss_one (ps_if (pt_cmpR op_ne (pv 5) (pe_gint rfl T.g_NO_DIFFERENCE) (nomark _)) (pss_one (ps_expr (pe_bm PySem.F.plainAttrs_list PySem.F.slot_list_extend PySem.F.type_list_extend mt_extend (pv 2) (pa_cons (pe_lst (pa_cons (pv 3) (pa_cons (pv 5) pa_nil))) pa_nil)))) pss_nil))))
      (pss_one (ps_ret (pe_op op_cat (pe_lst (pa_cons (pe_gint rfl T.g_ACCEPTED) pa_nil)) (pe_callN C_row_of hr rfl (pa_cons (pv 2) pa_nil))))))), ?_⟩
    refine ⟨Nat.zero_le _, fun q hq => ?_⟩
    have sm0 : Same H (upd H q (.lst [])) := Same.new hq
    have hH0 := hH.same sm0
    refine for_e (ma_cons (mono_fld (mono_var 0)) ma_nil) (T.rd_rooms hH0 rfl ⟨l, as.map V.ref, fun i σ H' => ∃ x3 x4 x5 : Option V, σ = [some (.ref hp), some (.ref np), some (.ref q), x3, x4, x5] /\ Same H H' /\ H' q = some (.lst ((diffTo h i).map V.int)), rfl, SqL.of hH0.lst, ?_, ?_, ?_, ?_⟩)
    . exact ⟨none, none, none, rfl, sm0, upd_same⟩
    . rintro i σ H' _ ⟨_, _, _, _, sm, _⟩
      exact SqL.of (sm _ _ hH.lst)
    . rintro i x σ H' T' hx ⟨x3, x4, x5, rfl, sm, tA⟩ hT'
      obtain ⟨p, hp1, rfl⟩ := of_refs hx
      have hil : i < h.rooms.length := by rw [<- hH.len]; exact (List.getElem?_eq_some_iff.mp hp1).1
      obtain ⟨r, hr1⟩ : ∃ r, h.rooms[i]? = some r := ⟨_, List.getElem?_eq_getElem hil⟩
      have sm1 : Same H (upd H' T' (.tup [.int (i : Nat), .ref p])) := Same.trans' sm (Same.new hT')
      have hH1 := hH.same sm1
      have hR := hH1.at_ i p r hp1 hr1
      refine ⟨T', _, rfl, SqT.of upd_same, rfl, _, _, rfl, _, _, rfl, rfl, ?_⟩
      refine ⟨_, rfl, p, r, rfl, hR, trivial, ?_⟩
      have e0 := diffTo_succ hr1
      refine ⟨_, rfl, rfl, _, rfl, ite2 (fun c => ?_) (fun c => ?_)⟩
      . have c : ¬ Vbhoak.differs r = 0 := by simpa using c
        rw [if_neg c] at e0
        have e1 := Same.new (o := .tup [.int (i : Nat), .ref p]) hT' _ _ tA
        refine ⟨_, rfl, .inl ⟨rfl, _, SqL.of e1⟩, _, rfl, _, rfl, (by show 2 <= sizeLine; decide), fun z hz => ⟨q, z, _, _, rfl, rfl, Same.new hz _ _ e1, upd_same, ?_, ?_⟩⟩
        . have := diffTo_len h i
          have := hg.len
          rw [List.length_map, sizeLine_eq]; show _ + 2 <= _; omega
        . refine ⟨_, _, _, rfl, fun b o eb => ?_, ?_⟩
          . rw [upd_ne (ne_of_none eb hq)]; exact Same.new hz _ _ (sm1 _ _ eb)
          . rw [upd_same, e0, List.map_append]; rfl
      . have c : Vbhoak.differs r = 0 := by simpa using c
        rw [if_pos c, List.append_nil] at e0
        exact ⟨_, _, _, rfl, sm1, by rw [e0]; exact Same.new hT' _ _ tA⟩
    . rintro σ H' ⟨_, _, _, rfl, sm, tA⟩
      have hl := diffTo_len h h.rooms.length
      have := hg.len
      rw [List.length_map, hH.len] at tA
      refine ⟨(by show 1 <= sizeLine; decide), fun q1 h1 => ⟨_, rfl, q, _, rfl, Same.new h1 _ _ tA, by omega, fun H4 q2 sm4 hq2 => ?_⟩⟩
      refine ⟨q1, q2, _, _, rfl, rfl, sm4 _ _ upd_same, hq2, ?_, fun q9 hq9 => ?_⟩
      . rw [List.length_map, row_len, sizeLine_eq]; show 1 + _ <= _; omega
      . have e9 : Vbhoak.onHouse h .differences = (h, 0 :: Vbhoak.row (diffTo h h.rooms.length)) := by
          unfold Vbhoak.onHouse diffTo
          rw [M.take_all]
        refine end_q k hH (Same.trans' (Same.trans' sm (Same.new h1)) sm4) hq9 e9 ?_
        rw [upd_same]; rfl
theorem ok_resolve (T : Txt K mg a) : COk P w K mg base 3 "difference_resolved" (spOp a fun h ns c => ∃ (n : Nat) (b : Bool), ns = [(n : Int), if b = true then 1 else 0] /\ n < h.rooms.length /\ c = .resolve n b) := by
  have sc := sc_difference_resolved
  have C_difference_about := ok_diff (P := P) (w := w) (base := base) T
  have C_make_vacated := ok_vacated (P := P) (w := w) (base := base) T
  refine T.d_difference_resolved.ok sc (fun vs H Q E h => ?_) (fun f cdv A outer s H vs Q E hr h => ?_)
  . obtain ⟨hp, l, as, h, np, ns, c, rfl, _⟩ := h; rfl
  . obtain ⟨hp, l, as, h, np, ns, c, rfl, hH, hg, hN, ⟨n, b, rfl, hn, rfl⟩, k⟩ := h
    obtain ⟨p, r, e1, e2, hR, hm⟩ := hH.room hn
    have gr : GoodR r := hg.rooms r (List.mem_of_getElem? e2)
    refine ⟨_, (pss_cons (ps_set (i := 2) sc.nd rfl (Or.inl rfl) (pe_ix ix_list (pe_fld (pv 0) rfl) (pe_ix ix_list (pv 1) pe_int (fun _ _ => rfl)) (fun _ _ => rfl)))
      (pss_cons (ps_set (i := 3) sc.nd rfl (Or.inl rfl) (pe_cmpR op_eq (pe_ix ix_list (pv 1) pe_int (fun _ _ => rfl)) pe_int (nomark _)))
      (pss_cons (ps_if (pt_cmpR op_eq (pe_callN C_difference_about (hr.mono (by decide)) rfl (pa_cons (pv 2) pa_nil)) (pe_gint rfl T.g_NO_DIFFERENCE) (nomark _)) (pss_one (ps_ret (pe_lst (pa_cons (pe_gint rfl T.g_ROOM_NOT_AS_TOLD) pa_nil)))) pss_nil)
      (pss_cut (ps_if (PW.pt (pw_and (pt_val (pv 3)) (pw_and1 (pt_val (pe_fld (pv 2) rfl))))) (pss_one (ps_expr (pe_callN C_make_vacated hr rfl (pa_cons (pv 2) pa_nil)))) (pss_one (ps_if (pt_val (pv 3)) (pss_cons (ps_fld (pv 2) pe_bl rfl)
      (pss_one (ps_fld (pv 2) pe_int rfl))) pss_nil)))
      (pss_cons (ps_fld (pv 2) (pe_gint rfl T.g_NOTHING_SEEN) rfl)
      (pss_one (ps_ret (pe_lst (pa_cons (pe_gint rfl T.g_ACCEPTED) pa_nil))))))))), ?_⟩
    dsimp only [tSeq, tIfS, tB, tTest, tOp, tRet, tIf, tAnd, tNot, tOr, tNext, tAsg, gName, tDrop, tCall, tCons, tNil, tLst]
    refine T.rd_room 0 hH rfl rfl hN rfl e1 ?_
    refine ⟨_, rfl, np, _, 1, _, rfl, rfl, SqL.of hN, rfl, (by cases b <;> rfl), ?_⟩
    have eb : decide (V.int (if b = true then 1 else 0) = V.int 1) = b := by cases b <;> decide
    dsimp only [tC]
    rw [eb]
    refine ⟨_, rfl, p, r, rfl, hR, trivial, rfl, _, rfl, ite2 (fun c => ?_) (fun c => ?_)⟩
    . have c : Vbhoak.differs r = 0 := by simpa using c
      exact end_at k hH (ChS.refl _ _) (onRoom_no (r := r) e2 (by simp [c])) (by decide)
    . have c : ¬ Vbhoak.differs r = 0 := by simpa using c
      have ns : r.shut = false := by
        cases z : r.shut with
        | false => rfl
        | true =>
          refine absurd ?_ c
          unfold Vbhoak.differs
          rw [(gr.shut z).2.2]
      let r9 : Vbhoak.Room := if b = false then ⟨r.taken, r.clean, r.shut, r.due, r.extra, none, r.asked⟩ else if r.taken = true then Vbhoak.vacated r else ⟨true, r.clean, false, 0, r.extra, none, r.asked⟩
      refine ⟨fun σ' H' => σ' = [some (.ref hp), some (.ref np), some (.ref p), some (.bl b)] /\ ∃ r' : Vbhoak.Room, RoomAt a H' p r' /\ Ch H H' p /\ { r' with said := none } = r9, ?_, ?_⟩
      . cases b with
        | true =>
          refine ⟨_, rfl, _, rfl, iteT (T.rd_taken hR rfl ⟨_, rfl, ite2 (fun c2 => ?_) (fun c2 => ?_)⟩)⟩
          . refine ⟨_, rfl, p, r, rfl, hR, fun H1 h1' c1 => ⟨rfl, _, h1', c1, ?_⟩⟩
            have c2 : r.taken = true := c2
            show _ = (if true = false then _ else if r.taken = true then Vbhoak.vacated r else _)
            rw [if_neg (by decide), if_pos c2]; rfl
          . refine ⟨_, rfl, _, rfl, iteT ?_⟩
            refine T.st_taken rfl (mono_c _) ⟨true, rfl, hR, fun H1 h1 c1 => ?_⟩
            refine T.st_due rfl (mono_c _) ⟨0, rfl, h1, fun H2 h2 c2' => ⟨rfl, _, h2, c1.trans c2', ?_⟩⟩
            have c2 : ¬ r.taken = true := c2
            show _ = (if true = false then _ else if r.taken = true then Vbhoak.vacated r else _)
            rw [if_neg (by decide), if_neg c2, <- ns]
        | false =>
          refine ⟨_, rfl, _, rfl, iteF (iteF ⟨_, rfl, _, rfl, iteF ⟨rfl, r, hR, Ch.refl _ _, rfl⟩⟩)⟩
      . rintro σ' H' ⟨rfl, r', h', c', e'⟩
        refine T.st_seen rfl (mono_c _) ⟨none, rfl, h', fun H1 h1 c1 => ?_⟩
        have h1 : RoomAt a H1 p { r' with said := none } := h1
        rw [e'] at h1
        exact end_at k (hH.set e1 h1 (c'.trans c1) hn) ((c'.trans c1).toS (List.mem_cons_of_mem _ hm)) (onRoom_yes (r := r) e2 (by simpa using c)) (by decide)
theorem ok_room (T : Txt K mg a) : COk P w K mg base 2 "room_told" (spOp a fun h ns c => ∃ n : Nat, ns = [(n : Int)] /\ n < h.rooms.length /\ c = .room n) := by
  have sc := sc_room_told
  have C_code_of := ok_code (P := P) (w := w) (base := base) T
  have C_minutes_of := ok_minutes (P := P) (w := w) (base := base) T
  refine T.d_room_told.ok sc (fun vs H Q E h => ?_) (fun f cdv A outer s H vs Q E hr h => ?_)
  . obtain ⟨hp, l, as, h, np, ns, c, rfl, _⟩ := h; rfl
  . obtain ⟨hp, l, as, h, np, ns, c, rfl, hH, hg, hN, ⟨n, rfl, hn, rfl⟩, k⟩ := h
    obtain ⟨p, r, e1, e2, hR, hm⟩ := hH.room hn
    have gr : GoodR r := hg.rooms r (List.mem_of_getElem? e2)
    refine ⟨_, (pss_cons (ps_set (i := 2) sc.nd rfl (Or.inl rfl) (pe_ix ix_list (pe_fld (pv 0) rfl) (pe_ix ix_list (pv 1) pe_int (fun _ _ => rfl)) (fun _ _ => rfl)))
      (pss_one (ps_ret (pe_lst (pa_cons (pe_gint rfl T.g_ACCEPTED) (pa_cons (pe_callN C_code_of hr rfl (pa_cons (pv 2) pa_nil)) (pa_cons (pe_fld (pv 2) rfl) (pa_cons (pe_fld (pv 2) rfl) (pa_cons (pe_fld (pv 2) rfl) (pa_cons (pe_fld (pv 2) rfl) (pa_cons (pe_callN C_minutes_of hr rfl (pa_cons (pv 0) (pa_cons (pv 2) pa_nil))) pa_nil))))))))))), ?_⟩
    dsimp only [tSeq, tIfS, tB, tTest, tOp, tRet, tIf, tAnd, tNot, tOr, tNext, tC, tAsg, gName, tDrop, tCall, tCons, tNil, tLst]
    refine T.rd_room 0 hH rfl rfl hN rfl e1 ?_
    refine ⟨_, rfl, p, r, rfl, hR, gr.clean, T.rd_due hR rfl (T.rd_extra hR rfl (T.rd_seen hR rfl (T.rd_today hR rfl ⟨_, rfl, _, rfl, hp, l, as, h, p, r, rfl, hH, hR, ?_⟩)))⟩
    have e9 : Vbhoak.onHouse h (.room n) = (h, [0, (Vbhoak.codeOf r : Int), (r.due : Int), (r.extra : Int), sd r.said, (r.asked : Int), (Vbhoak.minutesOf h r : Int)]) := by
      unfold Vbhoak.onHouse
      dsimp only
      unfold Vbhoak.roomAt
      rw [e2]
      obtain ⟨tk, cl, sh, du, ex, sa, ak⟩ := r
      match sa with
      | none => rfl
      | some true => rfl
      | some false => rfl
    exact end_at k hH (ChS.refl _ _) e9 (by show 7 <= 1000; decide)
theorem ok_count (T : Txt K mg a) : COk P w K mg base 2 "codes_counted" (spOp a fun h ns c => ns = [] /\ c = .count) := by
  have sc := sc_codes_counted
  have C_code_of := ok_code (P := P) (w := w) (base := base) T
  have C_row_of := ok_row (P := P) (w := w) (base := base) T
  refine T.d_codes_counted.ok sc (fun vs H Q E h => ?_) (fun f cdv A outer s H vs Q E hr h => ?_)
  . obtain ⟨hp, l, as, h, np, ns, c, rfl, _⟩ := h; rfl
  . obtain ⟨hp, l, as, h, np, ns, c, rfl, hH, hg, hN, ⟨rfl, rfl⟩, k⟩ := h
    refine ⟨_, (pss_cons (ps_set (i := 2) sc.nd rfl (Or.inr rfl) (pe_lc rfl sc.nd (pi_list (pe_fld (pv 0) rfl)) (blkOk_by (own := [("room", 4)]) (by kernel_rfl)) (fun _ _ _ _ _ => (pg_name (i := 4) sc.nd rfl (Or.inl rfl))) (fun _ _ _ _ _ => pts_nil) (fun _ _ _ _ _ => (pe_callN C_code_of hr rfl (pa_cons (pv 4) pa_nil)))))
      (pss_cons (ps_setLc (te := tBM K "list" (rCountI K) (tVar 2) (tCons (tVar 5) tNil)) (i := 3) rfl sc.nd rfl rfl (sw_true rfl rfl rfl rfl) (pi_range1 rfl T.b_range (pa_cons (pe_callB call_len_seq (by rfl) T.b_len PySem.boot_len (pa_cons (pe_gref rfl T.r_CODE_NAMES) pa_nil)) pa_nil)) (blkOk_by (own := [("code", 5)]) (by kernel_rfl)) (fun _ _ _ _ _ => (pg_name (i := 5) sc.nd rfl (Or.inl rfl))) (fun _ _ _ _ _ => pts_nil) (fun _ _ _ _ _ => (pe_bm PySem.F.plainAttrs_list PySem.F.slot_list_count PySem.F.type_list_count mt_countI (pv 2) (pa_cons (pv 5) pa_nil))))
      (pss_one (ps_ret (pe_op op_cat (pe_lst (pa_cons (pe_gint rfl T.g_ACCEPTED) (pa_cons (pe_fld (pv 0) rfl) pa_nil))) (pe_callN C_row_of hr rfl (pa_cons (pv 3) pa_nil))))))), ?_⟩
    let cs : List Int := h.rooms.map fun r => (Vbhoak.codeOf r : Int)
    dsimp only [tSeq, tAsg, gName]
    refine lc_l (mono_fld (mono_var 0)) (T.rd_rooms hH rfl ⟨l, as.map V.ref, rfl, SqL.of hH.lst, fun D hD => ⟨fun i H' => Same H H' /\ H' D = some (.lst ((cs.take i).map V.int)), ⟨Same.new hD, upd_same⟩, fun i H' _ ⟨sm, _⟩ => SqL.of (sm _ _ hH.lst), ?_, ?_⟩⟩)
    . rintro i x H' hx ⟨sm, hd⟩
      obtain ⟨p, hp1, rfl⟩ := of_refs hx
      have hil : i < h.rooms.length := by rw [<- hH.len]; exact (List.getElem?_eq_some_iff.mp hp1).1
      obtain ⟨r, hr1⟩ : ∃ r, h.rooms[i]? = some r := ⟨_, List.getElem?_eq_getElem hil⟩
      have hR := (hH.same sm).at_ i p r hp1 hr1
      have gr : GoodR r := hg.rooms r (List.mem_of_getElem? hr1)
      dsimp only [gName, tYes]
      refine ⟨rfl, iteT ⟨_, rfl, p, r, rfl, hR, gr.clean, _, hd, ?_, fun b o eb => ?_, ?_⟩⟩
      . have := hg.len
        rw [List.length_map, List.length_take, List.length_map, sizeLine_eq]; omega
      . rw [upd_ne (ne_of_none eb hD)]; exact sm _ _ eb
      . have e : cs[i]? = some (Vbhoak.codeOf r : Int) := by rw [List.getElem?_map, hr1]; rfl
        rw [upd_same, List.take_add_one, e, List.map_append]; rfl
    . rintro H1 ⟨sm1, hcs⟩
      rw [List.length_map, hH.len, show h.rooms.length = cs.length from (List.length_map ..).symm, List.take_length] at hcs
      refine lc_r (ma_cons (mono_len (ma_cons (mono_c _) ma_nil)) ma_nil) ⟨a.mCODE_NAMES, _, rfl, .inr (names_at T).sq, 6, rfl, by decide, fun D2 hD2 => ⟨fun i H' => Same H1 H' /\ H' D2 = some (.lst (((List.range i).map fun (c : Nat) => (cs.count (c : Int) : Int)).map V.int)), ⟨Same.new hD2, upd_same⟩, ?_, ?_⟩⟩
      . rintro i H' hi ⟨sm, hd⟩
        dsimp only [gName, tYes]
        refine ⟨rfl, iteT ⟨_, rfl, .inl ⟨rfl, _, SqL.of (sm _ _ hcs)⟩, _, rfl, D, cs, (i : Int), rfl, rfl, SqL.of (sm _ _ hcs), _, hd, ?_, fun b o eb => ?_, ?_⟩⟩
        . rw [List.length_map, List.length_map, List.length_range, sizeLine_eq]; omega
        . rw [upd_ne (ne_of_none eb hD2)]; exact sm _ _ eb
        . rw [upd_same, List.range_succ, List.map_append, List.map_append]; rfl
      . rintro H2 ⟨sm2, hd⟩
        dsimp only [tSeq, tIfS, tB, tTest, tOp, tRet, tIf, tAnd, tNot, tOr, tNext, tC, tAsg, gName, tDrop, tCall, tCons, tNil, tLst]
        have sm := Same.trans' sm1 sm2
        refine T.rd_day (hH.same sm) rfl ⟨(by show 2 <= sizeLine; decide), fun q1 h1 => ⟨_, rfl, D2, _, rfl, Same.new h1 _ _ hd, by rw [List.length_map, List.length_range]; decide, fun H4 q2 sm4 hq2 => ?_⟩⟩
        refine ⟨q1, q2, _, _, rfl, rfl, sm4 _ _ upd_same, hq2, ?_, fun q9 hq9 => ?_⟩
        . rw [List.length_map, row_len, List.length_map, List.length_range, sizeLine_eq]; show 2 + _ <= _; omega
        . have e9 : Vbhoak.onHouse h .count = (h, 0 :: (h.day : Int) :: Vbhoak.row ((List.range 6).map fun (c : Nat) => (cs.count (c : Int) : Int))) := by
            unfold Vbhoak.onHouse
            dsimp only
            congr 5
            funext c
            rw [M.count_filter]
          refine end_q k hH (Same.trans' (Same.trans' sm (Same.new h1)) sm4) hq9 e9 ?_
          rw [upd_same]; rfl
end
abbrev dn (ms : List Nat) : List PyData := ms.map fun (n : Nat) => PyData.int (n : Int)
theorem eqv_dn : ∀ x y : List Nat, PyData.eqvAll (dn x) (dn y) = decide (x = y)
  | [], [] => by simp [PyData.eqvAll]
  | [], b :: y => by simp [PyData.eqvAll]
  | a :: x, [] => by simp [PyData.eqvAll]
  | a :: x, b :: y => by
    show (PyData.eqv (.int (a : Int)) (.int (b : Int)) && PyData.eqvAll (dn x) (dn y)) = _
    rw [eqv_dn x y]
    simp only [PyData.eqv]
    by_cases h1 : a = b
    . subst h1
      by_cases h2 : x = y <;> simp [h2]
    . have h3 : ((a : Int) == (b : Int)) = false := beq_eq_false_iff_ne.mpr (by omega)
      rw [h3]
      simp [h1]
theorem eqv_nats (x y : List Nat) : PyData.eqv (.list (dn x)) (.list (dn y)) = decide (x = y) := by
  rw [<- eqv_dn]
  simp only [PyData.eqv]
theorem lay_dn : ∀ x : List Nat, PyData.canLayAll0 (dn x) = true
  | [] => by simp [PyData.canLayAll0]
  | a :: x => by
    have := lay_dn x
    show PyData.canLayAll0 (PyData.int (a : Int) :: dn x) = true
    simp only [PyData.canLayAll0, PyData.canLay0, Bool.true_and]
    exact this
theorem depth_dn : ∀ x : List Nat, PyData.depthAll (dn x) = 0
  | [] => by simp [PyData.depthAll]
  | a :: x => by
    have := depth_dn x
    show PyData.depthAll (PyData.int (a : Int) :: dn x) = 0
    simp only [PyData.depthAll, PyData.depth]
    rw [this]; rfl
theorem shaped_nats (x : List Nat) : SeqAt.shaped (.list (dn x)) = true := by
  have h1 : (PyData.list (dn x)).canLay0 = true := by simp only [PyData.canLay0]; exact lay_dn x
  have h2 : (PyData.list (dn x)).depth = 1 := by simp only [PyData.depth]; rw [depth_dn]
  unfold SeqAt.shaped
  rw [h1, h2]; rfl
theorem dp_all {K : PySem.W.Frag} {H : Hp} : ∀ x : List Nat, DpAll K H (nv x) (dn x)
  | [] => .nil
  | a :: x => .cons (.int _) (dp_all x)
theorem dp_nats {K : PySem.W.Frag} {H : Hp} {p : Addr} {x : List Nat} (h : SqL K H p (nv x)) : Dp K H (.ref p) (.list (dn x)) := .lst h (dp_all x)
abbrev nmS : List Str := ["VD", "VC", "VI", "OD", "OC", "OO"]
theorem nm_codes : nmS.map (fun z => z.cps.toList) = Vbhoak.CODES := by rw [M.codes_eq]; decide +kernel
theorem nm_at {c : Nat} {z : Str} (h : nmS[c]? = some z) : Vbhoak.CODES[c]? = some z.cps.toList := by rw [<- nm_codes, List.getElem?_map, h]; rfl
theorem of_nm {c : Nat} {v : V} (h : ([.str "VD", .str "VC", .str "VI", .str "OD", .str "OC", .str "OO"] : List V)[c]? = some v) : ∃ z, nmS[c]? = some z /\ v = .str z := by
  have h : (nmS.map V.str)[c]? = some v := h
  rw [List.getElem?_map] at h
  cases e : nmS[c]? with
  | none => rw [e] at h; cases h
  | some p => rw [e] at h; exact ⟨p, rfl, (Option.some.inj h).symm⟩
theorem code_le {r : Vbhoak.Room} (h : r.clean <= 2) : Vbhoak.codeOf r <= 5 := by
  unfold Vbhoak.codeOf
  repeat' split
  all_goals omega
def nameOf (r : Vbhoak.Room) : List Nat := Vbhoak.CODES.getD (Vbhoak.codeOf r) []
theorem name_at {r : Vbhoak.Room} (h : r.clean <= 2) : ∃ z, nmS[Vbhoak.codeOf r]? = some z /\ nameOf r = z.cps.toList /\ (nameOf r).length = 2 := by
  have h1 := code_le h
  have h2 : Vbhoak.codeOf r < nmS.length := by show _ < 6; omega
  refine ⟨_, List.getElem?_eq_getElem h2, ?_, ?_⟩
  . unfold nameOf
    rw [List.getD_eq_getElem?_getD, nm_at (List.getElem?_eq_getElem h2)]; rfl
  . unfold nameOf
    rw [List.getD_eq_getElem?_getD, nm_at (List.getElem?_eq_getElem h2)]
    exact M.codes_two (List.mem_of_getElem? (nm_at (List.getElem?_eq_getElem h2)))
def spLet : Sp := fun vs H Q _ => ∃ z : Str, vs = [.str z] /\ z.cps.size <= 900 /\ ∀ H' q, Same H H' -> H' q = some (.lst (nv z.cps.toList)) -> Q (.ref q) H'
def spText (a : Ad) : Sp := fun vs H Q _ => ∃ (hp l : Addr) (as : List Addr) (h : Vbhoak.House), vs = [.ref l] /\ HouseAt a H hp l as h /\ Good h /\ ∀ H' q, Same H H' -> H' q = some (.lst (nv (Vbhoak.boardOf h))) -> Q (.ref q) H'
def codeV : Option Nat -> V
  | none => .non
  | some c => .int (c : Int)
def spNamed : Sp := fun vs H Q _ => ∃ (p : Addr) (b : List Nat), vs = [.ref p] /\ H p = some (.lst (nv b)) /\ ∀ H', Same H H' -> Q (codeV (M.named b)) H'
def CodesV (H : Hp) (v : V) : Option (List Nat) -> Prop
  | none => v = .non
  | some cs => ∃ q, v = .ref q /\ H q = some (.lst (nv cs))
def spCodes : Sp := fun vs H Q _ => ∃ (p : Addr) (b : List Nat), vs = [.ref p] /\ H p = some (.lst (nv b)) /\ b.length <= 1000 /\ ∀ H' v, Same H H' -> CodesV H' v (Vbhoak.codesIn (b.length + 1) b) -> Q v H'
section
variable {P : Program} {w : World} {K : PySem.W.Frag} {mg : Str -> Option Value} {base : Heap} {a : Ad}
theorem ok_let (T : Txt K mg a) : COk P w K mg base 1 "letters_of" spLet := by
  have sc := sc_letters_of
  refine T.d_letters_of.ok sc (fun vs H Q E h => ?_) (fun f cdv A outer s H vs Q E hr h => ?_)
  . obtain ⟨z, rfl, _⟩ := h; rfl
  . obtain ⟨z, rfl, hz, k⟩ := h
    refine ⟨_, (pss_one (ps_ret (pe_lc rfl sc.nd (pi_str (pv 0)) (blkOk_by (own := [("letter", 1)]) (by kernel_rfl)) (fun _ _ _ _ _ => (pg_name (i := 1) sc.nd rfl (Or.inl rfl))) (fun _ _ _ _ _ => pts_nil) (fun _ _ _ _ _ => (pe_callB call_ord (by rfl) T.b_ord boot_ord (pa_cons (pv 1) pa_nil)))))), ?_⟩
    refine lc_s (mono_var 0) ⟨_, rfl, z, rfl, fun D hD => ⟨fun i H' => Same H H' /\ H' D = some (.lst (nv (z.cps.toList.take i))), ⟨Same.new hD, upd_same⟩, ?_, ?_⟩⟩
    . rintro i c H' hc ⟨sm, hd⟩
      dsimp only [gName, tYes]
      refine ⟨rfl, iteT ⟨_, rfl, _, rfl, rfl, _, hd, ?_, fun b o eb => ?_, ?_⟩⟩
      . rw [nv_len, List.length_take, Array.length_toList, sizeLine_eq]; omega
      . rw [upd_ne (ne_of_none eb hD)]; exact sm _ _ eb
      . have e : z.cps.toList[i]? = some c := by rw [Array.getElem?_toList]; exact hc
        rw [upd_same, List.take_add_one, e]
        show some (HO.lst (nv (z.cps.toList.take i) ++ [V.int (c : Int)])) = _
        rw [nv_snoc]; rfl
    . rintro H' ⟨sm, hd⟩
      refine k H' D sm ?_
      rw [hd, <- Array.length_toList, List.take_length]
theorem ok_text (T : Txt K mg a) : COk P w K mg base 2 "text_of" (spText a) := by
  have sc := sc_text_of
  have C_letters_of := ok_let (P := P) (w := w) (base := base) T
  have C_code_of := ok_code (P := P) (w := w) (base := base) T
  refine T.d_text_of.ok sc (fun vs H Q E h => ?_) (fun f cdv A outer s H vs Q E hr h => ?_)
  . obtain ⟨hp, l, as, h, rfl, _⟩ := h; rfl
  . obtain ⟨hp, l, as, h, rfl, hH, hg, k⟩ := h
    refine ⟨_, (pss_cons (ps_set (i := 1) sc.nd rfl (Or.inl rfl) (pe_lst pa_nil))
      (pss_cons (ps_for PassesOwn.never rfl (pi_list (pv 0)) (pg_name (i := 2) sc.nd rfl (Or.inl rfl)) (pss_cut (ps_if (pt_cmpR op_gt (pe_callB call_len_seq (by rfl) T.b_len PySem.boot_len (pa_cons (pv 1) pa_nil)) pe_int (nomark _)) (pss_one (ps_expr (pe_bm PySem.F.plainAttrs_list PySem.F.slot_list_append PySem.F.type_list_append mt_append (pv 1) (pa_cons (pe_gint rfl T.g_BLANK) pa_nil)))) pss_nil)
      (pss_one (ps_expr (pe_bm PySem.F.plainAttrs_list PySem.F.slot_list_extend PySem.F.type_list_extend mt_extend (pv 1) (pa_cons (pe_callN C_letters_of hr rfl (pa_cons (pe_ix ix_tup (pe_gref rfl T.r_CODE_NAMES) (pe_callN C_code_of hr rfl (pa_cons (pv 2) pa_nil)) (fun _ _ => rfl)) pa_nil)) pa_nil))))))
      (pss_one (ps_ret (pv 1))))), ?_⟩
    have two : ∀ i, ∀ x ∈ (h.rooms.take i).map nameOf, x.length = 2 := fun i x hx => by
      obtain ⟨r, hr1, rfl⟩ := List.mem_map.mp hx
      obtain ⟨_, _, _, e⟩ := name_at (hg.rooms r (List.mem_of_mem_take hr1)).clean
      exact e
    have len : ∀ i, (Vbhoak.joined [32] ((h.rooms.take i).map nameOf)).length <= 90 := fun i => by
      have z := M.joined_len _ (two i)
      rw [List.length_map, List.length_take] at z
      have := hg.len
      omega
    refine ⟨Nat.zero_le _, fun q hq => ?_⟩
    have sm0 : Same H (upd H q (.lst [])) := Same.new hq
    refine for_l (mono_var 0) ⟨_, rfl, l, as.map V.ref, fun i σ H' => ∃ x2 : Option V, σ = [some (.ref l), some (.ref q), x2] /\ Same H H' /\ H' q = some (.lst (nv (Vbhoak.joined [32] ((h.rooms.take i).map nameOf)))), rfl, SqL.of (sm0 _ _ hH.lst), ?_, ?_, ?_, ?_⟩
    . exact ⟨none, rfl, sm0, upd_same⟩
    . rintro i σ H' _ ⟨_, _, sm, _⟩
      exact SqL.of (sm _ _ hH.lst)
    . rintro i x σ H' hx ⟨x2, rfl, sm, tA⟩
      obtain ⟨p, hp1, rfl⟩ := of_refs hx
      have hil : i < h.rooms.length := by rw [<- hH.len]; exact (List.getElem?_eq_some_iff.mp hp1).1
      obtain ⟨r, hr1⟩ : ∃ r, h.rooms[i]? = some r := ⟨_, List.getElem?_eq_getElem hil⟩
      have gr : GoodR r := hg.rooms r (List.mem_of_getElem? hr1)
      obtain ⟨z, hz1, hz2, hz3⟩ := name_at gr.clean
      have e0 : Vbhoak.joined [32] ((h.rooms.take (i + 1)).map nameOf) = (if (h.rooms.take i).map nameOf = [] then [] else Vbhoak.joined [32] ((h.rooms.take i).map nameOf) ++ [32]) ++ nameOf r := by
        rw [List.take_add_one, hr1, List.map_append]
        show Vbhoak.joined [32] ((h.rooms.take i).map nameOf ++ [nameOf r]) = _
        rw [M.joined_snoc]
        split <;> simp
      have hl := len i
      refine ⟨fun σ' H2 => σ' = [some (.ref l), some (.ref q), some (.ref p)] /\ Same H H2 /\ H2 q = some (.lst (nv (if (h.rooms.take i).map nameOf = [] then [] else Vbhoak.joined [32] ((h.rooms.take i).map nameOf) ++ [32]))), ?_, ?_⟩
      . have lenV : ((nv (Vbhoak.joined [32] ((h.rooms.take i).map nameOf))).length : Int) = ((Vbhoak.joined [32] ((h.rooms.take i).map nameOf)).length : Int) := by rw [nv_len]
        refine ⟨_, rfl, q, _, rfl, .inl (SqL.of tA), _, _, rfl, rfl, _, rfl, ite2 (fun c => ?_) (fun c => ?_)⟩
        . have ne : ¬ (h.rooms.take i).map nameOf = [] := fun y => by
            rw [lenV, y] at c
            simp [Vbhoak.joined] at c
          refine ⟨_, rfl, .inl ⟨rfl, _, SqL.of tA⟩, q, _, _, rfl, rfl, tA, ?_, rfl, fun b o eb => ?_, ?_⟩
          . rw [nv_len, sizeLine_eq]; omega
          . rw [upd_ne (ne_of_none eb hq)]; exact sm _ _ eb
          . rw [upd_same, if_neg ne, <- nv_snoc]; rfl
        . have yes : (h.rooms.take i).map nameOf = [] := by
            refine Classical.byContradiction fun ne => c ?_
            have := M.joined_pos [32] ne (two i)
            rw [lenV]
            exact decide_eq_true (by omega)
          refine ⟨rfl, sm, ?_⟩
          rw [if_pos yes, tA, yes]; rfl
      . rintro σ' H2 ⟨rfl, sm2, tA2⟩
        have hR := (hH.same sm2).at_ i p r hp1 hr1
        refine ⟨_, rfl, .inl ⟨rfl, _, SqL.of tA2⟩, _, rfl, p, r, rfl, hR, gr.clean, a.mCODE_NAMES, _, _, _, rfl, rfl, (names_at T).sq, atI_nat (show (nmS.map V.str)[Vbhoak.codeOf r]? = some (.str z) by rw [List.getElem?_map, hz1]; rfl), z, rfl, ?_, fun H3 q3 sm3 hq3 => ⟨q, q3, _, _, rfl, rfl, sm3 _ _ tA2, hq3, ?_, ?_⟩⟩
        . rw [<- Array.length_toList, <- hz2, hz3]; decide
        . rw [nv_len, nv_len, <- hz2, hz3, sizeLine_eq]
          split
          . show 0 + 2 <= _; omega
          . rw [List.length_append]; show _ + 1 + 2 <= _; omega
        . refine ⟨_, rfl, fun b o eb => ?_, ?_⟩
          . rw [upd_ne (ne_of_none eb hq)]; exact sm3 _ _ (sm2 _ _ eb)
          . rw [upd_same, e0, hz2]
            simp [nv]
    . rintro σ H' ⟨x2, rfl, sm, tA⟩
      rw [List.length_map, hH.len, List.take_length] at tA
      exact ⟨_, rfl, k H' q sm tA⟩
theorem ok_named (T : Txt K mg a) : COk P w K mg base 2 "code_named" spNamed := by
  have sc := sc_code_named
  have C_letters_of := ok_let (P := P) (w := w) (base := base) T
  refine T.d_code_named.ok sc (fun vs H Q E h => ?_) (fun f cdv A outer s H vs Q E hr h => ?_)
  . obtain ⟨p, b, rfl, _⟩ := h; rfl
  . obtain ⟨p, b, rfl, hp, k⟩ := h
    have hu := hr.units
    refine ⟨_, (pss_cons (ps_for PassesOwn.never rfl (pi_enumT rfl T.b_enumerate (pa_cons (pe_gref rfl T.r_CODE_NAMES) pa_nil)) (pg_tup rfl (pgs_cons (pg_name (i := 1) sc.nd rfl (Or.inl rfl)) (pgs_cons (pg_name (i := 2) sc.nd rfl (Or.inl rfl)) pgs_nil))) (pss_one (ps_if (pt_cmpR (op_eqD hu) (pv 0) (pe_callN C_letters_of hr rfl (pa_cons (pv 2) pa_nil)) (nomark _)) (pss_one (ps_ret (pv 1))) pss_nil)))
      (pss_one (ps_ret pe_non))), ?_⟩
    refine for_et (ma_cons (mono_c _) ma_nil) ⟨a.mCODE_NAMES, [.str "VD", .str "VC", .str "VI", .str "OD", .str "OC", .str "OO"], fun i σ H' => ∃ x1 x2 : Option V, σ = [some (.ref p), x1, x2] /\ Same H H' /\ ∀ c, c < i -> Vbhoak.CODES[c]? ≠ some b, rfl, (names_at T).sq, ?_, ?_, ?_, ?_⟩
    . exact ⟨none, none, rfl, Same.refl' H, fun c hc => absurd hc (Nat.not_lt_zero _)⟩
    . rintro i σ H' _ _
      exact (names_at T).sq
    . rintro i x σ H' T' hx ⟨x1, x2, rfl, sm, no⟩ hT
      obtain ⟨z, hz, rfl⟩ := of_nm hx
      have hz1 := nm_at hz
      have sm1 : Same H (upd H' T' (.tup [.int (i : Nat), .str z])) := Same.trans' sm (Same.new hT)
      refine ⟨T', _, rfl, SqT.of upd_same, rfl, _, _, rfl, _, _, rfl, rfl, ?_⟩
      refine ⟨_, rfl, _, rfl, z, rfl, ?_, fun H3 q3 sm3 hq3 => ?_⟩
      . rw [<- Array.length_toList, M.codes_two (List.mem_of_getElem? hz1)]; decide
      . have sm4 := Same.trans' sm1 sm3
        refine ⟨_, _, dp_nats (SqL.of (sm4 _ _ hp)), dp_nats (SqL.of hq3), shaped_nats _, shaped_nats _, _, rfl, ?_⟩
        rw [eqv_nats]
        refine ite2 (fun c => ?_) (fun c => ?_)
        . have c : b = z.cps.toList := by simpa using c
          refine ⟨_, rfl, ?_⟩
          have y := k H3 sm4
          rw [M.named_at (by rw [c]; exact hz1)] at y
          exact y
        . have c : ¬ b = z.cps.toList := by simpa using c
          refine ⟨_, _, rfl, sm4, fun c' hc' => ?_⟩
          by_cases e : c' = i
          . subst e
            rw [hz1]
            exact fun y => c (Option.some.inj y).symm
          . exact no c' (by omega)
    . rintro σ H' ⟨x1, x2, rfl, sm, no⟩
      have y := k H' sm
      rw [M.named_none (fun c hc e => by
        obtain ⟨i, hi⟩ := List.mem_iff_getElem?.mp hc
        have hl := (List.getElem?_eq_some_iff.mp hi).1
        rw [M.codes_eq] at hl
        exact no i hl (by rw [hi, e]))] at y
      exact y
theorem ok_codes (T : Txt K mg a) : COk P w K mg base 3 "codes_in" spCodes := by
  have sc := sc_codes_in
  have C_code_named := ok_named (P := P) (w := w) (base := base) T
  refine T.d_codes_in.ok sc (fun vs H Q E h => ?_) (fun f cdv A outer s H vs Q E hr h => ?_)
  . obtain ⟨p, b, rfl, _⟩ := h; rfl
  . obtain ⟨p, b, rfl, hp, hb, k⟩ := h
    have hu : (A.deeper (envOfC "codes_in" (defScope s_codes_in) s.heap.objs.size f cdv)).in1.units + 64 < cLine := hr.in1.units
    refine ⟨_, (pss_cons (ps_set (i := 1) sc.nd rfl (Or.inl rfl) (pe_lst pa_nil))
      (pss_cons (ps_for PassesOwn.never rfl (pi_range3 rfl T.b_range (pa_cons pe_int (pa_cons (pe_op op_add (pe_callB call_len_seq (by rfl) T.b_len PySem.boot_len (pa_cons (pv 0) pa_nil)) pe_int) (pa_cons pe_int pa_nil)))) (pg_name (i := 2) sc.nd rfl (Or.inl rfl)) (pss_cons (ps_set (i := 3) sc.nd rfl (Or.inl rfl) (pe_callN C_code_named hr rfl (pa_cons (pe_slice sl_list (pv 0) (po_some (pv 2)) (po_some (pe_op op_add (pv 2) pe_int))) pa_nil)))
      (pss_cons (ps_if (PW.pt (pw_or (pt_cmpR op_isN (pv 3) pe_non (nomark _)) (pw_or1 (pt_cmpR (op_notInL hu) (pe_slice sl_list (pv 0) (po_some (pe_op op_add (pv 2) pe_int)) (po_some (pe_op op_add (pv 2) pe_int))) (pe_tup (pa_cons (pe_lst pa_nil) (pa_cons (pe_lst (pa_cons (pe_gint rfl T.g_BLANK) pa_nil)) pa_nil))) (by with_unfolding_all rfl))))) (pss_one (ps_ret pe_non)) pss_nil)
      (pss_one (ps_expr (pe_bm PySem.F.plainAttrs_list PySem.F.slot_list_append PySem.F.type_list_append mt_append (pv 1) (pa_cons (pv 3) pa_nil)))))))
      (pss_one (ps_ret (pv 1))))), ?_⟩
    refine ⟨Nat.zero_le _, fun q hq => ?_⟩
    have sm0 : Same H (upd H q (.lst [])) := Same.new hq
    refine for_r3 (ma_cons (mono_c _) (ma_cons (mono_op mr_I0 (mono_len (ma_cons (mono_var 0) ma_nil)) (mono_c _)) (ma_cons (mono_c _) ma_nil))) ⟨_, rfl, p, _, rfl, .inl (SqL.of (sm0 _ _ hp)), _, _, rfl, rfl, b.length, fun i σ H' => ∃ (cs : List Nat) (x2 x3 : Option V), σ = [some (.ref p), some (.ref q), x2, x3] /\ Same H H' /\ H' q = some (.lst (nv cs)) /\ cs.length = i /\ M.CodesAt b i cs, by rw [nv_len]; rfl, by omega, ?_, ?_, ?_⟩
    . exact ⟨[], none, none, rfl, sm0, upd_same, rfl, M.CodesAt.start b⟩
    . rintro i σ H' hi ⟨cs, x2, x3, rfl, sm, hcs, hl, at_⟩
      have e4 : cutV (nv b) (some ((3 * i : Nat) : Int)) (some (((3 * i : Nat) : Int) + 2)) = nv ((b.drop (3 * i)).take 2) := by
        rw [show ((3 * i : Nat) : Int) + 2 = ((3 * i + 2 : Nat) : Int) by omega, cut_nat, nv_drop, nv_take, show 3 * i + 2 - 3 * i = 2 by omega]
      have e5 : cutV (nv b) (some (((3 * i : Nat) : Int) + 2)) (some (((3 * i : Nat) : Int) + 3)) = nv (((b.drop (3 * i)).drop 2).take 1) := by
        rw [show ((3 * i : Nat) : Int) + 2 = ((3 * i + 2 : Nat) : Int) by omega, show ((3 * i : Nat) : Int) + 3 = ((3 * i + 3 : Nat) : Int) by omega, cut_nat, nv_drop, nv_take, List.drop_drop, show 3 * i + 3 - (3 * i + 2) = 1 by omega]
      refine ⟨_, rfl, _, rfl, _, rfl, _, rfl, _, _, rfl, rfl, _, rfl, p, _, rfl, SqL.of (sm _ _ hp), fun q3 hq3 => ?_⟩
      rw [e4]
      refine ⟨q3, _, rfl, upd_same, fun H4 sm4 => ?_⟩
      have smH := Same.trans' (Same.trans' sm (Same.new hq3)) sm4
      have hcs4 := sm4 _ _ (Same.new hq3 _ _ hcs)
      have stop : Vbhoak.codesIn (b.length + 1) b = none -> ∀ H5, Same H H5 -> Q .non H5 := fun e H5 s5 => k H5 .non s5 (by rw [e]; rfl)
      cases en : M.named ((b.drop (3 * i)).take 2) with
      | none =>
        refine ⟨_, rfl, rfl, _, rfl, iteT (iteT ?_)⟩
        exact stop (at_.no hi en) H4 smH
      | some c =>
        refine ⟨_, rfl, rfl, _, rfl, iteF ?_⟩
        refine ⟨_, rfl, _, rfl, _, _, rfl, rfl, _, rfl, _, rfl, _, _, rfl, rfl, _, rfl, p, _, rfl, SqL.of (smH _ _ hp), fun q5 hq5 => ?_⟩
        rw [e5]
        refine ⟨Nat.zero_le _, fun q6 h6 => ⟨(by show 1 <= sizeLine; decide), fun q7 h7 => ⟨(by show 2 <= sizeLine; decide), fun q8 h8 => ?_⟩⟩⟩
        have s5 := Same.new (o := .lst (nv (((b.drop (3 * i)).drop 2).take 1))) hq5
        have s6 := Same.new (o := .lst []) h6
        have s7 := Same.new (o := .lst [.int 32]) h7
        have s8 := Same.new (o := .tup [.ref q6, .ref q7]) h8
        have s9 := Same.trans' (Same.trans' (Same.trans' s5 s6) s7) s8
        refine ⟨q8, _, .list (dn (((b.drop (3 * i)).drop 2).take 1)), [.list (dn []), .list (dn [32])], rfl, SqT.of upd_same, dp_nats (SqL.of (s8 _ _ (s7 _ _ (s6 _ _ upd_same)))), .cons (dp_nats (x := []) (SqL.of (s8 _ _ (s7 _ _ upd_same)))) (.cons (dp_nats (x := [32]) (SqL.of (s8 _ _ upd_same))) .nil), shaped_nats _, (by show (SeqAt.shaped (.list (dn [])) && (SeqAt.shaped (.list (dn [32])) && true)) = true; rw [shaped_nats, shaped_nats]; rfl), _, rfl, ?_⟩
        have e6 : (!([PyData.list (dn []), PyData.list (dn [32])].any fun e => PyData.eqv e (PyData.list (dn (((b.drop (3 * i)).drop 2).take 1))))) = !(decide ([] = ((b.drop (3 * i)).drop 2).take 1) || decide ([32] = ((b.drop (3 * i)).drop 2).take 1)) := by
          simp only [List.any_cons, List.any_nil, Bool.or_false]
          rw [eqv_nats, eqv_nats]
        dsimp only
        rw [if_pos rfl, e6]
        have smL := Same.trans' smH s9
        by_cases g : ((b.drop (3 * i)).drop 2).take 1 = [] \/ ((b.drop (3 * i)).drop 2).take 1 = [32]
        . refine iteF' (by rcases g with g | g <;> (rw [g]; decide)) ?_
          have hcs8 := s9 _ _ hcs4
          refine ⟨_, rfl, .inl ⟨rfl, _, SqL.of hcs8⟩, _, rfl, q, _, _, rfl, rfl, hcs8, ?_, ?_⟩
          . rw [nv_len, hl, sizeLine_eq]; omega
          . refine ⟨cs ++ [c], _, _, rfl, fun d o ed => ?_, by rw [upd_same, <- nv_snoc]; rfl, by simp [hl], at_.next hi en g⟩
            rw [upd_ne (ne_of_none ed hq)]; exact smL _ _ ed
        . have g1 := fun z => g (.inl z)
          have g2 := fun z => g (.inr z)
          refine iteT' (by simp only [Bool.not_eq_true', Bool.or_eq_false_iff, decide_eq_false_iff_not]; exact ⟨fun z => g1 z.symm, fun z => g2 z.symm⟩) ?_
          exact stop (at_.bad hi en g1 g2) _ smL
    . rintro σ H' ⟨cs, x2, x3, rfl, sm, hcs, hl, at_⟩
      refine ⟨_, rfl, k H' _ sm ?_⟩
      rw [at_.done]
      exact ⟨q, rfl, hcs⟩
end
def stW (c : Nat) : Nat := if c = 2 then 2 else if c = 1 \/ c = 4 then 1 else 0
def spState : Sp := fun vs H Q _ => ∃ c : Nat, vs = [.int (c : Int)] /\ c < 6 /\ ∀ H', Same H H' -> Q (.int (stW c : Int)) H'
def spGive (a : Ad) : Sp := fun vs H Q _ => ∃ (p : Addr) (r : Vbhoak.Room) (c : Nat), vs = [.ref p, .int (c : Int)] /\ c < 6 /\ RoomAt a H p r /\ ∀ H', RoomAt a H' p (Vbhoak.ofCode r c) -> Ch H H' p -> Q .non H'
theorem codes_small : ∀ (f : Nat) (b cs : List Nat), Vbhoak.codesIn f b = some cs -> ∀ c ∈ cs, c < 6
  | 0, b, cs, h => by cases h
  | f + 1, b, cs, h => by
    match b, h with
    | [], h => cases h
    | [x], h => cases h
    | x :: y :: r, h =>
      rw [M.codesIn_step] at h
      cases e : M.named [x, y] with
      | none => rw [e] at h; cases h
      | some c =>
        have hc := (M.named_len e).2
        rw [e] at h
        match r, h with
        | [], h =>
          cases h
          intro d hd
          have : d = c := by simpa using hd
          omega
        | s :: t, h =>
          have h : (if s = 32 then (Vbhoak.codesIn f t).map fun l => c :: l else none) = some cs := h
          by_cases hs : s = 32
          . rw [if_pos hs] at h
            cases e2 : Vbhoak.codesIn f t with
            | none => rw [e2] at h; cases h
            | some l =>
              rw [e2] at h
              cases h
              have ih := codes_small f t l e2
              intro d hd
              rcases List.mem_cons.mp hd with z | z
              . omega
              . exact ih d z
          . rw [if_neg hs] at h; cases h
def writeTo (h : Vbhoak.House) (cs : List Nat) (i : Nat) : Vbhoak.House := ⟨((h.rooms.zip cs).take i).map (fun x => Vbhoak.ofCode x.1 x.2) ++ h.rooms.drop i, h.heavy, h.light, h.check, h.day⟩
theorem write_set {α β : Type} (f : α × β -> α) : ∀ (l : List α) (m : List β) (i : Nat) (x : α) (y : β), l[i]? = some x -> m[i]? = some y -> (((l.zip m).take i).map f ++ l.drop i).set i (f (x, y)) = ((l.zip m).take (i + 1)).map f ++ l.drop (i + 1)
  | [], m, i, x, y, h, _ => by simp at h
  | a :: l, [], i, x, y, _, h => by simp at h
  | a :: l, b :: m, 0, x, y, h, h2 => by
    have e : a = x := Option.some.inj h
    have e2 : b = y := Option.some.inj h2
    subst e e2
    rfl
  | a :: l, b :: m, i + 1, x, y, h, h2 => by
    have ih := write_set f l m i x y h h2
    show f (a, b) :: (((l.zip m).take i).map f ++ l.drop i).set i (f (x, y)) = f (a, b) :: (((l.zip m).take (i + 1)).map f ++ l.drop (i + 1))
    rw [ih]
theorem write_get {α β : Type} (f : α × β -> α) : ∀ (l : List α) (m : List β) (i : Nat), l.length = m.length -> (((l.zip m).take i).map f ++ l.drop i)[i]? = l[i]?
  | [], m, i, _ => by simp
  | a :: l, [], i, h => by simp at h
  | a :: l, b :: m, 0, _ => rfl
  | a :: l, b :: m, i + 1, h => write_get f l m i (by simpa using h)
theorem write_len {α β : Type} (f : α × β -> α) (l : List α) (m : List β) (i : Nat) (h : l.length = m.length) : (((l.zip m).take i).map f ++ l.drop i).length = l.length := by
  rw [List.length_append, List.length_map, List.length_take, List.length_zip, List.length_drop]
  omega
section
variable {P : Program} {w : World} {K : PySem.W.Frag} {mg : Str -> Option Value} {base : Heap} {a : Ad}
theorem ok_state (T : Txt K mg a) : COk P w K mg base 1 "state_written" spState := by
  have sc := sc_state_written
  refine T.d_state_written.ok sc (fun vs H Q E h => ?_) (fun f cdv A outer s H vs Q E hr h => ?_)
  . obtain ⟨c, rfl, _⟩ := h; rfl
  . obtain ⟨c, rfl, hc, k⟩ := h
    refine ⟨_, (pss_cons (ps_if (pt_cmpR op_eq (pv 0) (pe_gint rfl T.g_VI) (nomark _)) (pss_one (ps_ret (pe_gint rfl T.g_INSPECTED))) pss_nil)
      (pss_one (ps_ret (pe_ifExp (pt_cmpR op_in_seq (pv 0) (pe_tup (pa_cons (pe_gint rfl T.g_VC) (pa_cons (pe_gint rfl T.g_OC) pa_nil))) (by with_unfolding_all rfl)) (pe_gint rfl T.g_CLEANED) (pe_gint rfl T.g_DIRTY))))), ?_⟩
    refine ⟨_, rfl, rfl, _, rfl, ite2 (fun h1 => ?_) (fun h1 => ?_)⟩
    . have h1 : c = 2 := by simp at h1; omega
      subst h1
      exact k H (Same.refl' H)
    . have h1 : ¬ c = 2 := by simp at h1; omega
      refine ⟨_, rfl, (by show 2 <= sizeLine; decide), fun t ht => ⟨t, _, rfl, .inr (SqT.of upd_same), rfl, rfl, _, rfl, ?_⟩⟩
      have k1 := k _ (Same.new (o := .tup [.int 1, .int 4]) ht)
      match c, hc, h1, k1 with
      | 0, _, _, k1 => exact iteF k1
      | 1, _, _, k1 => exact iteT k1
      | 2, _, h1, _ => exact absurd rfl h1
      | 3, _, _, k1 => exact iteF k1
      | 4, _, _, k1 => exact iteT k1
      | 5, _, _, k1 => exact iteF k1
theorem ok_give (T : Txt K mg a) : COk P w K mg base 3 "give_code" (spGive a) := by
  have sc := sc_give_code
  have C_make_vacated := ok_vacated (P := P) (w := w) (base := base) T
  have C_state_written := ok_state (P := P) (w := w) (base := base) T
  refine T.d_give_code.ok sc (fun vs H Q E h => ?_) (fun f cdv A outer s H vs Q E hr h => ?_)
  . obtain ⟨p, r, c, rfl, _⟩ := h; rfl
  . obtain ⟨p, r, c, rfl, hc, hR, k⟩ := h
    refine ⟨_, (pss_cut (ps_set (i := 2) sc.nd rfl (Or.inl rfl) (pe_ifExp (pt_cmpR op_in_seq (pv 1) (pe_tup (pa_cons (pe_gint rfl T.g_VD) (pa_cons (pe_gint rfl T.g_VC) (pa_cons (pe_gint rfl T.g_VI) pa_nil)))) (by with_unfolding_all rfl)) (pe_fld (pv 0) rfl) pe_int))
      (pss_cons (ps_expr (pe_callN C_make_vacated hr rfl (pa_cons (pv 0) pa_nil)))
      (pss_cons (ps_fld (pv 0) (pv 2) rfl)
      (pss_cons (ps_fld (pv 0) (pe_cmpR op_in_seq (pv 1) (pe_tup (pa_cons (pe_gint rfl T.g_OD) (pa_cons (pe_gint rfl T.g_OC) pa_nil))) (by with_unfolding_all rfl)) rfl)
      (pss_cons (ps_fld (pv 0) (pe_cmpR op_eq (pv 1) (pe_gint rfl T.g_OO) (nomark _)) rfl)
      (pss_one (ps_fld (pv 0) (pe_callN C_state_written (hr.mono (by decide)) rfl (pa_cons (pv 1) pa_nil)) rfl))))))), ?_⟩
    refine ⟨fun σ' H' => σ' = [some (.ref p), some (.int (c : Int)), some (.int ((if c <= 2 then r.due else 0 : Nat) : Int))] /\ RoomAt a H' p r /\ Same H H', ?_, ?_⟩
    . refine ⟨_, rfl, (by show 3 <= sizeLine; decide), fun t ht => ⟨t, _, rfl, .inr (SqT.of upd_same), rfl, rfl, _, rfl, ?_⟩⟩
      have sm := Same.new (o := .tup [.int 0, .int 1, .int 2]) ht
      have hR1 : RoomAt a (upd H t (.tup [.int 0, .int 1, .int 2])) p r := let ⟨dx, e⟩ := hR; ⟨dx, sm _ _ e⟩
      match c, hc with
      | 0, _ => exact iteT (T.rd_due hR1 rfl ⟨rfl, hR1, sm⟩)
      | 1, _ => exact iteT (T.rd_due hR1 rfl ⟨rfl, hR1, sm⟩)
      | 2, _ => exact iteT (T.rd_due hR1 rfl ⟨rfl, hR1, sm⟩)
      | 3, _ => exact iteF ⟨rfl, hR1, sm⟩
      | 4, _ => exact iteF ⟨rfl, hR1, sm⟩
      | 5, _ => exact iteF ⟨rfl, hR1, sm⟩
    . rintro σ' H1 ⟨rfl, hR1, sm1⟩
      refine ⟨_, rfl, p, r, rfl, hR1, fun H2 hR2 c2 => ?_⟩
      refine T.st_due rfl (mono_var 2) ⟨_, rfl, _, rfl, hR2, fun H3 hR3 c3 => ?_⟩
      have inT : ∃ b : Bool, inV (.int (c : Int)) [.int 3, .int 4] = b /\ b = decide (c = 3 \/ c = 4) := ⟨_, rfl, by
        match c, hc with
        | 0, _ => rfl
        | 1, _ => rfl
        | 2, _ => rfl
        | 3, _ => rfl
        | 4, _ => rfl
        | 5, _ => rfl⟩
      obtain ⟨bt, ebt, ebt2⟩ := inT
      obtain ⟨dx, e3⟩ := hR3
      refine ⟨_, rfl, (by show 2 <= sizeLine; decide), fun t ht => ⟨t, _, rfl, .inr (SqT.of upd_same), rfl, rfl, ?_⟩⟩
      have sm4 := Same.new (o := .tup [.int 3, .int 4]) ht
      refine ⟨_, rfl, p, _, dx, _, rfl, sm4 _ _ e3, T.c_Room, T.n_Room_taken, (by show 7 < 1000; decide), ?_⟩
      refine ⟨_, rfl, rfl, _, rfl, p, _, dx, _, rfl, upd_same, T.c_Room, T.n_Room_shut, (by show 7 < 1000; decide), ?_⟩
      refine ⟨_, rfl, c, rfl, hc, fun H5 sm5 => ⟨_, rfl, p, _, dx, _, rfl, sm5 _ _ upd_same, T.c_Room, T.n_Room_state, (by show 7 < 1000; decide), ?_⟩⟩
      refine k _ ⟨dx, ?_⟩ fun b o eb nb => ?_
      . rw [upd_same]
        have ebt3 : (if false = true then !inV (V.int (c : Int)) [.int 3, .int 4] else inV (V.int (c : Int)) [.int 3, .int 4]) = decide (c = 3 \/ c = 4) := by
          rw [if_neg (by decide), ebt, ebt2]
        match c, hc with
        | 0, _ => rfl
        | 1, _ => rfl
        | 2, _ => rfl
        | 3, _ => rfl
        | 4, _ => rfl
        | 5, _ => rfl
      . rw [upd_ne nb]
        refine sm5 _ _ ?_
        rw [upd_ne nb, upd_ne nb]
        exact sm4 _ _ (c3 _ _ (c2 _ _ (sm1 _ _ eb) nb) nb)
theorem ok_board (T : Txt K mg a) : COk P w K mg base 3 "board_told" (spOp a fun h ns c => ns = [] /\ c = .board) := by
  have sc := sc_board_told
  have C_text_of := ok_text (P := P) (w := w) (base := base) T
  have C_row_of := ok_row (P := P) (w := w) (base := base) T
  refine T.d_board_told.ok sc (fun vs H Q E h => ?_) (fun f cdv A outer s H vs Q E hr h => ?_)
  . obtain ⟨hp, l, as, h, np, ns, c, rfl, _⟩ := h; rfl
  . obtain ⟨hp, l, as, h, np, ns, c, rfl, hH, hg, hN, ⟨rfl, rfl⟩, k⟩ := h
    refine ⟨_, (pss_one (ps_ret (pe_op op_cat (pe_lst (pa_cons (pe_gint rfl T.g_ACCEPTED) pa_nil)) (pe_callN C_row_of (hr.mono (by decide)) rfl (pa_cons (pe_callN C_text_of hr rfl (pa_cons (pe_fld (pv 0) rfl) pa_nil)) pa_nil))))), ?_⟩
    have hbl : (Vbhoak.boardOf h).length <= 90 := by
      have z := M.joined_len (h.rooms.map nameOf) (fun x hx => by
        obtain ⟨r, hr1, rfl⟩ := List.mem_map.mp hx
        obtain ⟨_, _, _, e⟩ := name_at (hg.rooms r hr1).clean
        exact e)
      rw [List.length_map] at z
      have := hg.len
      exact Nat.le_trans z (by omega)
    refine ⟨(by show 1 <= sizeLine; decide), fun q1 h1 => ?_⟩
    have hH1 := hH.same (Same.new (o := .lst [.int 0]) h1)
    dsimp only [tCall, tCons, tNil]
    refine T.rd_rooms hH1 rfl ⟨hp, l, as, h, rfl, hH1, hg, fun H2 tq sm2 ht => ⟨tq, (Vbhoak.boardOf h).map Int.ofNat, rfl, ht, by rw [List.length_map]; omega, fun H3 q2 sm3 hq2 => ?_⟩⟩
    refine ⟨q1, q2, _, _, rfl, rfl, sm3 _ _ (sm2 _ _ upd_same), hq2, ?_, fun q9 hq9 => ?_⟩
    . rw [List.length_map, row_len, List.length_map, sizeLine_eq]; show 1 + _ <= _; omega
    . refine end_q (ans := 0 :: Vbhoak.row (Vbhoak.nats (Vbhoak.boardOf h))) k hH (Same.trans' (Same.trans' (Same.new h1) sm2) sm3) hq9 rfl ?_
      rw [upd_same]; rfl
theorem ok_write (T : Txt K mg a) : COk P w K mg base 4 "board_written" (spOp a fun h ns c => ∃ b : List Nat, ns = b.map Int.ofNat /\ b.length <= 100 /\ c = .write b) := by
  have sc := sc_board_written
  have C_codes_in := ok_codes (P := P) (w := w) (base := base) T
  have C_give_code := ok_give (P := P) (w := w) (base := base) T
  refine T.d_board_written.ok sc (fun vs H Q E h => ?_) (fun f cdv A outer s H vs Q E hr h => ?_)
  . obtain ⟨hp, l, as, h, np, ns, c, rfl, _⟩ := h; rfl
  . obtain ⟨hp, l, as, h, np, ns, c, rfl, hH, hg, hN, ⟨b, rfl, hb, rfl⟩, k⟩ := h
    refine ⟨_, (pss_cons (ps_set (i := 2) sc.nd rfl (Or.inl rfl) (pe_callN C_codes_in hr rfl (pa_cons (pv 1) pa_nil)))
      (pss_cons (ps_if (PW.pt (pw_or (pt_cmpR op_isN (pv 2) pe_non (nomark _)) (pw_or1 (pt_cmpR op_ne (pe_callB call_len_seq (by rfl) T.b_len PySem.boot_len (pa_cons (pv 2) pa_nil)) (pe_callB call_len_seq (by rfl) T.b_len PySem.boot_len (pa_cons (pe_fld (pv 0) rfl) pa_nil)) (nomark _))))) (pss_one (ps_ret (pe_lst (pa_cons (pe_gint rfl T.g_TEXT_NOT_AS_TOLD) pa_nil)))) pss_nil)
      (pss_cons (ps_for PassesOwn.never rfl (pi_zip rfl T.b_zip (pa_cons (pe_fld (pv 0) rfl) (pa_cons (pv 2) pa_nil))) (pg_tup rfl (pgs_cons (pg_name (i := 3) sc.nd rfl (Or.inl rfl)) (pgs_cons (pg_name (i := 4) sc.nd rfl (Or.inl rfl)) pgs_nil))) (pss_one (ps_expr (pe_callN C_give_code hr rfl (pa_cons (pv 3) (pa_cons (pv 4) pa_nil))))))
      (pss_one (ps_ret (pe_lst (pa_cons (pe_gint rfl T.g_ACCEPTED) pa_nil))))))), ?_⟩
    refine ⟨_, rfl, np, b, rfl, hN, by omega, fun H1 v sm1 hv => ?_⟩
    have hH1 := hH.same sm1
    cases ec : Vbhoak.codesIn (b.length + 1) b with
    | none =>
      rw [ec] at hv
      have hv : v = .non := hv
      subst hv
      have e9 : Vbhoak.onHouse h (.write b) = (h, [-5]) := by
        unfold Vbhoak.onHouse
        dsimp only
        rw [ec]
      refine ⟨_, rfl, rfl, _, rfl, iteT (iteT ⟨(by show 1 <= sizeLine; decide), fun q hq => ?_⟩)⟩
      exact end_q k hH sm1 hq e9 upd_same
    | some cs =>
      rw [ec] at hv
      obtain ⟨cq, rfl, hcq⟩ := hv
      have lenC : ((nv cs).length : Int) = (cs.length : Int) := by rw [nv_len]
      have lenR : ((as.map V.ref).length : Int) = (h.rooms.length : Int) := by rw [List.length_map, hH.len]
      refine ⟨_, rfl, rfl, _, rfl, iteF ⟨_, rfl, cq, _, rfl, .inl (SqL.of hcq), ?_⟩⟩
      dsimp only [tCB, tCons, tNil]
      refine T.rd_rooms hH1 rfl ⟨l, _, rfl, .inl (SqL.of hH1.lst), rfl, _, rfl, ite2 (fun c => ?_) (fun c => ?_)⟩
      . have c : cs.length ≠ h.rooms.length := by
          rw [lenC, lenR] at c
          simp at c
          omega
        have e9 : Vbhoak.onHouse h (.write b) = (h, [-5]) := by
          unfold Vbhoak.onHouse
          dsimp only
          rw [ec]
          exact if_pos c
        refine ⟨(by show 1 <= sizeLine; decide), fun q hq => ?_⟩
        exact end_q k hH sm1 hq e9 upd_same
      . have c : cs.length = h.rooms.length := by
          rw [lenC, lenR] at c
          simp at c
          omega
        have small := codes_small _ _ _ ec
        have e9 : Vbhoak.onHouse h (.write b) = (writeTo h cs h.rooms.length, [0]) := by
          unfold Vbhoak.onHouse writeTo
          dsimp only
          rw [ec]
          dsimp only
          rw [if_neg (fun z => z c), List.drop_length, List.append_nil, List.take_of_length_le (by rw [List.length_zip]; omega)]
        refine for_z (ma_cons (mono_fld (mono_var 0)) (ma_cons (mono_var 2) ma_nil)) (T.rd_rooms hH1 rfl ⟨_, rfl, l, cq, as.map V.ref, nv cs, fun i σ H' => ∃ x3 x4 : Option V, σ = [some (.ref hp), some (.ref np), some (.ref cq), x3, x4] /\ HouseAt a H' hp l as (writeTo h cs i) /\ H' cq = some (.lst (nv cs)) /\ ChS H H' (hp :: as), rfl, SqL.of hH1.lst, SqL.of hcq, ?_, ?_, ?_, ?_, ?_⟩)
        . rw [List.length_map, nv_len, hH.len, c]
        . exact ⟨none, none, rfl, hH1, hcq, fun d o ed _ => sm1 _ _ ed⟩
        . rintro i σ H' _ ⟨_, _, _, hI, hC, _⟩
          exact ⟨SqL.of hI.lst, SqL.of hC⟩
        . rintro i x y σ H' T' hx hy ⟨x3, x4, rfl, hI, hC, ch⟩ hT
          obtain ⟨p, hp1, rfl⟩ := of_refs hx
          obtain ⟨cd, hcd, rfl⟩ := of_nv hy
          have hil : i < h.rooms.length := by rw [<- hH.len]; exact (List.getElem?_eq_some_iff.mp hp1).1
          obtain ⟨r, hr1⟩ : ∃ r, h.rooms[i]? = some r := ⟨_, List.getElem?_eq_getElem hil⟩
          have hm : p ∈ as := List.mem_of_getElem? hp1
          have smT := Same.new (o := .tup [.ref p, .int (cd : Int)]) hT
          have hI2 := hI.same smT
          have hR : RoomAt a (upd H' T' (.tup [.ref p, .int (cd : Int)])) p r := hI2.at_ i p r hp1 (by
            show (((h.rooms.zip cs).take i).map (fun x => Vbhoak.ofCode x.1 x.2) ++ h.rooms.drop i)[i]? = some r
            rw [write_get _ _ _ _ c.symm]; exact hr1)
          refine ⟨T', _, rfl, SqT.of upd_same, rfl, _, _, rfl, _, _, rfl, rfl, ?_⟩
          refine ⟨_, rfl, _, rfl, p, r, cd, rfl, small cd (List.mem_of_getElem? hcd), hR, fun H3 hR3 c3 => ?_⟩
          have z := hI2.set hp1 hR3 c3 (by
            show i < (((h.rooms.zip cs).take i).map (fun x => Vbhoak.ofCode x.1 x.2) ++ h.rooms.drop i).length
            rw [write_len _ _ _ _ c.symm]; exact hil)
          have e : Vbhoak.setRoom (writeTo h cs i) i (Vbhoak.ofCode r cd) = writeTo h cs (i + 1) := by
            unfold Vbhoak.setRoom writeTo
            dsimp only
            rw [write_set (fun x => Vbhoak.ofCode x.1 x.2) h.rooms cs i r cd hr1 hcd]
          rw [e] at z
          obtain ⟨dr, er⟩ := hR
          refine ⟨_, _, rfl, z, c3 _ _ (smT _ _ hC) (ne_of (smT _ _ hC) er (by intro y; cases y)), (ch.trans (fun d o ed _ => smT _ _ ed)).trans (c3.toS (List.mem_cons_of_mem _ hm))⟩
        . rintro σ H' ⟨x3, x4, rfl, hI, hC, ch⟩
          rw [List.length_map, hH.len] at hI
          exact end_at k hI ch e9 (by decide)
end
theorem mdt_at {K : PySem.W.Frag} {a : Addr} {l : List (Int × Dt)} (h : MDT K a l) : ∃ kvs, MD K a kvs /\ (∀ (i : Int) (d : Dt), M.at? l i = some d -> ∃ v, vAt kvs i = some v /\ Tr K d v) /\ ∀ i : Int, M.at? l i = none -> vAt kvs i = none := by
  obtain ⟨kvs, m, p⟩ := h
  refine ⟨kvs, m, ?_⟩
  clear m
  unfold M.at?
  induction p with
  | nil => exact ⟨fun i d e => by simp at e, fun i _ => rfl⟩
  | @cons kv x ps qs h t ih =>
    obtain ⟨h1, h2⟩ := h
    obtain ⟨ih1, ih2⟩ := ih
    refine ⟨fun i d e => ?_, fun i e => ?_⟩
    . by_cases z : x.1 = i
      . have e' : x.2 = d := by simpa [List.find?_cons, z] using e
        subst e'
        exact ⟨kv.2, by simp [vAt, List.find?_cons, h1, z], h2⟩
      . have e' : (qs.find? fun x => decide (x.1 = i)).map (·.2) = some d := by simpa [List.find?_cons, z] using e
        obtain ⟨v, hv, hT⟩ := ih1 i d e'
        refine ⟨v, ?_, hT⟩
        have z' : ¬ kv.1 = i := fun q => z (h1.symm.trans q)
        simpa [vAt, List.find?_cons, z'] using hv
    . by_cases z : x.1 = i
      . simp [List.find?_cons, z] at e
      . have e' : (qs.find? fun x => decide (x.1 = i)).map (·.2) = none := by simpa [List.find?_cons, z] using e
        have hv := ih2 i e'
        have z' : ¬ kv.1 = i := fun q => z (h1.symm.trans q)
        simpa [vAt, List.find?_cons, z'] using hv
theorem at_map {α β : Type} (f : α -> β) (p : Int) : ∀ l : List (Int × α), M.at? (l.map fun x => (x.1, f x.2)) p = (M.at? l p).map f
  | [] => rfl
  | x :: l => by
    have ih := at_map f p l
    unfold M.at? at ih ⊢
    by_cases z : x.1 = p
    . simp [z]
    . simpa [z] using ih
def dB (b : Int × Int) : Dt := .t [.i b.1, .i b.2]
theorem trs_pairs {K : PySem.W.Frag} : ∀ {bs : List (Int × Int)} {xs : List V}, Trs K (bs.map dB) xs -> xs.length = bs.length /\ ∀ (i : Nat) (b : Int × Int), bs[i]? = some b -> ∃ t, xs[i]? = some (.ref t) /\ KT K t [.int b.1, .int b.2]
  | [], xs, h => by
    have h : xs = [] := h
    subst h
    exact ⟨rfl, fun i b e => by simp at e⟩
  | b :: bs, xs, h => by
    obtain ⟨v, r, rfl, ⟨t, ys, rfl, kt, hy⟩, h2⟩ := h
    obtain ⟨_, _, rfl, rfl, _, _, rfl, rfl, rfl⟩ := hy
    obtain ⟨l, ih⟩ := trs_pairs h2
    refine ⟨by simp [l], fun i c e => ?_⟩
    cases i with
    | zero =>
      have e : b = c := Option.some.inj e
      subst e
      exact ⟨t, rfl, kt⟩
    | succ i => exact ih i c e
section
variable {K : PySem.W.Frag} {mg : Str -> Option Value} {a : Ad}
theorem ranges_at (T : Txt K mg a) : ∃ kvs, MD K a.mRANGES kvs /\ ∀ (p : Int) (bs : List (Int × Int)), M.at? M.RG p = some bs -> ∃ t xs, vAt kvs p = some (.ref t) /\ KT K t xs /\ xs.length = bs.length /\ ∀ (i : Nat) (b : Int × Int), bs[i]? = some b -> ∃ t, xs[i]? = some (.ref t) /\ KT K t [.int b.1, .int b.2] := by
  have m : MDT K a.mRANGES (M.RG.map fun x => (x.1, Dt.t (x.2.map dB))) := T.m_RANGES
  obtain ⟨kvs, md, h1, _⟩ := mdt_at m
  refine ⟨kvs, md, fun p bs e => ?_⟩
  have z := at_map (fun bs => Dt.t (bs.map dB)) p M.RG
  rw [e] at z
  obtain ⟨v, hv, t, xs, rfl, kt, tr⟩ := h1 p _ z
  obtain ⟨l, hx⟩ := trs_pairs tr
  exact ⟨t, xs, hv, kt, l, hx⟩
theorem rows_at (T : Txt K mg a) : ∃ kvs, MD K a.mROWS kvs /\ (∀ (p : Int) (b : Int × Int × Int), M.at? M.RW p = some b -> ∃ t, vAt kvs p = some (.ref t) /\ KT K t [.int b.1, .int b.2.1, .int b.2.2]) /\ ∀ p : Int, M.at? M.RW p = none -> vAt kvs p = none := by
  have m : MDT K a.mROWS (M.RW.map fun x => (x.1, Dt.t [.i x.2.1, .i x.2.2.1, .i x.2.2.2])) := T.m_ROWS
  obtain ⟨kvs, md, h1, h2⟩ := mdt_at m
  refine ⟨kvs, md, fun p b e => ?_, fun p e => h2 p (by rw [at_map (fun b : Int × Int × Int => Dt.t [.i b.1, .i b.2.1, .i b.2.2]), e]; rfl)⟩
  have z := at_map (fun b : Int × Int × Int => Dt.t [.i b.1, .i b.2.1, .i b.2.2]) p M.RW
  rw [e] at z
  obtain ⟨v, hv, t, xs, rfl, kt, tr⟩ := h1 p _ z
  obtain ⟨_, _, rfl, rfl, _, _, rfl, rfl, _, _, rfl, rfl, rfl⟩ := tr
  exact ⟨t, hv, kt⟩
theorem named_rooms (T : Txt K mg a) : ∃ kvs, MD K a.mROOMS_NAMED kvs /\ ∀ p : Int, (vAt kvs p).getD (.int 0) = .int ((M.at? M.RN p).getD 0) := by
  have m : MDT K a.mROOMS_NAMED (M.RN.map fun x => (x.1, Dt.i x.2)) := T.m_ROOMS_NAMED
  obtain ⟨kvs, md, h1, h2⟩ := mdt_at m
  refine ⟨kvs, md, fun p => ?_⟩
  have z := at_map (fun n : Int => Dt.i n) p M.RN
  cases e : M.at? M.RN p with
  | none =>
    rw [e] at z
    rw [h2 p z]; rfl
  | some n =>
    rw [e] at z
    obtain ⟨v, hv, tr⟩ := h1 p _ z
    have tr : v = .int n := tr
    rw [hv, tr]; rfl
theorem mono_mget {td ty : TE} (h1 : Mono td) (h2 : Mono ty) : Mono (tMGet K td ty) := fun σ H _ _ h q => h1 σ H _ _ (fun _ H1 q1 => h2 σ H1 _ _ (fun _ _ ⟨a, kvs, i, v, e1, e2, m, l, z⟩ => ⟨a, kvs, i, v, e1, e2, m, l, h _ _ z⟩) q1) q
end
def spRange (a : Ad) : Sp := fun vs H Q _ => ∃ (p : Int) (q : Addr) (ns : List Int) (bs : List (Int × Int)), vs = [.int p, .ref q] /\ H q = some (.lst (ns.map V.int)) /\ M.at? M.RG p = some bs /\ ns.length = bs.length /\ ∀ H', Same H H' -> Q (.bl (M.inR bs ns)) H'
def spRowT (a : Ad) : Sp := fun vs H Q _ => ∃ (p : Int) (q : Addr) (row : List Int), vs = [.int p, .ref q] /\ H q = some (.lst (row.map V.int)) /\ ∀ H', Same H H' -> Q (.bl (M.rowOk p row)) H'
def spThere (a : Ad) : Sp := fun vs H Q _ => ∃ (hp l : Addr) (as : List Addr) (h : Vbhoak.House) (p : Int) (q : Addr) (ns : List Int), vs = [.ref hp, .int p, .ref q] /\ HouseAt a H hp l as h /\ H q = some (.lst (ns.map V.int)) /\ 0 <= (M.at? M.RN p).getD 0 /\ ∀ H', Same H H' -> Q (.bl (M.roomsThere h p ns)) H'
def spAtt (a : Ad) : Sp := fun vs H Q _ => ∃ (p : Int) (q : Addr) (ns : List Int), vs = [.int p, .ref q] /\ H q = some (.lst (ns.map V.int)) /\ (p = 15 -> 2 <= ns.length) /\ Q (.bl (M.attThere p ns)) H
def HousV (a : Ad) (H : Hp) (v : V) : Option Vbhoak.House -> Prop
  | none => v = .non
  | some h => ∃ hp l as, v = .ref hp /\ HouseAt a H hp l as h
def spEarly (a : Ad) : Sp := fun vs H Q _ => ∃ (v : V) (h : Option Vbhoak.House) (p : Int) (q rq : Addr) (ns row : List Int) (bs : List (Int × Int)), vs = [v, .int p, .ref q, .ref rq] /\ HousV a H v h /\ H q = some (.lst (ns.map V.int)) /\ H rq = some (.lst (row.map V.int)) /\ M.at? M.RG p = some bs /\ ns.length = bs.length /\
  ∀ H', Same H H' -> Q (.int (M.early h p ns row)) H'
def spRowAt (K : PySem.W.Frag) : Sp := fun vs H Q _ => ∃ (cq : Addr) (cs : List Int) (p : Int) (at_ : Nat), vs = [.ref cq, .int p, .int (at_ : Int)] /\ SqL K H cq (cs.map V.int) /\
  ((M.at? M.RW p = none /\ ∀ H' q, Same H H' -> H' q = some (.lst []) -> Q (.ref q) H') \/
   ((∃ b, M.at? M.RW p = some b) /\ ∃ n : Nat, cs[at_]? = some (n : Int) /\ ∀ H' q, Same H H' -> H' q = some (.lst (((cs.drop (at_ + 1)).take n).map V.int)) -> Q (.ref q) H'))
def laterE (h : Option Vbhoak.House) (p : Int) (ns : List Int) : Int := match h with
  | none => -2
  | some h => if (!M.roomsThere h p ns || !M.attThere p ns) = true then -3 else 0
theorem early_eq {h : Option Vbhoak.House} {p : Int} {ns row : List Int} {bs : List (Int × Int)} (ep : M.at? M.RG p = some bs) : M.early h p ns row = if (!M.inR bs ns || !M.rowOk p row) = true then -1 else if p = 0 then 0 else laterE h p ns := by
  unfold M.early laterE
  rw [ep]
  cases h <;> rfl
theorem later_some (h : Vbhoak.House) (p : Int) (ns : List Int) : laterE (some h) p ns = if (!M.roomsThere h p ns || !M.attThere p ns) = true then -3 else 0 := rfl
theorem rn_pos (p : Int) : 0 <= (M.at? M.RN p).getD 0 := by
  have h : ∀ l : List (Int × Int), (∀ x ∈ l, 0 <= x.2) -> 0 <= (M.at? l p).getD 0 := by
    intro l hl
    induction l with
    | nil => exact Int.le_refl 0
    | cons x l ih =>
      have ih := ih fun y hy => hl y (List.mem_cons_of_mem _ hy)
      unfold M.at? at ih ⊢
      by_cases z : x.1 = p
      . simpa [z] using hl x (by simp)
      . simpa [z] using ih
  exact h _ (by decide)
section
variable {P : Program} {w : World} {K : PySem.W.Frag} {mg : Str -> Option Value} {base : Heap} {a : Ad}
theorem within_no {x lo hi : Int} (h : x < lo \/ hi < x) : Vbhoak.within x lo hi = false := by
  unfold Vbhoak.within
  rcases h with h | h
  . rw [decide_eq_false (by omega : ¬ lo <= x), Bool.false_and]
  . rw [decide_eq_false (by omega : ¬ x <= hi), Bool.and_false]
theorem ok_range (T : Txt K mg a) : COk P w K mg base 1 "all_in_range" (spRange a) := by
  have sc := sc_all_in_range
  refine T.d_all_in_range.ok sc (fun vs H Q E h => ?_) (fun f cdv A outer s H vs Q E hr h => ?_)
  . obtain ⟨p, q, ns, bs, rfl, _⟩ := h; rfl
  . obtain ⟨p, q, ns, bs, rfl, hq, ep, hl, k⟩ := h
    refine ⟨_, (pss_cons (ps_for PassesOwn.never rfl (pi_zipT rfl T.b_zip (pa_cons (pv 1) (pa_cons (pe_mget (pe_gref rfl T.r_RANGES) (pv 0) (fun _ _ => rfl)) pa_nil))) (pg_tup rfl (pgs_cons (pg_name (i := 2) sc.nd rfl (Or.inl rfl)) (pgs_cons (pg_name (i := 3) sc.nd rfl (Or.inl rfl)) pgs_nil))) (pss_one (ps_if (PW.pt (pw_or (pt_cmpR op_lt (pv 2) (pe_ix ix_tup (pv 3) pe_int (fun _ _ => rfl)) (nomark _)) (pw_or1 (pt_cmpR op_gt (pv 2) (pe_ix ix_tup (pv 3) pe_int (fun _ _ => rfl)) (nomark _))))) (pss_one (ps_ret pe_bl)) pss_nil)))
      (pss_one (ps_ret pe_bl))), ?_⟩
    obtain ⟨kvs, md, h1⟩ := ranges_at T
    obtain ⟨t, xs, hv, kt, hxl, hx⟩ := h1 p bs ep
    refine for_zt (ma_cons (mono_var 1) (ma_cons (mono_mget (mono_c _) (mono_var 0)) ma_nil)) ⟨_, rfl, _, rfl, a.mRANGES, kvs, p, _, rfl, rfl, md, hv, q, t, ns.map V.int, xs, fun i σ H' => ∃ x2 x3 : Option V, σ = [some (.int p), some (.ref q), x2, x3] /\ Same H H' /\ ∀ j x b, j < i -> ns[j]? = some x -> bs[j]? = some b -> Vbhoak.within x b.1 b.2 = true, rfl, SqL.of hq, kt.sq, by rw [List.length_map, hl, hxl], ?_, ?_, ?_, ?_⟩
    . exact ⟨none, none, rfl, Same.refl' H, fun j x b hj => absurd hj (Nat.not_lt_zero _)⟩
    . rintro i σ H' _ ⟨_, _, _, sm, _⟩
      exact ⟨SqL.of (sm _ _ hq), kt.sq⟩
    . rintro i v v2 σ H' T' hv1 hv2 ⟨x2, x3, rfl, sm, ok⟩ hT
      obtain ⟨x, hx1, rfl⟩ : ∃ x, ns[i]? = some x /\ v = .int x := by
        rw [List.getElem?_map] at hv1
        cases e : ns[i]? with
        | none => rw [e] at hv1; cases hv1
        | some x => rw [e] at hv1; exact ⟨x, rfl, (Option.some.inj hv1).symm⟩
      have hib : i < bs.length := by rw [<- hl]; exact (List.getElem?_eq_some_iff.mp hx1).1
      obtain ⟨b, hb⟩ : ∃ b, bs[i]? = some b := ⟨_, List.getElem?_eq_getElem hib⟩
      obtain ⟨t2, ht2, kt2⟩ := hx i b hb
      have : v2 = .ref t2 := Option.some.inj (hv2.symm.trans ht2)
      subst this
      have sm1 : Same H (upd H' T' (.tup [.int x, .ref t2])) := Same.trans' sm (Same.new hT)
      have no : Vbhoak.within x b.1 b.2 = false -> M.inR bs ns = false := fun z => by
        unfold M.inR
        rw [List.all_eq_false]
        exact ⟨(x, b), List.mem_iff_getElem?.mpr ⟨i, by rw [List.getElem?_zip_eq_some]; exact ⟨hx1, hb⟩⟩, by simp [z]⟩
      refine ⟨T', _, rfl, SqT.of upd_same, rfl, _, _, rfl, _, _, rfl, rfl, ?_⟩
      refine ⟨_, rfl, _, rfl, t2, _, 0, _, rfl, rfl, kt2.sq, rfl, _, _, rfl, rfl, _, rfl, ite2 (fun c => iteT ?_) (fun c => ?_)⟩
      . have c : x < b.1 := by simpa using c
        have z := k _ sm1
        rw [no (within_no (.inl c))] at z
        exact z
      . have c : ¬ x < b.1 := by simpa using c
        refine ⟨_, rfl, _, rfl, t2, _, 1, _, rfl, rfl, kt2.sq, rfl, _, _, rfl, rfl, _, rfl, ite2 (fun c2 => ?_) (fun c2 => ?_)⟩
        . have c2 : b.2 < x := by simpa using c2
          have z := k _ sm1
          rw [no (within_no (.inr c2))] at z
          exact z
        . have c2 : ¬ b.2 < x := by simpa using c2
          refine ⟨_, _, rfl, sm1, fun j x' b' hj hx' hb' => ?_⟩
          by_cases e : j = i
          . subst e
            have : x = x' := Option.some.inj (hx1.symm.trans hx')
            have : b = b' := Option.some.inj (hb.symm.trans hb')
            subst_vars
            exact M.within_iff.mpr ⟨by omega, by omega⟩
          . exact ok j x' b' (by omega) hx' hb'
    . rintro σ H' ⟨x2, x3, rfl, sm, ok⟩
      have z := k _ sm
      have e : M.inR bs ns = true := by
        unfold M.inR
        rw [List.all_eq_true]
        rintro ⟨x, b⟩ hm
        obtain ⟨j, hj⟩ := List.mem_iff_getElem?.mp hm
        rw [List.getElem?_zip_eq_some] at hj
        exact ok j x b (by rw [List.length_map]; exact (List.getElem?_eq_some_iff.mp hj.1).1) hj.1 hj.2
      rw [e] at z
      exact z
theorem ok_rowT (T : Txt K mg a) : COk P w K mg base 1 "row_as_told" (spRowT a) := by
  have sc := sc_row_as_told
  refine T.d_row_as_told.ok sc (fun vs H Q E h => ?_) (fun f cdv A outer s H vs Q E hr h => ?_)
  . obtain ⟨p, q, row, rfl, _⟩ := h; rfl
  . obtain ⟨p, q, row, rfl, hq, k⟩ := h
    refine ⟨_, (pss_cons (ps_if (pt_cmp (pc_mnotin (pv 0) (pe_gref rfl T.r_ROWS))) (pss_one (ps_ret pe_bl)) pss_nil)
      (pss_cons (ps_set (i := 2) sc.nd rfl (Or.inl rfl) (pe_mget (pe_gref rfl T.r_ROWS) (pv 0) (fun _ _ => rfl)))
      (pss_cons (ps_if (pt_cmpR op_gt (pe_callB call_len_seq (by rfl) T.b_len PySem.boot_len (pa_cons (pv 1) pa_nil)) (pe_ix ix_tup (pv 2) pe_int (fun _ _ => rfl)) (nomark _)) (pss_one (ps_ret pe_bl)) pss_nil)
      (pss_cons (ps_for PassesOwn.never rfl (pi_list (pv 1)) (pg_name (i := 3) sc.nd rfl (Or.inl rfl)) (pss_one (ps_if (PW.pt (pw_or (pt_cmpR op_lt (pv 3) (pe_ix ix_tup (pv 2) pe_int (fun _ _ => rfl)) (nomark _)) (pw_or1 (pt_cmpR op_gt (pv 3) (pe_ix ix_tup (pv 2) pe_int (fun _ _ => rfl)) (nomark _))))) (pss_one (ps_ret pe_bl)) pss_nil)))
      (pss_one (ps_ret pe_bl)))))), ?_⟩
    obtain ⟨kvs, md, h1, h2⟩ := rows_at T
    have k := k H (Same.refl' H)
    cases e : M.at? M.RW p with
    | none =>
      have eo : M.rowOk p row = true := by unfold M.rowOk; rw [e]
      rw [eo] at k
      refine ⟨_, rfl, a.mROWS, kvs, p, rfl, rfl, T.x_ROWS, md, _, rfl, iteT' (by rw [h2 p e]; rfl) ?_⟩
      exact k
    | some b =>
      obtain ⟨t, hv, kt⟩ := h1 p b e
      have eo : M.rowOk p row = (decide ((row.length : Int) <= b.1) && row.all fun x => Vbhoak.within x b.2.1 b.2.2) := by unfold M.rowOk; rw [e]
      rw [eo] at k
      have lenR : ((row.map V.int).length : Int) = (row.length : Int) := by rw [List.length_map]
      refine ⟨_, rfl, a.mROWS, kvs, p, rfl, rfl, T.x_ROWS, md, _, rfl, iteF' (by rw [hv]; simp) ?_⟩
      refine ⟨_, rfl, a.mROWS, kvs, p, _, rfl, rfl, md, hv, ?_⟩
      refine ⟨_, rfl, q, _, rfl, .inl (SqL.of hq), _, rfl, t, _, 0, _, rfl, rfl, kt.sq, rfl, _, _, rfl, rfl, _, rfl, ite2 (fun c => ?_) (fun c => ?_)⟩
      . have c : b.1 < (row.length : Int) := by rw [lenR] at c; simpa using c
        rw [decide_eq_false (by omega), Bool.false_and] at k
        exact k
      . have c : ¬ b.1 < (row.length : Int) := by rw [lenR] at c; simpa using c
        rw [decide_eq_true (by omega), Bool.true_and] at k
        refine for_l (mono_var 1) ⟨_, rfl, q, row.map V.int, fun i σ H' => H' = H /\ ∃ x3 : Option V, σ = [some (.int p), some (.ref q), some (.ref t), x3] /\ ∀ j x, j < i -> row[j]? = some x -> Vbhoak.within x b.2.1 b.2.2 = true, rfl, SqL.of hq, ⟨rfl, none, rfl, fun j x hj => absurd hj (Nat.not_lt_zero _)⟩, fun i σ H' _ ⟨e, _⟩ => (by rw [e]; exact SqL.of hq), ?_, ?_⟩
        . rintro i v σ H' hi ⟨rfl, x3, rfl, ok⟩
          obtain ⟨x, hx1, rfl⟩ : ∃ x, row[i]? = some x /\ v = .int x := by
            rw [List.getElem?_map] at hi
            cases e : row[i]? with
            | none => rw [e] at hi; cases hi
            | some x => rw [e] at hi; exact ⟨x, rfl, (Option.some.inj hi).symm⟩
          have no : Vbhoak.within x b.2.1 b.2.2 = false -> Q (.bl false) H' := fun z => by
            have y : (row.all fun x => Vbhoak.within x b.2.1 b.2.2) = false := by
              rw [List.all_eq_false]
              exact ⟨x, List.mem_of_getElem? hx1, by simp [z]⟩
            rw [y] at k
            exact k
          refine ⟨_, rfl, _, rfl, t, _, 1, _, rfl, rfl, kt.sq, rfl, _, _, rfl, rfl, _, rfl, ite2 (fun c => iteT ?_) (fun c => ?_)⟩
          . have c : x < b.2.1 := by simpa using c
            exact no (within_no (.inl c))
          . have c : ¬ x < b.2.1 := by simpa using c
            refine ⟨_, rfl, _, rfl, t, _, 2, _, rfl, rfl, kt.sq, rfl, _, _, rfl, rfl, _, rfl, ite2 (fun c2 => ?_) (fun c2 => ?_)⟩
            . have c2 : b.2.2 < x := by simpa using c2
              exact no (within_no (.inr c2))
            . have c2 : ¬ b.2.2 < x := by simpa using c2
              refine ⟨rfl, _, rfl, fun j x' hj hx' => ?_⟩
              by_cases e : j = i
              . subst e
                have : x = x' := Option.some.inj (hx1.symm.trans hx')
                subst this
                exact M.within_iff.mpr ⟨by omega, by omega⟩
              . exact ok j x' (by omega) hx'
        . rintro σ H' ⟨rfl, x3, rfl, ok⟩
          have y : (row.all fun x => Vbhoak.within x b.2.1 b.2.2) = true := by
            rw [List.all_eq_true]
            intro x hx
            obtain ⟨j, hj⟩ := List.mem_iff_getElem?.mp hx
            exact ok j x (by rw [List.length_map]; exact (List.getElem?_eq_some_iff.mp hj).1) hj
          rw [y] at k
          exact k
theorem ok_there (T : Txt K mg a) : COk P w K mg base 1 "all_rooms_there" (spThere a) := by
  have sc := sc_all_rooms_there
  refine T.d_all_rooms_there.ok sc (fun vs H Q E h => ?_) (fun f cdv A outer s H vs Q E hr h => ?_)
  . obtain ⟨hp, l, as, h, p, q, ns, rfl, _⟩ := h; rfl
  . obtain ⟨hp, l, as, h, p, q, ns, rfl, hH, hq, hpos, k⟩ := h
    refine ⟨_, (pss_cons (ps_for PassesOwn.never rfl (pi_list (pe_cut (pe_slice sl_list (pv 2) po_none (po_some (pe_mget2 (pe_gref rfl T.r_ROOMS_NAMED) (pv 1) pe_int ⟨rfl, rfl, rfl, rfl⟩))))) (pg_name (i := 3) sc.nd rfl (Or.inl rfl)) (pss_one (ps_if (pt_cmpR op_ge (pv 3) (pe_callB call_len_seq (by rfl) T.b_len PySem.boot_len (pa_cons (pe_fld (pv 0) rfl) pa_nil)) (nomark _)) (pss_one (ps_ret pe_bl)) pss_nil)))
      (pss_one (ps_ret pe_bl))), ?_⟩
    obtain ⟨kvs, md, hn⟩ := named_rooms T
    obtain ⟨n, en⟩ : ∃ n : Nat, (M.at? M.RN p).getD 0 = (n : Int) := ⟨((M.at? M.RN p).getD 0).toNat, by omega⟩
    have er : M.roomsThere h p ns = ((ns.take n).all fun x => decide (x < (h.rooms.length : Int))) := by unfold M.roomsThere; rw [en]; rfl
    rw [er] at k
    refine for_l (fun σ H Q Q' hQ ⟨R, h1, h2⟩ => ⟨R, h1, fun v H' r => hQ _ _ (h2 v H' r)⟩) ⟨fun v H' => ∃ t, v = .ref t /\ Same H H' /\ H' t = some (.lst ((ns.take n).map V.int)), ?_, ?_⟩
    . refine ⟨_, rfl, a.mROOMS_NAMED, kvs, rfl, md, T.x_ROOMS_NAMED, _, rfl, p, rfl, n, by rw [hn p, en], q, _, rfl, SqL.of hq, fun t ht => ⟨t, rfl, Same.new ht, ?_⟩⟩
      rw [upd_same, cut_to, List.map_take]
    . rintro v H1 ⟨t, rfl, sm1, ht⟩
      refine ⟨t, (ns.take n).map V.int, fun i σ H' => H' = H1 /\ ∃ x3 : Option V, σ = [some (.ref hp), some (.int p), some (.ref q), x3] /\ ∀ j x, j < i -> (ns.take n)[j]? = some x -> x < (h.rooms.length : Int), rfl, SqL.of ht, ⟨rfl, none, rfl, fun j x hj => absurd hj (Nat.not_lt_zero _)⟩, fun i σ H' _ ⟨e, _⟩ => (by rw [e]; exact SqL.of ht), ?_, ?_⟩
      . rintro i v σ H' hi ⟨rfl, x3, rfl, ok⟩
        obtain ⟨x, hx1, rfl⟩ : ∃ x, (ns.take n)[i]? = some x /\ v = .int x := by
          rw [List.getElem?_map] at hi
          cases e : (ns.take n)[i]? with
          | none => rw [e] at hi; cases hi
          | some x => rw [e] at hi; exact ⟨x, rfl, (Option.some.inj hi).symm⟩
        have hH1 := hH.same sm1
        have lenR : ((as.map V.ref).length : Int) = (h.rooms.length : Int) := by rw [List.length_map, hH.len]
        refine ⟨_, rfl, ?_⟩
        dsimp only [tCB, tCons, tNil]
        refine T.rd_rooms hH1 rfl ⟨l, _, rfl, .inl (SqL.of hH1.lst), _, _, rfl, rfl, _, rfl, ite2 (fun c => ?_) (fun c => ?_)⟩
        . have c : (h.rooms.length : Int) <= x := by rw [lenR] at c; simpa using c
          have z := k _ sm1
          have y : ((ns.take n).all fun x => decide (x < (h.rooms.length : Int))) = false := by
            rw [List.all_eq_false]
            exact ⟨x, List.mem_of_getElem? hx1, by simp; omega⟩
          rw [y] at z
          exact z
        . have c : ¬ (h.rooms.length : Int) <= x := by rw [lenR] at c; simpa using c
          refine ⟨rfl, _, rfl, fun j x' hj hx' => ?_⟩
          by_cases e : j = i
          . subst e
            have : x = x' := Option.some.inj (hx1.symm.trans hx')
            omega
          . exact ok j x' (by omega) hx'
      . rintro σ H' ⟨rfl, x3, rfl, ok⟩
        have z := k _ sm1
        have y : ((ns.take n).all fun x => decide (x < (h.rooms.length : Int))) = true := by
          rw [List.all_eq_true]
          intro x hx
          obtain ⟨j, hj⟩ := List.mem_iff_getElem?.mp hx
          exact decide_eq_true (ok j x (by rw [List.length_map]; exact (List.getElem?_eq_some_iff.mp hj).1) hj)
        rw [y] at z
        exact z
theorem ok_att (T : Txt K mg a) : COk P w K mg base 1 "attendant_there" (spAtt a) := by
  have sc := sc_attendant_there
  refine T.d_attendant_there.ok sc (fun vs H Q E h => ?_) (fun f cdv A outer s H vs Q E hr h => ?_)
  . obtain ⟨p, q, ns, rfl, _⟩ := h; rfl
  . obtain ⟨p, q, ns, rfl, hq, hl, k⟩ := h
    refine ⟨_, (pss_one (ps_ret (pe_or (pe_cmpR op_ne (pv 0) (pe_gint rfl T.g_ORDER) (nomark _)) (pe_one (pe_cmpR op_le (pe_ix ix_list (pv 1) pe_int (fun _ _ => rfl)) (pe_ix ix_list (pv 1) pe_int (fun _ _ => rfl)) (nomark _)))))), ?_⟩
    refine ⟨_, rfl, rfl, _, rfl, ?_⟩
    by_cases e : p = 15
    . subst e
      refine iteF' (by decide) ?_
      match ns, hl rfl, hq, k with
      | x :: y :: r, _, hq, k =>
        refine ⟨_, rfl, q, _, 1, _, rfl, rfl, SqL.of hq, atI_nat (show ((x :: y :: r).map V.int)[1]? = some (.int y) from rfl), _, rfl, q, _, 0, _, rfl, rfl, SqL.of hq, atI_nat (show ((x :: y :: r).map V.int)[0]? = some (.int x) from rfl), _, _, rfl, rfl, ?_⟩
        exact k
    . have k1 : M.attThere p ns = true := M.att_no e
      rw [k1] at k
      refine iteT' (by simpa using e) ?_
      exact k
theorem ok_early (T : Txt K mg a) : COk P w K mg base 2 "early_refusal" (spEarly a) := by
  have sc := sc_early_refusal
  have C_all_in_range := ok_range (P := P) (w := w) (base := base) T
  have C_row_as_told := ok_rowT (P := P) (w := w) (base := base) T
  have C_all_rooms_there := ok_there (P := P) (w := w) (base := base) T
  have C_attendant_there := ok_att (P := P) (w := w) (base := base) T
  refine T.d_early_refusal.ok sc (fun vs H Q E h => ?_) (fun f cdv A outer s H vs Q E hr h => ?_)
  . obtain ⟨v, h, p, q, rq, ns, row, bs, rfl, _⟩ := h; rfl
  . obtain ⟨v, h, p, q, rq, ns, row, bs, rfl, hv, hq, hrq, ep, hl, k⟩ := h
    refine ⟨_, (pss_cons (ps_if (PW.pt (pw_or (pt_not (pt_val (pe_callN C_all_in_range hr rfl (pa_cons (pv 1) (pa_cons (pv 2) pa_nil))))) (pw_or1 (pt_not (pt_val (pe_callN C_row_as_told hr rfl (pa_cons (pv 1) (pa_cons (pv 3) pa_nil)))))))) (pss_one (ps_ret (pe_gint rfl T.g_OUT_OF_RANGE))) pss_nil)
      (pss_cons (ps_if (pt_cmpR op_eq (pv 1) (pe_gint rfl T.g_BEGIN_HOUSE) (nomark _)) (pss_one (ps_ret (pe_gint rfl T.g_NOT_REFUSED))) pss_nil)
      (pss_cons (ps_if (pt_cmpR op_isN (pv 0) pe_non (nomark _)) (pss_one (ps_ret (pe_gint rfl T.g_NO_HOUSE))) pss_nil)
      (pss_cons (ps_if (PW.pt (pw_or (pt_not (pt_val (pe_callN C_all_rooms_there hr rfl (pa_cons (pv 0) (pa_cons (pv 1) (pa_cons (pv 2) pa_nil)))))) (pw_or1 (pt_not (pt_val (pe_callN C_attendant_there hr rfl (pa_cons (pv 1) (pa_cons (pv 2) pa_nil)))))))) (pss_one (ps_ret (pe_gint rfl T.g_NOT_THERE))) pss_nil)
      (pss_one (ps_ret (pe_gint rfl T.g_NOT_REFUSED))))))), ?_⟩
    have eE := early_eq (h := h) (ns := ns) (row := row) ep
    rw [eE] at k
    clear eE
    refine ⟨_, rfl, _, rfl, p, q, ns, bs, rfl, hq, ep, hl, fun H1 sm1 => ⟨_, rfl, ?_⟩⟩
    cases e1 : M.inR bs ns with
    | false =>
      rw [e1] at k
      exact iteT (iteT (k H1 sm1))
    | true =>
      rw [e1] at k
      refine iteF ⟨_, rfl, _, rfl, p, rq, row, rfl, sm1 _ _ hrq, fun H2 sm2 => ⟨_, rfl, ?_⟩⟩
      have sm := Same.trans' sm1 sm2
      cases e2 : M.rowOk p row with
      | false =>
        rw [e2] at k
        exact iteT (k H2 sm)
      | true =>
        rw [e2] at k
        have k : ∀ H', Same H H' -> Q (.int (if p = 0 then 0 else laterE h p ns)) H' := k
        refine iteF ⟨_, rfl, rfl, _, rfl, ite2 (fun c => ?_) (fun c => ?_)⟩
        . have c : p = 0 := by simpa using c
          rw [if_pos c] at k
          exact k H2 sm
        . have c : ¬ p = 0 := by simpa using c
          rw [if_neg c] at k
          match h, hv, k with
          | none, hv, k =>
            have hv : v = .non := hv
            subst hv
            exact ⟨_, rfl, rfl, _, rfl, iteT (k H2 sm)⟩
          | some h, hv, k =>
            obtain ⟨hp, l, as, rfl, hH⟩ := hv
            rw [later_some] at k
            refine ⟨_, rfl, rfl, _, rfl, iteF ⟨_, rfl, _, rfl, _, rfl, hp, l, as, h, p, q, ns, rfl, hH.same sm, sm _ _ hq, rn_pos p, fun H3 sm3 => ⟨_, rfl, ?_⟩⟩⟩
            have sm' := Same.trans' sm sm3
            cases e3 : M.roomsThere h p ns with
            | false =>
              rw [e3] at k
              exact iteT (iteT (k H3 sm'))
            | true =>
              rw [e3] at k
              refine iteF ⟨_, rfl, _, rfl, p, q, ns, rfl, sm' _ _ hq, fun z => ?_, _, rfl, ?_⟩
              . subst z
                have : bs = [(1, 8), (1, 8), (0, 1440)] := (Option.some.inj (ep.symm.trans (by decide)))
                rw [hl, this]; decide
              . cases e4 : M.attThere p ns with
                | false =>
                  rw [e4] at k
                  exact iteT (k H3 sm')
                | true =>
                  rw [e4] at k
                  exact iteF (k H3 sm')
theorem ok_rowAt (T : Txt K mg a) : COk P w K mg base 1 "row_at" (spRowAt K) := by
  have sc := sc_row_at
  refine T.d_row_at.ok sc (fun vs H Q E h => ?_) (fun f cdv A outer s H vs Q E hr h => ?_)
  . obtain ⟨cq, cs, p, at_, rfl, _⟩ := h; rfl
  . obtain ⟨cq, cs, p, at_, rfl, hc, k⟩ := h
    refine ⟨_, (pss_cons (ps_if (pt_cmp (pc_mnotin (pv 1) (pe_gref rfl T.r_ROWS))) (pss_one (ps_ret (pe_lst pa_nil))) pss_nil)
      (pss_one (ps_ret (pe_slice sl_list (pv 0) (po_some (pe_op op_add (pv 2) pe_int)) (po_some (pe_op op_add (pe_op op_add (pv 2) pe_int) (pe_ix ix_list (pv 0) (pv 2) (fun _ _ => rfl)))))))), ?_⟩
    obtain ⟨kvs, md, h1, h2⟩ := rows_at T
    rcases k with ⟨e, k⟩ | ⟨⟨b, e⟩, n, en, k⟩
    . refine ⟨_, rfl, a.mROWS, kvs, p, rfl, rfl, T.x_ROWS, md, _, rfl, iteT' (by rw [h2 p e]; rfl) ?_⟩
      exact ⟨Nat.zero_le _, fun q hq => k _ q (Same.new hq) upd_same⟩
    . obtain ⟨t, hv, kt⟩ := h1 p b e
      refine ⟨_, rfl, a.mROWS, kvs, p, rfl, rfl, T.x_ROWS, md, _, rfl, iteF' (by rw [hv]; simp) ?_⟩
      refine ⟨_, rfl, _, rfl, _, _, rfl, rfl, _, rfl, _, rfl, _, _, rfl, rfl, _, rfl, _, rfl, ixE (n := at_) rfl (hc) (v := .int (n : Int)) (by rw [List.getElem?_map, en]; rfl) ⟨_, _, rfl, rfl, _, rfl, cq, _, rfl, hc, fun q hq => k _ q (Same.new hq) ?_⟩⟩
      rw [upd_same, show (at_ : Int) + 1 = ((at_ + 1 : Nat) : Int) by omega, show ((at_ + 1 : Nat) : Int) + (n : Int) = ((at_ + 1 + n : Nat) : Int) by omega, cut_nat, show at_ + 1 + n - (at_ + 1) = n by omega, List.map_take, List.map_drop]
end
abbrev lamPos : Pos := ⟨304, 27, 304, 63⟩
abbrev lamQ : Str := ("due_ones_first" : Str) ++ ".<locals>." ++ "<lambda>"
structure Lam (K : PySem.W.Frag) (mg : Str -> Option Value) (base : Heap) (c P : Addr) : Prop where
  fn : ∃ f fd, Fun K "due_ones_first" "due_ones_first" s_due_ones_first f fd /\ mg "due_ones_first" = some (.ref f) /\ BA fd ["tasks"] /\ fd.code = .ref c
  hd : PySem.W.CodeHd base c P
  bm : ∃ bm o, mg "__builtins__" = some (.ref bm) /\ bm ≠ builtinsNs /\ base.get? bm = some o /\ o.cls = .type "module" /\ o.dict = some builtinsNs /\ o.data = .plain
def ButP (P : Addr) (H H' : Hp) : Prop := ∀ b o, b ≠ P -> H b = some o -> H' b = some o
theorem ButP.of {P : Addr} {H H' : Hp} (s : Same H H') : ButP P H H' := fun b o _ e => s b o e
theorem ButP.trans {P : Addr} {H H1 H2 : Hp} (x : ButP P H H1) (y : ButP P H1 H2) : ButP P H H2 := fun b o n e => y b o n (x b o n e)
abbrev LOk (P : Addr) (H : Hp) : Prop := LamOk P lamPos lamQ H
theorem LOk.ne {P : Addr} {H : Hp} (h : LOk P H) {b : Addr} {o : HO} (e : H b = some o) (no : ∀ ps, o ≠ .tbl ps) : b ≠ P := by
  rintro rfl
  rcases h with q | ⟨_, q, _⟩
  . rw [e] at q; exact no _ (Option.some.inj q)
  . rw [e] at q; exact no _ (Option.some.inj q)
theorem LOk.same {P : Addr} {H H' : Hp} (h : LOk P H) (s : Same H H') : LOk P H' := LamOk.grow h s
theorem TasksAt.butP {a : Ad} {P : Addr} {H H' : Hp} (l : LOk P H) (b : ButP P H H') {q : Addr} {ds : List Vbhoak.Duty} (h : TasksAt a H q ds) : TasksAt a H' q ds := by
  obtain ⟨ts, e, p⟩ := h
  refine ⟨ts, b _ _ (l.ne e (by intro ps z; cases z)) e, Paired.mapP p fun t x ⟨dx, e⟩ => ⟨dx, b _ _ (l.ne e (by intro ps z; cases z)) e⟩⟩
theorem HouseAt.butP {a : Ad} {P : Addr} {H H' : Hp} (lo : LOk P H) (b : ButP P H H') {hp l : Addr} {as : List Addr} {h : Vbhoak.House} (hH : HouseAt a H hp l as h) : HouseAt a H' hp l as h :=
  ⟨let ⟨dx, e⟩ := hH.obj; ⟨dx, b _ _ (lo.ne e (by intro ps z; cases z)) e⟩, b _ _ (lo.ne hH.lst (by intro ps z; cases z)) hH.lst, hH.nd, hH.len, fun j p r h1 h2 => let ⟨dx, e⟩ := hH.at_ j p r h1 h2; ⟨dx, b _ _ (lo.ne e (by intro ps z; cases z)) e⟩, hH.out⟩
def spDueF (a : Ad) (P : Addr) : Sp := fun vs H Q _ => ∃ (q : Addr) (ds : List Vbhoak.Duty), vs = [.ref q] /\ TasksAt a H q ds /\ ds.length <= 30 /\ ds.Pairwise (fun x y => x.room < y.room) /\ LOk P H /\
  ∀ H' q', LOk P H' -> ButP P H H' -> H q' = none -> TasksAt a H' q' (Vbhoak.ordered ds) -> Q (.ref q') H'
theorem tasks_of_ys {a : Ad} {H : Hp} : ∀ {ys : List (V × Vbhoak.Duty)}, (∀ y ∈ ys, ∃ p, y.1 = .ref p /\ TaskAt a H p y.2) -> ∃ ts : List Addr, ys.map (·.1) = ts.map V.ref /\ Paired (TaskAt a H) ts (ys.map (·.2))
  | [], _ => ⟨[], rfl, .nil⟩
  | y :: ys, h => by
    obtain ⟨p, e, t⟩ := h y (by simp)
    obtain ⟨ts, e2, t2⟩ := tasks_of_ys (ys := ys) fun z hz => h z (List.mem_cons_of_mem _ hz)
    exact ⟨p :: ts, by rw [List.map_cons, e, e2]; rfl, .cons t t2⟩
theorem ys_of_tasks {a : Ad} {H : Hp} {ts : List Addr} {ds : List Vbhoak.Duty} (h : Paired (TaskAt a H) ts ds) : ∃ xs : List (V × Vbhoak.Duty), xs.map (·.1) = ts.map V.ref /\ xs.map (·.2) = ds /\ ∀ y ∈ xs, ∃ p, y.1 = .ref p /\ TaskAt a H p y.2 := by
  induction h with
  | nil => exact ⟨[], rfl, rfl, fun y hy => absurd hy (by simp)⟩
  | @cons p d ps ds t r ih =>
    obtain ⟨xs, e1, e2, h⟩ := ih
    refine ⟨(.ref p, d) :: xs, by rw [List.map_cons, e1]; rfl, by rw [List.map_cons, e2], fun y hy => ?_⟩
    rcases List.mem_cons.mp hy with z | z
    . rw [z]; exact ⟨p, rfl, t⟩
    . exact h y z
theorem paired_app {α β : Type} {F : α -> β -> Prop} : ∀ {l l2 : List α} {m m2 : List β}, Paired F l m -> Paired F l2 m2 -> Paired F (l ++ l2) (m ++ m2)
  | _, _, _, _, .nil, h => h
  | _, _, _, _, .cons r t, h => .cons r (paired_app t h)
theorem filter_take {α : Type} (f : α -> Bool) {l : List α} {i : Nat} {x : α} (h : l[i]? = some x) : (l.take (i + 1)).filter f = (l.take i).filter f ++ if f x = true then [x] else [] := by
  rw [List.take_add_one, h, List.filter_append]
  cases e : f x <;> simp [e]
section
variable {P : Program} {w : World} {K : PySem.W.Frag} {mg : Str -> Option Value} {base : Heap} {a : Ad} {c PT : Addr}
theorem keep_some (T : Txt K mg a) {i : Nat} {tt : TT} {vs : List Nat} {σ : L2.St} {H : Hp} {Q : VK} {q : Addr} {ds : List Vbhoak.Duty} (f : Vbhoak.Duty -> Bool) (hT : TasksAt a H q ds) (hd : ds.length <= 30) (h0 : σ[0]? = some (some (.ref q)))
    (hw : ∀ v : V, wipe ((wipe σ vs).set i (some v)) vs = wipe σ vs) (hv : ∀ v : V, ((wipe σ vs).set i (some v))[i]? = some (some v))
    (ht : ∀ (p : Addr) (t : Vbhoak.Duty) (H' : Hp) (R : Bool -> Hp -> Prop), TaskAt a H' p t -> R (f t) H' -> tt ((wipe σ vs).set i (some (.ref p))) H' R)
    (k : ∀ H' D, Same H H' -> H D = Option.none -> TasksAt a H' D (ds.filter f) -> Q (.ref D) H') : tLc (iList K (tVar 0)) (gName i) tt (tVar i) vs σ H Q := by
  obtain ⟨ts, e, pr⟩ := hT
  refine lc_l (mono_var 0) ⟨_, h0, q, ts.map V.ref, rfl, SqL.of e, fun D hD => ⟨fun j H' => Same H H' /\ TasksAt a H' D ((ds.take j).filter f), ⟨Same.new hD, [], upd_same, .nil⟩, fun j H' _ ⟨sm, _⟩ => SqL.of (sm _ _ e), ?_, ?_⟩⟩
  . rintro j x H' hx ⟨sm, tA⟩
    obtain ⟨p, hp, rfl⟩ := of_refs hx
    obtain ⟨t, ht1, tA1⟩ := paired_at pr hp
    have e0 := filter_take f ht1
    dsimp only [gName]
    refine ⟨hw _, ht p t H' _ (tA1.grow sm) ?_⟩
    cases ef : f t with
    | true =>
      rw [ef, if_pos rfl] at e0
      refine iteT ⟨_, hv _, ?_⟩
      obtain ⟨us, eu, pu⟩ := tA
      refine ⟨_, eu, ?_, fun b o eb => ?_, us ++ [p], by rw [upd_same, List.map_append]; rfl, ?_⟩
      . have := Paired.length pu
        have := List.length_filter_le f (ds.take j)
        rw [List.length_take] at this
        rw [List.length_map, sizeLine_eq]
        omega
      . rw [upd_ne (ne_of_none eb hD)]; exact sm _ _ eb
      . rw [e0]
        refine paired_snoc (Paired.mapP pu fun z d ez => ?_) ?_
        . obtain ⟨dq, y⟩ := ez
          exact ⟨dq, by rw [upd_ne (ne_of y eu (by intro w; cases w))]; exact y⟩
        . obtain ⟨dq, y⟩ := tA1.grow sm
          exact ⟨dq, by rw [upd_ne (ne_of y eu (by intro w; cases w))]; exact y⟩
    | false =>
      rw [ef, if_neg (by decide), List.append_nil] at e0
      refine iteF ⟨sm, ?_⟩
      rw [e0]; exact tA
  . rintro H' ⟨sm, tA⟩
    rw [List.length_map, Paired.length pr, List.take_length] at tA
    exact k H' D sm hD tA
theorem sc_lam : FnScope ["task"] ["task"] { kind := .function, names := [(Str.ofString "task", .local)], isGenerator := false, isCoroutine := false, more := [] } := ⟨rfl, rfl, rfl, by decide +kernel, rfl, by decide +kernel, by decide +kernel⟩
def kDuty (d : Vbhoak.Duty) : K2 := ((d.due : Int), (d.room : Int))
theorem ok_dueF (T : Txt K mg a) (L : Lam K mg base c PT) : COk P w K mg base 5 "due_ones_first" (spDueF a PT) := by
  have sc := sc_due_ones_first
  refine Def.okc L.fn sc (fun vs H Q E h => ?_) (fun f A outer s H vs Q E hr h => ?_)
  . obtain ⟨q, ds, rfl, _⟩ := h; rfl
  . obtain ⟨q, ds, rfl, hT, hl, hs, lo, k⟩ := h
    have LX : LamCx (cxOf CX0 P w K mg base ["tasks", "due", "others", "task"] "due_ones_first" (defScope s_due_ones_first) f (.ref c) A outer s H E).nox c PT := ⟨rfl, L.hd, L.bm⟩
    refine ⟨_, (pss_cons (ps_setLc (tt := tTest (tOp rNe (tFld K (tVar 3) "due") (tC (.int 0)))) (te := tVar 3) (i := 1) rfl sc.nd rfl rfl (sw_true rfl rfl rfl rfl) (pi_list (pv 0)) (blkOk_by (own := [("task", 3)]) (by kernel_rfl)) (fun _ _ _ _ _ => (pg_name (i := 3) sc.nd rfl (Or.inl rfl))) (fun _ _ _ _ _ => (pts_one (pt_cmpR op_ne (pe_fld (pv 3) rfl) pe_int (nomark _)))) (fun _ _ _ _ _ => (pv 3)))
      (pss_cons (ps_setLc (tt := tTest (tOp rEq (tFld K (tVar 3) "due") (tC (.int 0)))) (te := tVar 3) (i := 2) rfl sc.nd rfl rfl (sw_true rfl rfl rfl rfl) (pi_list (pv 0)) (blkOk_by (own := [("task", 3)]) (by kernel_rfl)) (fun _ _ _ _ _ => (pg_name (i := 3) sc.nd rfl (Or.inl rfl))) (fun _ _ _ _ _ => (pts_one (pt_cmpR op_eq (pe_fld (pv 3) rfl) pe_int (nomark _)))) (fun _ _ _ _ _ => (pv 3)))
      (pss_one (ps_ret (pe_op op_cat (pe_sortK (key := kDuty) (N := ["task"]) (tb := tTup (tCons (tFld K (tVar 0) "due") (tCons (tFld K (tVar 0) "number") tNil))) rfl T.b_sorted (hr.mono (by decide)) LX (pv 1) rfl rfl (fun q => ⟨rfl, trivial⟩) sc_lam rfl (fun _ _ _ _ => rfl) (fun _ _ _ _ _ _ => pe_tup (pa_cons (pe_fld (pv 0) rfl) (pa_cons (pe_fld (pv 0) rfl) pa_nil)))) (pv 2)))))), ?_⟩
    dsimp only [tSeq, tAsg, gName]
    refine keep_some (i := 3) T M.isDue hT hl rfl (fun _ => rfl) (fun _ => rfl) (fun p t H' R tA r => ?_) fun H1 D1 sm1 n1 tA1 => ?_
    . have e : M.isDue t = !decide (V.int (t.due : Int) = V.int 0) := by
        unfold M.isDue
        by_cases z : t.due = 0 <;> simp [z]
      rw [e] at r
      dsimp only [tTest, tOp, tC]
      exact T.rd_tdue tA rfl ⟨rfl, _, rfl, r⟩
    refine keep_some (i := 3) T (fun t => !M.isDue t) (hT.grow sm1) hl rfl (fun _ => rfl) (fun _ => rfl) (fun p t H' R tA r => ?_) fun H2 D2 sm2 n2 tA2 => ?_
    . have e : (!M.isDue t) = decide (V.int (t.due : Int) = V.int 0) := by
        unfold M.isDue
        by_cases z : t.due = 0 <;> simp [z]
      rw [e] at r
      dsimp only [tTest, tOp, tC]
      exact T.rd_tdue tA rfl ⟨rfl, _, rfl, r⟩
    obtain ⟨us, eu, pu⟩ := tA1.grow sm2
    obtain ⟨xs, ex1, ex2, hxs⟩ := ys_of_tasks pu
    have lo2 : LOk PT H2 := (lo.same sm1).same sm2
    have hxl : xs.length <= 30 := by
      rw [<- List.length_map (·.2), ex2]
      exact Nat.le_trans (List.length_filter_le _ _) hl
    refine ⟨_, rfl, D1, xs, fun H' => ∀ y ∈ xs, ∃ p, y.1 = .ref p /\ TaskAt a H' p y.2, rfl, by omega, lo2, fun H3 b3 => ⟨fun y hy => ?_, ?_⟩, fun H3 q3 o g hq => fun y hy => ?_, fun i x d H3 Q' hx g hq => ?_, fun ys H3 D yp yso b3 lo3 hD => ?_⟩
    . obtain ⟨p, e1, dx, e2⟩ := hxs y hy
      exact ⟨p, e1, dx, b3 _ _ (lo2.ne e2 (by intro ps z; cases z)) e2⟩
    . rw [ex1]
      exact SqL.of (b3 _ _ (lo2.ne eu (by intro ps z; cases z)) eu)
    . obtain ⟨p, e1, e2⟩ := g y hy
      exact ⟨p, e1, e2.grow (Same.new hq)⟩
    . obtain ⟨p, e1, tA⟩ := g (x, d) (List.mem_of_getElem? hx)
      have e1 : x = .ref p := e1
      subst e1
      dsimp only [tTup, tCons, tNil]
      exact T.rd_tdue tA rfl (T.rd_tnum tA rfl ⟨(by show 2 <= sizeLine; decide), hq⟩)
    . have lo3 : LOk PT H3 := lo3
      have tA2' : TasksAt a H3 D2 (ds.filter fun t => !M.isDue t) := tA2.butP lo2 b3
      obtain ⟨us2, eu2, pu2⟩ := id tA2'
      have sD := Same.new (o := .lst (ys.map (·.1))) hD
      have hys : ∀ y ∈ ys, ∃ p, y.1 = .ref p /\ TaskAt a H3 p y.2 := fun y hy => by
        obtain ⟨p, e1, dx, e2⟩ := hxs y (yp.subset hy)
        exact ⟨p, e1, dx, b3 _ _ (lo2.ne e2 (by intro ps z; cases z)) e2⟩
      obtain ⟨vs, ev, pv'⟩ := tasks_of_ys hys
      refine ⟨_, rfl, D, D2, _, _, rfl, rfl, upd_same, sD _ _ eu2, ?_, fun q9 hq9 => ?_⟩
      . have l1 := yp.length_eq
        have l2 := Paired.length pu2
        have l3 := List.length_filter_le (fun t => !M.isDue t) ds
        rw [List.length_map, List.length_map, sizeLine_eq]
        omega
      . have s9 := Same.new (o := .lst (ys.map (·.1) ++ us2.map V.ref)) hq9
        have sA := Same.trans' sD s9
        have perm : (ys.map (·.2)).Perm (ds.filter M.isDue) := by rw [<- ex2]; exact yp.map _
        have srt : (ys.map (·.2)).Pairwise M.keyLe := by
          rw [List.pairwise_map]
          refine yso.imp fun {x y} h => ?_
          unfold le2 kDuty at h
          unfold M.keyLe
          dsimp only at h
          omega
        have eo := M.order_is hs perm srt
        have bb : ButP PT H (upd (upd H3 D (.lst (ys.map (·.1)))) q9 (.lst (ys.map (·.1) ++ us2.map V.ref))) := fun b o n e => sA _ _ (b3 _ _ n (sm2 _ _ (sm1 _ _ e)))
        have lo9 := (lo3.same sD).same s9
        refine k _ q9 lo9 bb ?_ ⟨vs ++ us2, ?_, ?_⟩
        . cases e : H q9 with
          | none => rfl
          | some o =>
            by_cases n : q9 = PT
            . subst n
              rcases lo3.same sD with y | ⟨_, y, _⟩ <;> (rw [hq9] at y; cases y)
            . have y := sD _ _ (b3 _ _ n (sm2 _ _ (sm1 _ _ e)))
              rw [hq9] at y; cases y
        . rw [upd_same, ev, List.map_append]
        . rw [<- eo]
          exact paired_app (Paired.mapP pv' fun t x e => TaskAt.grow e sA) (Paired.mapP pu2 fun t x e => TaskAt.grow e sA)
end
def spOpL (a : Ad) (P : Addr) (pre : Vbhoak.House -> List Int -> Vbhoak.Call -> Prop) : Sp := fun vs H Q _ => ∃ (hp l : Addr) (as : List Addr) (h : Vbhoak.House) (np : Addr) (ns : List Int) (c : Vbhoak.Call),
  vs = [.ref hp, .ref np] /\ HouseAt a H hp l as h /\ Good h /\ LOk P H /\ H np = some (.lst (ns.map V.int)) /\ pre h ns c /\
  ∀ H' q, H q = Option.none -> HouseAt a H' hp l as (Vbhoak.onHouse h c).1 -> LOk P H' -> H' q = some (.lst ((Vbhoak.onHouse h c).2.map V.int)) -> ChS H H' (P :: hp :: as) -> Q (.ref q) H'
theorem LOk.chS {a : Ad} {P : Addr} {H H' : Hp} {hp l : Addr} {as : List Addr} {h : Vbhoak.House} (lo : LOk P H) (hH : HouseAt a H hp l as h) (c : ChS H H' (hp :: as)) : LOk P H' := by
  have out : ∀ {b : Addr} {o : HO}, H b = some o -> (∀ C dx fs, o ≠ .ins C dx fs) -> b ∉ hp :: as := fun {b o} e no m => by
    rcases List.mem_cons.mp m with z | z
    . subst z
      obtain ⟨dx, q⟩ := hH.obj
      rw [e] at q
      exact no _ _ _ (Option.some.inj q)
    . obtain ⟨j, hj⟩ := List.mem_iff_getElem?.mp z
      have hjl := (List.getElem?_eq_some_iff.mp hj).1
      obtain ⟨dx, q⟩ := hH.at_ j b _ hj (List.getElem?_eq_getElem (by rw [<- hH.len]; exact hjl))
      rw [e] at q
      exact no _ _ _ (Option.some.inj q)
  rcases lo with e | ⟨c', e, e2⟩
  . exact .inl (c _ _ e (out e (by intro _ _ _ z; cases z)))
  . exact .inr ⟨c', c _ _ e (out e (by intro _ _ _ z; cases z)), c _ _ e2 (out e2 (by intro _ _ _ z; cases z))⟩
theorem op_lift {a : Ad} {PT : Addr} {pre : Vbhoak.House -> List Int -> Vbhoak.Call -> Prop} : ∀ vs H Q E, spOpL a PT pre vs H Q E -> spOp a pre vs H Q E := fun vs H Q E ⟨hp, l, as, h, np, ns, c, e, hH, hg, lo, hN, hp', k⟩ =>
  ⟨hp, l, as, h, np, ns, c, e, hH, hg, hN, hp', fun H' q h0 h1 h2 h3 => k H' q h0 h1 (lo.chS hH h3) h2 fun b o eb n => h3 b o eb fun z => n (List.mem_cons_of_mem _ z)⟩
theorem mono_cut {te : TE} : Mono (tCutV te) := fun _ _ _ _ hQ ⟨R, h1, h2⟩ => ⟨R, h1, fun v H' r => hQ _ _ (h2 v H' r)⟩
theorem load_take {l : List Vbhoak.Duty} {i : Nat} {x : Vbhoak.Duty} (h : l[i]? = some x) : Vbhoak.load (l.take (i + 1)) = Vbhoak.load (l.take i) + x.minutes := by
  rw [List.take_add_one, h, M.load_eq, M.load_eq]
  simp [M.mins]
theorem times_take {t : Nat} {l : List Vbhoak.Duty} {i : Nat} {x : Vbhoak.Duty} (h : l[i]? = some x) : Vbhoak.timesFrom t (l.take (i + 1)) = Vbhoak.timesFrom t (l.take i) ++ [(x, t + Vbhoak.load (l.take (i + 1)))] := by
  rw [load_take h, List.take_add_one, h]
  show Vbhoak.timesFrom t (l.take i ++ [x]) = _
  rw [M.times_snoc, Nat.add_assoc]
theorem times_len : ∀ (t : Nat) (l : List Vbhoak.Duty), (Vbhoak.timesFrom t l).length = l.length
  | _, [] => rfl
  | t, x :: l => by rw [Vbhoak.timesFrom, List.length_cons, times_len _ l, List.length_cons]
theorem lates_len (s : List (Vbhoak.Duty × Nat)) : (M.lates s).length <= s.length := by
  unfold M.lates
  rw [List.length_map]
  exact List.length_filter_le _ _
theorem ordered_len {l : List Vbhoak.Duty} : (Vbhoak.ordered l).length = l.length := by
  unfold Vbhoak.ordered
  induction l with
  | nil => rfl
  | cons x l ih => rw [List.foldr_cons, (M.put_perm x _).length_eq, List.length_cons, List.length_cons, ih]
section
variable {P : Program} {w : World} {K : PySem.W.Frag} {mg : Str -> Option Value} {base : Heap} {a : Ad} {c PT : Addr}
theorem ok_order (T : Txt K mg a) (L : Lam K mg base c PT) : COk P w K mg base 6 "order_told" (spOpL a PT fun h ns c => ∃ k j t : Nat, ns = [(k : Int), (j : Int), (t : Int)] /\ 1 <= k /\ k <= 8 /\ 1 <= j /\ j <= k /\ c = .order k j t) := by
  have sc := sc_order_told
  have C_tasks_of := ok_tasks (P := P) (w := w) (base := base) T
  have C_minutes_in_order := ok_mins (P := P) (w := w) (base := base) T
  have C_row_of := ok_row (P := P) (w := w) (base := base) T
  have C_parting_told := ok_part (P := P) (w := w) (base := base) T
  have C_due_ones_first := ok_dueF (P := P) (w := w) (base := base) T L
  refine T.d_order_told.ok sc (fun vs H Q E h => ?_) (fun f cdv A outer s H vs Q E hr h => ?_)
  . obtain ⟨hp, l, as, h, np, ns, c, rfl, _⟩ := h; rfl
  . obtain ⟨hp, l, as, h, np, ns, c, rfl, hH, hg, lo, hN, ⟨n, j, t0, rfl, hn1, hn8, hj1, hjn, rfl⟩, k⟩ := h
    refine ⟨_, (pss_cons (ps_set (i := 2) sc.nd rfl (Or.inl rfl) (pe_callN C_tasks_of (hr.mono (by decide)) rfl (pa_cons (pv 0) pa_nil)))
      (pss_cons (ps_set (i := 3) sc.nd rfl (Or.inl rfl) (pe_callN C_parting_told (hr.mono (by decide)) rfl (pa_cons (pe_callN C_minutes_in_order (hr.mono (by decide)) rfl (pa_cons (pv 2) pa_nil)) (pa_cons (pe_ix ix_list (pv 1) pe_int (fun _ _ => rfl)) pa_nil))))
      (pss_cons (ps_set (i := 4) sc.nd rfl (Or.inl rfl) (pe_ix ix_list (pv 3) (pe_op op_sub (pe_ix ix_list (pv 1) pe_int (fun _ _ => rfl)) pe_int) (fun _ _ => rfl)))
      (pss_cons (ps_set (i := 5) sc.nd rfl (Or.inl rfl) (pe_ix ix_list (pv 1) pe_int (fun _ _ => rfl)))
      (pss_cons (ps_set (i := 6) sc.nd rfl (Or.inl rfl) (pe_lst pa_nil))
      (pss_cons (ps_set (i := 7) sc.nd rfl (Or.inl rfl) (pe_lst pa_nil))
      (pss_cons (ps_for PassesOwn.never rfl (pi_list (pe_cut (pe_callN C_due_ones_first (hr.mono (by decide)) rfl (pa_cons (pe_slice sl_list (pv 2) (po_some (pe_ix ix_tup (pv 4) pe_int (fun _ _ => rfl))) (po_some (pe_ix ix_tup (pv 4) pe_int (fun _ _ => rfl)))) pa_nil)))) (pg_name (i := 8) sc.nd rfl (Or.inl rfl)) (pss_cons (ps_set (i := 5) sc.nd rfl (Or.inl rfl) (pe_op op_add (pv 5) (pe_fld (pv 8) rfl)))
      (pss_cons (ps_expr (pe_bm PySem.F.plainAttrs_list PySem.F.slot_list_extend PySem.F.type_list_extend mt_extend (pv 7) (pa_cons (pe_lst (pa_cons (pe_fld (pv 8) rfl) (pa_cons (pv 5) pa_nil))) pa_nil)))
      (pss_one (ps_if (pt_cmpR op_ne (pe_fld (pv 8) rfl) pe_int (nomark _)) (pss_one (ps_expr (pe_bm PySem.F.plainAttrs_list PySem.F.slot_list_append PySem.F.type_list_append mt_append (pv 6) (pa_cons (pe_op op_sub (pv 5) (pe_fld (pv 8) rfl)) pa_nil)))) pss_nil)))))
      (pss_cut (ps_set (i := 9) sc.nd rfl (Or.inl rfl) (pe_ifExp (pt_cmpR op_gt (pe_callB call_len_seq (by rfl) T.b_len PySem.boot_len (pa_cons (pv 6) pa_nil)) pe_int (nomark _)) (pe_lst (pa_cons pe_int (pa_cons (pe_callB (cr_max rfl) (by rfl) T.b_max boot_max (pa_cons (pv 6) pa_nil)) pa_nil))) (pe_lst (pa_cons pe_int (pa_cons pe_int pa_nil)))))
      (pss_one (ps_ret (pe_op op_cat (pe_op op_cat (pe_lst (pa_cons (pe_gint rfl T.g_ACCEPTED) pa_nil)) (pv 9)) (pe_callN C_row_of (hr.mono (by decide)) rfl (pa_cons (pv 7) pa_nil))))))))))))), ?_⟩
    have hlen := tasks_len hg
    have hload := tasks_load hg
    have hsort := M.tasks_sorted h
    refine ⟨_, rfl, hp, l, as, h, rfl, hH, hg, fun H1 tq sm1 tA => ?_⟩
    refine ⟨_, rfl, tq, _, rfl, tA, by omega, fun H2 mq sm2 hm => ?_⟩
    have hN2 := sm2 _ _ (sm1 _ _ hN)
    generalize hD : Vbhoak.tasksOf h = ds at *
    refine ⟨_, rfl, np, _, 0, _, rfl, rfl, SqL.of hN2, rfl, mq, ds, n, rfl, hlen, hn1, hn8, by omega, hm, fun H3 sq sm3 pA => ?_⟩
    have hN3 := sm3 _ _ hN2
    obtain ⟨cl, csum⟩ := M.splitOf_len (l := ds) hn1
    have hjl : j - 1 < (M.pairs 0 (Vbhoak.splitOf ds n)).length := by rw [M.pairs_len, cl]; omega
    obtain ⟨x, hx⟩ : ∃ x, (M.pairs 0 (Vbhoak.splitOf ds n))[j - 1]? = some x := ⟨_, List.getElem?_eq_getElem hjl⟩
    obtain ⟨ys, tp, ey, ey2, ht⟩ := pA.at hx
    refine ⟨_, rfl, _, rfl, np, _, 1, _, rfl, rfl, SqL.of hN3, rfl, _, _, rfl, rfl, ixE (n := j - 1) (by omega) (SqL.of ey) ey2 ?_⟩
    refine ⟨_, rfl, np, _, 2, _, rfl, rfl, SqL.of hN3, rfl, Nat.zero_le _, fun lq hlq => ⟨Nat.zero_le _, fun pq hpq => ?_⟩⟩
    have s4 := Same.new (o := .lst []) hlq
    have s5 := Same.new (o := .lst []) hpq
    have sm35 := Same.trans' s4 s5
    have smH5 := Same.trans' (Same.trans' (Same.trans' sm1 sm2) sm3) sm35
    have sm15 := Same.trans' (Same.trans' sm2 sm3) sm35
    have tA5 := tA.grow sm15
    have ht5 := sm35 _ _ ht
    have lo5 := lo.same smH5
    have hl5 := s5 _ _ (upd_same (H := H3) (a := lq) (o := HO.lst []))
    have hp5 : upd (upd H3 lq (.lst [])) pq (.lst []) pq = some (.lst []) := upd_same
    have nlp : lq ≠ pq := ne_of_none upd_same hpq
    generalize upd (upd H3 lq (.lst [])) pq (.lst []) = H5 at smH5 tA5 ht5 lo5 hl5 hp5 ⊢
    let cs := (ds.drop x.1).take (x.2 - x.1)
    let os := Vbhoak.ordered cs
    have csl : cs.length <= 30 := by
      show ((ds.drop x.1).take (x.2 - x.1)).length <= 30
      rw [List.length_take, List.length_drop]; omega
    have osl : os.length = cs.length := ordered_len
    refine for_l mono_cut ⟨fun v H' => ∃ oq, v = .ref oq /\ TasksAt a H' oq os /\ LOk PT H' /\ ButP PT H5 H' /\ oq ≠ lq /\ oq ≠ pq, ?_, ?_⟩
    . refine ⟨_, rfl, _, rfl, tp, _, 0, _, rfl, rfl, SqT.of ht5, rfl, _, rfl, _, rfl, tp, _, 1, _, rfl, rfl, SqT.of ht5, rfl, _, rfl, ?_⟩
      obtain ⟨ts, te, pr⟩ := tA5
      refine ⟨tq, _, rfl, SqL.of te, fun q3 hq3 => ?_⟩
      have e4 : cutV (ts.map V.ref) (some (x.1 : Int)) (some (x.2 : Int)) = ((ts.drop x.1).take (x.2 - x.1)).map V.ref := by
        rw [cut_nat, List.map_take, List.map_drop]
      rw [e4]
      have s6 := Same.new (o := .lst (((ts.drop x.1).take (x.2 - x.1)).map V.ref)) hq3
      have pr2 : Paired (TaskAt a (upd H5 q3 (.lst (((ts.drop x.1).take (x.2 - x.1)).map V.ref)))) ((ts.drop x.1).take (x.2 - x.1)) cs := by
        have d : ∀ {α β : Type} {F : α -> β -> Prop} {l : List α} {m : List β}, Paired F l m -> ∀ i, Paired F (l.drop i) (m.drop i) := by
          intro α β F l m h
          induction h with
          | nil => intro i; simp; exact .nil
          | cons r t ih => intro i; cases i with
            | zero => exact .cons r t
            | succ i => exact ih i
        have tk : ∀ {α β : Type} {F : α -> β -> Prop} {l : List α} {m : List β}, Paired F l m -> ∀ i, Paired F (l.take i) (m.take i) := by
          intro α β F l m h
          induction h with
          | nil => intro i; simp; exact .nil
          | cons r t ih => intro i; cases i with
            | zero => exact .nil
            | succ i => exact .cons r (ih i)
        exact Paired.mapP (tk (d pr _) _) fun t d e => TaskAt.grow e s6
      refine ⟨q3, cs, rfl, ⟨_, upd_same, pr2⟩, csl, ?_, lo5.same s6, fun H6 oq lo6 b6 n6 tA6 => ⟨oq, rfl, tA6, lo6, (ButP.of s6).trans b6, ?_, ?_⟩⟩
      . exact (hsort.drop (i := x.1)).take (i := x.2 - x.1)
      . rintro rfl
        have := s6 _ _ hl5
        rw [n6] at this; cases this
      . rintro rfl
        have := s6 _ _ hp5
        rw [n6] at this; cases this
    rintro v H6 ⟨oq, rfl, tA6, lo6, b6, nol, nop⟩
    have hl6 := b6 _ _ (lo5.ne hl5 (by intro ps z; cases z)) hl5
    have hp6 := b6 _ _ (lo5.ne hp5 (by intro ps z; cases z)) hp5
    obtain ⟨ts, te, pr⟩ := id tA6
    let Kp : Hp -> Prop := fun H' => ∀ b o, b ≠ lq -> b ≠ pq -> H6 b = some o -> H' b = some o
    have kpT : ∀ {H' : Hp} {p : Addr} {d : Vbhoak.Duty}, Kp H' -> TaskAt a H6 p d -> TaskAt a H' p d := fun {H' p d} kp ⟨dx, e⟩ => ⟨dx, kp _ _ (ne_of e hl6 (by intro z; cases z)) (ne_of e hp6 (by intro z; cases z)) e⟩
    refine ⟨oq, ts.map V.ref, fun i σ H' => ∃ x8 : Option V, σ = [some (.ref hp), some (.ref np), some (.ref tq), some (.ref sq), some (.ref tp), some (.int ((t0 + Vbhoak.load (os.take i) : Nat) : Int)), some (.ref lq), some (.ref pq), x8, none] /\ Kp H' /\
      H' lq = some (.lst ((M.lates (Vbhoak.timesFrom t0 (os.take i))).map V.int)) /\ H' pq = some (.lst (((Vbhoak.timesFrom t0 (os.take i)).flatMap fun y => [(y.1.room : Int), (y.2 : Int)]).map V.int)), rfl, SqL.of te, ?_, ?_, ?_, ?_⟩
    . exact ⟨none, rfl, fun b o _ _ e => e, hl6, hp6⟩
    . rintro i σ H' _ ⟨_, _, kp, _⟩
      exact SqL.of (kp _ _ nol nop te)
    . rintro i v σ H' hi ⟨x8, rfl, kp, hl7, hp7⟩
      obtain ⟨p, hp1, rfl⟩ := of_refs hi
      obtain ⟨d, hd, tD⟩ := paired_at pr hp1
      have hios : i < os.length := (List.getElem?_eq_some_iff.mp hd).1
      have tD7 := kpT kp tD
      have eT := times_take (t := t0) hd
      have eL := load_take hd
      have e1 : ((t0 + Vbhoak.load (os.take i) : Nat) : Int) + (d.minutes : Int) = ((t0 + Vbhoak.load (os.take (i + 1)) : Nat) : Int) := by rw [eL]; omega
      refine ⟨_, rfl, ?_⟩
      refine T.rd_tmin tD7 rfl ⟨_, _, rfl, rfl, ?_⟩
      dsimp only [gName]
      rw [e1]
      refine ⟨_, rfl, .inl ⟨rfl, _, SqL.of hp7⟩, ?_⟩
      dsimp only [tCons, tNil, tLst]
      refine T.rd_tnum tD7 rfl ⟨_, rfl, (by show 2 <= sizeLine; decide), fun z hz => ⟨pq, z, _, _, rfl, rfl, Same.new hz _ _ hp7, upd_same, ?_, ?_⟩⟩
      . rw [List.length_map, flat2_len, times_len, List.length_take, sizeLine_eq]; show _ + 2 <= _; omega
      have sz := Same.new (o := .lst [.int (d.room : Int), .int ((t0 + Vbhoak.load (os.take (i + 1)) : Nat) : Int)]) hz
      have hp8 : upd (upd H' z (.lst [.int (d.room : Int), .int ((t0 + Vbhoak.load (os.take (i + 1)) : Nat) : Int)])) pq (.lst (((Vbhoak.timesFrom t0 (os.take i)).flatMap fun y => [(y.1.room : Int), (y.2 : Int)]).map V.int ++ [.int (d.room : Int), .int ((t0 + Vbhoak.load (os.take (i + 1)) : Nat) : Int)])) pq = some (.lst (((Vbhoak.timesFrom t0 (os.take (i + 1))).flatMap fun y => [(y.1.room : Int), (y.2 : Int)]).map V.int)) := by
        rw [upd_same, eT, List.flatMap_append, List.map_append]; rfl
      have hl8 : upd (upd H' z (.lst [.int (d.room : Int), .int ((t0 + Vbhoak.load (os.take (i + 1)) : Nat) : Int)])) pq (.lst (((Vbhoak.timesFrom t0 (os.take i)).flatMap fun y => [(y.1.room : Int), (y.2 : Int)]).map V.int ++ [.int (d.room : Int), .int ((t0 + Vbhoak.load (os.take (i + 1)) : Nat) : Int)])) lq = some (.lst ((M.lates (Vbhoak.timesFrom t0 (os.take i))).map V.int)) := by
        rw [upd_ne nlp]; exact sz _ _ hl7
      have kp8 : Kp (upd (upd H' z (.lst [.int (d.room : Int), .int ((t0 + Vbhoak.load (os.take (i + 1)) : Nat) : Int)])) pq (.lst (((Vbhoak.timesFrom t0 (os.take i)).flatMap fun y => [(y.1.room : Int), (y.2 : Int)]).map V.int ++ [.int (d.room : Int), .int ((t0 + Vbhoak.load (os.take (i + 1)) : Nat) : Int)]))) := fun b o n1 n2 e => by
        rw [upd_ne n2]; exact sz _ _ (kp b o n1 n2 e)
      generalize upd (upd H' z (.lst [.int (d.room : Int), .int ((t0 + Vbhoak.load (os.take (i + 1)) : Nat) : Int)])) pq (.lst (((Vbhoak.timesFrom t0 (os.take i)).flatMap fun y => [(y.1.room : Int), (y.2 : Int)]).map V.int ++ [.int (d.room : Int), .int ((t0 + Vbhoak.load (os.take (i + 1)) : Nat) : Int)])) = H8 at hp8 hl8 kp8 ⊢
      have tD8 := kpT kp8 tD
      have eLt := M.lates_snoc (Vbhoak.timesFrom t0 (os.take i)) (d, t0 + Vbhoak.load (os.take (i + 1)))
      rw [<- eT] at eLt
      dsimp only [tIfS, tB, tTest, tOp, tC, tDrop]
      refine T.rd_tdue tD8 rfl ⟨rfl, _, rfl, ite2 (fun c => ?_) (fun c => ?_)⟩
      . have c : ¬ d.due = 0 := by simpa using c
        rw [if_neg c] at eLt
        refine ⟨_, rfl, .inl ⟨rfl, _, SqL.of hl8⟩, _, rfl, ?_⟩
        dsimp only [tCons, tNil, tOp]
        refine T.rd_tdue tD8 rfl ⟨_, _, rfl, rfl, lq, _, _, rfl, rfl, hl8, ?_, ?_⟩
        . have l1 := lates_len (Vbhoak.timesFrom t0 (os.take i))
          rw [times_len, List.length_take] at l1
          rw [List.length_map, sizeLine_eq]; omega
        . refine ⟨_, rfl, fun b o n1 n2 e => by rw [upd_ne n1]; exact kp8 b o n1 n2 e, ?_, ?_⟩
          . rw [upd_same, eLt, List.map_append]; rfl
          . rw [upd_ne nlp.symm]; exact hp8
      . have c : d.due = 0 := by simpa using c
        rw [if_pos c, List.append_nil] at eLt
        exact ⟨_, rfl, kp8, by rw [eLt]; exact hl8, hp8⟩
    . rintro σ H7 ⟨x8, rfl, kp, hl7, hp7⟩
      have eos : (ts.map V.ref).length = os.length := by rw [List.length_map, Paired.length pr]
      rw [eos, List.take_length] at hl7 hp7
      have sl : (Vbhoak.timesFrom t0 os).length <= 30 := by rw [times_len, osl]; exact csl
      have lo7 : LOk PT H7 := by
        rcases lo6 with e | ⟨c', e, e2⟩
        . exact .inl (kp _ _ (ne_of e hl6 (by intro z; cases z)) (ne_of e hp6 (by intro z; cases z)) e)
        . exact .inr ⟨c', kp _ _ (ne_of e hl6 (by intro z; cases z)) (ne_of e hp6 (by intro z; cases z)) e, kp _ _ (ne_of e2 hl6 (by intro z; cases z)) (ne_of e2 hp6 (by intro z; cases z)) e2⟩
      have bH : ButP PT H H7 := fun b o n e => by
        have e3 := sm3 _ _ (sm2 _ _ (sm1 _ _ e))
        have e5 := smH5 _ _ e
        refine kp _ _ (ne_of_none e3 hlq) (fun z => ?_) (b6 _ _ n e5)
        have := s4 _ _ e3
        rw [z, hpq] at this; cases this
      have e9 : Vbhoak.onHouse h (.order n j t0) = (h, 0 :: (match Vbhoak.latest (Vbhoak.timesFrom t0 os) with
          | some d => [1, d]
          | none => [0, 0]) ++ Vbhoak.row ((Vbhoak.timesFrom t0 os).flatMap fun y => [(y.1.room : Int), (y.2 : Int)])) := by
        have e8 : (Vbhoak.stretches (Vbhoak.splitOf ds n) ds).getD (j - 1) [] = cs := by
          rw [M.stretches_pairs, List.getD_eq_getElem?_getD, List.getElem?_map, hx]; rfl
        unfold Vbhoak.onHouse
        rw [hD]
        dsimp only
        rw [e8, if_neg (by omega)]
        rfl
      let la : List Int := match Vbhoak.latest (Vbhoak.timesFrom t0 os) with
          | some d => [1, d]
          | none => [0, 0]
      have e9 : Vbhoak.onHouse h (.order n j t0) = (h, 0 :: la ++ Vbhoak.row ((Vbhoak.timesFrom t0 os).flatMap fun y => [(y.1.room : Int), (y.2 : Int)])) := e9
      refine ⟨fun σ' H' => ∃ zq, σ' = [some (.ref hp), some (.ref np), some (.ref tq), some (.ref sq), some (.ref tp), some (.int ((t0 + Vbhoak.load (os.take (ts.map V.ref).length) : Nat) : Int)), some (.ref lq), some (.ref pq), x8, some (.ref zq)] /\ Same H7 H' /\ H' zq = some (.lst (la.map V.int)) /\ la.length = 2, ?_, ?_⟩
      . have lenL : (((M.lates (Vbhoak.timesFrom t0 os)).map V.int).length : Int) = ((M.lates (Vbhoak.timesFrom t0 os)).length : Int) := by rw [List.length_map]
        refine ⟨_, rfl, lq, _, rfl, .inl (SqL.of hl7), _, _, rfl, rfl, _, rfl, ite2 (fun c => ?_) (fun c => ?_)⟩
        . have c : 0 < (M.lates (Vbhoak.timesFrom t0 os)).length := by
            rw [lenL] at c
            have := of_decide_eq_true c
            omega
          refine ⟨_, rfl, lq, _, rfl, SqL.of hl7, c, fun m hm1 hm2 => ⟨(by show 2 <= sizeLine; decide), fun zq hz => ⟨zq, rfl, Same.new hz, ?_⟩⟩⟩
          have el : la = [1, m] := by
            show (match Vbhoak.latest (Vbhoak.timesFrom t0 os) with
              | some d => [1, d]
              | none => [0, 0]) = _
            rw [M.latest_some hm1 hm2]
          rw [upd_same, el]; exact ⟨rfl, rfl⟩
        . have c : M.lates (Vbhoak.timesFrom t0 os) = [] := by
            refine List.eq_nil_of_length_eq_zero ?_
            rw [lenL] at c
            have c : ¬ (0 : Int) < ((M.lates (Vbhoak.timesFrom t0 os)).length : Int) := fun z => c (decide_eq_true z)
            omega
          refine ⟨(by show 2 <= sizeLine; decide), fun zq hz => ⟨zq, rfl, Same.new hz, ?_⟩⟩
          have el : la = [0, 0] := by
            show (match Vbhoak.latest (Vbhoak.timesFrom t0 os) with
              | some d => [1, d]
              | none => [0, 0]) = _
            rw [M.latest_none c]
          rw [upd_same, el]; exact ⟨rfl, rfl⟩
      . rintro σ' H8 ⟨zq, rfl, sm8, hz8, zl⟩
        refine ⟨(by show 1 <= sizeLine; decide), fun q1 h1 => ?_⟩
        have t1 := Same.new (o := .lst [.int 0]) h1
        refine ⟨_, rfl, q1, zq, _, _, rfl, rfl, upd_same, t1 _ _ hz8, ?_, fun q2 h2 => ?_⟩
        . rw [List.length_map, zl, sizeLine_eq]; show 1 + 2 <= _; omega
        have t2 := Same.new (o := .lst ([.int 0] ++ la.map V.int)) h2
        refine ⟨_, rfl, pq, _, rfl, t2 _ _ (t1 _ _ (sm8 _ _ hp7)), by rw [flat2_len]; omega, fun H9 q3 sm9 hq3 => ?_⟩
        refine ⟨q2, q3, _, _, rfl, rfl, sm9 _ _ upd_same, hq3, ?_, fun q4 h4 => ?_⟩
        . rw [List.length_map, row_len, flat2_len, List.length_append, List.length_map, zl, sizeLine_eq]; show 1 + 2 + _ <= _; omega
        have t4 := Same.new (o := .lst (([.int 0] ++ la.map V.int) ++ (Vbhoak.row ((Vbhoak.timesFrom t0 os).flatMap fun y => [(y.1.room : Int), (y.2 : Int)])).map V.int)) h4
        have smA := Same.trans' (Same.trans' (Same.trans' (Same.trans' sm8 t1) t2) sm9) t4
        have bA : ButP PT H _ := bH.trans (ButP.of smA)
        refine k _ q4 ?_ (by rw [e9]; exact hH.butP lo bA) (lo7.same smA) ?_ fun b o eb nb => bA _ _ (fun z => nb (by rw [z]; exact List.mem_cons_self ..)) eb
        . cases e : H q4 with
          | none => rfl
          | some o =>
            have smB := Same.trans' (Same.trans' (Same.trans' sm8 t1) t2) sm9
            by_cases n : q4 = PT
            . subst n
              rcases lo7.same smB with y | ⟨_, y, _⟩ <;> (rw [h4] at y; cases y)
            . have y := smB _ _ (bH _ _ n e)
              rw [h4] at y; cases y
        . rw [e9, upd_same, List.map_append]; rfl
end
end Z
namespace Z
open Vbhoak
theorem good_set {h : House} (g : Good h) {n : Nat} {r : Room} (gr : GoodR r) : Good (setRoom h n r) := by
  refine ⟨by show (h.rooms.set n r).length <= 30; rw [List.length_set]; exact g.len, g.heavy, g.light, g.check, fun x hx => ?_⟩
  rcases List.mem_or_eq_of_mem_set (show x ∈ h.rooms.set n r from hx) with z | z
  . exact g.rooms x z
  . rw [z]; exact gr
theorem good_on {h : House} (g : Good h) {n : Nat} {may : Room -> Bool} {f : Room -> Room} {told : Room -> Ans} (hf : ∀ r, GoodR r -> may r = true -> GoodR (f r)) (hl : ∀ r, (told r).length <= 200) : Good (onRoom h n may f told).1 /\ (onRoom h n may f told).2.length <= 200 := by
  unfold onRoom roomAt
  cases e : h.rooms[n]? with
  | none => exact ⟨g, by show 1 <= 200; decide⟩
  | some r =>
    dsimp only
    cases m : may r with
    | false =>
      rw [if_pos rfl]
      exact ⟨g, by show 1 <= 200; decide⟩
    | true =>
      rw [if_neg (by decide)]
      exact ⟨good_set g (hf r (g.rooms r (List.mem_of_getElem? e)) m), hl r⟩
theorem good_vac {r : Room} (g : GoodR r) : GoodR (vacated r) := ⟨by show 0 <= 2; decide, by show 0 <= 1440; decide, g.extra, by show 0 <= 2; decide, fun z => by cases (show false = true from z)⟩
theorem good_fil {r : Room} (g : GoodR r) : GoodR (filled r) := ⟨by show 1 <= 2; decide, by show 0 <= 1440; decide, g.extra, by show 0 <= 2; decide, fun z => by cases (show false = true from z)⟩
theorem wit_len (l : List Duty) (n : Nat) : (witnessOf l n).length = n + 1 := by
  unfold witnessOf
  dsimp only
  split
  . simp
  . have : ∀ k i, (marks l (leastLoad l n) k i).length = k := by
      intro k
      induction k with
      | zero => intro i; rfl
      | succ k ih => intro i; rw [marks, List.length_cons, ih]
    exact this _ _
theorem good_step {p : Int} {h : House} {ns : List Int} {c : Call} (g : Good h) (o : M.Opp p h ns c) : Good (onHouse h c).1 /\ (onHouse h c).2.length <= 200 := by
  have one : ∀ r : Room, ((fun _ => [0] : Room -> Ans) r).length <= 200 := fun _ => by show 1 <= 200; decide
  have tl := tasks_len g
  rcases o with ⟨_, n, _, _, rfl⟩ | ⟨_, n, _, _, rfl⟩ | ⟨_, n, m, _, _, _, rfl⟩ | ⟨_, _, rfl⟩ | ⟨_, n, b, d, _, _, hd, rfl⟩ | ⟨_, n, b, _, _, rfl⟩ | ⟨_, n, _, _, rfl⟩ | ⟨_, n, _, _, rfl⟩ | ⟨_, n, m, _, _, hm, rfl⟩ | ⟨_, n, m, _, _, hm, rfl⟩ | ⟨_, _, rfl⟩ | ⟨_, k, _, hk1, hk8, rfl⟩ | ⟨_, k, _, hk1, hk8, rfl⟩ | ⟨_, k, m, q, _, _, _, _, rfl⟩ | ⟨_, k, j, t, _, hk1, hk8, _, hj, rfl⟩ | ⟨_, _, rfl⟩ | ⟨_, n, b, _, _, rfl⟩ | ⟨_, n, _, _, rfl⟩ | ⟨_, _, rfl⟩ | ⟨_, _, rfl⟩ | ⟨_, b, _, hb, rfl⟩
  . exact good_on g (fun r gr _ => good_fil gr) one
  . exact good_on g (fun r gr _ => good_vac gr) one
  . show Good (match roomAt h n, roomAt h m with
      | some x, some y => if (x.taken && ready y) = false then (h, [-6]) else (setRoom (setRoom h n (vacated x)) m (filled y), [0])
      | _, _ => (h, [-3]) : House × Ans).1 /\ _
    unfold onHouse roomAt
    dsimp only
    cases e1 : h.rooms[n]? with
    | none => exact ⟨g, by show 1 <= 200; decide⟩
    | some x =>
      cases e2 : h.rooms[m]? with
      | none => exact ⟨g, by show 1 <= 200; decide⟩
      | some y =>
        dsimp only
        by_cases z : (x.taken && ready y) = false
        . rw [if_pos z]
          exact ⟨g, by show 1 <= 200; decide⟩
        . rw [if_neg z]
          exact ⟨good_set (good_set g (good_vac (g.rooms x (List.mem_of_getElem? e1)))) (good_fil (g.rooms y (List.mem_of_getElem? e2))), by show 1 <= 200; decide⟩
  . refine ⟨⟨by show (h.rooms.map _).length <= 30; rw [List.length_map]; exact g.len, g.heavy, g.light, g.check, fun x hx => ?_⟩, by show 2 <= 200; decide⟩
    obtain ⟨r, hr, rfl⟩ := List.mem_map.mp (show x ∈ h.rooms.map (fun r => if r.taken = true then (⟨true, 0, false, 0, r.extra, none, 0⟩ : Room) else ⟨r.taken, r.clean, r.shut, 0, r.extra, none, 0⟩) from hx)
    have gr := g.rooms r hr
    by_cases z : r.taken = true
    . rw [if_pos z]
      exact ⟨by show 0 <= 2; decide, by show 0 <= 1440; decide, gr.extra, by show 0 <= 2; decide, fun z => by cases (show false = true from z)⟩
    . rw [if_neg z]
      exact ⟨gr.clean, by show 0 <= 1440; decide, gr.extra, by show 0 <= 2; decide, fun z => ⟨(gr.shut z).1, (gr.shut z).2.1, rfl⟩⟩
  . refine good_on g (fun r gr m => ?_) fun _ => by show 2 <= 200; decide
    have ns : r.shut = false := by simpa using m
    refine ⟨?_, gr.due, gr.extra, ?_, fun z => ?_⟩
    . show (if d = 1 /\ r.clean = 0 then 1 else r.clean) <= 2
      have := gr.clean
      split <;> omega
    . show (if d = 0 then r.asked else d) <= 2
      have := gr.asked
      split <;> omega
    . have z : r.shut = true := z
      rw [ns] at z; cases z
  . refine good_on g (fun r gr m => ⟨?_, gr.due, gr.extra, gr.asked, fun z => by cases (show false = true from z)⟩) one
    show (if b = true then 2 else 0) <= 2
    split <;> omega
  . exact good_on g (fun r gr m => ⟨by show 0 <= 2; decide, by show 0 <= 1440; decide, gr.extra, by show 0 <= 2; decide, fun _ => ⟨rfl, rfl, rfl⟩⟩) one
  . exact good_on g (fun r gr m => good_vac gr) one
  . refine good_on g (fun r gr my => ⟨gr.clean, hm, gr.extra, gr.asked, fun z => ?_⟩) one
    have z : r.shut = true := z
    rw [z] at my
    cases (show false = true from my)
  . exact good_on g (fun r gr my => ⟨gr.clean, gr.due, hm, gr.asked, gr.shut⟩) one
  . refine ⟨g, ?_⟩
    show (0 :: (load (tasksOf h) : Int) :: row ((tasksOf h).flatMap fun t => [(t.room : Int), (t.minutes : Int)])).length <= 200
    rw [List.length_cons, List.length_cons, row_len, flat2_len]
    omega
  . refine ⟨g, ?_⟩
    show (0 :: (leastLoad (tasksOf h) k : Int) :: row ((stretches (splitOf (tasksOf h) k) (tasksOf h)).flatMap fun s => [(s.length : Int), (load s : Int)])).length <= 200
    rw [List.length_cons, List.length_cons, row_len, flat2_len, M.stretches_pairs, List.length_map, M.pairs_len, (M.splitOf_len hk1).1]
    omega
  . unfold onHouse
    dsimp only
    by_cases z : (tasksOf h).isEmpty = true
    . rw [if_pos z]
      exact ⟨g, by show 1 <= 200; decide⟩
    . rw [if_neg z]
      refine ⟨g, ?_⟩
      show (0 :: (leastLoad (tasksOf h) k : Int) :: row (nats (witnessOf (tasksOf h) k))).length <= 200
      rw [List.length_cons, List.length_cons, row_len, nats, List.length_map, wit_len]
      omega
  . exact ⟨g, by show 2 <= 200; decide⟩
  . unfold onHouse
    dsimp only
    rw [if_neg (by omega)]
    refine ⟨g, ?_⟩
    have e8 : ((stretches (splitOf (tasksOf h) k) (tasksOf h)).getD (j - 1) []).length <= 30 := by
      rw [M.stretches_pairs, List.getD_eq_getElem?_getD, List.getElem?_map]
      cases (M.pairs 0 (splitOf (tasksOf h) k))[j - 1]? with
      | none => simp
      | some x =>
        show (((tasksOf h).drop x.1).take (x.2 - x.1)).length <= 30
        rw [List.length_take, List.length_drop]; omega
    rw [List.length_append, List.length_cons, row_len, flat2_len, times_len, ordered_len]
    cases latest (timesFrom t (ordered ((stretches (splitOf (tasksOf h) k) (tasksOf h)).getD (j - 1) []))) with
    | none => show 2 + 1 + _ <= 200; omega
    | some d => show 2 + 1 + _ <= 200; omega
  . refine ⟨g, ?_⟩
    show (0 :: row ((h.rooms.zipIdx.filter fun x => differs x.1 != 0).flatMap fun x => [(x.2 : Int), (differs x.1 : Int)])).length <= 200
    rw [List.length_cons, row_len, flat2_len]
    have h1 := List.length_filter_le (fun x : Room × Nat => differs x.1 != 0) h.rooms.zipIdx
    rw [List.length_zipIdx] at h1
    have := g.len
    omega
  . refine good_on g (fun r gr my => ?_) one
    show GoodR (if b = false then ⟨r.taken, r.clean, r.shut, r.due, r.extra, none, r.asked⟩ else if r.taken = true then vacated r else ⟨true, r.clean, false, 0, r.extra, none, r.asked⟩)
    by_cases z : b = false
    . rw [if_pos z]
      exact ⟨gr.clean, gr.due, gr.extra, gr.asked, fun z => ⟨(gr.shut z).1, (gr.shut z).2.1, rfl⟩⟩
    . rw [if_neg z]
      by_cases z2 : r.taken = true
      . rw [if_pos z2]; exact good_vac gr
      . rw [if_neg z2]
        exact ⟨gr.clean, by show 0 <= 1440; decide, gr.extra, gr.asked, fun z => by cases (show false = true from z)⟩
  . unfold onHouse
    dsimp only
    unfold roomAt
    cases e1 : h.rooms[n]? with
    | none => exact ⟨g, by show 1 <= 200; decide⟩
    | some x => exact ⟨g, by show 7 <= 200; decide⟩
  . refine ⟨g, ?_⟩
    show (0 :: (h.day : Int) :: row ((List.range 6).map fun c => ((h.rooms.filter fun r => codeOf r == c).length : Int))).length <= 200
    rw [List.length_cons, List.length_cons, row_len, List.length_map, List.length_range]
    omega
  . refine ⟨g, ?_⟩
    show (0 :: row (nats (boardOf h))).length <= 200
    have z := M.joined_len (h.rooms.map nameOf) (fun x hx => by
      obtain ⟨r, hr1, rfl⟩ := List.mem_map.mp hx
      obtain ⟨_, _, _, e⟩ := name_at (g.rooms r hr1).clean
      exact e)
    rw [List.length_map] at z
    have z2 : (boardOf h).length <= 3 * h.rooms.length := z
    have := g.len
    rw [List.length_cons, row_len, nats, List.length_map]
    omega
  . unfold onHouse
    dsimp only
    cases e : codesIn (b.length + 1) b with
    | none => exact ⟨g, by show 1 <= 200; decide⟩
    | some cs =>
      dsimp only
      by_cases z : cs.length ≠ h.rooms.length
      . rw [if_pos z]; exact ⟨g, by show 1 <= 200; decide⟩
      . rw [if_neg z]
        refine ⟨⟨?_, g.heavy, g.light, g.check, fun x hx => ?_⟩, by show 1 <= 200; decide⟩
        . show ((h.rooms.zip cs).map _).length <= 30
          rw [List.length_map, List.length_zip]
          have := g.len
          omega
        . obtain ⟨⟨r, c⟩, hr, rfl⟩ := List.mem_map.mp (show x ∈ (h.rooms.zip cs).map (fun x => ofCode x.1 x.2) from hx)
          obtain ⟨m1, m2⟩ := List.of_mem_zip hr
          have gr := g.rooms r m1
          have hc := codes_small _ _ _ e c m2
          match c, hc with
          | 0, _ => exact ⟨by show 0 <= 2; decide, gr.due, gr.extra, by show 0 <= 2; decide, fun z => by cases (show false = true from z)⟩
          | 1, _ => exact ⟨by show 1 <= 2; decide, gr.due, gr.extra, by show 0 <= 2; decide, fun z => by cases (show false = true from z)⟩
          | 2, _ => exact ⟨by show 2 <= 2; decide, gr.due, gr.extra, by show 0 <= 2; decide, fun z => by cases (show false = true from z)⟩
          | 3, _ => exact ⟨by show 0 <= 2; decide, by show 0 <= 1440; decide, gr.extra, by show 0 <= 2; decide, fun z => by cases (show false = true from z)⟩
          | 4, _ => exact ⟨by show 1 <= 2; decide, by show 0 <= 1440; decide, gr.extra, by show 0 <= 2; decide, fun z => by cases (show false = true from z)⟩
          | 5, _ => exact ⟨by show 0 <= 2; decide, by show 0 <= 1440; decide, gr.extra, by show 0 <= 2; decide, fun _ => ⟨rfl, rfl, rfl⟩⟩
theorem rg_at {p : Int} {n k : Nat} (h : PyVbhoak.shape p = some (n, k)) : ∃ bs, M.at? M.RG p = some bs /\ bs.length = n /\ ((k = 0 /\ M.at? M.RW p = none) \/ (k = 1 /\ ∃ b, M.at? M.RW p = some b)) := by
  rcases M.shape_cases h with ⟨rfl, rfl, rfl⟩ | ⟨rfl, rfl, rfl⟩ | ⟨rfl, rfl, rfl⟩ | ⟨rfl, rfl, rfl⟩ | ⟨rfl, rfl, rfl⟩ | ⟨rfl, rfl, rfl⟩ | ⟨rfl, rfl, rfl⟩ | ⟨rfl, rfl, rfl⟩ | ⟨rfl, rfl, rfl⟩ | ⟨rfl, rfl, rfl⟩ | ⟨rfl, rfl, rfl⟩ | ⟨rfl, rfl, rfl⟩ | ⟨rfl, rfl, rfl⟩ | ⟨rfl, rfl, rfl⟩ | ⟨rfl, rfl, rfl⟩ | ⟨rfl, rfl, rfl⟩ | ⟨rfl, rfl, rfl⟩ | ⟨rfl, rfl, rfl⟩ | ⟨rfl, rfl, rfl⟩ | ⟨rfl, rfl, rfl⟩ | ⟨rfl, rfl, rfl⟩ | ⟨rfl, rfl, rfl⟩
  all_goals first
    | exact ⟨_, rfl, rfl, .inl ⟨rfl, rfl⟩⟩
    | exact ⟨_, rfl, rfl, .inr ⟨rfl, _, rfl⟩⟩
theorem call_split {f : Nat} {p : Int} {r : List Int} {ccs : List (List (List Int))} (h : PyFlat.calls PyVbhoak.shape f (p :: r) = some ccs) :
    ∃ (f' n k : Nat) (rows : List (List Int)) (t : List Int) (rest : List (List (List Int))), PyVbhoak.shape p = some (n, k) /\ n <= r.length /\ rows.length = k /\ ccs = ((p :: r.take n) :: rows) :: rest /\ PyFlat.calls PyVbhoak.shape f' t = some rest /\
      ((k = 0 /\ rows = [] /\ t = r.drop n) \/ (k = 1 /\ ∃ m : Nat, r[n]? = some (m : Int) /\ n + 1 + m <= r.length /\ rows = [(r.drop (n + 1)).take m] /\ t = r.drop (n + 1 + m))) := by
  cases f with
  | zero => cases h
  | succ f =>
    unfold PyFlat.calls at h
    cases ec : PyFlat.call PyVbhoak.shape (p :: r) with
    | none => rw [ec] at h; cases h
    | some x =>
      obtain ⟨c, t⟩ := x
      rw [ec] at h
      dsimp only at h
      cases er : PyFlat.calls PyVbhoak.shape f t with
      | none => rw [er] at h; cases h
      | some rest =>
        rw [er] at h
        cases h
        unfold PyFlat.call at ec
        dsimp only at ec
        cases es : PyVbhoak.shape p with
        | none => rw [es] at ec; cases ec
        | some nk =>
          obtain ⟨n, k⟩ := nk
          rw [es] at ec
          dsimp only at ec
          by_cases hl : r.length < n
          . rw [if_pos hl] at ec; cases ec
          . rw [if_neg hl] at ec
            cases ew : PyFlat.rows k (r.drop n) with
            | none => rw [ew] at ec; cases ec
            | some y =>
              obtain ⟨xs, t'⟩ := y
              rw [ew] at ec
              cases ec
              obtain ⟨bs, _, _, hk⟩ := rg_at es
              refine ⟨f, n, k, xs, t, rest, rfl, by omega, ?_, rfl, er, ?_⟩
              all_goals rcases hk with ⟨rfl, _⟩ | ⟨rfl, _⟩
              . have ew : some ([], r.drop n) = some (xs, t) := ew
                cases ew; rfl
              . unfold PyFlat.rows at ew
                cases e1 : PyFlat.row (r.drop n) with
                | none => rw [e1] at ew; cases ew
                | some z => rw [e1] at ew; cases ew; rfl
              . have ew : some ([], r.drop n) = some (xs, t) := ew
                cases ew
                exact .inl ⟨rfl, rfl, rfl⟩
              . unfold PyFlat.rows at ew
                cases e1 : PyFlat.row (r.drop n) with
                | none => rw [e1] at ew; cases ew
                | some z =>
                  obtain ⟨z1, z2⟩ := z
                  rw [e1] at ew
                  have ew : some ([z1], z2) = some (xs, t) := ew
                  cases ew
                  cases ed : r.drop n with
                  | nil => rw [ed] at e1; cases e1
                  | cons m r' =>
                    rw [ed] at e1
                    unfold PyFlat.row at e1
                    dsimp only at e1
                    by_cases hm : 0 <= m /\ m.toNat <= r'.length
                    . rw [if_pos hm] at e1
                      cases e1
                      have el := congrArg List.length ed
                      rw [List.length_drop, List.length_cons] at el
                      have eg : r[n]? = some m := by
                        have := congrArg (fun l => l[0]?) ed
                        simpa using this
                      have e2 : r' = r.drop (n + 1) := by
                        have := congrArg (List.drop 1) ed
                        rw [List.drop_drop] at this
                        simpa using this.symm
                      refine .inr ⟨rfl, m.toNat, by rw [eg, Int.toNat_of_nonneg hm.1], by omega, by rw [e2], by rw [e2, List.drop_drop]⟩
                    . rw [if_neg hm] at e1; cases e1
theorem whole_call {p : Int} {n k : Nat} {nums : List Int} {rows : List (List Int)} (hs : PyVbhoak.shape p = some (n, k)) (hn : nums.length = n) (hr : rows.length = k) : PyVbhoak.whole ((p :: nums) :: rows) = (p :: nums) :: rows := by
  have r0 : k = 0 -> rows = [] := fun e => List.eq_nil_of_length_eq_zero (hr.trans e)
  have r1 : k = 1 -> ∃ x, rows = [x] := fun e => List.length_eq_one_iff.mp (hr.trans e)
  have l0 : n = 0 -> nums = [] := fun e => List.eq_nil_of_length_eq_zero (hn.trans e)
  have l1 : n = 1 -> ∃ x, nums = [x] := fun e => List.length_eq_one_iff.mp (hn.trans e)
  have l2 : n = 2 -> ∃ x y, nums = [x, y] := fun e => by
    match nums, hn.trans e with
    | [x, y], _ => exact ⟨x, y, rfl⟩
  have l3 : n = 3 -> ∃ x y z, nums = [x, y, z] := fun e => by
    match nums, hn.trans e with
    | [x, y, z], _ => exact ⟨x, y, z, rfl⟩
  have l4 : n = 4 -> ∃ x y z u, nums = [x, y, z, u] := fun e => by
    match nums, hn.trans e with
    | [x, y, z, u], _ => exact ⟨x, y, z, u, rfl⟩
  clear hn hr
  rcases M.shape_cases hs with ⟨rfl, e1, e2⟩ | ⟨rfl, e1, e2⟩ | ⟨rfl, e1, e2⟩ | ⟨rfl, e1, e2⟩ | ⟨rfl, e1, e2⟩ | ⟨rfl, e1, e2⟩ | ⟨rfl, e1, e2⟩ | ⟨rfl, e1, e2⟩ | ⟨rfl, e1, e2⟩ | ⟨rfl, e1, e2⟩ | ⟨rfl, e1, e2⟩ | ⟨rfl, e1, e2⟩ | ⟨rfl, e1, e2⟩ | ⟨rfl, e1, e2⟩ | ⟨rfl, e1, e2⟩ | ⟨rfl, e1, e2⟩ | ⟨rfl, e1, e2⟩ | ⟨rfl, e1, e2⟩ | ⟨rfl, e1, e2⟩ | ⟨rfl, e1, e2⟩ | ⟨rfl, e1, e2⟩ | ⟨rfl, e1, e2⟩
  . obtain ⟨x, y, z, u, rfl⟩ := l4 e1; rw [r0 e2]; rfl
  . obtain ⟨x, rfl⟩ := l1 e1; rw [r0 e2]; rfl
  . obtain ⟨x, rfl⟩ := l1 e1; rw [r0 e2]; rfl
  . obtain ⟨x, y, rfl⟩ := l2 e1; rw [r0 e2]; rfl
  . rw [r0 e2, l0 e1]; rfl
  . obtain ⟨x, y, z, rfl⟩ := l3 e1; rw [r0 e2]; rfl
  . obtain ⟨x, y, rfl⟩ := l2 e1; rw [r0 e2]; rfl
  . obtain ⟨x, rfl⟩ := l1 e1; rw [r0 e2]; rfl
  . obtain ⟨x, rfl⟩ := l1 e1; rw [r0 e2]; rfl
  . obtain ⟨x, y, rfl⟩ := l2 e1; rw [r0 e2]; rfl
  . obtain ⟨x, y, rfl⟩ := l2 e1; rw [r0 e2]; rfl
  . rw [r0 e2, l0 e1]; rfl
  . obtain ⟨x, rfl⟩ := l1 e1; rw [r0 e2]; rfl
  . obtain ⟨x, rfl⟩ := l1 e1; rw [r0 e2]; rfl
  . obtain ⟨x, y, rfl⟩ := l2 e1; obtain ⟨v, rfl⟩ := r1 e2; rfl
  . obtain ⟨x, y, z, rfl⟩ := l3 e1; rw [r0 e2]; rfl
  . rw [r0 e2, l0 e1]; rfl
  . obtain ⟨x, y, rfl⟩ := l2 e1; rw [r0 e2]; rfl
  . obtain ⟨x, rfl⟩ := l1 e1; rw [r0 e2]; rfl
  . rw [r0 e2, l0 e1]; rfl
  . rw [r0 e2, l0 e1]; rfl
  . obtain ⟨v, rfl⟩ := r1 e2; rw [l0 e1]; rfl
theorem whole_all : ∀ (cs : List (List (List Int))) (f : Nat) (l : List Int), PyFlat.calls PyVbhoak.shape f l = some cs -> cs.map PyVbhoak.whole = cs
  | [], _, _, _ => rfl
  | c :: cs, f, l, h => by
    cases l with
    | nil => cases f <;> cases h
    | cons p r =>
      obtain ⟨f', n, k, rows, t, rest, hs, hn, hr, e, h2, _⟩ := call_split h
      cases e
      rw [List.map_cons, whole_all _ f' t h2, whole_call hs (by rw [List.length_take]; omega) hr]
theorem calls_eq (l : List Int) : PyVbhoak.calls l = PyFlat.calls PyVbhoak.shape l.length l := by
  unfold PyVbhoak.calls
  cases e : PyFlat.calls PyVbhoak.shape l.length l with
  | none => rfl
  | some cs =>
    show some (cs.map PyVbhoak.whole) = some cs
    rw [whole_all cs _ _ e]
end Z
namespace Z
open PySem PySem.Spec PyProof.Rows L2 R
theorem fok_of {P : Program} {w : World} {K : PySem.W.Frag} {mg : Str -> Option Value} {base : Heap} {k : Nat} {x : Str} {sp : Sp} {f : Addr} (h : COk P w K mg base k x sp) (q : mg x = some (.ref f)) : FOk P w K mg base k f sp := by
  obtain ⟨g, h1, h2⟩ := h.ex
  rw [q] at h2
  cases h2
  exact h1
def spCarry (a : Ad) (PT : Addr) : Sp := fun vs H Q _ => ∃ (hp l : Addr) (as : List Addr) (h : Vbhoak.House) (p : Int) (np : Addr) (ns : List Int) (c : Vbhoak.Call),
  vs = [.ref hp, .int p, .ref np] /\ HouseAt a H hp l as h /\ Good h /\ LOk PT H /\ H np = some (.lst (ns.map V.int)) /\ M.Opp p h ns c /\
  ∀ H' q, H q = Option.none -> HouseAt a H' hp l as (Vbhoak.onHouse h c).1 -> LOk PT H' -> H' q = some (.lst ((Vbhoak.onHouse h c).2.map V.int)) -> ChS H H' (PT :: hp :: as) -> Q (.ref q) H'
section
variable {P : Program} {w : World} {K : PySem.W.Frag} {mg : Str -> Option Value} {base : Heap} {a : Ad} {c PT : Addr}
theorem ok_carry (T : Txt K mg a) (L : Lam K mg base c PT) : COk P w K mg base 7 "carry_out" (spCarry a PT) := by
  have sc := sc_carry_out
  refine T.d_carry_out.ok sc (fun vs H Q E h => ?_) (fun f cdv A outer s H vs Q E hr h => ?_)
  . obtain ⟨hp, l, as, h, p, np, ns, c, rfl, _⟩ := h; rfl
  . obtain ⟨hp, l, as, h, p, np, ns, c, rfl, hH, hg, lo, hN, op, k⟩ := h
    refine ⟨_, (pss_one (ps_ret (pe_callX (ok := fun f sp => FOk P w K mg base 6 f sp) (fun f sp h => h) hr (pe_mget (pe_gref rfl T.r_CALLS) (pv 1) (fun _ _ => rfl)) (pa_cons (pv 0) (pa_cons (pv 2) pa_nil))))), ?_⟩
    have go : ∀ (f : Addr) (pre : Vbhoak.House -> List Int -> Vbhoak.Call -> Prop), vAt [(1, .ref a.f_guest_in), (2, .ref a.f_guest_out), (3, .ref a.f_guest_moves), (4, .ref a.f_night_passes), (5, .ref a.f_maid_reports), (6, .ref a.f_room_inspected), (7, .ref a.f_room_shut), (8, .ref a.f_room_back), (9, .ref a.f_room_due), (10, .ref a.f_room_extra), (11, .ref a.f_work_told), (12, .ref a.f_split_told), (13, .ref a.f_bound_told), (14, .ref a.f_witness_proved), (15, .ref a.f_order_told), (16, .ref a.f_differences_told), (17, .ref a.f_difference_resolved), (18, .ref a.f_room_told), (19, .ref a.f_codes_counted), (20, .ref a.f_board_told), (21, .ref a.f_board_written)] p = some (.ref f) ->
        FOk P w K mg base 6 f (spOpL a PT pre) -> pre h ns c -> tCallX (fun f sp => FOk P w K mg base 6 f sp) (tMGet K (tC (.ref a.mCALLS)) (tVar 1)) (tCons (tVar 0) (tCons (tVar 2) tNil)) [some (.ref hp), some (.int p), some (.ref np)] H Q := fun f pre hv fo hpre =>
      ⟨_, rfl, a.mCALLS, _, p, _, rfl, rfl, T.m_CALLS, hv, f, _, rfl, fo, _, rfl, _, rfl, hp, l, as, h, np, ns, c, rfl, hH, hg, lo, hN, hpre, k⟩
    have lift : ∀ {x : Str} {f : Addr} {j : Nat} {pre : Vbhoak.House -> List Int -> Vbhoak.Call -> Prop}, j <= 6 -> COk P w K mg base j x (spOp a pre) -> mg x = some (.ref f) -> FOk P w K mg base 6 f (spOpL a PT pre) := fun hj C q => fok_of ((C.imp op_lift).mono hj) q
    rcases op with ⟨rfl, o⟩ | ⟨rfl, o⟩ | ⟨rfl, o⟩ | ⟨rfl, o⟩ | ⟨rfl, o⟩ | ⟨rfl, o⟩ | ⟨rfl, o⟩ | ⟨rfl, o⟩ | ⟨rfl, n, m, o1, o2, o3, o4⟩ | ⟨rfl, n, m, o1, o2, o3, o4⟩ | ⟨rfl, o⟩ | ⟨rfl, o⟩ | ⟨rfl, o⟩ | ⟨rfl, o⟩ | ⟨rfl, o⟩ | ⟨rfl, o⟩ | ⟨rfl, o⟩ | ⟨rfl, o⟩ | ⟨rfl, o⟩ | ⟨rfl, o⟩ | ⟨rfl, o⟩
    . exact go _ _ rfl (lift (by decide) (ok_in T) T.q_guest_in) o
    . exact go _ _ rfl (lift (by decide) (ok_out T) T.q_guest_out) o
    . exact go _ _ rfl (lift (by decide) (ok_move T) T.q_guest_moves) o
    . exact go _ _ rfl (lift (by decide) (ok_night T) T.q_night_passes) o
    . exact go _ _ rfl (lift (by decide) (ok_report T) T.q_maid_reports) o
    . exact go _ _ rfl (lift (by decide) (ok_inspect T) T.q_room_inspected) o
    . exact go _ _ rfl (lift (by decide) (ok_shut T) T.q_room_shut) o
    . exact go _ _ rfl (lift (by decide) (ok_back T) T.q_room_back) o
    . exact go _ _ rfl (lift (by decide) (ok_due T) T.q_room_due) ⟨n, m, o1, o2, o4⟩
    . exact go _ _ rfl (lift (by decide) (ok_extra T) T.q_room_extra) ⟨n, m, o1, o2, o4⟩
    . exact go _ _ rfl (lift (by decide) (ok_work T) T.q_work_told) o
    . exact go _ _ rfl (lift (by decide) (ok_split T) T.q_split_told) o
    . exact go _ _ rfl (lift (by decide) (ok_bound T) T.q_bound_told) o
    . exact go _ _ rfl (lift (by decide) (ok_proved T) T.q_witness_proved) o
    . exact go _ _ rfl (fok_of (ok_order T L) T.q_order_told) o
    . exact go _ _ rfl (lift (by decide) (ok_diffs T) T.q_differences_told) o
    . exact go _ _ rfl (lift (by decide) (ok_resolve T) T.q_difference_resolved) o
    . exact go _ _ rfl (lift (by decide) (ok_room T) T.q_room_told) o
    . exact go _ _ rfl (lift (by decide) (ok_count T) T.q_codes_counted) o
    . exact go _ _ rfl (lift (by decide) (ok_board T) T.q_board_told) o
    . exact go _ _ rfl (lift (by decide) (ok_write T) T.q_board_written) o
end
def Kin (H H' : Hp) : Prop := ∀ b o, H b = some o -> (∀ ps, o ≠ .tbl ps) -> (∀ C dx fs, o ≠ .ins C dx fs) -> H' b = some o
theorem Kin.of {H H' : Hp} (s : Same H H') : Kin H H' := fun b o e _ _ => s b o e
theorem Kin.trans {H H1 H2 : Hp} (x : Kin H H1) (y : Kin H1 H2) : Kin H H2 := fun b o e h1 h2 => y b o (x b o e h1 h2) h1 h2
theorem Kin.lst {H H' : Hp} (x : Kin H H') {b : Addr} {xs : List V} (e : H b = some (.lst xs)) : H' b = some (.lst xs) := x b _ e (by intro _ z; cases z) (by intro _ _ _ z; cases z)
theorem Kin.sq {K : PySem.W.Frag} {H H' : Hp} (x : Kin H H') {b : Addr} {xs : List V} (h : SqL K H b xs) : SqL K H' b xs := by
  rcases h with (e | ⟨o, e⟩) | h
  . exact .inl (.inl (x.lst e))
  . exact .inl (.inr ⟨o, x b _ e (by intro _ z; cases z) (by intro _ _ _ z; cases z)⟩)
  . exact .inr h
theorem Kin.chS {a : Ad} {P : Addr} {H H' : Hp} {hp l : Addr} {as : List Addr} {h : Vbhoak.House} (lo : LOk P H) (hH : HouseAt a H hp l as h) (c : ChS H H' (P :: hp :: as)) : Kin H H' := fun b o e h1 h2 => by
  refine c b o e fun m => ?_
  rcases List.mem_cons.mp m with z | z
  . exact lo.ne e h1 z
  . rcases List.mem_cons.mp z with z | z
    . subst z
      obtain ⟨dx, q⟩ := hH.obj
      rw [e] at q
      exact h2 _ _ _ (Option.some.inj q)
    . obtain ⟨j, hj⟩ := List.mem_iff_getElem?.mp z
      obtain ⟨dx, q⟩ := hH.at_ j b _ hj (List.getElem?_eq_getElem (by rw [<- hH.len]; exact (List.getElem?_eq_some_iff.mp hj).1))
      rw [e] at q
      exact h2 _ _ _ (Option.some.inj q)
def HousT (a : Ad) (H : Hp) (tq : Addr) (v : V) : Option Vbhoak.House -> Prop
  | none => v = .non
  | some h => ∃ hp l as, v = .ref hp /\ HouseAt a H hp l as h /\ l ≠ tq /\ Good h
theorem HousT.toV {a : Ad} {H : Hp} {tq : Addr} {v : V} {h : Option Vbhoak.House} (x : HousT a H tq v h) : HousV a H v h := by
  cases h with
  | none => exact x
  | some h =>
    obtain ⟨hp, l, as, e, hH, _⟩ := x
    exact ⟨hp, l, as, e, hH⟩
theorem HousT.same {a : Ad} {H H' : Hp} {tq : Addr} {v : V} {h : Option Vbhoak.House} (x : HousT a H tq v h) (s : Same H H') : HousT a H' tq v h := by
  cases h with
  | none => exact x
  | some h =>
    obtain ⟨hp, l, as, e, hH, r⟩ := x
    exact ⟨hp, l, as, e, hH.same s, r⟩
theorem HousT.lst {a : Ad} {H : Hp} {v : V} {h : Option Vbhoak.House} {q : Addr} {xs ys : List V} (x : HousT a H q v h) (e : H q = some (.lst xs)) : HousT a (upd H q (.lst ys)) q v h := by
  cases h with
  | none => exact x
  | some h =>
    obtain ⟨hp, l, as, rfl, hH, nl, g⟩ := x
    refine ⟨hp, l, as, rfl, ⟨?_, ?_, hH.nd, hH.len, fun j p r h1 h2 => ?_, hH.out⟩, nl, g⟩
    . obtain ⟨dx, z⟩ := hH.obj
      exact ⟨dx, by rw [upd_ne (ne_of z e (by intro y; cases y))]; exact z⟩
    . rw [upd_ne nl]; exact hH.lst
    . obtain ⟨dx, z⟩ := hH.at_ j p r h1 h2
      exact ⟨dx, by rw [upd_ne (ne_of z e (by intro y; cases y))]; exact z⟩
theorem LOk.lst {P : Addr} {H : Hp} {q : Addr} {xs ys : List V} (lo : LOk P H) (e : H q = some (.lst xs)) : LOk P (upd H q (.lst ys)) := by
  rcases lo with z | ⟨c, z, z2⟩
  . exact .inl (by rw [upd_ne (ne_of z e (by intro y; cases y))]; exact z)
  . exact .inr ⟨c, by rw [upd_ne (ne_of z e (by intro y; cases y))]; exact z, by rw [upd_ne (ne_of z2 e (by intro y; cases y))]; exact z2⟩
theorem opp_len {p : Int} {h : Vbhoak.House} {ns : List Int} {c : Vbhoak.Call} (o : M.Opp p h ns c) : ns.length <= 110 := by
  rcases o with ⟨_, n, rfl, _⟩ | ⟨_, n, rfl, _⟩ | ⟨_, n, m, rfl, _⟩ | ⟨_, rfl, _⟩ | ⟨_, n, b, d, rfl, _⟩ | ⟨_, n, b, rfl, _⟩ | ⟨_, n, rfl, _⟩ | ⟨_, n, rfl, _⟩ | ⟨_, n, m, rfl, _⟩ | ⟨_, n, m, rfl, _⟩ | ⟨_, rfl, _⟩ | ⟨_, k, rfl, _⟩ | ⟨_, k, rfl, _⟩ | ⟨_, k, m, q, rfl, _, _, hq, _⟩ | ⟨_, k, j, t, rfl, _⟩ | ⟨_, rfl, _⟩ | ⟨_, n, b, rfl, _⟩ | ⟨_, n, rfl, _⟩ | ⟨_, rfl, _⟩ | ⟨_, rfl, _⟩ | ⟨_, b, rfl, hb, _⟩
  all_goals simp
  all_goals omega
theorem told_cons (x : List Int) (r : List (List Int)) : PyFlat.told (x :: r) = (x.length : Int) :: x ++ PyFlat.told r := by
  unfold PyFlat.told
  rw [List.flatMap_cons]
theorem played_cons (s : Vbhoak.State) (c : List (List Int)) (r : List (List (List Int))) : PyFlat.played VbhoakNeutral.step s (c :: r) = (Vbhoak.stepNumbers s c).2 :: PyFlat.played VbhoakNeutral.step (Vbhoak.stepNumbers s c).1 r := rfl
def spAns (K : PySem.W.Frag) (PT : Addr) : Sp := fun vs H Q _ => ∃ (cq : Addr) (cs : List Int) (ccs : List (List (List Int))), vs = [.ref cq] /\ SqL K H cq (cs.map V.int) /\ cs.length < 2 ^ 40 /\ LOk PT H /\ PyFlat.calls PyVbhoak.shape cs.length cs = some ccs /\ ccs.length <= 60 /\
  ∀ H' q, LOk PT H' -> H' q = some (.lst ((PyFlat.told (PyFlat.played VbhoakNeutral.step VbhoakNeutral.start ccs)).map V.int)) -> Q (.ref q) H'
theorem drop_cons {l : List Int} {i : Nat} {x : Int} (h : l[i]? = some x) : l.drop i = x :: l.drop (i + 1) := drop_at h
section
variable {P : Program} {w : World} {K : PySem.W.Frag} {mg : Str -> Option Value} {a : Ad} {c PT : Addr}
theorem ok_answers (T : Txt K mg a) : ∃ f fd, mg "answers" = some (.ref f) /\ BA fd ["calls"] /\ ∀ base : Heap, Lam K mg base c PT -> FnOk P w K mg base CX0 8 f fd ["calls"] (spAns K PT) := by
  have sc := sc_answers
  obtain ⟨f, fd, F, m, b⟩ := T.d_answers.ex
  refine ⟨f, fd, m, b, fun base L => F.ok sc (fun vs H Q E h => ?_) (fun cdv A outer s H vs Q E hr h => ?_)⟩
  . obtain ⟨cq, cs, ccs, rfl, _⟩ := h; rfl
  . have C_row_at := ok_rowAt (P := P) (w := w) (base := base) T
    have C_early_refusal := ok_early (P := P) (w := w) (base := base) T
    have C_House := ok_House (P := P) (w := w) (base := base) T
    have C_carry_out := ok_carry (P := P) (w := w) (base := base) T L
    obtain ⟨cq, cs, ccs, rfl, hS, hcl, lo, hcalls, hccs, k⟩ := h
    refine ⟨_, (pss_cons (ps_set (i := 1) sc.nd rfl (Or.inl rfl) (pe_lst pa_nil))
      (pss_cons (ps_set (i := 2) sc.nd rfl (Or.inl rfl) pe_non)
      (pss_cons (ps_set (i := 3) sc.nd rfl (Or.inl rfl) pe_int)
      (pss_cons (ps_while PassesOwn.never (pt_cmpR op_lt (pv 3) (pe_callB call_len_seq (by rfl) T.b_len PySem.boot_len (pa_cons (pv 0) pa_nil)) (nomark _)) (pss_cons (ps_set (i := 4) sc.nd rfl (Or.inl rfl) (pe_ix ix_list (pv 0) (pv 3) (fun _ _ => rfl)))
      (pss_cons (ps_set (i := 5) sc.nd rfl (Or.inl rfl) (pe_op op_add (pe_op op_add (pv 3) pe_int) (pe_callB call_len_seq (by rfl) T.b_len PySem.boot_len (pa_cons (pe_mget (pe_gref rfl T.r_RANGES) (pv 4) (fun _ _ => rfl)) pa_nil))))
      (pss_cons (ps_set (i := 6) sc.nd rfl (Or.inl rfl) (pe_slice sl_list (pv 0) (po_some (pe_op op_add (pv 3) pe_int)) (po_some (pv 5))))
      (pss_cons (ps_set (i := 7) sc.nd rfl (Or.inl rfl) (pe_cut (pe_callN C_row_at (hr.mono (by decide)) rfl (pa_cons (pv 0) (pa_cons (pv 4) (pa_cons (pv 5) pa_nil))))))
      (pss_cut (ps_if (pt_cmp (pc_min (pv 4) (pe_gref rfl T.r_ROWS))) (pss_one (ps_set (i := 5) sc.nd rfl (Or.inl rfl) (pe_op op_add (pe_op op_add (pv 5) pe_int) (pe_callB call_len_seq (by rfl) T.b_len PySem.boot_len (pa_cons (pv 7) pa_nil))))) pss_nil)
      (pss_cons (ps_set (i := 8) sc.nd rfl (Or.inl rfl) (pe_callN C_early_refusal (hr.mono (by decide)) rfl (pa_cons (pv 2) (pa_cons (pv 4) (pa_cons (pv 6) (pa_cons (pv 7) pa_nil))))))
      (pss_cut (ps_if (pt_cmpR op_ne (pv 8) (pe_gint rfl T.g_NOT_REFUSED) (nomark _)) (pss_one (ps_set (i := 9) sc.nd rfl (Or.inl rfl) (pe_lst (pa_cons (pv 8) pa_nil)))) (pss_one (ps_if (pt_cmpR op_eq (pv 4) (pe_gint rfl T.g_BEGIN_HOUSE) (nomark _)) (pss_cons (ps_set (i := 2) sc.nd rfl (Or.inl rfl) (pe_mk C_House (hr.mono (by decide)) rfl (pa_cons (pe_ix ix_list (pv 6) pe_int (fun _ _ => rfl)) (pa_cons (pe_ix ix_list (pv 6) pe_int (fun _ _ => rfl)) (pa_cons (pe_ix ix_list (pv 6) pe_int (fun _ _ => rfl)) (pa_cons (pe_ix ix_list (pv 6) pe_int (fun _ _ => rfl)) pa_nil))))))
      (pss_one (ps_set (i := 9) sc.nd rfl (Or.inl rfl) (pe_lst (pa_cons (pe_gint rfl T.g_ACCEPTED) pa_nil))))) (pss_one (ps_set (i := 9) sc.nd rfl (Or.inl rfl) (pe_callN C_carry_out hr rfl (pa_cons (pv 2) (pa_cons (pv 4) (pa_cons (pe_op op_cat (pv 6) (pv 7)) pa_nil)))))))))
      (pss_cons (ps_expr (pe_bm PySem.F.plainAttrs_list PySem.F.slot_list_append PySem.F.type_list_append mt_append (pv 1) (pa_cons (pe_callB call_len_seq (by rfl) T.b_len PySem.boot_len (pa_cons (pv 9) pa_nil)) pa_nil)))
      (pss_cons (ps_expr (pe_bm PySem.F.plainAttrs_list PySem.F.slot_list_extend PySem.F.type_list_extend mt_extend (pv 1) (pa_cons (pv 9) pa_nil)))
      (pss_one (ps_set (i := 3) sc.nd rfl (Or.inl rfl) (pv 5)))))))))))))
      (pss_one (ps_ret (pv 1))))))), ?_⟩
    refine ⟨Nat.zero_le _, fun tq htq => ?_⟩
    have s0 := Same.new (o := .lst []) htq
    have key : (∀ H' : Hp, SqL K H' cq (cs.map V.int)) \/ cq ≠ tq := by
      rcases hS with (e | ⟨o, e⟩) | e
      . exact .inr (ne_of_none e htq)
      . exact .inr (ne_of_none e htq)
      . exact .inl fun _ => .inr e
    let due := PyFlat.told (PyFlat.played VbhoakNeutral.step VbhoakNeutral.start ccs)
    let W : Nat -> L2.St -> Hp -> Prop := fun μ σ H' => ∃ (at_ cnt f : Nat) (st : Option Vbhoak.House) (v : V) (done : List Int) (rest : List (List (List Int))) (x4 x5 x6 x7 x8 x9 : Option V),
      σ = [some (.ref cq), some (.ref tq), some v, some (.int (at_ : Int)), x4, x5, x6, x7, x8, x9] /\ μ = cs.length - at_ /\ SqL K H' cq (cs.map V.int) /\ H' tq = some (.lst (done.map V.int)) /\ LOk PT H' /\ HousT a H' tq v st /\
      at_ <= cs.length /\ PyFlat.calls PyVbhoak.shape f (cs.drop at_) = some rest /\ done ++ PyFlat.told (PyFlat.played VbhoakNeutral.step ⟨st⟩ rest) = due /\ rest.length + cnt <= 60 /\ done.length <= 201 * cnt
    refine ⟨W, ⟨_, 0, 0, cs.length, none, .non, [], ccs, none, none, none, none, none, none, rfl, rfl, (Kin.of s0).sq hS, upd_same, lo.same s0, rfl, Nat.zero_le _, hcalls, rfl, hccs, Nat.zero_le _⟩, ?_⟩
    rintro μ σ H1 ⟨at_, cnt, f', st, v, done, rest, x4, x5, x6, x7, x8, x9, rfl, rfl, hS1, ht1, lo1, hT1, hal, hr1, hdue, hcnt, hdl⟩
    have lenC : ((cs.map V.int).length : Int) = (cs.length : Int) := by rw [List.length_map]
    refine ⟨_, rfl, _, rfl, cq, _, rfl, .inl hS1, _, _, rfl, rfl, _, rfl, ite2 (fun c0 => ?_) (fun c0 => ?_)⟩
    . have c0 : at_ < cs.length := by
        rw [lenC] at c0
        have := of_decide_eq_true c0
        omega
      refine ⟨fun σ' H' => ∃ m', m' < cs.length - at_ /\ W m' σ' H', fun σ' H' z => z, ?_⟩
      obtain ⟨p, hp⟩ : ∃ p, cs[at_]? = some p := ⟨_, List.getElem?_eq_getElem c0⟩
      rw [drop_cons hp] at hr1
      obtain ⟨f2, n, kk, rows, t, rest2, hsh, hnl, hrl, rfl, hr2, hcase⟩ := call_split hr1
      obtain ⟨bs, hbs, hbl, hrw⟩ := rg_at hsh
      rw [List.length_drop] at hnl
      have step := (M.step_all (h := st) (nums := (cs.drop (at_ + 1)).take n) hsh (by rw [List.length_take, List.length_drop]; omega) hrl).as
      obtain ⟨kvs, md, h1⟩ := ranges_at T
      obtain ⟨tt, xs, hv, kt, hxl, hx⟩ := h1 p bs hbs
      refine ⟨_, rfl, _, rfl, ixE (n := at_) rfl hS1 (v := .int p) (by rw [List.getElem?_map, hp]; rfl) ?_⟩
      refine ⟨_, rfl, _, _, rfl, rfl, _, rfl, a.mRANGES, kvs, p, _, rfl, rfl, md, hv, tt, xs, rfl, .inr kt.sq, _, _, rfl, rfl, ?_⟩
      have eb : (at_ : Int) + 1 + (xs.length : Int) = ((at_ + 1 + n : Nat) : Int) := by rw [hxl, hbl]; omega
      dsimp only [gName]
      rw [eb]
      refine ⟨_, rfl, _, rfl, _, _, rfl, rfl, _, rfl, _, rfl, _, rfl, cq, _, rfl, hS1, fun nq hnq => ?_⟩
      have ec : cutV (cs.map V.int) (some ((at_ : Int) + 1)) (some ((at_ + 1 + n : Nat) : Int)) = ((cs.drop (at_ + 1)).take n).map V.int := by
        rw [show (at_ : Int) + 1 = ((at_ + 1 : Nat) : Int) by omega, cut_nat, show at_ + 1 + n - (at_ + 1) = n by omega, List.map_take, List.map_drop]
      rw [ec]
      have s2 := Same.new (o := .lst (((cs.drop (at_ + 1)).take n).map V.int)) hnq
      have hn2 : upd H1 nq (.lst (((cs.drop (at_ + 1)).take n).map V.int)) nq = some (.lst (((cs.drop (at_ + 1)).take n).map V.int)) := upd_same
      generalize upd H1 nq (.lst (((cs.drop (at_ + 1)).take n).map V.int)) = H2 at s2 hn2 ⊢
      have hS2 := (Kin.of s2).sq hS1
      refine ⟨fun v H3 => ∃ rq, v = .ref rq /\ Same H2 H3 /\ H3 rq = some (.lst ((rows.headD []).map V.int)), ?_, ?_⟩
      . refine ⟨_, rfl, _, rfl, _, rfl, cq, cs, p, at_ + 1 + n, rfl, hS2, ?_⟩
        rcases hcase with ⟨e1, e2, e3⟩ | ⟨e1, m, e2, e3, e4, e5⟩
        . rcases hrw with ⟨_, e6⟩ | ⟨e6, _⟩
          . exact .inl ⟨e6, fun H3 q s3 h3 => ⟨q, rfl, s3, by rw [e2]; exact h3⟩⟩
          . omega
        . rcases hrw with ⟨e6, _⟩ | ⟨_, e6⟩
          . omega
          . refine .inr ⟨e6, m, ?_, fun H3 q s3 h3 => ⟨q, rfl, s3, ?_⟩⟩
            . rw [List.getElem?_drop] at e2
              exact e2
            . rw [e4, h3, List.headD_cons, List.drop_drop]; rfl
      rintro _ H3 ⟨rq, rfl, s3, hr3⟩
      have s13 := Same.trans' s2 s3
      have hS3 := (Kin.of s13).sq hS1
      have hn3 := s3 _ _ hn2
      dsimp only [gName]
      refine ⟨fun σ' H' => H' = H3 /\ ∃ nb : Nat, σ' = [some (.ref cq), some (.ref tq), some v, some (.int (at_ : Int)), some (.int p), some (.int (nb : Int)), some (.ref nq), some (.ref rq), x8, x9] /\ cs.drop nb = t /\ at_ < nb /\ nb <= cs.length, ?_, ?_⟩
      . obtain ⟨kvr, mdr, g1, g2⟩ := rows_at T
        rcases hcase with ⟨e1, e2, e3⟩ | ⟨e1, m, e2, e3, e4, e5⟩
        . rcases hrw with ⟨_, e6⟩ | ⟨e6, _⟩
          . refine ⟨_, rfl, a.mROWS, kvr, p, rfl, rfl, T.x_ROWS, mdr, _, rfl, iteF' (by rw [g2 p e6]; simp) ⟨rfl, at_ + 1 + n, rfl, ?_, by omega, by omega⟩⟩
            rw [e3, List.drop_drop]
          . omega
        . rcases hrw with ⟨e6, _⟩ | ⟨_, bb, e6⟩
          . omega
          . obtain ⟨tr, hvr, _⟩ := g1 p bb e6
            rw [List.length_drop] at e3
            have erl : ((((rows.headD []).map V.int).length : Nat) : Int) = (m : Int) := by
              clear step hdue
              rw [List.length_map, e4, List.headD_cons, List.length_take, List.length_drop, List.length_drop, Nat.min_eq_left (by omega)]
            refine ⟨_, rfl, a.mROWS, kvr, p, rfl, rfl, T.x_ROWS, mdr, _, rfl, iteT' (by rw [hvr]; rfl) ?_⟩
            refine ⟨_, rfl, _, _, rfl, rfl, _, rfl, rq, _, rfl, .inl (SqL.of hr3), _, _, rfl, rfl, rfl, at_ + 1 + n + 1 + m, ?_, ?_, by omega, by omega⟩
            . have e10 : ((at_ + 1 + n : Nat) : Int) + 1 + (m : Int) = ((at_ + 1 + n + 1 + m : Nat) : Int) := by omega
              rw [erl]
              dsimp only [List.set]
              rw [e10]
            . rw [e5, List.drop_drop]
              congr 1
              omega
      rintro _ _ ⟨rfl, nb, rfl, hnb, hnb1, hnb2⟩
      have hT3 := hT1.same s13
      refine ⟨_, rfl, _, rfl, _, rfl, _, rfl, v, st, p, nq, rq, (cs.drop (at_ + 1)).take n, rows.headD [], bs, rfl, hT3.toV, hn3, hr3, hbs, by rw [hbl, List.length_take, List.length_drop]; omega, fun H4 s4 => ?_⟩
      have s14 := Same.trans' s13 s4
      have hS4 := (Kin.of s14).sq hS1
      have ht4 := s14 _ _ ht1
      have lo4 := lo1.same s14
      have hT4 := hT1.same s14
      have hn4 := s4 _ _ hn3
      have hr4 := s4 _ _ hr3
      dsimp only [gName]
      refine ⟨fun σ' H' => ∃ (st' : Option Vbhoak.House) (v' : V) (ans : List Int) (aq : Addr), σ' = [some (.ref cq), some (.ref tq), some v', some (.int (at_ : Int)), some (.int p), some (.int (nb : Int)), some (.ref nq), some (.ref rq), some (.int (M.early st p ((cs.drop (at_ + 1)).take n) (rows.headD []))), some (.ref aq)] /\
        SqL K H' cq (cs.map V.int) /\ H' tq = some (.lst (done.map V.int)) /\ LOk PT H' /\ HousT a H' tq v' st' /\ H' aq = some (.lst (ans.map V.int)) /\ aq ≠ tq /\ ans.length <= 200 /\ Vbhoak.stepNumbers ⟨st⟩ ((p :: (cs.drop (at_ + 1)).take n) :: rows) = (⟨st'⟩, ans), ?_, ?_⟩
      . rcases step with ⟨n0, es⟩ | ⟨z0, p0, n1, n2, n3, n4, en, er, b1, b2, b3, b4, es⟩ | ⟨z0, p0, hh, cl, eh, op, es⟩
        . refine ⟨_, rfl, rfl, _, rfl, iteT' (by simpa using n0) ⟨_, rfl, (by show 1 <= sizeLine; decide), fun aq haq => ?_⟩⟩
          have s5 := Same.new (o := .lst [.int (M.early st p ((cs.drop (at_ + 1)).take n) (rows.headD []))]) haq
          exact ⟨st, v, [_], aq, rfl, (Kin.of s5).sq hS4, s5 _ _ ht4, lo4.same s5, hT4.same s5, upd_same, (ne_of_none ht4 haq).symm, by show 1 <= 200; decide, es⟩
        . subst p0
          rw [en] at hn4
          refine ⟨_, rfl, rfl, _, rfl, iteF' (by simpa using z0) ⟨_, rfl, rfl, _, rfl, iteT ?_⟩⟩
          refine ⟨_, rfl, nq, _, 0, _, rfl, rfl, SqL.of hn4, rfl, _, rfl, nq, _, 1, _, rfl, rfl, SqL.of hn4, rfl, _, rfl, nq, _, 2, _, rfl, rfl, SqL.of hn4, rfl, _, rfl, nq, _, 3, _, rfl, rfl, SqL.of hn4, rfl, ?_⟩
          intro x dx nx ndx ne
          refine ⟨x, dx, n1, n2, n3, n4, rfl, b1, upd_same, fun H5 l5 as5 hl5 hH5 c5 => ⟨rfl, ?_⟩⟩
          have s5 : Same H4 H5 := Same.made nx ndx c5
          refine ⟨(by show 1 <= sizeLine; decide), fun aq haq => ?_⟩
          have s6 := Same.new (o := .lst [.int 0]) haq
          have s56 := Same.trans' s5 s6
          have nl : l5 ≠ tq := fun z => by
            subst z
            have y : H4 l5 = some (.lst (done.map V.int)) := ht4
            have y2 : l5 ≠ x := ne_of_none y nx
            have y3 : l5 ≠ dx := ne_of_none y ndx
            rw [upd_ne y2, upd_ne y3, y] at hl5
            cases hl5
          refine ⟨some ⟨List.replicate n1 Vbhoak.empty, n2, n3, n4, 0⟩, .ref x, [0], aq, rfl, (Kin.of s56).sq hS4, s56 _ _ ht4, lo4.same s56, ⟨x, l5, as5, rfl, hH5.same s6, nl, ?_⟩, upd_same, (ne_of_none (s5 _ _ ht4) haq).symm, by show 1 <= 200; decide, es⟩
          refine ⟨by show (List.replicate n1 Vbhoak.empty).length <= 30; rw [List.length_replicate]; exact b1, b2, b3, b4, fun r hr => ?_⟩
          have : r = Vbhoak.empty := (List.mem_replicate.mp hr).2
          subst this
          exact ⟨by show 2 <= 2; decide, by show 0 <= 1440; decide, by show 0 <= 120; decide, by show 0 <= 2; decide, fun z => by cases (show false = true from z)⟩
        . subst eh
          obtain ⟨hp4, l4, as4, rfl, hH4, nl4, g4⟩ := hT4
          refine ⟨_, rfl, rfl, _, rfl, iteF' (by simpa using z0) ⟨_, rfl, rfl, _, rfl, iteF' (by simpa using p0) ?_⟩⟩
          refine ⟨_, rfl, _, rfl, _, rfl, _, rfl, nq, rq, _, _, rfl, rfl, hn4, hr4, ?_, fun q5 hq5 => ?_⟩
          . rw [List.length_map, List.length_map, sizeLine_eq]
            have z := opp_len op
            rw [List.length_append] at z
            omega
          . have s5 := Same.new (o := .lst (((cs.drop (at_ + 1)).take n).map V.int ++ (rows.headD []).map V.int)) hq5
            obtain ⟨g6, l6⟩ := good_step g4 op
            refine ⟨hp4, l4, as4, hh, p, q5, (cs.drop (at_ + 1)).take n ++ rows.headD [], cl, rfl, hH4.same s5, g4, lo4.same s5, by rw [upd_same, List.map_append], op, fun H6 aq naq hH6 lo6 haq c6 => ?_⟩
            have k6 := Kin.trans (Kin.of s5) (Kin.chS (lo4.same s5) (hH4.same s5) c6)
            exact ⟨some _, .ref hp4, _, aq, rfl, k6.sq hS4, k6.lst ht4, lo6, ⟨hp4, l4, as4, rfl, hH6, nl4, g6⟩, haq, (ne_of_none (s5 _ _ ht4) naq).symm, l6, es⟩
      rintro _ H5 ⟨st', v', ans, aq, rfl, hS5, ht5, lo5, hT5, ha5, nat, hal5, es⟩
      have hcnt' : (rest2.length + 1) + cnt <= 60 := hcnt
      refine ⟨_, rfl, .inl ⟨rfl, _, SqL.of ht5⟩, _, rfl, aq, _, rfl, .inl (SqL.of ha5), tq, _, _, rfl, rfl, ht5, ?_, ?_⟩
      . rw [List.length_map, sizeLine_eq]; omega
      have ht6 : upd H5 tq (.lst (done.map V.int ++ [.int ((ans.map V.int).length : Int)])) tq = some (.lst (done.map V.int ++ [.int ((ans.map V.int).length : Int)])) := upd_same
      have ha6 : upd H5 tq (.lst (done.map V.int ++ [.int ((ans.map V.int).length : Int)])) aq = some (.lst (ans.map V.int)) := by rw [upd_ne nat]; exact ha5
      refine ⟨_, rfl, .inl ⟨rfl, _, SqL.of ht6⟩, _, rfl, tq, aq, _, _, rfl, rfl, ht6, ha6, ?_, ?_⟩
      . rw [List.length_append, List.length_map, List.length_map, sizeLine_eq]; show _ + 1 + _ <= _; omega
      refine ⟨_, rfl, cs.length - nb, by omega, nb, cnt + 1, f2, st', v', done ++ (ans.length : Int) :: ans, rest2, _, _, _, _, _, _, rfl, rfl, ?_, ?_, (lo5.lst ht5).lst ht6, (hT5.lst ht5).lst ht6, hnb2, by rw [hnb]; exact hr2, ?_, by omega, ?_⟩
      . rcases key with z | z
        . exact z _
        rcases hS5 with (e | ⟨o, e⟩) | e
        . exact .inl (.inl (by rw [upd_ne z, upd_ne z]; exact e))
        . exact .inl (.inr ⟨o, by rw [upd_ne (ne_of e ht5 (by intro z; cases z)), upd_ne (ne_of e ht5 (by intro z; cases z))]; exact e⟩)
        . exact .inr e
      . rw [upd_same, List.map_append, List.length_map, List.append_assoc]; rfl
      . rw [played_cons, told_cons, es] at hdue
        rw [List.append_assoc]
        exact hdue
      . rw [List.length_append, List.length_cons]; omega
    . have c0 : at_ = cs.length := by
        rw [lenC] at c0
        have : ¬ (at_ : Int) < (cs.length : Int) := fun z => c0 (decide_eq_true z)
        omega
      subst c0
      rw [List.drop_length] at hr1
      have er : rest = [] := by
        cases f' with
        | zero => exact (Option.some.inj hr1).symm
        | succ f' => exact (Option.some.inj hr1).symm
      subst er
      have hdue : done ++ [] = due := hdue
      rw [List.append_nil] at hdue
      refine ⟨_, rfl, k H1 tq lo1 ?_⟩
      rw [ht1, hdue]
end
end Z
namespace Z
open PySem PySem.Spec PyProof.Rows L2 R
open PySem.W (codeIn findIn fnOf hasDictIn isFn keepIn makesIn mg_none_of mg_of nsIn plainGet plainOver)
theorem hi_0 : (0 : Int) = hashInt 0 := by decide +kernel
theorem hi_1 : (1 : Int) = hashInt 1 := by decide +kernel
theorem hi_2 : (2 : Int) = hashInt 2 := by decide +kernel
theorem hi_3 : (3 : Int) = hashInt 3 := by decide +kernel
theorem hi_4 : (4 : Int) = hashInt 4 := by decide +kernel
theorem hi_5 : (5 : Int) = hashInt 5 := by decide +kernel
theorem hi_6 : (6 : Int) = hashInt 6 := by decide +kernel
theorem hi_7 : (7 : Int) = hashInt 7 := by decide +kernel
theorem hi_8 : (8 : Int) = hashInt 8 := by decide +kernel
theorem hi_9 : (9 : Int) = hashInt 9 := by decide +kernel
theorem hi_10 : (10 : Int) = hashInt 10 := by decide +kernel
theorem hi_11 : (11 : Int) = hashInt 11 := by decide +kernel
theorem hi_12 : (12 : Int) = hashInt 12 := by decide +kernel
theorem hi_13 : (13 : Int) = hashInt 13 := by decide +kernel
theorem hi_14 : (14 : Int) = hashInt 14 := by decide +kernel
theorem hi_15 : (15 : Int) = hashInt 15 := by decide +kernel
theorem hi_16 : (16 : Int) = hashInt 16 := by decide +kernel
theorem hi_17 : (17 : Int) = hashInt 17 := by decide +kernel
theorem hi_18 : (18 : Int) = hashInt 18 := by decide +kernel
theorem hi_19 : (19 : Int) = hashInt 19 := by decide +kernel
theorem hi_20 : (20 : Int) = hashInt 20 := by decide +kernel
theorem hi_21 : (21 : Int) = hashInt 21 := by decide +kernel
theorem all_mk {K : PySem.W.Frag} {h : Heap} {mg : Str -> Option Value} (X : K.In h) (G : h.Ns mainGlobals mg)
 {t_1v t_1s t_1w t_2g t_2f t_2h t_27 t_26 t_28 t_1y t_1x t_2c t_1z t_1t t_1u t_23 t_2d t_21 t_1r t_1p t_2e t_2b t_25 t_20 t_2a t_24 t_22 t_1q t_29 t1 t2 t3 t4 t5 t6 t7 t8 t9 t10 t11 t12 t13 t14 t15 t16 t17 t18 t19 t20 t21 t22 t23 t24 t25 t26 t27 t28 t30 t32 t34 t36 t38 t40 t42 t44 t46 t48 t50 t52 t54 t56 t58 t60 t62 t64 t66 t68 t70 t101 t102 t103 t104 t105 t106 t107 t108 t109 t110 t111 t112 t113 t114 t115 t116 t117 t118 t119 t120 t121 t122 t123 t124 t125 t126 t127 t128 t129 t130 t131 t132 t133 t134 t135 t136 t137 t138 t139 t140 t141 t142 t143 t144 t145 t146 t147 t148 t149 t150 t151 t152 t153 t154 t155 t156 t157 t158 t159 t161 t163 t164 t165 t166 t167 t168 t169 t170 t171 t172 t173 t174 t175 t176 t177 t178 t179 t180 t181 t182 t183 t184 t185 t186 t187 t188 t189 t190 : Tok}
 {C_1 I_1 C_0 I_0 C_2 I_2 F_o F_y F_x F_f F_i F_10 F_1f F_v F_1g F_e F_h F_1e F_p F_7 F_u F_8 F_9 F_13 F_n F_1i F_t F_1c F_z F_q F_s F_r F_11 F_w F_17 F_18 F_14 F_15 F_16 F_1j F_1d F_c F_1h F_l F_12 F_k F_j F_19 F_g F_a F_b F_d F_3 F_1a F_4 F_6 F_m F_1b F_5 M_1l M_1k M_1m x29 x31 x33 x35 x37 x39 x41 x43 x45 x47 x49 x51 x53 x55 x57 x59 x61 x63 x65 x67 x69 x71 x72 x73 x74 x75 x76 x77 x78 x79 x80 x81 x82 x83 x84 x85 x86 x87 x88 x89 x90 x91 x92 x93 x94 x95 x96 x97 x98 x99 x100 M_1o x160 x162 M_1n : Addr}
 {od_1 an_1 od_0 an_0 od_2 an_2 od_o an_o od_y an_y od_x an_x od_f an_f od_i an_i od_10 an_10 od_1f an_1f od_v an_v od_1g an_1g od_e an_e od_h an_h od_1e an_1e od_p an_p od_7 an_7 od_u an_u od_8 an_8 od_9 an_9 od_13 an_13 od_n an_n od_1i an_1i od_t an_t od_1c an_1c od_z an_z od_q an_q od_s an_s od_r an_r od_11 an_11 od_w an_w od_17 an_17 od_18 an_18 od_14 an_14 od_15 an_15 od_16 an_16 od_1j an_1j od_1d an_1d od_c an_c od_1h an_1h od_l an_l od_12 an_12 od_k an_k od_j an_j od_19 an_19 od_g an_g od_a an_a od_b an_b od_d an_d od_3 an_3 od_1a an_1a od_4 an_4 od_6 an_6 od_m an_m od_1b an_1b od_5 an_5 : Option Addr}
 {sl_1 sl_0 sl_2 sl_o sl_y sl_x sl_f sl_i sl_10 sl_1f sl_v sl_1g sl_e sl_h sl_1e sl_p sl_7 sl_u sl_8 sl_9 sl_13 sl_n sl_1i sl_t sl_1c sl_z sl_q sl_s sl_r sl_11 sl_w sl_17 sl_18 sl_14 sl_15 sl_16 sl_1j sl_1d sl_c sl_1h sl_l sl_12 sl_k sl_j sl_19 sl_g sl_a sl_b sl_d sl_3 sl_1a sl_4 sl_6 sl_m sl_1b sl_5 : Array (Option Value)}
 {oc_1 kV_1 dc_1 pm_1 cd_1 ct_1 oc_0 kV_0 dc_0 pm_0 cd_0 ct_0 oc_2 kV_2 dc_2 pm_2 cd_2 ct_2 oc_o kV_o dc_o pm_o cd_o ct_o oc_y kV_y dc_y pm_y cd_y ct_y oc_x kV_x dc_x pm_x cd_x ct_x oc_f kV_f dc_f pm_f cd_f ct_f oc_i kV_i dc_i pm_i cd_i ct_i oc_10 kV_10 dc_10 pm_10 cd_10 ct_10 oc_1f kV_1f dc_1f pm_1f cd_1f ct_1f oc_v kV_v dc_v pm_v cd_v ct_v oc_1g kV_1g dc_1g pm_1g cd_1g ct_1g oc_e kV_e dc_e pm_e cd_e ct_e oc_h kV_h dc_h pm_h cd_h ct_h oc_1e kV_1e dc_1e pm_1e cd_1e ct_1e oc_p kV_p dc_p pm_p cd_p ct_p oc_7 kV_7 dc_7 pm_7 cd_7 ct_7 oc_u kV_u dc_u pm_u cd_u ct_u oc_8 kV_8 dc_8 pm_8 cd_8 ct_8 oc_9 kV_9 dc_9 pm_9 cd_9 ct_9 oc_13 kV_13 dc_13 pm_13 cd_13 ct_13 oc_n kV_n dc_n pm_n cd_n ct_n oc_1i kV_1i dc_1i pm_1i cd_1i ct_1i oc_t kV_t dc_t pm_t cd_t ct_t oc_1c kV_1c dc_1c pm_1c cd_1c ct_1c oc_z kV_z dc_z pm_z cd_z ct_z oc_q kV_q dc_q pm_q cd_q ct_q oc_s kV_s dc_s pm_s cd_s ct_s oc_r kV_r dc_r pm_r cd_r ct_r oc_11 kV_11 dc_11 pm_11 cd_11 ct_11 oc_w kV_w dc_w pm_w cd_w ct_w oc_17 kV_17 dc_17 pm_17 cd_17 ct_17 oc_18 kV_18 dc_18 pm_18 cd_18 ct_18 oc_14 kV_14 dc_14 pm_14 cd_14 ct_14 oc_15 kV_15 dc_15 pm_15 cd_15 ct_15 oc_16 kV_16 dc_16 pm_16 cd_16 ct_16 oc_1j kV_1j dc_1j pm_1j cd_1j ct_1j oc_1d kV_1d dc_1d pm_1d cd_1d ct_1d oc_c kV_c dc_c pm_c cd_c ct_c oc_1h kV_1h dc_1h pm_1h cd_1h ct_1h oc_l kV_l dc_l pm_l cd_l ct_l oc_12 kV_12 dc_12 pm_12 cd_12 ct_12 oc_k kV_k dc_k pm_k cd_k ct_k oc_j kV_j dc_j pm_j cd_j ct_j oc_19 kV_19 dc_19 pm_19 cd_19 ct_19 oc_g kV_g dc_g pm_g cd_g ct_g oc_a kV_a dc_a pm_a cd_a ct_a oc_b kV_b dc_b pm_b cd_b ct_b oc_d kV_d dc_d pm_d cd_d ct_d oc_3 kV_3 dc_3 pm_3 cd_3 ct_3 oc_1a kV_1a dc_1a pm_1a cd_1a ct_1a oc_4 kV_4 dc_4 pm_4 cd_4 ct_4 oc_6 kV_6 dc_6 pm_6 cd_6 ct_6 oc_m kV_m dc_m pm_m cd_m ct_m oc_1b kV_1b dc_1b pm_1b cd_1b ct_1b oc_5 kV_5 dc_5 pm_5 cd_5 ct_5 : Value}
 {ep_1k ep_1m ep_1o ep_1n : Nat}
 (h_1v : nsIn K mainGlobals "DIRTY" = some (some (.int (0) t_1v)))
 (h_1s : nsIn K mainGlobals "CLEANED" = some (some (.int (1) t_1s)))
 (h_1w : nsIn K mainGlobals "INSPECTED" = some (some (.int (2) t_1w)))
 (h_2g : nsIn K mainGlobals "VD" = some (some (.int (0) t_2g)))
 (h_2f : nsIn K mainGlobals "VC" = some (some (.int (1) t_2f)))
 (h_2h : nsIn K mainGlobals "VI" = some (some (.int (2) t_2h)))
 (h_27 : nsIn K mainGlobals "OD" = some (some (.int (3) t_27)))
 (h_26 : nsIn K mainGlobals "OC" = some (some (.int (4) t_26)))
 (h_28 : nsIn K mainGlobals "OO" = some (some (.int (5) t_28)))
 (h_1y : nsIn K mainGlobals "NOTHING_SEEN" = some (some (.int (0) t_1y)))
 (h_1x : nsIn K mainGlobals "NOBODY_SEEN" = some (some (.int (1) t_1x)))
 (h_2c : nsIn K mainGlobals "SOMEBODY_SEEN" = some (some (.int (2) t_2c)))
 (h_1z : nsIn K mainGlobals "NOTHING_TODAY" = some (some (.int (0) t_1z)))
 (h_1t : nsIn K mainGlobals "CLEANED_TODAY" = some (some (.int (1) t_1t)))
 (h_1u : nsIn K mainGlobals "DECLINED_TODAY" = some (some (.int (2) t_1u)))
 (h_23 : nsIn K mainGlobals "NO_DIFFERENCE" = some (some (.int (0) t_23)))
 (h_2d : nsIn K mainGlobals "TAKEN_BUT_NOBODY" = some (some (.int (1) t_2d)))
 (h_21 : nsIn K mainGlobals "NOT_TAKEN_BUT_SOMEBODY" = some (some (.int (2) t_21)))
 (h_1r : nsIn K mainGlobals "BLANK" = some (some (.int (32) t_1r)))
 (h_1p : nsIn K mainGlobals "ACCEPTED" = some (some (.int (0) t_1p)))
 (h_2e : nsIn K mainGlobals "TEXT_NOT_AS_TOLD" = some (some (.int (-5) t_2e)))
 (h_2b : nsIn K mainGlobals "ROOM_NOT_AS_TOLD" = some (some (.int (-6) t_2b)))
 (h_25 : nsIn K mainGlobals "NO_TASKS" = some (some (.int (-8) t_25)))
 (h_20 : nsIn K mainGlobals "NOT_REFUSED" = some (some (.int (0) t_20)))
 (h_2a : nsIn K mainGlobals "OUT_OF_RANGE" = some (some (.int (-1) t_2a)))
 (h_24 : nsIn K mainGlobals "NO_HOUSE" = some (some (.int (-2) t_24)))
 (h_22 : nsIn K mainGlobals "NOT_THERE" = some (some (.int (-3) t_22)))
 (h_1q : nsIn K mainGlobals "BEGIN_HOUSE" = some (some (.int (0) t_1q)))
 (h_29 : nsIn K mainGlobals "ORDER" = some (some (.int (15) t_29)))
 (h_2j : nsIn K mainGlobals "len" = some (none))
 (h_2m : nsIn K mainGlobals "range" = some (none))
 (h_2p : nsIn K mainGlobals "zip" = some (none))
 (h_2i : nsIn K mainGlobals "enumerate" = some (none))
 (h_2k : nsIn K mainGlobals "max" = some (none))
 (h_2o : nsIn K mainGlobals "sum" = some (none))
 (h_2n : nsIn K mainGlobals "sorted" = some (none))
 (h_2l : nsIn K mainGlobals "ord" = some (none))
 (h_1 : nsIn K mainGlobals "Room" = some (some (.ref C_1)))
 (i_1 : findIn K (.ref C_1) "__init__" = some (some (.ref I_1)))
 (j_1 : isFn K (.ref I_1) = true)
 (l_1 : K.lookup I_1 = some ⟨oc_1, od_1, .func (fnOf "__init__" "Room.__init__" (defArgs s_Room_init) (defBody s_Room_init) (defScope s_Room_init) .none kV_1 dc_1 pm_1 an_1 cd_1 ct_1), sl_1⟩)
 (e_1 : codeIn K cd_1 "Room.__init__" = true)
 (k_1 : keepIn K (.ref I_1) = true)
 (pg_1 : plainGet K C_1 Str.empty = true)
 (hd_1 : hasDictIn K C_1 = true)
 (po_1 : plainOver K C_1 = true)
 (sa_1 : findIn K (.ref C_1) "__setattr__" = some (some (.builtin "object.__setattr__")))
 (mk_1 : makesIn K C_1 = true)
 (kc_1 : keepIn K (.ref C_1) = true)
 (n_2v : findIn K (.ref C_1) "due" = some none)
 (n_2w : findIn K (.ref C_1) "extra" = some none)
 (n_2x : findIn K (.ref C_1) "seen" = some none)
 (n_2y : findIn K (.ref C_1) "shut" = some none)
 (n_2z : findIn K (.ref C_1) "state" = some none)
 (n_30 : findIn K (.ref C_1) "taken" = some none)
 (n_31 : findIn K (.ref C_1) "today" = some none)
 (h_0 : nsIn K mainGlobals "House" = some (some (.ref C_0)))
 (i_0 : findIn K (.ref C_0) "__init__" = some (some (.ref I_0)))
 (j_0 : isFn K (.ref I_0) = true)
 (l_0 : K.lookup I_0 = some ⟨oc_0, od_0, .func (fnOf "__init__" "House.__init__" (defArgs s_House_init) (defBody s_House_init) (defScope s_House_init) .none kV_0 dc_0 pm_0 an_0 cd_0 ct_0), sl_0⟩)
 (e_0 : codeIn K cd_0 "House.__init__" = true)
 (k_0 : keepIn K (.ref I_0) = true)
 (pg_0 : plainGet K C_0 Str.empty = true)
 (hd_0 : hasDictIn K C_0 = true)
 (po_0 : plainOver K C_0 = true)
 (sa_0 : findIn K (.ref C_0) "__setattr__" = some (some (.builtin "object.__setattr__")))
 (mk_0 : makesIn K C_0 = true)
 (kc_0 : keepIn K (.ref C_0) = true)
 (n_2q : findIn K (.ref C_0) "check" = some none)
 (n_2r : findIn K (.ref C_0) "day" = some none)
 (n_2s : findIn K (.ref C_0) "heavy" = some none)
 (n_2t : findIn K (.ref C_0) "light" = some none)
 (n_2u : findIn K (.ref C_0) "rooms" = some none)
 (h_2 : nsIn K mainGlobals "Task" = some (some (.ref C_2)))
 (i_2 : findIn K (.ref C_2) "__init__" = some (some (.ref I_2)))
 (j_2 : isFn K (.ref I_2) = true)
 (l_2 : K.lookup I_2 = some ⟨oc_2, od_2, .func (fnOf "__init__" "Task.__init__" (defArgs s_Task_init) (defBody s_Task_init) (defScope s_Task_init) .none kV_2 dc_2 pm_2 an_2 cd_2 ct_2), sl_2⟩)
 (e_2 : codeIn K cd_2 "Task.__init__" = true)
 (k_2 : keepIn K (.ref I_2) = true)
 (pg_2 : plainGet K C_2 Str.empty = true)
 (hd_2 : hasDictIn K C_2 = true)
 (po_2 : plainOver K C_2 = true)
 (sa_2 : findIn K (.ref C_2) "__setattr__" = some (some (.builtin "object.__setattr__")))
 (mk_2 : makesIn K C_2 = true)
 (kc_2 : keepIn K (.ref C_2) = true)
 (n_32 : findIn K (.ref C_2) "due" = some none)
 (n_33 : findIn K (.ref C_2) "minutes" = some none)
 (n_34 : findIn K (.ref C_2) "number" = some none)
 (h_o : nsIn K mainGlobals "forget_the_day" = some (some (.ref F_o)))
 (l_o : K.lookup F_o = some ⟨oc_o, od_o, .func (fnOf "forget_the_day" "forget_the_day" (defArgs s_forget_the_day) (defBody s_forget_the_day) (defScope s_forget_the_day) .none kV_o dc_o pm_o an_o cd_o ct_o), sl_o⟩)
 (e_o : codeIn K cd_o "forget_the_day" = true)
 (k_o : keepIn K (.ref F_o) = true)
 (h_y : nsIn K mainGlobals "make_vacated" = some (some (.ref F_y)))
 (l_y : K.lookup F_y = some ⟨oc_y, od_y, .func (fnOf "make_vacated" "make_vacated" (defArgs s_make_vacated) (defBody s_make_vacated) (defScope s_make_vacated) .none kV_y dc_y pm_y an_y cd_y ct_y), sl_y⟩)
 (e_y : codeIn K cd_y "make_vacated" = true)
 (k_y : keepIn K (.ref F_y) = true)
 (h_x : nsIn K mainGlobals "make_filled" = some (some (.ref F_x)))
 (l_x : K.lookup F_x = some ⟨oc_x, od_x, .func (fnOf "make_filled" "make_filled" (defArgs s_make_filled) (defBody s_make_filled) (defScope s_make_filled) .none kV_x dc_x pm_x an_x cd_x ct_x), sl_x⟩)
 (e_x : codeIn K cd_x "make_filled" = true)
 (k_x : keepIn K (.ref F_x) = true)
 (h_f : nsIn K mainGlobals "code_of" = some (some (.ref F_f)))
 (l_f : K.lookup F_f = some ⟨oc_f, od_f, .func (fnOf "code_of" "code_of" (defArgs s_code_of) (defBody s_code_of) (defScope s_code_of) .none kV_f dc_f pm_f an_f cd_f ct_f), sl_f⟩)
 (e_f : codeIn K cd_f "code_of" = true)
 (k_f : keepIn K (.ref F_f) = true)
 (h_i : nsIn K mainGlobals "difference_about" = some (some (.ref F_i)))
 (l_i : K.lookup F_i = some ⟨oc_i, od_i, .func (fnOf "difference_about" "difference_about" (defArgs s_difference_about) (defBody s_difference_about) (defScope s_difference_about) .none kV_i dc_i pm_i an_i cd_i ct_i), sl_i⟩)
 (e_i : codeIn K cd_i "difference_about" = true)
 (k_i : keepIn K (.ref F_i) = true)
 (h_10 : nsIn K mainGlobals "minutes_of" = some (some (.ref F_10)))
 (l_10 : K.lookup F_10 = some ⟨oc_10, od_10, .func (fnOf "minutes_of" "minutes_of" (defArgs s_minutes_of) (defBody s_minutes_of) (defScope s_minutes_of) .none kV_10 dc_10 pm_10 an_10 cd_10 ct_10), sl_10⟩)
 (e_10 : codeIn K cd_10 "minutes_of" = true)
 (k_10 : keepIn K (.ref F_10) = true)
 (h_1f : nsIn K mainGlobals "tasks_of" = some (some (.ref F_1f)))
 (l_1f : K.lookup F_1f = some ⟨oc_1f, od_1f, .func (fnOf "tasks_of" "tasks_of" (defArgs s_tasks_of) (defBody s_tasks_of) (defScope s_tasks_of) .none kV_1f dc_1f pm_1f an_1f cd_1f ct_1f), sl_1f⟩)
 (e_1f : codeIn K cd_1f "tasks_of" = true)
 (k_1f : keepIn K (.ref F_1f) = true)
 (h_v : nsIn K mainGlobals "letters_of" = some (some (.ref F_v)))
 (l_v : K.lookup F_v = some ⟨oc_v, od_v, .func (fnOf "letters_of" "letters_of" (defArgs s_letters_of) (defBody s_letters_of) (defScope s_letters_of) .none kV_v dc_v pm_v an_v cd_v ct_v), sl_v⟩)
 (e_v : codeIn K cd_v "letters_of" = true)
 (k_v : keepIn K (.ref F_v) = true)
 (h_1g : nsIn K mainGlobals "text_of" = some (some (.ref F_1g)))
 (l_1g : K.lookup F_1g = some ⟨oc_1g, od_1g, .func (fnOf "text_of" "text_of" (defArgs s_text_of) (defBody s_text_of) (defScope s_text_of) .none kV_1g dc_1g pm_1g an_1g cd_1g ct_1g), sl_1g⟩)
 (e_1g : codeIn K cd_1g "text_of" = true)
 (k_1g : keepIn K (.ref F_1g) = true)
 (h_e : nsIn K mainGlobals "code_named" = some (some (.ref F_e)))
 (l_e : K.lookup F_e = some ⟨oc_e, od_e, .func (fnOf "code_named" "code_named" (defArgs s_code_named) (defBody s_code_named) (defScope s_code_named) .none kV_e dc_e pm_e an_e cd_e ct_e), sl_e⟩)
 (e_e : codeIn K cd_e "code_named" = true)
 (k_e : keepIn K (.ref F_e) = true)
 (h_h : nsIn K mainGlobals "codes_in" = some (some (.ref F_h)))
 (l_h : K.lookup F_h = some ⟨oc_h, od_h, .func (fnOf "codes_in" "codes_in" (defArgs s_codes_in) (defBody s_codes_in) (defScope s_codes_in) .none kV_h dc_h pm_h an_h cd_h ct_h), sl_h⟩)
 (e_h : codeIn K cd_h "codes_in" = true)
 (k_h : keepIn K (.ref F_h) = true)
 (h_1e : nsIn K mainGlobals "state_written" = some (some (.ref F_1e)))
 (l_1e : K.lookup F_1e = some ⟨oc_1e, od_1e, .func (fnOf "state_written" "state_written" (defArgs s_state_written) (defBody s_state_written) (defScope s_state_written) .none kV_1e dc_1e pm_1e an_1e cd_1e ct_1e), sl_1e⟩)
 (e_1e : codeIn K cd_1e "state_written" = true)
 (k_1e : keepIn K (.ref F_1e) = true)
 (h_p : nsIn K mainGlobals "give_code" = some (some (.ref F_p)))
 (l_p : K.lookup F_p = some ⟨oc_p, od_p, .func (fnOf "give_code" "give_code" (defArgs s_give_code) (defBody s_give_code) (defScope s_give_code) .none kV_p dc_p pm_p an_p cd_p ct_p), sl_p⟩)
 (e_p : codeIn K cd_p "give_code" = true)
 (k_p : keepIn K (.ref F_p) = true)
 (h_7 : nsIn K mainGlobals "attendants_needed" = some (some (.ref F_7)))
 (l_7 : K.lookup F_7 = some ⟨oc_7, od_7, .func (fnOf "attendants_needed" "attendants_needed" (defArgs s_attendants_needed) (defBody s_attendants_needed) (defScope s_attendants_needed) .none kV_7 dc_7 pm_7 an_7 cd_7 ct_7), sl_7⟩)
 (e_7 : codeIn K cd_7 "attendants_needed" = true)
 (k_7 : keepIn K (.ref F_7) = true)
 (h_u : nsIn K mainGlobals "least_greatest_load" = some (some (.ref F_u)))
 (l_u : K.lookup F_u = some ⟨oc_u, od_u, .func (fnOf "least_greatest_load" "least_greatest_load" (defArgs s_least_greatest_load) (defBody s_least_greatest_load) (defScope s_least_greatest_load) .none kV_u dc_u pm_u an_u cd_u ct_u), sl_u⟩)
 (e_u : codeIn K cd_u "least_greatest_load" = true)
 (k_u : keepIn K (.ref F_u) = true)
 (h_8 : nsIn K mainGlobals "best_share" = some (some (.ref F_8)))
 (l_8 : K.lookup F_8 = some ⟨oc_8, od_8, .func (fnOf "best_share" "best_share" (defArgs s_best_share) (defBody s_best_share) (defScope s_best_share) .none kV_8 dc_8 pm_8 an_8 cd_8 ct_8), sl_8⟩)
 (e_8 : codeIn K cd_8 "best_share" = true)
 (k_8 : keepIn K (.ref F_8) = true)
 (h_9 : nsIn K mainGlobals "best_shares" = some (some (.ref F_9)))
 (l_9 : K.lookup F_9 = some ⟨oc_9, od_9, .func (fnOf "best_shares" "best_shares" (defArgs s_best_shares) (defBody s_best_shares) (defScope s_best_shares) .none kV_9 dc_9 pm_9 an_9 cd_9 ct_9), sl_9⟩)
 (e_9 : codeIn K cd_9 "best_shares" = true)
 (k_9 : keepIn K (.ref F_9) = true)
 (h_13 : nsIn K mainGlobals "parting_told" = some (some (.ref F_13)))
 (l_13 : K.lookup F_13 = some ⟨oc_13, od_13, .func (fnOf "parting_told" "parting_told" (defArgs s_parting_told) (defBody s_parting_told) (defScope s_parting_told) .none kV_13 dc_13 pm_13 an_13 cd_13 ct_13), sl_13⟩)
 (e_13 : codeIn K cd_13 "parting_told" = true)
 (k_13 : keepIn K (.ref F_13) = true)
 (h_n : nsIn K mainGlobals "first_place_reaching" = some (some (.ref F_n)))
 (l_n : K.lookup F_n = some ⟨oc_n, od_n, .func (fnOf "first_place_reaching" "first_place_reaching" (defArgs s_first_place_reaching) (defBody s_first_place_reaching) (defScope s_first_place_reaching) .none kV_n dc_n pm_n an_n cd_n ct_n), sl_n⟩)
 (e_n : codeIn K cd_n "first_place_reaching" = true)
 (k_n : keepIn K (.ref F_n) = true)
 (h_1i : nsIn K mainGlobals "witness_told" = some (some (.ref F_1i)))
 (l_1i : K.lookup F_1i = some ⟨oc_1i, od_1i, .func (fnOf "witness_told" "witness_told" (defArgs s_witness_told) (defBody s_witness_told) (defScope s_witness_told) .none kV_1i dc_1i pm_1i an_1i cd_1i ct_1i), sl_1i⟩)
 (e_1i : codeIn K cd_1i "witness_told" = true)
 (k_1i : keepIn K (.ref F_1i) = true)
 (h_t : nsIn K mainGlobals "is_witness" = some (some (.ref F_t)))
 (l_t : K.lookup F_t = some ⟨oc_t, od_t, .func (fnOf "is_witness" "is_witness" (defArgs s_is_witness) (defBody s_is_witness) (defScope s_is_witness) .none kV_t dc_t pm_t an_t cd_t ct_t), sl_t⟩)
 (e_t : codeIn K cd_t "is_witness" = true)
 (k_t : keepIn K (.ref F_t) = true)
 (h_1c : nsIn K mainGlobals "row_of" = some (some (.ref F_1c)))
 (l_1c : K.lookup F_1c = some ⟨oc_1c, od_1c, .func (fnOf "row_of" "row_of" (defArgs s_row_of) (defBody s_row_of) (defScope s_row_of) .none kV_1c dc_1c pm_1c an_1c cd_1c ct_1c), sl_1c⟩)
 (e_1c : codeIn K cd_1c "row_of" = true)
 (k_1c : keepIn K (.ref F_1c) = true)
 (h_z : nsIn K mainGlobals "minutes_in_order" = some (some (.ref F_z)))
 (l_z : K.lookup F_z = some ⟨oc_z, od_z, .func (fnOf "minutes_in_order" "minutes_in_order" (defArgs s_minutes_in_order) (defBody s_minutes_in_order) (defScope s_minutes_in_order) .none kV_z dc_z pm_z an_z cd_z ct_z), sl_z⟩)
 (e_z : codeIn K cd_z "minutes_in_order" = true)
 (k_z : keepIn K (.ref F_z) = true)
 (h_q : nsIn K mainGlobals "guest_in" = some (some (.ref F_q)))
 (l_q : K.lookup F_q = some ⟨oc_q, od_q, .func (fnOf "guest_in" "guest_in" (defArgs s_guest_in) (defBody s_guest_in) (defScope s_guest_in) .none kV_q dc_q pm_q an_q cd_q ct_q), sl_q⟩)
 (e_q : codeIn K cd_q "guest_in" = true)
 (k_q : keepIn K (.ref F_q) = true)
 (h_s : nsIn K mainGlobals "guest_out" = some (some (.ref F_s)))
 (l_s : K.lookup F_s = some ⟨oc_s, od_s, .func (fnOf "guest_out" "guest_out" (defArgs s_guest_out) (defBody s_guest_out) (defScope s_guest_out) .none kV_s dc_s pm_s an_s cd_s ct_s), sl_s⟩)
 (e_s : codeIn K cd_s "guest_out" = true)
 (k_s : keepIn K (.ref F_s) = true)
 (h_r : nsIn K mainGlobals "guest_moves" = some (some (.ref F_r)))
 (l_r : K.lookup F_r = some ⟨oc_r, od_r, .func (fnOf "guest_moves" "guest_moves" (defArgs s_guest_moves) (defBody s_guest_moves) (defScope s_guest_moves) .none kV_r dc_r pm_r an_r cd_r ct_r), sl_r⟩)
 (e_r : codeIn K cd_r "guest_moves" = true)
 (k_r : keepIn K (.ref F_r) = true)
 (h_11 : nsIn K mainGlobals "night_passes" = some (some (.ref F_11)))
 (l_11 : K.lookup F_11 = some ⟨oc_11, od_11, .func (fnOf "night_passes" "night_passes" (defArgs s_night_passes) (defBody s_night_passes) (defScope s_night_passes) .none kV_11 dc_11 pm_11 an_11 cd_11 ct_11), sl_11⟩)
 (e_11 : codeIn K cd_11 "night_passes" = true)
 (k_11 : keepIn K (.ref F_11) = true)
 (h_w : nsIn K mainGlobals "maid_reports" = some (some (.ref F_w)))
 (l_w : K.lookup F_w = some ⟨oc_w, od_w, .func (fnOf "maid_reports" "maid_reports" (defArgs s_maid_reports) (defBody s_maid_reports) (defScope s_maid_reports) .none kV_w dc_w pm_w an_w cd_w ct_w), sl_w⟩)
 (e_w : codeIn K cd_w "maid_reports" = true)
 (k_w : keepIn K (.ref F_w) = true)
 (h_17 : nsIn K mainGlobals "room_inspected" = some (some (.ref F_17)))
 (l_17 : K.lookup F_17 = some ⟨oc_17, od_17, .func (fnOf "room_inspected" "room_inspected" (defArgs s_room_inspected) (defBody s_room_inspected) (defScope s_room_inspected) .none kV_17 dc_17 pm_17 an_17 cd_17 ct_17), sl_17⟩)
 (e_17 : codeIn K cd_17 "room_inspected" = true)
 (k_17 : keepIn K (.ref F_17) = true)
 (h_18 : nsIn K mainGlobals "room_shut" = some (some (.ref F_18)))
 (l_18 : K.lookup F_18 = some ⟨oc_18, od_18, .func (fnOf "room_shut" "room_shut" (defArgs s_room_shut) (defBody s_room_shut) (defScope s_room_shut) .none kV_18 dc_18 pm_18 an_18 cd_18 ct_18), sl_18⟩)
 (e_18 : codeIn K cd_18 "room_shut" = true)
 (k_18 : keepIn K (.ref F_18) = true)
 (h_14 : nsIn K mainGlobals "room_back" = some (some (.ref F_14)))
 (l_14 : K.lookup F_14 = some ⟨oc_14, od_14, .func (fnOf "room_back" "room_back" (defArgs s_room_back) (defBody s_room_back) (defScope s_room_back) .none kV_14 dc_14 pm_14 an_14 cd_14 ct_14), sl_14⟩)
 (e_14 : codeIn K cd_14 "room_back" = true)
 (k_14 : keepIn K (.ref F_14) = true)
 (h_15 : nsIn K mainGlobals "room_due" = some (some (.ref F_15)))
 (l_15 : K.lookup F_15 = some ⟨oc_15, od_15, .func (fnOf "room_due" "room_due" (defArgs s_room_due) (defBody s_room_due) (defScope s_room_due) .none kV_15 dc_15 pm_15 an_15 cd_15 ct_15), sl_15⟩)
 (e_15 : codeIn K cd_15 "room_due" = true)
 (k_15 : keepIn K (.ref F_15) = true)
 (h_16 : nsIn K mainGlobals "room_extra" = some (some (.ref F_16)))
 (l_16 : K.lookup F_16 = some ⟨oc_16, od_16, .func (fnOf "room_extra" "room_extra" (defArgs s_room_extra) (defBody s_room_extra) (defScope s_room_extra) .none kV_16 dc_16 pm_16 an_16 cd_16 ct_16), sl_16⟩)
 (e_16 : codeIn K cd_16 "room_extra" = true)
 (k_16 : keepIn K (.ref F_16) = true)
 (h_1j : nsIn K mainGlobals "work_told" = some (some (.ref F_1j)))
 (l_1j : K.lookup F_1j = some ⟨oc_1j, od_1j, .func (fnOf "work_told" "work_told" (defArgs s_work_told) (defBody s_work_told) (defScope s_work_told) .none kV_1j dc_1j pm_1j an_1j cd_1j ct_1j), sl_1j⟩)
 (e_1j : codeIn K cd_1j "work_told" = true)
 (k_1j : keepIn K (.ref F_1j) = true)
 (h_1d : nsIn K mainGlobals "split_told" = some (some (.ref F_1d)))
 (l_1d : K.lookup F_1d = some ⟨oc_1d, od_1d, .func (fnOf "split_told" "split_told" (defArgs s_split_told) (defBody s_split_told) (defScope s_split_told) .none kV_1d dc_1d pm_1d an_1d cd_1d ct_1d), sl_1d⟩)
 (e_1d : codeIn K cd_1d "split_told" = true)
 (k_1d : keepIn K (.ref F_1d) = true)
 (h_c : nsIn K mainGlobals "bound_told" = some (some (.ref F_c)))
 (l_c : K.lookup F_c = some ⟨oc_c, od_c, .func (fnOf "bound_told" "bound_told" (defArgs s_bound_told) (defBody s_bound_told) (defScope s_bound_told) .none kV_c dc_c pm_c an_c cd_c ct_c), sl_c⟩)
 (e_c : codeIn K cd_c "bound_told" = true)
 (k_c : keepIn K (.ref F_c) = true)
 (h_1h : nsIn K mainGlobals "witness_proved" = some (some (.ref F_1h)))
 (l_1h : K.lookup F_1h = some ⟨oc_1h, od_1h, .func (fnOf "witness_proved" "witness_proved" (defArgs s_witness_proved) (defBody s_witness_proved) (defScope s_witness_proved) .none kV_1h dc_1h pm_1h an_1h cd_1h ct_1h), sl_1h⟩)
 (e_1h : codeIn K cd_1h "witness_proved" = true)
 (k_1h : keepIn K (.ref F_1h) = true)
 (h_l : nsIn K mainGlobals "due_ones_first" = some (some (.ref F_l)))
 (l_l : K.lookup F_l = some ⟨oc_l, od_l, .func (fnOf "due_ones_first" "due_ones_first" (defArgs s_due_ones_first) (defBody s_due_ones_first) (defScope s_due_ones_first) .none kV_l dc_l pm_l an_l cd_l ct_l), sl_l⟩)
 (e_l : codeIn K cd_l "due_ones_first" = true)
 (k_l : keepIn K (.ref F_l) = true)
 (h_12 : nsIn K mainGlobals "order_told" = some (some (.ref F_12)))
 (l_12 : K.lookup F_12 = some ⟨oc_12, od_12, .func (fnOf "order_told" "order_told" (defArgs s_order_told) (defBody s_order_told) (defScope s_order_told) .none kV_12 dc_12 pm_12 an_12 cd_12 ct_12), sl_12⟩)
 (e_12 : codeIn K cd_12 "order_told" = true)
 (k_12 : keepIn K (.ref F_12) = true)
 (h_k : nsIn K mainGlobals "differences_told" = some (some (.ref F_k)))
 (l_k : K.lookup F_k = some ⟨oc_k, od_k, .func (fnOf "differences_told" "differences_told" (defArgs s_differences_told) (defBody s_differences_told) (defScope s_differences_told) .none kV_k dc_k pm_k an_k cd_k ct_k), sl_k⟩)
 (e_k : codeIn K cd_k "differences_told" = true)
 (k_k : keepIn K (.ref F_k) = true)
 (h_j : nsIn K mainGlobals "difference_resolved" = some (some (.ref F_j)))
 (l_j : K.lookup F_j = some ⟨oc_j, od_j, .func (fnOf "difference_resolved" "difference_resolved" (defArgs s_difference_resolved) (defBody s_difference_resolved) (defScope s_difference_resolved) .none kV_j dc_j pm_j an_j cd_j ct_j), sl_j⟩)
 (e_j : codeIn K cd_j "difference_resolved" = true)
 (k_j : keepIn K (.ref F_j) = true)
 (h_19 : nsIn K mainGlobals "room_told" = some (some (.ref F_19)))
 (l_19 : K.lookup F_19 = some ⟨oc_19, od_19, .func (fnOf "room_told" "room_told" (defArgs s_room_told) (defBody s_room_told) (defScope s_room_told) .none kV_19 dc_19 pm_19 an_19 cd_19 ct_19), sl_19⟩)
 (e_19 : codeIn K cd_19 "room_told" = true)
 (k_19 : keepIn K (.ref F_19) = true)
 (h_g : nsIn K mainGlobals "codes_counted" = some (some (.ref F_g)))
 (l_g : K.lookup F_g = some ⟨oc_g, od_g, .func (fnOf "codes_counted" "codes_counted" (defArgs s_codes_counted) (defBody s_codes_counted) (defScope s_codes_counted) .none kV_g dc_g pm_g an_g cd_g ct_g), sl_g⟩)
 (e_g : codeIn K cd_g "codes_counted" = true)
 (k_g : keepIn K (.ref F_g) = true)
 (h_a : nsIn K mainGlobals "board_told" = some (some (.ref F_a)))
 (l_a : K.lookup F_a = some ⟨oc_a, od_a, .func (fnOf "board_told" "board_told" (defArgs s_board_told) (defBody s_board_told) (defScope s_board_told) .none kV_a dc_a pm_a an_a cd_a ct_a), sl_a⟩)
 (e_a : codeIn K cd_a "board_told" = true)
 (k_a : keepIn K (.ref F_a) = true)
 (h_b : nsIn K mainGlobals "board_written" = some (some (.ref F_b)))
 (l_b : K.lookup F_b = some ⟨oc_b, od_b, .func (fnOf "board_written" "board_written" (defArgs s_board_written) (defBody s_board_written) (defScope s_board_written) .none kV_b dc_b pm_b an_b cd_b ct_b), sl_b⟩)
 (e_b : codeIn K cd_b "board_written" = true)
 (k_b : keepIn K (.ref F_b) = true)
 (h_d : nsIn K mainGlobals "carry_out" = some (some (.ref F_d)))
 (l_d : K.lookup F_d = some ⟨oc_d, od_d, .func (fnOf "carry_out" "carry_out" (defArgs s_carry_out) (defBody s_carry_out) (defScope s_carry_out) .none kV_d dc_d pm_d an_d cd_d ct_d), sl_d⟩)
 (e_d : codeIn K cd_d "carry_out" = true)
 (k_d : keepIn K (.ref F_d) = true)
 (h_3 : nsIn K mainGlobals "all_in_range" = some (some (.ref F_3)))
 (l_3 : K.lookup F_3 = some ⟨oc_3, od_3, .func (fnOf "all_in_range" "all_in_range" (defArgs s_all_in_range) (defBody s_all_in_range) (defScope s_all_in_range) .none kV_3 dc_3 pm_3 an_3 cd_3 ct_3), sl_3⟩)
 (e_3 : codeIn K cd_3 "all_in_range" = true)
 (k_3 : keepIn K (.ref F_3) = true)
 (h_1a : nsIn K mainGlobals "row_as_told" = some (some (.ref F_1a)))
 (l_1a : K.lookup F_1a = some ⟨oc_1a, od_1a, .func (fnOf "row_as_told" "row_as_told" (defArgs s_row_as_told) (defBody s_row_as_told) (defScope s_row_as_told) .none kV_1a dc_1a pm_1a an_1a cd_1a ct_1a), sl_1a⟩)
 (e_1a : codeIn K cd_1a "row_as_told" = true)
 (k_1a : keepIn K (.ref F_1a) = true)
 (h_4 : nsIn K mainGlobals "all_rooms_there" = some (some (.ref F_4)))
 (l_4 : K.lookup F_4 = some ⟨oc_4, od_4, .func (fnOf "all_rooms_there" "all_rooms_there" (defArgs s_all_rooms_there) (defBody s_all_rooms_there) (defScope s_all_rooms_there) .none kV_4 dc_4 pm_4 an_4 cd_4 ct_4), sl_4⟩)
 (e_4 : codeIn K cd_4 "all_rooms_there" = true)
 (k_4 : keepIn K (.ref F_4) = true)
 (h_6 : nsIn K mainGlobals "attendant_there" = some (some (.ref F_6)))
 (l_6 : K.lookup F_6 = some ⟨oc_6, od_6, .func (fnOf "attendant_there" "attendant_there" (defArgs s_attendant_there) (defBody s_attendant_there) (defScope s_attendant_there) .none kV_6 dc_6 pm_6 an_6 cd_6 ct_6), sl_6⟩)
 (e_6 : codeIn K cd_6 "attendant_there" = true)
 (k_6 : keepIn K (.ref F_6) = true)
 (h_m : nsIn K mainGlobals "early_refusal" = some (some (.ref F_m)))
 (l_m : K.lookup F_m = some ⟨oc_m, od_m, .func (fnOf "early_refusal" "early_refusal" (defArgs s_early_refusal) (defBody s_early_refusal) (defScope s_early_refusal) .none kV_m dc_m pm_m an_m cd_m ct_m), sl_m⟩)
 (e_m : codeIn K cd_m "early_refusal" = true)
 (k_m : keepIn K (.ref F_m) = true)
 (h_1b : nsIn K mainGlobals "row_at" = some (some (.ref F_1b)))
 (l_1b : K.lookup F_1b = some ⟨oc_1b, od_1b, .func (fnOf "row_at" "row_at" (defArgs s_row_at) (defBody s_row_at) (defScope s_row_at) .none kV_1b dc_1b pm_1b an_1b cd_1b ct_1b), sl_1b⟩)
 (e_1b : codeIn K cd_1b "row_at" = true)
 (k_1b : keepIn K (.ref F_1b) = true)
 (h_5 : nsIn K mainGlobals "answers" = some (some (.ref F_5)))
 (l_5 : K.lookup F_5 = some ⟨oc_5, od_5, .func (fnOf "answers" "answers" (defArgs s_answers) (defBody s_answers) (defScope s_answers) .none kV_5 dc_5 pm_5 an_5 cd_5 ct_5), sl_5⟩)
 (e_5 : codeIn K cd_5 "answers" = true)
 (k_5 : keepIn K (.ref F_5) = true)
 (h_1l : nsIn K mainGlobals "CODE_NAMES" = some (some (.ref M_1l)))
 (w_4m : K.lookup M_1l = some ⟨.type "tuple", none, .seq #[(.str "VD" t1), (.str "VC" t2), (.str "VI" t3), (.str "OD" t4), (.str "OC" t5), (.str "OO" t6)] 0, #[]⟩)
 (h_1k : nsIn K mainGlobals "CALLS" = some (some (.ref M_1k)))
 (x_1k : (M_1k == sysModules) = false)
 (w_1k : K.lookup M_1k = some ⟨.type "dict", none, .dict #[⟨1, .int (1) t7, .ref F_q⟩, ⟨2, .int (2) t8, .ref F_s⟩, ⟨3, .int (3) t9, .ref F_r⟩, ⟨4, .int (4) t10, .ref F_11⟩, ⟨5, .int (5) t11, .ref F_w⟩, ⟨6, .int (6) t12, .ref F_17⟩, ⟨7, .int (7) t13, .ref F_18⟩, ⟨8, .int (8) t14, .ref F_14⟩, ⟨9, .int (9) t15, .ref F_15⟩, ⟨10, .int (10) t16, .ref F_16⟩, ⟨11, .int (11) t17, .ref F_1j⟩, ⟨12, .int (12) t18, .ref F_1d⟩, ⟨13, .int (13) t19, .ref F_c⟩, ⟨14, .int (14) t20, .ref F_1h⟩, ⟨15, .int (15) t21, .ref F_12⟩, ⟨16, .int (16) t22, .ref F_k⟩, ⟨17, .int (17) t23, .ref F_j⟩, ⟨18, .int (18) t24, .ref F_19⟩, ⟨19, .int (19) t25, .ref F_g⟩, ⟨20, .int (20) t26, .ref F_a⟩, ⟨21, .int (21) t27, .ref F_b⟩] ep_1k, #[]⟩)
 (h_1m : nsIn K mainGlobals "RANGES" = some (some (.ref M_1m)))
 (x_1m : (M_1m == sysModules) = false)
 (w_1m : K.lookup M_1m = some ⟨.type "dict", none, .dict #[⟨0, .int (0) t28, .ref x29⟩, ⟨1, .int (1) t30, .ref x31⟩, ⟨2, .int (2) t32, .ref x33⟩, ⟨3, .int (3) t34, .ref x35⟩, ⟨4, .int (4) t36, .ref x37⟩, ⟨5, .int (5) t38, .ref x39⟩, ⟨6, .int (6) t40, .ref x41⟩, ⟨7, .int (7) t42, .ref x43⟩, ⟨8, .int (8) t44, .ref x45⟩, ⟨9, .int (9) t46, .ref x47⟩, ⟨10, .int (10) t48, .ref x49⟩, ⟨11, .int (11) t50, .ref x51⟩, ⟨12, .int (12) t52, .ref x53⟩, ⟨13, .int (13) t54, .ref x55⟩, ⟨14, .int (14) t56, .ref x57⟩, ⟨15, .int (15) t58, .ref x59⟩, ⟨16, .int (16) t60, .ref x61⟩, ⟨17, .int (17) t62, .ref x63⟩, ⟨18, .int (18) t64, .ref x65⟩, ⟨19, .int (19) t66, .ref x67⟩, ⟨20, .int (20) t68, .ref x69⟩, ⟨21, .int (21) t70, .ref x71⟩] ep_1m, #[]⟩)
 (w_38 : K.lookup x29 = some ⟨.type "tuple", none, .seq #[(.ref x72), (.ref x73), (.ref x74), (.ref x75)] 0, #[]⟩)
 (w_39 : K.lookup x31 = some ⟨.type "tuple", none, .seq #[(.ref x76)] 0, #[]⟩)
 (w_3a : K.lookup x33 = some ⟨.type "tuple", none, .seq #[(.ref x77)] 0, #[]⟩)
 (w_3b : K.lookup x35 = some ⟨.type "tuple", none, .seq #[(.ref x78), (.ref x79)] 0, #[]⟩)
 (w_3c : K.lookup x37 = some ⟨.type "tuple", none, .seq #[] 0, #[]⟩)
 (w_3d : K.lookup x39 = some ⟨.type "tuple", none, .seq #[(.ref x80), (.ref x81), (.ref x82)] 0, #[]⟩)
 (w_3e : K.lookup x41 = some ⟨.type "tuple", none, .seq #[(.ref x83), (.ref x84)] 0, #[]⟩)
 (w_3f : K.lookup x43 = some ⟨.type "tuple", none, .seq #[(.ref x85)] 0, #[]⟩)
 (w_3g : K.lookup x45 = some ⟨.type "tuple", none, .seq #[(.ref x86)] 0, #[]⟩)
 (w_3h : K.lookup x47 = some ⟨.type "tuple", none, .seq #[(.ref x87), (.ref x88)] 0, #[]⟩)
 (w_3i : K.lookup x49 = some ⟨.type "tuple", none, .seq #[(.ref x89), (.ref x90)] 0, #[]⟩)
 (w_3j : K.lookup x51 = some ⟨.type "tuple", none, .seq #[] 0, #[]⟩)
 (w_3k : K.lookup x53 = some ⟨.type "tuple", none, .seq #[(.ref x91)] 0, #[]⟩)
 (w_3l : K.lookup x55 = some ⟨.type "tuple", none, .seq #[(.ref x92)] 0, #[]⟩)
 (w_3m : K.lookup x57 = some ⟨.type "tuple", none, .seq #[(.ref x93), (.ref x94)] 0, #[]⟩)
 (w_3n : K.lookup x59 = some ⟨.type "tuple", none, .seq #[(.ref x95), (.ref x96), (.ref x97)] 0, #[]⟩)
 (w_3o : K.lookup x61 = some ⟨.type "tuple", none, .seq #[] 0, #[]⟩)
 (w_3p : K.lookup x63 = some ⟨.type "tuple", none, .seq #[(.ref x98), (.ref x99)] 0, #[]⟩)
 (w_3q : K.lookup x65 = some ⟨.type "tuple", none, .seq #[(.ref x100)] 0, #[]⟩)
 (w_3r : K.lookup x67 = some ⟨.type "tuple", none, .seq #[] 0, #[]⟩)
 (w_3s : K.lookup x69 = some ⟨.type "tuple", none, .seq #[] 0, #[]⟩)
 (w_3t : K.lookup x71 = some ⟨.type "tuple", none, .seq #[] 0, #[]⟩)
 (w_3u : K.lookup x72 = some ⟨.type "tuple", none, .seq #[(.int (1) t101), (.int (30) t102)] 0, #[]⟩)
 (w_3v : K.lookup x73 = some ⟨.type "tuple", none, .seq #[(.int (1) t103), (.int (120) t104)] 0, #[]⟩)
 (w_3w : K.lookup x74 = some ⟨.type "tuple", none, .seq #[(.int (1) t105), (.int (120) t106)] 0, #[]⟩)
 (w_3x : K.lookup x75 = some ⟨.type "tuple", none, .seq #[(.int (0) t107), (.int (30) t108)] 0, #[]⟩)
 (w_3y : K.lookup x76 = some ⟨.type "tuple", none, .seq #[(.int (0) t109), (.int (29) t110)] 0, #[]⟩)
 (w_3z : K.lookup x77 = some ⟨.type "tuple", none, .seq #[(.int (0) t111), (.int (29) t112)] 0, #[]⟩)
 (w_40 : K.lookup x78 = some ⟨.type "tuple", none, .seq #[(.int (0) t113), (.int (29) t114)] 0, #[]⟩)
 (w_41 : K.lookup x79 = some ⟨.type "tuple", none, .seq #[(.int (0) t115), (.int (29) t116)] 0, #[]⟩)
 (w_42 : K.lookup x80 = some ⟨.type "tuple", none, .seq #[(.int (0) t117), (.int (29) t118)] 0, #[]⟩)
 (w_43 : K.lookup x81 = some ⟨.type "tuple", none, .seq #[(.int (0) t119), (.int (1) t120)] 0, #[]⟩)
 (w_44 : K.lookup x82 = some ⟨.type "tuple", none, .seq #[(.int (0) t121), (.int (2) t122)] 0, #[]⟩)
 (w_45 : K.lookup x83 = some ⟨.type "tuple", none, .seq #[(.int (0) t123), (.int (29) t124)] 0, #[]⟩)
 (w_46 : K.lookup x84 = some ⟨.type "tuple", none, .seq #[(.int (0) t125), (.int (1) t126)] 0, #[]⟩)
 (w_47 : K.lookup x85 = some ⟨.type "tuple", none, .seq #[(.int (0) t127), (.int (29) t128)] 0, #[]⟩)
 (w_48 : K.lookup x86 = some ⟨.type "tuple", none, .seq #[(.int (0) t129), (.int (29) t130)] 0, #[]⟩)
 (w_49 : K.lookup x87 = some ⟨.type "tuple", none, .seq #[(.int (0) t131), (.int (29) t132)] 0, #[]⟩)
 (w_4a : K.lookup x88 = some ⟨.type "tuple", none, .seq #[(.int (0) t133), (.int (1440) t134)] 0, #[]⟩)
 (w_4b : K.lookup x89 = some ⟨.type "tuple", none, .seq #[(.int (0) t135), (.int (29) t136)] 0, #[]⟩)
 (w_4c : K.lookup x90 = some ⟨.type "tuple", none, .seq #[(.int (0) t137), (.int (120) t138)] 0, #[]⟩)
 (w_4d : K.lookup x91 = some ⟨.type "tuple", none, .seq #[(.int (1) t139), (.int (8) t140)] 0, #[]⟩)
 (w_4e : K.lookup x92 = some ⟨.type "tuple", none, .seq #[(.int (1) t141), (.int (8) t142)] 0, #[]⟩)
 (w_4f : K.lookup x93 = some ⟨.type "tuple", none, .seq #[(.int (1) t143), (.int (8) t144)] 0, #[]⟩)
 (w_4g : K.lookup x94 = some ⟨.type "tuple", none, .seq #[(.int (0) t145), (.int (10000) t146)] 0, #[]⟩)
 (w_4h : K.lookup x95 = some ⟨.type "tuple", none, .seq #[(.int (1) t147), (.int (8) t148)] 0, #[]⟩)
 (w_4i : K.lookup x96 = some ⟨.type "tuple", none, .seq #[(.int (1) t149), (.int (8) t150)] 0, #[]⟩)
 (w_4j : K.lookup x97 = some ⟨.type "tuple", none, .seq #[(.int (0) t151), (.int (1440) t152)] 0, #[]⟩)
 (w_4k : K.lookup x98 = some ⟨.type "tuple", none, .seq #[(.int (0) t153), (.int (29) t154)] 0, #[]⟩)
 (w_4l : K.lookup x99 = some ⟨.type "tuple", none, .seq #[(.int (0) t155), (.int (1) t156)] 0, #[]⟩)
 (w_35 : K.lookup x100 = some ⟨.type "tuple", none, .seq #[(.int (0) t157), (.int (29) t158)] 0, #[]⟩)
 (h_1o : nsIn K mainGlobals "ROWS" = some (some (.ref M_1o)))
 (x_1o : (M_1o == sysModules) = false)
 (w_1o : K.lookup M_1o = some ⟨.type "dict", none, .dict #[⟨14, .int (14) t159, .ref x160⟩, ⟨21, .int (21) t161, .ref x162⟩] ep_1o, #[]⟩)
 (w_36 : K.lookup x160 = some ⟨.type "tuple", none, .seq #[(.int (9) t163), (.int (0) t164), (.int (29) t165)] 0, #[]⟩)
 (w_37 : K.lookup x162 = some ⟨.type "tuple", none, .seq #[(.int (100) t166), (.int (0) t167), (.int (255) t168)] 0, #[]⟩)
 (h_1n : nsIn K mainGlobals "ROOMS_NAMED" = some (some (.ref M_1n)))
 (x_1n : (M_1n == sysModules) = false)
 (w_1n : K.lookup M_1n = some ⟨.type "dict", none, .dict #[⟨1, .int (1) t169, .int (1) t170⟩, ⟨2, .int (2) t171, .int (1) t172⟩, ⟨3, .int (3) t173, .int (2) t174⟩, ⟨5, .int (5) t175, .int (1) t176⟩, ⟨6, .int (6) t177, .int (1) t178⟩, ⟨7, .int (7) t179, .int (1) t180⟩, ⟨8, .int (8) t181, .int (1) t182⟩, ⟨9, .int (9) t183, .int (1) t184⟩, ⟨10, .int (10) t185, .int (1) t186⟩, ⟨17, .int (17) t187, .int (1) t188⟩, ⟨18, .int (18) t189, .int (1) t190⟩] ep_1n, #[]⟩)
 : ∃ a : Ad, Txt K mg a := by
  have tr_35 : Tr K (.t [.i (0), .i (29)]) (.ref x100) := ⟨_, [.int (0), .int (29)], rfl, ⟨_, _, _, w_35, rfl, rfl, (by show 2 <= sizeLine; decide), (.cons ⟨_, rfl⟩ (.cons ⟨_, rfl⟩ .nil))⟩, ⟨_, _, rfl, rfl, ⟨_, _, rfl, rfl, rfl⟩⟩⟩
  have tr_4l : Tr K (.t [.i (0), .i (1)]) (.ref x99) := ⟨_, [.int (0), .int (1)], rfl, ⟨_, _, _, w_4l, rfl, rfl, (by show 2 <= sizeLine; decide), (.cons ⟨_, rfl⟩ (.cons ⟨_, rfl⟩ .nil))⟩, ⟨_, _, rfl, rfl, ⟨_, _, rfl, rfl, rfl⟩⟩⟩
  have tr_4k : Tr K (.t [.i (0), .i (29)]) (.ref x98) := ⟨_, [.int (0), .int (29)], rfl, ⟨_, _, _, w_4k, rfl, rfl, (by show 2 <= sizeLine; decide), (.cons ⟨_, rfl⟩ (.cons ⟨_, rfl⟩ .nil))⟩, ⟨_, _, rfl, rfl, ⟨_, _, rfl, rfl, rfl⟩⟩⟩
  have tr_4j : Tr K (.t [.i (0), .i (1440)]) (.ref x97) := ⟨_, [.int (0), .int (1440)], rfl, ⟨_, _, _, w_4j, rfl, rfl, (by show 2 <= sizeLine; decide), (.cons ⟨_, rfl⟩ (.cons ⟨_, rfl⟩ .nil))⟩, ⟨_, _, rfl, rfl, ⟨_, _, rfl, rfl, rfl⟩⟩⟩
  have tr_4i : Tr K (.t [.i (1), .i (8)]) (.ref x96) := ⟨_, [.int (1), .int (8)], rfl, ⟨_, _, _, w_4i, rfl, rfl, (by show 2 <= sizeLine; decide), (.cons ⟨_, rfl⟩ (.cons ⟨_, rfl⟩ .nil))⟩, ⟨_, _, rfl, rfl, ⟨_, _, rfl, rfl, rfl⟩⟩⟩
  have tr_4h : Tr K (.t [.i (1), .i (8)]) (.ref x95) := ⟨_, [.int (1), .int (8)], rfl, ⟨_, _, _, w_4h, rfl, rfl, (by show 2 <= sizeLine; decide), (.cons ⟨_, rfl⟩ (.cons ⟨_, rfl⟩ .nil))⟩, ⟨_, _, rfl, rfl, ⟨_, _, rfl, rfl, rfl⟩⟩⟩
  have tr_4g : Tr K (.t [.i (0), .i (10000)]) (.ref x94) := ⟨_, [.int (0), .int (10000)], rfl, ⟨_, _, _, w_4g, rfl, rfl, (by show 2 <= sizeLine; decide), (.cons ⟨_, rfl⟩ (.cons ⟨_, rfl⟩ .nil))⟩, ⟨_, _, rfl, rfl, ⟨_, _, rfl, rfl, rfl⟩⟩⟩
  have tr_4f : Tr K (.t [.i (1), .i (8)]) (.ref x93) := ⟨_, [.int (1), .int (8)], rfl, ⟨_, _, _, w_4f, rfl, rfl, (by show 2 <= sizeLine; decide), (.cons ⟨_, rfl⟩ (.cons ⟨_, rfl⟩ .nil))⟩, ⟨_, _, rfl, rfl, ⟨_, _, rfl, rfl, rfl⟩⟩⟩
  have tr_4e : Tr K (.t [.i (1), .i (8)]) (.ref x92) := ⟨_, [.int (1), .int (8)], rfl, ⟨_, _, _, w_4e, rfl, rfl, (by show 2 <= sizeLine; decide), (.cons ⟨_, rfl⟩ (.cons ⟨_, rfl⟩ .nil))⟩, ⟨_, _, rfl, rfl, ⟨_, _, rfl, rfl, rfl⟩⟩⟩
  have tr_4d : Tr K (.t [.i (1), .i (8)]) (.ref x91) := ⟨_, [.int (1), .int (8)], rfl, ⟨_, _, _, w_4d, rfl, rfl, (by show 2 <= sizeLine; decide), (.cons ⟨_, rfl⟩ (.cons ⟨_, rfl⟩ .nil))⟩, ⟨_, _, rfl, rfl, ⟨_, _, rfl, rfl, rfl⟩⟩⟩
  have tr_4c : Tr K (.t [.i (0), .i (120)]) (.ref x90) := ⟨_, [.int (0), .int (120)], rfl, ⟨_, _, _, w_4c, rfl, rfl, (by show 2 <= sizeLine; decide), (.cons ⟨_, rfl⟩ (.cons ⟨_, rfl⟩ .nil))⟩, ⟨_, _, rfl, rfl, ⟨_, _, rfl, rfl, rfl⟩⟩⟩
  have tr_4b : Tr K (.t [.i (0), .i (29)]) (.ref x89) := ⟨_, [.int (0), .int (29)], rfl, ⟨_, _, _, w_4b, rfl, rfl, (by show 2 <= sizeLine; decide), (.cons ⟨_, rfl⟩ (.cons ⟨_, rfl⟩ .nil))⟩, ⟨_, _, rfl, rfl, ⟨_, _, rfl, rfl, rfl⟩⟩⟩
  have tr_4a : Tr K (.t [.i (0), .i (1440)]) (.ref x88) := ⟨_, [.int (0), .int (1440)], rfl, ⟨_, _, _, w_4a, rfl, rfl, (by show 2 <= sizeLine; decide), (.cons ⟨_, rfl⟩ (.cons ⟨_, rfl⟩ .nil))⟩, ⟨_, _, rfl, rfl, ⟨_, _, rfl, rfl, rfl⟩⟩⟩
  have tr_49 : Tr K (.t [.i (0), .i (29)]) (.ref x87) := ⟨_, [.int (0), .int (29)], rfl, ⟨_, _, _, w_49, rfl, rfl, (by show 2 <= sizeLine; decide), (.cons ⟨_, rfl⟩ (.cons ⟨_, rfl⟩ .nil))⟩, ⟨_, _, rfl, rfl, ⟨_, _, rfl, rfl, rfl⟩⟩⟩
  have tr_48 : Tr K (.t [.i (0), .i (29)]) (.ref x86) := ⟨_, [.int (0), .int (29)], rfl, ⟨_, _, _, w_48, rfl, rfl, (by show 2 <= sizeLine; decide), (.cons ⟨_, rfl⟩ (.cons ⟨_, rfl⟩ .nil))⟩, ⟨_, _, rfl, rfl, ⟨_, _, rfl, rfl, rfl⟩⟩⟩
  have tr_47 : Tr K (.t [.i (0), .i (29)]) (.ref x85) := ⟨_, [.int (0), .int (29)], rfl, ⟨_, _, _, w_47, rfl, rfl, (by show 2 <= sizeLine; decide), (.cons ⟨_, rfl⟩ (.cons ⟨_, rfl⟩ .nil))⟩, ⟨_, _, rfl, rfl, ⟨_, _, rfl, rfl, rfl⟩⟩⟩
  have tr_46 : Tr K (.t [.i (0), .i (1)]) (.ref x84) := ⟨_, [.int (0), .int (1)], rfl, ⟨_, _, _, w_46, rfl, rfl, (by show 2 <= sizeLine; decide), (.cons ⟨_, rfl⟩ (.cons ⟨_, rfl⟩ .nil))⟩, ⟨_, _, rfl, rfl, ⟨_, _, rfl, rfl, rfl⟩⟩⟩
  have tr_45 : Tr K (.t [.i (0), .i (29)]) (.ref x83) := ⟨_, [.int (0), .int (29)], rfl, ⟨_, _, _, w_45, rfl, rfl, (by show 2 <= sizeLine; decide), (.cons ⟨_, rfl⟩ (.cons ⟨_, rfl⟩ .nil))⟩, ⟨_, _, rfl, rfl, ⟨_, _, rfl, rfl, rfl⟩⟩⟩
  have tr_44 : Tr K (.t [.i (0), .i (2)]) (.ref x82) := ⟨_, [.int (0), .int (2)], rfl, ⟨_, _, _, w_44, rfl, rfl, (by show 2 <= sizeLine; decide), (.cons ⟨_, rfl⟩ (.cons ⟨_, rfl⟩ .nil))⟩, ⟨_, _, rfl, rfl, ⟨_, _, rfl, rfl, rfl⟩⟩⟩
  have tr_43 : Tr K (.t [.i (0), .i (1)]) (.ref x81) := ⟨_, [.int (0), .int (1)], rfl, ⟨_, _, _, w_43, rfl, rfl, (by show 2 <= sizeLine; decide), (.cons ⟨_, rfl⟩ (.cons ⟨_, rfl⟩ .nil))⟩, ⟨_, _, rfl, rfl, ⟨_, _, rfl, rfl, rfl⟩⟩⟩
  have tr_42 : Tr K (.t [.i (0), .i (29)]) (.ref x80) := ⟨_, [.int (0), .int (29)], rfl, ⟨_, _, _, w_42, rfl, rfl, (by show 2 <= sizeLine; decide), (.cons ⟨_, rfl⟩ (.cons ⟨_, rfl⟩ .nil))⟩, ⟨_, _, rfl, rfl, ⟨_, _, rfl, rfl, rfl⟩⟩⟩
  have tr_41 : Tr K (.t [.i (0), .i (29)]) (.ref x79) := ⟨_, [.int (0), .int (29)], rfl, ⟨_, _, _, w_41, rfl, rfl, (by show 2 <= sizeLine; decide), (.cons ⟨_, rfl⟩ (.cons ⟨_, rfl⟩ .nil))⟩, ⟨_, _, rfl, rfl, ⟨_, _, rfl, rfl, rfl⟩⟩⟩
  have tr_40 : Tr K (.t [.i (0), .i (29)]) (.ref x78) := ⟨_, [.int (0), .int (29)], rfl, ⟨_, _, _, w_40, rfl, rfl, (by show 2 <= sizeLine; decide), (.cons ⟨_, rfl⟩ (.cons ⟨_, rfl⟩ .nil))⟩, ⟨_, _, rfl, rfl, ⟨_, _, rfl, rfl, rfl⟩⟩⟩
  have tr_3z : Tr K (.t [.i (0), .i (29)]) (.ref x77) := ⟨_, [.int (0), .int (29)], rfl, ⟨_, _, _, w_3z, rfl, rfl, (by show 2 <= sizeLine; decide), (.cons ⟨_, rfl⟩ (.cons ⟨_, rfl⟩ .nil))⟩, ⟨_, _, rfl, rfl, ⟨_, _, rfl, rfl, rfl⟩⟩⟩
  have tr_3y : Tr K (.t [.i (0), .i (29)]) (.ref x76) := ⟨_, [.int (0), .int (29)], rfl, ⟨_, _, _, w_3y, rfl, rfl, (by show 2 <= sizeLine; decide), (.cons ⟨_, rfl⟩ (.cons ⟨_, rfl⟩ .nil))⟩, ⟨_, _, rfl, rfl, ⟨_, _, rfl, rfl, rfl⟩⟩⟩
  have tr_3x : Tr K (.t [.i (0), .i (30)]) (.ref x75) := ⟨_, [.int (0), .int (30)], rfl, ⟨_, _, _, w_3x, rfl, rfl, (by show 2 <= sizeLine; decide), (.cons ⟨_, rfl⟩ (.cons ⟨_, rfl⟩ .nil))⟩, ⟨_, _, rfl, rfl, ⟨_, _, rfl, rfl, rfl⟩⟩⟩
  have tr_3w : Tr K (.t [.i (1), .i (120)]) (.ref x74) := ⟨_, [.int (1), .int (120)], rfl, ⟨_, _, _, w_3w, rfl, rfl, (by show 2 <= sizeLine; decide), (.cons ⟨_, rfl⟩ (.cons ⟨_, rfl⟩ .nil))⟩, ⟨_, _, rfl, rfl, ⟨_, _, rfl, rfl, rfl⟩⟩⟩
  have tr_3v : Tr K (.t [.i (1), .i (120)]) (.ref x73) := ⟨_, [.int (1), .int (120)], rfl, ⟨_, _, _, w_3v, rfl, rfl, (by show 2 <= sizeLine; decide), (.cons ⟨_, rfl⟩ (.cons ⟨_, rfl⟩ .nil))⟩, ⟨_, _, rfl, rfl, ⟨_, _, rfl, rfl, rfl⟩⟩⟩
  have tr_3u : Tr K (.t [.i (1), .i (30)]) (.ref x72) := ⟨_, [.int (1), .int (30)], rfl, ⟨_, _, _, w_3u, rfl, rfl, (by show 2 <= sizeLine; decide), (.cons ⟨_, rfl⟩ (.cons ⟨_, rfl⟩ .nil))⟩, ⟨_, _, rfl, rfl, ⟨_, _, rfl, rfl, rfl⟩⟩⟩
  have tr_3t : Tr K (.t []) (.ref x71) := ⟨_, [], rfl, ⟨_, _, _, w_3t, rfl, rfl, (by show 0 <= sizeLine; decide), .nil⟩, rfl⟩
  have tr_3s : Tr K (.t []) (.ref x69) := ⟨_, [], rfl, ⟨_, _, _, w_3s, rfl, rfl, (by show 0 <= sizeLine; decide), .nil⟩, rfl⟩
  have tr_3r : Tr K (.t []) (.ref x67) := ⟨_, [], rfl, ⟨_, _, _, w_3r, rfl, rfl, (by show 0 <= sizeLine; decide), .nil⟩, rfl⟩
  have tr_3q : Tr K (.t [.t [.i (0), .i (29)]]) (.ref x65) := ⟨_, [.ref x100], rfl, ⟨_, _, _, w_3q, rfl, rfl, (by show 1 <= sizeLine; decide), (.cons rfl .nil)⟩, ⟨_, _, rfl, tr_35, rfl⟩⟩
  have tr_3p : Tr K (.t [.t [.i (0), .i (29)], .t [.i (0), .i (1)]]) (.ref x63) := ⟨_, [.ref x98, .ref x99], rfl, ⟨_, _, _, w_3p, rfl, rfl, (by show 2 <= sizeLine; decide), (.cons rfl (.cons rfl .nil))⟩, ⟨_, _, rfl, tr_4k, ⟨_, _, rfl, tr_4l, rfl⟩⟩⟩
  have tr_3o : Tr K (.t []) (.ref x61) := ⟨_, [], rfl, ⟨_, _, _, w_3o, rfl, rfl, (by show 0 <= sizeLine; decide), .nil⟩, rfl⟩
  have tr_3n : Tr K (.t [.t [.i (1), .i (8)], .t [.i (1), .i (8)], .t [.i (0), .i (1440)]]) (.ref x59) := ⟨_, [.ref x95, .ref x96, .ref x97], rfl, ⟨_, _, _, w_3n, rfl, rfl, (by show 3 <= sizeLine; decide), (.cons rfl (.cons rfl (.cons rfl .nil)))⟩, ⟨_, _, rfl, tr_4h, ⟨_, _, rfl, tr_4i, ⟨_, _, rfl, tr_4j, rfl⟩⟩⟩⟩
  have tr_3m : Tr K (.t [.t [.i (1), .i (8)], .t [.i (0), .i (10000)]]) (.ref x57) := ⟨_, [.ref x93, .ref x94], rfl, ⟨_, _, _, w_3m, rfl, rfl, (by show 2 <= sizeLine; decide), (.cons rfl (.cons rfl .nil))⟩, ⟨_, _, rfl, tr_4f, ⟨_, _, rfl, tr_4g, rfl⟩⟩⟩
  have tr_3l : Tr K (.t [.t [.i (1), .i (8)]]) (.ref x55) := ⟨_, [.ref x92], rfl, ⟨_, _, _, w_3l, rfl, rfl, (by show 1 <= sizeLine; decide), (.cons rfl .nil)⟩, ⟨_, _, rfl, tr_4e, rfl⟩⟩
  have tr_3k : Tr K (.t [.t [.i (1), .i (8)]]) (.ref x53) := ⟨_, [.ref x91], rfl, ⟨_, _, _, w_3k, rfl, rfl, (by show 1 <= sizeLine; decide), (.cons rfl .nil)⟩, ⟨_, _, rfl, tr_4d, rfl⟩⟩
  have tr_3j : Tr K (.t []) (.ref x51) := ⟨_, [], rfl, ⟨_, _, _, w_3j, rfl, rfl, (by show 0 <= sizeLine; decide), .nil⟩, rfl⟩
  have tr_3i : Tr K (.t [.t [.i (0), .i (29)], .t [.i (0), .i (120)]]) (.ref x49) := ⟨_, [.ref x89, .ref x90], rfl, ⟨_, _, _, w_3i, rfl, rfl, (by show 2 <= sizeLine; decide), (.cons rfl (.cons rfl .nil))⟩, ⟨_, _, rfl, tr_4b, ⟨_, _, rfl, tr_4c, rfl⟩⟩⟩
  have tr_3h : Tr K (.t [.t [.i (0), .i (29)], .t [.i (0), .i (1440)]]) (.ref x47) := ⟨_, [.ref x87, .ref x88], rfl, ⟨_, _, _, w_3h, rfl, rfl, (by show 2 <= sizeLine; decide), (.cons rfl (.cons rfl .nil))⟩, ⟨_, _, rfl, tr_49, ⟨_, _, rfl, tr_4a, rfl⟩⟩⟩
  have tr_3g : Tr K (.t [.t [.i (0), .i (29)]]) (.ref x45) := ⟨_, [.ref x86], rfl, ⟨_, _, _, w_3g, rfl, rfl, (by show 1 <= sizeLine; decide), (.cons rfl .nil)⟩, ⟨_, _, rfl, tr_48, rfl⟩⟩
  have tr_3f : Tr K (.t [.t [.i (0), .i (29)]]) (.ref x43) := ⟨_, [.ref x85], rfl, ⟨_, _, _, w_3f, rfl, rfl, (by show 1 <= sizeLine; decide), (.cons rfl .nil)⟩, ⟨_, _, rfl, tr_47, rfl⟩⟩
  have tr_3e : Tr K (.t [.t [.i (0), .i (29)], .t [.i (0), .i (1)]]) (.ref x41) := ⟨_, [.ref x83, .ref x84], rfl, ⟨_, _, _, w_3e, rfl, rfl, (by show 2 <= sizeLine; decide), (.cons rfl (.cons rfl .nil))⟩, ⟨_, _, rfl, tr_45, ⟨_, _, rfl, tr_46, rfl⟩⟩⟩
  have tr_3d : Tr K (.t [.t [.i (0), .i (29)], .t [.i (0), .i (1)], .t [.i (0), .i (2)]]) (.ref x39) := ⟨_, [.ref x80, .ref x81, .ref x82], rfl, ⟨_, _, _, w_3d, rfl, rfl, (by show 3 <= sizeLine; decide), (.cons rfl (.cons rfl (.cons rfl .nil)))⟩, ⟨_, _, rfl, tr_42, ⟨_, _, rfl, tr_43, ⟨_, _, rfl, tr_44, rfl⟩⟩⟩⟩
  have tr_3c : Tr K (.t []) (.ref x37) := ⟨_, [], rfl, ⟨_, _, _, w_3c, rfl, rfl, (by show 0 <= sizeLine; decide), .nil⟩, rfl⟩
  have tr_3b : Tr K (.t [.t [.i (0), .i (29)], .t [.i (0), .i (29)]]) (.ref x35) := ⟨_, [.ref x78, .ref x79], rfl, ⟨_, _, _, w_3b, rfl, rfl, (by show 2 <= sizeLine; decide), (.cons rfl (.cons rfl .nil))⟩, ⟨_, _, rfl, tr_40, ⟨_, _, rfl, tr_41, rfl⟩⟩⟩
  have tr_3a : Tr K (.t [.t [.i (0), .i (29)]]) (.ref x33) := ⟨_, [.ref x77], rfl, ⟨_, _, _, w_3a, rfl, rfl, (by show 1 <= sizeLine; decide), (.cons rfl .nil)⟩, ⟨_, _, rfl, tr_3z, rfl⟩⟩
  have tr_39 : Tr K (.t [.t [.i (0), .i (29)]]) (.ref x31) := ⟨_, [.ref x76], rfl, ⟨_, _, _, w_39, rfl, rfl, (by show 1 <= sizeLine; decide), (.cons rfl .nil)⟩, ⟨_, _, rfl, tr_3y, rfl⟩⟩
  have tr_38 : Tr K (.t [.t [.i (1), .i (30)], .t [.i (1), .i (120)], .t [.i (1), .i (120)], .t [.i (0), .i (30)]]) (.ref x29) := ⟨_, [.ref x72, .ref x73, .ref x74, .ref x75], rfl, ⟨_, _, _, w_38, rfl, rfl, (by show 4 <= sizeLine; decide), (.cons rfl (.cons rfl (.cons rfl (.cons rfl .nil))))⟩, ⟨_, _, rfl, tr_3u, ⟨_, _, rfl, tr_3v, ⟨_, _, rfl, tr_3w, ⟨_, _, rfl, tr_3x, rfl⟩⟩⟩⟩⟩
  have tr_37 : Tr K (.t [.i (100), .i (0), .i (255)]) (.ref x162) := ⟨_, [.int (100), .int (0), .int (255)], rfl, ⟨_, _, _, w_37, rfl, rfl, (by show 3 <= sizeLine; decide), (.cons ⟨_, rfl⟩ (.cons ⟨_, rfl⟩ (.cons ⟨_, rfl⟩ .nil)))⟩, ⟨_, _, rfl, rfl, ⟨_, _, rfl, rfl, ⟨_, _, rfl, rfl, rfl⟩⟩⟩⟩
  have tr_36 : Tr K (.t [.i (9), .i (0), .i (29)]) (.ref x160) := ⟨_, [.int (9), .int (0), .int (29)], rfl, ⟨_, _, _, w_36, rfl, rfl, (by show 3 <= sizeLine; decide), (.cons ⟨_, rfl⟩ (.cons ⟨_, rfl⟩ (.cons ⟨_, rfl⟩ .nil)))⟩, ⟨_, _, rfl, rfl, ⟨_, _, rfl, rfl, ⟨_, _, rfl, rfl, rfl⟩⟩⟩⟩
  exact ⟨⟨C_1, C_0, C_2, M_1l, M_1k, M_1m, M_1o, M_1n, F_q, F_s, F_r, F_11, F_w, F_17, F_18, F_14, F_15, F_16, F_1j, F_1d, F_c, F_1h, F_12, F_k, F_j, F_19, F_g, F_a, F_b⟩, {
    g_DIRTY := ⟨_, mg_of X G h_1v⟩,
    g_CLEANED := ⟨_, mg_of X G h_1s⟩,
    g_INSPECTED := ⟨_, mg_of X G h_1w⟩,
    g_VD := ⟨_, mg_of X G h_2g⟩,
    g_VC := ⟨_, mg_of X G h_2f⟩,
    g_VI := ⟨_, mg_of X G h_2h⟩,
    g_OD := ⟨_, mg_of X G h_27⟩,
    g_OC := ⟨_, mg_of X G h_26⟩,
    g_OO := ⟨_, mg_of X G h_28⟩,
    g_NOTHING_SEEN := ⟨_, mg_of X G h_1y⟩,
    g_NOBODY_SEEN := ⟨_, mg_of X G h_1x⟩,
    g_SOMEBODY_SEEN := ⟨_, mg_of X G h_2c⟩,
    g_NOTHING_TODAY := ⟨_, mg_of X G h_1z⟩,
    g_CLEANED_TODAY := ⟨_, mg_of X G h_1t⟩,
    g_DECLINED_TODAY := ⟨_, mg_of X G h_1u⟩,
    g_NO_DIFFERENCE := ⟨_, mg_of X G h_23⟩,
    g_TAKEN_BUT_NOBODY := ⟨_, mg_of X G h_2d⟩,
    g_NOT_TAKEN_BUT_SOMEBODY := ⟨_, mg_of X G h_21⟩,
    g_BLANK := ⟨_, mg_of X G h_1r⟩,
    g_ACCEPTED := ⟨_, mg_of X G h_1p⟩,
    g_TEXT_NOT_AS_TOLD := ⟨_, mg_of X G h_2e⟩,
    g_ROOM_NOT_AS_TOLD := ⟨_, mg_of X G h_2b⟩,
    g_NO_TASKS := ⟨_, mg_of X G h_25⟩,
    g_NOT_REFUSED := ⟨_, mg_of X G h_20⟩,
    g_OUT_OF_RANGE := ⟨_, mg_of X G h_2a⟩,
    g_NO_HOUSE := ⟨_, mg_of X G h_24⟩,
    g_NOT_THERE := ⟨_, mg_of X G h_22⟩,
    g_BEGIN_HOUSE := ⟨_, mg_of X G h_1q⟩,
    g_ORDER := ⟨_, mg_of X G h_29⟩,
    b_len := mg_none_of X G h_2j,
    b_range := mg_none_of X G h_2m,
    b_zip := mg_none_of X G h_2p,
    b_enumerate := mg_none_of X G h_2i,
    b_max := mg_none_of X G h_2k,
    b_sum := mg_none_of X G h_2o,
    b_sorted := mg_none_of X G h_2n,
    b_ord := mg_none_of X G h_2l,
    c_Room := ⟨pg_1, hd_1, po_1, sa_1⟩,
    n_Room_due := n_2v,
    n_Room_extra := n_2w,
    n_Room_seen := n_2x,
    n_Room_shut := n_2y,
    n_Room_state := n_2z,
    n_Room_taken := n_30,
    n_Room_today := n_31,
    k_Room := ⟨I_1, _, ⟨mk_1, i_1, j_1, kc_1⟩, fun_mk (st := s_Room_init) l_1 e_1 k_1, mg_of X G h_1, fun us hl => match us, hl with | [_], _ => rfl⟩,
    c_House := ⟨pg_0, hd_0, po_0, sa_0⟩,
    n_House_check := n_2q,
    n_House_day := n_2r,
    n_House_heavy := n_2s,
    n_House_light := n_2t,
    n_House_rooms := n_2u,
    k_House := ⟨I_0, _, ⟨mk_0, i_0, j_0, kc_0⟩, fun_mk (st := s_House_init) l_0 e_0 k_0, mg_of X G h_0, fun us hl => match us, hl with | [_, _, _, _, _], _ => rfl⟩,
    c_Task := ⟨pg_2, hd_2, po_2, sa_2⟩,
    n_Task_due := n_32,
    n_Task_minutes := n_33,
    n_Task_number := n_34,
    k_Task := ⟨I_2, _, ⟨mk_2, i_2, j_2, kc_2⟩, fun_mk (st := s_Task_init) l_2 e_2 k_2, mg_of X G h_2, fun us hl => match us, hl with | [_, _, _, _], _ => rfl⟩,
    d_forget_the_day := ⟨F_o, _, fun_mk (st := s_forget_the_day) l_o e_o k_o, mg_of X G h_o, fun us hl => match us, hl with | [_], _ => rfl⟩,
    d_make_vacated := ⟨F_y, _, fun_mk (st := s_make_vacated) l_y e_y k_y, mg_of X G h_y, fun us hl => match us, hl with | [_], _ => rfl⟩,
    d_make_filled := ⟨F_x, _, fun_mk (st := s_make_filled) l_x e_x k_x, mg_of X G h_x, fun us hl => match us, hl with | [_], _ => rfl⟩,
    d_code_of := ⟨F_f, _, fun_mk (st := s_code_of) l_f e_f k_f, mg_of X G h_f, fun us hl => match us, hl with | [_], _ => rfl⟩,
    d_difference_about := ⟨F_i, _, fun_mk (st := s_difference_about) l_i e_i k_i, mg_of X G h_i, fun us hl => match us, hl with | [_], _ => rfl⟩,
    d_minutes_of := ⟨F_10, _, fun_mk (st := s_minutes_of) l_10 e_10 k_10, mg_of X G h_10, fun us hl => match us, hl with | [_, _], _ => rfl⟩,
    d_tasks_of := ⟨F_1f, _, fun_mk (st := s_tasks_of) l_1f e_1f k_1f, mg_of X G h_1f, fun us hl => match us, hl with | [_], _ => rfl⟩,
    d_letters_of := ⟨F_v, _, fun_mk (st := s_letters_of) l_v e_v k_v, mg_of X G h_v, fun us hl => match us, hl with | [_], _ => rfl⟩,
    d_text_of := ⟨F_1g, _, fun_mk (st := s_text_of) l_1g e_1g k_1g, mg_of X G h_1g, fun us hl => match us, hl with | [_], _ => rfl⟩,
    d_code_named := ⟨F_e, _, fun_mk (st := s_code_named) l_e e_e k_e, mg_of X G h_e, fun us hl => match us, hl with | [_], _ => rfl⟩,
    d_codes_in := ⟨F_h, _, fun_mk (st := s_codes_in) l_h e_h k_h, mg_of X G h_h, fun us hl => match us, hl with | [_], _ => rfl⟩,
    d_state_written := ⟨F_1e, _, fun_mk (st := s_state_written) l_1e e_1e k_1e, mg_of X G h_1e, fun us hl => match us, hl with | [_], _ => rfl⟩,
    d_give_code := ⟨F_p, _, fun_mk (st := s_give_code) l_p e_p k_p, mg_of X G h_p, fun us hl => match us, hl with | [_, _], _ => rfl⟩,
    d_attendants_needed := ⟨F_7, _, fun_mk (st := s_attendants_needed) l_7 e_7 k_7, mg_of X G h_7, fun us hl => match us, hl with | [_, _], _ => rfl⟩,
    d_least_greatest_load := ⟨F_u, _, fun_mk (st := s_least_greatest_load) l_u e_u k_u, mg_of X G h_u, fun us hl => match us, hl with | [_, _], _ => rfl⟩,
    d_best_share := ⟨F_8, _, fun_mk (st := s_best_share) l_8 e_8 k_8, mg_of X G h_8, fun us hl => match us, hl with | [_, _, _, _], _ => rfl⟩,
    d_best_shares := ⟨F_9, _, fun_mk (st := s_best_shares) l_9 e_9 k_9, mg_of X G h_9, fun us hl => match us, hl with | [_, _, _], _ => rfl⟩,
    d_parting_told := ⟨F_13, _, fun_mk (st := s_parting_told) l_13 e_13 k_13, mg_of X G h_13, fun us hl => match us, hl with | [_, _], _ => rfl⟩,
    d_first_place_reaching := ⟨F_n, _, fun_mk (st := s_first_place_reaching) l_n e_n k_n, mg_of X G h_n, fun us hl => match us, hl with | [_, _, _], _ => rfl⟩,
    d_witness_told := ⟨F_1i, _, fun_mk (st := s_witness_told) l_1i e_1i k_1i, mg_of X G h_1i, fun us hl => match us, hl with | [_, _], _ => rfl⟩,
    d_is_witness := ⟨F_t, _, fun_mk (st := s_is_witness) l_t e_t k_t, mg_of X G h_t, fun us hl => match us, hl with | [_, _, _, _], _ => rfl⟩,
    d_row_of := ⟨F_1c, _, fun_mk (st := s_row_of) l_1c e_1c k_1c, mg_of X G h_1c, fun us hl => match us, hl with | [_], _ => rfl⟩,
    d_minutes_in_order := ⟨F_z, _, fun_mk (st := s_minutes_in_order) l_z e_z k_z, mg_of X G h_z, fun us hl => match us, hl with | [_], _ => rfl⟩,
    d_guest_in := ⟨F_q, _, fun_mk (st := s_guest_in) l_q e_q k_q, mg_of X G h_q, fun us hl => match us, hl with | [_, _], _ => rfl⟩,
    d_guest_out := ⟨F_s, _, fun_mk (st := s_guest_out) l_s e_s k_s, mg_of X G h_s, fun us hl => match us, hl with | [_, _], _ => rfl⟩,
    d_guest_moves := ⟨F_r, _, fun_mk (st := s_guest_moves) l_r e_r k_r, mg_of X G h_r, fun us hl => match us, hl with | [_, _], _ => rfl⟩,
    d_night_passes := ⟨F_11, _, fun_mk (st := s_night_passes) l_11 e_11 k_11, mg_of X G h_11, fun us hl => match us, hl with | [_, _], _ => rfl⟩,
    d_maid_reports := ⟨F_w, _, fun_mk (st := s_maid_reports) l_w e_w k_w, mg_of X G h_w, fun us hl => match us, hl with | [_, _], _ => rfl⟩,
    d_room_inspected := ⟨F_17, _, fun_mk (st := s_room_inspected) l_17 e_17 k_17, mg_of X G h_17, fun us hl => match us, hl with | [_, _], _ => rfl⟩,
    d_room_shut := ⟨F_18, _, fun_mk (st := s_room_shut) l_18 e_18 k_18, mg_of X G h_18, fun us hl => match us, hl with | [_, _], _ => rfl⟩,
    d_room_back := ⟨F_14, _, fun_mk (st := s_room_back) l_14 e_14 k_14, mg_of X G h_14, fun us hl => match us, hl with | [_, _], _ => rfl⟩,
    d_room_due := ⟨F_15, _, fun_mk (st := s_room_due) l_15 e_15 k_15, mg_of X G h_15, fun us hl => match us, hl with | [_, _], _ => rfl⟩,
    d_room_extra := ⟨F_16, _, fun_mk (st := s_room_extra) l_16 e_16 k_16, mg_of X G h_16, fun us hl => match us, hl with | [_, _], _ => rfl⟩,
    d_work_told := ⟨F_1j, _, fun_mk (st := s_work_told) l_1j e_1j k_1j, mg_of X G h_1j, fun us hl => match us, hl with | [_, _], _ => rfl⟩,
    d_split_told := ⟨F_1d, _, fun_mk (st := s_split_told) l_1d e_1d k_1d, mg_of X G h_1d, fun us hl => match us, hl with | [_, _], _ => rfl⟩,
    d_bound_told := ⟨F_c, _, fun_mk (st := s_bound_told) l_c e_c k_c, mg_of X G h_c, fun us hl => match us, hl with | [_, _], _ => rfl⟩,
    d_witness_proved := ⟨F_1h, _, fun_mk (st := s_witness_proved) l_1h e_1h k_1h, mg_of X G h_1h, fun us hl => match us, hl with | [_, _], _ => rfl⟩,
    d_due_ones_first := ⟨F_l, _, fun_mk (st := s_due_ones_first) l_l e_l k_l, mg_of X G h_l, fun us hl => match us, hl with | [_], _ => rfl⟩,
    d_order_told := ⟨F_12, _, fun_mk (st := s_order_told) l_12 e_12 k_12, mg_of X G h_12, fun us hl => match us, hl with | [_, _], _ => rfl⟩,
    d_differences_told := ⟨F_k, _, fun_mk (st := s_differences_told) l_k e_k k_k, mg_of X G h_k, fun us hl => match us, hl with | [_, _], _ => rfl⟩,
    d_difference_resolved := ⟨F_j, _, fun_mk (st := s_difference_resolved) l_j e_j k_j, mg_of X G h_j, fun us hl => match us, hl with | [_, _], _ => rfl⟩,
    d_room_told := ⟨F_19, _, fun_mk (st := s_room_told) l_19 e_19 k_19, mg_of X G h_19, fun us hl => match us, hl with | [_, _], _ => rfl⟩,
    d_codes_counted := ⟨F_g, _, fun_mk (st := s_codes_counted) l_g e_g k_g, mg_of X G h_g, fun us hl => match us, hl with | [_, _], _ => rfl⟩,
    d_board_told := ⟨F_a, _, fun_mk (st := s_board_told) l_a e_a k_a, mg_of X G h_a, fun us hl => match us, hl with | [_, _], _ => rfl⟩,
    d_board_written := ⟨F_b, _, fun_mk (st := s_board_written) l_b e_b k_b, mg_of X G h_b, fun us hl => match us, hl with | [_, _], _ => rfl⟩,
    d_carry_out := ⟨F_d, _, fun_mk (st := s_carry_out) l_d e_d k_d, mg_of X G h_d, fun us hl => match us, hl with | [_, _, _], _ => rfl⟩,
    d_all_in_range := ⟨F_3, _, fun_mk (st := s_all_in_range) l_3 e_3 k_3, mg_of X G h_3, fun us hl => match us, hl with | [_, _], _ => rfl⟩,
    d_row_as_told := ⟨F_1a, _, fun_mk (st := s_row_as_told) l_1a e_1a k_1a, mg_of X G h_1a, fun us hl => match us, hl with | [_, _], _ => rfl⟩,
    d_all_rooms_there := ⟨F_4, _, fun_mk (st := s_all_rooms_there) l_4 e_4 k_4, mg_of X G h_4, fun us hl => match us, hl with | [_, _, _], _ => rfl⟩,
    d_attendant_there := ⟨F_6, _, fun_mk (st := s_attendant_there) l_6 e_6 k_6, mg_of X G h_6, fun us hl => match us, hl with | [_, _], _ => rfl⟩,
    d_early_refusal := ⟨F_m, _, fun_mk (st := s_early_refusal) l_m e_m k_m, mg_of X G h_m, fun us hl => match us, hl with | [_, _, _, _], _ => rfl⟩,
    d_row_at := ⟨F_1b, _, fun_mk (st := s_row_at) l_1b e_1b k_1b, mg_of X G h_1b, fun us hl => match us, hl with | [_, _, _], _ => rfl⟩,
    d_answers := ⟨F_5, _, fun_mk (st := s_answers) l_5 e_5 k_5, mg_of X G h_5, fun us hl => match us, hl with | [_], _ => rfl⟩,
    q_guest_in := mg_of X G h_q,
    q_guest_out := mg_of X G h_s,
    q_guest_moves := mg_of X G h_r,
    q_night_passes := mg_of X G h_11,
    q_maid_reports := mg_of X G h_w,
    q_room_inspected := mg_of X G h_17,
    q_room_shut := mg_of X G h_18,
    q_room_back := mg_of X G h_14,
    q_room_due := mg_of X G h_15,
    q_room_extra := mg_of X G h_16,
    q_work_told := mg_of X G h_1j,
    q_split_told := mg_of X G h_1d,
    q_bound_told := mg_of X G h_c,
    q_witness_proved := mg_of X G h_1h,
    q_order_told := mg_of X G h_12,
    q_differences_told := mg_of X G h_k,
    q_difference_resolved := mg_of X G h_j,
    q_room_told := mg_of X G h_19,
    q_codes_counted := mg_of X G h_g,
    q_board_told := mg_of X G h_a,
    q_board_written := mg_of X G h_b,
    r_CODE_NAMES := mg_of X G h_1l,
    m_CODE_NAMES := ⟨[.str "VD", .str "VC", .str "VI", .str "OD", .str "OC", .str "OO"], ⟨_, _, _, w_4m, rfl, rfl, (by show 6 <= sizeLine; decide), (.cons ⟨_, rfl⟩ (.cons ⟨_, rfl⟩ (.cons ⟨_, rfl⟩ (.cons ⟨_, rfl⟩ (.cons ⟨_, rfl⟩ (.cons ⟨_, rfl⟩ .nil))))))⟩, ⟨_, _, rfl, rfl, ⟨_, _, rfl, rfl, ⟨_, _, rfl, rfl, ⟨_, _, rfl, rfl, ⟨_, _, rfl, rfl, ⟨_, _, rfl, rfl, rfl⟩⟩⟩⟩⟩⟩⟩,
    r_CALLS := mg_of X G h_1k,
    x_CALLS := x_1k,
    m_CALLS := ⟨[⟨1, .int (1) t7, .ref F_q⟩, ⟨2, .int (2) t8, .ref F_s⟩, ⟨3, .int (3) t9, .ref F_r⟩, ⟨4, .int (4) t10, .ref F_11⟩, ⟨5, .int (5) t11, .ref F_w⟩, ⟨6, .int (6) t12, .ref F_17⟩, ⟨7, .int (7) t13, .ref F_18⟩, ⟨8, .int (8) t14, .ref F_14⟩, ⟨9, .int (9) t15, .ref F_15⟩, ⟨10, .int (10) t16, .ref F_16⟩, ⟨11, .int (11) t17, .ref F_1j⟩, ⟨12, .int (12) t18, .ref F_1d⟩, ⟨13, .int (13) t19, .ref F_c⟩, ⟨14, .int (14) t20, .ref F_1h⟩, ⟨15, .int (15) t21, .ref F_12⟩, ⟨16, .int (16) t22, .ref F_k⟩, ⟨17, .int (17) t23, .ref F_j⟩, ⟨18, .int (18) t24, .ref F_19⟩, ⟨19, .int (19) t25, .ref F_g⟩, ⟨20, .int (20) t26, .ref F_a⟩, ⟨21, .int (21) t27, .ref F_b⟩], ep_1k, w_1k, (.cons ⟨⟨_, rfl⟩, hi_1, rfl⟩ (.cons ⟨⟨_, rfl⟩, hi_2, rfl⟩ (.cons ⟨⟨_, rfl⟩, hi_3, rfl⟩ (.cons ⟨⟨_, rfl⟩, hi_4, rfl⟩ (.cons ⟨⟨_, rfl⟩, hi_5, rfl⟩ (.cons ⟨⟨_, rfl⟩, hi_6, rfl⟩ (.cons ⟨⟨_, rfl⟩, hi_7, rfl⟩ (.cons ⟨⟨_, rfl⟩, hi_8, rfl⟩ (.cons ⟨⟨_, rfl⟩, hi_9, rfl⟩ (.cons ⟨⟨_, rfl⟩, hi_10, rfl⟩ (.cons ⟨⟨_, rfl⟩, hi_11, rfl⟩ (.cons ⟨⟨_, rfl⟩, hi_12, rfl⟩ (.cons ⟨⟨_, rfl⟩, hi_13, rfl⟩ (.cons ⟨⟨_, rfl⟩, hi_14, rfl⟩ (.cons ⟨⟨_, rfl⟩, hi_15, rfl⟩ (.cons ⟨⟨_, rfl⟩, hi_16, rfl⟩ (.cons ⟨⟨_, rfl⟩, hi_17, rfl⟩ (.cons ⟨⟨_, rfl⟩, hi_18, rfl⟩ (.cons ⟨⟨_, rfl⟩, hi_19, rfl⟩ (.cons ⟨⟨_, rfl⟩, hi_20, rfl⟩ (.cons ⟨⟨_, rfl⟩, hi_21, rfl⟩ .nil))))))))))))))))))))), (show ([1, 2, 3, 4, 5, 6, 7, 8, 9, 10, 11, 12, 13, 14, 15, 16, 17, 18, 19, 20, 21] : List Int).Nodup by decide)⟩,
    r_RANGES := mg_of X G h_1m,
    x_RANGES := x_1m,
    m_RANGES := ⟨[(0, .ref x29), (1, .ref x31), (2, .ref x33), (3, .ref x35), (4, .ref x37), (5, .ref x39), (6, .ref x41), (7, .ref x43), (8, .ref x45), (9, .ref x47), (10, .ref x49), (11, .ref x51), (12, .ref x53), (13, .ref x55), (14, .ref x57), (15, .ref x59), (16, .ref x61), (17, .ref x63), (18, .ref x65), (19, .ref x67), (20, .ref x69), (21, .ref x71)], ⟨[⟨0, .int (0) t28, .ref x29⟩, ⟨1, .int (1) t30, .ref x31⟩, ⟨2, .int (2) t32, .ref x33⟩, ⟨3, .int (3) t34, .ref x35⟩, ⟨4, .int (4) t36, .ref x37⟩, ⟨5, .int (5) t38, .ref x39⟩, ⟨6, .int (6) t40, .ref x41⟩, ⟨7, .int (7) t42, .ref x43⟩, ⟨8, .int (8) t44, .ref x45⟩, ⟨9, .int (9) t46, .ref x47⟩, ⟨10, .int (10) t48, .ref x49⟩, ⟨11, .int (11) t50, .ref x51⟩, ⟨12, .int (12) t52, .ref x53⟩, ⟨13, .int (13) t54, .ref x55⟩, ⟨14, .int (14) t56, .ref x57⟩, ⟨15, .int (15) t58, .ref x59⟩, ⟨16, .int (16) t60, .ref x61⟩, ⟨17, .int (17) t62, .ref x63⟩, ⟨18, .int (18) t64, .ref x65⟩, ⟨19, .int (19) t66, .ref x67⟩, ⟨20, .int (20) t68, .ref x69⟩, ⟨21, .int (21) t70, .ref x71⟩], ep_1m, w_1m, (.cons ⟨⟨_, rfl⟩, hi_0, rfl⟩ (.cons ⟨⟨_, rfl⟩, hi_1, rfl⟩ (.cons ⟨⟨_, rfl⟩, hi_2, rfl⟩ (.cons ⟨⟨_, rfl⟩, hi_3, rfl⟩ (.cons ⟨⟨_, rfl⟩, hi_4, rfl⟩ (.cons ⟨⟨_, rfl⟩, hi_5, rfl⟩ (.cons ⟨⟨_, rfl⟩, hi_6, rfl⟩ (.cons ⟨⟨_, rfl⟩, hi_7, rfl⟩ (.cons ⟨⟨_, rfl⟩, hi_8, rfl⟩ (.cons ⟨⟨_, rfl⟩, hi_9, rfl⟩ (.cons ⟨⟨_, rfl⟩, hi_10, rfl⟩ (.cons ⟨⟨_, rfl⟩, hi_11, rfl⟩ (.cons ⟨⟨_, rfl⟩, hi_12, rfl⟩ (.cons ⟨⟨_, rfl⟩, hi_13, rfl⟩ (.cons ⟨⟨_, rfl⟩, hi_14, rfl⟩ (.cons ⟨⟨_, rfl⟩, hi_15, rfl⟩ (.cons ⟨⟨_, rfl⟩, hi_16, rfl⟩ (.cons ⟨⟨_, rfl⟩, hi_17, rfl⟩ (.cons ⟨⟨_, rfl⟩, hi_18, rfl⟩ (.cons ⟨⟨_, rfl⟩, hi_19, rfl⟩ (.cons ⟨⟨_, rfl⟩, hi_20, rfl⟩ (.cons ⟨⟨_, rfl⟩, hi_21, rfl⟩ .nil)))))))))))))))))))))), (show ([0, 1, 2, 3, 4, 5, 6, 7, 8, 9, 10, 11, 12, 13, 14, 15, 16, 17, 18, 19, 20, 21] : List Int).Nodup by decide)⟩, (.cons ⟨rfl, tr_38⟩ (.cons ⟨rfl, tr_39⟩ (.cons ⟨rfl, tr_3a⟩ (.cons ⟨rfl, tr_3b⟩ (.cons ⟨rfl, tr_3c⟩ (.cons ⟨rfl, tr_3d⟩ (.cons ⟨rfl, tr_3e⟩ (.cons ⟨rfl, tr_3f⟩ (.cons ⟨rfl, tr_3g⟩ (.cons ⟨rfl, tr_3h⟩ (.cons ⟨rfl, tr_3i⟩ (.cons ⟨rfl, tr_3j⟩ (.cons ⟨rfl, tr_3k⟩ (.cons ⟨rfl, tr_3l⟩ (.cons ⟨rfl, tr_3m⟩ (.cons ⟨rfl, tr_3n⟩ (.cons ⟨rfl, tr_3o⟩ (.cons ⟨rfl, tr_3p⟩ (.cons ⟨rfl, tr_3q⟩ (.cons ⟨rfl, tr_3r⟩ (.cons ⟨rfl, tr_3s⟩ (.cons ⟨rfl, tr_3t⟩ .nil))))))))))))))))))))))⟩,
    r_ROWS := mg_of X G h_1o,
    x_ROWS := x_1o,
    m_ROWS := ⟨[(14, .ref x160), (21, .ref x162)], ⟨[⟨14, .int (14) t159, .ref x160⟩, ⟨21, .int (21) t161, .ref x162⟩], ep_1o, w_1o, (.cons ⟨⟨_, rfl⟩, hi_14, rfl⟩ (.cons ⟨⟨_, rfl⟩, hi_21, rfl⟩ .nil)), (show ([14, 21] : List Int).Nodup by decide)⟩, (.cons ⟨rfl, tr_36⟩ (.cons ⟨rfl, tr_37⟩ .nil))⟩,
    r_ROOMS_NAMED := mg_of X G h_1n,
    x_ROOMS_NAMED := x_1n,
    m_ROOMS_NAMED := ⟨[(1, .int (1)), (2, .int (1)), (3, .int (2)), (5, .int (1)), (6, .int (1)), (7, .int (1)), (8, .int (1)), (9, .int (1)), (10, .int (1)), (17, .int (1)), (18, .int (1))], ⟨[⟨1, .int (1) t169, .int (1) t170⟩, ⟨2, .int (2) t171, .int (1) t172⟩, ⟨3, .int (3) t173, .int (2) t174⟩, ⟨5, .int (5) t175, .int (1) t176⟩, ⟨6, .int (6) t177, .int (1) t178⟩, ⟨7, .int (7) t179, .int (1) t180⟩, ⟨8, .int (8) t181, .int (1) t182⟩, ⟨9, .int (9) t183, .int (1) t184⟩, ⟨10, .int (10) t185, .int (1) t186⟩, ⟨17, .int (17) t187, .int (1) t188⟩, ⟨18, .int (18) t189, .int (1) t190⟩], ep_1n, w_1n, (.cons ⟨⟨_, rfl⟩, hi_1, ⟨_, rfl⟩⟩ (.cons ⟨⟨_, rfl⟩, hi_2, ⟨_, rfl⟩⟩ (.cons ⟨⟨_, rfl⟩, hi_3, ⟨_, rfl⟩⟩ (.cons ⟨⟨_, rfl⟩, hi_5, ⟨_, rfl⟩⟩ (.cons ⟨⟨_, rfl⟩, hi_6, ⟨_, rfl⟩⟩ (.cons ⟨⟨_, rfl⟩, hi_7, ⟨_, rfl⟩⟩ (.cons ⟨⟨_, rfl⟩, hi_8, ⟨_, rfl⟩⟩ (.cons ⟨⟨_, rfl⟩, hi_9, ⟨_, rfl⟩⟩ (.cons ⟨⟨_, rfl⟩, hi_10, ⟨_, rfl⟩⟩ (.cons ⟨⟨_, rfl⟩, hi_17, ⟨_, rfl⟩⟩ (.cons ⟨⟨_, rfl⟩, hi_18, ⟨_, rfl⟩⟩ .nil))))))))))), (show ([1, 2, 3, 5, 6, 7, 8, 9, 10, 17, 18] : List Int).Nodup by decide)⟩, (.cons ⟨rfl, rfl⟩ (.cons ⟨rfl, rfl⟩ (.cons ⟨rfl, rfl⟩ (.cons ⟨rfl, rfl⟩ (.cons ⟨rfl, rfl⟩ (.cons ⟨rfl, rfl⟩ (.cons ⟨rfl, rfl⟩ (.cons ⟨rfl, rfl⟩ (.cons ⟨rfl, rfl⟩ (.cons ⟨rfl, rfl⟩ (.cons ⟨rfl, rfl⟩ .nil)))))))))))⟩ }⟩
end Z
open PySem PySem.W PyProof.Rows
inductive PySem.W.Fast : Prop
 | tw2139332212602898505
 | tw9552548003349818320
 | tw460419065158683972
 | tw11132411905186959655
 | tw15577382288095526858
 | tw11565709760688319721
 | tw10940062434199189291
 | tw3659481722562203704
 | tw4521467704028113609
 | tw7813901356354530747
 | tw10562433427196683520
 | tw10855392123672524485
 | tw4376765544145985460
 | tw11459947035290828774
 | tw6891463791104139336
 | tw6452345449389128813
 | tw14769155527939877645
 | tw7084617173996507286
 | tw10669718175318878180
 | tw6374279024394413787
 | tw3098380803757109775
 | tw11957490687509002795
 | tw6286787172630018881
 | tw10336826055479039707
 | tw7251160149425161125
 | tw7316396975288325
 | tw7504430301551223750
 | tw12179935370345989169
 | tw3581810779412686415
namespace Z
theorem rec_at : ∃ dr : DefRec, dr ∈ recsOf PySem.Challenge.rw_roomcodes_s01_answers.prog /\ dr.name = "due_ones_first" := by
  have h : (recsOf PySem.Challenge.rw_roomcodes_s01_answers.prog).any (fun e => decide (e.name = "due_ones_first")) = true := by decide +kernel
  obtain ⟨dr, h1, h2⟩ := List.any_eq_true.mp h
  exact ⟨dr, h1, of_decide_eq_true h2⟩
theorem asked_calls {l : List Int} (h : PyVbhoak.answers_asked l = true) : ∃ ccs, PyFlat.calls PyVbhoak.shape l.length l = some ccs /\ ccs.length <= 60 /\ PyVbhoak.answers l = PyFlat.told (PyFlat.played VbhoakNeutral.step VbhoakNeutral.start ccs) := by
  unfold PyVbhoak.answers_asked at h
  unfold PyVbhoak.answers
  rw [calls_eq] at h ⊢
  cases e : PyFlat.calls PyVbhoak.shape l.length l with
  | none => rw [e] at h; cases h
  | some ccs =>
    rw [e] at h
    have h : (PyFlat.atMost 60 ccs && VbhoakNeutral.asked ccs) = true := h
    rw [Bool.and_eq_true] at h
    exact ⟨ccs, rfl, of_decide_eq_true h.1, rfl⟩
theorem lam_of {K : PySem.W.Frag} {mg : Str -> Option Value} {a : Ad} {h base : Heap} {c PT : Addr} (T : Txt K mg a) (KX : K.In h) (hx : ∃ f o fx, mg "due_ones_first" = some (.ref f) /\ h.get? f = some o /\ o.data = .func fx /\ fx.code = .ref c) (hc : PySem.W.CodeHd base c PT) (hb : W2.BM mg base) : Lam K mg base c PT := by
  obtain ⟨f, o, fx, m, g, d, e⟩ := hx
  obtain ⟨f', fd, F, m', b⟩ := T.d_due_ones_first.ex
  rw [m'] at m
  cases m
  obtain ⟨oc, od, kV, doc, pm, an, cdv, ct, osl, rfl, lk, hcd⟩ := id F.ex
  have g2 := KX _ _ lk
  rw [g] at g2
  cases g2
  cases d
  exact ⟨⟨_, _, F, m', b, e⟩, hc, hb⟩
end Z
set_option maxHeartbeats 0 in
theorem PySem.Challenge.cw_roomcodes_s01_answers_holds : PySem.Challenge.rw_roomcodes_s01_answers.Holds := by
  w_on; k_headS; (case hw => exact ⟨[.list [.int 4]], by decide +kernel, by decide +kernel⟩)
  k_fillS
  obtain ⟨dr, hdr, hdn⟩ := Z.rec_at
  refine W2.walkT (r := PySem.Challenge.rw_roomcodes_s01_answers) (k := 8) (ps := ["calls"]) (sp := Z.spAns) (dr := dr) (by decide +kernel) rfl ⟨rfl, by decide, by decide⟩ (fun w h Y => PySem.W.kIn_of Y) (fun w => by kernel_rfl) hdr ?F ?S
  case F =>
    intro w mg fa h c PT Y KX G hmg hx
    rw [hdn] at hx
    have T : ∃ a, Z.Txt (L2.KOf KX) mg a := by
      dsimp only [L2.KOf]
      apply Z.all_mk KX G
      all_goals first | k_is | rfl | decide
    obtain ⟨a, T⟩ := T
    obtain ⟨f, fd, m, b, ok⟩ := Z.ok_answers (P := PySem.Challenge.rw_roomcodes_s01_answers.prog) (w := w) (c := c) (PT := PT) T
    have e0 := hmg.symm.trans m
    cases e0
    exact ⟨fd, fun s us hu => .of_eq (b us hu), fun base _ _ hc hb => ok base (Z.lam_of T KX hx hc hb)⟩
  case S =>
    intro K PT H xs a hP hwi hask hx
    cases hx with
    | cons h1 h2 =>
      cases h2
      cases h1 with
      | lst hs ha =>
        have e := L2.ints_dw a.1 _ ha
        subst e
        have q : ((Codec.inLen 0 16000 a.1 && a.1.all (Codec.inInt (-1000000000000000000) 1000000000000000000)) && true) = true := hwi
        rw [Bool.and_eq_true, Bool.and_eq_true] at q
        have hask : PyVbhoak.answers_asked a.1 = true := hask
        obtain ⟨ccs, e1, e2, e3⟩ := Z.asked_calls hask
        refine ⟨_, a.1, ccs, rfl, hs, Nat.lt_of_le_of_lt (Codec.inNat_iff.mp q.1.1).2 (by decide), .inl hP, e1, e2, fun H' p _ hp => ?_⟩
        have e4 : PySem.W.WData.list ((PyVbhoak.answers a.1).map PySem.W.WData.int) = PySem.Challenge.rw_roomcodes_s01_answers.ret.enc (Codec.app PySem.Challenge.rw_roomcodes_s01_answers.args PySem.Challenge.rw_roomcodes_s01_answers.f a) := rfl
        rw [<- e4, e3]
        exact .lst (L2.SqL.of hp) (L2.dw_ints _)
