import PyProof.Rows.All
import Wide.All
import OpenK.AllK
import Wide.FinOn
import PyProof.EqAt
import PyProof.EqKinds
import PyProof.TupleCall
import Open.SpecLaws
import KE.OsHead
import KE.OsGo
import KE.KIsAll
import PyProof.Draws
import PyProof.EnumMake
import PyProof.TupleIter
import PyProof.WalksMore
import PyProof.AutoSeq1
import VanbkdSpec
import PyVanbkd
import PyProof.EqLayable
import PySem.Challenge.RW_cellpad_s01_answers
set_option linter.all false
set_option Elab.async false
set_option maxRecDepth 100000
set_option maxHeartbeats 4000000
namespace L2
open PySem PySem.Spec PyProof.Rows
abbrev Key := Sum Int Str
def keyIs : Key → Value → Bool
  | .inl k, v => Value.isInt k v
  | .inr x, v => Value.isStrOf x v
def keyH (w : World) : Key → Int
  | .inl k => hashInt k
  | .inr x => hashStr w x
theorem keyIs_shape : ∀ {k : Key} {v : Value}, keyIs k v = true → (∃ i t, k = Sum.inl i ∧ v = Value.int i t) ∨ (∃ x t, k = Sum.inr x ∧ v = Value.str x t)
  | .inl i, v, h => by
    obtain ⟨t, e⟩ := Value.isInt_shape (k := i) (v := v) h
    exact .inl ⟨i, t, rfl, e⟩
  | .inr x, v, h => by
    obtain ⟨t, e⟩ := Value.isStrOf_shape (x := x) (v := v) h
    exact .inr ⟨x, t, rfl, e⟩
theorem key_ll (a b : Int) : decide ((Sum.inl a : Key) = Sum.inl b) = (a == b) := by
  by_cases e : a = b
  · subst e; simp
  · have h : ¬ (Sum.inl a : Key) = Sum.inl b := fun q => e (Sum.inl.inj q)
    rw [decide_eq_false h]
    exact (beq_eq_false_iff_ne.mpr e).symm
theorem key_rr (a b : Str) : decide ((Sum.inr a : Key) = Sum.inr b) = decide (a = b) := by
  by_cases e : a = b
  · subst e; simp
  · have h : ¬ (Sum.inr a : Key) = Sum.inr b := fun q => e (Sum.inr.inj q)
    rw [decide_eq_false h, decide_eq_false e]
theorem key_lr (a : Int) (b : Str) : decide ((Sum.inl a : Key) = Sum.inr b) = false := decide_eq_false (fun q => nomatch q)
theorem key_rl (a : Str) (b : Int) : decide ((Sum.inr a : Key) = Sum.inl b) = false := decide_eq_false (fun q => nomatch q)
def mixKind (prog : Program) (w : World) : PySem.KeyKind prog w Key where
  is := keyIs
  hash := keyH w
  inj := fun v a b ha hb => by
    rcases keyIs_shape ha with ⟨i, t, rfl, rfl⟩ | ⟨x, t, rfl, rfl⟩
    · rcases keyIs_shape hb with ⟨j, u, rfl, e⟩ | ⟨y, u, rfl, e⟩
      · injection e with e1 _; rw [e1]
      · exact nomatch e
    · rcases keyIs_shape hb with ⟨j, u, rfl, e⟩ | ⟨y, u, rfl, e⟩
      · exact nomatch e
      · injection e with e1 _; rw [e1]
  byValue := fun k v h => by
    rcases keyIs_shape h with ⟨i, t, rfl, rfl⟩ | ⟨x, t, rfl, rfl⟩ <;> rfl
  pyHash := fun hv h => by
    rcases keyIs_shape hv with ⟨i, t, rfl, rfl⟩ | ⟨x, t, rfl, rfl⟩
    · exact wpAny_pyHash_int h
    · exact wpAny_pyHash_str h
  eqBool := fun hu hv h => by
    rcases keyIs_shape hu with ⟨i, t, rfl, rfl⟩ | ⟨x, t, rfl, rfl⟩
    · rcases keyIs_shape hv with ⟨j, u, rfl, rfl⟩ | ⟨y, u, rfl, rfl⟩
      · rw [key_ll] at h; exact wpAny_eqBool_int h
      · rw [key_lr] at h; exact SeqAt.EqAt.int_str i t y u _ _ _ _ h
    · rcases keyIs_shape hv with ⟨j, u, rfl, rfl⟩ | ⟨y, u, rfl, rfl⟩
      · rw [key_rl] at h; exact SeqAt.EqAt.str_int x t j u _ _ _ _ h
      · rw [key_rr] at h; exact wpAny_eqBool_str h
  «strs» := fun k x t v h => by
    rcases keyIs_shape h with ⟨i, u, rfl, e⟩ | ⟨y, u, rfl, e⟩
    · exact nomatch e
    · injection e with e1 _
      subst e1
      cases v <;> rfl
end L2
namespace L2
open PySem PySem.Spec PyProof.Rows
inductive V where
  | non | bl (b : Bool) | int (i : Int) | str (x : Str) | byt (b : Array UInt8) | flt (b : UInt64) | ref (a : Addr) | ty (n : String)
  deriving DecidableEq
def RelV : V → Value → Prop
  | .non, u => u = Value.none
  | .bl b, u => u = Value.bool b
  | .int i, u => ∃ t, u = Value.int i t
  | .str x, u => ∃ t, u = Value.str x t
  | .byt b, u => ∃ t, u = Value.bytes b t
  | .flt b, u => ∃ t, u = Value.float b t
  | .ref a, u => u = Value.ref a
  | .ty n, u => u = Value.type n
abbrev Vals : List V → List Value → Prop := Paired RelV
theorem Vals.length {xs : List V} {us : List Value} (r : Vals xs us) : xs.length = us.length := Paired.length r
theorem Vals.get : ∀ {xs : List V} {us : List Value} {i : Nat} {x : V}, Vals xs us → xs[i]? = some x → ∃ u, us[i]? = some u ∧ RelV x u
  | _, _, _, _, .nil, e => by simp at e
  | _, _, 0, _, .cons r _, e => by simp at e; subst e; exact ⟨_, rfl, r⟩
  | _, _, i + 1, x, .cons _ t, e => by
    obtain ⟨u, h1, h2⟩ := Vals.get (i := i) (x := x) t (by simpa using e)
    exact ⟨u, by simpa using h1, h2⟩
theorem Vals.set {x : V} {u : Value} (r : RelV x u) : ∀ {xs : List V} {us : List Value} (i : Nat), Vals xs us → Vals (xs.set i x) (us.set i u)
  | _, _, _, .nil => .nil
  | _, _, 0, .cons _ t => .cons r t
  | _, _, i + 1, .cons q t => .cons q (Vals.set r i t)
theorem Vals.append : ∀ {xs ys : List V} {us ws : List Value}, Vals xs us → Vals ys ws → Vals (xs ++ ys) (us ++ ws)
  | _, _, _, _, .nil, s => s
  | _, _, _, _, .cons r t, s => .cons r (Vals.append t s)
theorem Vals.take : ∀ {xs : List V} {us : List Value} (n : Nat), Vals xs us → Vals (xs.take n) (us.take n)
  | _, _, 0, _ => .nil
  | _, _, _ + 1, .nil => .nil
  | _, _, n + 1, .cons r t => .cons r (Vals.take n t)
theorem Vals.drop : ∀ {xs : List V} {us : List Value} (n : Nat), Vals xs us → Vals (xs.drop n) (us.drop n)
  | _, _, 0, r => r
  | _, _, _ + 1, .nil => .nil
  | _, _, n + 1, .cons _ t => Vals.drop n t
def RelO : Option V → Option Value → Prop
  | some v, some u => RelV v u
  | none, none => True
  | _, _ => False
def KV {κ : Type} : List (κ × V) → List (κ × Value) → Prop := Paired fun (p : κ × V) (q : κ × Value) => p.1 = q.1 ∧ RelV p.2 q.2
def kV : Key → V
  | .inl i => .int i
  | .inr x => .str x
inductive HO where
  | lst (xs : List V)
  | tup (xs : List V)
  | dK (kvs : List (Key × V)) | dT (kvs : List (List Key × V))
  | set (S : Int → Bool) (n : Nat)
  | ins (C dx : Addr) (fs : List (Str × V))
  | own (x : Addr)
  | xd (fs : List (Str × V))
  | met (f x : Addr)
  | rng (lo hi : Int)
  | frz (o : Obj) (u : HO)
  | tbl (ps : Array Value)
  | ext (φ : Heap → Prop)
abbrev Hp := Addr → Option HO
def upd (H : Hp) (a : Addr) (o : HO) : Hp := fun b => if b = a then some o else H b
theorem upd_same {H : Hp} {a : Addr} {o : HO} : upd H a o a = some o := by unfold upd; rw [if_pos rfl]
theorem upd_ne {H : Hp} {a b : Addr} {o : HO} (h : b ≠ a) : upd H a o b = H b := by unfold upd; rw [if_neg h]
theorem upd_upd {H : Hp} {a : Addr} {o u : HO} : upd (upd H a o) a u = upd H a u := by
  funext b; unfold upd; split <;> rfl
theorem ne_of {H : Hp} {a b : Addr} {o u : HO} (h : H a = some o) (h' : H b = some u) (d : o ≠ u) : a ≠ b := by
  intro e; subst e; rw [h] at h'; exact d (Option.some.inj h')
theorem ne_of_none {H : Hp} {a b : Addr} {o : HO} (h : H a = some o) (h' : H b = none) : a ≠ b := by
  intro e; subst e; rw [h] at h'; cases h'
section
variable (P : Program) (w : World)
def ObjOk (H : Hp) (h : Heap) (a : Addr) : HO → Prop
  | .lst xs => xs.length ≤ sizeLine ∧ ∃ (its : List Value) (n : Nat), Vals xs its ∧ h.get? a = some { cls := .type "list", data := .seq its.toArray n }
  | .tup xs => xs.length ≤ sizeLine ∧ ∃ its : List Value, Vals xs its ∧ IsTup h a its.toArray
  | .dK kvs => kvs.length ≤ sizeLine ∧ (a == sysModules) = false ∧ ∃ vs, KV kvs vs ∧ h.DictOf (mixKind P w) a vs
  | .dT kvs => kvs.length ≤ sizeLine ∧ (a == sysModules) = false ∧ ∃ xs : List (List Key × Addr × Value),
      Paired (fun (p : List Key × V) (q : List Key × Addr × Value) => p.1 = q.1 ∧ H q.2.1 = some (.tup (p.1.map kV)) ∧ RelV p.2 q.2.2) kvs xs ∧
      ∃ o es ep, h.get? a = some o ∧ o.ExactDict ∧ o.data = .dict es ep ∧ es.toList = xs.map (entryOfKey (tupleKind (mixKind P w))) ∧ (xs.map (·.1)).Nodup
  | .set S n => h.SetOf (intKind P w) a S n
  | .ins C dx fs => H dx = some (.own a) ∧ fs.length ≤ 1000 ∧ dx ≠ a ∧ h.get? a = some (PySem.W.instObj C dx) ∧
      ∃ mA, h.Ns1 dx mA ∧ (∀ f, RelO (fs.lookup f) (mA f)) ∧ PySem.Within mA (fs.map (·.1))
  | .own _ => ∃ o, h.get? a = some o
  | .xd fs => ∃ mA, h.Ns1 a mA ∧ ∀ f, RelO (fs.lookup f) (mA f)
  | .rng lo hi => ∃ t u v, h.get? a = some { cls := .type "range", data := .fields #[.int lo t, .int hi u, .int 1 v] }
  | .frz o u => h.get? a = some o ∧ ObjOk H h a u
  | .tbl ps => h.get? a = some { cls := .none, data := .fields ps }
  | .met f x => h.get? a = some (PySem.W.methodObj (.ref f) (.ref x))
  | .ext φ => φ h ∧ (∃ o, h.get? a = some o) ∧ ∀ h1 h2 : Heap, φ h1 → (∀ o, h1.get? a = some o → h2.get? a = some o) → φ h2
def HOk (H : Hp) (h : Heap) : Prop := ∀ a o, H a = some o → ObjOk P w H h a o
end
section
variable {P : Program} {w : World} {H H' : Hp} {h h' : Heap} {a : Addr} {o : HO}
theorem ObjOk.lt (x : ObjOk P w H h a o) : a < h.objs.size := by
  cases o with
  | lst xs => obtain ⟨_, _, _, _, e⟩ := x; exact Heap.lt_size e
  | tup xs => obtain ⟨_, _, _, p⟩ := x; exact p.lt
  | dK kvs => obtain ⟨_, _, _, _, o, _, _, e, _⟩ := x; exact Heap.lt_size e
  | dT kvs => obtain ⟨_, _, _, _, o, _, _, e, _⟩ := x; exact Heap.lt_size e
  | set S n => obtain ⟨o, _, _, _, e, _⟩ := x; exact Heap.lt_size e
  | ins C dx fs => obtain ⟨_, _, _, e, _⟩ := x; exact Heap.lt_size e
  | own y => obtain ⟨_, e⟩ := x; exact Heap.lt_size e
  | xd fs => obtain ⟨_, ⟨_, _, _, e, _⟩, _⟩ := x; exact Heap.lt_size e
  | rng lo hi => obtain ⟨_, _, _, e⟩ := x; exact Heap.lt_size e
  | frz ob u => obtain ⟨e, _⟩ := x; exact Heap.lt_size e
  | tbl ps => exact Heap.lt_size (show h.get? a = some _ from x)
  | met f y => exact Heap.lt_size (show h.get? a = some _ from x)
  | ext φ => obtain ⟨_, ⟨_, e⟩, _⟩ := x; exact Heap.lt_size e
theorem Paired.mapP {α β : Type} {F G : α → β → Prop} : ∀ {l₁ : List α} {l₂ : List β}, Paired F l₁ l₂ → (∀ a b, F a b → G a b) → Paired G l₁ l₂
  | _, _, .nil, _ => .nil
  | _, _, .cons r t, f => .cons (f _ _ r) (Paired.mapP t f)
theorem ObjOk.stay (x : ObjOk P w H h a o) (k : ∀ b u, (b = a ∨ H b = some (.own a)) → h.get? b = some u → h'.get? b = some u)
    (ho : ∀ b, H b = some (.own a) → H' b = some (.own a)) (ht : ∀ b xs, H b = some (.tup xs) → H' b = some (.tup xs)) : ObjOk P w H' h' a o := by
  induction o with
  | lst xs => obtain ⟨z, its, n, r, e⟩ := x; exact ⟨z, its, n, r, k _ _ (.inl rfl) e⟩
  | tup xs => obtain ⟨z, its, r, ob, e, c⟩ := x; exact ⟨z, its, r, ob, k _ _ (.inl rfl) e, c⟩
  | dK kvs => obtain ⟨z, y, vs, r, ob, es, ep, e, c⟩ := x; exact ⟨z, y, vs, r, ob, es, ep, k _ _ (.inl rfl) e, c⟩
  | dT kvs =>
    obtain ⟨z, y, xs, r, ob, es, ep, e, c⟩ := x
    exact ⟨z, y, xs, Paired.mapP r fun p q z => ⟨z.1, ht _ _ z.2.1, z.2.2⟩, ob, es, ep, k _ _ (.inl rfl) e, c⟩
  | set S n => obtain ⟨ob, es, ep, t, e, c⟩ := x; exact ⟨ob, es, ep, t, k _ _ (.inl rfl) e, c⟩
  | ins C dx fs =>
    obtain ⟨d, z, ne, e, mA, ⟨od, es, ep, e2, c⟩, r⟩ := x
    exact ⟨ho _ d, z, ne, k _ _ (.inl rfl) e, mA, ⟨od, es, ep, k _ _ (.inr d) e2, c⟩, r⟩
  | own y => obtain ⟨ob, e⟩ := x; exact ⟨ob, k _ _ (.inl rfl) e⟩
  | xd fs => obtain ⟨mA, ⟨od, es, ep, e, c⟩, r⟩ := x; exact ⟨mA, ⟨od, es, ep, k _ _ (.inl rfl) e, c⟩, r⟩
  | rng lo hi => obtain ⟨t, u, v, e⟩ := x; exact ⟨t, u, v, k _ _ (.inl rfl) e⟩
  | frz ob u ih => obtain ⟨e, q⟩ := x; exact ⟨k _ _ (.inl rfl) e, ih q⟩
  | tbl ps =>
    have e : h.get? a = some { cls := .none, data := .fields ps } := x
    show h'.get? a = some { cls := .none, data := .fields ps }
    exact k a _ (.inl rfl) e
  | met f y =>
    have e : h.get? a = some (PySem.W.methodObj (.ref f) (.ref y)) := x
    show h'.get? a = some (PySem.W.methodObj (.ref f) (.ref y))
    exact k a _ (.inl rfl) e
  | ext φ => obtain ⟨p, ⟨o, e⟩, st⟩ := x; exact ⟨st _ _ p fun o q => k _ _ (.inl rfl) q, ⟨o, k _ _ (.inl rfl) e⟩, st⟩
theorem HOk.lt (x : HOk P w H h) (e : H a = some o) : a < h.objs.size := (x a o e).lt
theorem HOk.fresh (x : HOk P w H h) (e : h.objs.size ≤ a) : H a = none := by
  cases q : H a with
  | none => rfl
  | some u => exact absurd (Nat.lt_of_lt_of_le (x.lt q) e) (Nat.lt_irrefl _)
theorem HOk.kept (x : HOk P w H h) (k : ∀ b u, h.get? b = some u → h'.get? b = some u) : HOk P w H h' := fun a o e =>
  (x a o e).stay (fun b u _ q => k b u q) (fun _ q => q) fun _ _ q => q
theorem HOk.laid (x : HOk P w H h) (k : ∀ b u, h.get? b = some u → h'.get? b = some u) (hp : h.objs.size ≤ a) (new : ObjOk P w (upd H a o) h' a o) : HOk P w (upd H a o) h' := fun b u e => by
  have hn := x.fresh hp
  by_cases hb : b = a
  · subst hb; rw [upd_same] at e; cases e; exact new
  · rw [upd_ne hb] at e
    exact (x b u e).stay (fun c v _ q => k c v q) (fun c q => by rw [upd_ne (ne_of_none q hn)]; exact q) fun c xs q => by rw [upd_ne (ne_of_none q hn)]; exact q
end
def Rd (H : Hp) (a : Addr) (u : HO) : Prop := H a = some u ∨ ∃ o, H a = some (.frz o u)
theorem Rd.ok {P : Program} {w : World} {H : Hp} {h : Heap} {a : Addr} {u : HO} (r : Rd H a u) (x : HOk P w H h) : ObjOk P w H h a u := by
  rcases r with r | ⟨o, r⟩
  · exact x a u r
  · obtain ⟨_, q⟩ := x a _ r
    exact q
def Mut : Option HO → Prop
  | some (.lst _) => True
  | some (.dK _) => True
  | some (.dT _) => True
  | some (.set _ _) => True
  | some (.ins _ _ _) => True
  | some (.ext _) => True
  | _ => False
section
variable {P : Program} {w : World} {H : Hp} {h h' : Heap} {x e : Addr} {o' : HO}
theorem HOk.write (ok : HOk P w H h) (mu : Mut (H x)) (he : e = x ∨ H e = some (.own x)) (k : ∀ b u, b ≠ e → h.get? b = some u → h'.get? b = some u) (heo : ∃ u, h'.get? e = some u)
    (new : ObjOk P w (upd H x o') h' x o') : HOk P w (upd H x o') h' := fun b u q => by
  have nown : ∀ c y, H c = some (.own y) → c ≠ x := fun c y r z => by subst z; rw [r] at mu; exact mu
  have ntup : ∀ c xs, H c = some (.tup xs) → c ≠ x := fun c xs r z => by subst z; rw [r] at mu; exact mu
  by_cases hb : b = x
  · subst hb; rw [upd_same] at q; cases q; exact new
  · rw [upd_ne hb] at q
    by_cases hbe : b = e
    · have q' : H b = some (.own x) := by
        rcases he with z | z
        · exact absurd (hbe.trans z) hb
        · rw [hbe]; exact z
      rw [q] at q'; cases q'
      obtain ⟨v, hv⟩ := heo
      exact ⟨v, by rw [hbe]; exact hv⟩
    · refine (ok b u q).stay (fun c v hc r => k c v ?_ r) (fun c r => by rw [upd_ne (nown c b r)]; exact r) fun c xs r => by rw [upd_ne (ntup c xs r)]; exact r
      rcases hc with rfl | hc
      · exact hbe
      · rintro rfl
        rcases he with z | z
        · exact nown c b hc z
        · rw [hc] at z; cases z; exact hb rfl
end
structure Un (fs ex : List Addr) (H H' : Hp) (h h' : Heap) : Prop where
  keep : ∀ b o, h.get? b = some o → H b = none → b ∉ fs → b ∉ ex → h'.get? b = some o
  slot : ∀ b o, h.get? b = some o → H b = none → b ∈ fs → b ∉ ex → ∃ sl, h'.get? b = some { o with slots := sl }
  free : ∀ b o, h.get? b = some o → H b = none → b ∉ ex → H' b = none
  there : ∀ b o, h.get? b = some o → b ∉ ex → ∃ o', h'.get? b = some o'
  tups : ∀ b xs, H b = some (.tup xs) → H' b = some (.tup xs)
  frzs : ∀ b o u, H b = some (.frz o u) → H' b = some (.frz o u)
  tbls : ∀ b ps, H b = some (.tbl ps) → ∃ more, H' b = some (.tbl (ps ++ more))
section
variable {fs fs' ex ex' : List Addr} {H H1 H2 : Hp} {h h1 h2 h' : Heap} {a x e : Addr} {o : HO}
theorem Un.any (u : Un fs ex H H1 h h1) {b : Addr} {ob : Obj} (q : h.get? b = some ob) (n : H b = none) (hx : b ∉ ex) : ∃ sl, h1.get? b = some { ob with slots := sl } := by
  by_cases hb : b ∈ fs
  · exact u.slot b ob q n hb hx
  · exact ⟨ob.slots, u.keep b ob q n hb hx⟩
theorem Un.kept (k : ∀ b u, h.get? b = some u → h'.get? b = some u) : Un fs ex H H h h' :=
  ⟨fun b ob q _ _ _ => k b ob q, fun b ob q _ _ _ => ⟨ob.slots, k b ob q⟩, fun _ _ _ n _ => n, fun b ob q _ => ⟨ob, k b ob q⟩, fun _ _ q => q, fun _ _ _ q => q, fun _ ps q => ⟨#[], by rw [q]; simp⟩⟩
theorem Un.refl : Un fs ex H H h h := Un.kept fun _ _ q => q
theorem Un.laid (k : ∀ b u, h.get? b = some u → h'.get? b = some u) (hp : h.objs.size ≤ a) (hn : H a = none) : Un fs ex H (upd H a o) h h' where
  keep := fun b u q _ _ _ => k b u q
  slot := fun b u q _ _ _ => ⟨u.slots, k b u q⟩
  free := fun b u q n _ => by rw [upd_ne (Nat.ne_of_lt (Nat.lt_of_lt_of_le (Heap.lt_size q) hp))]; exact n
  there := fun b u q _ => ⟨u, k b u q⟩
  tups := fun b xs q => by rw [upd_ne (ne_of_none q hn)]; exact q
  frzs := fun b u xs q => by rw [upd_ne (ne_of_none q hn)]; exact q
  tbls := fun b ps q => ⟨#[], by rw [upd_ne (ne_of_none q hn), q]; simp⟩
theorem Un.write (mu : Mut (H x)) (he : e = x ∨ H e = some (.own x)) (k : ∀ b u, b ≠ e → h.get? b = some u → h'.get? b = some u) (heo : ∃ u, h'.get? e = some u) : Un fs ex H (upd H x o) h h' := by
  have hx : ∀ b, H b = none → b ≠ x := fun b n z => by subst z; rw [n] at mu; exact mu
  have hb : ∀ b, H b = none → b ≠ e := fun b n z => by
    subst z
    rcases he with r | r
    · exact hx b n r
    · rw [n] at r; cases r
  have hm : ∀ b u, H b = some u → ¬ Mut (some u) → b ≠ x := fun b u q nm z => by subst z; rw [q] at mu; exact nm mu
  refine ⟨fun b u q n _ _ => k b u (hb b n) q, fun b u q n _ _ => ⟨u.slots, k b u (hb b n) q⟩, fun b u q n _ => by rw [upd_ne (hx b n)]; exact n, fun b u q _ => ?_,
    fun b xs q => by rw [upd_ne (hm b _ q fun z => z)]; exact q, fun b u xs q => by rw [upd_ne (hm b _ q fun z => z)]; exact q, fun b ps q => ⟨#[], by rw [upd_ne (hm b _ q fun z => z), q]; simp⟩⟩
  by_cases hbe : b = e
  · subst hbe; exact heo
  · exact ⟨u, k b u hbe q⟩
end
def trk (h : Heap) (H : Hp) : List Addr := (List.range h.objs.size).filter fun a => (H a).isSome
def hidT (h : Heap) (H : Hp) : Heap := PySem.W.hideAll h (trk h H)
theorem hidT_size (h : Heap) (H : Hp) : (hidT h H).objs.size = h.objs.size := PySem.W.hideAll_size _ _
theorem hidT_get {h : Heap} {H : Hp} {b : Addr} {o : Obj} (e : h.get? b = some o) (n : H b = none) : (hidT h H).get? b = some o :=
  PySem.W.hideAll_get _ e fun hm => by
    have q : (H b).isSome = true := (List.mem_filter.mp hm).2
    rw [n] at q; simp at q
theorem of_hidT {h : Heap} {H : Hp} {b : Addr} {o : Obj} (e : (hidT h H).get? b = some o) : h.get? b = some o ∧ H b = none := by
  have e' : h.get? b = some o := PySem.W.of_hideAll (trk h H) e
  refine ⟨e', ?_⟩
  cases q : H b with
  | none => rfl
  | some x =>
    have hm : b ∈ trk h H := List.mem_filter.mpr ⟨List.mem_range.mpr (Heap.lt_size e'), by simp [q]⟩
    have z : (hidT h H).get? b = none := PySem.W.hideAll_none (trk h H) hm
    rw [z] at e; cases e
end L2
namespace L2
open PySem PySem.Spec PyProof.Rows
structure Mod (K : PySem.W.Frag) (mg : Str → Option Value) (base : Heap) : Prop where
  kin : K.In base
  glob : base.Ns mainGlobals mg
  blt : ∃ mb, base.Ns builtinsNs mb ∧ ∀ x : Str, x ≠ "__name__" → mb x = bootBuiltins x
  nolimit : base.NoLimit
structure Cx where
  prog : Program
  w : World
  K : PySem.W.Frag
  mg : Str → Option Value
  base : Heap
  A : Around
  N : List Str
  s_0 : Shared
  H_0 : Hp
  env : Env
  outer : List Env
  stack : List Env
  ex : List Addr
  fn : Str → Bool
  calm : Bool
  pn : List (Addr × Obj)
  xe : Value → Shared → Prop
def frs (l : List Env) : List Addr := l.filterMap (·.frame)
abbrev Cx.fs (X : Cx) : List Addr := frs X.outer
def Vis (sc : Scope) (x : Str) : Prop := sc.names.lookup x = some .local ∨ sc.names.lookup x = some .cell ∨ sc.names.lookup x = some .free
def Loc (sc : Scope) (x : Str) : Prop := sc.names.lookup x = some .local ∨ sc.names.lookup x = some .cell
def Look (env : Env) (h : Heap) (m : Str → Option Value) (x : Str) (u : Value) : Prop :=
  (env.kindOf x = some .local ∧ m x = some u) ∨ ((env.kindOf x = some .cell ∨ env.kindOf x = some .free) ∧ ∃ c, env.cells.lookup x = some c ∧ h.IsCell c (some u))
structure Cx.Ok (X : Cx) : Prop where
  mod : Mod X.K X.mg X.base
  kind : X.env.scope.kind = .function
  glob : X.env.globals = mainGlobals
  blt : X.env.builtins = builtinsNs
  above : X.s_0.heap.objs.size ≤ X.env.locals
  inj : ∀ x y c, X.env.cells.lookup x = some c → X.env.cells.lookup y = some c → x = y
  has : ∀ x, (X.env.kindOf x = some .cell ∨ X.env.kindOf x = some .free) → ∃ c, X.env.cells.lookup x = some c
  cab : ∀ x c, X.fn x = true → X.env.cells.lookup x = some c → X.s_0.heap.objs.size ≤ c
  hd : X.calm = true → X.A.handled = none
  frames : X.A.frames = some X.stack
  stk : X.stack = X.outer ∨ (X.stack = X.env :: X.outer ∧ X.env.frame = some X.env.locals)
  exf : ∀ b ∈ X.ex, b ≠ X.env.locals ∧ ∀ x c, X.env.cells.lookup x = some c → c ≠ b
  bs : ∀ b o, X.base.get? b = some o → X.s_0.heap.get? b = some o ∧ X.H_0 b = none
  bsz : X.base.objs.size ≤ X.s_0.heap.objs.size
  noex : ∀ b o, X.base.get? b = some o → b ∉ X.ex
  exfs : ∀ b ∈ X.ex, b ∉ X.fs
  funs : X.s_0.heap.FunFrames X.base X.outer
  frf : ∀ b ∈ X.fs, X.H_0 b = none
structure Inv (X : Cx) (pins : List (Addr × Obj)) (σ : List (Option V)) (H : Hp) (s : Shared) : Prop where
  ok : X.Ok
  os : s.os = X.s_0.os
  bare : AllBare s.gens
  base : Un X.fs X.ex X.H_0 H X.s_0.heap s.heap
  loc : ∃ m, s.heap.Ns X.env.locals m ∧ ∀ (i : Nat) (x : Str) (v : V), X.N[i]? = some x → σ[i]? = some (some v) → Vis X.env.scope x → ∃ u, RelV v u ∧ Look X.env s.heap m x u
  cell : ∀ x c, X.env.cells.lookup x = some c → ∃ v, s.heap.IsCell c v
  free : H X.env.locals = none
  freeC : ∀ x c, X.env.cells.lookup x = some c → H c = none
  pin : ∀ p ∈ X.pn ++ pins, s.heap.get? p.1 = some p.2 ∧ H p.1 = none ∧ p.1 ≠ X.env.locals ∧ p.1 ∉ X.fs ∧ ∀ v, p.2.data ≠ .cell v
  hok : HOk X.prog X.w H s.heap
  len : σ.length = X.N.length
section
variable {X : Cx} {pins : List (Addr × Obj)} {σ : List (Option V)} {H H' : Hp} {s : Shared} {h' : Heap}
theorem Cx.Ok.nofr (ok : X.Ok) {b : Addr} {o : Obj} (e : X.base.get? b = some o) : b ∉ X.fs := fun hb => by
  have := (ok.funs.mem hb).1
  rw [e] at this; cases this
theorem Inv.bs (I : Inv X pins σ H s) : ∀ b o, X.base.get? b = some o → s.heap.get? b = some o ∧ H b = none := fun b o e =>
  ⟨I.base.keep b o (I.ok.bs b o e).1 (I.ok.bs b o e).2 (I.ok.nofr e) (I.ok.noex b o e), I.base.free b o (I.ok.bs b o e).1 (I.ok.bs b o e).2 (I.ok.noex b o e)⟩
theorem Inv.bk (I : Inv X pins σ H s) : ∀ b o, X.base.get? b = some o → s.heap.get? b = some o := fun b o e => (I.bs b o e).1
theorem Inv.mod (I : Inv X pins σ H s) : Mod X.K X.mg X.base := I.ok.mod
theorem Inv.kIn (I : Inv X pins σ H s) : X.K.In s.heap := I.ok.mod.kin.keeps I.bk
theorem Inv.lt (I : Inv X pins σ H s) : X.env.locals < s.heap.objs.size := let ⟨_, hn, _⟩ := I.loc; hn.lt
theorem Inv.sz (I : Inv X pins σ H s) : X.s_0.heap.objs.size ≤ s.heap.objs.size := Nat.le_trans I.ok.above (Nat.le_of_lt I.lt)
theorem Inv.nofs (I : Inv X pins σ H s) {a : Addr} (h : s.heap.objs.size ≤ a) : a ∉ X.fs := fun hb => by
  obtain ⟨_, o, ho, _⟩ := I.ok.funs.mem hb
  exact absurd (Nat.lt_of_lt_of_le (Heap.lt_size ho) (Nat.le_trans I.sz h)) (Nat.lt_irrefl _)
theorem Inv.cne (I : Inv X pins σ H s) : ∀ x c, X.env.cells.lookup x = some c → c ≠ X.env.locals := fun x c e z => by
  obtain ⟨v, o, ho, hd⟩ := I.cell x c e
  obtain ⟨m, ⟨o', es, ep, ho', hd', _⟩, _⟩ := I.loc
  rw [z, ho'] at ho; cases ho; rw [hd'] at hd; cases hd
theorem Inv.funs (I : Inv X pins σ H s) : s.heap.FunFrames X.base X.outer := by
  have all : ∀ (l : List Env), (∀ b ∈ frs l, b ∈ X.fs) → X.s_0.heap.FunFrames X.base l → s.heap.FunFrames X.base l := by
    intro l
    induction l with
    | nil => intro _ _; trivial
    | cons env r ih =>
      intro hs hl
      obtain ⟨hk, ⟨L, o, hf, hn, ho, hd⟩, hr⟩ := hl
      have hL : L ∈ X.fs := hs L (by unfold frs; rw [List.filterMap_cons, hf]; exact List.mem_cons_self)
      obtain ⟨sl, e⟩ := I.base.slot L o ho (I.ok.frf L hL) hL fun z => I.ok.exfs L z hL
      exact ⟨hk, ⟨L, _, hf, hn, e, hd⟩, ih (fun b hb => hs b (by unfold frs; rw [List.filterMap_cons, hf]; exact List.mem_cons_of_mem _ hb)) hr⟩
  exact all X.outer (fun _ hb => hb) I.ok.funs
theorem Inv.stack (I : Inv X pins σ H s) : s.heap.FunFrames X.base X.stack := by
  rcases I.ok.stk with e | ⟨e, hf⟩
  · rw [e]; exact I.funs
  · rw [e]
    obtain ⟨m, hn, _⟩ := I.loc
    refine .cons (by rw [I.ok.kind]; decide) hf hn ?_ I.funs
    exact Heap.get?_none_of_le (Nat.le_trans I.ok.bsz I.ok.above)
theorem Inv.stkSub (I : Inv X pins σ H s) : ∀ b ∈ frs X.stack, b ∈ X.env.locals :: X.fs := fun b hb => by
  rcases I.ok.stk with e | ⟨e, hf⟩
  · rw [e] at hb; exact List.mem_cons_of_mem _ hb
  · rw [e] at hb
    unfold frs at hb
    rw [List.filterMap_cons, hf] at hb
    exact hb
theorem Inv.stkFree (I : Inv X pins σ H s) : ∀ b ∈ frs X.stack, H b = none := fun b hb => by
  rcases List.mem_cons.mp (I.stkSub b hb) with e | hb
  · rw [e]; exact I.free
  · obtain ⟨_, o, ho, _⟩ := I.ok.funs.mem hb
    exact I.base.free b o ho (I.ok.frf b hb) fun z => I.ok.exfs b z hb
theorem Inv.step {g' : Array GenState} {t' : Nat} {d' : Drawn} {ch : List Addr} (I : Inv X pins σ H s)
    (hch : ∀ b ∈ ch, (b ∈ X.ex ∨ X.s_0.heap.objs.size ≤ b) ∧ b ≠ X.env.locals ∧ (∀ x c, X.env.cells.lookup x = some c → c ≠ b) ∧ ∀ p ∈ X.pn ++ pins, p.1 ≠ b)
    (keep : ∀ b o, b ≠ X.env.locals → b ∉ X.fs → b ∉ ch → s.heap.get? b = some o → H b = none → h'.get? b = some o)
    (slot : ∀ b o, b ≠ X.env.locals → b ∈ X.fs → b ∉ ch → s.heap.get? b = some o → H b = none → ∃ sl, h'.get? b = some { o with slots := sl }) (free : ∀ b o, b ∉ ch → s.heap.get? b = some o → H b = none → H' b = none)
    (there : ∀ b o, b ∉ ch → s.heap.get? b = some o → ∃ o', h'.get? b = some o')
    (tups : ∀ b xs, H b = some (.tup xs) → H' b = some (.tup xs)) (frzs : ∀ b o u, H b = some (.frz o u) → H' b = some (.frz o u)) (tbls : ∀ b ps, H b = some (.tbl ps) → ∃ more, H' b = some (.tbl (ps ++ more)))
    (ns : ∀ m, s.heap.Ns X.env.locals m → h'.Ns X.env.locals m) (hok : HOk X.prog X.w H' h') (hg : AllBare g') :
    Inv X pins σ H' { s with heap := h', gens := g', drawn := d', toks := t' } := by
  have neL : ∀ b o, X.s_0.heap.get? b = some o → b ≠ X.env.locals := fun b o e => Nat.ne_of_lt (Nat.lt_of_lt_of_le (Heap.lt_size e) I.ok.above)
  have neC : ∀ b o, X.s_0.heap.get? b = some o → b ∉ X.ex → b ∉ ch := fun b o e hx hb => by
    rcases (hch b hb).1 with z | z
    · exact hx z
    · exact absurd (Nat.lt_of_lt_of_le (Heap.lt_size e) z) (Nat.lt_irrefl _)
  have cellK : ∀ x c, X.env.cells.lookup x = some c → ∀ v, s.heap.IsCell c v → h'.IsCell c v := fun x c e v ⟨o, ho, hd⟩ => by
    have nch : c ∉ ch := fun z => (hch c z).2.2.1 x c e rfl
    by_cases hc : c ∈ X.fs
    · obtain ⟨sl, q⟩ := slot c o (I.cne x c e) hc nch ho (I.freeC x c e)
      exact ⟨_, q, hd⟩
    · exact ⟨o, keep c o (I.cne x c e) hc nch ho (I.freeC x c e), hd⟩
  refine ⟨I.ok, I.os, hg, ⟨fun b o e n hb hx => ?_, fun b o e n hb hx => ?_, fun b o e n hx => ?_, fun b o e hx => ?_, fun b xs e => tups b xs (I.base.tups b xs e), fun b o xs e => frzs b o xs (I.base.frzs b o xs e), fun b ps e => ?_⟩, ?_, fun x c e => ?_, ?_, fun x c e => ?_, fun p hp => ?_, hok, I.len⟩
  · exact keep b o (neL b o e) hb (neC b o e hx) (I.base.keep b o e n hb hx) (I.base.free b o e n hx)
  · obtain ⟨sl, e1⟩ := I.base.slot b o e n hb hx
    obtain ⟨sl', e2⟩ := slot b _ (neL b o e) hb (neC b o e hx) e1 (I.base.free b o e n hx)
    exact ⟨sl', e2⟩
  · obtain ⟨o', e1⟩ := I.base.there b o e hx
    exact free b o' (neC b o e hx) e1 (I.base.free b o e n hx)
  · obtain ⟨o', e1⟩ := I.base.there b o e hx
    exact there b o' (neC b o e hx) e1
  · obtain ⟨m1, e1⟩ := I.base.tbls b ps e
    obtain ⟨m2, e2⟩ := tbls b _ e1
    exact ⟨m1 ++ m2, by rw [e2, Array.append_assoc]⟩
  · obtain ⟨m, hn, hl⟩ := I.loc
    refine ⟨m, ns m hn, fun i x v e1 e2 e3 => ?_⟩
    obtain ⟨u, r, l⟩ := hl i x v e1 e2 e3
    refine ⟨u, r, ?_⟩
    rcases l with l | ⟨k, c, e, z⟩
    · exact .inl l
    · exact .inr ⟨k, c, e, cellK x c e _ z⟩
  · obtain ⟨v, z⟩ := I.cell x c e
    exact ⟨v, cellK x c e v z⟩
  · obtain ⟨m, ⟨o, _, _, ho, _⟩, _⟩ := I.loc
    exact free _ o (fun z => (hch _ z).2.1 rfl) ho I.free
  · obtain ⟨v, o, ho, hd⟩ := I.cell x c e
    exact free c o (fun z => (hch c z).2.2.1 x c e rfl) ho (I.freeC x c e)
  · obtain ⟨e, n, ne, nf, d⟩ := I.pin p hp
    have nch : p.1 ∉ ch := fun z => (hch p.1 z).2.2.2 p hp rfl
    exact ⟨keep p.1 p.2 ne nf nch e n, free p.1 p.2 nch e n, ne, nf, d⟩
theorem Inv.un {t' : Nat} (I : Inv X pins σ H s) (u : Un X.fs [] H H' s.heap h') (hok : HOk X.prog X.w H' h') : Inv X pins σ H' { s with heap := h', toks := t' } := by
  obtain ⟨m, ⟨o, es, ep, ho, r⟩, _⟩ := id I.loc
  obtain ⟨sl, hL⟩ := u.any ho I.free (by simp)
  exact I.step (g' := s.gens) (d' := s.drawn) (ch := []) (fun _ z => nomatch z) (fun b o _ hb _ e n => u.keep b o e n hb (by simp)) (fun b o _ hb _ e n => u.slot b o e n hb (by simp)) (fun b o _ e n => u.free b o e n (by simp)) (fun b o _ e => u.there b o e (by simp)) u.tups u.frzs u.tbls (fun m' hm => by
    obtain ⟨o', es', ep', ho', r'⟩ := hm
    rw [ho] at ho'; cases ho'
    exact ⟨_, es', ep', hL, r'⟩) hok I.bare
theorem Inv.call {g' : Array GenState} {t' : Nat} {d' : Drawn} {ch : List Addr} (I : Inv X pins σ H s) (u : Un (frs X.stack) ch H H' s.heap h') (hok : HOk X.prog X.w H' h') (hg : AllBare g')
    (hch : ∀ b ∈ ch, (b ∈ X.ex ∨ X.s_0.heap.objs.size ≤ b) ∧ b ≠ X.env.locals ∧ (∀ x c, X.env.cells.lookup x = some c → c ≠ b) ∧ ∀ p ∈ X.pn ++ pins, p.1 ≠ b) :
    Inv X pins σ H' { s with heap := h', gens := g', drawn := d', toks := t' } := by
  obtain ⟨m, ⟨o, es, ep, ho, r⟩, _⟩ := id I.loc
  obtain ⟨sl, hL⟩ := u.any ho I.free fun z => (hch _ z).2.1 rfl
  exact I.step (ch := ch) hch (fun b o hL hb hc e n => u.keep b o e n (fun z => (List.mem_cons.mp (I.stkSub b z)).elim hL hb) hc) (fun b o _ _ hc e n => u.any e n hc) (fun b o hc e n => u.free b o e n hc) (fun b o hc e => u.there b o e hc) u.tups u.frzs u.tbls (fun m' hm => by
    obtain ⟨o', es', ep', ho', r'⟩ := hm
    rw [ho] at ho'; cases ho'
    exact ⟨_, es', ep', hL, r'⟩) hok hg
theorem Inv.turned {t' : Nat} {it : Addr} (I : Inv X pins σ H s) (k : ∀ b o, b ≠ it → s.heap.get? b = some o → h'.get? b = some o) (hn : H it = none) (hL : it ≠ X.env.locals)
    (h1 : it ∈ X.ex ∨ X.s_0.heap.objs.size ≤ it) (h2 : ∀ x c, X.env.cells.lookup x = some c → c ≠ it) (h3 : ∀ p ∈ X.pn ++ pins, p.1 ≠ it) : Inv X pins σ H { s with heap := h', toks := t' } := by
  have nit : ∀ b u, H b = some u → b ≠ it := fun b u e z => by rw [z, hn] at e; cases e
  refine I.step (g' := s.gens) (d' := s.drawn) (ch := [it]) (fun b hb => ?_) (fun b o _ _ hc e _ => k b o (fun z => hc (by simp [z])) e) (fun b o _ _ hc e _ => ⟨o.slots, k b o (fun z => hc (by simp [z])) e⟩) (fun _ _ _ _ n => n)
    (fun b o hc e => ⟨o, k b o (fun z => hc (by simp [z])) e⟩) (fun _ _ e => e) (fun _ _ _ e => e) (fun b ps e => ⟨#[], by rw [e]; simp⟩) (fun m hm => ?_) (fun b u e => ?_) I.bare
  · have e : b = it := by simpa using hb
    subst e
    exact ⟨h1, hL, h2, h3⟩
  · obtain ⟨o, es, ep, ho, r⟩ := hm
    exact ⟨o, es, ep, k _ o (Ne.symm hL) ho, r⟩
  · refine (I.hok b u e).stay (fun c v hc q => k c v ?_ q) (fun _ q => q) fun _ _ q => q
    rcases hc with z | z
    · rw [z]; exact nit b u e
    · exact nit c _ z
theorem Inv.tok (I : Inv X pins σ H s) (t : Nat) : Inv X pins σ H { s with toks := t } := I.un (h' := s.heap) (t' := t) Un.refl I.hok
theorem Inv.kept {t' : Nat} (I : Inv X pins σ H s) (k : ∀ b u, s.heap.get? b = some u → h'.get? b = some u) : Inv X pins σ H { s with heap := h', toks := t' } := I.un (Un.kept k) (I.hok.kept k)
theorem Inv.laid {a : Addr} {o : HO} {t' : Nat} (I : Inv X pins σ H s) (k : ∀ b u, s.heap.get? b = some u → h'.get? b = some u) (hp : s.heap.objs.size ≤ a) (new : ObjOk X.prog X.w (upd H a o) h' a o) :
    Inv X pins σ (upd H a o) { s with heap := h', toks := t' } := I.un (Un.laid k hp (I.hok.fresh hp)) (I.hok.laid k hp new)
theorem Inv.write {x e : Addr} {o : HO} {t' : Nat} (I : Inv X pins σ H s) (mu : Mut (H x)) (he : e = x ∨ H e = some (.own x)) (k : ∀ b u, b ≠ e → s.heap.get? b = some u → h'.get? b = some u) (heo : ∃ u, h'.get? e = some u)
    (new : ObjOk X.prog X.w (upd H x o) h' x o) : Inv X pins σ (upd H x o) { s with heap := h', toks := t' } := I.un (Un.write mu he k heo) (I.hok.write mu he k heo new)
theorem Inv.weak {σ' : List (Option V)} (I : Inv X pins σ H s) (hl : σ'.length = σ.length) (w : ∀ (i : Nat) v, σ'[i]? = some (some v) → σ[i]? = some (some v)) : Inv X pins σ' H s :=
  ⟨I.ok, I.os, I.bare, I.base, let ⟨m, hn, hl'⟩ := I.loc; ⟨m, hn, fun i x v e1 e2 e3 => hl' i x v e1 (w i v e2) e3⟩, I.cell, I.free, I.freeC, I.pin, I.hok, hl.trans I.len⟩
theorem Inv.pins_of {pins' : List (Addr × Obj)} (I : Inv X pins σ H s) (h : ∀ p ∈ pins', s.heap.get? p.1 = some p.2 ∧ H p.1 = none ∧ p.1 ≠ X.env.locals ∧ p.1 ∉ X.fs ∧ ∀ v, p.2.data ≠ .cell v) : Inv X pins' σ H s :=
  ⟨I.ok, I.os, I.bare, I.base, I.loc, I.cell, I.free, I.freeC, fun p hp => (List.mem_append.mp hp).elim (fun z => I.pin p (List.mem_append_left _ z)) (h p), I.hok, I.len⟩
theorem nodup_ix {N : List Str} (hN : N.Nodup) {i j : Nat} {x : Str} (a : N[i]? = some x) (b : N[j]? = some x) : i = j := by
  obtain ⟨h1, e1⟩ := List.getElem?_eq_some_iff.mp a
  obtain ⟨h2, e2⟩ := List.getElem?_eq_some_iff.mp b
  exact (List.getElem_inj hN).mp (e1.trans e2.symm)
theorem store_ok2 {M : Model} {A : Around} {E : Value → Shared → Prop} {i : Nat} {x : Str} {v : V} {u : Value} {Q : Unit → Shared → Prop} (I : Inv X pins σ H s) (hN : X.N.Nodup) (hi : X.N[i]? = some x) (hx : Loc X.env.scope x) (r : RelV v u)
    (h : ∀ s', Inv X pins (σ.set i (some v)) H s' → (∃ a, Heap.SameBut a s.heap s'.heap ∧ (a = X.env.locals ∨ X.env.cells.lookup x = some a)) → Q () s') (hf : X.fn x = true ∨ X.env.scope.names.lookup x = some .local := by first | exact .inl rfl | exact .inr rfl | assumption) : wpAny M A (storeName X.env x u) Q E s := by
  obtain ⟨m, hn, hl⟩ := id I.loc
  have hcls : (X.env.scope.kind == .class || (X.env.scope.kind == .module && X.env.locals != X.env.globals)) = false := by rw [I.ok.kind]; rfl
  have hiσ : i < σ.length := by rw [I.len]; exact (List.getElem?_eq_some_iff.mp hi).1
  have cne := I.cne
  have tracked : ∀ {a : Addr} {h' : Heap}, (∃ o, s.heap.get? a = some o ∧ H a = none) → Heap.SameBut a s.heap h' → HOk X.prog X.w H h' := fun {a h'} ha hs b ob e => by
    obtain ⟨_, _, hfree⟩ := ha
    refine (I.hok b ob e).stay (fun c w' hc q => (hs.2 c ?_).trans q) (fun _ q => q) fun _ _ q => q
    rintro rfl
    rcases hc with rfl | hc
    · rw [hfree] at e; cases e
    · rw [hfree] at hc; cases hc
  rcases hx with hk | hk
  · refine wpAny_storeName_local hk hn (fun h' hn' hs => ?_) hcls
    obtain ⟨oL, _, _, hoL, _⟩ := id hn
    refine h _ ⟨I.ok, I.os, I.bare, ⟨fun b o e n hb hx => ?_, fun b o e n hb hx => ?_, I.base.free, fun b o e hx => ?_, I.base.tups, I.base.frzs, I.base.tbls⟩, ⟨_, hn', fun j y v' e1 e2 e3 => ?_⟩, fun y c e => ?_, I.free, I.freeC, fun p hp => ?_, tracked ⟨oL, hoL, I.free⟩ hs, by simpa using I.len⟩ ⟨_, hs, .inl rfl⟩
    · exact (hs.2 b (Nat.ne_of_lt (Nat.lt_of_lt_of_le (Heap.lt_size e) I.ok.above))).trans (I.base.keep b o e n hb hx)
    · obtain ⟨sl, e1⟩ := I.base.slot b o e n hb hx
      exact ⟨sl, (hs.2 b (Nat.ne_of_lt (Nat.lt_of_lt_of_le (Heap.lt_size e) I.ok.above))).trans e1⟩
    · obtain ⟨o', e1⟩ := I.base.there b o e hx
      exact ⟨o', (hs.2 b (Nat.ne_of_lt (Nat.lt_of_lt_of_le (Heap.lt_size e) I.ok.above))).trans e1⟩
    · by_cases hj : j = i
      · subst hj
        rw [hi] at e1; cases e1
        rw [List.getElem?_set_self hiσ] at e2
        cases e2
        exact ⟨u, r, .inl ⟨hk, by simp⟩⟩
      · rw [List.getElem?_set_ne (Ne.symm hj)] at e2
        obtain ⟨u', r', q⟩ := hl j y v' e1 e2 e3
        refine ⟨u', r', ?_⟩
        rcases q with ⟨k, e⟩ | ⟨k, c, e, z⟩
        · refine .inl ⟨k, ?_⟩
          have : y ≠ x := fun e => hj (nodup_ix hN e1 (e ▸ hi))
          simp [this, e]
        · exact .inr ⟨k, c, e, z.sameBut hs (cne y c e)⟩
    · obtain ⟨w', z⟩ := I.cell y c e
      exact ⟨w', z.sameBut hs (cne y c e)⟩
    · obtain ⟨e, n, ne, nf, d⟩ := I.pin p hp
      exact ⟨(hs.2 p.1 ne).trans e, n, ne, nf, d⟩
  · have hfn : X.fn x = true := by
      rcases hf with z | z
      · exact z
      · rw [z] at hk; cases hk
    obtain ⟨c, hc⟩ := I.ok.has x (.inl hk)
    obtain ⟨w', z⟩ := I.cell x c hc
    refine wpAny_storeName_cell I.ok.kind hk hc z (fun h' hc' hs => ?_)
    obtain ⟨oc, hoc, hocd⟩ := id z
    refine h { s with heap := h' } ⟨I.ok, I.os, I.bare, ⟨fun b o e n hb hx => ?_, fun b o e n hb hx => ?_, I.base.free, fun b o e hx => ?_, I.base.tups, I.base.frzs, I.base.tbls⟩, ⟨m, hn.sameBut hs (Ne.symm (cne x c hc)), fun j y v' e1 e2 e3 => ?_⟩, fun y c' e => ?_, I.free, I.freeC, fun p hp => ?_, tracked ⟨oc, hoc, I.freeC x c hc⟩ hs, by simpa using I.len⟩ ⟨c, hs, .inr hc⟩
    · exact (hs.2 b (Nat.ne_of_lt (Nat.lt_of_lt_of_le (Heap.lt_size e) (I.ok.cab x c hfn hc)))).trans (I.base.keep b o e n hb hx)
    · obtain ⟨sl, e1⟩ := I.base.slot b o e n hb hx
      exact ⟨sl, (hs.2 b (Nat.ne_of_lt (Nat.lt_of_lt_of_le (Heap.lt_size e) (I.ok.cab x c hfn hc)))).trans e1⟩
    · obtain ⟨o', e1⟩ := I.base.there b o e hx
      exact ⟨o', (hs.2 b (Nat.ne_of_lt (Nat.lt_of_lt_of_le (Heap.lt_size e) (I.ok.cab x c hfn hc)))).trans e1⟩
    · by_cases hj : j = i
      · subst hj
        rw [hi] at e1; cases e1
        rw [List.getElem?_set_self hiσ] at e2
        cases e2
        exact ⟨u, r, .inr ⟨.inl hk, c, hc, hc'⟩⟩
      · rw [List.getElem?_set_ne (Ne.symm hj)] at e2
        obtain ⟨u', r', q⟩ := hl j y v' e1 e2 e3
        refine ⟨u', r', ?_⟩
        rcases q with q | ⟨k, c', e, z'⟩
        · exact .inl q
        · refine .inr ⟨k, c', e, z'.sameBut hs ?_⟩
          rintro rfl
          exact hj (nodup_ix hN e1 (I.ok.inj _ _ _ e hc ▸ hi))
    · by_cases hcc : c' = c
      · subst hcc; exact ⟨_, hc'⟩
      · obtain ⟨w2, z2⟩ := I.cell y c' e
        exact ⟨w2, z2.sameBut hs hcc⟩
    · obtain ⟨e, n, ne, nf, d⟩ := I.pin p hp
      refine ⟨(hs.2 p.1 ?_).trans e, n, ne, nf, d⟩
      intro q
      rw [q, hoc] at e
      have q' : oc = p.2 := Option.some.inj e
      exact d w' (by rw [← q']; exact hocd)
theorem store_ok {M : Model} {A : Around} {E : Value → Shared → Prop} {i : Nat} {x : Str} {v : V} {u : Value} {Q : Unit → Shared → Prop} (I : Inv X pins σ H s) (hN : X.N.Nodup) (hi : X.N[i]? = some x) (hx : Loc X.env.scope x) (r : RelV v u)
    (h : ∀ s', Inv X pins (σ.set i (some v)) H s' → Q () s') (hf : X.fn x = true ∨ X.env.scope.names.lookup x = some .local := by first | exact .inl rfl | exact .inr rfl | assumption) : wpAny M A (storeName X.env x u) Q E s :=
  store_ok2 I hN hi hx r (fun s' I' _ => h s' I') hf
theorem Inv.call' {s' : Shared} {ch : List Addr} (I : Inv X pins σ H s) (ho : s'.os = s.os) (u : Un (frs X.stack) ch H H' s.heap s'.heap) (hok : HOk X.prog X.w H' s'.heap) (hg : AllBare s'.gens)
    (hch : ∀ b ∈ ch, (b ∈ X.ex ∨ X.s_0.heap.objs.size ≤ b) ∧ b ≠ X.env.locals ∧ (∀ x c, X.env.cells.lookup x = some c → c ≠ b) ∧ ∀ p ∈ X.pn ++ pins, p.1 ≠ b) : Inv X pins σ H' s' := by
  obtain ⟨h', g', d', t', o'⟩ := s'
  have e : o' = s.os := ho
  subst e
  exact I.call (g' := g') (t' := t') (d' := d') u hok hg hch
end
abbrev XK := Value → Option Addr → Hp → Prop
abbrev St := List (Option V)
abbrev VK := V → Hp → Prop
abbrev TE := St → Hp → VK → Prop
abbrev TT := St → Hp → (Bool → Hp → Prop) → Prop
abbrev TA := St → Hp → (List V → Hp → Prop) → Prop
structure Ends where
  nx : St → Hp → Prop
  rt : VK
  bk : St → Hp → Prop := fun _ _ => False
  ct : St → Hp → Prop := fun _ _ => False
abbrev TS := Ends → St → Hp → Prop
def EP (X : Cx) (pins : List (Addr × Obj)) (σ : St) (Q : VK) (u : Value) (s' : Shared) : Prop := ∃ v H', Inv X pins σ H' s' ∧ RelV v u ∧ Q v H'
def TP (X : Cx) (pins : List (Addr × Obj)) (σ : St) (Q : Bool → Hp → Prop) (b : Bool) (s' : Shared) : Prop := ∃ H', Inv X pins σ H' s' ∧ Q b H'
def AP (X : Cx) (pins : List (Addr × Obj)) (σ : St) (Q : List V → Hp → Prop) (us : List Value) (s' : Shared) : Prop := ∃ vs H', Inv X pins σ H' s' ∧ Vals vs us ∧ Q vs H'
def SP (X : Cx) (pins : List (Addr × Obj)) (D : Ends) (f : Flow) (s' : Shared) : Prop :=
  match f with
  | .next => ∃ σ' H', Inv X pins σ' H' s' ∧ D.nx σ' H'
  | .brk => ∃ σ' H', Inv X pins σ' H' s' ∧ D.bk σ' H'
  | .cont => ∃ σ' H', Inv X pins σ' H' s' ∧ D.ct σ' H'
  | .ret u => ∃ v σ' H', Inv X pins σ' H' s' ∧ RelV v u ∧ D.rt v H'
def PE (X : Cx) (e : Expr) (t : TE) : Prop :=
  ∀ (pins : List (Addr × Obj)) (s : Shared) (σ : St) (H : Hp) (Q : VK), Inv X pins σ H s → t σ H Q → wpAny (model X.prog X.w) X.A (eval e X.env) (EP X pins σ Q) X.xe s
def PT (X : Cx) (e : Expr) (t : TT) : Prop :=
  ∀ (pins : List (Addr × Obj)) (s : Shared) (σ : St) (H : Hp) (Q : Bool → Hp → Prop), Inv X pins σ H s → t σ H Q → wpAny (model X.prog X.w) X.A (isTrue e X.env (eval e X.env)) (TP X pins σ Q) X.xe s
def PW (X : Cx) (e : Expr) (t : TT) : Prop :=
  ∀ (whole : Sem Value) (pins : List (Addr × Obj)) (s : Shared) (σ : St) (H : Hp) (Q : Bool → Hp → Prop), Inv X pins σ H s → t σ H Q → wpAny (model X.prog X.w) X.A (isTrue e X.env whole) (TP X pins σ Q) X.xe s
theorem PW.pt {X : Cx} {e : Expr} {t : TT} (h : PW X e t) : PT X e t := h _
def PA (X : Cx) (es : List Expr) (t : TA) : Prop :=
  ∀ (pos : Pos) (pins : List (Addr × Obj)) (s : Shared) (σ : St) (H : Hp) (Q : List V → Hp → Prop), Inv X pins σ H s → t σ H Q → wpAny (model X.prog X.w) X.A (spliced (backTo pos (starEach es X.env))) (AP X pins σ Q) X.xe s
def PS (X : Cx) (st : Stmt) (t : TS) : Prop :=
  ∀ (pins : List (Addr × Obj)) (s : Shared) (σ : St) (H : Hp) (D : Ends), Inv X pins σ H s → t D σ H → wpAny (model X.prog X.w) X.A (exec st X.env) (SP X pins D) X.xe s
def PSs (X : Cx) (st : List Stmt) (t : TS) : Prop :=
  ∀ (pins : List (Addr × Obj)) (s : Shared) (σ : St) (H : Hp) (D : Ends), Inv X pins σ H s → t D σ H → wpAny (model X.prog X.w) X.A (execs st X.env) (SP X pins D) X.xe s
theorem thn {α : Type} {t : Sem α} {Q Q' : α → Shared → Prop} {M : Model} {A : Around} {E : Value → Shared → Prop} {s : Shared} (h : wpAny M A t Q E s) (hQ : ∀ a s, Q a s → Q' a s) : wpAny M A t Q' E s := wpAny_mono h hQ fun _ _ x => x
end L2
namespace L2
open PySem PySem.Spec PyProof.Rows
section
variable {X : Cx}
def tVar (i : Nat) : TE := fun σ H Q => ∃ v, σ[i]? = some (some v) ∧ Q v H
def tC (v : V) : TE := fun _ H Q => Q v H
theorem pe_var {i : Nat} {x : Str} {pos : Pos} (hN : X.N[i]? = some x) (hv : Vis X.env.scope x) (hd : (x == ("__debug__" : Str)) = false := by decide) (hcd : (x == ("__classdict__" : Str)) = false := by decide) : PE X (.Name x pos) (tVar i) := by
  intro pins s σ H Q I h
  obtain ⟨v, e, h⟩ := h
  obtain ⟨m, hn, hl⟩ := I.loc
  obtain ⟨u, r, l⟩ := hl i x v hN e hv
  have fin : EP X pins σ Q u s := ⟨v, H, I, r, h⟩
  rcases l with ⟨hk, hm⟩ | ⟨hk, c, hc, hcell⟩
  · exact wpAny_Name (wpAny_loadName_local I.ok.kind hk hn hm fin) hd
  · rcases hk with hk | hk
    · exact wpAny_Name (wpAny_loadName_cell I.ok.kind hk hc hcell fin) hd
    · exact wpAny_Name (wpAny_loadName_free I.ok.kind hk hc hcell fin hcd) hd
theorem pe_int {i j pos} : PE X (.Constant (.int i) j pos) (tC (.int i)) := fun _ _ _ H _ I h => wpAny_Constant_int ⟨.int i, H, I.tok _, ⟨_, rfl⟩, h⟩
theorem pe_bl {b j pos} : PE X (.Constant (.bool b) j pos) (tC (.bl b)) := fun _ _ _ H _ I h => Constant_bool ⟨.bl b, H, I, rfl, h⟩
theorem pe_non {j pos} : PE X (.Constant .none j pos) (tC .non) := fun _ _ _ H _ I h => Constant_none ⟨.non, H, I, rfl, h⟩
def Gl (X : Cx) (x : Str) : Prop := X.env.kindOf x = some .globalImplicit
theorem ld_glob {E : Value → Shared → Prop} {pins : List (Addr × Obj)} {s : Shared} {σ : St} {H : Hp} {x : Str} {u : Value} {pos : Pos} {Q : Value → Shared → Prop} (I : Inv X pins σ H s) (hg : Gl X x) (hm : X.mg x = some u) (h : Q u s)
    (hd : (x == ("__debug__" : Str)) = false := by decide) : wpAny (model X.prog X.w) X.A (eval (.Name x pos) X.env) Q E s :=
  Calls.Name_function_global I.ok.kind hg (Calls.loadGlobal_global (by rw [I.ok.glob]; exact I.mod.glob.keeps I.bk) hm h) hd
theorem ld_blt {E : Value → Shared → Prop} {pins : List (Addr × Obj)} {s : Shared} {σ : St} {H : Hp} {x : Str} {u : Value} {pos : Pos} {Q : Value → Shared → Prop} (I : Inv X pins σ H s) (hg : Gl X x) (hm : X.mg x = none) (hv : bootBuiltins x = some u) (h : Q u s)
    (hn : x ≠ "__name__" := by decide) (hd : (x == ("__debug__" : Str)) = false := by decide) : wpAny (model X.prog X.w) X.A (eval (.Name x pos) X.env) Q E s := by
  obtain ⟨mb, h1, h2⟩ := I.mod.blt
  exact Calls.Name_function_global I.ok.kind hg (Calls.loadGlobal_builtin (by rw [I.ok.glob]; exact I.mod.glob.keeps I.bk) hm (by rw [I.ok.blt]; exact h1.keeps I.bk) ((h2 x hn).trans hv) h) hd
theorem pe_glob {x : Str} {v : V} {u : Value} {pos : Pos} (hg : Gl X x) (hm : X.mg x = some u) (r : RelV v u) (hd : (x == ("__debug__" : Str)) = false := by decide) : PE X (.Name x pos) (tC v) :=
  fun _ _ _ H _ I h => ld_glob I hg hm ⟨v, H, I, r, h⟩ hd
variable {a b : Expr} {ta tb : TE} {pos : Pos}
def tB (t : TE) : TT := fun σ H Q => t σ H fun x H1 => ∃ c, x = .bl c ∧ Q c H1
theorem pt_val {e : Expr} {t : TE} (h : PE X e t) (he : ∀ whole, isTrue e X.env whole = (do let v ← whole; standAt e.pos; holding [v] (truthy v)) := by intro _; rfl) : PT X e (tB t) := by
  intro pins s σ H Q I hw
  refine isTrue_plain (thn (h pins s σ H _ I hw) fun v s1 ⟨x, H1, I1, r1, q1⟩ => ?_) (he _)
  obtain ⟨d, rfl, q⟩ := q1
  cases r1
  exact wpAny_truthy_bool ⟨H1, I1, q⟩
variable {tA tB' : TT} {rest : List Expr}
def tAnd (t u : TT) : TT := fun σ H Q => t σ H fun c H1 => if c = true then u σ H1 Q else Q false H1
def tOr (t u : TT) : TT := fun σ H Q => t σ H fun c H1 => if c = true then Q true H1 else u σ H1 Q
def tNot (t : TT) : TT := fun σ H Q => t σ H fun c H1 => Q (!c) H1
theorem pw_and1 (ha : PT X a tA) : PW X (.BoolOp .And [a] pos) tA := by
  intro wh pins s σ H Q I h
  refine isTrue_and (thn (ha pins s σ H Q I h) fun c s1 e => ?_)
  cases c with
  | true => exact isTrue_and_nil e
  | false => exact e
theorem pw_or1 (ha : PT X a tA) : PW X (.BoolOp .Or [a] pos) tA := by
  intro wh pins s σ H Q I h
  refine isTrue_or (thn (ha pins s σ H Q I h) fun c s1 e => ?_)
  cases c with
  | false => exact isTrue_or_nil e
  | true => exact e
theorem pw_and (ha : PT X a tA) (hb : PW X (.BoolOp .And (b :: rest) pos) tB') : PW X (.BoolOp .And (a :: b :: rest) pos) (tAnd tA tB') := by
  intro wh pins s σ H Q I h
  refine isTrue_and (thn (ha pins s σ H _ I h) fun c s1 ⟨H1, I1, q1⟩ => ?_)
  cases c with
  | true => exact hb wh pins s1 σ H1 Q I1 q1
  | false => exact ⟨H1, I1, q1⟩
theorem pw_or (ha : PT X a tA) (hb : PW X (.BoolOp .Or (b :: rest) pos) tB') : PW X (.BoolOp .Or (a :: b :: rest) pos) (tOr tA tB') := by
  intro wh pins s σ H Q I h
  refine isTrue_or (thn (ha pins s σ H _ I h) fun c s1 ⟨H1, I1, q1⟩ => ?_)
  cases c with
  | true => exact ⟨H1, I1, q1⟩
  | false => exact hb wh pins s1 σ H1 Q I1 q1
theorem pt_not (ha : PT X a tA) : PT X (.UnaryOp .Not a pos) (tNot tA) := by
  intro pins s σ H Q I h
  exact isTrue_not (ha pins s σ H (fun c H1 => Q (!c) H1) I h)
def tAndV (ta tb : TE) : TE := fun σ H Q => ta σ H fun x H1 => ∃ c, x = .bl c ∧ if c = true then tb σ H1 Q else Q (.bl false) H1
def tOrV (ta tb : TE) : TE := fun σ H Q => ta σ H fun x H1 => ∃ c, x = .bl c ∧ if c = true then Q (.bl true) H1 else tb σ H1 Q
theorem pe_one {op} {t : TE} (h : PE X a t) : PE X (.BoolOp op [a] pos) t := fun pins s σ H Q I hw => BoolOp_one (h pins s σ H Q I hw)
theorem pe_and (ha : PE X a ta) (hb : PE X (.BoolOp .And (b :: rest) pos) tb) : PE X (.BoolOp .And (a :: b :: rest) pos) (tAndV ta tb) := by
  intro pins s σ H Q I h
  refine BoolOp_and (thn (ha pins s σ H _ I h) fun v s1 ⟨x, H1, I1, r1, q1⟩ => ?_)
  obtain ⟨c, rfl, q1⟩ := q1
  cases r1
  refine wpAny_truthy_bool ?_
  cases c with
  | true => exact hb pins s1 σ H1 Q I1 q1
  | false => exact ⟨.bl false, H1, I1, rfl, q1⟩
theorem pe_or (ha : PE X a ta) (hb : PE X (.BoolOp .Or (b :: rest) pos) tb) : PE X (.BoolOp .Or (a :: b :: rest) pos) (tOrV ta tb) := by
  intro pins s σ H Q I h
  refine BoolOp_or (thn (ha pins s σ H _ I h) fun v s1 ⟨x, H1, I1, r1, q1⟩ => ?_)
  obtain ⟨c, rfl, q1⟩ := q1
  cases r1
  refine wpAny_truthy_bool ?_
  cases c with
  | false => exact hb pins s1 σ H1 Q I1 q1
  | true => exact ⟨.bl true, H1, I1, rfl, q1⟩
def tIf (t : TT) (ta tb : TE) : TE := fun σ H Q => t σ H fun c H1 => if c = true then ta σ H1 Q else tb σ H1 Q
theorem pe_ifExp {c : Expr} (hc : PT X c tA) (ha : PE X a ta) (hb : PE X b tb) : PE X (.IfExp c a b pos) (tIf tA ta tb) := by
  intro pins s σ H Q I h
  refine wpAny_IfExp (thn (hc pins s σ H _ I h) fun d s1 ⟨H1, I1, q1⟩ => ?_)
  cases d with
  | true => exact ha pins s1 σ H1 Q I1 q1
  | false => exact hb pins s1 σ H1 Q I1 q1
end
end L2
namespace L2
open PySem PySem.Spec PyProof.Rows
def SqL (K : PySem.W.Frag) (H : Hp) (a : Addr) (xs : List V) : Prop :=
  Rd H a (.lst xs) ∨
    ∃ (o : Obj) (its : Array Value) (n : Nat), K.lookup a = some o ∧ o.cls = .type "list" ∧ o.dict = none ∧ o.data = .seq its n ∧ its.size ≤ sizeLine ∧ Vals xs its.toList
def SqT (K : PySem.W.Frag) (H : Hp) (a : Addr) (xs : List V) : Prop :=
  Rd H a (.tup xs) ∨
    ∃ (o : Obj) (its : Array Value) (n : Nat), K.lookup a = some o ∧ o.cls = .type "tuple" ∧ o.data = .seq its n ∧ its.size ≤ sizeLine ∧ Vals xs its.toList
def absV : Value → Option V
  | .none => some .non
  | .bool b => some (.bl b)
  | .int i _ => some (.int i)
  | .str x _ => some (.str x)
  | .bytes b _ => some (.byt b)
  | .float b _ => some (.flt b)
  | .ref a => some (.ref a)
  | .type n => some (.ty n)
  | _ => none
theorem RelV.abs {x : V} {u : Value} (r : RelV x u) : absV u = some x := by
  cases x with
  | non => cases r; rfl
  | bl _ => cases r; rfl
  | int _ => obtain ⟨t, rfl⟩ := r; rfl
  | str _ => obtain ⟨t, rfl⟩ := r; rfl
  | byt _ => obtain ⟨t, rfl⟩ := r; rfl
  | flt _ => obtain ⟨t, rfl⟩ := r; rfl
  | ref _ => cases r; rfl
  | ty _ => cases r; rfl
theorem RelV.inj {x y : V} {u : Value} (r : RelV x u) (q : RelV y u) : x = y := Option.some.inj (r.abs.symm.trans q.abs)
theorem Vals.inj : ∀ {xs ys : List V} {us : List Value}, Vals xs us → Vals ys us → xs = ys
  | _, _, _, .nil, .nil => rfl
  | _, _, _, .cons r t, .cons r' t' => by rw [r.inj r', Vals.inj t t']
section
variable {X : Cx} {pins : List (Addr × Obj)} {σ : St} {H : Hp} {s : Shared} {a : Addr} {xs ys : List V}
theorem SqL.of {K : PySem.W.Frag} (h : H a = some (.lst xs)) : SqL K H a xs := .inl (.inl h)
theorem SqT.of {K : PySem.W.Frag} (h : H a = some (.tup xs)) : SqT K H a xs := .inl (.inl h)
theorem Inv.list (I : Inv X pins σ H s) (h : SqL X.K H a xs) : ∃ its : List Value, Vals xs its ∧ PlainL s.heap a its.toArray ∧ xs.length ≤ sizeLine := by
  rcases h with h | ⟨o, its, n, hk, hc, hd, hs, hz, r⟩
  · obtain ⟨z, its, n, r, e⟩ := h.ok I.hok
    exact ⟨its, r, ⟨_, n, e, rfl, rfl, rfl⟩, z⟩
  · refine ⟨its.toList, r, ⟨o, n, I.kIn a o hk, hc, hd, by simpa using hs⟩, ?_⟩
    have e := r.length
    simp only [Array.length_toList] at e
    omega
theorem Inv.tuple (I : Inv X pins σ H s) (h : SqT X.K H a xs) : ∃ its : List Value, Vals xs its ∧ IsTup s.heap a its.toArray ∧ xs.length ≤ sizeLine := by
  rcases h with h | ⟨o, its, n, hk, hc, hs, hz, r⟩
  · obtain ⟨z, its, r, p⟩ := h.ok I.hok
    exact ⟨its, r, p, z⟩
  · refine ⟨its.toList, r, ⟨o, I.kIn a o hk, hc, n, by simpa using hs⟩, ?_⟩
    have e := r.length
    simp only [Array.length_toList] at e
    omega
theorem Inv.list_inj (I : Inv X pins σ H s) (h : SqL X.K H a xs) (h' : SqL X.K H a ys) : xs = ys := by
  obtain ⟨its, r, ⟨o, n, e, _, _, d⟩, _⟩ := I.list h
  obtain ⟨its', r', ⟨o', n', e', _, _, d'⟩, _⟩ := I.list h'
  rw [e] at e'; cases e'
  rw [d] at d'
  injection d' with d1 _
  have : its = its' := by simpa using congrArg Array.toList d1
  subst this
  exact r.inj r'
theorem Inv.tuple_inj (I : Inv X pins σ H s) (h : SqT X.K H a xs) (h' : SqT X.K H a ys) : xs = ys := by
  obtain ⟨its, r, ⟨o, e, _, n, d⟩, _⟩ := I.tuple h
  obtain ⟨its', r', ⟨o', e', _, n', d'⟩, _⟩ := I.tuple h'
  rw [e] at e'; cases e'
  rw [d] at d'
  injection d' with d1 _
  have : its = its' := by simpa using congrArg Array.toList d1
  subst this
  exact r.inj r'
end
abbrev Cx.wish (X : Cx) (E : Value → Shared → Prop) : Cx := { X with xe := E }
abbrev Cx.nox (X : Cx) : Cx := X.wish fun _ _ => False
theorem Cx.Ok.wish {X : Cx} (ok : X.Ok) (E : Value → Shared → Prop) : (X.wish E).Ok :=
  ⟨ok.mod, ok.kind, ok.glob, ok.blt, ok.above, ok.inj, ok.has, ok.cab, ok.hd, ok.frames, ok.stk, ok.exf, ok.bs, ok.bsz, ok.noex, ok.exfs, ok.funs, ok.frf⟩
theorem Cx.Ok.unwish {X : Cx} {E : Value → Shared → Prop} (ok : (X.wish E).Ok) : X.Ok :=
  ⟨ok.mod, ok.kind, ok.glob, ok.blt, ok.above, ok.inj, ok.has, ok.cab, ok.hd, ok.frames, ok.stk, ok.exf, ok.bs, ok.bsz, ok.noex, ok.exfs, ok.funs, ok.frf⟩
section
variable {X : Cx} {pins : List (Addr × Obj)} {σ : St} {H : Hp} {s : Shared} {E : Value → Shared → Prop}
theorem Inv.wish (I : Inv X pins σ H s) (E : Value → Shared → Prop) : Inv (X.wish E) pins σ H s := ⟨I.ok.wish E, I.os, I.bare, I.base, I.loc, I.cell, I.free, I.freeC, I.pin, I.hok, I.len⟩
theorem Inv.unwish (I : Inv (X.wish E) pins σ H s) : Inv X pins σ H s := ⟨I.ok.unwish, I.os, I.bare, I.base, I.loc, I.cell, I.free, I.freeC, I.pin, I.hok, I.len⟩
theorem SP.unwish {D : Ends} {f : Flow} {s' : Shared} (h : SP (X.wish E) pins D f s') : SP X pins D f s' := by
  cases f with
  | next => obtain ⟨σ', H', I, q⟩ := h; exact ⟨σ', H', I.unwish, q⟩
  | brk => obtain ⟨σ', H', I, q⟩ := h; exact ⟨σ', H', I.unwish, q⟩
  | cont => obtain ⟨σ', H', I, q⟩ := h; exact ⟨σ', H', I.unwish, q⟩
  | ret u => obtain ⟨v, σ', H', I, r, q⟩ := h; exact ⟨v, σ', H', I.unwish, r, q⟩
theorem PSs.nox {st : List Stmt} {t : TS} (h : PSs X.nox st t) : PSs X st t := fun pins s σ H D I hw =>
  wpAny_mono (h pins s σ H D (I.wish _) hw) (fun _ _ q => q.unwish) fun _ _ z => False.elim z
end
section
variable {X : Cx} {st : Stmt} {rest : List Stmt} {t u : TS} {e : Expr} {te : TE} {pos : Pos}
def tNext : TS := fun D σ H => D.nx σ H
def tSeq (t u : TS) : TS := fun D σ H => t { D with nx := u D } σ H
theorem pss_nil : PSs X [] tNext := fun _ _ σ H _ I h => wpAny_execs_nil ⟨σ, H, I, h⟩
theorem pss_cons (h1 : PS X st t) (h2 : PSs X rest u) : PSs X (st :: rest) (tSeq t u) := by
  intro pins s σ H D I h
  refine wpAny_execs_cons (thn (h1 pins s σ H { D with nx := u D } I h) fun f s1 q => ?_)
  cases f with
  | next =>
    obtain ⟨σ', H', I', q⟩ := q
    exact h2 pins s1 σ' H' D I' q
  | ret v => exact q
  | brk => exact q
  | cont => exact q
theorem pss_one (h1 : PS X st t) : PSs X [st] t := by
  intro pins s σ H D I h
  refine wpAny_execs_cons (thn (h1 pins s σ H D I h) fun f s1 q => ?_)
  cases f with
  | next => exact wpAny_execs_nil q
  | ret v => exact q
  | brk => exact q
  | cont => exact q
theorem Inv.quiet {pins : List (Addr × Obj)} {σ : St} {H : Hp} {s : Shared} (I : Inv X pins σ H s) : interactive X.env = false := by simp [interactive, I.ok.kind]
def tDrop (te : TE) : TS := fun D σ H => te σ H fun _ H1 => D.nx σ H1
theorem ps_expr (he : PE X e te) (hs : swapsWith e none pos.line X.env = pure false := by rfl) : PS X (.Expr e pos) (tDrop te) := by
  intro pins s σ H D I h
  exact wpAny_Expr_any (thn (he pins s σ H _ I h) fun v s1 ⟨x, H1, I1, r1, q1⟩ => ⟨σ, H1, I1, q1⟩) I.quiet hs
def tRet (te : TE) : TS := fun D σ H => te σ H D.rt
theorem ps_ret (he : PE X e te) : PS X (.Return (some e) pos) (tRet te) := by
  intro pins s σ H D I h
  exact wpAny_Return_some (thn (he pins s σ H _ I h) fun v s1 ⟨x, H1, I1, r1, q1⟩ => ⟨x, σ, H1, I1, r1, q1⟩)
def tIfS (c : TT) (t u : TS) : TS := fun D σ H => c σ H fun b H1 => if b = true then t D σ H1 else u D σ H1
theorem ps_if {c : Expr} {a b : List Stmt} {tc : TT} (hc : PT X c tc) (ha : PSs X a t) (hb : PSs X b u) : PS X (.If c a b pos) (tIfS tc t u) := by
  intro pins s σ H D I h
  refine wpAny_If (thn (hc pins s σ H _ I h) fun d s1 ⟨H1, I1, q1⟩ => ?_)
  cases d with
  | true => exact ha pins s1 σ H1 D I1 q1
  | false => exact hb pins s1 σ H1 D I1 q1
end
abbrev TG := V → St → Hp → (St → Hp → Prop) → Prop
abbrev TGs := List V → St → Hp → (St → Hp → Prop) → Prop
def PG (X : Cx) (target : Expr) (t : TG) : Prop :=
  ∀ (pins : List (Addr × Obj)) (s : Shared) (σ : St) (H : Hp) (v : V) (u : Value) (Q : St → Hp → Prop), Inv X pins σ H s → RelV v u → t v σ H Q →
    wpAny (model X.prog X.w) X.A (assign target X.env u) (fun _ s' => ∃ σ' H', Inv X pins σ' H' s' ∧ Q σ' H') X.xe s
def PGs (X : Cx) (ts : List Expr) (t : TGs) : Prop :=
  ∀ (pins : List (Addr × Obj)) (s : Shared) (σ : St) (H : Hp) (vs : List V) (us : List Value) (Q : St → Hp → Prop), Inv X pins σ H s → Vals vs us → t vs σ H Q →
    wpAny (model X.prog X.w) X.A (assignInOrder ((assignEach ts X.env).map (·.2)) us) (fun _ s' => ∃ σ' H', Inv X pins σ' H' s' ∧ Q σ' H') X.xe s
abbrev TSet := V → V → V → Hp → (Hp → Prop) → Prop
def PSet (X : Cx) (t : TSet) : Prop :=
  ∀ (pins : List (Addr × Obj)) (s : Shared) (σ : St) (H : Hp) (o i v : V) (ov iv u : Value) (Q : Hp → Prop), Inv X pins σ H s → RelV o ov → RelV i iv → RelV v u → t o i v H Q →
    wpAny (model X.prog X.w) X.A (setItem ov iv u) (fun _ s' => ∃ H', Inv X pins σ H' s' ∧ Q H') X.xe s
abbrev TIp := V → V → Hp → VK → Prop
def PIp (X : Cx) (op : Operator) (t : TIp) : Prop :=
  ∀ (pins : List (Addr × Obj)) (s : Shared) (σ : St) (H : Hp) (x y : V) (v u : Value) (Q : VK), Inv X pins σ H s → RelV x v → RelV y u → t x y H Q →
    wpAny (model X.prog X.w) X.A (inplaceOp op v u) (EP X pins σ Q) X.xe s
section
variable {X : Cx} {pos : Pos}
def gName (i : Nat) : TG := fun v σ H Q => Q (σ.set i (some v)) H
theorem pg_name {i : Nat} {x : Str} (hN : X.N.Nodup) (hi : X.N[i]? = some x) (hx : Loc X.env.scope x) (hf : X.fn x = true ∨ X.env.scope.names.lookup x = some .local := by first | exact .inl rfl | exact .inr rfl | assumption) : PG X (.Name x pos) (gName i) := by
  intro pins s σ H v u Q I r h
  exact wpAny_assign_Name (store_ok I hN hi hx r (fun s' I' => ⟨_, H, I', h⟩) hf)
def gNil : TGs := fun vs σ H Q => vs = [] ∧ Q σ H
def gCons (t : TG) (u : TGs) : TGs := fun vs σ H Q => ∃ v r, vs = v :: r ∧ t v σ H fun σ' H' => u r σ' H' Q
theorem pgs_nil : PGs X [] gNil := by
  intro pins s σ H vs us Q I r h
  obtain ⟨e, h⟩ := h
  subst e
  cases r
  exact assignInOrder_nil ⟨σ, H, I, h⟩
theorem pgs_cons {e : Expr} {es : List Expr} {t : TG} {u : TGs} (h1 : PG X e t) (h2 : PGs X es u)
    (hs : (assignEach (e :: es) X.env).map (·.2) = assign e X.env :: (assignEach es X.env).map (·.2) := by rfl) : PGs X (e :: es) (gCons t u) := by
  intro pins s σ H vs us Q I r h
  obtain ⟨v, vr, e1, h⟩ := h
  subst e1
  cases r with
  | cons r rr =>
    rw [hs]
    refine assignInOrder_cons (thn (h1 pins s σ H _ _ _ I r h) fun _ s1 ⟨σ1, H1, I1, q1⟩ => ?_)
    exact h2 pins s1 σ1 H1 _ _ Q I1 rr q1
def gTup (K : PySem.W.Frag) (n : Nat) (t : TGs) : TG := fun v σ H Q => ∃ a xs, v = .ref a ∧ SqT K H a xs ∧ xs.length = n ∧ t xs σ H Q
theorem pg_tup {es : List Expr} {k : Nat} {t : TGs} {n : Nat} (hc : X.calm = true) (h : PGs X es t)
    (hn : (assignEach es X.env).length = n := by rfl) (hst : (assignEach es X.env).findIdx? (·.1) = none := by rfl) : PG X (.Tuple es k pos) (gTup X.K n t) := by
  intro pins s σ H v u Q I r hw
  obtain ⟨a, xs, e1, hq, hl, hw⟩ := hw
  subst e1
  cases r
  obtain ⟨its, rv, ht, hz⟩ := I.tuple hq
  refine assign_Tuple_tuple (I.ok.hd hc) ht (by simp [hn, ← hl, rv.length]) hst fun h' hx => ?_
  have I1 : Inv X pins σ H { s with heap := h' } := I.kept (t' := s.toks) fun b o e => hx b o (Nat.ne_of_lt (Heap.lt_size e)) e
  exact h pins _ σ H xs _ Q I1 (by simpa using rv) hw
def gSub (to ti : TE) (t : TSet) : TG := fun v σ H Q => to σ H fun o H1 => ti σ H1 fun i H2 => t o i v H2 fun H3 => Q σ H3
theorem pg_sub {o i : Expr} {to ti : TE} {t : TSet} (ho : PE X o to) (hi : PE X i ti) (hs : PSet X t)
    (ha : ∀ v, assign (.Subscript o i pos) X.env v = (do
      let ov ← holding [v] (eval o X.env)
      let iv ← holding [v, ov] (eval i X.env)
      standAt pos
      holding [v, ov, iv] (setItem ov iv v)
      release [v, ov, iv] []) := by intro _; rfl) : PG X (.Subscript o i pos) (gSub to ti t) := by
  intro pins s σ H v u Q I r h
  rw [ha]
  refine wpAny_bind (wpAny_holding (thn (ho pins s σ H _ I h) fun ov s1 ⟨x, H1, I1, r1, q1⟩ => ?_))
  refine wpAny_bind (wpAny_holding (thn (hi pins s1 σ H1 _ I1 q1) fun iv s2 ⟨y, H2, I2, r2, q2⟩ => ?_))
  refine wpAny_bind (wpAny_standAt (wpAny_bind (wpAny_holding (thn (hs pins s2 σ H2 x y v ov iv u _ I2 r1 r2 r q2) fun _ s3 ⟨H3, I3, q3⟩ => ?_))))
  exact wpAny_release ⟨σ, H3, I3, q3⟩
def tAsg (te : TE) (g : TG) : TS := fun D σ H => te σ H fun x H1 => g x σ H1 D.nx
theorem ps_asg {tg e : Expr} {te : TE} {g : TG} (he : PE X e te) (hg : PG X tg g) (hs : swapsWithSole [tg] e pos.line X.env = pure false := by rfl) (hw : swappedStores [tg] e X.env = pure none := by rfl)
    (h1 : (assignEach [tg] X.env).map (·.2) = [assign tg X.env] := by rfl) : PS X (.Assign [tg] e pos) (tAsg te g) := by
  intro pins s σ H D I h
  refine wpAny_Assign_stores (thn (he pins s σ H _ I h) fun v s1 ⟨x, H1, I1, r1, q1⟩ => ?_) hs hw
  rw [h1]
  exact thn (hg pins s1 σ H1 x v _ I1 r1 q1) fun _ s2 q => q
theorem ps_set {i : Nat} {x : Str} {e : Expr} {te : TE} {pos' : Pos} (hN : X.N.Nodup) (hi : X.N[i]? = some x) (hx : Loc X.env.scope x) (he : PE X e te) (hs : swapsWith e (some (.Name x pos')) pos.line X.env = pure false := by rfl) (hf : X.fn x = true ∨ X.env.scope.names.lookup x = some .local := by first | exact .inl rfl | exact .inr rfl | assumption) :
    PS X (.Assign [.Name x pos'] e pos) (tAsg te (gName i)) := by
  intro pins s σ H D I h
  refine wpAny_Assign_Name (thn (he pins s σ H _ I h) fun v s1 ⟨y, H1, I1, r1, q1⟩ => ?_) hs
  exact store_ok I1 hN hi hx r1 (fun s2 I2 => ⟨_, H1, I2, q1⟩) hf
def tAug (i : Nat) (te : TE) (ti : TIp) : TS := fun D σ H => ∃ x, σ[i]? = some (some x) ∧ te σ H fun y H1 => ti x y H1 fun z H2 => D.nx (σ.set i (some z)) H2
theorem ps_aug {i : Nat} {x : Str} {e : Expr} {te : TE} {op : Operator} {ti : TIp} {pos' : Pos} (hN : X.N.Nodup) (hi : X.N[i]? = some x) (hx : Loc X.env.scope x) (he : PE X e te) (ho : PIp X op ti) (hf : X.fn x = true ∨ X.env.scope.names.lookup x = some .local := by first | exact .inl rfl | exact .inr rfl | assumption) :
    PS X (.AugAssign (.Name x pos') op e pos) (tAug i te ti) := by
  intro pins s σ H D I h
  obtain ⟨v, e1, h⟩ := h
  obtain ⟨m, hn, hl⟩ := I.loc
  have vis : Vis X.env.scope x := by rcases hx with k | k; exact .inl k; exact .inr (.inl k)
  obtain ⟨u, r, l⟩ := hl i x v hi e1 vis
  refine wpAny_AugAssign_Name ?_
  have go : wpAny (model X.prog X.w) X.A (eval e X.env) (fun w s₂ => wpAny (model X.prog X.w) X.A (inplaceOp op u w) (fun r s₃ => wpAny (model X.prog X.w) X.A (storeName X.env x r) (fun _ => SP X pins D .next) X.xe s₃) X.xe s₂) X.xe s := by
    refine thn (he pins s σ H _ I h) fun w s1 ⟨y, H1, I1, r1, q1⟩ => ?_
    refine thn (ho pins s1 σ H1 v y u w _ I1 r r1 q1) fun z s2 ⟨zv, H2, I2, r2, q2⟩ => ?_
    exact store_ok I2 hN hi hx r2 (fun s3 I3 => ⟨_, H2, I3, q2⟩) hf
  rcases l with ⟨hk, hm⟩ | ⟨hk, c, hc, hcell⟩
  · exact wpAny_loadName_local I.ok.kind hk hn hm go
  · rcases hk with hk | hk
    · exact wpAny_loadName_cell I.ok.kind hk hc hcell go
    · rcases hx with k | k
      · have : X.env.scope.names.lookup x = some .free := hk
        rw [k] at this; cases this
      · have : X.env.scope.names.lookup x = some .free := hk
        rw [k] at this; cases this
def ipI (f : Int → Int → Int) : TIp := fun x y H Q => ∃ i j, x = .int i ∧ y = .int j ∧ Q (.int (f i j)) H
theorem ip_add : PIp X .Add (ipI fun i j => i + j) := by
  intro pins s σ H x y v u Q I r1 r2 h
  obtain ⟨i, j, e1, e2, q⟩ := h
  subst e1; subst e2
  obtain ⟨t, rfl⟩ := r1
  obtain ⟨t', rfl⟩ := r2
  exact iadd_int ⟨.int _, H, I.tok _, ⟨_, rfl⟩, q⟩
end
section
variable {X : Cx} {pos : Pos}
def tWhile (c : TT) (tb : TS) : TS := fun D σ H => ∃ W : Nat → St → Hp → Prop, (∃ m, W m σ H) ∧ ∀ m σ H, W m σ H →
  c σ H fun b H1 => if b = true then ∃ N : St → Hp → Prop, (∀ σ' H', N σ' H' → ∃ m', m' < m ∧ W m' σ' H') ∧ tb { D with nx := N, ct := N, bk := D.nx } σ H1 else D.nx σ H1
theorem ps_while {c : Expr} {body : List Stmt} {tc : TT} {tb : TS} (hp : PassesOwn (model X.prog X.w) X.A X.env X.xe) (hc : PT X c tc) (hb : PSs X body tb) : PS X (.While c body [] pos) (tWhile tc tb) := by
  intro pins s σ H D I h
  obtain ⟨W, ⟨m0, w0⟩, turn⟩ := h
  refine wpAny_While (codeAny_whileLoop (fun n s' => ∃ σ' H', Inv X pins σ' H' s' ∧ W n σ' H') ?_ m0 ⟨σ, H, I, w0⟩)
  rintro n s1 ⟨σ1, H1, I1, w1⟩
  refine wpAny_passesOwn hp (thn (hc pins s1 σ1 H1 _ I1 (turn n σ1 H1 w1)) fun b s2 ⟨H2, I2, q2⟩ => ?_)
  cases b with
  | true =>
    obtain ⟨N, hN, q2⟩ := q2
    rw [if_pos rfl]
    refine wpAny_passesOwn hp (thn (hb pins s2 σ1 H2 _ I2 q2) fun f s3 q3 => ?_)
    cases f with
    | next =>
      obtain ⟨σ3, H3, I3, n3⟩ := q3
      obtain ⟨m', hm, w3⟩ := hN σ3 H3 n3
      exact ⟨m', hm, σ3, H3, I3, w3⟩
    | cont =>
      obtain ⟨σ3, H3, I3, n3⟩ := q3
      obtain ⟨m', hm, w3⟩ := hN σ3 H3 n3
      exact ⟨m', hm, σ3, H3, I3, w3⟩
    | brk => exact q3
    | ret v => exact q3
  | false =>
    rw [if_neg Bool.false_ne_true]
    exact wpAny_execs_nil ⟨σ1, H2, I2, q2⟩
end
structure It where
  go : Nat → Hp → Prop
  yld : Nat → Hp → V → Hp → Prop
  stop : Nat → Hp → Prop
def FpOk (X : Cx) (pins : List (Addr × Obj)) (H : Hp) (b : Addr) : Prop :=
  H b = none ∧ b ≠ X.env.locals ∧ b ∉ X.fs ∧ (b ∈ X.ex ∨ X.s_0.heap.objs.size ≤ b) ∧ (∀ x c, X.env.cells.lookup x = some c → c ≠ b) ∧ ∀ p ∈ X.pn ++ pins, p.1 ≠ b
theorem Inv.fpOk {X : Cx} {pins : List (Addr × Obj)} {σ : St} {H H' : Hp} {s : Shared} {b : Addr} (I : Inv X pins σ H s) (hb : s.heap.objs.size ≤ b) (hn : H' b = none) : FpOk X pins H' b := by
  refine ⟨hn, Nat.ne_of_gt (Nat.lt_of_lt_of_le I.lt hb), I.nofs hb, .inr (Nat.le_trans I.sz hb), fun x c e z => ?_, fun p hp z => ?_⟩
  · obtain ⟨v, q⟩ := I.cell x c e
    exact absurd (Nat.lt_of_lt_of_le q.lt (by rw [z]; exact hb)) (Nat.lt_irrefl _)
  · exact absurd (Nat.lt_of_lt_of_le (Heap.lt_size (I.pin p hp).1) (by rw [z]; exact hb)) (Nat.lt_irrefl _)
structure Turn (P : Program) (w : World) (K : PySem.W.Frag) (tg : Expr) (J : It) (fp : List Addr) (it : Addr) (tn : Nat → Heap → Prop) : Prop where
  mem : it ∈ fp
  obj : ∀ i h, tn i h → ∀ b ∈ fp, ∃ o, h.get? b = some o ∧ ∀ v, o.data ≠ .cell v
  keep : ∀ i h h', tn i h → (∀ b ∈ fp, ∀ o, h.get? b = some o → h'.get? b = some o) → tn i h'
  item : ∀ (X : Cx), X.prog = P → X.w = w → X.K = K → X.calm = true → ∀ (i : Nat) (pins : List (Addr × Obj)) (s : Shared) (σ : St) (H : Hp) (E : Value → Shared → Prop), Inv X pins σ H s → (∀ b ∈ fp, FpOk X pins H b) → tn i s.heap → J.go i H →
    wpAny (model P w) X.A (pyNext (.ref it)) (fun r s1 => ∃ u, r = some u ∧
      wpAny (model P w) X.A (letOwnedTupleGo tg (.ref it) u) (fun _ s2 => ∃ x H', Inv X pins σ H' s2 ∧ RelV x u ∧ J.yld i H x H' ∧ tn (i + 1) s2.heap ∧ ∀ b ∈ fp, H' b = none) E s1) E s
  done : ∀ (X : Cx), X.prog = P → X.w = w → X.K = K → X.calm = true → ∀ (i : Nat) (pins : List (Addr × Obj)) (s : Shared) (σ : St) (H : Hp) (E : Value → Shared → Prop), Inv X pins σ H s → (∀ b ∈ fp, FpOk X pins H b) → tn i s.heap → J.stop i H →
    wpAny (model P w) X.A (pyNext (.ref it)) (fun r s1 => r = none ∧ Inv X pins σ H s1) E s
  self : ∀ (A : Around) (i : Nat) (s : Shared) (Q : Value → Shared → Prop) (E : Value → Shared → Prop), tn i s.heap → Q (.ref it) s → wpAny (model P w) A (pyIter (.ref it)) Q E s
abbrev TI := St → Hp → (It → Hp → Prop) → Prop
def PIE (X : Cx) (pins : List (Addr × Obj)) (σ : St) (tg : Expr) (R : It → Hp → Prop) (itv : Value) (s2 : Shared) : Prop :=
  ∃ (it : Addr) (fp : List Addr) (tn : Nat → Heap → Prop) (J : It) (H' : Hp), itv = .ref it ∧ Inv X pins σ H' s2 ∧ Turn X.prog X.w X.K tg J fp it tn ∧ tn 0 s2.heap ∧ (∀ b ∈ fp, FpOk X pins H' b) ∧ R J H'
def PI (X : Cx) (tg iter : Expr) (wi : TI) : Prop :=
  ∀ (pins : List (Addr × Obj)) (s : Shared) (σ : St) (H : Hp) (R : It → Hp → Prop), Inv X pins σ H s → wi σ H R →
    wpAny (model X.prog X.w) X.A (eval iter X.env) (fun v s1 => wpAny (model X.prog X.w) X.A (pyIter v) (PIE X pins σ tg R) X.xe s1) X.xe s
theorem go_of {M : Model} {A : Around} {E : Value → Shared → Prop} {s : Shared} {tg : Expr} {it : Addr} {u : Value} {o : Obj} {n : String} {vs : Array Value} {Q : Unit → Shared → Prop} (ho : s.heap.get? it = some o) (hc : o.cls = .type n) (hd : o.data = .fields vs)
    (hn : ["enumerate", "zip", "dict_itemiterator", "dict_reverseitemiterator", "odict_iterator", "itertools.zip_longest", "itertools.pairwise"].contains n = false) (hQ : Q () s) : wpAny M A (letOwnedTupleGo tg (.ref it) u) Q E s := by
  unfold letOwnedTupleGo
  cases tg <;> first
    | exact wpAny_pure hQ
    | (cases u <;> first
        | exact wpAny_pure hQ
        | (refine wpAny_bind (wpAny_load ho ?_)
           rw [hc, hd]
           show wpAny M A (if (["enumerate", "zip", "dict_itemiterator", "dict_reverseitemiterator", "odict_iterator", "itertools.zip_longest", "itertools.pairwise"].contains n && vs[0]? == some (rawInt _)) = true then _ else _) Q E s
           rw [if_neg (by intro h; rw [hn, Bool.false_and] at h; cases h)]
           exact wpAny_pure hQ))
def Itl (K : PySem.W.Frag) (a : Addr) : It :=
  ⟨fun i H => ∃ xs x, SqL K H a xs ∧ xs[i]? = some x, fun i H x H' => H' = H ∧ ∀ xs, SqL K H a xs → xs[i]? = some x, fun i H => ∃ xs, SqL K H a xs ∧ xs.length ≤ i⟩
def Itt (K : PySem.W.Frag) (a : Addr) : It :=
  ⟨fun i H => ∃ xs x, SqT K H a xs ∧ xs[i]? = some x, fun i H x H' => H' = H ∧ ∀ xs, SqT K H a xs → xs[i]? = some x, fun i H => ∃ xs, SqT K H a xs ∧ xs.length ≤ i⟩
def Itr (lo : Int) (n : Nat) : It := ⟨fun i _ => i < n, fun i H x H' => H' = H ∧ x = .int (lo + i), fun i _ => n ≤ i⟩
theorem turn_list {P : Program} {w : World} {K : PySem.W.Frag} {tg : Expr} (a it : Addr) : Turn P w K tg (Itl K a) [it] it (fun i h => h.IsListIter it a i) where
  mem := by simp
  obj := fun i h st b hb => by
    have e : b = it := by simpa using hb
    subst e
    obtain ⟨o, e, c, d⟩ := st
    exact ⟨o, e, fun v z => by rw [d] at z; cases z⟩
  keep := fun i h h' st k => st.at fun o e => k it (by simp) o e
  item := by
    intro X hP hw hK hc i pins s σ H E I hf st hg
    subst hP hw hK
    obtain ⟨xs, x, hq, hx⟩ := hg
    obtain ⟨its, rv, p, hz⟩ := I.list hq
    obtain ⟨u, hu, ru⟩ := rv.get hx
    obtain ⟨f0, f1, f2, f3, f4, f5⟩ := hf it (by simp)
    refine wpAny_pyNext_list_item st p.isList (x := u) (by simpa using hu) fun h' st' sb => ?_
    have I1 : Inv X pins σ H { s with heap := h' } := I.turned (t' := s.toks) (fun b o hb e => (sb.2 b hb).trans e) f0 f1 f3 f4 f5
    obtain ⟨o, e, c, d⟩ := id st'
    exact ⟨u, rfl, go_of (s := { s with heap := h' }) e c d (by decide) ⟨x, H, I1, ru, ⟨rfl, fun ys hy => by rw [I.list_inj hy hq]; exact hx⟩, st', fun b hb => (hf b hb).1⟩⟩
  done := by
    intro X hP hw hK hc i pins s σ H E I hf st hg
    subst hP hw hK
    obtain ⟨xs, hq, hx⟩ := hg
    obtain ⟨its, rv, p, hz⟩ := I.list hq
    obtain ⟨f0, f1, f2, f3, f4, f5⟩ := hf it (by simp)
    have hl := rv.length
    exact wpAny_pyNext_list_end (I.ok.hd hc) st p.isList (by simp; omega) fun h' eb => ⟨rfl, I.turned (t' := s.toks) (fun b o hb e => eb b o hb e) f0 f1 f3 f4 f5⟩
  self := fun _ _ _ _ _ st h => wpAny_pyIter_listiter st h
theorem turn_tuple {P : Program} {w : World} {K : PySem.W.Frag} {tg : Expr} (a it : Addr) : Turn P w K tg (Itt K a) [it] it (fun i h => h.IsTupleIter it a i) where
  mem := by simp
  obj := fun i h st b hb => by
    have e : b = it := by simpa using hb
    subst e
    obtain ⟨o, e, c, d⟩ := st
    exact ⟨o, e, fun v z => by rw [d] at z; cases z⟩
  keep := fun i h h' st k => st.at fun o e => k it (by simp) o e
  item := by
    intro X hP hw hK hc i pins s σ H E I hf st hg
    subst hP hw hK
    obtain ⟨xs, x, hq, hx⟩ := hg
    obtain ⟨its, rv, p, hz⟩ := I.tuple hq
    obtain ⟨u, hu, ru⟩ := rv.get hx
    obtain ⟨f0, f1, f2, f3, f4, f5⟩ := hf it (by simp)
    refine wpAny_pyNext_tuple_item st (show s.heap.IsTuple a its.toArray from p) (x := u) (by simpa using hu) fun h' st' sb => ?_
    have I1 : Inv X pins σ H { s with heap := h' } := I.turned (t' := s.toks) (fun b o hb e => (sb.2 b hb).trans e) f0 f1 f3 f4 f5
    obtain ⟨o, e, c, d⟩ := id st'
    exact ⟨u, rfl, go_of (s := { s with heap := h' }) e c d (by decide) ⟨x, H, I1, ru, ⟨rfl, fun ys hy => by rw [I.tuple_inj hy hq]; exact hx⟩, st', fun b hb => (hf b hb).1⟩⟩
  done := by
    intro X hP hw hK hc i pins s σ H E I hf st hg
    subst hP hw hK
    obtain ⟨xs, hq, hx⟩ := hg
    obtain ⟨its, rv, p, hz⟩ := I.tuple hq
    obtain ⟨f0, f1, f2, f3, f4, f5⟩ := hf it (by simp)
    have hl := rv.length
    exact wpAny_pyNext_tuple_end (I.ok.hd hc) st (show s.heap.IsTuple a its.toArray from p) (by simp; omega) fun h' eb => ⟨rfl, I.turned (t' := s.toks) (fun b o hb e => eb b o hb e) f0 f1 f3 f4 f5⟩
  self := fun _ _ _ _ _ st h => wpAny_pyIter_tupleiter st h
theorem turn_range {P : Program} {w : World} {K : PySem.W.Frag} {tg : Expr} (it : Addr) (lo : Int) (n : Nat) : Turn P w K tg (Itr lo n) [it] it (fun i h => IsRangeIter h it (lo + (i : Nat) * 1) ((n : Int) - (i : Nat)) 1) where
  mem := by simp
  obj := fun i h st b hb => by
    have e : b = it := by simpa using hb
    subst e
    exact ⟨_, st, fun v z => by
      have z' : Data.fields _ = Data.cell v := z
      cases z'⟩
  keep := fun i h h' st k => k it (by simp) _ st
  item := by
    intro X hP hw hK hc i pins s σ H E I hf st hg
    subst hP hw hK
    obtain ⟨f0, f1, f2, f3, f4, f5⟩ := hf it (by simp)
    have W := Walks.range (prog := X.prog) (w := X.w) (I.ok.hd hc) it lo 1 n
    refine W.item i s _ _ hg st fun v h' tk hv st' kk => ?_
    obtain ⟨t, rfl⟩ := hv
    have I1 : Inv X pins σ H { s with heap := h', toks := tk } := I.turned (fun b o hb e => kk b o (by simpa using hb) e) f0 f1 f3 f4 f5
    refine ⟨_, rfl, go_of (s := { s with heap := h', toks := tk }) (n := "range_iterator") st' rfl rfl (by decide) ⟨.int (lo + i), H, I1, ⟨t, ?_⟩, ⟨rfl, rfl⟩, st', fun b hb => (hf b hb).1⟩⟩
    rw [Int.mul_one]
  done := by
    intro X hP hw hK hc i pins s σ H E I hf st hg
    subst hP hw hK
    obtain ⟨f0, f1, f2, f3, f4, f5⟩ := hf it (by simp)
    exact wpAny_pyNext_range_end (I.ok.hd hc) st (by have : n ≤ i := hg; omega) fun h' eb => ⟨rfl, I.turned (t' := s.toks) (fun b o hb e => eb b o hb e) f0 f1 f3 f4 f5⟩
  self := fun _ _ _ _ _ st h => wpAny_pyIter_rangeiter st h
end L2
namespace L2
open PySem PySem.Spec PyProof.Rows
section
variable {X : Cx} {tg : Expr}
def iList (K : PySem.W.Frag) (tl : TE) : TI := fun σ H R => tl σ H fun x H1 => ∃ a, x = .ref a ∧ (∃ xs, SqL K H1 a xs) ∧ R (Itl K a) H1
def iTup (K : PySem.W.Frag) (tl : TE) : TI := fun σ H R => tl σ H fun x H1 => ∃ a, x = .ref a ∧ (∃ xs, SqT K H1 a xs) ∧ R (Itt K a) H1
theorem pi_list {l : Expr} {tl : TE} (hl : PE X l tl) : PI X tg l (iList X.K tl) := by
  intro pins s σ H R I h
  refine thn (hl pins s σ H _ I h) fun v s1 ⟨x, H1, I1, r1, q1⟩ => ?_
  obtain ⟨a, e, ⟨xs, hq⟩, q⟩ := q1
  subst e
  cases r1
  obtain ⟨its, rv, p, hz⟩ := I1.list hq
  refine wpAny_pyIter_list p.isList ?_
  refine ⟨s1.heap.objs.size, [s1.heap.objs.size], _, _, H1, rfl, I1.kept (t' := s1.toks) fun b o e => Heap.get?_push_of_some _ e, turn_list a _, ⟨_, Heap.get?_push_size _ rfl, rfl, rfl⟩, fun b hb => ?_, q⟩
  have e : b = s1.heap.objs.size := by simpa using hb
  subst e
  exact I1.fpOk (Nat.le_refl _) (I1.hok.fresh (Nat.le_refl _))
theorem pi_tup {l : Expr} {tl : TE} (hl : PE X l tl) : PI X tg l (iTup X.K tl) := by
  intro pins s σ H R I h
  refine thn (hl pins s σ H _ I h) fun v s1 ⟨x, H1, I1, r1, q1⟩ => ?_
  obtain ⟨a, e, ⟨xs, hq⟩, q⟩ := q1
  subst e
  cases r1
  obtain ⟨its, rv, p, hz⟩ := I1.tuple hq
  refine wpAny_pyIter_tuple (show s1.heap.IsTuple a its.toArray from p) ?_
  refine ⟨s1.heap.objs.size, [s1.heap.objs.size], _, _, H1, rfl, I1.kept (t' := s1.toks) fun b o e => Heap.get?_push_of_some _ e, turn_tuple a _, ⟨_, Heap.get?_push_size _ rfl, rfl, rfl⟩, fun b hb => ?_, q⟩
  have e : b = s1.heap.objs.size := by simpa using hb
  subst e
  exact I1.fpOk (Nat.le_refl _) (I1.hok.fresh (Nat.le_refl _))
theorem range_it {pins : List (Addr × Obj)} {σ : St} {H : Hp} {s : Shared} {R : It → Hp → Prop} {E : Value → Shared → Prop} {lo hi : Int} {t u v : Tok} {tk : Nat} (I : Inv X pins σ H s) (h1 : -(2 ^ 62) ≤ lo) (h2 : lo < 2 ^ 62) (h3 : -(2 ^ 62) ≤ hi) (h4 : hi < 2 ^ 62)
    (q : R (Itr lo (hi - lo).toNat) H) : wpAny (model X.prog X.w) X.A (pyIter (.ref s.heap.objs.size)) (PIE X pins σ tg R) E { s with heap := s.heap.push { cls := .type "range", data := .fields #[.int lo t, .int hi u, .int 1 v] }, toks := tk } := by
  refine wpAny_pyIter_range (IsRange.new ..) (small_one h1 h2 h3 h4) ?_
  have I1 : Inv X pins σ H { s with heap := s.heap.push { cls := .type "range", data := .fields #[.int lo t, .int hi u, .int 1 v] }, toks := tk } := I.kept fun b o e => Heap.get?_push_of_some _ e
  refine ⟨(s.heap.push { cls := .type "range", data := .fields #[.int lo t, .int hi u, .int 1 v] }).objs.size, [(s.heap.push { cls := .type "range", data := .fields #[.int lo t, .int hi u, .int 1 v] }).objs.size], _, _, H, rfl,
    I1.kept (t' := tk) fun b o e => Heap.get?_push_of_some _ e, turn_range _ lo (hi - lo).toNat, ?_, fun b hb => ?_, q⟩
  · have e1 : lo + ((0 : Nat) : Int) * 1 = lo := by simp
    have e2 : (((hi - lo).toNat : Nat) : Int) - ((0 : Nat) : Int) = Builtin.Range.rangeSize lo hi 1 := by rw [rangeSize_one]; split <;> omega
    show IsRangeIter _ _ (lo + ((0 : Nat) : Int) * 1) ((((hi - lo).toNat : Nat) : Int) - ((0 : Nat) : Int)) 1
    rw [e1, e2]
    exact Heap.get?_push_size _ rfl
  · have e : b = (s.heap.push { cls := .type "range", data := .fields #[.int lo t, .int hi u, .int 1 v] }).objs.size := by simpa using hb
    subst e
    exact I1.fpOk (Nat.le_refl _) (I1.hok.fresh (Nat.le_refl _))
def iRng1 (ta : TA) : TI := fun σ H R => ta σ H fun vs H1 => ∃ j : Int, vs = [.int j] ∧ -(2 ^ 62) ≤ j ∧ j < 2 ^ 62 ∧ R (Itr 0 j.toNat) H1
theorem pi_range1 {a : Expr} {ta : TA} {p pos : Pos} (hg : Gl X "range") (hm : X.mg "range" = none) (ha : PA X [a] ta) (hs : starEach [a] X.env = [(false, eval a X.env)] := by rfl) : PI X tg (.Call (.Name "range" p) [a] [] pos) (iRng1 ta) := by
  intro pins s σ H R I h
  refine Call_ (ld_blt I hg hm boot_range (PyProof.Rows.callWith_type1 (thn (ha pos pins s σ H _ I h) fun us s1 ⟨vs, H1, I1, r1, q1⟩ => ?_) hs rfl))
  obtain ⟨j, e, q1, q2, q⟩ := q1
  subst e
  cases r1 with
  | cons r rr =>
    cases rr
    obtain ⟨t, rfl⟩ := r
    exact call_range_1 (range_it I1 (by omega) (by omega) q1 q2 (by simpa using q))
def tFor (wi : TI) (g : TG) (tb : TS) : TS := fun D σ H => wi σ H fun J H1 => ∃ W : Nat → Nat → St → Hp → Prop, (∃ m, W 0 m σ H1) ∧ ∀ i m σ H, W i m σ H →
  (J.stop i H ∧ D.nx σ H) ∨ (J.go i H ∧ ∃ N : St → Hp → Prop, (∀ σ' H', N σ' H' → ∃ m', m' < m ∧ W (i + 1) m' σ' H') ∧ ∀ x H', J.yld i H x H' → g x σ H' fun σ2 H2 => tb { D with nx := N, ct := N, bk := D.nx } σ2 H2)
def pinsAt (fp : List Addr) (h : Heap) : List (Addr × Obj) := fp.filterMap fun b => (h.get? b).map fun o => (b, o)
theorem mem_pinsAt {fp : List Addr} {h : Heap} {b : Addr} {o : Obj} (hb : b ∈ fp) (e : h.get? b = some o) : (b, o) ∈ pinsAt fp h := List.mem_filterMap.mpr ⟨b, hb, by rw [e]; rfl⟩
theorem of_pinsAt {fp : List Addr} {h : Heap} {p : Addr × Obj} (hp : p ∈ pinsAt fp h) : p.1 ∈ fp ∧ h.get? p.1 = some p.2 := by
  obtain ⟨b, hb, e⟩ := List.mem_filterMap.mp hp
  cases q : h.get? b with
  | none => rw [q] at e; cases e
  | some o =>
    rw [q] at e
    have e' : (b, o) = p := Option.some.inj e
    subst e'
    exact ⟨hb, q⟩
theorem Inv.pinned {pins : List (Addr × Obj)} {σ : St} {H : Hp} {s : Shared} {fp : List Addr} (I : Inv X pins σ H s) (hf : ∀ b ∈ fp, FpOk X pins H b) (ho : ∀ b ∈ fp, ∃ o, s.heap.get? b = some o ∧ ∀ v, o.data ≠ .cell v) : Inv X (pins ++ pinsAt fp s.heap) σ H s :=
  I.pins_of fun p hp => (List.mem_append.mp hp).elim (fun z => I.pin p (List.mem_append_right _ z)) fun z => by
    obtain ⟨hb, e⟩ := of_pinsAt z
    obtain ⟨f0, f1, f2, _⟩ := hf p.1 hb
    obtain ⟨o, e', d⟩ := ho p.1 hb
    rw [e] at e'; cases e'
    exact ⟨e, f0, f1, f2, d⟩
theorem Inv.unpinned {pins pl : List (Addr × Obj)} {σ : St} {H : Hp} {s : Shared} (I : Inv X (pins ++ pl) σ H s) : Inv X pins σ H s := I.pins_of fun p hp => I.pin p (List.mem_append_right _ (List.mem_append_left _ hp))
theorem ps_for {iter : Expr} {body : List Stmt} {wi : TI} {g : TG} {tb : TS} {pos : Pos} (hp : PassesOwn (model X.prog X.w) X.A X.env X.xe) (hc : X.calm = true) (hi : PI X tg iter wi) (hg : PG X tg g) (hb : PSs X body tb)
    (hs : ∀ x, foldedSetIterable iter X.env x = pure x := by intro _; rfl) : PS X (.For tg iter body [] pos) (tFor wi g tb) := by
  intro pins s σ H D I h
  refine wpAny_For (thn (hi pins s σ H _ I h) fun v s1 h1 => thn h1 fun itv s2 h2 => ?_) hs
  obtain ⟨it, fp, tn, J, H2, e, I2, T, st2, f2, W, ⟨m0, w0⟩, turn⟩ := h2
  subst e
  have stat : ∀ {H' : Hp}, (∀ b ∈ fp, H' b = none) → ∀ b ∈ fp, FpOk X pins H' b := fun hn b hb => ⟨hn b hb, (f2 b hb).2⟩
  refine codeAny_forLoop_any (fun n s' => ∃ i σ' H', Inv X pins σ' H' s' ∧ tn i s'.heap ∧ (∀ b ∈ fp, H' b = none) ∧ W i n σ' H') ?_ m0 ⟨0, σ, H2, I2, st2, fun b hb => (f2 b hb).1, w0⟩
  rintro n s3 ⟨i, σ3, H3, I3, st3, fr3, w3⟩
  rcases turn i n σ3 H3 w3 with ⟨stop, qn⟩ | ⟨go, N, hN, step⟩
  · refine wpAny_passesOwn hp (thn (T.done X rfl rfl rfl hc i pins s3 σ3 H3 X.xe I3 (stat fr3) st3 stop) fun r s4 ⟨hr, I4⟩ => ?_)
    subst hr
    exact wpAny_execs_nil ⟨σ3, H3, I4, qn⟩
  · refine wpAny_passesOwn hp (thn (T.item X rfl rfl rfl hc i pins s3 σ3 H3 X.xe I3 (stat fr3) st3 go) fun r s4 ⟨u, hr, h4⟩ => ?_)
    subst hr
    refine wpAny_passesOwn hp (thn h4 fun _ s5 ⟨x, H5, I5, r5, y5, st5, fr5⟩ => ?_)
    have I5' := I5.pinned (stat fr5) (T.obj _ _ st5)
    refine wpAny_passesOwn hp (thn (hg _ s5 σ3 H5 x u _ I5' r5 (step x H5 y5)) fun _ s6 ⟨σ6, H6, I6, q6⟩ => ?_)
    refine wpAny_passesOwn hp (thn (hb _ s6 σ6 H6 _ I6 q6) fun f s7 q7 => ?_)
    have again : ∀ {σ7 : St} {H7 : Hp}, Inv X (pins ++ pinsAt fp s5.heap) σ7 H7 s7 → N σ7 H7 → ∃ m, m < n ∧ ∃ i σ' H', Inv X pins σ' H' s7 ∧ tn i s7.heap ∧ (∀ b ∈ fp, H' b = none) ∧ W i m σ' H' := fun {σ7 H7} I7 n7 => by
      obtain ⟨m', hm, w7⟩ := hN σ7 H7 n7
      refine ⟨m', hm, i + 1, σ7, H7, I7.unpinned, T.keep _ _ _ st5 fun b hb o e => (I7.pin (b, o) (List.mem_append_right _ (List.mem_append_right _ (mem_pinsAt hb e)))).1, fun b hb => ?_, w7⟩
      obtain ⟨o, e, d⟩ := T.obj _ _ st5 b hb
      exact (I7.pin (b, o) (List.mem_append_right _ (List.mem_append_right _ (mem_pinsAt hb e)))).2.1
    cases f with
    | next => obtain ⟨σ7, H7, I7, n7⟩ := q7; exact again I7 n7
    | cont => obtain ⟨σ7, H7, I7, n7⟩ := q7; exact again I7 n7
    | brk => obtain ⟨σ7, H7, I7, q7⟩ := q7; exact ⟨σ7, H7, I7.unpinned, q7⟩
    | ret v => obtain ⟨x7, σ7, H7, I7, r7, q7⟩ := q7; exact ⟨x7, σ7, H7, I7.unpinned, r7, q7⟩
end
theorem for_list {K : PySem.W.Frag} {a : Addr} {xs : List V} {g : TG} {tb : TS} {D : Ends} {σ : St} {H : Hp} (Pv : Nat → St → Hp → Prop) (h0 : Pv 0 σ H) (hl : ∀ i σ H, i ≤ xs.length → Pv i σ H → SqL K H a xs)
    (hs : ∀ i x σ H, xs[i]? = some x → Pv i σ H → g x σ H fun σ2 H2 => tb { D with nx := Pv (i + 1), ct := Pv (i + 1), bk := D.nx } σ2 H2) (hd : ∀ σ H, Pv xs.length σ H → D.nx σ H) :
    ∃ W : Nat → Nat → St → Hp → Prop, (∃ m, W 0 m σ H) ∧ ∀ i m σ H, W i m σ H →
      ((Itl K a).stop i H ∧ D.nx σ H) ∨ ((Itl K a).go i H ∧ ∃ N : St → Hp → Prop, (∀ σ' H', N σ' H' → ∃ m', m' < m ∧ W (i + 1) m' σ' H') ∧ ∀ x H', (Itl K a).yld i H x H' → g x σ H' fun σ2 H2 => tb { D with nx := N, ct := N, bk := D.nx } σ2 H2) := by
  refine ⟨fun i m σ H => m = xs.length - i ∧ i ≤ xs.length ∧ Pv i σ H, ⟨xs.length, by simp, Nat.zero_le _, h0⟩, ?_⟩
  rintro i m σ H ⟨rfl, hi, p⟩
  have q := hl i σ H hi p
  by_cases hlt : i < xs.length
  · refine .inr ⟨⟨xs, xs[i], q, by simp [hlt]⟩, Pv (i + 1), fun σ' H' p' => ⟨xs.length - (i + 1), by omega, rfl, hlt, p'⟩, fun x H' y => ?_⟩
    obtain ⟨e, y⟩ := y
    subst e
    exact hs i x σ _ (y xs q) p
  · have e : i = xs.length := by omega
    subst e
    exact .inl ⟨⟨xs, q, Nat.le_refl _⟩, hd σ H p⟩
theorem for_tup {K : PySem.W.Frag} {a : Addr} {xs : List V} {g : TG} {tb : TS} {D : Ends} {σ : St} {H : Hp} (Pv : Nat → St → Hp → Prop) (h0 : Pv 0 σ H) (hl : ∀ i σ H, i ≤ xs.length → Pv i σ H → SqT K H a xs)
    (hs : ∀ i x σ H, xs[i]? = some x → Pv i σ H → g x σ H fun σ2 H2 => tb { D with nx := Pv (i + 1), ct := Pv (i + 1), bk := D.nx } σ2 H2) (hd : ∀ σ H, Pv xs.length σ H → D.nx σ H) :
    ∃ W : Nat → Nat → St → Hp → Prop, (∃ m, W 0 m σ H) ∧ ∀ i m σ H, W i m σ H →
      ((Itt K a).stop i H ∧ D.nx σ H) ∨ ((Itt K a).go i H ∧ ∃ N : St → Hp → Prop, (∀ σ' H', N σ' H' → ∃ m', m' < m ∧ W (i + 1) m' σ' H') ∧ ∀ x H', (Itt K a).yld i H x H' → g x σ H' fun σ2 H2 => tb { D with nx := N, ct := N, bk := D.nx } σ2 H2) := by
  refine ⟨fun i m σ H => m = xs.length - i ∧ i ≤ xs.length ∧ Pv i σ H, ⟨xs.length, by simp, Nat.zero_le _, h0⟩, ?_⟩
  rintro i m σ H ⟨rfl, hi, p⟩
  have q := hl i σ H hi p
  by_cases hlt : i < xs.length
  · refine .inr ⟨⟨xs, xs[i], q, by simp [hlt]⟩, Pv (i + 1), fun σ' H' p' => ⟨xs.length - (i + 1), by omega, rfl, hlt, p'⟩, fun x H' y => ?_⟩
    obtain ⟨e, y⟩ := y
    subst e
    exact hs i x σ _ (y xs q) p
  · have e : i = xs.length := by omega
    subst e
    exact .inl ⟨⟨xs, q, Nat.le_refl _⟩, hd σ H p⟩
theorem for_range {lo : Int} {n : Nat} {g : TG} {tb : TS} {D : Ends} {σ : St} {H : Hp} (Pv : Nat → St → Hp → Prop) (h0 : Pv 0 σ H)
    (hs : ∀ i σ H, i < n → Pv i σ H → g (.int (lo + i)) σ H fun σ2 H2 => tb { D with nx := Pv (i + 1), ct := Pv (i + 1), bk := D.nx } σ2 H2) (hd : ∀ σ H, Pv n σ H → D.nx σ H) :
    ∃ W : Nat → Nat → St → Hp → Prop, (∃ m, W 0 m σ H) ∧ ∀ i m σ H, W i m σ H →
      ((Itr lo n).stop i H ∧ D.nx σ H) ∨ ((Itr lo n).go i H ∧ ∃ N : St → Hp → Prop, (∀ σ' H', N σ' H' → ∃ m', m' < m ∧ W (i + 1) m' σ' H') ∧ ∀ x H', (Itr lo n).yld i H x H' → g x σ H' fun σ2 H2 => tb { D with nx := N, ct := N, bk := D.nx } σ2 H2) := by
  refine ⟨fun i m σ H => m = n - i ∧ i ≤ n ∧ Pv i σ H, ⟨n, by simp, Nat.zero_le _, h0⟩, ?_⟩
  rintro i m σ H ⟨rfl, hi, p⟩
  by_cases hlt : i < n
  · refine .inr ⟨hlt, Pv (i + 1), fun σ' H' p' => ⟨n - (i + 1), by omega, rfl, hlt, p'⟩, fun x H' y => ?_⟩
    obtain ⟨e, y⟩ := y
    subst e y
    exact hs i σ _ hlt p
  · have e : i = n := by omega
    subst e
    exact .inl ⟨Nat.le_refl _, hd σ H p⟩
end L2
namespace L2
open PySem PySem.Spec PyProof.Rows
abbrev R2 := V → V → Hp → VK → Prop
def OpR (X : Cx) (f : Value → Value → Sem Value) (r : R2) : Prop :=
  ∀ (pins : List (Addr × Obj)) (s : Shared) (σ : St) (H : Hp) (x y : V) (v u : Value) (Q : VK), Inv X pins σ H s → RelV x v → RelV y u → r x y H Q →
    wpAny (model X.prog X.w) X.A (f v u) (EP X pins σ Q) X.xe s
def UnR (X : Cx) (f : Value → Sem Value) (r : V → Hp → VK → Prop) : Prop :=
  ∀ (pins : List (Addr × Obj)) (s : Shared) (σ : St) (H : Hp) (x : V) (v : Value) (Q : VK), Inv X pins σ H s → RelV x v → r x H Q →
    wpAny (model X.prog X.w) X.A (f v) (EP X pins σ Q) X.xe s
def CallR (X : Cx) (f : Value) (r : List V → Hp → VK → Prop) : Prop :=
  ∀ (pins : List (Addr × Obj)) (s : Shared) (σ : St) (H : Hp) (xs : List V) (us : List Value) (Q : VK), Inv X pins σ H s → Vals xs us → r xs H Q →
    wpAny (model X.prog X.w) X.A (call f us) (EP X pins σ Q) X.xe s
def tOp (r : R2) (ta tb : TE) : TE := fun σ H Q => ta σ H fun x H1 => tb σ H1 fun y H2 => r x y H2 Q
def tUn (r : V → Hp → VK → Prop) (ta : TE) : TE := fun σ H Q => ta σ H fun x H1 => r x H1 Q
def rI (C : Int → Int → Prop) (g : Int → Int → V) : R2 := fun x y H Q => ∃ i j, x = .int i ∧ y = .int j ∧ C i j ∧ Q (g i j) H
def rI0 (g : Int → Int → V) : R2 := fun x y H Q => ∃ i j, x = .int i ∧ y = .int j ∧ Q (g i j) H
def rU (g : Int → V) : V → Hp → VK → Prop := fun x H Q => ∃ i, x = .int i ∧ Q (g i) H
section
variable {X : Cx} {a b c : Expr} {ta tb tc : TE} {pos : Pos}
theorem binT (ha : PE X a ta) (hb : PE X b tb) {pins : List (Addr × Obj)} {s : Shared} {σ : St} {H : Hp} {R : V → V → Hp → Prop} (I : Inv X pins σ H s)
    (h : ta σ H fun x H1 => tb σ H1 fun y H2 => R x y H2) {Q : Value → Shared → Prop} {f : Value → Value → Sem Value}
    (hf : ∀ v u s2 x y H2, Inv X pins σ H2 s2 → RelV x v → RelV y u → R x y H2 → wpAny (model X.prog X.w) X.A (f v u) Q X.xe s2) :
    wpAny (model X.prog X.w) X.A (eval a X.env) (fun v s₁ => wpAny (model X.prog X.w) X.A (eval b X.env) (fun u s₂ => wpAny (model X.prog X.w) X.A (f v u) Q X.xe s₂) X.xe s₁) X.xe s := by
  refine thn (ha pins s σ H _ I h) fun v s1 ⟨x, H1, I1, r1, q1⟩ => ?_
  refine thn (hb pins s1 σ H1 _ I1 q1) fun u s2 ⟨y, H2, I2, r2, q2⟩ => ?_
  exact hf v u s2 x y H2 I2 r1 r2 q2
theorem pe_op {op : Operator} {r : R2} (ho : OpR X (binaryOp op) r) (ha : PE X a ta) (hb : PE X b tb) : PE X (.BinOp a op b pos) (tOp r ta tb) := by
  intro pins s σ H Q I h
  exact wpAny_BinOp (binT ha hb I h fun v u s2 x y H2 I2 rx ry q => ho pins s2 σ H2 x y v u Q I2 rx ry q)
theorem pe_un {op : UnaryOp} {r : V → Hp → VK → Prop} (ho : UnR X (unaryOp op) r) (ha : PE X a ta) : PE X (.UnaryOp op a pos) (tUn r ta) := by
  intro pins s σ H Q I h
  exact UnaryOp_ (thn (ha pins s σ H _ I h) fun v s1 ⟨x, H1, I1, r1, q1⟩ => ho pins s1 σ H1 x v Q I1 r1 q1)
theorem opI {f : Value → Value → Sem Value} {C : Int → Int → Prop} {g : Int → Int → Int}
    (rule : ∀ (i j : Int) (t u : Tok) (s : Shared) (Q : Value → Shared → Prop) (E : Value → Shared → Prop), C i j → Q (.int (g i j) s.toks) { s with toks := s.toks + 1 } → wpAny (model X.prog X.w) X.A (f (.int i t) (.int j u)) Q E s) :
    OpR X f (rI C fun i j => .int (g i j)) := by
  intro pins s σ H x y v u Q I rx ry h
  obtain ⟨i, j, rfl, rfl, hc, q⟩ := h
  obtain ⟨t, rfl⟩ := rx
  obtain ⟨t', rfl⟩ := ry
  exact rule i j t t' s _ _ hc ⟨.int (g i j), H, I.tok _, ⟨_, rfl⟩, q⟩
theorem opI0 {f : Value → Value → Sem Value} {g : Int → Int → Int}
    (rule : ∀ (i j : Int) (t u : Tok) (s : Shared) (Q : Value → Shared → Prop) (E : Value → Shared → Prop), Q (.int (g i j) s.toks) { s with toks := s.toks + 1 } → wpAny (model X.prog X.w) X.A (f (.int i t) (.int j u)) Q E s) :
    OpR X f (rI0 fun i j => .int (g i j)) := by
  intro pins s σ H x y v u Q I rx ry h
  obtain ⟨i, j, rfl, rfl, q⟩ := h
  obtain ⟨t, rfl⟩ := rx
  obtain ⟨t', rfl⟩ := ry
  exact rule i j t t' s _ _ ⟨.int (g i j), H, I.tok _, ⟨_, rfl⟩, q⟩
theorem opB0 {f : Value → Value → Sem Value} {g : Int → Int → Bool}
    (rule : ∀ (i j : Int) (t u : Tok) (s : Shared) (Q : Value → Shared → Prop) (E : Value → Shared → Prop), Q (.bool (g i j)) s → wpAny (model X.prog X.w) X.A (f (.int i t) (.int j u)) Q E s) :
    OpR X f (rI0 fun i j => .bl (g i j)) := by
  intro pins s σ H x y v u Q I rx ry h
  obtain ⟨i, j, rfl, rfl, q⟩ := h
  obtain ⟨t, rfl⟩ := rx
  obtain ⟨t', rfl⟩ := ry
  exact rule i j t t' s _ _ ⟨.bl (g i j), H, I, rfl, q⟩
def CMul (i j : Int) : Prop := (-(2 ^ 64) < i ∧ i < 2 ^ 64) ∨ (-(2 ^ 64) < j ∧ j < 2 ^ 64)
theorem CMul.ok {i j : Int} (h : CMul i j) : IntMulOk i j := by
  rcases h with ⟨h1, h2⟩ | ⟨h1, h2⟩
  · exact .of_left (intBits_le_64 h1 h2)
  · exact .of_right (intBits_le_64 h1 h2)
theorem op_add : OpR X (binaryOp .Add) (rI0 fun i j => .int (i + j)) := opI0 fun _ _ _ _ _ _ _ q => add_int q
theorem op_sub : OpR X (binaryOp .Sub) (rI0 fun i j => .int (i - j)) := opI0 fun _ _ _ _ _ _ _ q => sub_int q
theorem op_mul : OpR X (binaryOp .Mult) (rI CMul fun i j => .int (i * j)) := opI fun _ _ _ _ _ _ _ hc q => mul_int q hc.ok
theorem unI {f : Value → Sem Value} {g : Int → Int}
    (rule : ∀ (i : Int) (t : Tok) (s : Shared) (Q : Value → Shared → Prop) (E : Value → Shared → Prop), Q (.int (g i) s.toks) { s with toks := s.toks + 1 } → wpAny (model X.prog X.w) X.A (f (.int i t)) Q E s) :
    UnR X f (rU fun i => .int (g i)) := by
  intro pins s σ H x v Q I rx h
  obtain ⟨i, rfl, q⟩ := h
  obtain ⟨t, rfl⟩ := rx
  exact rule i t s _ _ ⟨.int (g i), H, I.tok _, ⟨_, rfl⟩, q⟩
theorem un_neg : UnR X (unaryOp .USub) (rU fun i => .int (-i)) := unI fun _ _ _ _ _ q => neg_int q
end
def scal : V → V → Bool
  | .non, .non => true | .non, .int _ => true | .int _, .non => true | .non, .bl _ => true | .bl _, .non => true | .non, .str _ => true | .str _, .non => true
  | .int _, .int _ => true | .bl _, .bl _ => true | .str _, .str _ => true | .byt _, .byt _ => true
  | .int _, .str _ => true | .str _, .int _ => true | .bl _, .str _ => true | .str _, .bl _ => true
  | _, _ => false
def rEq : R2 := fun x y H Q => scal x y = true ∧ Q (.bl (decide (x = y))) H
def rNe : R2 := fun x y H Q => scal x y = true ∧ Q (.bl (!decide (x = y))) H
theorem dec_int {i j : Int} : decide (V.int i = V.int j) = (i == j) := by
  rw [Bool.eq_iff_iff]
  simp
theorem dec_bl {i j : Bool} : decide (V.bl i = V.bl j) = (i == j) := by
  rw [Bool.eq_iff_iff]
  simp
theorem dec_str {i j : Str} : decide (V.str i = V.str j) = (i == j) := by
  rw [Bool.eq_iff_iff]
  simp
theorem dec_byt {i j : Array UInt8} : decide (V.byt i = V.byt j) = (i.toList == j.toList) := by
  rw [Bool.eq_iff_iff]
  cases i
  cases j
  simp
section
variable {X : Cx} {a b c : Expr} {ta tb tc : TE} {pos : Pos}
theorem fin_bl {pins : List (Addr × Obj)} {σ : St} {H : Hp} {s : Shared} {Q : VK} {k k' : Bool} (I : Inv X pins σ H s) (q : Q (.bl k) H) (e : k = k') : EP X pins σ Q (.bool k') s := by
  subst e
  exact ⟨.bl k, H, I, rfl, q⟩
theorem op_eq : OpR X (compareOp .Eq) rEq := by
  intro pins s σ H x y v u Q I rx ry h
  obtain ⟨hs, q⟩ := h
  cases x with
  | non =>
    cases rx
    cases y with
    | non => cases ry; exact PySem.EqNone.eq_none_none (fin_bl I q (by simp))
    | bl j => cases ry; exact PySem.EqNone.eq_none_bool (fin_bl I q (by simp))
    | int j => obtain ⟨t', rfl⟩ := ry; exact PySem.EqNone.eq_none_int (fin_bl I q (by simp))
    | str j => obtain ⟨t', rfl⟩ := ry; exact PySem.EqNone.eq_none_str (fin_bl I q (by simp))
    | _ => exact absurd (show false = true from hs) Bool.false_ne_true
  | bl i =>
    cases rx
    cases y with
    | non => cases ry; exact PySem.EqNone.eq_bool_none (fin_bl I q (by simp))
    | bl j => cases ry; exact eq_bool (fin_bl I q dec_bl)
    | str j => obtain ⟨t', rfl⟩ := ry; exact PySem.EqMixed.eq_bool_str (fin_bl I q (by simp))
    | _ => exact absurd (show false = true from hs) Bool.false_ne_true
  | int i =>
    obtain ⟨t, rfl⟩ := rx
    cases y with
    | non => cases ry; exact PySem.EqNone.eq_int_none (fin_bl I q (by simp))
    | int j => obtain ⟨t', rfl⟩ := ry; exact eq_int (fin_bl I q dec_int)
    | str j => obtain ⟨t', rfl⟩ := ry; exact PySem.EqMixed.eq_int_str (fin_bl I q (by simp))
    | _ => exact absurd (show false = true from hs) Bool.false_ne_true
  | str i =>
    obtain ⟨t, rfl⟩ := rx
    cases y with
    | non => cases ry; exact PySem.EqNone.eq_str_none (fin_bl I q (by simp))
    | bl j => cases ry; exact PySem.EqMixed.eq_str_bool (fin_bl I q (by simp))
    | int j => obtain ⟨t', rfl⟩ := ry; exact PySem.EqMixed.eq_str_int (fin_bl I q (by simp))
    | str j => obtain ⟨t', rfl⟩ := ry; exact eq_str (fin_bl I q dec_str)
    | _ => exact absurd (show false = true from hs) Bool.false_ne_true
  | byt i =>
    obtain ⟨t, rfl⟩ := rx
    cases y with
    | byt j => obtain ⟨t', rfl⟩ := ry; exact PySem.W.eq_bytes (fin_bl I q dec_byt)
    | _ => exact absurd (show false = true from hs) Bool.false_ne_true
  | _ => cases y <;> exact absurd (show false = true from hs) Bool.false_ne_true
theorem op_ne : OpR X (compareOp .NotEq) rNe := by
  intro pins s σ H x y v u Q I rx ry h
  obtain ⟨hs, q⟩ := h
  cases x with
  | non =>
    cases rx
    cases y with
    | non => cases ry; exact PySem.EqNone.ne_none_none (fin_bl I q (by simp))
    | bl j => cases ry; exact PySem.EqNone.ne_none_bool (fin_bl I q (by simp))
    | int j => obtain ⟨t', rfl⟩ := ry; exact PySem.EqNone.ne_none_int (fin_bl I q (by simp))
    | str j => obtain ⟨t', rfl⟩ := ry; exact PySem.EqNone.ne_none_str (fin_bl I q (by simp))
    | _ => exact absurd (show false = true from hs) Bool.false_ne_true
  | bl i =>
    cases rx
    cases y with
    | non => cases ry; exact PySem.EqNone.ne_bool_none (fin_bl I q (by simp))
    | bl j => cases ry; exact ne_bool (fin_bl I q (congrArg not dec_bl))
    | str j => obtain ⟨t', rfl⟩ := ry; exact PySem.EqMixed.ne_bool_str (fin_bl I q (by simp))
    | _ => exact absurd (show false = true from hs) Bool.false_ne_true
  | int i =>
    obtain ⟨t, rfl⟩ := rx
    cases y with
    | non => cases ry; exact PySem.EqNone.ne_int_none (fin_bl I q (by simp))
    | int j => obtain ⟨t', rfl⟩ := ry; exact ne_int (fin_bl I q (congrArg not dec_int))
    | str j => obtain ⟨t', rfl⟩ := ry; exact PySem.EqMixed.ne_int_str (fin_bl I q (by simp))
    | _ => exact absurd (show false = true from hs) Bool.false_ne_true
  | str i =>
    obtain ⟨t, rfl⟩ := rx
    cases y with
    | non => cases ry; exact PySem.EqNone.ne_str_none (fin_bl I q (by simp))
    | bl j => cases ry; exact PySem.EqMixed.ne_str_bool (fin_bl I q (by simp))
    | int j => obtain ⟨t', rfl⟩ := ry; exact PySem.EqMixed.ne_str_int (fin_bl I q (by simp))
    | str j => obtain ⟨t', rfl⟩ := ry; exact ne_str (fin_bl I q (congrArg not dec_str))
    | _ => exact absurd (show false = true from hs) Bool.false_ne_true
  | byt i =>
    obtain ⟨t, rfl⟩ := rx
    cases y with
    | byt j => obtain ⟨t', rfl⟩ := ry; exact PySem.W.ne_bytes (fin_bl I q (congrArg not dec_byt))
    | _ => exact absurd (show false = true from hs) Bool.false_ne_true
  | _ => cases y <;> exact absurd (show false = true from hs) Bool.false_ne_true
theorem op_lt : OpR X (compareOp .Lt) (rI0 fun i j => .bl (decide (i < j))) := opB0 fun _ _ _ _ _ _ _ q => lt_int q
theorem op_le : OpR X (compareOp .LtE) (rI0 fun i j => .bl (decide (i ≤ j))) := opB0 fun _ _ _ _ _ _ _ q => le_int q
theorem op_gt : OpR X (compareOp .Gt) (rI0 fun i j => .bl (decide (j < i))) := opB0 fun _ _ _ _ _ _ _ q => gt_int q
theorem op_ge : OpR X (compareOp .GtE) (rI0 fun i j => .bl (decide (j ≤ i))) := opB0 fun _ _ _ _ _ _ _ q => ge_int q
theorem op_isN : OpR X (compareOp .Is) (fun x y H Q => y = .non ∧ Q (.bl (decide (x = .non))) H) := by
  intro pins s σ H x y v u Q I rx ry h
  obtain ⟨rfl, q⟩ := h
  cases ry
  refine is_none_gen (fin_bl I q ?_)
  cases x <;> first
    | (cases rx; rfl)
    | (obtain ⟨t, rfl⟩ := rx; rfl)
theorem op_notN : OpR X (compareOp .IsNot) (fun x y H Q => y = .non ∧ Q (.bl (!decide (x = .non))) H) := by
  intro pins s σ H x y v u Q I rx ry h
  obtain ⟨rfl, q⟩ := h
  cases ry
  refine isnot_none_gen (fin_bl I q ?_)
  cases x <;> first
    | (cases rx; rfl)
    | (obtain ⟨t, rfl⟩ := rx; rfl)
theorem nomark (b : Expr) {op : CmpOp} (h : op ≠ .In := by decide) (h2 : op ≠ .NotIn := by decide) : behindInMarks op b = false := by
  have e1 : (op == CmpOp.In) = false := by cases op <;> first | rfl | exact absurd rfl h
  have e2 : (op == CmpOp.NotIn) = false := by cases op <;> first | rfl | exact absurd rfl h2
  cases b <;> simp [behindInMarks, e1, e2]
theorem pe_cmpR {op : CmpOp} {r : R2} (ho : OpR X (compareOp op) r) (ha : PE X a ta) (hb : PE X b tb) (hm : behindInMarks op b = false) : PE X (.Compare a [op] [b] pos) (tOp r ta tb) := by
  intro pins s σ H Q I h
  exact wpAny_Compare1 (binT ha hb I h fun v u s2 x y H2 I2 rx ry q => ho pins s2 σ H2 x y v u Q I2 rx ry q) hm
def tTest (t : TE) : TT := fun σ H Q => t σ H fun x H' => ∃ k, x = .bl k ∧ Q k H'
theorem pt_cmpR {op : CmpOp} {r : R2} (ho : OpR X (compareOp op) r) (ha : PE X a ta) (hb : PE X b tb) (hm : behindInMarks op b = false) : PT X (.Compare a [op] [b] pos) (tTest (tOp r ta tb)) := by
  intro pins s σ H Q I h
  refine wpAny_isTrue_Compare1 (thn (ha pins s σ H _ I h) fun v s1 ⟨x, H1, I1, r1, q1⟩ => thn (hb pins s1 σ H1 _ I1 q1) fun u s2 ⟨y, H2, I2, r2, q2⟩ =>
    thn (ho pins s2 σ H2 x y v u _ I2 r1 r2 q2) fun c s3 ⟨z, H3, I3, r3, k, e, q3⟩ => ?_) hm
  subst e
  cases r3
  exact wpAny_truthy_bool ⟨H3, I3, q3⟩
def tChain (r r' : R2) (ta tb tc : TE) : TE := fun σ H Q => ta σ H fun x H1 => tb σ H1 fun y H2 => r x y H2 fun z H3 => ∃ k, z = .bl k ∧
  (if k = true then tc σ H3 fun w' H4 => r' y w' H4 Q else Q (.bl false) H3)
theorem pe_chain {op op' : CmpOp} {r r' : R2} (ho : OpR X (compareOp op) r) (ho' : OpR X (compareOp op') r') (ha : PE X a ta) (hb : PE X b tb) (hc : PE X c tc)
    (hm : lastMarks [op, op'] [b, c] = false := by with_unfolding_all rfl) : PE X (.Compare a [op, op'] [b, c] pos) (tChain r r' ta tb tc) := by
  intro pins s σ H Q I h
  refine Compare_chain (thn (ha pins s σ H _ I h) fun v s1 ⟨x, H1, I1, r1, q1⟩ => chain_link (thn (hb pins s1 σ H1 _ I1 q1) fun u s2 ⟨y, H2, I2, r2, q2⟩ =>
    thn (ho pins s2 σ H2 x y v u _ I2 r1 r2 q2) fun d s3 ⟨z, H3, I3, r3, k, e, q3⟩ => ?_)) hm
  subst e
  cases r3
  refine wpAny_truthy_bool ?_
  cases k with
  | false => exact ite_ff ⟨.bl false, H3, I3, rfl, q3⟩
  | true => exact ite_tt (chain_last (thn (hc pins s3 σ H3 _ I3 q3) fun w' s4 ⟨z', H4, I4, r4, q4⟩ => ho' pins s4 σ H4 y z' u w' Q I4 r2 r4 q4))
theorem pt_chain {op op' : CmpOp} {r r' : R2} (ho : OpR X (compareOp op) r) (ho' : OpR X (compareOp op') r') (ha : PE X a ta) (hb : PE X b tb) (hc : PE X c tc)
    (hm : lastMarks [op, op'] [b, c] = false := by with_unfolding_all rfl) : PT X (.Compare a [op, op'] [b, c] pos) (tTest (tChain r r' ta tb tc)) := by
  intro pins s σ H Q I h
  refine isTrue_chain (thn (ha pins s σ H _ I h) fun v s1 ⟨x, H1, I1, r1, q1⟩ => test_link (thn (hb pins s1 σ H1 _ I1 q1) fun u s2 ⟨y, H2, I2, r2, q2⟩ =>
    thn (ho pins s2 σ H2 x y v u _ I2 r1 r2 q2) fun d s3 ⟨z, H3, I3, r3, k, e, q3⟩ => ?_)) hm
  subst e
  cases r3
  refine wpAny_truthy_bool ?_
  cases k with
  | false =>
    obtain ⟨k', e', q'⟩ := q3
    cases e'
    exact ite_ff ⟨H3, I3, q'⟩
  | true =>
    refine ite_tt (test_last (thn (hc pins s3 σ H3 _ I3 q3) fun w' s4 ⟨z', H4, I4, r4, q4⟩ => thn (ho' pins s4 σ H4 y z' u w' _ I4 r2 r4 q4) fun d' s5 ⟨z2, H5, I5, r5, k2, e2, q5⟩ => ?_))
    subst e2
    cases r5
    exact wpAny_truthy_bool ⟨H5, I5, q5⟩
theorem line63 : (sizeLine : Nat) < 2 ^ 63 := by rw [sizeLine_eq]; decide
theorem vals1 {x : V} {us : List Value} (r : Vals [x] us) : ∃ u, us = [u] ∧ RelV x u := by
  cases r with
  | cons r1 r2 => cases r2; exact ⟨_, rfl, r1⟩
theorem vals2 {x y : V} {us : List Value} (r : Vals [x, y] us) : ∃ u w', us = [u, w'] ∧ RelV x u ∧ RelV y w' := by
  cases r with
  | cons r1 r2 =>
    cases r2 with
    | cons r3 r4 => cases r4; exact ⟨_, _, rfl, r1, r3⟩
theorem call_abs : CallR X (.builtin "abs") (fun xs H Q => ∃ i, xs = [.int i] ∧ Q (.int (if i < 0 then -i else i)) H) := by
  intro pins s σ H xs us Q I r h
  obtain ⟨i, rfl, q⟩ := h
  obtain ⟨u, rfl, t, rfl⟩ := vals1 r
  exact call_abs_int fun u tk => ⟨.int (if i < 0 then -i else i), H, I.tok _, ⟨_, rfl⟩, q⟩
theorem call_max2 (hc : X.calm = true) : CallR X (.builtin "max") (fun xs H Q => ∃ i j, xs = [.int i, .int j] ∧ Q (.int (if j > i then j else i)) H) := by
  intro pins s σ H xs us Q I r h
  obtain ⟨i, j, rfl, q⟩ := h
  obtain ⟨u, w', rfl, ⟨t, rfl⟩, ⟨t', rfl⟩⟩ := vals2 r
  refine max_two_ints (I.ok.hd hc) fun h' tk k => ⟨_, H, I.kept k, ?_, q⟩
  by_cases hj : j > i
  · rw [if_pos hj, if_pos hj]; exact ⟨_, rfl⟩
  · rw [if_neg hj, if_neg hj]; exact ⟨_, rfl⟩
end
end L2
namespace L2
open PySem PySem.Spec PyProof.Rows
structure ObjM (h : Heap) (x dx C : Addr) (mA : Str → Option Value) : Prop where
  obj : h.get? x = some (PySem.W.instObj C dx)
  ns : h.Ns1 dx mA
  ne : dx ≠ x
theorem lookIn_ns {h : Heap} {dx : Addr} {mA : Str → Option Value} (n : h.Ns1 dx mA) : ∃ od, h.get? dx = some od ∧ ∀ name, PySem.W.lookIn name od = some (mA name) := by
  obtain ⟨o, es, ep, ho, hd, hk, _, hm⟩ := n
  refine ⟨o, ho, fun name => ?_⟩
  have e := hm name
  unfold nsFind findBy at e
  rw [← Array.find?_toList] at e
  unfold PySem.W.lookIn
  rw [hd]
  dsimp only
  split
  · rename_i y q
    rw [q] at e
    exact congrArg some e
  · rename_i q
    rw [q] at e
    have a : es.toList.any (·.refKey) = false := by
      rw [List.any_eq_false]
      intro y hy
      obtain ⟨z, t, hkey⟩ := hk y (Array.mem_toList_iff.mp hy)
      simp [DictEntry.refKey, hkey]
    have a' : ¬ es.toList.any (·.refKey) = true := by rw [a]; exact Bool.false_ne_true
    rw [if_neg a']
    exact congrArg some e
theorem ObjM.look {h : Heap} {x dx C : Addr} {mA : Str → Option Value} (I : ObjM h x dx C mA) : ∃ od, PySem.W.InstAt h x (PySem.W.instObj C dx) C (some od) ∧ ∀ name, PySem.W.lookIn name od = some (mA name) :=
  let ⟨od, ho, hl⟩ := lookIn_ns I.ns
  ⟨od, ⟨I.obj, rfl, rfl, ho⟩, hl⟩
section
variable {prog : Program} {w : World} {A : Around} {E : Value → Shared → Prop} {s : Shared} {K : PySem.W.Frag} {x dx C f : Addr} {mA : Str → Option Value} {name : Str} {v : Value}
theorem get_map {expr : Bool} {Q : Value → Shared → Prop} (X : K.In s.heap) (I : ObjM s.heap x dx C mA) (hg : PySem.W.plainGet K C name = true) (hh : PySem.W.hasDictIn K C = true)
    (ha : PySem.W.findIn K (.ref C) name = some none) (hv : mA name = some v) (hv' : PySem.W.handedIn v = true) (h : Q v { s with toks := s.toks + 1 }) :
    wpAny (model prog w) A (getAttr (.ref x) name expr) Q E s := by
  obtain ⟨od, J, hl⟩ := I.look
  exact PySem.W.get_value X J (PySem.W.plainGet_of hg).1 (PySem.W.findObj_own hh ha rfl (by rw [hl, hv])) hv' h
theorem get_meth {pl : Sem Bool} {Q : Value × List Value → Shared → Prop} (X : K.In s.heap) (I : ObjM s.heap x dx C mA) (hg : PySem.W.plainGet K C name = true)
    (hf : PySem.W.findIn K (.ref C) name = some (some (.ref f))) (ht : PySem.W.isFn K (.ref f) = true) (hv : mA name = none) (h : Q (.ref f, [.ref x]) s) :
    wpAny (model prog w) A (getMethod (.ref x) name pl) Q E s := by
  obtain ⟨od, J, hl⟩ := I.look
  exact PySem.W.method_fn X J (PySem.W.plainGet_of hg).1 (PySem.W.plainGet_of hg).2 hf (beq_iff_eq.mp ht) (by show (PySem.W.lookIn name od).map (·.isSome) = some false; rw [hl, hv]; rfl) h
theorem set_map {ns : List Str} {Q : Unit → Shared → Prop} (X : K.In s.heap) (I : ObjM s.heap x dx C mA)
    (hs : PySem.W.findIn K (.ref C) "__setattr__" = some (some (.builtin "object.__setattr__"))) (hp : PySem.W.plainOver K C = true) (ht : PySem.W.takerIn K C name = some none) (hh : PySem.W.hasDictIn K C = true)
    (hw : PySem.Within mA ns) (hsz : ns.length ≤ sizeLine)
    (h : ∀ h', ObjM h' x dx C (fun y => if y = name then some v else mA y) → Heap.SameBut dx s.heap h' → Q () { s with heap := h', toks := s.toks + 2 }) :
    wpAny (model prog w) A (setAttr (.ref x) name v) Q E s := by
  obtain ⟨od, J, hl⟩ := I.look
  refine PySem.W.set_plain X J hs (PySem.W.osa_open (s := { s with toks := s.toks + 1 }) (r := none) X J hp ht fun b => ?_)
  obtain ⟨cd, hc, hd'⟩ := PySem.W.any_some hh
  have hx : s.heap.get? x = some ⟨.ref C, some dx, .plain, #[]⟩ := I.obj
  refine wpAny_bind (wpAny_pure (wpAny_bind (wpAny_bind (wpAny_loadPart hx (wpAny_bind (PySem.W.Looks.here (s := { s with toks := s.toks + 1 }) (PySem.W.looks_clsIn X hc) ?_))))))
  rw [hd']
  refine wpAny_pure (a := some dx) (wpAny_bind (wpAny_pure (wpAny_bind ?_)))
  refine wpAny_nsSet1 (s := { s with toks := s.toks + 1 }) I.ns fun h' hn2 hs2 => ?_
  obtain ⟨oD, esD, epD, hoD, hdD, hcD⟩ := hn2.count (PySem.Within.cons name v hw)
  refine wpAny_bind (wpAny_lookBehind hoD (by rw [hdD]; exact pastItsLine_dict (Nat.le_trans hcD (by rw [List.length_cons]; omega))) ?_)
  exact wpAny_pure (h _ ⟨(hs2.2 _ (Ne.symm I.ne)).trans I.obj, hn2, I.ne⟩ hs2)
theorem make_map {R : Result → Shared → Prop} {vs : List Value} {kw : List (Str × Value)} (X : K.In s.heap) (hm : PySem.W.makesIn K C = true)
    (hi : PySem.W.findIn K (.ref C) "__init__" = some (some (.ref f))) (hf : PySem.W.typeIn K (.ref f) = some (.type "function"))
    (h : codeAny (model prog w) (A.under (.builtin "type.__call__" ⟨.ref C :: vs, kw⟩)) (.call (.ref f) ⟨.ref (s.heap.objs.size + 1) :: vs, kw⟩) (PySem.W.InitBack (s.heap.objs.size + 1) R)
      { s with heap := (s.heap.push PySem.W.emptyDict).push (PySem.W.instObj C s.heap.objs.size) }) :
    codeAny (model prog w) A (.call (.ref C) ⟨vs, kw⟩) R s := by
  obtain ⟨hh, g, d, t, os⟩ := s
  exact PySem.W.make_core (PySem.W.makes_of X hm) (PySem.W.looks_findIn X hi) (fun self => PySem.W.bind_fn X self hf) (.inl rfl) h
end
def putF (f : Str) (v : V) : List (Str × V) → List (Str × V)
  | [] => [(f, v)]
  | (g, x) :: r => if g = f then (g, v) :: r else (g, x) :: putF f v r
theorem lookup_putF (f g : Str) (v : V) : ∀ fs : List (Str × V), (putF f v fs).lookup g = if g = f then some v else fs.lookup g
  | [] => by
    show List.lookup g [(f, v)] = _
    by_cases h : g = f
    · have hb : (g == f) = true := beq_iff_eq.mpr h
      simp only [List.lookup, hb, if_pos h]
    · have hb : (g == f) = false := beq_eq_false_iff_ne.mpr h
      simp only [List.lookup, hb, if_neg h]
  | (k, x) :: r => by
    have ih := lookup_putF f g v r
    rw [show putF f v ((k, x) :: r) = (if k = f then (k, v) :: r else (k, x) :: putF f v r) from rfl]
    by_cases hk : k = f
    · rw [if_pos hk]
      by_cases h : g = k
      · have hb : (g == k) = true := beq_iff_eq.mpr h
        simp only [List.lookup, hb, if_pos (h.trans hk)]
      · have hb : (g == k) = false := beq_eq_false_iff_ne.mpr h
        simp only [List.lookup, hb, if_neg (fun e : g = f => h (e.trans hk.symm))]
    · rw [if_neg hk]
      by_cases h : g = k
      · have hb : (g == k) = true := beq_iff_eq.mpr h
        simp only [List.lookup, hb, if_neg (fun e : g = f => hk (h.symm.trans e))]
      · have hb : (g == k) = false := beq_eq_false_iff_ne.mpr h
        simp only [List.lookup, hb]
        exact ih
theorem keys_putF (f : Str) (v : V) : ∀ fs : List (Str × V), f ∈ (putF f v fs).map (·.1) ∧ ∀ g, g ∈ fs.map (·.1) → g ∈ (putF f v fs).map (·.1)
  | [] => ⟨by simp [putF], fun g h => by simp at h⟩
  | (k, x) :: r => by
    obtain ⟨i1, i2⟩ := keys_putF f v r
    rw [show putF f v ((k, x) :: r) = (if k = f then (k, v) :: r else (k, x) :: putF f v r) from rfl]
    by_cases hk : k = f
    · rw [if_pos hk]
      subst hk
      exact ⟨by simp, fun g h => by simpa using h⟩
    · rw [if_neg hk]
      refine ⟨?_, fun g h => ?_⟩
      · rw [List.map_cons]
        exact List.mem_cons_of_mem _ i1
      · rw [List.map_cons] at h ⊢
        rcases List.mem_cons.mp h with e | e
        · exact List.mem_cons.mpr (.inl e)
        · exact List.mem_cons_of_mem _ (i2 g e)
theorem length_putF (f : Str) (v : V) : ∀ fs : List (Str × V), (putF f v fs).length ≤ fs.length + 1
  | [] => by simp [putF]
  | (k, x) :: r => by
    have ih := length_putF f v r
    rw [show putF f v ((k, x) :: r) = (if k = f then (k, v) :: r else (k, x) :: putF f v r) from rfl]
    by_cases hk : k = f
    · rw [if_pos hk, List.length_cons, List.length_cons]; omega
    · rw [if_neg hk, List.length_cons, List.length_cons]; omega
theorem RelO.some_of {v : V} {o : Option Value} (r : RelO (some v) o) : ∃ u, o = some u ∧ RelV v u := by
  cases o with
  | none => exact (show False from r).elim
  | some u => exact ⟨u, rfl, r⟩
theorem RelO.none_of {o : Option Value} (r : RelO none o) : o = none := by
  cases o with
  | none => rfl
  | some u => exact (show False from r).elim
theorem handed_of {v : V} {u : Value} (r : RelV v u) : PySem.W.handedIn u = true := by
  cases v with
  | non => cases (show u = Value.none from r); rfl
  | bl b => cases (show u = Value.bool b from r); rfl
  | int i => obtain ⟨t, e⟩ := (show ∃ t, u = Value.int i t from r); cases e; rfl
  | str x => obtain ⟨t, e⟩ := (show ∃ t, u = Value.str x t from r); cases e; rfl
  | byt b => obtain ⟨t, e⟩ := (show ∃ t, u = Value.bytes b t from r); cases e; rfl
  | flt b => obtain ⟨t, e⟩ := (show ∃ t, u = Value.float b t from r); cases e; rfl
  | ref a => cases (show u = Value.ref a from r); rfl
  | ty n => cases (show u = Value.type n from r); rfl
section
variable {P : Program} {w : World} {H H' : Hp} {h h' : Heap} {a C dx : Addr} {fs fs' : List (Str × V)}
theorem ins_get (hok : HOk P w H h) (e : H a = some (.ins C dx fs)) : ∃ mA, ObjM h a dx C mA ∧ (∀ f, RelO (fs.lookup f) (mA f)) ∧ PySem.Within mA (fs.map (·.1)) ∧ fs.length ≤ 1000 ∧ H dx = some (.own a) := by
  obtain ⟨d, z, ne, ob, mA, n, r, q⟩ := (show ObjOk P w H h a (.ins C dx fs) from hok a _ e)
  exact ⟨mA, ⟨ob, n, ne⟩, r, q, z, d⟩
end
structure Cls (K : PySem.W.Frag) (C : Addr) : Prop where
  pg : PySem.W.plainGet K C Str.empty = true
  hd : PySem.W.hasDictIn K C = true
  po : PySem.W.plainOver K C = true
  sa : PySem.W.findIn K (.ref C) "__setattr__" = some (some (.builtin "object.__setattr__"))
theorem Cls.get {K : PySem.W.Frag} {C : Addr} (c : Cls K C) (f : Str) : PySem.W.plainGet K C f = true := c.pg
def NoAttr (K : PySem.W.Frag) (C : Addr) (f : Str) : Prop := PySem.W.findIn K (.ref C) f = some none
theorem NoAttr.taker {K : PySem.W.Frag} {C : Addr} {f : Str} (n : NoAttr K C f) : PySem.W.takerIn K C f = some none := by
  unfold PySem.W.takerIn
  rw [show PySem.W.findIn K (.ref C) f = some none from n]
  rfl
structure Meth (K : PySem.W.Frag) (C : Addr) (m : Str) (f : Addr) : Prop where
  at_ : PySem.W.findIn K (.ref C) m = some (some (.ref f))
  fn : PySem.W.isFn K (.ref f) = true
  kp : PySem.W.keepIn K (.ref f) = true
section
variable {X : Cx} {pins : List (Addr × Obj)} {σ : St} {H : Hp} {s : Shared} {a C dx : Addr} {fs : List (Str × V)} {f : Str} {v : V} {A : Around} {E : Value → Shared → Prop}
theorem getattr_ok {b : Bool} {Q : Value → Shared → Prop} (I : Inv X pins σ H s) (e : H a = some (.ins C dx fs)) (c : Cls X.K C) (n : NoAttr X.K C f) (l : fs.lookup f = some v)
    (h : ∀ u s', Inv X pins σ H s' → RelV v u → Q u s') : wpAny (model X.prog X.w) A (getAttr (.ref a) f b) Q E s := by
  obtain ⟨mA, O, r, _, _, _⟩ := ins_get I.hok e
  obtain ⟨u, hu, ru⟩ := RelO.some_of (v := v) (o := mA f) (by rw [← l]; exact r f)
  exact get_map I.kIn O (c.get f) c.hd n hu (handed_of ru) (h u _ (I.tok _) ru)
theorem getmeth_ok {m : Str} {g : Addr} {pl : Sem Bool} {Q : Value × List Value → Shared → Prop} (I : Inv X pins σ H s) (e : H a = some (.ins C dx fs)) (c : Cls X.K C) (k : Meth X.K C m g) (l : fs.lookup m = none)
    (h : Q (.ref g, [.ref a]) s) : wpAny (model X.prog X.w) A (getMethod (.ref a) m pl) Q E s := by
  obtain ⟨mA, O, r, _, _, _⟩ := ins_get I.hok e
  have hn : mA m = none := RelO.none_of (by rw [← l]; exact r m)
  exact get_meth I.kIn O (c.get m) k.at_ k.fn hn h
theorem setattr_ok {y : V} {u : Value} {Q : Unit → Shared → Prop} (I : Inv X pins σ H s) (e : H a = some (.ins C dx fs)) (c : Cls X.K C) (n : NoAttr X.K C f) (hl : fs.length < 1000) (ry : RelV y u)
    (h : ∀ s', Inv X pins σ (upd H a (.ins C dx (putF f y fs))) s' → Q () s') : wpAny (model X.prog X.w) A (setAttr (.ref a) f u) Q E s := by
  obtain ⟨mA, O, r, wi, _, ho⟩ := ins_get I.hok e
  have hz : (fs.map (·.1)).length ≤ sizeLine := by rw [List.length_map, sizeLine_eq]; omega
  refine set_map I.kIn O c.sa c.po n.taker c.hd wi hz fun h' O' sb => h _ ?_
  have hd : ∃ o, h'.get? dx = some o := let ⟨o, _, _, e', _⟩ := O'.ns; ⟨o, e'⟩
  refine I.write (x := a) (e := dx) (by rw [e]; exact True.intro) (.inr ho) (fun b q hb z => (sb.2 b hb).trans z) hd ?_
  refine ⟨by rw [upd_ne O.ne]; exact ho, ?_, O.ne, O'.obj, _, O'.ns, fun g => ?_, fun g hg => ?_⟩
  · have := length_putF f y fs; omega
  · show RelO ((putF f y fs).lookup g) (if g = f then some u else mA g)
    rw [lookup_putF]
    by_cases q : g = f
    · rw [if_pos q, if_pos q]; exact ry
    · rw [if_neg q, if_neg q]; exact r g
  · by_cases q : g = f
    · rw [q]; exact (keys_putF f y fs).1
    · refine (keys_putF f y fs).2 g (wi g fun z => hg ?_)
      show (if g = f then some u else mA g) = none
      rw [if_neg q]; exact z
theorem Inv.made (I : Inv X pins σ H s) : Inv X pins σ (upd (upd H s.heap.objs.size (.own (s.heap.objs.size + 1))) (s.heap.objs.size + 1) (.ins C s.heap.objs.size []))
    { s with heap := (s.heap.push PySem.W.emptyDict).push (PySem.W.instObj C s.heap.objs.size) } := by
  have e1 : (s.heap.push PySem.W.emptyDict).get? s.heap.objs.size = some PySem.W.emptyDict := Heap.get?_push_size s.heap rfl
  have e2 : ((s.heap.push PySem.W.emptyDict).push (PySem.W.instObj C s.heap.objs.size)).get? (s.heap.objs.size + 1) = some (PySem.W.instObj C s.heap.objs.size) := by
    have := Heap.get?_push_size (s.heap.push PySem.W.emptyDict) (o := PySem.W.instObj C s.heap.objs.size) rfl
    rwa [Heap.size_push] at this
  have e3 : (s.heap.push PySem.W.emptyDict).Ns s.heap.objs.size (fun _ => none) := ⟨PySem.W.emptyDict, #[], _, e1, rfl, (fun e he => absurd he (by simp)), fun _ => rfl⟩
  have I1 := I.laid (a := s.heap.objs.size) (o := .own (s.heap.objs.size + 1)) (h' := s.heap.push PySem.W.emptyDict) (t' := s.toks) (fun b u q => Heap.get?_push_of_some _ q) (Nat.le_refl _) ⟨_, e1⟩
  refine I1.laid (a := s.heap.objs.size + 1) (o := .ins C s.heap.objs.size []) (t' := s.toks) (fun b u q => Heap.get?_push_of_some _ q) (Nat.le_of_eq (Heap.size_push _ _)) ?_
  have ne : s.heap.objs.size ≠ s.heap.objs.size + 1 := Nat.ne_of_lt (Nat.lt_succ_self _)
  refine ⟨by rw [upd_ne ne, upd_same], Nat.zero_le _, ne, e2, fun _ => none, (Heap.Ns1.of_empty e3).at fun o q => Heap.get?_push_of_some _ q, fun _ => True.intro, fun y hy => absurd rfl hy⟩
theorem attr_of {prog : Program} {w : World} {env : Env} {e : Expr} {f : Str} {pos : Pos} {s : Shared} {Q : Value → Shared → Prop} (hb : attributeBase e f env (eval e env) = eval e env)
    (h : wpAny (model prog w) A (eval e env) (fun o s₁ => wpAny (model prog w) A (getAttr o f true) Q E s₁) E s) : wpAny (model prog w) A (eval (.Attribute e f pos) env) Q E s :=
  Attribute_any_ h (by rw [arm_eval_Attribute, hb])
end
def tFld (K : PySem.W.Frag) (ta : TE) (f : Str) : TE := fun σ H Q => ta σ H fun x H1 => ∃ a C dx fs v, x = .ref a ∧ H1 a = some (.ins C dx fs) ∧ Cls K C ∧ NoAttr K C f ∧ fs.lookup f = some v ∧ Q v H1
def sFld (K : PySem.W.Frag) (ta tv : TE) (f : Str) : TS := fun D σ H => tv σ H fun y H1 => ta σ H1 fun x H2 => ∃ a C dx fs, x = .ref a ∧ H2 a = some (.ins C dx fs) ∧ Cls K C ∧ NoAttr K C f ∧ fs.length < 1000 ∧
  D.nx σ (upd H2 a (.ins C dx (putF f y fs)))
def InOp (X : Cx) (op : Operator) (rd : V → V → Hp → VK → Prop) : Prop :=
  ∀ (pins : List (Addr × Obj)) (s : Shared) (σ : St) (H : Hp) (x y : V) (u v : Value) (Q : VK), Inv X pins σ H s → RelV x u → RelV y v → rd x y H Q → wpAny (model X.prog X.w) X.A (inplaceOp op u v) (EP X pins σ Q) X.xe s
def sFldAug (K : PySem.W.Frag) (ta tv : TE) (rd : V → V → Hp → VK → Prop) (f : Str) : TS := fun D σ H => ta σ H fun x H1 => ∃ a C dx fs v, x = .ref a ∧ H1 a = some (.ins C dx fs) ∧ Cls K C ∧ NoAttr K C f ∧ fs.lookup f = some v ∧
  tv σ H1 fun y H2 => rd v y H2 fun z H3 => ∃ dx' fs', H3 a = some (.ins C dx' fs') ∧ fs'.length < 1000 ∧ D.nx σ (upd H3 a (.ins C dx' (putF f z fs')))
section
variable {X : Cx} {o e value : Expr} {f : Str} {pos pos' tpos : Pos} {ta tv : TE}
theorem pe_fld (he : PE X e ta) (hb : attributeBase e f X.env (eval e X.env) = eval e X.env) : PE X (.Attribute e f pos) (tFld X.K ta f) := by
  intro pins s σ H Q I h
  refine attr_of hb (thn (he pins s σ H _ I h) fun u s1 ⟨x, H1, I1, rx, a, C, dx, fs, v, ex, ea, c, n, l, q⟩ => ?_)
  subst ex
  obtain rfl : u = Value.ref a := rx
  exact getattr_ok I1 ea c n l fun u' s2 I2 ru => ⟨v, H1, I2, ru, q⟩
theorem ps_fld (ha : PE X o ta) (hv : PE X value tv) (hs : swapsWith value (some (.Attribute o f pos')) pos.line X.env = pure false) : PS X (.Assign [.Attribute o f pos'] value pos) (sFld X.K ta tv f) := by
  intro pins s σ H D I h
  refine plainObj_wpAny_Assign_Attribute (thn (hv pins s σ H _ I h) fun u s1 ⟨y, H1, I1, ry, q⟩ => thn (ha pins s1 σ H1 _ I1 q) fun ov s2 ⟨x, H2, I2, rx, a, C, dx, fs, ex, ea, c, n, l, q2⟩ => ?_) hs
  subst ex
  obtain rfl : ov = Value.ref a := rx
  exact setattr_ok I2 ea c n l ry fun s3 I3 => ⟨σ, _, I3, q2⟩
theorem ps_fldaug {op : Operator} {rd : V → V → Hp → VK → Prop} (ha : PE X o ta) (hv : PE X value tv) (hop : InOp X op rd) : PS X (.AugAssign (.Attribute o f tpos) op value pos) (sFldAug X.K ta tv rd f) := by
  intro pins s σ H D I h
  refine wpAny_AugAssign_AttributeAny (thn (ha pins s σ H _ I h) fun ov s1 ⟨x, H1, I1, rx, a, C, dx, fs, v, ex, ea, c, n, l, q⟩ => ?_)
  subst ex
  obtain rfl : ov = Value.ref a := rx
  refine getattr_ok I1 ea c n l fun u s2 I2 ru => thn (hv pins s2 σ H1 _ I2 q) fun w3 s3 ⟨y, H2, I3, ry, q3⟩ => thn (hop pins s3 σ H2 v y u w3 _ I3 ru ry q3) fun w4 s4 ⟨z, H3, I4, rz, dx', fs', ea', l', q4⟩ => ?_
  exact setattr_ok I4 ea' c n l' rz fun s5 I5 => ⟨σ, _, I5, q4⟩
def rAdd : V → V → Hp → VK → Prop := fun x y H Q => ∃ i j, x = .int i ∧ y = .int j ∧ Q (.int (i + j)) H
def rSub : V → V → Hp → VK → Prop := fun x y H Q => ∃ i j, x = .int i ∧ y = .int j ∧ Q (.int (i - j)) H
theorem in_add : InOp X .Add rAdd := by
  rintro pins s σ H x y u v Q I rx ry ⟨i, j, rfl, rfl, q⟩
  obtain ⟨t, rfl⟩ := (show ∃ t, u = Value.int i t from rx)
  obtain ⟨t', rfl⟩ := (show ∃ t', v = Value.int j t' from ry)
  exact PyProof.Rows.iadd_int ⟨.int (i + j), H, I.tok _, ⟨_, rfl⟩, q⟩
theorem in_sub : InOp X .Sub rSub := by
  rintro pins s σ H x y u v Q I rx ry ⟨i, j, rfl, rfl, q⟩
  obtain ⟨t, rfl⟩ := (show ∃ t, u = Value.int i t from rx)
  obtain ⟨t', rfl⟩ := (show ∃ t', v = Value.int j t' from ry)
  exact PyProof.Rows.isub_int ⟨.int (i - j), H, I.tok _, ⟨_, rfl⟩, q⟩
end
end L2
namespace L2
open PySem PySem.Spec PyProof.Rows
structure Room (k : Nat) (A : Around) : Prop where
  hd : A.handled = none
  dp : A.depth + 3 * k + 5 < recursionLimit
  un : A.units + 16 * k + 200 < cLine
theorem Room.mono {j k : Nat} {A : Around} (r : Room k A) (h : j ≤ k) : Room j A := ⟨r.hd, by have := r.dp; omega, by have := r.un; omega⟩
theorem Room.deeper {k : Nat} {A : Around} (r : Room (k + 1) A) (env : Env) : Room k (A.deeper env) :=
  ⟨r.hd, by have := r.dp; show A.depth + 1 + 3 * k + 5 < _; omega, by have := r.un; show A.units + 3 + 16 * k + 200 < _; omega⟩
theorem make_depth {A : Around} {C : Addr} {us : List Value} {kw : List (Str × Value)} : (A.under (.builtin "type.__call__" ⟨.ref C :: us, kw⟩)).depth = A.depth + 1 := by
  first | rfl | simp [Around.under, Code.weight, Code.isCreation, Code.isGuard, Code.isCaller, Code.frames, Code.isFrame, guardIds]
theorem make_units {A : Around} {C : Addr} {us : List Value} {kw : List (Str × Value)} : (A.under (.builtin "type.__call__" ⟨.ref C :: us, kw⟩)).units = A.units + 1 := by
  first | rfl | simp [Around.under, Code.cUnits, Code.frames, Code.isFrame]
theorem Room.make {k : Nat} {A : Around} (r : Room (k + 1) A) (C : Addr) (us : List Value) (kw : List (Str × Value)) : Room k (A.under (.builtin "type.__call__" ⟨.ref C :: us, kw⟩)) :=
  ⟨r.hd, by have := r.dp; rw [make_depth]; omega, by have := r.un; rw [make_units]; omega⟩
theorem Room.depth {k : Nat} {A : Around} (r : Room k A) : A.depth < recursionLimit := by have := r.dp; omega
theorem Room.units {k : Nat} {A : Around} (r : Room k A) : A.units + 64 < cLine := by have := r.un; omega
def tNil : TA := fun _ H Q => Q [] H
def tCons (ta : TE) (tr : TA) : TA := fun σ H Q => ta σ H fun x H1 => tr σ H1 fun xs H2 => Q (x :: xs) H2
section
variable {X : Cx} {e : Expr} {es : List Expr} {te : TE} {t : TA} {pos : Pos}
theorem pa_nil : PA X [] tNil := fun _ _ _ _ H Q I h => Calls.spliced_nil ⟨[], H, I, .nil, h⟩
theorem pa_cons (ha : PE X e te) (hr : PA X es t) (hs : starEach (e :: es) X.env = (false, eval e X.env) :: starEach es X.env := by rfl) : PA X (e :: es) (tCons te t) := by
  intro pos pins s σ H Q I h
  rw [hs]
  show wpAny _ _ (spliced ((false, eval e X.env) :: backTo pos (starEach es X.env))) _ _ s
  refine Calls.spliced_cons (thn (ha pins s σ H _ I h) fun u s1 ⟨x, H1, I1, r1, q1⟩ => ?_)
  exact thn (hr pos pins s1 σ H1 _ I1 q1) fun us s2 ⟨xs, H2, I2, r2, q2⟩ => ⟨x :: xs, H2, I2, .cons r1 r2, q2⟩
def tTup (t : TA) : TE := fun σ H Q => t σ H fun xs H1 => xs.length ≤ sizeLine ∧ ∀ p, H1 p = none → Q (.ref p) (upd H1 p (.tup xs))
def tLst (t : TA) : TE := fun σ H Q => t σ H fun xs H1 => xs.length ≤ sizeLine ∧ ∀ p, H1 p = none → Q (.ref p) (upd H1 p (.lst xs))
theorem pe_tup {x1} (h : PA X es t) : PE X (.Tuple es x1 pos) (tTup t) := by
  intro pins s σ H Q I hq
  refine wpAny_Tuple_spliced (thn (h pos pins s σ H _ I hq) fun us s1 ⟨xs, H1, I1, r, z, q⟩ => ⟨by rw [← r.length]; exact z, ?_⟩)
  have hf : H1 s1.heap.objs.size = none := I1.hok.fresh (Nat.le_refl _)
  refine ⟨.ref s1.heap.objs.size, upd H1 s1.heap.objs.size (.tup xs), I1.laid (t' := s1.toks) (fun b u e => Heap.get?_push_of_some _ e) (Nat.le_refl _) ?_, rfl, q _ hf⟩
  exact ⟨z, us, r, ⟨_, Heap.get?_push_size _ rfl, rfl, _, rfl⟩⟩
theorem pe_lst (h : PA X es t) : PE X (.List es pos) (tLst t) := by
  intro pins s σ H Q I hq
  refine wpAny_List_spliced (thn (h pos pins s σ H _ I hq) fun us s1 ⟨xs, H1, I1, r, z, q⟩ => ⟨by rw [← r.length]; exact z, ?_⟩)
  have hf : H1 s1.heap.objs.size = none := I1.hok.fresh (Nat.le_refl _)
  refine ⟨.ref s1.heap.objs.size, upd H1 s1.heap.objs.size (.lst xs), I1.laid (t' := s1.toks) (fun b u e => Heap.get?_push_of_some _ e) (Nat.le_refl _) ?_, rfl, q _ hf⟩
  exact ⟨z, us, 0, r, Heap.get?_push_size _ rfl⟩
end
abbrev Sp := List V → Hp → VK → XK → Prop
abbrev CXT := List Env → Hp → Shared → XK → Value → Shared → Prop
structure Env0 (P : Program) (w : World) (K : PySem.W.Frag) (mg : Str → Option Value) (base : Heap) (A : Around) (outer : List Env) (s : Shared) (H : Hp) : Prop where
  frames : A.frames = some outer
  mod : Mod K mg base
  bs : ∀ b o, base.get? b = some o → s.heap.get? b = some o ∧ H b = none
  bsz : base.objs.size ≤ s.heap.objs.size
  funs : s.heap.FunFrames base outer
  frf : ∀ b ∈ frs outer, H b = none
  hok : HOk P w H s.heap
  bare : AllBare s.gens
def CE (outer : List Env) (P : Program) (w : World) (H : Hp) (s : Shared) (Q : VK) (u : Value) (s' : Shared) : Prop :=
  ∃ v H', s'.os = s.os ∧ AllBare s'.gens ∧ Un (frs outer) [] H H' s.heap s'.heap ∧ HOk P w H' s'.heap ∧ RelV v u ∧ Q v H'
def CR (CX : CXT) (outer : List Env) (P : Program) (w : World) (H : Hp) (s : Shared) (Q : VK) (E : XK) (r : Result) (s' : Shared) : Prop :=
  match r with
  | .ok (.ret u) => CE outer P w H s Q u s'
  | .ok _ => False
  | .error e => CX outer H s E e s'
structure FnOk (P : Program) (w : World) (K : PySem.W.Frag) (mg : Str → Option Value) (base : Heap) (CX : CXT) (k : Nat) (f : Addr) (fd : FuncData) (ps : List Str) (sp : Sp) : Prop where
  len : ∀ vs H Q E, sp vs H Q E → vs.length = ps.length
  run : ∀ (A : Around) (outer : List Env) (s : Shared) (H : Hp) (args : Args) (us : List Value) (vs : List V) (Q : VK) (E : XK), Room k A → Env0 P w K mg base A outer s H → BindsTo s fd args (ps.zip us) → Vals vs us → sp vs H Q E →
    codeAny (model P w) A (.call (.ref f) args) (CR CX outer P w H s Q E) s
theorem Env0.make {P : Program} {w : World} {K : PySem.W.Frag} {mg : Str → Option Value} {base : Heap} {A : Around} {outer : List Env} {s : Shared} {H : Hp} (e : Env0 P w K mg base A outer s H) (C : Addr) (us : List Value) (kw : List (Str × Value)) :
    Env0 P w K mg base (A.under (.builtin "type.__call__" ⟨.ref C :: us, kw⟩)) outer s H := ⟨by first | exact e.frames | (simpa [Around.under, Code.envs, Code.isFrame, pushEnvs] using e.frames), e.mod, e.bs, e.bsz, e.funs, e.frf, e.hok, e.bare⟩
section
variable {X : Cx} {pins : List (Addr × Obj)} {σ : St} {H : Hp} {s s' : Shared}
theorem Inv.env0 (I : Inv X pins σ H s) : Env0 X.prog X.w X.K X.mg X.base X.A X.stack s H :=
  ⟨I.ok.frames, I.ok.mod, I.bs, Nat.le_trans I.ok.bsz I.sz, I.stack, I.stkFree, I.hok, I.bare⟩
theorem Inv.after {Q : VK} {u : Value} (I : Inv X pins σ H s) (h : CE X.stack X.prog X.w H s Q u s') : EP X pins σ Q u s' := by
  obtain ⟨v, H', os, bare, un, hok, r, q⟩ := h
  obtain ⟨hh, g, d, t, os'⟩ := s'
  obtain rfl : os' = s.os := os
  exact ⟨v, H', I.call (h' := hh) (g' := g) (d' := d) (t' := t) (ch := []) un hok bare (fun b z => absurd z (by simp)), r, q⟩
end
def tCall (sp : Sp) (dvs : List V) (E : XK) (t : TA) : TE := fun σ H Q => t σ H fun vs H1 => sp (vs ++ dvs) H1 Q E
def tMeth (C : Addr) (m : Str) (sp : Sp) (dvs : List V) (E : XK) (ta : TE) (t : TA) : TE := fun σ H Q => ta σ H fun x H1 => ∃ a dx fs, x = .ref a ∧ H1 a = some (.ins C dx fs) ∧ fs.lookup m = none ∧
  t σ H1 fun vs H2 => sp (x :: (vs ++ dvs)) H2 Q E
def tMake (C : Addr) (sp : Sp) (dvs : List V) (E : XK) (t : TA) : TE := fun σ H Q => t σ H fun vs H1 => ∀ x dx, H1 x = none → H1 dx = none → dx ≠ x →
  sp (.ref x :: (vs ++ dvs)) (upd (upd H1 dx (.own x)) x (.ins C dx [])) (fun v H2 => v = .non ∧ Q (.ref x) H2) E
def Binds (K : PySem.W.Frag) (fd : FuncData) (ps : List Str) (ds : List Value) : Prop :=
  ∀ (s : Shared) (us : List Value), K.In s.heap → (us ++ ds).length = ps.length → BindsTo s fd ⟨us, []⟩ (ps.zip (us ++ ds))
theorem Binds.all {K : PySem.W.Frag} {fd : FuncData} {ps : List Str} (h : ∀ us : List Value, us.length = ps.length → bindArgs fd ⟨us, []⟩ = pure (ps.zip us)) : Binds K fd ps [] := fun s us _ hl => by
  rw [List.append_nil] at hl ⊢
  exact .of_eq (h us hl)
def Passes (CX : CXT) (X : Cx) (E : XK) : Prop := ∀ (pins : List (Addr × Obj)) (σ : St) (H : Hp) (s : Shared) (e : Value) (s' : Shared), Inv X pins σ H s → CX X.stack H s E e s' → X.xe e s'
section
variable {X : Cx} {CX : CXT} {k : Nat} {f C : Addr} {fd : FuncData} {ps : List Str} {sp : Sp} {dvs : List V} {ds : List Value} {E : XK} {x m : Str} {p pos apos : Pos} {e o : Expr} {es : List Expr} {ta : TE} {t : TA}
theorem run_fn {pins : List (Addr × Obj)} {σ : St} {H : Hp} {s : Shared} {Q : VK} {us : List Value} {vs : List V} (F : FnOk X.prog X.w X.K X.mg X.base CX k f fd ps sp) (hr : Room k X.A) (hb : Binds X.K fd ps ds) (hd : Vals dvs ds) (hx : Passes CX X E)
    (I : Inv X pins σ H s) (r : Vals vs us) (h : sp (vs ++ dvs) H Q E) : wpAny (model X.prog X.w) X.A (call (.ref f) us) (EP X pins σ Q) X.xe s := by
  have r2 : Vals (vs ++ dvs) (us ++ ds) := r.append hd
  have hl : (us ++ ds).length = ps.length := by rw [← r2.length]; exact F.len _ _ _ _ h
  refine wpAny_call (codeAny_mono (F.run X.A X.stack s H ⟨us, []⟩ (us ++ ds) (vs ++ dvs) Q E hr I.env0 (hb s us I.kIn hl) r2 h) fun r s' hq => ?_)
  cases r with
  | error e => exact hx pins σ H s e s' I hq
  | ok fl =>
    cases fl with
    | ret u => exact I.after hq
    | next => exact False.elim hq
    | brk => exact False.elim hq
    | cont => exact False.elim hq
theorem pe_call (F : FnOk X.prog X.w X.K X.mg X.base CX k f fd ps sp) (hr : Room k X.A) (hg : Gl X x) (hm : X.mg x = some (.ref f)) (hk : PySem.W.keepIn X.K (.ref f) = true) (hb : Binds X.K fd ps ds) (hd : Vals dvs ds) (hx : Passes CX X E)
    (ha : PA X (e :: es) t) (hdb : (x == ("__debug__" : Str)) = false := by decide) (he : starEach (e :: es) X.env = (false, eval e X.env) :: starEach es X.env := by rfl) (hpl : (backTo pos (starEach es X.env)).any (·.1) = false := by rfl) :
    PE X (.Call (.Name x p) (e :: es) [] pos) (tCall sp dvs E t) := by
  intro pins s σ H Q I h
  refine wpAny_Call_Name_kw (ld_glob I hg hm ?_ hdb)
  refine PySem.W.callWith_K (h₀ := X.base) I.ok.mod.kin hk (thn (ha pos pins s σ H _ I h) fun us s1 ⟨vs, H1, I1, r, q⟩ => ⟨I1.kIn, ?_⟩) he hpl
  exact run_fn F hr hb hd hx I1 r q
theorem pe_meth {pl : Sem Bool} (he : PE X o ta) (c : Cls X.K C) (hm : Meth X.K C m f) (F : FnOk X.prog X.w X.K X.mg X.base CX k f fd ps sp) (hr : Room k X.A) (hb : Binds X.K fd ps ds) (hd : Vals dvs ds) (hx : Passes CX X E) (ha : PA X (e :: es) t)
    (hst : starEach (e :: es) X.env = (false, eval e X.env) :: starEach es X.env := by rfl) (hpl : (backTo pos (starEach es X.env)).any (·.1) = false := by rfl)
    (ht : eval (.Call (.Attribute o m apos) (e :: es) [] pos) X.env = (do
      let ov ← eval o X.env
      standAt apos.atName
      let (f, first) ← holding [ov] (getMethod ov m pl)
      callWith pos f first (backTo pos (starEach (e :: es) X.env)) (backToKw pos (keywordEach [] X.env))) := by rfl) :
    PE X (.Call (.Attribute o m apos) (e :: es) [] pos) (tMeth C m sp dvs E ta t) := by
  intro pins s σ H Q I h
  refine PySem.W.methodCall_KW (pl := pl) (thn (he pins s σ H _ I h) fun u s1 ⟨x, H1, I1, rx, a, dx, fs, ex, ea, l, q⟩ => ?_) ht
  subst ex
  obtain rfl : u = Value.ref a := rx
  refine getmeth_ok I1 ea c hm l ?_
  refine PySem.W.callWith_K (first := [.ref a]) (h₀ := X.base) I.ok.mod.kin hm.kp (thn (ha pos pins s1 σ H1 _ I1 q) fun us s2 ⟨vs, H2, I2, r, q2⟩ => ⟨I2.kIn, ?_⟩) hst hpl
  exact run_fn (us := .ref a :: us) (vs := .ref a :: vs) F hr hb hd hx I2 (.cons rfl r) q2
theorem pe_meth0 {pl : Sem Bool} (he : PE X o ta) (c : Cls X.K C) (hm : Meth X.K C m f) (F : FnOk X.prog X.w X.K X.mg X.base CX k f fd ps sp) (hr : Room k X.A) (hb : Binds X.K fd ps ds) (hd : Vals dvs ds) (hx : Passes CX X E)
    (ht : eval (.Call (.Attribute o m apos) [] [] pos) X.env = (do
      let ov ← eval o X.env
      standAt apos.atName
      let (f, first) ← holding [ov] (getMethod ov m pl)
      callWith pos f first (backTo pos (starEach [] X.env)) (backToKw pos (keywordEach [] X.env))) := by rfl) :
    PE X (.Call (.Attribute o m apos) [] [] pos) (tMeth C m sp dvs E ta tNil) := by
  intro pins s σ H Q I h
  refine PySem.W.methodCall_KW (pl := pl) (thn (he pins s σ H _ I h) fun u s1 ⟨x, H1, I1, rx, a, dx, fs, ex, ea, l, q⟩ => ?_) ht
  subst ex
  obtain rfl : u = Value.ref a := rx
  refine getmeth_ok I1 ea c hm l ?_
  exact PySem.W.callWith_K0 (first := [.ref a]) I1.kIn hm.kp (run_fn (us := [.ref a]) (vs := [.ref a]) F hr hb hd hx I1 (.cons rfl .nil) q)
structure Mk (K : PySem.W.Frag) (C f : Addr) : Prop where
  makes : PySem.W.makesIn K C = true
  init : PySem.W.findIn K (.ref C) "__init__" = some (some (.ref f))
  fn : PySem.W.isFn K (.ref f) = true
  kp : PySem.W.keepIn K (.ref C) = true
theorem run_make {pins : List (Addr × Obj)} {σ : St} {H : Hp} {s : Shared} {Q : VK} {us : List Value} {vs : List V} (M : Mk X.K C f) (F : FnOk X.prog X.w X.K X.mg X.base CX k f fd ps sp) (hr : Room (k + 1) X.A) (hb : Binds X.K fd ps ds) (hd : Vals dvs ds)
    (hx : Passes CX X E) (I : Inv X pins σ H s) (r : Vals vs us)
    (h : ∀ x dx, H x = none → H dx = none → dx ≠ x → sp (.ref x :: (vs ++ dvs)) (upd (upd H dx (.own x)) x (.ins C dx [])) (fun v H2 => v = .non ∧ Q (.ref x) H2) E) :
    wpAny (model X.prog X.w) X.A (call (.ref C) us) (EP X pins σ Q) X.xe s := by
  have hq := h (s.heap.objs.size + 1) s.heap.objs.size (I.hok.fresh (Nat.le_succ _)) (I.hok.fresh (Nat.le_refl _)) (Nat.ne_of_lt (Nat.lt_succ_self _))
  have I2 := Inv.made (C := C) I
  have r2 : Vals (V.ref (s.heap.objs.size + 1) :: (vs ++ dvs)) (Value.ref (s.heap.objs.size + 1) :: (us ++ ds)) := .cons rfl (r.append hd)
  have hl : (Value.ref (s.heap.objs.size + 1) :: us ++ ds).length = ps.length := by
    have e := r2.length
    rw [F.len _ _ _ _ hq] at e
    exact e.symm
  refine wpAny_call (make_map (f := f) I.kIn M.makes M.init (beq_iff_eq.mp M.fn) (codeAny_mono (F.run _ X.stack _ _ ⟨Value.ref (s.heap.objs.size + 1) :: us, []⟩ (Value.ref (s.heap.objs.size + 1) :: (us ++ ds)) _ _ E (hr.make C us [])
    (I2.env0.make C us []) (hb _ (Value.ref (s.heap.objs.size + 1) :: us) I2.kIn hl) r2 hq) fun r s' hq' => ?_))
  cases r with
  | error e => exact hx pins σ _ _ e s' I2 hq'
  | ok fl =>
    cases fl with
    | ret u =>
      obtain ⟨v, H', I3, rv, ev, q3⟩ := I2.after hq'
      subst ev
      exact ⟨rv, ⟨V.ref (s.heap.objs.size + 1), H', I3, rfl, q3⟩⟩
    | next => exact False.elim hq'
    | brk => exact False.elim hq'
    | cont => exact False.elim hq'
theorem pe_make (M : Mk X.K C f) (F : FnOk X.prog X.w X.K X.mg X.base CX k f fd ps sp) (hr : Room (k + 1) X.A) (hg : Gl X x) (hm : X.mg x = some (.ref C)) (hb : Binds X.K fd ps ds) (hd : Vals dvs ds) (hx : Passes CX X E)
    (ha : PA X (e :: es) t) (hdb : (x == ("__debug__" : Str)) = false := by decide) (he : starEach (e :: es) X.env = (false, eval e X.env) :: starEach es X.env := by rfl) (hpl : (backTo pos (starEach es X.env)).any (·.1) = false := by rfl) :
    PE X (.Call (.Name x p) (e :: es) [] pos) (tMake C sp dvs E t) := by
  intro pins s σ H Q I h
  refine wpAny_Call_Name_kw (ld_glob I hg hm ?_ hdb)
  refine PySem.W.callWith_K (h₀ := X.base) I.ok.mod.kin M.kp (thn (ha pos pins s σ H _ I h) fun us s1 ⟨vs, H1, I1, r, q⟩ => ⟨I1.kIn, ?_⟩) he hpl
  exact run_make M F hr hb hd hx I1 r q
theorem pe_make0 (M : Mk X.K C f) (F : FnOk X.prog X.w X.K X.mg X.base CX k f fd ps sp) (hr : Room (k + 1) X.A) (hg : Gl X x) (hm : X.mg x = some (.ref C)) (hb : Binds X.K fd ps ds) (hd : Vals dvs ds) (hx : Passes CX X E)
    (hdb : (x == ("__debug__" : Str)) = false := by decide) : PE X (.Call (.Name x p) [] [] pos) (tMake C sp dvs E tNil) := by
  intro pins s σ H Q I h
  refine wpAny_Call_Name_kw (ld_glob I hg hm ?_ hdb)
  exact PySem.W.callWith_K0 I.kIn M.kp (run_make (us := []) M F hr hb hd hx I .nil h)
end
section
variable {X : Cx} {CX : CXT} {k : Nat} {f C : Addr} {fd : FuncData} {ps ks : List Str} {sp : Sp} {E : XK} {x m : Str} {p pos apos kpos : Pos} {e o : Expr} {es : List Expr} {kws : List Keyword} {te ta : TE} {t tk : TA} {nm : Option Str}
variable {g : List Value → List Value → List Value} {gV : List V → List V → List V}
end
structure FnScope (N P : List Str) (sc : Scope) : Prop where
  kind : sc.kind = .function
  co : sc.isCoroutine = false
  gen : sc.isGenerator = false
  nd : N.Nodup
  pre : N.take P.length = P
  par : ∀ x ∈ P, sc.names.lookup x = some .local ∨ sc.names.lookup x = some .cell
  nofree : ∀ y ∈ sc.names, y.2 ≠ .free
theorem bindL_out {kindOf : Str → Option NameKind} {x : Str} : ∀ {binds : List (Str × Value)} {m : Str → Option Value}, (∀ v, (x, v) ∉ binds) → bindL kindOf binds m x = m x
  | [], _, _ => rfl
  | (n, v) :: r, m, h => by
    unfold bindL
    rw [bindL_out fun w hw => h w (List.mem_cons_of_mem _ hw)]
    split
    · have : x ≠ n := by rintro rfl; exact h v List.mem_cons_self
      simp [this]
    · rfl
theorem bindC_out {kindOf : Str → Option NameKind} {x : Str} : ∀ {binds : List (Str × Value)} {m : Str → Option Value}, (∀ v, (x, v) ∉ binds) → bindC kindOf binds m x = m x
  | [], _, _ => rfl
  | (n, v) :: r, m, h => by
    unfold bindC
    rw [bindC_out fun w hw => h w (List.mem_cons_of_mem _ hw)]
    split
    · rfl
    · have : x ≠ n := by rintro rfl; exact h v List.mem_cons_self
      simp [this]
theorem bindL_get {kindOf : Str → Option NameKind} {x : Str} {v : Value} : ∀ {P : List Str} {vs : List Value} {i : Nat} {m : Str → Option Value}, P.Nodup → P[i]? = some x → vs[i]? = some v → kindOf x = some .local →
    bindL kindOf (P.zip vs) m x = some v
  | [], _, _, _, _, h, _, _ => by simp at h
  | _ :: _, [], _, _, _, _, h, _ => by simp at h
  | p :: P, w :: vs, 0, m, nd, h1, h2, hk => by
    simp at h1 h2; subst h1; subst h2
    show bindL kindOf ((p, w) :: P.zip vs) m p = _
    unfold bindL
    rw [bindL_out fun v hv => (List.nodup_cons.mp nd).1 (List.of_mem_zip hv).1, if_pos hk]
    simp
  | p :: P, w :: vs, i + 1, m, nd, h1, h2, hk => by
    show bindL kindOf ((p, w) :: P.zip vs) m x = _
    unfold bindL
    exact bindL_get (i := i) (List.nodup_cons.mp nd).2 (by simpa using h1) (by simpa using h2) hk
theorem bindC_get {kindOf : Str → Option NameKind} {x : Str} {v : Value} : ∀ {P : List Str} {vs : List Value} {i : Nat} {m : Str → Option Value}, P.Nodup → P[i]? = some x → vs[i]? = some v → kindOf x ≠ some .local →
    bindC kindOf (P.zip vs) m x = some v
  | [], _, _, _, _, h, _, _ => by simp at h
  | _ :: _, [], _, _, _, _, h, _ => by simp at h
  | p :: P, w :: vs, 0, m, nd, h1, h2, hk => by
    simp at h1 h2; subst h1; subst h2
    show bindC kindOf ((p, w) :: P.zip vs) m p = _
    unfold bindC
    rw [bindC_out fun v hv => (List.nodup_cons.mp nd).1 (List.of_mem_zip hv).1, if_neg hk]
    simp
  | p :: P, w :: vs, i + 1, m, nd, h1, h2, hk => by
    show bindC kindOf ((p, w) :: P.zip vs) m x = _
    unfold bindC
    exact bindC_get (i := i) (List.nodup_cons.mp nd).2 (by simpa using h1) (by simpa using h2) hk
def start (N : List Str) (vs : List V) : St := vs.map some ++ List.replicate (N.length - vs.length) none
def cxOf (CX : CXT) (P : Program) (w : World) (K : PySem.W.Frag) (mg : Str → Option Value) (base : Heap) (N : List Str) (qual : Str) (scope : Scope) (f : Addr) (cd : Value) (A : Around) (outer : List Env) (s : Shared) (H : Hp) (E : XK) : Cx where
  prog := P
  w := w
  K := K
  mg := mg
  base := base
  A := A.deeper (envOfC qual scope s.heap.objs.size f cd)
  N := N
  s_0 := s
  H_0 := H
  env := envOfC qual scope s.heap.objs.size f cd
  outer := outer
  stack := envOfC qual scope s.heap.objs.size f cd :: outer
  ex := []
  calm := true
  fn := fun _ => true
  pn := []
  xe := fun e s' => wpAny (model P w) (A.deeper (envOfC qual scope s.heap.objs.size f cd)) (leaving (envOfC qual scope s.heap.objs.size f cd) e) (fun _ s'' => CX outer H s E e s'') (fun e' s'' => CX outer H s E e' s'') s'
theorem cell_has {sc : Scope} {n : Nat} {x : Str} (h : sc.names.lookup x = some .cell) : ∃ c, (cellsFrom n sc.names []).lookup x = some c := by
  have q := PySem.W.cellsFrom_some sc.names n [] (.inl h)
  exact Option.isSome_iff_exists.mp q
theorem inv_start {CX : CXT} {P : Program} {w : World} {K : PySem.W.Frag} {mg : Str → Option Value} {base : Heap} {N ps : List Str} {qual : Str} {scope : Scope} {f : Addr} {cd : Value} {A : Around} {outer : List Env} {s s1 : Shared} {H : Hp} {E : XK} {us : List Value} {vs : List V}
    (S : FnScope N ps scope) (hd : A.handled = none) (e0 : Env0 P w K mg base A outer s H) (hl : vs.length = ps.length) (r : Vals vs us)
    (x : InCallC s s.heap.objs.size (bindL (envOfC qual scope s.heap.objs.size f cd).kindOf (ps.zip us) fun _ => none) (cellsFrom (s.heap.objs.size + 1) scope.names []) (bindC (envOfC qual scope s.heap.objs.size f cd).kindOf (ps.zip us) fun _ => none) s1) :
    Inv (cxOf CX P w K mg base N qual scope f cd A outer s H E) [] (start N vs) H s1 := by
  have hpl : ps.length ≤ N.length := by have := congrArg List.length S.pre; rw [List.length_take] at this; omega
  obtain ⟨h1, tk, rfl, hk⟩ := x.done
  have noA : ∀ b : Addr, b ∉ (cxOf CX P w K mg base N qual scope f cd A outer s H E).ex := fun b z => absurd (show b ∈ ([] : List Addr) from z) (by simp)
  refine ⟨⟨e0.mod, S.kind, rfl, rfl, Nat.le_refl _, fun y z c h1 h2 => ?_, fun y hy => ?_, fun y c _ h => ?_, fun _ => hd, Around.frames_deeper e0.frames, .inr ⟨rfl, rfl⟩, fun b z => absurd z (noA b), e0.bs, e0.bsz, fun b _ _ => noA b, fun b z => absurd z (noA b), e0.funs, e0.frf⟩,
    rfl, e0.bare, Un.kept hk, ⟨_, x.toInCall.ns, fun i y v h1 h2 h3 => ?_⟩, fun y c h => ⟨_, x.cell y c h⟩, e0.hok.fresh (Nat.le_refl _), fun y c h => ?_, fun p hp => absurd (show p ∈ ([] : List (Addr × Obj)) from hp) (by simp), e0.hok.kept hk, ?_⟩
  · exact name_of_addr x.apart (PySem.mem_of_lookup h1) (PySem.mem_of_lookup h2)
  · have hy : scope.names.lookup y = some .cell ∨ scope.names.lookup y = some .free := hy
    rcases hy with hy | hy
    · exact cell_has hy
    · exact absurd rfl (S.nofree _ (PySem.mem_of_lookup hy))
  · exact Nat.le_of_lt (x.above y c (PySem.mem_of_lookup h))
  · have hi : i < vs.length := by
      unfold start at h2
      by_cases hi : i < vs.length
      · exact hi
      · rw [List.getElem?_append_right (by simpa using hi)] at h2
        rw [List.getElem?_replicate] at h2
        split at h2 <;> cases h2
    have ha : vs[i]? = some v := by
      unfold start at h2
      rw [List.getElem?_append_left (by simpa using hi), List.getElem?_map] at h2
      cases e : vs[i]? with
      | none => rw [e] at h2; cases h2
      | some a => rw [e] at h2; cases h2; rfl
    obtain ⟨u, hu, rv⟩ := r.get ha
    have hp : ps[i]? = some y := by
      rw [← S.pre, List.getElem?_take_of_lt (by omega)]; exact h1
    have ndP : ps.Nodup := by rw [← S.pre]; exact S.nd.sublist (List.take_sublist _ _)
    refine ⟨u, rv, ?_⟩
    rcases S.par y (List.mem_of_getElem? hp) with k | k
    · exact .inl ⟨k, bindL_get ndP hp hu k⟩
    · obtain ⟨c, e⟩ := cell_has (n := s.heap.objs.size + 1) k
      refine .inr ⟨.inl k, c, e, ?_⟩
      have q := x.cell y c e
      rw [bindC_get ndP hp hu (by show scope.names.lookup y ≠ _; rw [k]; decide)] at q
      exact q
  · exact e0.hok.fresh (Nat.le_of_lt (x.above y c (PySem.mem_of_lookup h)))
  · unfold start
    show _ = N.length
    rw [List.length_append, List.length_map, List.length_replicate]
    omega
theorem fn_of {CX : CXT} {P : Program} {w : World} {K : PySem.W.Frag} {mg : Str → Option Value} {base : Heap} {k : Nat} {f : Addr} {name qual : Str} {params : Arguments} {body : List Stmt} {scope : Scope} {dV kV doc pm cdv ct oc : Value} {an od : Option Addr}
    {osl : Array (Option Value)} {N ps : List Str} {sp : Sp} (lk : K.lookup f = some ⟨oc, od, .func (PySem.W.fnOf name qual params body scope dV kV doc pm an cdv ct), osl⟩) (hcd : PySem.W.codeIn K cdv qual = true) (S : FnScope N ps scope)
    (len : ∀ vs H Q E, sp vs H Q E → vs.length = ps.length)
    (hbody : ∀ (A : Around) (outer : List Env) (s : Shared) (H : Hp) (vs : List V) (Q : VK) (E : XK), Room k (A.deeper (envOfC qual scope s.heap.objs.size f cdv)) → sp vs H Q E →
      ∃ t, PSs (cxOf CX P w K mg base N qual scope f cdv A outer s H E) body t ∧ t { nx := fun _ H' => Q .non H', rt := Q } (start N vs) H) :
    FnOk P w K mg base CX (k + 1) f (PySem.W.fnOf name qual params body scope dV kV doc pm an cdv ct) ps sp := by
  refine ⟨len, fun A outer s H args us vs Q E hr e0 hb r hsp => ?_⟩
  have hl := len _ _ _ _ hsp
  have KX : K.In s.heap := e0.mod.kin.keeps fun b o e => (e0.bs b o e).1
  have lim : s.heap.NoLimit := e0.mod.nolimit.keeps fun b o e => (e0.bs b o e).1
  have hkind : ∀ y ∈ ps.zip us, scope.names.lookup y.1 = some .local ∨ (scope.names.lookup y.1 = some .cell ∧ ((cellsFrom (s.heap.objs.size + 1) scope.names []).lookup y.1).isSome = true) := fun ⟨n, v⟩ hy => by
    rcases S.par n (List.of_mem_zip hy).1 with q | q
    · exact .inl q
    · exact .inr ⟨q, PySem.W.cellsFrom_some _ _ _ (.inl q)⟩
  refine codeAny_call_function hr.depth (KX _ _ lk) rfl S.co S.gen rfl (PySem.W.codeRec_of KX hcd) (hb _ _ _ _ ?_)
  refine wpAny_newFunctionEnv_cells S.kind hkind fun env he s1 x => ?_
  subst he
  refine ⟨lim.keeps x.toInCall.keep, codeAny_func ?_⟩
  obtain ⟨t, ht, hq⟩ := hbody A outer s H vs Q E (hr.deeper _) hsp
  have I : Inv (cxOf CX P w K mg base N qual scope f cdv A outer s H E) [] (start N vs) H s1 := inv_start S hr.hd e0 hl r x
  refine wpAny_mono (ht [] s1 (start N vs) H _ I hq) (fun fl s' hs => ?_) fun e s' hs => hs
  have fin : ∀ {σ' : St} {H' : Hp} {v : V} {u : Value}, Inv (cxOf CX P w K mg base N qual scope f cdv A outer s H E) [] σ' H' s' → RelV v u → Q v H' → CE outer P w H s Q u s' :=
    fun {σ' H' v u} J rv q => ⟨v, H', J.os, J.bare, J.base, J.hok, rv, q⟩
  cases fl with
  | ret u =>
    obtain ⟨v, σ', H', J, rv, q⟩ := hs
    exact fin J rv q
  | next =>
    obtain ⟨σ', H', J, q⟩ := hs
    exact fin (v := V.non) (u := Value.none) J rfl q
  | brk =>
    obtain ⟨_, _, _, q⟩ := hs
    exact False.elim q
  | cont =>
    obtain ⟨_, _, _, q⟩ := hs
    exact False.elim q
end L2
namespace L2
open PySem PySem.Spec PyProof.Rows
section
variable {X : Cx} {x : Str} {p pos : Pos} {e : Expr} {es : List Expr} {t : TA} {id T : String} {r : List V → Hp → VK → Prop}
def tCB (r : List V → Hp → VK → Prop) (t : TA) : TE := fun σ H Q => t σ H fun vs H1 => r vs H1 Q
theorem pe_callB (hc : CallR X (.builtin id) r) (hg : Gl X x) (hm : X.mg x = none) (hv : bootBuiltins x = some (.builtin id)) (ha : PA X (e :: es) t) (hn : x ≠ "__name__" := by decide) (hdb : (x == ("__debug__" : Str)) = false := by decide)
    (he : starEach (e :: es) X.env = (false, eval e X.env) :: starEach es X.env := by rfl) (hpl : (backTo pos (starEach es X.env)).any (·.1) = false := by rfl) : PE X (.Call (.Name x p) (e :: es) [] pos) (tCB r t) := by
  intro pins s σ H Q I h
  refine wpAny_Call_Name_kw (ld_blt I hg hm hv ?_ hn hdb)
  exact PyProof.Rows.callWith_builtin1 (thn (ha pos pins s σ H _ I h) fun us s1 ⟨vs, H1, I1, r1, q1⟩ => hc pins s1 σ H1 vs us Q I1 r1 q1) he hpl
theorem pe_callTy (hc : CallR X (.type T) r) (hg : Gl X x) (hm : X.mg x = none) (hv : bootBuiltins x = some (.type T)) (ha : PA X (e :: es) t) (hn : x ≠ "__name__" := by decide) (hdb : (x == ("__debug__" : Str)) = false := by decide)
    (he : starEach (e :: es) X.env = (false, eval e X.env) :: starEach es X.env := by rfl) (hpl : (backTo pos (starEach es X.env)).any (·.1) = false := by rfl) : PE X (.Call (.Name x p) (e :: es) [] pos) (tCB r t) := by
  intro pins s σ H Q I h
  refine wpAny_Call_Name_kw (ld_blt I hg hm hv ?_ hn hdb)
  exact PyProof.Rows.callWith_type1 (thn (ha pos pins s σ H _ I h) fun us s1 ⟨vs, H1, I1, r1, q1⟩ => hc pins s1 σ H1 vs us Q I1 r1 q1) he hpl
end
end L2
namespace HT
open PySem PyProof.Rows
section
open PySem.SeqAt
open PySem.AutoSeq1 (wpAny_loadPart')
open PySem.MeetsSeq PySem.MeetsSeq2 PySem.MeetsSeq3
end
section
variable {prog : Program} {w : World} {A : Around} {E : Value → Shared → Prop} {s : Shared}
theorem cat_tup {t b : Addr} {vs ws : List Value} {Q : Value → Shared → Prop} (ht : IsTup s.heap t vs.toArray) (hb : IsTup s.heap b ws.toArray) (hv : vs ≠ [])
    (h1 : ws = [] → Q (.ref t) s) (h2 : ws ≠ [] → Q (.ref s.heap.objs.size) { s with heap := s.heap.push { cls := .type "tuple", data := .seq (vs ++ ws).toArray } })
    (hsz : vs.length + ws.length ≤ sizeLine) : wpAny (model prog w) A (binaryOp .Add (.ref t) (.ref b)) Q E s := by
  obtain ⟨⟨cls, dd, data, sl⟩, ho, hc, n, hd⟩ := id ht
  obtain ⟨⟨cls2, dd2, data2, sl2⟩, ho2, hc2, n2, hd2⟩ := id hb
  simp only at hc hd hc2 hd2
  subst hc hd hc2 hd2
  have e : vs.toArray ++ ws.toArray = (vs ++ ws).toArray := by simp
  by_cases hw : ws = []
  · exact concat_meets ⟨_, ho, rfl⟩ ⟨_, ho2, rfl⟩ noFill_tuple_add seq_tuple_add PySem.F.slot_tuple_add PySem.F.entry_tuple_add (PySem.F.args_tuple_add_2 _ _)
      (tuple_addW1 t b vs.toArray ws.toArray n n2 dd dd2 sl sl2 (by simpa using hv) (by simp [hw])) ⟨ho, ho2, h1 hw⟩
  · refine concat_meets ⟨_, ho, rfl⟩ ⟨_, ho2, rfl⟩ noFill_tuple_add seq_tuple_add PySem.F.slot_tuple_add PySem.F.entry_tuple_add (PySem.F.args_tuple_add_2 _ _)
      (tuple_addW2 t b vs.toArray ws.toArray n n2 dd dd2 sl sl2 (by simpa using hv) (by simpa using hw) (by rw [List.size_toArray, List.size_toArray]; exact hsz)) ⟨ho, ho2, ?_⟩
    rw [e]
    exact h2 hw
def sIx (n d : Nat) : Option Int → Nat
  | none => d
  | some v => if v < 0 then (v + (n : Int)).toNat else min v.toNat n
theorem sIx_none (n d : Nat) : sIx n d none = d := rfl
theorem sIx_nat (n d k : Nat) : sIx n d (some (k : Int)) = min k n := by
  show (if (k : Int) < 0 then ((k : Int) + (n : Int)).toNat else min (k : Int).toNat n) = min k n
  rw [if_neg (by omega), Int.toNat_natCast]
theorem sIx_le (n d : Nat) (hd : d ≤ n) (o : Option Int) : sIx n d o ≤ n := by
  cases o with
  | none => exact hd
  | some v =>
    show (if v < 0 then (v + (n : Int)).toNat else min v.toNat n) ≤ n
    by_cases hv : v < 0
    · rw [if_pos hv]; omega
    · rw [if_neg hv]; exact Nat.min_le_right _ _
theorem clip_eq (v : Int) (n d : Nat) : (if v < 0 then max (v + (n : Int)) 0 else min v (n : Int)) = ((sIx n d (some v) : Nat) : Int) := by
  show (if v < 0 then max (v + (n : Int)) 0 else min v (n : Int)) = (((if v < 0 then (v + (n : Int)).toNat else min v.toNat n) : Nat) : Int)
  by_cases hv : v < 0
  · simp only [if_pos hv]; omega
  · simp only [if_neg hv]; omega
theorem adjust_gen (lo hi : Option Int) (n : Nat) : Builtin.Slice.sliceAdjust lo hi 1 (n : Int) = (((sIx n 0 lo : Nat) : Int), ((sIx n n hi : Nat) : Int)) := by
  have h1 : ¬ ((1 : Int) < 0) := by omega
  unfold Builtin.Slice.sliceAdjust
  simp only [h1, if_false]
  refine Prod.ext ?_ ?_
  · cases lo with
    | none => rfl
    | some v => exact clip_eq v n 0
  · cases hi with
    | none => rfl
    | some v => exact clip_eq v n n
theorem places_gen (i j : Nat) : Builtin.Slice.slicePlaces (i : Int) (j : Int) 1 = j - i := by
  unfold Builtin.Slice.slicePlaces
  have h1 : (1 : Int) > 0 := by omega
  simp only [h1, if_true, Int.ediv_one]
  split <;> omega
theorem slicePart_ {v : Value} {o : Option Int} {Q : Option Int → Shared → Prop} (p : IsPart v o) (h : Q o s) : wpAny (model prog w) A (Builtin.Slice.slicePartIndex v) Q E s := by
  cases p with
  | none => exact slicePart_none h
  | int i t => exact slicePart_int h
theorem sliceApplied_gen {sl : Addr} {vl vu : Value} {lo hi : Option Int} {n : Nat} {Q : Int × Int × Nat → Shared → Prop} (hs : s.heap.IsSliceOf sl vl vu .none) (pl : IsPart vl lo) (pu : IsPart vu hi)
    (h : Q (((sIx n 0 lo : Nat) : Int), 1, sIx n n hi - sIx n 0 lo) s) : wpAny (model prog w) A (Builtin.Slice.sliceApplied (.ref sl) (pure (n : Int))) Q E s := by
  obtain ⟨os, hos, hcs, hds⟩ := id hs
  unfold Builtin.Slice.sliceApplied Builtin.Slice.sliceFields
  refine wpAny_bind (wpAny_bind (wpAny_field hos hds (x := vl) rfl (wpAny_bind (wpAny_field hos hds (x := vu) rfl (wpAny_bind (wpAny_field hos hds (x := .none) rfl (wpAny_pure ?_)))))))
  refine wpAny_bind (slicePart_none ?_)
  show wpAny _ _ (if ((1 : Int) == 0) = true then _ else _) _ _ s
  rw [if_neg (by decide)]
  refine wpAny_bind (slicePart_ pl (wpAny_bind (slicePart_ pu (wpAny_bind (wpAny_pure ?_)))))
  show wpAny _ _ (match Builtin.Slice.sliceAdjust lo hi 1 (n : Int) with | (lo, hi) => pure (lo, (1 : Int), Builtin.Slice.slicePlaces lo hi 1)) _ _ s
  rw [adjust_gen lo hi n]
  show wpAny _ _ (pure (((sIx n 0 lo : Nat) : Int), (1 : Int), Builtin.Slice.slicePlaces ((sIx n 0 lo : Nat) : Int) ((sIx n n hi : Nat) : Int) 1)) _ _ s
  rw [places_gen]
  exact wpAny_pure h
theorem pick_gen (xs : Array Value) (i k : Nat) : ((List.range k).filterMap fun (m : Nat) => xs[((i : Int) + (m : Int) * 1).toNat]?).toArray = ((xs.toList.drop i).take k).toArray := by
  have e : (fun (m : Nat) => xs[((i : Int) + (m : Int) * 1).toNat]?) = fun m => xs[i + m]? := by
    funext m
    have : ((i : Int) + (m : Int) * 1).toNat = i + m := by omega
    rw [this]
  rw [e]
  have := pick_run xs i k
  rw [List.filterMap_map] at this
  have e2 : ((fun x => xs[x]?) ∘ fun x => i + x) = fun m => xs[i + m]? := rfl
  rw [e2] at this
  rw [this]
theorem getItem_tuple_cut {t sl : Addr} {items : Array Value} {vl vu : Value} {lo hi : Option Int} {Q : Value → Shared → Prop} (ht : IsTup s.heap t items) (hs : s.heap.IsSliceOf sl vl vu .none) (pl : IsPart vl lo) (pu : IsPart vu hi)
    (hw : ¬ (sIx items.size 0 lo = 0 ∧ sIx items.size items.size hi = items.size))
    (h : Q (.ref s.heap.objs.size) { s with heap := s.heap.push { cls := .type "tuple", data := .seq ((items.toList.drop (sIx items.size 0 lo)).take (sIx items.size items.size hi - sIx items.size 0 lo)).toArray } })
    (hsz : items.size ≤ sizeLine) : wpAny (model prog w) A (getItem (.ref t) (.ref sl)) Q E s := by
  have htake : sizeOk (.seq ((items.toList.drop (sIx items.size 0 lo)).take (sIx items.size items.size hi - sIx items.size 0 lo)).toArray) := by
    show ((items.toList.drop (sIx items.size 0 lo)).take (sIx items.size items.size hi - sIx items.size 0 lo)).toArray.size ≤ sizeLine
    rw [List.size_toArray, List.length_take, List.length_drop, Array.length_toList]
    omega
  have hj : sIx items.size items.size hi ≤ items.size := sIx_le _ _ (Nat.le_refl _) hi
  obtain ⟨os, hos, hcs, hds⟩ := id hs
  have hTs : s.TypeIs (.ref sl) "slice" := ⟨os, hos, hcs⟩
  unfold getItem
  try with_reducible refine wpAny_holding ?_
  first | refine wpAny_bind (wpAny_pure ?_) | skip
  refine wpAny_bind (wpAny_sequenceKey ht.typeIs (by decide) ?_)
  refine wpAny_bind (wpAny_callSpecial?_slot (name := Str.ofString "__getitem__") ht.typeIs PyProof.Rows.slot_tuple_getitem
    (wpAny_call_entry PyProof.Rows.slot_tuple_getitem ht.typeIs entry_tuple_getitem ?_ (args_tuple_getitem _ _)))
  show wpAny _ _ (Builtin.Tuple.tupleItemsOf (.ref t) >>= _) _ _ s
  refine wpAny_bind (tupleItemsOf_ ht ?_)
  refine wpAny_bind (wpAny_typeOf hTs ?_)
  rw [if_pos (by decide)]
  refine wpAny_bind (sliceApplied_gen hs pl pu ?_)
  have hno : ¬ ((((sIx items.size 0 lo : Nat) : Int) == 0 && (1 : Int) == 1 && (sIx items.size items.size hi - sIx items.size 0 lo) == items.size) = true) := by
    intro q
    rw [Bool.and_eq_true, Bool.and_eq_true] at q
    have q1 : ((sIx items.size 0 lo : Nat) : Int) = 0 := eq_of_beq q.1.1
    have q2 : sIx items.size items.size hi - sIx items.size 0 lo = items.size := eq_of_beq q.2
    exact hw ⟨by omega, by omega⟩
  show wpAny _ _ (if (((sIx items.size 0 lo : Nat) : Int) == 0 && (1 : Int) == 1 && (sIx items.size items.size hi - sIx items.size 0 lo) == items.size) = true then _ else _) _ _ s
  rw [if_neg hno, pick_gen]
  first
    | exact wpAny_bind (m := Builtin.Tuple.tupleExact _) (wpAny_newObj_type (wpAny_pure ⟨_, rfl, wpAny_pure h⟩) htake)
    | exact wpAny_bind (m := Builtin.Tuple.tupleExact _) (wpAny_newObj_type (wpAny_bind (wpAny_pure (wpAny_pure ⟨_, rfl, wpAny_pure h⟩))) htake)
    | exact wpAny_bind (wpAny_bind (m := Builtin.Tuple.tupleExact _) (wpAny_newObj_type (wpAny_pure (wpAny_pure ⟨_, rfl, wpAny_pure h⟩)) htake))
    | exact wpAny_bind (wpAny_bind (m := Builtin.Tuple.tupleExact _) (wpAny_newObj_type (wpAny_pure ⟨_, rfl, wpAny_pure h⟩) htake))
end
end HT
namespace L2
open PySem PySem.Spec PyProof.Rows
abbrev TO := St → Hp → (Option Int → Hp → Prop) → Prop
def PO (X : Cx) (e : Option Expr) (t : TO) : Prop :=
  ∀ (pins : List (Addr × Obj)) (s : Shared) (σ : St) (H : Hp) (Q : Option Int → Hp → Prop), Inv X pins σ H s → t σ H Q →
    wpAny (model X.prog X.w) X.A (evalPart e X.env) (fun u s' => ∃ o H', Inv X pins σ H' s' ∧ IsPart u o ∧ Q o H') X.xe s
def tNoPart : TO := fun _ H Q => Q none H
def tPart (t : TE) : TO := fun σ H Q => t σ H fun x H1 => ∃ i, x = .int i ∧ Q (some i) H1
section
variable {X : Cx} {e : Expr} {te : TE} {lo hi : Option Expr} {tl th : TO} {pos p2 : Pos}
theorem po_none : PO X none tNoPart := by
  intro pins s σ H Q I h
  rw [evalPart_none]
  exact wpAny_pure ⟨none, H, I, .none, h⟩
theorem po_some (h : PE X e te) : PO X (some e) (tPart te) := by
  intro pins s σ H Q I hw
  rw [evalPart_some]
  refine thn (h pins s σ H _ I hw) fun u s1 ⟨x, H1, I1, r1, q1⟩ => ?_
  obtain ⟨i, rfl, q⟩ := q1
  obtain ⟨t, rfl⟩ := r1
  exact ⟨some i, H1, I1, .int i t, q⟩
def SlR (X : Cx) (r : V → Option Int → Option Int → Hp → VK → Prop) : Prop :=
  ∀ (pins : List (Addr × Obj)) (s : Shared) (σ : St) (H : Hp) (x : V) (v vl vu : Value) (lo hi : Option Int) (sl : Addr) (Q : VK), Inv X pins σ H s → RelV x v → s.heap.IsSliceOf sl vl vu .none → IsPart vl lo → IsPart vu hi → r x lo hi H Q →
    ∃ T id, typeLookup (.type T) "__getitem__" = pure (some (.builtin id)) ∧ s.TypeIs v T ∧ wpAny (model X.prog X.w) X.A (getItem v (.ref sl)) (EP X pins σ Q) X.xe s
def tSl (r : V → Option Int → Option Int → Hp → VK → Prop) (te : TE) (tl th : TO) : TE := fun σ H Q => te σ H fun x H1 => tl σ H1 fun l H2 => th σ H2 fun u H3 => r x l u H3 Q
theorem pe_slice {r : V → Option Int → Option Int → Hp → VK → Prop} (hr : SlR X r) (he : PE X e te) (hl : PO X lo tl) (hu : PO X hi th) : PE X (.Subscript e (.Slice lo hi none p2) pos) (tSl r te tl th) := by
  intro pins s σ H Q I h
  refine Subscript_ (thn (he pins s σ H _ I h) fun v s1 ⟨x, H1, I1, r1, q1⟩ => ?_)
  refine wpAny_Slice (thn (hl pins s1 σ H1 _ I1 q1) fun vl s2 ⟨l, H2, I2, pl, q2⟩ => thn (hu pins s2 σ H2 _ I2 q2) fun vu s3 ⟨u, H3, I3, pu, q3⟩ => ?_)
  rw [evalPart_none]
  refine wpAny_pure ?_
  have I4 : Inv X pins σ H3 { s3 with heap := s3.heap.push { cls := .type "slice", data := .fields #[vl, vu, .none] } } := I3.kept (t' := s3.toks) fun b ob q => Heap.get?_push_of_some _ q
  obtain ⟨T, id, hT, ht, hg⟩ := hr pins { s3 with heap := s3.heap.push { cls := .type "slice", data := .fields #[vl, vu, .none] } } σ H3 x v vl vu l u s3.heap.objs.size Q I4 r1 (Heap.IsSliceOf.new ..) pl pu q3
  show wpAny (model X.prog X.w) X.A (subscriptTail e (.Slice lo hi none p2) v (.ref s3.heap.objs.size)) (EP X pins σ Q) X.xe { s3 with heap := s3.heap.push { cls := .type "slice", data := .fields #[vl, vu, .none] } }
  exact tail_any (ops := [.ref s3.heap.objs.size, v]) ht hT hg (by with_unfolding_all rfl)
def cutV (xs : List V) (lo hi : Option Int) : List V := (xs.drop (HT.sIx xs.length 0 lo)).take (HT.sIx xs.length xs.length hi - HT.sIx xs.length 0 lo)
theorem cutV_length (xs : List V) (lo hi : Option Int) : (cutV xs lo hi).length ≤ xs.length := by
  unfold cutV
  rw [List.length_take, List.length_drop]
  omega
def rSlT (K : PySem.W.Frag) : V → Option Int → Option Int → Hp → VK → Prop := fun x lo hi H Q => ∃ a xs, x = .ref a ∧ SqT K H a xs ∧
  ¬ (HT.sIx xs.length 0 lo = 0 ∧ HT.sIx xs.length xs.length hi = xs.length) ∧ ∀ p, H p = none → Q (.ref p) (upd H p (.tup (cutV xs lo hi)))
theorem sl_tup : SlR X (rSlT X.K) := by
  intro pins s σ H x v vl vu lo hi sl Q I rx hs pl pu h
  obtain ⟨a, xs, rfl, hx, hw, q⟩ := h
  cases rx
  obtain ⟨its, r, ht, hz⟩ := I.tuple hx
  have hlen : its.toArray.size = xs.length := by rw [List.size_toArray]; exact r.length.symm
  refine ⟨"tuple", _, PyProof.Rows.slot_tuple_getitem.lookup, ht.typeIs, ?_⟩
  refine HT.getItem_tuple_cut ht hs pl pu (by rw [hlen]; exact hw) ?_ (by rw [hlen]; exact hz)
  rw [hlen]
  refine ⟨.ref s.heap.objs.size, _, I.laid (t' := s.toks) (o := .tup (cutV xs lo hi)) (fun b ob q => Heap.get?_push_of_some _ q) (Nat.le_refl _) ?_, rfl, q _ (I.hok.fresh (Nat.le_refl _))⟩
  exact ⟨Nat.le_trans (cutV_length xs lo hi) hz, _, (r.drop (HT.sIx xs.length 0 lo)).take (HT.sIx xs.length xs.length hi - HT.sIx xs.length 0 lo), IsTup.new _ _⟩
def rCatT (K : PySem.W.Frag) : R2 := fun x y H Q => ∃ a b xs ys, x = .ref a ∧ y = .ref b ∧ SqT K H a xs ∧ SqT K H b ys ∧ xs ≠ [] ∧ xs.length + ys.length ≤ sizeLine ∧
  (ys = [] → Q (.ref a) H) ∧ (ys ≠ [] → ∀ p, H p = none → Q (.ref p) (upd H p (.tup (xs ++ ys))))
theorem Vals.nil_iff {xs : List V} {us : List Value} (r : Vals xs us) : us = [] ↔ xs = [] := by
  cases r with
  | nil => simp
  | cons _ _ => simp
theorem op_catT : OpR X (binaryOp .Add) (rCatT X.K) := by
  intro pins s σ H x y v u Q I rx ry h
  obtain ⟨a, b, xs, ys, rfl, rfl, ha, hb, hx, hz, q1, q2⟩ := h
  cases rx
  cases ry
  obtain ⟨its, r1, p1, _⟩ := I.tuple ha
  obtain ⟨its2, r2, p2, _⟩ := I.tuple hb
  refine HT.cat_tup p1 p2 (fun z => hx (r1.nil_iff.mp z)) (fun z => ⟨.ref a, H, I, rfl, q1 (r2.nil_iff.mp z)⟩) (fun z => ?_) (by rw [← r1.length, ← r2.length]; exact hz)
  refine ⟨.ref s.heap.objs.size, _, I.laid (t' := s.toks) (o := .tup (xs ++ ys)) (fun b ob q => Heap.get?_push_of_some _ q) (Nat.le_refl _) ?_, rfl, q2 (fun w => z (r2.nil_iff.mpr w)) _ (I.hok.fresh (Nat.le_refl _))⟩
  exact ⟨by rw [List.length_append]; exact hz, _, r1.append r2, IsTup.new _ _⟩
end
end L2
namespace L2
open PySem PySem.Spec PyProof.Rows
def ixN (n : Nat) (i : Int) : Option Nat := if 0 ≤ i then (if i < n then some i.toNat else none) else if -(n : Int) ≤ i then some (i + n).toNat else none
def atI {α : Type} (xs : List α) (i : Int) : Option α := (ixN xs.length i).bind fun j => xs[j]?
theorem ixN_seq {n : Nat} {i : Int} {j : Nat} (h : ixN n i = some j) : seqIndex? i n = some j ∧ j < n ∧ -(n : Int) ≤ i ∧ i < n := by
  unfold ixN at h
  by_cases h0 : 0 ≤ i
  · rw [if_pos h0] at h
    by_cases h1 : i < n
    · rw [if_pos h1] at h
      have e : i.toNat = j := Option.some.inj h
      exact ⟨by rw [seqIndex_of h0 h1, e], by omega, by omega, h1⟩
    · rw [if_neg h1] at h; cases h
  · rw [if_neg h0] at h
    by_cases h1 : -(n : Int) ≤ i
    · rw [if_pos h1] at h
      have e : (i + n).toNat = j := Option.some.inj h
      exact ⟨by rw [seqIndex_neg (by omega) h1, e], by omega, h1, by omega⟩
    · rw [if_neg h1] at h; cases h
theorem atI_get {α : Type} {xs : List α} {i : Int} {v : α} (h : atI xs i = some v) : ∃ j, seqIndex? i xs.length = some j ∧ xs[j]? = some v ∧ j < xs.length ∧ -(xs.length : Int) ≤ i ∧ i < xs.length := by
  unfold atI at h
  cases e : ixN xs.length i with
  | none => rw [e] at h; cases h
  | some j =>
    rw [e] at h
    obtain ⟨h1, h2, h3, h4⟩ := ixN_seq e
    exact ⟨j, h1, h, h2, h3, h4⟩
theorem atI_nat {α : Type} {xs : List α} {j : Nat} {v : α} (h : xs[j]? = some v) : atI xs (j : Int) = some v := by
  have hj : j < xs.length := (List.getElem?_eq_some_iff.mp h).1
  have e : ixN xs.length (j : Int) = some j := by
    unfold ixN
    rw [if_pos (by omega), if_pos (by omega)]; simp
  unfold atI; rw [e]; exact h
def PlainIx (b : Expr) : Prop := ∀ o i, subscripted b false o i = operate [o, i] (getItem o i)
def IxR (X : Cx) (r : R2) : Prop :=
  ∀ (value slice : Expr) (pins : List (Addr × Obj)) (s : Shared) (σ : St) (H : Hp) (x y : V) (v u : Value) (Q : VK), Inv X pins σ H s → RelV x v → RelV y u → r x y H Q →
    subscripted slice false v u = operate [v, u] (getItem v u) → wpAny (model X.prog X.w) X.A (subscriptTail value slice v u) (EP X pins σ Q) X.xe s
def MtR (X : Cx) (id : String) (r : V → List V → Hp → VK → Prop) : Prop :=
  ∀ (pins : List (Addr × Obj)) (s : Shared) (σ : St) (H : Hp) (x : V) (xs : List V) (v : Value) (us : List Value) (Q : VK), Inv X pins σ H s → RelV x v → Vals xs us → r x xs H Q →
    wpAny (model X.prog X.w) X.A (call (.builtin id) (v :: us)) (EP X pins σ Q) X.xe s
section
variable {X : Cx} {a b : Expr} {ta tb : TE} {pos : Pos}
theorem pe_ix {r : R2} (hr : IxR X r) (ha : PE X a ta) (hb : PE X b tb) (hs : PlainIx b) : PE X (.Subscript a b pos) (tOp r ta tb) := by
  intro pins s σ H Q I h
  exact Subscript_ (binT ha hb I h fun v u s2 x y H2 I2 rx ry q => hr a b pins s2 σ H2 x y v u Q I2 rx ry q (hs _ _))
def rIxL (K : PySem.W.Frag) : R2 := fun x y H Q => ∃ p xs i v, x = .ref p ∧ y = .int i ∧ SqL K H p xs ∧ atI xs i = some v ∧ Q v H
def rIxT (K : PySem.W.Frag) : R2 := fun x y H Q => ∃ p xs i v, x = .ref p ∧ y = .int i ∧ SqT K H p xs ∧ atI xs i = some v ∧ Q v H
theorem ix_list : IxR X (rIxL X.K) := by
  intro value slice pins s σ H x y v u Q I rx ry h hs
  obtain ⟨p, xs, i, z, rfl, rfl, hq, he, q⟩ := h
  cases rx
  obtain ⟨t, rfl⟩ := ry
  obtain ⟨its, r, pl, hz⟩ := I.list hq
  obtain ⟨j, h1, h2, h3, h4, h5⟩ := atI_get he
  obtain ⟨w, ew, rw'⟩ := r.get h2
  have hl := r.length
  have hn := line63
  have fin : EP X pins σ Q w s := ⟨z, H, I, rw', q⟩
  by_cases h0 : 0 ≤ i
  · have hj : i.toNat = j := by
      rw [seqIndex_of h0 h5] at h1
      exact Option.some.inj h1
    exact item_listR pl.isList h0 (by omega) (by rw [hj]; simpa using ew) fin hs
  · have hj : (i + (its.toArray.size : Int)).toNat = j := by
      rw [seqIndex_neg (by omega) h4] at h1
      rw [List.size_toArray, ← hl]
      exact Option.some.inj h1
    exact subscriptTail_builtinR (x := w) pl.isList.typeIs slot_list_getitem.lookup
      (wpAny_getItem_list_neg (Q := fun r s' => r = w ∧ EP X pins σ Q r s') pl.isList (by omega) (by rw [List.size_toArray] <;> omega) (by omega) (by rw [hj]; simpa using ew) ⟨rfl, fin⟩) hs
theorem ix_tup : IxR X (rIxT X.K) := by
  intro value slice pins s σ H x y v u Q I rx ry h hs
  obtain ⟨p, xs, i, z, rfl, rfl, hq, he, q⟩ := h
  cases rx
  obtain ⟨t, rfl⟩ := ry
  obtain ⟨its, r, pl, hz⟩ := I.tuple hq
  obtain ⟨j, h1, h2, h3, h4, h5⟩ := atI_get he
  obtain ⟨w, ew, rw'⟩ := r.get h2
  have hl := r.length
  have hn := line63
  have fin : EP X pins σ Q w s := ⟨z, H, I, rw', q⟩
  exact subscriptTail_builtinR (x := w) pl.typeIs slot_tuple_getitem.lookup
    (getItem_tuple (j := j) (Q := fun r s' => r = w ∧ EP X pins σ Q r s') pl (by omega) (by omega) (by rw [List.size_toArray, ← hl]; exact h1) (by simpa using ew) ⟨rfl, fin⟩) hs
theorem mapSeq_set (its : List Value) (n j : Nat) (u : Value) : Obj.mapSeq (·.setIfInBounds j u) { cls := .type "list", data := .seq its.toArray n } = { cls := .type "list", data := .seq (its.set j u).toArray n } := by
  simp [Obj.mapSeq]
theorem Inv.lst {pins : List (Addr × Obj)} {σ : St} {H : Hp} {s : Shared} {p : Addr} {xs : List V} (I : Inv X pins σ H s) (h : H p = some (.lst xs)) :
    ∃ (its : List Value) (n : Nat), Vals xs its ∧ s.heap.get? p = some { cls := .type "list", data := .seq its.toArray n } ∧ xs.length ≤ sizeLine := by
  obtain ⟨z, its, n, r, e⟩ := I.hok p _ h
  exact ⟨its, n, r, e, z⟩
theorem Inv.lstUpd {pins : List (Addr × Obj)} {σ : St} {H : Hp} {s : Shared} {p : Addr} {xs ys : List V} {its its' : List Value} {n n' : Nat} {f : Obj → Obj} (I : Inv X pins σ H s) (h : H p = some (.lst xs))
    (ho : s.heap.get? p = some { cls := .type "list", data := .seq its.toArray n }) (hf : f { cls := .type "list", data := .seq its.toArray n } = { cls := .type "list", data := .seq its'.toArray n' }) (r : Vals ys its') (hz : ys.length ≤ sizeLine) (t : Nat) :
    Inv X pins σ (upd H p (.lst ys)) { s with heap := s.heap.update p f, toks := t } := by
  have e : (s.heap.update p f).get? p = some { cls := .type "list", data := .seq its'.toArray n' } := by
    rw [Heap.get?_update_self f ho (by rw [hf] <;> rfl), hf]
  refine I.write (x := p) (e := p) (by rw [h]; trivial) (.inl rfl) (fun b u hb q => (Heap.get?_update_other _ _ (Ne.symm hb)).trans q) ⟨_, e⟩ ?_
  exact ⟨hz, its', n', r, e⟩
def rSetL : V → V → V → Hp → (Hp → Prop) → Prop := fun o i v H Q => ∃ p xs k j, o = .ref p ∧ i = .int k ∧ H p = some (.lst xs) ∧ ixN xs.length k = some j ∧ Q (upd H p (.lst (xs.set j v)))
theorem set_list : PSet X rSetL := by
  intro pins s σ H o i v ov iv u Q I ro ri rv h
  obtain ⟨p, xs, k, j, rfl, rfl, hp, hj, q⟩ := h
  cases ro
  obtain ⟨t, rfl⟩ := ri
  obtain ⟨its, n, r, ho, hz⟩ := I.lst hp
  obtain ⟨h1, h2, h3, h4⟩ := ixN_seq hj
  have hl := r.length
  have hn := line63
  have I' : Inv X pins σ (upd H p (.lst (xs.set j v))) { s with heap := s.heap.update p (Obj.mapSeq (·.setIfInBounds j u)) } :=
    I.lstUpd hp ho (mapSeq_set its n j u) (r.set rv j) (by rw [List.length_set]; exact hz) s.toks
  by_cases h0 : 0 ≤ k
  · have hk : k.toNat = j := by
      rw [seqIndex_of h0 h4] at h1
      exact Option.some.inj h1
    exact PySem.W.ki_setAt ho h0 (by omega) (by rw [List.size_toArray, ← hl]; exact h4) (by rw [hk]; exact ⟨_, I', q⟩)
  · have hk : (k + (its.toArray.size : Int)).toNat = j := by
      rw [seqIndex_neg (by omega) h3] at h1
      rw [List.size_toArray, ← hl]
      exact Option.some.inj h1
    exact PySem.W.ki_setBack ho (by omega) (by rw [List.size_toArray, ← hl]; exact h3) (by omega) (by rw [hk]; exact ⟨_, I', q⟩)
theorem slice_bounds (lo hi : Option Int) (n : Nat) : (sliceBounds lo hi none n).1 = ((HT.sIx n 0 lo : Nat) : Int) ∧ (sliceBounds lo hi none n).2.1 = ((HT.sIx n n hi : Nat) : Int) ∧ (sliceBounds lo hi none n).2.2 = 1 := by
  refine ⟨?_, ?_, rfl⟩
  · cases lo with
    | none => simp [sliceBounds, HT.sIx]
    | some i =>
      simp only [sliceBounds, HT.sIx, Option.getD_none, show (1 : Int) > 0 by decide, if_true]
      by_cases h : i < 0
      · simp only [h, if_true] <;> omega
      · simp only [h, if_false] <;> omega
  · cases hi with
    | none => simp [sliceBounds, HT.sIx]
    | some i =>
      simp only [sliceBounds, HT.sIx, Option.getD_none, show (1 : Int) > 0 by decide, if_true]
      by_cases h : i < 0
      · simp only [h, if_true] <;> omega
      · simp only [h, if_false] <;> omega
theorem slicePick_cut (its : List Value) (lo hi : Option Int) : slicePick its.toArray lo hi none = ((its.drop (HT.sIx its.length 0 lo)).take (HT.sIx its.length its.length hi - HT.sIx its.length 0 lo)).toArray := by
  obtain ⟨h1, h2, h3⟩ := slice_bounds lo hi its.toArray.size
  unfold slicePick
  rw [h1, h2, h3]
  simp only [sliceRange_one, pick_run, List.size_toArray] <;> rfl
def rSlL (K : PySem.W.Frag) : V → Option Int → Option Int → Hp → VK → Prop := fun x lo hi H Q => ∃ a xs, x = .ref a ∧ SqL K H a xs ∧ ∀ p, H p = none → Q (.ref p) (upd H p (.lst (cutV xs lo hi)))
theorem sl_list : SlR X (rSlL X.K) := by
  intro pins s σ H x v vl vu lo hi sl Q I rx hs pl pu h
  obtain ⟨a, xs, rfl, hx, q⟩ := h
  cases rx
  obtain ⟨its, r, ht, hz⟩ := I.list hx
  have hlen := r.length
  refine ⟨"list", _, slot_list_getitem.lookup, ht.isList.typeIs, ?_⟩
  refine wpAny_getItem_list_slice ht.isList hs pl pu .none (by simp) ?_ (by rw [List.size_toArray] <;> omega)
  rw [slicePick_cut, ← hlen]
  refine ⟨.ref s.heap.objs.size, _, I.laid (t' := s.toks) (o := .lst (cutV xs lo hi)) (fun b ob q => Heap.get?_push_of_some _ q) (Nat.le_refl _) ?_, rfl, q _ (I.hok.fresh (Nat.le_refl _))⟩
  exact ⟨Nat.le_trans (cutV_length xs lo hi) hz, _, 0, (r.drop (HT.sIx xs.length 0 lo)).take (HT.sIx xs.length xs.length hi - HT.sIx xs.length 0 lo), Heap.get?_push_size _ rfl⟩
def flatV : V → Bool
  | .non => true
  | .bl _ => true
  | .int _ => true
  | .str _ => true
  | _ => false
def eqV : V → V → Bool
  | .non, .non => true
  | .bl a, .bl b => a == b
  | .bl a, .int b => (if a then 1 else 0) == b
  | .int a, .bl b => a == (if b then 1 else 0)
  | .int a, .int b => a == b
  | .str a, .str b => a == b
  | _, _ => false
theorem eqAt_V {A : Around} {s : Shared} {y x : V} {u v : Value} (ry : RelV y u) (rx : RelV x v) (fy : flatV y = true) (fx : flatV x = true) : SeqAt.EqAt A s u v (eqV y x) := by
  cases y with
  | non =>
    cases ry
    cases x with
    | non => cases rx; exact SeqAt.EqAt.same _
    | bl b => cases rx; exact SeqAt.EqAt.none_bool b
    | int b => obtain ⟨t, rfl⟩ := rx; exact SeqAt.EqAt.none_int b t
    | str b => obtain ⟨t, rfl⟩ := rx; exact SeqAt.EqAt.none_str b t
    | _ => exact absurd (show false = true from fx) Bool.false_ne_true
  | bl a =>
    cases ry
    cases x with
    | non => cases rx; exact SeqAt.EqAt.bool_none a
    | bl b => cases rx; exact SeqAt.EqAt.bool_bool a b
    | int b => obtain ⟨t, rfl⟩ := rx; exact SeqAt.EqAt.bool_int a b t
    | str b => obtain ⟨t, rfl⟩ := rx; exact SeqAt.EqAt.bool_str a b t
    | _ => exact absurd (show false = true from fx) Bool.false_ne_true
  | int a =>
    obtain ⟨t', rfl⟩ := ry
    cases x with
    | non => cases rx; exact SeqAt.EqAt.int_none a t'
    | bl b => cases rx; exact SeqAt.EqAt.int_bool a t' b
    | int b => obtain ⟨t, rfl⟩ := rx; exact SeqAt.EqAt.int_int a t' b t
    | str b => obtain ⟨t, rfl⟩ := rx; exact SeqAt.EqAt.int_str a t' b t
    | _ => exact absurd (show false = true from fx) Bool.false_ne_true
  | str a =>
    obtain ⟨t', rfl⟩ := ry
    cases x with
    | non => cases rx; exact SeqAt.EqAt.str_none a t'
    | bl b => cases rx; exact SeqAt.EqAt.str_bool a t' b
    | int b => obtain ⟨t, rfl⟩ := rx; exact SeqAt.EqAt.str_int a t' b t
    | str b => obtain ⟨t, rfl⟩ := rx; exact SeqAt.EqAt.str_str a t' b t
    | _ => exact absurd (show false = true from fx) Bool.false_ne_true
  | _ => exact absurd (show false = true from fy) Bool.false_ne_true
def eqU (x : V) (u : Value) : Bool := match u with
  | .none => eqV .non x
  | .bool b => eqV (.bl b) x
  | .int i _ => eqV (.int i) x
  | .str z _ => eqV (.str z) x
  | _ => false
theorem eqU_of {x y : V} {u : Value} (r : RelV y u) (f : flatV y = true) : eqU x u = eqV y x := by
  cases y with
  | non => cases r; rfl
  | bl b => cases r; rfl
  | int i => obtain ⟨t, rfl⟩ := r; rfl
  | str z => obtain ⟨t, rfl⟩ := r; rfl
  | _ => exact absurd (show false = true from f) Bool.false_ne_true
theorem any_eqU {x : V} : ∀ {xs : List V} {us : List Value}, Vals xs us → xs.all flatV = true → us.any (eqU x) = xs.any fun y => eqV y x
  | _, _, .nil, _ => rfl
  | y :: xs, u :: us, .cons r t, f => by
    rw [List.all_cons, Bool.and_eq_true] at f
    rw [List.any_cons, List.any_cons, eqU_of r f.1, any_eqU t f.2]
theorem mem_eqAt {A : Around} {s : Shared} {x : V} {v : Value} (rx : RelV x v) (fx : flatV x = true) : ∀ {xs : List V} {us : List Value}, Vals xs us → xs.all flatV = true → ∀ u ∈ us, SeqAt.EqAt A s u v (eqU x u)
  | _, _, .nil, _ => fun u hu => by cases hu
  | y :: xs, u :: us, .cons r t, f => fun u' hu => by
    rw [List.all_cons, Bool.and_eq_true] at f
    rcases List.mem_cons.mp hu with rfl | hu
    · rw [eqU_of r f.1]; exact eqAt_V r rx f.1 fx
    · exact mem_eqAt rx fx t f.2 u' hu
def inV (x : V) (xs : List V) : Bool := xs.any fun y => eqV y x
def rIn (K : PySem.W.Frag) (neg : Bool) : R2 := fun x y H Q => ∃ p xs, y = .ref p ∧ (SqL K H p xs ∨ SqT K H p xs) ∧ flatV x = true ∧ xs.all flatV = true ∧ Q (.bl (if neg then !inV x xs else inV x xs)) H
theorem op_notIn_seq : OpR X (compareOp .NotIn) (rIn X.K true) := by
  intro pins s σ H x y v u Q I rx ry h
  obtain ⟨p, xs, rfl, hq, fx, fs, q⟩ := h
  cases ry
  rcases hq with hq | hq
  · obtain ⟨its, r, pl, hz⟩ := I.list hq
    refine SeqAt.notIn_listAt (eqU x) pl.isList (fun w hw => mem_eqAt rx fx r fs w (by simpa using hw)) ⟨.bl _, H, I, rfl, ?_⟩
    rw [show its.toArray.any (eqU x) = its.any (eqU x) by simp, any_eqU r fs]
    exact q
  · obtain ⟨its, r, pl, hz⟩ := I.tuple hq
    refine SeqAt.notIn_tupleAt (eqU x) pl (fun w hw => mem_eqAt rx fx r fs w (by simpa using hw)) ⟨.bl _, H, I, rfl, ?_⟩
    rw [show its.toArray.any (eqU x) = its.any (eqU x) by simp, any_eqU r fs]
    exact q
theorem call_len_seq : CallR X (.builtin "len") (fun xs H Q => ∃ p ys, xs = [.ref p] ∧ (SqL X.K H p ys ∨ SqT X.K H p ys) ∧ Q (.int ys.length) H) := by
  intro pins s σ H xs us Q I r h
  obtain ⟨p, ys, rfl, hq, q⟩ := h
  obtain ⟨u, rfl, rx⟩ := vals1 r
  cases rx
  have hn := line63
  rcases hq with hq | hq
  · obtain ⟨its, r', pl, hz⟩ := I.list hq
    have hlen := r'.length
    exact Calls.call_len_list pl.isList (by simp only [List.size_toArray] <;> omega) ⟨.int ys.length, H, I.tok _, ⟨s.toks + 1, by rw [List.size_toArray, hlen]⟩, q⟩
  · obtain ⟨its, r', pl, hz⟩ := I.tuple hq
    have hlen := r'.length
    exact len_tuple pl (by simp only [List.size_toArray] <;> omega) ⟨.int ys.length, H, I.tok _, ⟨s.toks + 1, by rw [List.size_toArray, hlen]⟩, q⟩
theorem call_list_of : CallR X (.type "list") (fun xs H Q => ∃ p ys, xs = [.ref p] ∧ (SqL X.K H p ys ∨ SqT X.K H p ys) ∧ ∀ l, H l = none → Q (.ref l) (upd H l (.lst ys))) := by
  intro pins s σ H xs us Q I r h
  obtain ⟨p, ys, rfl, hq, q⟩ := h
  obtain ⟨u, rfl, rx⟩ := vals1 r
  cases rx
  have fin : ∀ (its : List Value), Vals ys its → ys.length ≤ sizeLine → ∀ (h' : Heap) (c' : Nat), (∀ b o', s.heap.get? b = some o' → h'.get? b = some o') →
      h'.get? s.heap.objs.size = some { cls := .type "list", dict := none, data := .seq its.toArray c', slots := #[] } → EP X pins σ Q (.ref s.heap.objs.size) { s with heap := h' } := fun its r' hz h' c' kp e =>
    ⟨.ref s.heap.objs.size, _, I.laid (t' := s.toks) kp (Nat.le_refl _) (show ObjOk X.prog X.w _ h' _ (.lst ys) from ⟨hz, its, c', r', e⟩), rfl, q _ (I.hok.fresh (Nat.le_refl _))⟩
  rcases hq with hq | hq
  · obtain ⟨its, r', pl, hz⟩ := I.list hq
    have hlen := r'.length
    obtain ⟨o, ho, hc, n, hd⟩ := pl.isList
    exact call_list_seq p (.inl rfl) ho hc hd (fun h' c' kp e => fin its r' hz h' c' kp e) (by simp only [List.size_toArray] <;> omega)
  · obtain ⟨its, r', pl, hz⟩ := I.tuple hq
    have hlen := r'.length
    obtain ⟨o, ho, hc, n, hd⟩ := pl
    exact call_list_seq p (.inr rfl) ho hc hd (fun h' c' kp e => fin its r' hz h' c' kp e) (by simp only [List.size_toArray] <;> omega)
theorem call_tuple_of : CallR X (.type "tuple") (fun xs H Q => ∃ p ys, xs = [.ref p] ∧ ((SqL X.K H p ys ∧ ∀ l, H l = none → Q (.ref l) (upd H l (.tup ys))) ∨ (SqT X.K H p ys ∧ Q (.ref p) H))) := by
  intro pins s σ H xs us Q I r h
  obtain ⟨p, ys, rfl, h⟩ := h
  obtain ⟨u, rfl, rx⟩ := vals1 r
  cases rx
  rcases h with ⟨hq, q⟩ | ⟨hq, q⟩
  · obtain ⟨its, r', pl, hz⟩ := I.list hq
    have hlen := r'.length
    refine call_tuple_list pl.isList (fun h' kp => ?_) (by simp only [List.size_toArray] <;> omega)
    have I1 : Inv X pins σ H { s with heap := h' } := I.kept (t' := s.toks) kp
    have I2 : Inv X pins σ (upd H h'.objs.size (.tup ys)) { s with heap := h'.push { cls := .type "tuple", data := .seq its.toArray } } :=
      I1.laid (t' := s.toks) (fun b o e => Heap.get?_push_of_some _ e) (Nat.le_refl _) (show ObjOk X.prog X.w _ _ _ (.tup ys) from ⟨hz, its, r', IsTup.new _ _⟩)
    exact ⟨.ref h'.objs.size, _, I2, rfl, q _ (I1.hok.fresh (Nat.le_refl _))⟩
  · obtain ⟨its, r', pl, hz⟩ := I.tuple hq
    exact call_tuple_same pl ⟨.ref p, H, I, rfl, q⟩
def tyV (K : PySem.W.Frag) (T : String) (x : V) (H : Hp) : Prop := match x with
  | .str _ => T = "str"
  | .int _ => T = "int"
  | .ref p => (T = "list" ∧ ∃ xs, SqL K H p xs) ∨ (T = "tuple" ∧ ∃ o, K.lookup p = some o ∧ o.cls = .type "tuple" ∧ o.dict = none) ∨
      (T = "dict" ∧ ((∃ kvs, H p = some (.dK kvs)) ∨ ∃ kvs, H p = some (.dT kvs))) ∨ (T = "set" ∧ ∃ S n, H p = some (.set S n))
  | _ => False
theorem tyV_is {pins : List (Addr × Obj)} {σ : St} {H : Hp} {s : Shared} {T : String} {x : V} {v : Value} (I : Inv X pins σ H s) (r : RelV x v) (ty : tyV X.K T x H) :
    s.TypeIs v T ∧ ∀ a, v = .ref a → ∃ ob, s.heap.get? a = some ob ∧ ob.dict = none := by
  cases x with
  | str z =>
    obtain ⟨t, rfl⟩ := r
    cases (show T = "str" from ty)
    exact ⟨typeIs_str s z t, fun _ e => nomatch e⟩
  | int i =>
    obtain ⟨t, rfl⟩ := r
    cases (show T = "int" from ty)
    exact ⟨typeIs_int s i t, fun _ e => nomatch e⟩
  | ref p =>
    cases r
    rcases ty with ⟨rfl, xs, hq⟩ | ⟨rfl, o, hk, hc, hd⟩ | ⟨rfl, hk⟩ | ⟨rfl, S, n, hk⟩
    · obtain ⟨its, _, pl, _⟩ := I.list hq
      refine ⟨pl.isList.typeIs, fun a e => ?_⟩
      cases e
      obtain ⟨o, n, e, c, hd, _⟩ := pl
      exact ⟨o, e, hd⟩
    · refine ⟨⟨o, I.kIn p o hk, hc⟩, fun a e => ?_⟩
      cases e
      exact ⟨o, I.kIn _ o hk, hd⟩
    · have z : ∃ o, s.heap.get? p = some o ∧ o.ExactDict := by
        rcases hk with ⟨kvs, hk⟩ | ⟨kvs, hk⟩
        · obtain ⟨_, _, _, _, o, _, _, e, ex, _⟩ := I.hok p _ hk
          exact ⟨o, e, ex⟩
        · obtain ⟨_, _, _, _, o, _, _, e, ex, _⟩ := I.hok p _ hk
          exact ⟨o, e, ex⟩
      obtain ⟨o, e, ex⟩ := z
      refine ⟨⟨o, e, ex.1⟩, fun a e2 => ?_⟩
      cases e2
      exact ⟨o, e, ex.2.1⟩
    · obtain ⟨o, _, _, _, e, ex, _⟩ := I.hok p _ hk
      refine ⟨⟨o, e, ex.1⟩, fun a e2 => ?_⟩
      cases e2
      exact ⟨o, e, ex.2.1⟩
  | _ => exact False.elim ty
def tBM (K : PySem.W.Frag) (T : String) (r : V → List V → Hp → VK → Prop) (to : TE) (t : TA) : TE := fun σ H Q => to σ H fun x H1 => tyV K T x H1 ∧ t σ H1 fun xs H2 => r x xs H2 Q
variable {o e : Expr} {es : List Expr} {to : TE} {t : TA} {name : Str} {apos cpos : Pos} {T id : String} {r : V → List V → Hp → VK → Prop}
theorem pe_bm (pa : PlainAttrs T) (slot : Slot T name id) (hty : typeOf (.builtin id) = pure (.type "method_descriptor")) (hm : MtR X id r) (ho : PE X o to) (ha : PA X (e :: es) t)
    (hbase : attributeBase o name X.env (eval o X.env) = eval o X.env := by rfl)
    (hfew : ((backTo cpos (starEach (e :: es) X.env)).all (fun x => !x.1) && (backToKw cpos (keywordEach [] X.env)).all (fun x => x.1.isSome)
      && decide ((e :: es).length + ([] : List Keyword).length + (if ([] : List Keyword).isEmpty then 0 else 1) < 30)) = true := by rfl)
    (hline : (apos.endLine == cpos.line) = true := by rfl) (hs : starEach (e :: es) X.env = (false, eval e X.env) :: starEach es X.env := by rfl) (hplain : (backTo cpos (starEach es X.env)).any (·.1) = false := by rfl) :
    PE X (.Call (.Attribute o name apos) (e :: es) [] cpos) (tBM X.K T r to t) := by
  intro pins s σ H Q I h
  refine wpAny_Call_method_late hbase hfew hline rfl (thn (ho pins s σ H _ I h) fun v s1 ⟨x, H1, I1, r1, ty, q1⟩ => ?_)
  obtain ⟨h1, h2⟩ := tyV_is I1 r1 ty
  refine ⟨T, id, pa, slot, hty, h1, h2, ?_⟩
  have hA := ha cpos pins s1 σ H1 _ I1 q1
  rw [hs] at hA ⊢
  refine Calls.callWith_builtin (by show (false || (backTo cpos (starEach es X.env)).any (·.1)) = false; rw [hplain] <;> rfl) (Calls.evalArgs_plain ?_)
  exact thn hA fun us s2 ⟨vs, H2, I2, r2, q2⟩ => hm pins s2 σ H2 x vs v us Q I2 r1 r2 q2
end
end L2
namespace L2
open PySem PySem.Spec PyProof.Rows
def MtM (X : Cx) (id : String) (r : V → List V → Hp → VK → Prop) : Prop :=
  ∀ (pins : List (Addr × Obj)) (s : Shared) (σ : St) (H : Hp) (x : V) (xs : List V) (v : Value) (us : List Value) (Q : VK), Inv X pins σ H s → RelV x v → Vals xs us → r x xs H Q →
    wpAny (model X.prog X.w) X.A (call (.builtin id) (v :: us)) (EP X pins σ Q) X.xe s
theorem Vals.one : ∀ {x : V} {us : List Value}, Vals [x] us → ∃ u, us = [u] ∧ RelV x u
  | _, _, .cons r .nil => ⟨_, rfl, r⟩
section
variable {X : Cx} {pins : List (Addr × Obj)} {σ : St} {H : Hp} {s : Shared} {l b : Addr} {xs ys zs : List V}
theorem Inv.lset {its its' : List Value} {n : Nat} {f : Array Value → Array Value} {t' : Nat} (I : Inv X pins σ H s) (hH : H l = some (.lst xs))
    (e : s.heap.get? l = some { cls := .type "list", data := .seq its.toArray n }) (hf : f its.toArray = its'.toArray) (hv : Vals ys its') (hz : ys.length ≤ sizeLine) :
    Inv X pins σ (upd H l (.lst ys)) { s with heap := s.heap.update l (Obj.mapSeq f), toks := t' } := by
  have q := PySem.IsL.update e f
  rw [hf] at q
  refine I.write (x := l) (e := l) (by rw [hH]; exact trivial) (.inl rfl) (fun b' u hb hu => (Heap.get?_update_other s.heap (Obj.mapSeq f) (Ne.symm hb)).trans hu) ⟨_, q⟩ ?_
  exact ⟨hz, its', _, hv, q⟩
theorem Inv.lnew {its : List Value} {t' : Nat} (I : Inv X pins σ H s) (hv : Vals ys its) (hz : ys.length ≤ sizeLine) :
    Inv X pins σ (upd H s.heap.objs.size (.lst ys)) { s with heap := s.heap.push { cls := .type "list", data := .seq its.toArray }, toks := t' } :=
  I.laid (fun _ _ q => Heap.get?_push_of_some _ q) (Nat.le_refl _) ⟨hz, its, 0, hv, Heap.get?_push_size _ rfl⟩
theorem Inv.fresh (I : Inv X pins σ H s) : H s.heap.objs.size = none := I.hok.fresh (Nat.le_refl _)
theorem Inv.lstM (I : Inv X pins σ H s) (hH : H l = some (.lst xs)) : xs.length ≤ sizeLine ∧ ∃ (its : List Value) (n : Nat), Vals xs its ∧ xs.length = its.length ∧ s.heap.get? l = some { cls := .type "list", data := .seq its.toArray n } := by
  obtain ⟨z, its, n, r, e⟩ := I.hok l _ hH
  exact ⟨z, its, n, r, r.length, e⟩
theorem notLongL {n : Nat} (h : n ≤ sizeLine) : Builtin.List.listTooLong n = false := by
  unfold Builtin.List.listTooLong
  exact decide_eq_false (by omega)
end
section
variable {X : Cx}
def rAppend : V → List V → Hp → VK → Prop := fun x vs H Q => ∃ l xs y, x = .ref l ∧ vs = [y] ∧ H l = some (.lst xs) ∧ xs.length < sizeLine ∧ Q .non (upd H l (.lst (xs ++ [y])))
theorem mt_append : MtM X "list.append" rAppend := by
  intro pins s σ H x vs v us Q I rx rv h
  obtain ⟨l, xs, y, rfl, rfl, hH, hz, q⟩ := h
  cases rx
  obtain ⟨u, rfl, ru⟩ := rv.one
  obtain ⟨z, its, n, r, hl, e⟩ := I.lstM hH
  refine call_meets F.slot_list_append ⟨_, e, rfl⟩ F.entry_list_append (F.args_list_append_2 _ _) (PySem.list_append l its.toArray n u (by rw [List.size_toArray]; omega)) ⟨e, ?_⟩
  refine ⟨.non, _, I.lset (its' := its ++ [u]) hH e (by simp) (r.append (.cons ru .nil)) ?_, rfl, q⟩
  rw [List.length_append, List.length_singleton]
  omega
def rExtend : V → List V → Hp → VK → Prop := fun x vs H Q => ∃ l b xs zs, x = .ref l ∧ vs = [.ref b] ∧ H l = some (.lst xs) ∧ H b = some (.lst zs) ∧ xs.length + zs.length ≤ sizeLine ∧ Q .non (upd H l (.lst (xs ++ zs)))
theorem mt_extend : MtM X "list.extend" rExtend := by
  intro pins s σ H x vs v us Q I rx rv h
  obtain ⟨l, b, xs, zs, rfl, rfl, hH, hB, hz, q⟩ := h
  cases rx
  obtain ⟨u, rfl, ru⟩ := rv.one
  cases ru
  obtain ⟨z, its, n, r, hl, e⟩ := I.lstM hH
  obtain ⟨z2, its2, n2, r2, hl2, e2⟩ := I.lstM hB
  have hsz : its.toArray.size + its2.toArray.size ≤ sizeLine := by rw [List.size_toArray, List.size_toArray]; omega
  have hlong : ¬ (!its.toArray.isEmpty && Builtin.List.listTooLong (its.toArray.size + its2.toArray.size)) = true := by
    rw [notLongL hsz, Bool.and_false]
    exact Bool.false_ne_true
  refine call_meets F.slot_list_extend ⟨_, e, rfl⟩ F.entry_list_extend (F.args_list_extend_2 _ _)
    (AutoSeq1.list_extend_list_list_0 l its.toArray n b its2.toArray n2 hlong (by rw [List.size_toArray]; omega) (by omega)) ⟨e, e2, ?_⟩
  refine ⟨.non, _, I.lset (its' := its ++ its2) hH e (by simp) (r.append r2) ?_, rfl, q⟩
  rw [List.length_append]
  omega
def rCat : R2 := fun x y H Q => ∃ l b xs zs, x = .ref l ∧ y = .ref b ∧ H l = some (.lst xs) ∧ H b = some (.lst zs) ∧ xs.length + zs.length ≤ sizeLine ∧ ∀ p, H p = none → Q (.ref p) (upd H p (.lst (xs ++ zs)))
theorem op_cat : OpR X (binaryOp .Add) rCat := by
  intro pins s σ H x y v u Q I rx ry h
  obtain ⟨l, b, xs, zs, rfl, rfl, hH, hB, hz, q⟩ := h
  cases rx
  cases ry
  obtain ⟨z, its, n, r, hl, e⟩ := I.lstM hH
  obtain ⟨z2, its2, n2, r2, hl2, e2⟩ := I.lstM hB
  refine PySem.P.add_list e e2 ?_ (by rw [List.size_toArray, List.size_toArray]; omega)
  have ea : its.toArray ++ its2.toArray = (its ++ its2).toArray := by simp
  rw [ea]
  exact ⟨.ref _, _, I.lnew (t' := s.toks) (r.append r2) (by rw [List.length_append]; omega), rfl, q _ I.fresh⟩
end
section
variable {prog : Program} {w : World} {A : Around} {E : Value → Shared → Prop} {s : Shared}
end
section
variable {X : Cx}
end
end L2
namespace L2
open PySem PySem.Spec PyProof.Rows
theorem Vals.ints : ∀ {ns : List Int} {us : List Value}, Vals (ns.map V.int) us → IntsAre us ns
  | [], us, h => by
    rw [List.map_nil] at h
    cases h
    exact IntsAre.nil
  | n :: ns, us, h => by
    rw [List.map_cons] at h
    cases h with
    | cons r t =>
      obtain ⟨k, rfl⟩ := r
      exact IntsAre.cons n k (Vals.ints t)
theorem Vals.bls : ∀ {bs : List Bool} {us : List Value}, Vals (bs.map V.bl) us → us = bs.map Value.bool
  | [], us, h => by
    rw [List.map_nil] at h
    cases h
    rfl
  | b :: bs, us, h => by
    rw [List.map_cons] at h
    cases h with
    | cons r t =>
      cases r
      rw [Vals.bls t, List.map_cons]
theorem Vals.ref1 {a : Addr} {us : List Value} (r : Vals [V.ref a] us) : us = [Value.ref a] := by
  cases r with
  | cons r t =>
    cases t
    cases r
    rfl
section
variable {prog : Program} {w : World} {A : Around} {E : Value → Shared → Prop} {s : Shared} {l : Addr} {its : List Value} {ns : List Int} {Q : Value → Shared → Prop}
theorem sum_raw (hh : A.handled = none) (hl : s.heap.IsList l its.toArray) (hi : IntsAre its ns)
    (h : ∀ h' tk t', (∀ b o, s.heap.get? b = some o → h'.get? b = some o) → Q (.int ns.sum t') { s with heap := h', toks := tk }) : wpAny (model prog w) A (call (.builtin "sum") [.ref l]) Q E s := by
  obtain ⟨xs, e⟩ := hi.allInts.items
  have hn : numsOf (intItems xs).toList = ns := by rw [← e]; exact hi.numsOf
  rw [nums_intItems] at hn
  rw [e] at hl
  refine PySem.sum_intListG hh hl fun h' tk t' hk => ?_
  have := h h' tk t' hk
  rw [preSum_eq, List.take_of_length_le (by simp), hn]; exact this
end
section
variable {X : Cx}
def rSum (K : PySem.W.Frag) : List V → Hp → VK → Prop := fun vs H Q => ∃ (a : Addr) (ns : List Int), vs = [V.ref a] ∧ SqL K H a (ns.map V.int) ∧ Q (.int ns.sum) H
theorem cr_sum (hc : X.calm = true) : CallR X (.builtin "sum") (rSum X.K) := by
  intro pins s σ H vs us Q I r h
  obtain ⟨a, ns, rfl, hs, q⟩ := h
  obtain ⟨its, rv, hl, _⟩ := I.list hs
  rw [Vals.ref1 r]
  exact sum_raw (I.ok.hd hc) hl.isList rv.ints fun h' tk t' hk => ⟨.int _, H, I.kept hk, ⟨_, rfl⟩, q⟩
end
section
variable {X : Cx}
end
theorem iter_any {prog : Program} {w : World} {A : Around} {E : Value → Shared → Prop} {s : Shared} {l : Addr} {items : Array Value} {Q : Value → Shared → Prop} (hl : s.heap.IsList l items)
    (h : ∀ s₂ : Shared, s₂ = { s with heap := s.heap.push { cls := .type "list_iterator", data := .fields #[.ref l, .int 0 0] } } →
      (s₂.heap.IsListIter s.heap.objs.size l 0 ∧ s₂.heap.IsList l items) → l ≠ s.heap.objs.size → Q (.ref s.heap.objs.size) s₂) : wpAny (model prog w) A (pyIter (.ref l)) Q E s := by
  have hlt : l < s.heap.objs.size := by obtain ⟨_, e, _⟩ := hl; exact Heap.lt_size e
  exact wpAny_pyIter_list hl (h _ rfl ⟨⟨_, Heap.get?_push_size _ rfl, rfl, rfl⟩, hl.push _⟩ (Nat.ne_of_lt hlt))
theorem truth_bools {prog : Program} {w : World} {A : Around} {bs : List Bool} {its : List Value} (e : its = bs.map Value.bool) :
    TruthOf prog w A (fun i v => its.toArray[i]? = some v) (fun i => bs.getD i false) := fun i v s Q E hv hq => by
  have hv' : its[i]? = some v := by simpa using hv
  rw [e, List.getElem?_map] at hv'
  obtain ⟨b, hb, rfl⟩ := Option.map_eq_some_iff.mp hv'
  have hg : bs.getD i false = b := by rw [List.getD_eq_getElem?_getD, hb] <;> rfl
  have hq' : Q (bs.getD i false) s := hq
  rw [hg] at hq'
  exact wpAny_truthy_bool hq'
theorem any_range : ∀ bs : List Bool, (List.range bs.length).any (fun i => bs.getD i false) = bs.any id
  | [] => rfl
  | b :: bs => by
    rw [List.length_cons, List.range_succ_eq_map, List.any_cons, List.any_map, List.any_cons, ← any_range bs]
    all_goals rfl
theorem all_range : ∀ bs : List Bool, (List.range bs.length).all (fun i => bs.getD i false) = bs.all id
  | [] => rfl
  | b :: bs => by
    rw [List.length_cons, List.range_succ_eq_map, List.all_cons, List.all_map, List.all_cons, ← all_range bs]
    all_goals rfl
section
variable {X : Cx}
def rAny (K : PySem.W.Frag) : List V → Hp → VK → Prop := fun vs H Q => ∃ (a : Addr) (bs : List Bool), vs = [V.ref a] ∧ SqL K H a (bs.map V.bl) ∧ Q (.bl (bs.any id)) H
def rAll (K : PySem.W.Frag) : List V → Hp → VK → Prop := fun vs H Q => ∃ (a : Addr) (bs : List Bool), vs = [V.ref a] ∧ SqL K H a (bs.map V.bl) ∧ Q (.bl (bs.all id)) H
theorem cr_any (hc : X.calm = true) : CallR X (.builtin "any") (rAny X.K) := by
  intro pins s σ H vs us Q I r h
  obtain ⟨a, bs, rfl, hs, q⟩ := h
  obtain ⟨its, rv, hl, _⟩ := I.list hs
  rw [Vals.ref1 r]
  have hb := rv.bls
  refine call_any_walk (iter_any hl.isList fun s₂ e2 st hne => ?_)
  subst e2
  refine ⟨_, _, _, _, _, _, _, rfl, Walks.list (A := X.A.in1) (I.ok.hd hc) _ a hne its.toArray, st, truth_bools hb, fun h' tk hk => ?_⟩
  refine ⟨.bl _, H, I.kept fun b o eo => hk b o (fun hmem => ?_) (Heap.get?_push_of_some _ eo), ?_, q⟩
  · rcases List.mem_cons.mp hmem with e1 | hmem
    · exact absurd (e1 ▸ Heap.lt_size eo) (Nat.lt_irrefl _)
    · cases hmem
  · show Value.bool _ = Value.bool _
    rw [← any_range, hb, List.size_toArray, List.length_map]
theorem cr_all (hc : X.calm = true) : CallR X (.builtin "all") (rAll X.K) := by
  intro pins s σ H vs us Q I r h
  obtain ⟨a, bs, rfl, hs, q⟩ := h
  obtain ⟨its, rv, hl, _⟩ := I.list hs
  rw [Vals.ref1 r]
  have hb := rv.bls
  refine call_all_walk (iter_any hl.isList fun s₂ e2 st hne => ?_)
  subst e2
  refine ⟨_, _, _, _, _, _, _, rfl, Walks.list (A := X.A.in1) (I.ok.hd hc) _ a hne its.toArray, st, truth_bools hb, fun h' tk hk => ?_⟩
  refine ⟨.bl _, H, I.kept fun b o eo => hk b o (fun hmem => ?_) (Heap.get?_push_of_some _ eo), ?_, q⟩
  · rcases List.mem_cons.mp hmem with e1 | hmem
    · exact absurd (e1 ▸ Heap.lt_size eo) (Nat.lt_irrefl _)
    · cases hmem
  · show Value.bool _ = Value.bool _
    rw [← all_range, hb, List.size_toArray, List.length_map]
end
mutual
inductive Dp (K : PySem.W.Frag) (H : Hp) : V → PyData → Prop
  | non : Dp K H .non .none
  | bl (b : Bool) : Dp K H (.bl b) (.bool b)
  | int (i : Int) : Dp K H (.int i) (.int i)
  | str (x : Str) : Dp K H (.str x) (.str x)
  | lst {a : Addr} {xs : List V} {ds : List PyData} : SqL K H a xs → DpAll K H xs ds → Dp K H (.ref a) (.list ds)
  | tup {a : Addr} {xs : List V} {ds : List PyData} : SqT K H a xs → DpAll K H xs ds → Dp K H (.ref a) (.tuple ds)
inductive DpAll (K : PySem.W.Frag) (H : Hp) : List V → List PyData → Prop
  | nil : DpAll K H [] []
  | cons {v : V} {vs : List V} {d : PyData} {ds : List PyData} : Dp K H v d → DpAll K H vs ds → DpAll K H (v :: vs) (d :: ds)
end
section
variable {X : Cx} {pins : List (Addr × Obj)} {σ : St} {H : Hp} {s : Shared}
mutual
theorem Dp.reads (I : Inv X pins σ H s) : ∀ (d : PyData) (v : V) (u : Value), Dp X.K H v d → RelV v u → ∃ as, Reads s.heap u d as
  | .none, _, _, h, r => by
    cases h
    cases r
    exact ⟨_, Reads.none⟩
  | .bool b, _, _, h, r => by
    cases h
    cases r
    exact ⟨_, Reads.bool b⟩
  | .int i, _, _, h, r => by
    cases h
    obtain ⟨t, rfl⟩ := r
    exact ⟨_, Reads.int i t⟩
  | .str x, _, _, h, r => by
    cases h
    obtain ⟨t, rfl⟩ := r
    exact ⟨_, Reads.str x t⟩
  | .list ds, _, _, h, r => by
    cases h with
    | lst hs ha =>
      cases r
      obtain ⟨its, rv, ⟨o, n, ho, hc, _, hd⟩, _⟩ := I.list hs
      obtain ⟨as, hr⟩ := Dp.readsAll I ds _ its ha rv
      exact ⟨_, Reads.list ho hc hd hr⟩
  | .tuple ds, _, _, h, r => by
    cases h with
    | tup hs ha =>
      cases r
      obtain ⟨its, rv, ⟨o, ho, hc, n, hd⟩, _⟩ := I.tuple hs
      obtain ⟨as, hr⟩ := Dp.readsAll I ds _ its ha rv
      exact ⟨_, Reads.tuple ho hc hd hr⟩
  | .dict _, _, _, h, _ => by cases h
theorem Dp.readsAll (I : Inv X pins σ H s) : ∀ (ds : List PyData) (vs : List V) (us : List Value), DpAll X.K H vs ds → Vals vs us → ∃ as, ReadsAll s.heap us ds as
  | [], _, _, h, r => by
    cases h
    cases r
    exact ⟨_, ReadsAll.nil⟩
  | d :: ds, _, _, h, r => by
    cases h with
    | cons h1 h2 =>
      cases r with
      | cons r1 r2 =>
        obtain ⟨as, q1⟩ := Dp.reads I d _ _ h1 r1
        obtain ⟨bs, q2⟩ := Dp.readsAll I ds _ _ h2 r2
        exact ⟨_, ReadsAll.cons q1 q2⟩
end
end
section
variable {X : Cx}
def rEqD (K : PySem.W.Frag) : R2 := fun x y H Q => ∃ d e, Dp K H x d ∧ Dp K H y e ∧ SeqAt.shaped d = true ∧ SeqAt.shaped e = true ∧ Q (.bl (PyData.eqv d e)) H
def rNeD (K : PySem.W.Frag) : R2 := fun x y H Q => ∃ d e, Dp K H x d ∧ Dp K H y e ∧ SeqAt.shaped d = true ∧ SeqAt.shaped e = true ∧ Q (.bl (!PyData.eqv d e)) H
theorem op_eqD (hu : X.A.units + 64 < cLine) : OpR X (compareOp .Eq) (rEqD X.K) := by
  intro pins s σ H x y v u Q I rx ry h
  obtain ⟨d, e, hd, he, sd, se, q⟩ := h
  obtain ⟨as, r1⟩ := Dp.reads I d x v hd rx
  obtain ⟨bs, r2⟩ := Dp.reads I e y u he ry
  exact SeqAt.compareEq_shaped r1 r2 sd se hu ⟨.bl _, H, I, rfl, q⟩
theorem op_neD (hu : X.A.units + 64 < cLine) : OpR X (compareOp .NotEq) (rNeD X.K) := by
  intro pins s σ H x y v u Q I rx ry h
  obtain ⟨d, e, hd, he, sd, se, q⟩ := h
  obtain ⟨as, r1⟩ := Dp.reads I d x v hd rx
  obtain ⟨bs, r2⟩ := Dp.reads I e y u he ry
  exact SeqAt.compareNe_shaped r1 r2 sd se hu ⟨.bl _, H, I, rfl, q⟩
end
end L2
namespace L2
open PySem PySem.Spec PyProof.Rows
abbrev CellAt (h : Heap) (c : Addr) (v : Option Value) : Prop := h.IsCell c v
def relS (scope sc : Scope) : Scope :=
  { scope with names := scope.names.map fun (n, k) => if (k == .free && sc.kind == .function && sc.names.lookup n == some .cell) then (n, .cell) else (n, k) }
def cloFrom (cells : List (Str × Addr)) : List (Str × NameKind) → List (Str × Addr) → List (Str × Addr)
  | [], acc => acc
  | (n, k) :: r, acc => if k == .free then cloFrom cells r ((n, (cells.lookup n).getD 0) :: acc) else cloFrom cells r acc
theorem closure_loop (env : Env) (f : Str × NameKind → List (Str × Addr) → Sem (ForInStep (List (Str × Addr))))
    (hf : ∀ n k c, f (n, k) c = if k == .free then (do let a ← cellOf env n; pure (.yield ((n, a) :: c))) else pure (.yield c)) :
    ∀ (names : List (Str × NameKind)) (acc : List (Str × Addr)), (∀ y ∈ names, y.2 = .free → ∃ c, env.cells.lookup y.1 = some c) → forIn names acc f = pure (cloFrom env.cells names acc)
  | [], acc, _ => by rw [List.forIn_nil]; rfl
  | (n, k) :: r, acc, h => by
    rw [List.forIn_cons, hf]
    have ih := fun acc => closure_loop env f hf r acc fun y hy => h y (List.mem_cons_of_mem _ hy)
    unfold cloFrom
    by_cases hk : (k == NameKind.free) = true
    · rw [if_pos hk, if_pos hk]
      obtain ⟨c, hc⟩ := h (n, k) List.mem_cons_self (by simpa using hk)
      have e : cellOf env n = pure c := by unfold cellOf; rw [hc]
      rw [e]
      have e2 : (env.cells.lookup n).getD 0 = c := by rw [hc]; rfl
      rw [e2]
      exact ih _
    · rw [if_neg hk, if_neg hk]
      exact ih _
theorem closure_ok {scope : Scope} {env : Env} (h : ∀ y ∈ scope.names, y.2 = .free → ∃ c, env.cells.lookup y.1 = some c) : closureFor scope env = pure (cloFrom env.cells scope.names []) := by
  simp only [closureFor]
  rw [closure_loop env _ (fun n k c => rfl) scope.names [] h]
  rfl
theorem mem_lookup {α : Type} : ∀ {l : List (Str × α)} {n : Str} {c : α}, (n, c) ∈ l → ∃ c', l.lookup n = some c'
  | (k, v) :: r, n, c, h => by
    rw [List.lookup_cons]
    cases hb : n == k with
    | true => exact ⟨_, rfl⟩
    | false =>
      rcases List.mem_cons.mp h with e | h
      · cases e; simp at hb
      · exact mem_lookup h
theorem cloFrom_mem {cells : List (Str × Addr)} : ∀ {names : List (Str × NameKind)} {acc : List (Str × Addr)} {n : Str} {c : Addr}, (n, c) ∈ cloFrom cells names acc → (n, c) ∈ acc ∨ ((n, .free) ∈ names ∧ c = (cells.lookup n).getD 0)
  | [], _, _, _, h => .inl h
  | (m, k) :: r, acc, n, c, h => by
    unfold cloFrom at h
    split at h
    · rename_i hk
      have hk : k = .free := by simpa using hk
      rcases cloFrom_mem h with h | ⟨h1, h2⟩
      · rcases List.mem_cons.mp h with e | h
        · cases e; exact .inr ⟨hk ▸ List.mem_cons_self, rfl⟩
        · exact .inl h
      · exact .inr ⟨List.mem_cons_of_mem _ h1, h2⟩
    · rcases cloFrom_mem h with h | ⟨h1, h2⟩
      · exact .inl h
      · exact .inr ⟨List.mem_cons_of_mem _ h1, h2⟩
theorem cloFrom_acc {cells : List (Str × Addr)} : ∀ {names : List (Str × NameKind)} {acc : List (Str × Addr)} {p : Str × Addr}, p ∈ acc → p ∈ cloFrom cells names acc
  | [], _, _, h => h
  | (m, k) :: r, acc, p, h => by
    unfold cloFrom
    split
    · exact cloFrom_acc (List.mem_cons_of_mem _ h)
    · exact cloFrom_acc h
theorem cloFrom_has {cells : List (Str × Addr)} : ∀ {names : List (Str × NameKind)} {acc : List (Str × Addr)} {n : Str}, (n, .free) ∈ names → (n, (cells.lookup n).getD 0) ∈ cloFrom cells names acc
  | (m, k) :: r, acc, n, h => by
    unfold cloFrom
    rcases List.mem_cons.mp h with e | h
    · cases e
      exact cloFrom_acc List.mem_cons_self
    · split
      · exact cloFrom_has h
      · exact cloFrom_has h
theorem cells_mem : ∀ {names : List (Str × NameKind)} {h : Heap} {acc : List (Str × Addr)} {x : Str} {c : Addr}, (x, c) ∈ cellsFrom h.objs.size names acc →
    (x, c) ∈ acc ∨ ((x, .cell) ∈ names ∧ h.objs.size ≤ c ∧ CellAt (pushCells h names) c none)
  | [], _, _, _, _, h => .inl h
  | (n, k) :: r, h, acc, x, c, hm => by
    unfold cellsFrom at hm
    unfold pushCells
    split at hm
    · rename_i hk
      rw [if_pos hk]
      have hk : k = .cell := by simpa using hk
      rw [← Heap.size_push h { cls := .type "cell", data := .cell none }] at hm
      rcases cells_mem hm with hm | ⟨h1, h2, h3⟩
      · rcases List.mem_cons.mp hm with e | hm
        · cases e
          exact .inr ⟨hk ▸ List.mem_cons_self, Nat.le_refl _, _, pushCells_keeps r _ _ _ (Heap.get?_push_size _ rfl), rfl⟩
        · exact .inl hm
      · rw [Heap.size_push] at h2
        exact .inr ⟨List.mem_cons_of_mem _ h1, Nat.le_of_succ_le h2, h3⟩
    · rename_i hk
      rw [if_neg hk]
      rcases cells_mem hm with hm | ⟨h1, h2, h3⟩
      · exact .inl hm
      · exact .inr ⟨List.mem_cons_of_mem _ h1, h2, h3⟩
theorem cells_acc : ∀ {names : List (Str × NameKind)} {n : Nat} {acc : List (Str × Addr)} {p : Str × Addr}, p ∈ acc → p ∈ cellsFrom n names acc
  | [], _, _, _, h => h
  | (m, k) :: r, n, acc, p, h => by
    unfold cellsFrom
    split
    · exact cells_acc (List.mem_cons_of_mem _ h)
    · exact cells_acc h
theorem cells_has : ∀ {names : List (Str × NameKind)} {n : Nat} {acc : List (Str × Addr)} {x : Str}, (x, .cell) ∈ names → ∃ c, (x, c) ∈ cellsFrom n names acc
  | (m, k) :: r, n, acc, x, h => by
    unfold cellsFrom
    rcases List.mem_cons.mp h with e | h
    · cases e
      exact ⟨n, cells_acc List.mem_cons_self⟩
    · split
      · exact cells_has h
      · exact cells_has h
theorem cells_inj : ∀ {names : List (Str × NameKind)} {h : Heap} {acc : List (Str × Addr)} {x y : Str} {c : Addr}, (∀ p ∈ acc, p.2 < h.objs.size) → (∀ x y c, (x, c) ∈ acc → (y, c) ∈ acc → x = y) →
    (x, c) ∈ cellsFrom h.objs.size names acc → (y, c) ∈ cellsFrom h.objs.size names acc → x = y
  | [], _, _, _, _, _, _, hi, h1, h2 => hi _ _ _ h1 h2
  | (n, k) :: r, h, acc, x, y, c, hl, hi, h1, h2 => by
    unfold cellsFrom at h1 h2
    split at h1
    · rename_i hk
      rw [if_pos hk] at h2
      rw [← Heap.size_push h { cls := .type "cell", data := .cell none }] at h1 h2
      refine cells_inj (h := h.push _) (fun p hp => ?_) (fun x y c a b => ?_) h1 h2
      · rw [Heap.size_push]
        rcases List.mem_cons.mp hp with rfl | hp
        · exact Nat.lt_succ_self _
        · exact Nat.lt_succ_of_lt (hl p hp)
      · rcases List.mem_cons.mp a with e | a <;> rcases List.mem_cons.mp b with e' | b
        · cases e; cases e'; rfl
        · cases e; exact absurd (hl _ b) (Nat.lt_irrefl _)
        · cases e'; exact absurd (hl _ a) (Nat.lt_irrefl _)
        · exact hi _ _ _ a b
    · rename_i hk
      rw [if_neg hk] at h2
      exact cells_inj hl hi h1 h2
theorem newEnv_comp {M : Model} {A : Around} {E : Value → Shared → Prop} {s : Shared} {scope : Scope} {globals : Addr} {closure : List (Str × Addr)} {qual : Str} {func : Option Addr} {code : Value} {around : Env} {builtins : Addr} {Q : Env → Shared → Prop}
    (h : Q (newEnv scope s.heap.objs.size globals (cellsFrom (s.heap.objs.size + 1) scope.names closure) qual func code (some around) builtins)
      { s with heap := pushCells (s.heap.push { cls := .type "dict", data := .dict #[] }) scope.names }) :
    wpAny M A (newFunctionEnv scope globals closure [] qual func code (some around) builtins) Q E s := by
  simp only [newFunctionEnv, Option.isSome_some, if_true]
  refine wpAny_bind (wpAny_alloc ?_)
  refine wpAny_bind (wpAny_layCells _ (fun n k c => rfl) scope.names closure _ _ ?_)
  rw [show ({ s with heap := s.heap.push { cls := .type "dict", data := .dict #[] } } : Shared).heap.objs.size = s.heap.objs.size + 1 from Heap.size_push ..]
  rw [List.forIn_nil]
  exact wpAny_bind (wpAny_pure (wpAny_pure h))
theorem lookup_relS {sc : Scope} : ∀ {names : List (Str × NameKind)} {x : Str} {k : NameKind},
    (names.map fun (n, k) => if (k == NameKind.free && sc.kind == .function && sc.names.lookup n == some .cell) then (n, NameKind.cell) else (n, k)).lookup x = some k →
    ∃ k', names.lookup x = some k' ∧ (k = k' ∨ (k' = .free ∧ k = .cell))
  | [], _, _, h => by simp at h
  | (n, k₀) :: r, x, k, h => by
    have ih := @lookup_relS sc r x k
    have h' : List.lookup x ((if (k₀ == NameKind.free && sc.kind == .function && sc.names.lookup n == some .cell) = true then (n, NameKind.cell) else (n, k₀)) :: (r.map _)) = some k := h
    cases hx : x == n with
    | true =>
      simp only [List.lookup_cons, hx]
      by_cases hc : (k₀ == NameKind.free && sc.kind == .function && sc.names.lookup n == some .cell) = true
      · rw [if_pos hc] at h'
        simp only [List.lookup_cons, hx] at h'
        cases h'
        simp only [Bool.and_eq_true, beq_iff_eq] at hc
        exact ⟨k₀, rfl, .inr ⟨hc.1.1, rfl⟩⟩
      · rw [if_neg hc] at h'
        simp only [List.lookup_cons, hx] at h'
        cases h'
        exact ⟨_, rfl, .inl rfl⟩
    | false =>
      simp only [List.lookup_cons, hx]
      by_cases hc : (k₀ == NameKind.free && sc.kind == .function && sc.names.lookup n == some .cell) = true
      · rw [if_pos hc] at h'
        simp only [List.lookup_cons, hx] at h'
        exact ih h'
      · rw [if_neg hc] at h'
        simp only [List.lookup_cons, hx] at h'
        exact ih h'
structure BlkOk (N : List Str) (sc scope : Scope) (own : List (Str × Nat)) : Prop where
  kind : scope.kind = .function
  uniq : ∀ y ∈ scope.names, scope.names.lookup y.1 = some y.2
  ix : ∀ p ∈ own, N[p.2]? = some p.1
  free : ∀ y ∈ scope.names, y.2 = .free → sc.names.lookup y.1 = some .cell ∨ sc.names.lookup y.1 = some .free
  own : ∀ y ∈ scope.names, y.2 = .local ∨ y.2 = .cell → y.1 ∈ own.map (·.1) ∨ y.1 ∉ N
def wipe (σ : St) : List Nat → St
  | [] => σ
  | v :: vs => (wipe σ vs).set v none
theorem wipe_length (σ : St) : ∀ vs : List Nat, (wipe σ vs).length = σ.length
  | [] => rfl
  | v :: vs => by unfold wipe; rw [List.length_set, wipe_length σ vs]
theorem wipe_some {σ : St} {i : Nat} {x : V} : ∀ {vs : List Nat}, (wipe σ vs)[i]? = some (some x) → σ[i]? = some (some x) ∧ i ∉ vs
  | [], h => ⟨h, by simp⟩
  | v :: vs, h => by
    unfold wipe at h
    by_cases hi : v = i
    · subst hi
      by_cases hv : v < (wipe σ vs).length
      · rw [List.getElem?_set_self hv] at h; cases h
      · rw [List.getElem?_eq_none (by simpa using hv)] at h; cases h
    · rw [List.getElem?_set_ne hi] at h
      obtain ⟨h1, h2⟩ := wipe_some h
      exact ⟨h1, by simp only [List.mem_cons, not_or]; exact ⟨fun e => hi e.symm, h2⟩⟩
abbrev Cx.blk (X : Cx) (s : Shared) (H : Hp) (scope : Scope) (cenv : Env) (fp : List Addr) : Cx := { X with s_0 := s, H_0 := H, env := cenv, outer := X.stack, ex := fp, fn := fun x => scope.names.lookup x == some .cell, pn := [], xe := fun _ _ => False }
section
variable {X : Cx} {pins : List (Addr × Obj)} {σ : St} {H : Hp} {s : Shared}
theorem block_start {scope : Scope} {own : List (Str × Nat)} {fp : List Addr} (I : Inv X pins σ H s) (ok : BlkOk X.N X.env.scope scope own) (hN : X.N.Nodup) (hfp : ∀ b ∈ fp, FpOk X pins H b ∧ b < s.heap.objs.size) :
    Inv (X.blk s H scope (compEnvC scope (cellsFrom (s.heap.objs.size + 1) scope.names (cloFrom X.env.cells scope.names [])) s.heap.objs.size X.env) fp) [] (wipe σ (own.map (·.2))) H { s with heap := pushCells (s.heap.push { cls := .type "dict", data := .dict #[] }) scope.names } := by
  have hfree : ∀ y ∈ scope.names, y.2 = .free → ∃ c, X.env.cells.lookup y.1 = some c := fun y hy e => by
    rcases ok.free y hy e with k | k
    · exact I.ok.has _ (.inl k)
    · exact I.ok.has _ (.inr k)
  generalize hcenv : compEnvC scope (cellsFrom (s.heap.objs.size + 1) scope.names (cloFrom X.env.cells scope.names [])) s.heap.objs.size X.env = cenv
  have kp : ∀ b o, s.heap.get? b = some o → (pushCells (s.heap.push { cls := .type "dict", data := .dict #[] }) scope.names).get? b = some o := fun b o e => pushCells_keeps _ _ _ _ (Heap.get?_push_of_some _ e)
  have hL : cenv.locals = s.heap.objs.size := by rw [← hcenv]; rfl
  have hcl : cenv.cells = cellsFrom (s.heap.objs.size + 1) scope.names (cloFrom X.env.cells scope.names []) := by rw [← hcenv]; rfl
  have hsc : cenv.scope = relS scope X.env.scope := by rw [← hcenv]; rfl
  rw [← Heap.size_push s.heap { cls := .type "dict", data := .dict #[] }] at hcl
  have cm : ∀ {y c}, (y, c) ∈ cloFrom X.env.cells scope.names [] → X.env.cells.lookup y = some c ∧ c < s.heap.objs.size := fun {y c} hm => by
    rcases cloFrom_mem hm with hm | ⟨h1, rfl⟩
    · cases hm
    · obtain ⟨c, hc⟩ := hfree _ h1 rfl
      rw [hc]
      obtain ⟨w, z⟩ := I.cell _ _ hc
      exact ⟨rfl, z.lt⟩
  have mem : ∀ {y c}, cenv.cells.lookup y = some c → (X.env.cells.lookup y = some c ∧ c < s.heap.objs.size) ∨ (s.heap.objs.size + 1 ≤ c ∧ CellAt (pushCells (s.heap.push { cls := .type "dict", data := .dict #[] }) scope.names) c none) := fun {y c} e => by
    rw [hcl] at e
    rcases cells_mem (PySem.mem_of_lookup e) with hm | ⟨_, h2, h3⟩
    · exact .inl (cm hm)
    · rw [Heap.size_push] at h2; exact .inr ⟨h2, h3⟩
  have look : ∀ {y}, scope.names.lookup y = some .free → ∃ c, cenv.cells.lookup y = some c ∧ X.env.cells.lookup y = some c := fun {y} hl => by
    have hy : (y, NameKind.free) ∈ scope.names := PySem.mem_of_lookup hl
    obtain ⟨c', e'⟩ := mem_lookup (cells_acc (names := scope.names) (n := (s.heap.push { cls := .type "dict", data := .dict #[] }).objs.size) (cloFrom_has (cells := X.env.cells) (acc := []) hy))
    rw [← hcl] at e'
    refine ⟨c', e', ?_⟩
    rw [hcl] at e'
    rcases cells_mem (PySem.mem_of_lookup e') with hm | ⟨h1, _, _⟩
    · exact (cm hm).1
    · have := ok.uniq _ h1
      rw [hl] at this; cases this
  have okB : (X.blk s H scope cenv fp).Ok := by
    refine ⟨I.ok.mod, by show cenv.scope.kind = _; rw [hsc]; exact ok.kind, by show cenv.globals = _; rw [← hcenv]; exact I.ok.glob, by show cenv.builtins = _; rw [← hcenv]; exact I.ok.blt, by show s.heap.objs.size ≤ cenv.locals; rw [hL]; exact Nat.le_refl _,
      fun y z c e1 e2 => ?_, fun y hy => ?_, fun y c z e => ?_, I.ok.hd, I.ok.frames, .inl rfl, fun b hb => ⟨?_, fun y c e z => ?_⟩, I.bs, Nat.le_trans I.ok.bsz I.sz, fun b o e hb => ?_, fun b hb z => ?_, I.stack, I.stkFree⟩
    · have e1 : cenv.cells.lookup y = some c := e1
      have e2 : cenv.cells.lookup z = some c := e2
      rw [hcl] at e1 e2
      refine cells_inj (fun p hp => ?_) (fun y z c a b => I.ok.inj y z c (cm a).1 (cm b).1) (PySem.mem_of_lookup e1) (PySem.mem_of_lookup e2)
      rw [Heap.size_push]
      exact Nat.lt_succ_of_lt (cm (y := p.1) (c := p.2) hp).2
    · show ∃ c, cenv.cells.lookup y = some c
      have key : ∀ k, cenv.kindOf y = some k → (k = .cell ∨ k = .free) → ∃ c, cenv.cells.lookup y = some c := fun k hk hk' => by
        unfold Env.kindOf at hk
        rw [hsc] at hk
        obtain ⟨k', e, r⟩ := lookup_relS hk
        have : k' = .cell ∨ k' = .free := by
          rcases r with rfl | ⟨rfl, _⟩
          · exact hk'
          · exact .inr rfl
        rcases this with rfl | rfl
        · obtain ⟨c, hm⟩ := cells_has (n := (s.heap.push { cls := .type "dict", data := .dict #[] }).objs.size) (acc := cloFrom X.env.cells scope.names []) (PySem.mem_of_lookup e)
          obtain ⟨c', e'⟩ := mem_lookup hm
          exact ⟨c', by rw [hcl]; exact e'⟩
        · obtain ⟨c, h1, _⟩ := look e
          exact ⟨c, h1⟩
      rcases hy with hy | hy
      · exact key _ hy (.inl rfl)
      · exact key _ hy (.inr rfl)
    · have z : (scope.names.lookup y == some NameKind.cell) = true := z
      have z : scope.names.lookup y = some .cell := by simpa using z
      have e : cenv.cells.lookup y = some c := e
      rw [hcl] at e
      rcases cells_mem (PySem.mem_of_lookup e) with hm | ⟨_, h2, _⟩
      · rcases cloFrom_mem hm with hm | ⟨h1, _⟩
        · cases hm
        · have q := ok.uniq _ h1
          rw [z] at q; cases q
      · rw [Heap.size_push] at h2
        exact Nat.le_of_succ_le h2
    · show b ≠ cenv.locals
      rw [hL]; exact Nat.ne_of_lt (hfp b hb).2
    · have e : cenv.cells.lookup y = some c := e
      rcases mem e with ⟨h1, _⟩ | ⟨h1, _⟩
      · exact (hfp b hb).1.2.2.2.2.1 y c h1 z
      · have h2 : s.heap.objs.size + 1 ≤ b := by rw [← z]; exact h1
        exact absurd (Nat.lt_of_lt_of_le (hfp b hb).2 (Nat.le_of_succ_le h2)) (Nat.lt_irrefl _)
    · rcases (hfp b hb).1.2.2.2.1 with z | z
      · exact I.ok.noex b o e z
      · exact absurd (Nat.lt_of_lt_of_le (Heap.lt_size e) (Nat.le_trans I.ok.bsz z)) (Nat.lt_irrefl _)
    · rcases List.mem_cons.mp (I.stkSub b z) with z | z
      · exact (hfp b hb).1.2.1 z
      · exact (hfp b hb).1.2.2.1 z
  refine ⟨okB, rfl, I.bare, Un.kept kp, ⟨fun _ => none, ?_, fun i y av e1 e2 e3 => ?_⟩, fun y c e => ?_, ?_, fun y c e => ?_, fun p hp => ?_, I.hok.kept kp, by rw [wipe_length]; exact I.len⟩
  · show Heap.Ns _ cenv.locals _
    rw [hL]
    exact Heap.Ns.keeps (Heap.Ns.new ..) fun b o e => pushCells_keeps _ _ _ _ e
  · obtain ⟨e2, hne⟩ := wipe_some e2
    have hfr : scope.names.lookup y = some .free ∧ (cenv.kindOf y = some .cell ∨ cenv.kindOf y = some .free) := by
      have key : ∀ k, cenv.scope.names.lookup y = some k → k = .local ∨ k = .cell ∨ k = .free → scope.names.lookup y = some .free ∧ (cenv.kindOf y = some .cell ∨ cenv.kindOf y = some .free) := fun k hk hk' => by
        have hk0 := hk
        rw [hsc] at hk
        obtain ⟨k', e, r⟩ := lookup_relS hk
        have no : ¬ (k' = .local ∨ k' = .cell) := fun hh => by
          rcases ok.own _ (PySem.mem_of_lookup e) hh with e' | e'
          · obtain ⟨p, hp, hpy⟩ := List.mem_map.mp e'
            have e3 := ok.ix p hp
            have : p.1 = y := hpy
            rw [this] at e3
            exact hne (List.mem_map.mpr ⟨p, hp, nodup_ix hN e3 e1⟩)
          · exact e' (List.mem_of_getElem? e1)
        rcases r with rfl | ⟨rfl, rfl⟩
        · rcases hk' with rfl | rfl | rfl
          · exact absurd (.inl rfl) no
          · exact absurd (.inr rfl) no
          · exact ⟨e, .inr hk0⟩
        · exact ⟨e, .inl hk0⟩
      have e3 : Vis cenv.scope y := e3
      rcases e3 with e3 | e3 | e3
      · exact key _ e3 (.inl rfl)
      · exact key _ e3 (.inr (.inl rfl))
      · exact key _ e3 (.inr (.inr rfl))
    obtain ⟨m, hn, hl⟩ := I.loc
    have hvis : Vis X.env.scope y := (ok.free _ (PySem.mem_of_lookup hfr.1) rfl).elim (fun k => .inr (.inl k)) (fun k => .inr (.inr k))
    obtain ⟨w, r, q⟩ := hl i y av e1 e2 hvis
    refine ⟨w, r, .inr ⟨hfr.2, ?_⟩⟩
    obtain ⟨c, h1, h2⟩ := look hfr.1
    rcases q with ⟨k, _⟩ | ⟨_, c', e', z⟩
    · have k : X.env.scope.names.lookup y = some .local := k
      rcases ok.free _ (PySem.mem_of_lookup hfr.1) rfl with k' | k' <;> rw [show X.env.scope.names.lookup y = _ from k'] at k <;> cases k
    · rw [h2] at e'; cases e'
      exact ⟨c, h1, z.keeps kp⟩
  · have e : cenv.cells.lookup y = some c := e
    rcases mem e with ⟨h1, _⟩ | ⟨_, z⟩
    · obtain ⟨w, z⟩ := I.cell y c h1
      exact ⟨w, z.keeps kp⟩
    · exact ⟨_, z⟩
  · show H cenv.locals = none
    rw [hL]; exact I.hok.fresh (Nat.le_refl _)
  · have e : cenv.cells.lookup y = some c := e
    rcases mem e with ⟨h1, _⟩ | ⟨h1, _⟩
    · exact I.freeC y c h1
    · exact I.hok.fresh (Nat.le_of_succ_le h1)
  · exact absurd (show p ∈ ([] : List (Addr × Obj)) ++ [] from hp) (by simp)
theorem app_ok {E : Value → Shared → Prop} {D : Addr} {xs : List V} {y : V} {v : Value} {Q : Value → Shared → Prop} (I : Inv X pins σ H s) (hD : H D = some (.lst xs)) (hz : xs.length < sizeLine) (r : RelV y v)
    (h : ∀ s', Inv X pins σ (upd H D (.lst (xs ++ [y]))) s' → Q .none s') : wpAny (model X.prog X.w) X.A (call (.builtin "list.append") [.ref D, v]) Q E s := by
  obtain ⟨hz', its, n, ri, e⟩ := I.hok D _ hD
  have hl := ri.length
  refine append_at (hsz := by rw [List.size_toArray]; omega) e fun h' sb ho' => ?_
  refine h { s with heap := h' } (I.write (t' := s.toks) (by rw [hD]; trivial) (.inl rfl) (fun b u hb q => (sb.2 b hb).trans q) ⟨_, ho'⟩ ⟨by rw [List.length_append]; exact hz, its ++ [v], n + 1, ri.append (.cons r .nil), ?_⟩)
  rw [ho']
  simp
def PTs (X : Cx) (ifs : List Expr) (t : TT) : Prop :=
  ∀ (pins : List (Addr × Obj)) (s : Shared) (σ : St) (H : Hp) (Q : Bool → Hp → Prop), Inv X pins σ H s → t σ H Q →
    wpAny (model X.prog X.w) X.A (forIn ifs true fun c r => if r = true then do let ok ← isTrue c X.env (eval c X.env); pure (ForInStep.yield ok) else pure (ForInStep.yield r)) (TP X pins σ Q) X.xe s
def tYes : TT := fun _ H Q => Q true H
theorem pts_nil : PTs X [] tYes := fun _ _ _ H _ I h => wpAny_tests_nil ⟨H, I, h⟩
end
theorem thnF {α : Type} {t : Sem α} {Q Q' : α → Shared → Prop} {M : Model} {A : Around} {E : Value → Shared → Prop} {s : Shared} (h : wpAny M A t Q (fun _ _ => False) s) (hQ : ∀ a s, Q a s → Q' a s) : wpAny M A t Q' E s := wpAny_mono h hQ fun _ _ z => False.elim z
theorem compLoop_any {prog : Program} {w : World} {A : Around} {R : Result → Shared → Prop} {s : Shared} {elt target iter : Expr} {ifs : List Expr} {scope : Scope} {pos : Pos} {it acc : Value} {env : Env} (I : Nat → Shared → Prop)
    (turn : ∀ n s, I n s → wpAny (model prog w) A (pyNext it) (fun r s₁ => match r with
      | none => R (.ok .next) s₁
      | some v => wpAny (model prog w) A (letOwnedTupleGo target it v) (fun _ s₁' => wpAny (model prog w) A (assign target env v) (fun _ s₂ =>
          wpAny (model prog w) A (forIn ifs true fun c r => if r = true then do let ok ← isTrue c env (eval c env); pure (ForInStep.yield ok) else pure (ForInStep.yield r)) (fun ok s₃ =>
            if ok = true then wpAny (model prog w) A (eval elt env) (fun x s₄ =>
              wpAny (model prog w) A (call (.builtin "list.append") [acc, x]) (fun _ s₅ => ∃ m, m < n ∧ I m s₅) (notedBy (model prog w) A env fun e s' => R (.error e) s') s₄) (notedBy (model prog w) A env fun e s' => R (.error e) s') s₃
            else ∃ m, m < n ∧ I m s₃) (notedBy (model prog w) A env fun e s' => R (.error e) s') s₂) (notedBy (model prog w) A env fun e s' => R (.error e) s') s₁') (notedBy (model prog w) A env fun e s' => R (.error e) s') s₁) (notedBy (model prog w) A env fun e s' => R (.error e) s') s)
    (n : Nat) (h : I n s) :
    codeAny (model prog w) A (.compLoop (.ListComp elt [⟨target, iter, ifs, 0⟩] scope pos) 0 it acc env) R s := by
  refine codeAny_loop rfl I (fun n s hI => ?_) n h
  show wpAny _ A ((compTurn (.ListComp elt [⟨target, iter, ifs, 0⟩] scope pos) 0 it acc env).onRaise (fun x => do noteFrame x env; theTreesLotGoes x)) _ _ s
  refine wpAny_noted ?_
  rw [compTurn_list]
  refine wpAny_bind (wpAny_standAt (wpAny_bind (wpAny_mono (turn n s hI) (fun r s₁ h₁ => ?_) fun _ _ h' => h')))
  cases r with
  | none => exact wpAny_pure h₁
  | some v =>
    refine wpAny_bind (wpAny_mono h₁ (fun _ s₁' h₁' => ?_) fun _ _ h' => h')
    refine wpAny_bind (wpAny_mono h₁' (fun _ s₂ h₂ => wpAny_bind (wpAny_mono h₂ (fun ok s₃ h₃ => ?_) fun _ _ h' => h')) fun _ _ h' => h')
    cases ok with
    | false => exact wpAny_pure ⟨rfl, h₃⟩
    | true =>
      exact wpAny_bind (wpAny_bind (wpAny_mono h₃ (fun x s₄ h₄ => wpAny_bind (wpAny_mono h₄ (fun _ s₅ h₅ => wpAny_pure (wpAny_pure ⟨rfl, h₅⟩)) fun _ _ h' => h')) fun _ _ h' => h'))
section
variable {X : Cx}
def tLc (wi : TI) (g : TG) (tt : TT) (te : TE) (vs : List Nat) : TE := fun σ H Q => wi σ H fun J H1 => ∀ D, H1 D = none → ∃ W : Nat → Nat → Hp → Prop, (∃ m, W 0 m (upd H1 D (.lst []))) ∧ ∀ i m H, W i m H →
  (J.stop i H ∧ Q (.ref D) H) ∨ (J.go i H ∧ ∃ Nx : Hp → Prop, (∀ H', Nx H' → ∃ m', m' < m ∧ W (i + 1) m' H') ∧ ∀ x H', J.yld i H x H' → g x (wipe σ vs) H' fun σ2 H2 => wipe σ2 vs = wipe σ vs ∧ tt σ2 H2 fun b H3 =>
    if b = true then te σ2 H3 fun y H4 => ∃ acc, H4 D = some (.lst acc) ∧ acc.length < sizeLine ∧ Nx (upd H4 D (.lst (acc ++ [y]))) else Nx H3)
theorem lc_core {pins : List (Addr × Obj)} {s : Shared} {σ : St} {H : Hp} {Q : VK} {elt tg iter : Expr} {ifs : List Expr} {scope : Scope} {own : List (Str × Nat)} {pos pos' : Pos} {wi : TI} {g : TG} {tt : TT} {te : TE} {use : Option (Value → Sem Unit)} {Qf : Value → Shared → Prop}
    (hc : X.calm = true) (hN : X.N.Nodup) (I : Inv X pins σ H s) (hi : PI X tg iter wi) (ok : BlkOk X.N X.env.scope scope own)
    (hg : ∀ (s : Shared) (H : Hp) (C : Addr) (cl : List (Str × Addr)) (fp : List Addr), PG (X.blk s H scope (compEnvC scope cl C X.env) fp) tg g) (ht : ∀ (s : Shared) (H : Hp) (C : Addr) (cl : List (Str × Addr)) (fp : List Addr), PTs (X.blk s H scope (compEnvC scope cl C X.env) fp) ifs tt)
    (he : ∀ (s : Shared) (H : Hp) (C : Addr) (cl : List (Str × Addr)) (fp : List Addr), PE (X.blk s H scope (compEnvC scope cl C X.env) fp) elt te) (hs : ∀ x, foldedSetIterable iter X.env x = pure x)
    (h : tLc wi g tt te (own.map (·.2)) σ H Q)
    (hRR : ∀ D C s' m H', Inv X pins σ H' s' → Q (.ref D) H' → s'.heap.Ns C m → FpOk X pins H' C → compPost (model X.prog X.w) X.A X.xe use Qf (.ref D) C (.ok .next) s') :
    wpAny (model X.prog X.w) X.A (comprehension (.ListComp elt [⟨tg, iter, ifs, 0⟩] scope pos) scope X.env pos' (newList []) false (eval iter X.env) use) Qf X.xe s := by
  have hfree : ∀ y ∈ scope.names, y.2 = .free → ∃ c, X.env.cells.lookup y.1 = some c := fun y hy e => by
    rcases ok.free y hy e with k | k
    · exact I.ok.has _ (.inl k)
    · exact I.ok.has _ (.inr k)
  refine wpAny_comprehension_free (use := use) rfl hs (closure_ok hfree) ok.kind (fun y hy e => by rw [ok.uniq y hy, e])
    (thn (hi pins s σ H _ I h) fun xv s1 hx => thn hx fun itv s2 h2 => ?_)
  obtain ⟨it, fp, tn, J, H2, e, I2, T, st2, f2, q⟩ := h2
  subst e
  refine wpAny_newObj_type (newEnv_comp ?_) (by show 0 ≤ sizeLine; decide)
  generalize hD : s2.heap.objs.size = D
  have hDn : H2 D = none := I2.hok.fresh (Nat.le_of_eq hD)
  obtain ⟨W, ⟨m0, w0⟩, turn⟩ := q D hDn
  generalize hs3 : ({ s2 with heap := s2.heap.push { cls := .type "list", data := .seq ([] : List Value).toArray } } : Shared) = s3
  have I3 : Inv X pins σ (upd H2 D (.lst [])) s3 := by
    rw [← hs3]
    refine I2.laid (t' := s2.toks) (fun b o e => Heap.get?_push_of_some _ e) (Nat.le_of_eq hD) ⟨Nat.zero_le _, [], 0, .nil, ?_⟩
    rw [← hD]
    exact Heap.get?_push_size _ rfl
  have h3 : s3.heap = s2.heap.push { cls := .type "list", data := .seq ([] : List Value).toArray } := by rw [← hs3]
  have sz : ∀ b ∈ fp, b < s2.heap.objs.size := fun b hb => by
    obtain ⟨o, e, _⟩ := T.obj _ _ st2 b hb
    exact Heap.lt_size e
  have f3 : ∀ b ∈ fp, FpOk X pins (upd H2 D (.lst [])) b ∧ b < s3.heap.objs.size := fun b hb => by
    have hlt := sz b hb
    refine ⟨⟨?_, (f2 b hb).2⟩, by rw [h3, Heap.size_push]; exact Nat.lt_succ_of_lt hlt⟩
    rw [upd_ne (by rw [← hD]; exact Nat.ne_of_lt hlt)]
    exact (f2 b hb).1
  have st3 : tn 0 s3.heap := T.keep _ _ _ st2 fun b _ o e => by rw [h3]; exact Heap.get?_push_of_some _ e
  have I4 := block_start I3 ok hN f3
  have pg := hg s3 (upd H2 D (.lst [])) s3.heap.objs.size (cellsFrom (s3.heap.objs.size + 1) scope.names (cloFrom X.env.cells scope.names [])) fp
  have pt := ht s3 (upd H2 D (.lst [])) s3.heap.objs.size (cellsFrom (s3.heap.objs.size + 1) scope.names (cloFrom X.env.cells scope.names [])) fp
  have pe := he s3 (upd H2 D (.lst [])) s3.heap.objs.size (cellsFrom (s3.heap.objs.size + 1) scope.names (cloFrom X.env.cells scope.names [])) fp
  show codeAny _ _ (.compStart (.ListComp elt [⟨tg, iter, ifs, 0⟩] scope pos) 0 (.ref it) (.ref D) (compEnvC scope (cellsFrom (s3.heap.objs.size + 1) scope.names (cloFrom X.env.cells scope.names [])) s3.heap.objs.size X.env)) (compPost (model X.prog X.w) X.A X.xe use Qf (.ref D) s3.heap.objs.size) { s3 with heap := pushCells (s3.heap.push { cls := .type "dict", data := .dict #[] }) scope.names }
  have nfp : ∀ b ∈ fp, (upd H2 D (.lst [])) b = none := fun b hb => (f3 b hb).1.1
  generalize hce : compEnvC scope (cellsFrom (s3.heap.objs.size + 1) scope.names (cloFrom X.env.cells scope.names [])) s3.heap.objs.size X.env = ce at I4 pg pt pe ⊢
  have cL : ce.locals = s3.heap.objs.size := by subst hce; rfl
  generalize hH3 : upd H2 D (.lst []) = H3 at I3 I4 pg pt pe w0 nfp f3
  generalize hs4 : ({ s3 with heap := pushCells (s3.heap.push { cls := .type "dict", data := .dict #[] }) scope.names } : Shared) = s4 at I4 ⊢
  have st4 : tn 0 s4.heap := T.keep _ _ _ st3 fun b _ o e => by rw [← hs4]; exact pushCells_keeps _ _ _ _ (Heap.get?_push_of_some _ e)
  have stat : ∀ {σ' : St} {H' : Hp} {s' : Shared}, Inv (X.blk s3 H3 scope ce fp) [] σ' H' s' → (∀ b ∈ fp, H' b = none) → ∀ b ∈ fp, FpOk (X.blk s3 H3 scope ce fp) [] H' b := fun {σ' H' s'} I' hn b hb =>
    ⟨hn b hb, (I'.ok.exf b hb).1, I'.ok.exfs b hb, .inl hb, fun x c e => (I'.ok.exf b hb).2 x c e, fun p hp => absurd (show p ∈ ([] : List (Addr × Obj)) ++ [] from hp) (by simp)⟩
  have loop : codeAny (model X.prog X.w) X.A (.compLoop (.ListComp elt [⟨tg, iter, ifs, 0⟩] scope pos) 0 (.ref it) (.ref D) ce) (compPost (model X.prog X.w) X.A X.xe use Qf (.ref D) s3.heap.objs.size) s4 := by
    refine compLoop_any (fun n s' => ∃ i H', Inv (X.blk s3 H3 scope ce fp) [] (wipe σ (own.map (·.2))) H' s' ∧ tn i s'.heap ∧ (∀ b ∈ fp, H' b = none) ∧ W i n H') ?_ m0 ⟨0, H3, I4, st4, nfp, w0⟩
    rintro n s5 ⟨i, H5, I5, st5, n5, w5⟩
    rcases turn i n H5 w5 with ⟨stop, qq⟩ | ⟨go, Nx, hNx, step⟩
    · have td := T.done (X.blk s3 H3 scope ce fp) rfl rfl rfl hc i [] s5 _ H5 (fun _ _ => False) I5 (stat I5 n5) st5 stop
      refine thnF td fun r s6 ⟨hr, I6⟩ => ?_
      subst hr
      have I7 : Inv X pins σ H5 s6 := I3.call' (ch := fp) I6.os I6.base I6.hok I6.bare fun b hb => ⟨(f3 b hb).1.2.2.2.1, (f3 b hb).1.2.1, (f3 b hb).1.2.2.2.2.1, (f3 b hb).1.2.2.2.2.2⟩
      have nC : H5 s3.heap.objs.size = none := by
        have z : H5 ce.locals = none := I6.free
        rw [cL] at z
        exact z
      obtain ⟨m, hn, _⟩ := I6.loc
      have hn : s6.heap.Ns ce.locals m := hn
      rw [cL] at hn
      exact hRR D s3.heap.objs.size s6 m H5 I7 qq hn (I3.fpOk (Nat.le_refl _) nC)
    · have ti := T.item (X.blk s3 H3 scope ce fp) rfl rfl rfl hc i [] s5 _ H5 (fun _ _ => False) I5 (stat I5 n5) st5 go
      refine thnF ti fun r s6 ⟨u, hr, h6⟩ => ?_
      subst hr
      refine thnF h6 fun _ s7 ⟨x, H7, I7, r7, y7, st7, n7⟩ => ?_
      have I7' := I7.pinned (stat I7 n7) (T.obj _ _ st7)
      refine thnF (pg _ s7 _ H7 x u _ I7' r7 (step x H7 y7)) fun _ s8 ⟨σ8, H8, I8, hw8, q8⟩ => ?_
      refine thnF (pt _ s8 σ8 H8 _ I8 q8) fun b s9 ⟨H9, I9, q9⟩ => ?_
      have fin : ∀ {s' : Shared} {H' : Hp}, Inv (X.blk s3 H3 scope ce fp) ([] ++ pinsAt fp s7.heap) σ8 H' s' → Nx H' → ∃ m, m < n ∧ ∃ i H', Inv (X.blk s3 H3 scope ce fp) [] (wipe σ (own.map (·.2))) H' s' ∧ tn i s'.heap ∧ (∀ b ∈ fp, H' b = none) ∧ W i m H' := fun {s' H'} I' nx => by
        obtain ⟨m', hm, w'⟩ := hNx H' nx
        have pin' : ∀ b ∈ fp, ∀ o, s7.heap.get? b = some o → s'.heap.get? b = some o ∧ H' b = none := fun b hb o e =>
          let z := I'.pin (b, o) (List.mem_append_right _ (List.mem_append_right _ (mem_pinsAt hb e)))
          ⟨z.1, z.2.1⟩
        have hl : (wipe σ (own.map (·.2))).length = σ8.length := by rw [← hw8, wipe_length]
        refine ⟨m', hm, i + 1, H', (I'.unpinned (pins := [])).weak hl (fun j v e => ?_), T.keep _ _ _ st7 fun b hb o e => (pin' b hb o e).1, fun b hb => ?_, w'⟩
        · rw [← hw8] at e
          exact (wipe_some e).1
        · obtain ⟨o, e, _⟩ := T.obj _ _ st7 b hb
          exact (pin' b hb o e).2
      cases b with
      | false =>
        simp only [Bool.false_eq_true, if_false] at q9 ⊢
        exact fin I9 q9
      | true =>
        simp only [if_true] at q9 ⊢
        refine thnF (pe _ s9 σ8 H9 _ I9 q9) fun z s10 ⟨yv, H10, I10, r10, acc, hD10, hz10, nx⟩ => ?_
        exact app_ok (X := X.blk s3 H3 scope ce fp) I10 hD10 hz10 r10 fun s11 I11 => fin I11 nx
  exact codeAny_compStart_list loop (T.self X.A 0 _ _ _ st4 loop)
theorem pe_lc {elt tg iter : Expr} {ifs : List Expr} {scope : Scope} {own : List (Str × Nat)} {pos : Pos} {wi : TI} {g : TG} {tt : TT} {te : TE} (hc : X.calm = true) (hN : X.N.Nodup) (hi : PI X tg iter wi) (ok : BlkOk X.N X.env.scope scope own)
    (hg : ∀ (s : Shared) (H : Hp) (C : Addr) (cl : List (Str × Addr)) (fp : List Addr), PG (X.blk s H scope (compEnvC scope cl C X.env) fp) tg g) (ht : ∀ (s : Shared) (H : Hp) (C : Addr) (cl : List (Str × Addr)) (fp : List Addr), PTs (X.blk s H scope (compEnvC scope cl C X.env) fp) ifs tt)
    (he : ∀ (s : Shared) (H : Hp) (C : Addr) (cl : List (Str × Addr)) (fp : List Addr), PE (X.blk s H scope (compEnvC scope cl C X.env) fp) elt te) (hs : ∀ x, foldedSetIterable iter X.env x = pure x := by intro _; rfl) :
    PE X (.ListComp elt [⟨tg, iter, ifs, 0⟩] scope pos) (tLc wi g tt te (own.map (·.2))) := by
  intro pins s σ H Q I h
  rw [eval_ListComp]
  refine lc_core hc hN I hi ok hg ht he hs h fun D C s' m H' I' q hn f => ⟨m, hn, fun h'' sb => ?_⟩
  obtain ⟨f0, f1, f2, f3, f4, f5⟩ := f
  exact ⟨.ref D, H', I'.turned (t' := s'.toks) (fun b o hb e => (sb.2 b hb).trans e) f0 f1 f3 f4 f5, rfl, q⟩
end
theorem lc_tup {K : PySem.W.Frag} {a : Addr} {xs : List V} {g : TG} {tt : TT} {te : TE} {vs : List Nat} {σ : St} {H1 : Hp} {D : Addr} {Qd : Hp → Prop} (Pv : Nat → Hp → Prop) (h0 : Pv 0 (upd H1 D (.lst []))) (hl : ∀ i H, i ≤ xs.length → Pv i H → SqT K H a xs)
    (hs : ∀ i x H, xs[i]? = some x → Pv i H → g x (wipe σ vs) H fun σ2 H2 => wipe σ2 vs = wipe σ vs ∧ tt σ2 H2 fun b H3 =>
      if b = true then te σ2 H3 fun y H4 => ∃ acc, H4 D = some (.lst acc) ∧ acc.length < sizeLine ∧ Pv (i + 1) (upd H4 D (.lst (acc ++ [y]))) else Pv (i + 1) H3) (hd : ∀ H, Pv xs.length H → Qd H) :
    ∃ W : Nat → Nat → Hp → Prop, (∃ m, W 0 m (upd H1 D (.lst []))) ∧ ∀ i m H, W i m H →
      ((Itt K a).stop i H ∧ Qd H) ∨ ((Itt K a).go i H ∧ ∃ Nx : Hp → Prop, (∀ H', Nx H' → ∃ m', m' < m ∧ W (i + 1) m' H') ∧ ∀ x H', (Itt K a).yld i H x H' → g x (wipe σ vs) H' fun σ2 H2 => wipe σ2 vs = wipe σ vs ∧ tt σ2 H2 fun b H3 =>
        if b = true then te σ2 H3 fun y H4 => ∃ acc, H4 D = some (.lst acc) ∧ acc.length < sizeLine ∧ Nx (upd H4 D (.lst (acc ++ [y]))) else Nx H3) := by
  refine ⟨fun i m H => m = xs.length - i ∧ i ≤ xs.length ∧ Pv i H, ⟨xs.length, by simp, Nat.zero_le _, h0⟩, ?_⟩
  rintro i m H ⟨rfl, hi, p⟩
  have q := hl i H hi p
  by_cases hlt : i < xs.length
  · refine .inr ⟨⟨xs, xs[i], q, by simp [hlt]⟩, Pv (i + 1), fun H' p' => ⟨xs.length - (i + 1), by omega, rfl, hlt, p'⟩, fun x H' y => ?_⟩
    obtain ⟨e, y⟩ := y
    subst e
    exact hs i x _ (y xs q) p
  · have e : i = xs.length := by omega
    subst e
    exact .inl ⟨⟨xs, q, Nat.le_refl _⟩, hd H p⟩
def blkC (N : List Str) (sc scope : Scope) (own : List (Str × Nat)) : Bool :=
  (match scope.kind with | .function => true | _ => false) && (scope.names.all fun y => decide (scope.names.lookup y.1 = some y.2)) && (own.all fun p => decide (N[p.2]? = some p.1)) &&
    (scope.names.all fun y => match y.2 with
      | .free => (match sc.names.lookup y.1 with | some .cell => true | some .free => true | _ => false)
      | .local => decide (y.1 ∈ own.map (·.1)) || decide (y.1 ∉ N)
      | .cell => decide (y.1 ∈ own.map (·.1)) || decide (y.1 ∉ N)
      | _ => true)
theorem blkOk_by {N : List Str} {sc scope : Scope} {own : List (Str × Nat)} (h : blkC N sc scope own = true) : BlkOk N sc scope own := by
  unfold blkC at h
  simp only [Bool.and_eq_true, List.all_eq_true, decide_eq_true_eq] at h
  obtain ⟨⟨⟨h1, h2⟩, h3⟩, h4⟩ := h
  refine ⟨?_, h2, h3, fun y hy e => ?_, fun y hy e => ?_⟩
  · split at h1
    · assumption
    · cases h1
  · have q := h4 y hy
    simp only [e] at q
    split at q <;> first | exact .inl (by assumption) | exact .inr (by assumption) | cases q
  · have q := h4 y hy
    rcases e with e | e <;> (simp only [e, Bool.or_eq_true, decide_eq_true_eq] at q; exact q)
end L2
namespace L2
open PySem PySem.Spec PyProof.Rows
section
variable {prog : Program} {w : World} {A : Around} {R : Result → Shared → Prop} {s : Shared} {elt t0 i0 t1 i1 : Expr} {ifs0 ifs1 : List Expr} {scope : Scope} {pos : Pos} {it acc : Value} {env : Env}
end
section
variable {X : Cx}
end
end L2
namespace L2
open PySem PySem.Spec PyProof.Rows
section
variable {X : Cx} {pins : List (Addr × Obj)} {σ : St} {H : Hp} {s : Shared} {h' : Heap}
theorem Inv.turnedNew {t' : Nat} {ch : List Addr} {T : Addr} {ob : HO} (I : Inv X pins σ H s) (k : ∀ b o, b ∉ ch → s.heap.get? b = some o → h'.get? b = some o) (hf : ∀ b ∈ ch, FpOk X pins H b) (hT : s.heap.objs.size ≤ T)
    (new : ObjOk X.prog X.w (upd H T ob) h' T ob) : Inv X pins σ (upd H T ob) { s with heap := h', toks := t' } := by
  have hn : H T = none := I.hok.fresh hT
  have nit : ∀ b u, H b = some u → b ∉ ch := fun b u e z => by
    have q := (hf b z).1
    rw [q] at e; cases e
  refine I.step (g' := s.gens) (d' := s.drawn) (ch := ch) (fun b hb => ⟨(hf b hb).2.2.2.1, (hf b hb).2.1, (hf b hb).2.2.2.2.1, (hf b hb).2.2.2.2.2⟩) (fun b o _ _ hc e _ => k b o hc e) (fun b o _ _ hc e _ => ⟨o.slots, k b o hc e⟩)
    (fun b o _ e n => ?_) (fun b o hc e => ⟨o, k b o hc e⟩) (fun b xs e => ?_) (fun b o u e => ?_) (fun b ps e => ⟨#[], ?_⟩) (fun m hm => ?_) (fun b u e => ?_) I.bare
  · rw [upd_ne (Nat.ne_of_lt (Nat.lt_of_lt_of_le (Heap.lt_size e) hT))]; exact n
  · rw [upd_ne (ne_of_none e hn)]; exact e
  · rw [upd_ne (ne_of_none e hn)]; exact e
  · rw [upd_ne (ne_of_none e hn), e]; simp
  · obtain ⟨o, es, ep, ho, r⟩ := hm
    exact ⟨o, es, ep, k _ o (fun z => (hf _ z).2.1 rfl) ho, r⟩
  · by_cases hb : b = T
    · subst hb
      rw [upd_same] at e
      cases e
      exact new
    · rw [upd_ne hb] at e
      refine (I.hok b u e).stay (fun c v hc q => k c v ?_ q) (fun c q => by rw [upd_ne (ne_of_none q hn)]; exact q) fun c xs q => by rw [upd_ne (ne_of_none q hn)]; exact q
      rcases hc with z | z
      · rw [z]; exact nit b u e
      · exact nit c _ z
theorem pi_one {tg : Expr} {pins : List (Addr × Obj)} {σ : St} {H : Hp} {s : Shared} {R : It → Hp → Prop} {J : It} {tn : Nat → Heap → Prop} {tk : Nat} (I : Inv X pins σ H s) (o : Obj)
    (T : Turn X.prog X.w X.K tg J [s.heap.objs.size] s.heap.objs.size tn) (st : tn 0 (s.heap.push o)) (q : R J H) : PIE X pins σ tg R (.ref s.heap.objs.size) { s with heap := s.heap.push o, toks := tk } := by
  refine ⟨s.heap.objs.size, [s.heap.objs.size], tn, J, H, rfl, I.kept fun b ob e => Heap.get?_push_of_some _ e, T, st, fun b hb => ?_, q⟩
  have e : b = s.heap.objs.size := by simpa using hb
  subst e
  exact I.fpOk (Nat.le_refl _) (I.hok.fresh (Nat.le_refl _))
end
end L2
namespace L2
open PySem PySem.Spec PyProof.Rows
def inClass (s : Stmt) (j : Nat) : Stmt := match s with
  | .ClassDef _ _ _ body _ _ _ _ _ _ _ => body.getD j (.Pass ⟨0, 0, 0, 0⟩)
  | _ => .Pass ⟨0, 0, 0, 0⟩
def defArgs (s : Stmt) : Arguments := match s with
  | .FunctionDef _ a _ _ _ _ _ _ _ _ => a
  | _ => { posonlyargs := [], args := [], vararg := none, kwonlyargs := [], kw_defaults := [], kwarg := none, defaults := [] }
def defBody (s : Stmt) : List Stmt := match s with
  | .FunctionDef _ _ b _ _ _ _ _ _ _ => b
  | _ => []
def defScope (s : Stmt) : Scope := match s with
  | .FunctionDef _ _ _ _ _ _ sc _ _ _ => sc
  | _ => { kind := .function, names := [], isGenerator := false, isCoroutine := false }
abbrev CX0 : CXT := fun _ _ _ _ _ _ => False
abbrev E0 : XK := fun _ _ _ => False
theorem pass0 {X : Cx} : Passes CX0 X E0 := fun _ _ _ _ _ _ _ h => h.elim
structure Fun (K : PySem.W.Frag) (x qual : Str) (st : Stmt) (f : Addr) (fd : FuncData) : Prop where
  ex : ∃ (oc : Value) (od : Option Addr) (kV doc pm : Value) (an : Option Addr) (cdv ct : Value) (osl : Array (Option Value)),
    fd = PySem.W.fnOf x qual (defArgs st) (defBody st) (defScope st) .none kV doc pm an cdv ct ∧ K.lookup f = some ⟨oc, od, .func fd, osl⟩ ∧ PySem.W.codeIn K cdv qual = true
  kp : PySem.W.keepIn K (.ref f) = true
section
variable {P : Program} {w : World} {K : PySem.W.Frag} {mg : Str → Option Value} {base : Heap}
theorem Fun.ok {x qual : Str} {st : Stmt} {f : Addr} {fd : FuncData} {N ps : List Str} {k : Nat} {sp : Sp} (F : Fun K x qual st f fd) (S : FnScope N ps (defScope st)) (len : ∀ vs H Q E, sp vs H Q E → vs.length = ps.length)
    (hbody : ∀ (cdv : Value) (A : Around) (outer : List Env) (s : Shared) (H : Hp) (vs : List V) (Q : VK) (E : XK), Room k (A.deeper (envOfC qual (defScope st) s.heap.objs.size f cdv)) → sp vs H Q E →
      ∃ t, PSs (cxOf CX0 P w K mg base N qual (defScope st) f cdv A outer s H E).nox (defBody st) t ∧ t { nx := fun _ H' => Q .non H', rt := Q } (start N vs) H) : FnOk P w K mg base CX0 (k + 1) f fd ps sp := by
  obtain ⟨oc, od, kV, doc, pm, an, cdv, ct, osl, rfl, lk, hcd⟩ := F.ex
  refine fn_of lk hcd S len fun A outer s H vs Q E hr hsp => ?_
  obtain ⟨t, h, q⟩ := hbody cdv A outer s H vs Q E hr hsp
  exact ⟨t, h.nox, q⟩
theorem Fun.binds {x qual : Str} {st : Stmt} {f : Addr} {fd : FuncData} {ps : List Str} (F : Fun K x qual st f fd)
    (h : ∀ (kV doc pm : Value) (an : Option Addr) (cdv ct : Value) (us : List Value), us.length = ps.length → bindArgs (PySem.W.fnOf x qual (defArgs st) (defBody st) (defScope st) .none kV doc pm an cdv ct) ⟨us, []⟩ = pure (ps.zip us)) : Binds K fd ps [] := by
  obtain ⟨oc, od, kV, doc, pm, an, cdv, ct, osl, rfl, lk, hcd⟩ := F.ex
  exact .all (h kV doc pm an cdv ct)
theorem fun_mk {x qual : Str} {st : Stmt} {f : Addr} {oc : Value} {od an : Option Addr} {osl : Array (Option Value)} {kV doc pm cdv ct : Value} (l : K.lookup f = some ⟨oc, od, .func (PySem.W.fnOf x qual (defArgs st) (defBody st) (defScope st) .none kV doc pm an cdv ct), osl⟩)
    (c : PySem.W.codeIn K cdv qual = true) (k : PySem.W.keepIn K (.ref f) = true) : Fun K x qual st f (PySem.W.fnOf x qual (defArgs st) (defBody st) (defScope st) .none kV doc pm an cdv ct) := ⟨⟨oc, od, kV, doc, pm, an, cdv, ct, osl, rfl, l, c⟩, k⟩
end
section
variable {X : Cx}
theorem pv (i : Nat) {x : Str} {pos : Pos} (hN : X.N[i]? = some x := by rfl) (hv : Vis X.env.scope x := by first | exact Or.inl rfl | exact Or.inr (Or.inl rfl) | exact Or.inr (Or.inr rfl)) (hd : (x == ("__debug__" : Str)) = false := by decide)
    (hcd : (x == ("__classdict__" : Str)) = false := by decide) : PE X (.Name x pos) (tVar i) := pe_var hN hv hd hcd
end
theorem iteF {A B : Prop} (h : B) : if false = true then A else B := by
  rw [if_neg Bool.false_ne_true]
  exact h
theorem iteT {A B : Prop} (h : A) : if true = true then A else B := by
  rw [if_pos rfl]
  exact h
theorem ite2 {c A B : Prop} [Decidable c] (h1 : c → A) (h2 : ¬ c → B) : if c then A else B := by
  by_cases h : c
  · rw [if_pos h]
    exact h1 h
  · rw [if_neg h]
    exact h2 h
theorem iteNS {c A B : Prop} [Decidable c] (hc : c) (h : B) : if (!decide c) = true then A else B := by
  rw [decide_eq_true hc]
  exact iteF h
def Same (H H' : Hp) : Prop := ∀ b o, H b = some o → H' b = some o
theorem Same.refl (H : Hp) : Same H H := fun _ _ h => h
theorem Same.trans {H H1 H2 : Hp} (a : Same H H1) (b : Same H1 H2) : Same H H2 := fun c o h => b c o (a c o h)
theorem Same.free {H H' : Hp} (e : Same H H') {l : Addr} (h : H' l = Option.none) : H l = Option.none := by
  cases q : H l with
  | none => rfl
  | some o =>
    rw [e l o q] at h
    cases h
theorem Same.seq {K : PySem.W.Frag} {H H' : Hp} {a : Addr} {xs : List V} (e : Same H H') (h : SqL K H a xs) : SqL K H' a xs := by
  rcases h with (h | ⟨o, h⟩) | h
  · exact .inl (.inl (e _ _ h))
  · exact .inl (.inr ⟨o, e _ _ h⟩)
  · exact .inr h
theorem at_of {xs : List V} {z : Int} {j : Nat} {v : V} (e : z = (j : Int)) (h : xs[j]? = some v) : atI xs z = some v := by
  rw [e]
  exact atI_nat h
end L2
section
namespace L2
open PySem PySem.Spec PyProof.Rows
open PySem.W (WData Codec OpenSpec Well WellAll ReadsW ReadsAllW)
mutual
inductive Dw (K : PySem.W.Frag) (H : Hp) : V → WData → Prop
  | non : Dw K H .non .none
  | bl (b : Bool) : Dw K H (.bl b) (.bool b)
  | int (i : Int) : Dw K H (.int i) (.int i)
  | str (x : Str) : Dw K H (.str x) (.str x)
  | byt (b : Array UInt8) : Dw K H (.byt b) (.bytes b.toList)
  | lst {a : Addr} {xs : List V} {ds : List WData} : SqL K H a xs → DwAll K H xs ds → Dw K H (.ref a) (.list ds)
  | tup {a : Addr} {xs : List V} {ds : List WData} : SqT K H a xs → DwAll K H xs ds → Dw K H (.ref a) (.tuple ds)
inductive DwAll (K : PySem.W.Frag) (H : Hp) : List V → List WData → Prop
  | nil : DwAll K H [] []
  | cons {v : V} {vs : List V} {d : WData} {ds : List WData} : Dw K H v d → DwAll K H vs ds → DwAll K H (v :: vs) (d :: ds)
end
theorem dw_ints {K : PySem.W.Frag} {H : Hp} : ∀ ns : List Int, DwAll K H (ns.map V.int) (ns.map WData.int)
  | [] => .nil
  | n :: r => .cons (.int n) (dw_ints r)
theorem ints_dw {K : PySem.W.Frag} {H : Hp} : ∀ (ns : List Int) (xs : List V), DwAll K H xs (ns.map WData.int) → xs = ns.map V.int
  | [], xs, h => by
    cases h
    rfl
  | n :: r, xs, h => by
    cases h with
    | cons h1 h2 =>
      cases h1
      rw [ints_dw r _ h2] <;> rfl
section
variable {P : Program} {w : World} {K : PySem.W.Frag} {H : Hp} {h : Heap} {R : PySem.W.WRecords} {cl : Str → Option Addr}
theorem sqL_at {a : Addr} {xs : List V} (hok : HOk P w H h) (KX : K.In h) (q : SqL K H a xs) : ∃ (its : List Value) (o : Obj) (n : Nat), Vals xs its ∧ h.get? a = some o ∧ o.cls = .type "list" ∧ o.data = .seq its.toArray n := by
  rcases q with q | ⟨o, its, n, e, hc, _, hd, _, hv⟩
  · obtain ⟨_, its, n, hv, e⟩ := (show ObjOk P w H h a (.lst xs) from q.ok hok)
    exact ⟨its, _, n, hv, e, rfl, rfl⟩
  · exact ⟨its.toList, o, n, hv, KX _ _ e, hc, by simp [hd]⟩
theorem sqT_at {a : Addr} {xs : List V} (hok : HOk P w H h) (KX : K.In h) (q : SqT K H a xs) : ∃ (its : List Value) (o : Obj) (n : Nat), Vals xs its ∧ h.get? a = some o ∧ o.cls = .type "tuple" ∧ o.data = .seq its.toArray n := by
  rcases q with q | ⟨o, its, n, e, hc, hd, _, hv⟩
  · obtain ⟨_, its, hv, o, e, hc, n, hd⟩ := (show ObjOk P w H h a (.tup xs) from q.ok hok)
    exact ⟨its, o, n, hv, e, hc, hd⟩
  · exact ⟨its.toList, o, n, hv, KX _ _ e, hc, by simp [hd]⟩
mutual
theorem Dw.reads (hok : HOk P w H h) (KX : K.In h) : ∀ (d : WData) (v : V) (u : Value), Dw K H v d → RelV v u → ∃ as, ReadsW R cl h u d as
  | .none, _, _, x, r => by
    cases x
    cases r
    exact ⟨_, ReadsW.none⟩
  | .bool b, _, _, x, r => by
    cases x
    cases r
    exact ⟨_, ReadsW.bool b⟩
  | .int i, _, _, x, r => by
    cases x
    obtain ⟨t, rfl⟩ := r
    exact ⟨_, ReadsW.int i t⟩
  | .str s, _, _, x, r => by
    cases x
    obtain ⟨t, rfl⟩ := r
    exact ⟨_, ReadsW.str s t⟩
  | .bytes b, _, _, x, r => by
    cases x
    obtain ⟨t, rfl⟩ := r
    exact ⟨_, ReadsW.bytes _ t⟩
  | .list ds, _, _, x, r => by
    cases x with
    | lst hs ha =>
      cases r
      obtain ⟨its, o, n, rv, ho, hc, hd⟩ := sqL_at hok KX hs
      obtain ⟨as, hr⟩ := Dw.readsAll hok KX ds _ its ha rv
      exact ⟨_, ReadsW.list ho hc hd hr⟩
  | .tuple ds, _, _, x, r => by
    cases x with
    | tup hs ha =>
      cases r
      obtain ⟨its, o, n, rv, ho, hc, hd⟩ := sqT_at hok KX hs
      obtain ⟨as, hr⟩ := Dw.readsAll hok KX ds _ its ha rv
      exact ⟨_, ReadsW.tuple ho hc hd hr⟩
  | .float _, _, _, x, _ => by cases x
  | .dict _, _, _, x, _ => by cases x
  | .bytearray _, _, _, x, _ => by cases x
  | .set _, _, _, x, _ => by cases x
  | .frozenset _, _, _, x, _ => by cases x
  | .obj _ _, _, _, x, _ => by cases x
theorem Dw.readsAll (hok : HOk P w H h) (KX : K.In h) : ∀ (ds : List WData) (vs : List V) (us : List Value), DwAll K H vs ds → Vals vs us → ∃ as, ReadsAllW R cl h us ds as
  | [], _, _, x, r => by
    cases x
    cases r
    exact ⟨_, ReadsAllW.nil⟩
  | d :: ds, _, _, x, r => by
    cases x with
    | cons h1 h2 =>
      cases r with
      | cons r1 r2 =>
        obtain ⟨as, q1⟩ := Dw.reads hok KX d _ _ h1 r1
        obtain ⟨bs, q2⟩ := Dw.readsAll hok KX ds _ _ h2 r2
        exact ⟨_, ReadsAllW.cons q1 q2⟩
end
end
mutual
def plW : WData → Bool
  | .none => true
  | .bool _ => true
  | .int _ => true
  | .str _ => true
  | .bytes _ => true
  | .list xs => plWs xs
  | .tuple xs => plWs xs
  | _ => false
def plWs : List WData → Bool
  | [] => true
  | x :: r => plW x && plWs r
end
theorem plWs_map {α : Type} {f : α → WData} (h : ∀ a, plW (f a) = true) : ∀ l : List α, plWs (l.map f) = true
  | [] => rfl
  | x :: r => by
    show (plW (f x) && plWs (r.map f)) = true
    rw [h x, plWs_map h r] <;> rfl
theorem pl_enc : ∀ (c : Codec) (a : c.denote), plW (c.enc a) = true
  | .unit, _ => rfl
  | .bool, _ => rfl
  | .int _ _, _ => rfl
  | .nat _ _, _ => rfl
  | .u8, _ => rfl
  | .bytes _ _, _ => rfl
  | .text _ _ _ _, _ => rfl
  | .list _ _ c, a => plWs_map (fun x => pl_enc c x) a
  | .pair c d, a => by
    show (plW (c.enc a.1) && (plW (d.enc a.2) && true)) = true
    rw [pl_enc c a.1, pl_enc d a.2] <;> rfl
  | .triple c d e, a => by
    show (plW (c.enc a.1) && (plW (d.enc a.2.1) && (plW (e.enc a.2.2) && true))) = true
    rw [pl_enc c a.1, pl_enc d a.2.1, pl_enc e a.2.2] <;> rfl
  | .option c, none => rfl
  | .option c, some x => pl_enc c x
theorem pl_encAll : ∀ (cs : List Codec) (a : Codec.denoteAll cs), plWs (Codec.encAll cs a) = true
  | [], _ => rfl
  | c :: cs, a => by
    show (plW (c.enc a.1) && plWs (Codec.encAll cs a.2)) = true
    rw [pl_enc c a.1, pl_encAll cs a.2] <;> rfl
theorem weight_mem : ∀ {xs : List WData} {d : WData}, d ∈ xs → d.weight ≤ WData.weightAll xs
  | [], d, h => absurd h (by simp)
  | x :: r, d, h => by
    show d.weight ≤ x.weight + 1 + WData.weightAll r
    rcases List.mem_cons.mp h with e | m
    · rw [e]
      omega
    · have z := weight_mem m
      omega
def toV : Value → V
  | .none => .non
  | .bool b => .bl b
  | .int i _ => .int i
  | .str x _ => .str x
  | .bytes b _ => .byt b
  | .ref a => .ref a
  | _ => .non
def OkU (A : List Addr) : Value → Prop
  | .none => True
  | .bool _ => True
  | .int _ _ => True
  | .str _ _ => True
  | .bytes _ _ => True
  | .ref a => a ∈ A
  | _ => False
theorem OkU.mono {A B : List Addr} (h : ∀ a ∈ A, a ∈ B) : ∀ {u : Value}, OkU A u → OkU B u := fun {u} x => by
  cases u with
  | ref a => exact h a x
  | none => trivial
  | bool b => trivial
  | int i t => trivial
  | str s t => trivial
  | bytes b t => trivial
  | _ => exact False.elim x
theorem relV_toV {A : List Addr} {u : Value} (x : OkU A u) : RelV (toV u) u := by
  cases u with
  | ref a => rfl
  | none => rfl
  | bool b => rfl
  | int i t => exact ⟨t, rfl⟩
  | str s t => exact ⟨t, rfl⟩
  | bytes b t => exact ⟨t, rfl⟩
  | _ => exact False.elim x
theorem vals_toV {A : List Addr} : ∀ {vs : List Value}, (∀ u ∈ vs, OkU A u) → Vals (vs.map toV) vs
  | [], _ => .nil
  | u :: r, h => .cons (relV_toV (h u (List.mem_cons_self ..))) (vals_toV fun x hx => h x (List.mem_cons_of_mem _ hx))
def ArgOb (h : Heap) (A : List Addr) (a : Addr) : Prop := ∃ vs : List Value, vs.length ≤ sizeLine ∧ (∀ u ∈ vs, OkU A u) ∧
  (h.get? a = some { cls := .type "list", data := .seq vs.toArray } ∨ h.get? a = some { cls := .type "tuple", data := .seq vs.toArray })
theorem ArgOb.mono {h : Heap} {A B : List Addr} {a : Addr} (k : ∀ a ∈ A, a ∈ B) (x : ArgOb h A a) : ArgOb h B a := by
  obtain ⟨vs, h1, h2, h3⟩ := x
  exact ⟨vs, h1, fun u hu => (h2 u hu).mono k, h3⟩
theorem wellAll_len {P : Params} {h : Heap} : ∀ {vs : List Value} {ds : List WData}, WellAll P h vs ds → vs.length = ds.length
  | _, _, .nil => rfl
  | _, _, .cons _ b => by
    show _ + 1 = _ + 1
    rw [wellAll_len b]
theorem well_list {P : Params} {h : Heap} {v : Value} {ds : List WData} (x : Well P h v (.list ds)) : ∃ (a : Addr) (vs : List Value), v = .ref a ∧ h.get? a = some { cls := .type "list", data := .seq vs.toArray } ∧ WellAll P h vs ds := by
  cases x with
  | list ho hall => exact ⟨_, _, rfl, ho, hall⟩
theorem well_tuple {P : Params} {h : Heap} {v : Value} {ds : List WData} (x : Well P h v (.tuple ds)) : ∃ (a : Addr) (vs : List Value), v = .ref a ∧ h.get? a = some { cls := .type "tuple", data := .seq vs.toArray } ∧ WellAll P h vs ds := by
  cases x with
  | tuple ho hall => exact ⟨_, _, rfl, ho, hall⟩
theorem well_cons {P : Params} {h : Heap} {us : List Value} {d : WData} {ds : List WData} (x : WellAll P h us (d :: ds)) : ∃ (v : Value) (vs : List Value), us = v :: vs ∧ Well P h v d ∧ WellAll P h vs ds := by
  cases x with
  | cons a b => exact ⟨_, _, rfl, a, b⟩
theorem line_of {n : Nat} (h : n ≤ 1048576) : n ≤ sizeLine := Nat.le_trans h (by decide)
section
variable {P : Params} {h : Heap}
mutual
theorem area_one : ∀ (d : WData) (v : Value), Well P h v d → plW d = true → d.weight ≤ 1048576 → ∃ A : List Addr, OkU A v ∧ ∀ a ∈ A, ArgOb h A a
  | .none, _, x, _, _ => by
    cases x
    exact ⟨[], trivial, fun a m => absurd m (by simp)⟩
  | .bool b, _, x, _, _ => by
    cases x
    exact ⟨[], trivial, fun a m => absurd m (by simp)⟩
  | .int i, _, x, _, _ => by
    cases x
    exact ⟨[], trivial, fun a m => absurd m (by simp)⟩
  | .str s, _, x, _, _ => by
    cases x
    exact ⟨[], trivial, fun a m => absurd m (by simp)⟩
  | .bytes b, _, x, _, _ => by
    cases x
    exact ⟨[], trivial, fun a m => absurd m (by simp)⟩
  | .list ds, _, x, p, z => by
    obtain ⟨a, vs, rfl, ho, hall⟩ := well_list x
    have z2 : WData.weightAll ds ≤ 1048576 := z
    obtain ⟨A, h1, h2⟩ := area_all ds _ hall p fun d hd => Nat.le_trans (weight_mem hd) z2
    have k : ∀ b ∈ A, b ∈ a :: A := fun b hb => List.mem_cons_of_mem _ hb
    refine ⟨a :: A, List.mem_cons_self .., fun b hb => ?_⟩
    rcases List.mem_cons.mp hb with e | m
    · rw [e]
      exact ⟨vs, line_of (by rw [wellAll_len hall]; exact Nat.le_trans (PySem.W.length_le_weightAllW ds) z2), fun u hu => (h1 u hu).mono k, .inl ho⟩
    · exact (h2 b m).mono k
  | .tuple ds, _, x, p, z => by
    obtain ⟨a, vs, rfl, ho, hall⟩ := well_tuple x
    have z2 : WData.weightAll ds ≤ 1048576 := z
    obtain ⟨A, h1, h2⟩ := area_all ds _ hall p fun d hd => Nat.le_trans (weight_mem hd) z2
    have k : ∀ b ∈ A, b ∈ a :: A := fun b hb => List.mem_cons_of_mem _ hb
    refine ⟨a :: A, List.mem_cons_self .., fun b hb => ?_⟩
    rcases List.mem_cons.mp hb with e | m
    · rw [e]
      exact ⟨vs, line_of (by rw [wellAll_len hall]; exact Nat.le_trans (PySem.W.length_le_weightAllW ds) z2), fun u hu => (h1 u hu).mono k, .inr ho⟩
    · exact (h2 b m).mono k
  | .float _, _, _, p, _ => Bool.noConfusion (show false = true from p)
  | .dict _, _, _, p, _ => Bool.noConfusion (show false = true from p)
  | .bytearray _, _, _, p, _ => Bool.noConfusion (show false = true from p)
  | .set _, _, _, p, _ => Bool.noConfusion (show false = true from p)
  | .frozenset _, _, _, p, _ => Bool.noConfusion (show false = true from p)
  | .obj _ _, _, _, p, _ => Bool.noConfusion (show false = true from p)
theorem area_all : ∀ (ds : List WData) (vs : List Value), WellAll P h vs ds → plWs ds = true → (∀ d ∈ ds, d.weight ≤ 1048576) → ∃ A : List Addr, (∀ u ∈ vs, OkU A u) ∧ ∀ a ∈ A, ArgOb h A a
  | [], _, x, _, _ => by
    cases x
    exact ⟨[], fun u m => absurd m (by simp), fun a m => absurd m (by simp)⟩
  | d :: ds, _, x, p, z => by
    obtain ⟨v, vs, rfl, x1, x2⟩ := well_cons x
    have q : plW d = true ∧ plWs ds = true := Bool.and_eq_true_iff.mp p
    obtain ⟨A, a1, a2⟩ := area_one d v x1 q.1 (z d (List.mem_cons_self ..))
    obtain ⟨B, b1, b2⟩ := area_all ds vs x2 q.2 fun e he => z e (List.mem_cons_of_mem _ he)
    have kA : ∀ b ∈ A, b ∈ A ++ B := fun b hb => List.mem_append.mpr (.inl hb)
    have kB : ∀ b ∈ B, b ∈ A ++ B := fun b hb => List.mem_append.mpr (.inr hb)
    refine ⟨A ++ B, fun u hu => ?_, fun b hb => ?_⟩
    · rcases List.mem_cons.mp hu with e | m
      · rw [e]
        exact a1.mono kA
      · exact (b1 u m).mono kB
    · rcases List.mem_append.mp hb with m | m
      · exact (a2 b m).mono kA
      · exact (b2 b m).mono kB
end
end
def hoOf (o : Obj) : Option HO := match o.data with
  | .seq vs _ => if (o.cls == Value.type "list") = true then some (.frz o (.lst (vs.toList.map toV))) else some (.frz o (.tup (vs.toList.map toV)))
  | _ => none
def argH (K : PySem.W.Frag) (h : Heap) (A : List Addr) : Hp := fun b => if b ∈ A then (if (K.lookup b).isNone = true then (h.get? b).bind hoOf else none) else none
def OnlyF (H : Hp) : Prop := ∀ b, H b = none ∨ ∃ o u, H b = some (.frz o u)
theorem hoOf_lst (vs : List Value) : hoOf { cls := .type "list", data := .seq vs.toArray } = some (.frz { cls := .type "list", data := .seq vs.toArray } (.lst (vs.map toV))) := by
  show (if (Value.type "list" == Value.type "list") = true then some (HO.frz { cls := .type "list", data := .seq vs.toArray } (.lst (vs.toArray.toList.map toV))) else some (HO.frz { cls := .type "list", data := .seq vs.toArray } (.tup (vs.toArray.toList.map toV)))) = _
  rw [if_pos (beq_self_eq_true _)]
theorem hoOf_tup (vs : List Value) : hoOf { cls := .type "tuple", data := .seq vs.toArray } = some (.frz { cls := .type "tuple", data := .seq vs.toArray } (.tup (vs.map toV))) := by
  show (if (Value.type "tuple" == Value.type "list") = true then some (HO.frz { cls := .type "tuple", data := .seq vs.toArray } (.lst (vs.toArray.toList.map toV))) else some (HO.frz { cls := .type "tuple", data := .seq vs.toArray } (.tup (vs.toArray.toList.map toV)))) = _
  rw [if_neg (by decide)]
section
variable {P : Program} {w : World} {K : PySem.W.Frag} {h : Heap} {A : List Addr}
theorem argH_at {b : Addr} {o : Obj} (hb : b ∈ A) (hk : K.lookup b = none) (e : h.get? b = some o) : argH K h A b = hoOf o := by
  unfold argH
  rw [if_pos hb, hk, if_pos (show (none : Option Obj).isNone = true from rfl), e] <;> rfl
theorem of_argH {b : Addr} {u : HO} (q : argH K h A b = some u) : b ∈ A ∧ K.lookup b = none := by
  unfold argH at q
  by_cases hb : b ∈ A
  · rw [if_pos hb] at q
    cases hk : K.lookup b with
    | none => exact ⟨hb, rfl⟩
    | some o =>
      rw [hk, if_neg (by simp)] at q
      cases q
  · rw [if_neg hb] at q
    cases q
theorem argH_is (ar : ∀ a ∈ A, ArgOb h A a) {b : Addr} {u : HO} (q : argH K h A b = some u) : K.lookup b = none ∧ ∃ vs : List Value, vs.length ≤ sizeLine ∧ (∀ u ∈ vs, OkU A u) ∧
    ((h.get? b = some { cls := .type "list", data := .seq vs.toArray } ∧ u = .frz { cls := .type "list", data := .seq vs.toArray } (.lst (vs.map toV))) ∨
     (h.get? b = some { cls := .type "tuple", data := .seq vs.toArray } ∧ u = .frz { cls := .type "tuple", data := .seq vs.toArray } (.tup (vs.map toV)))) := by
  obtain ⟨hb, hk⟩ := of_argH q
  obtain ⟨vs, h1, h2, h3⟩ := ar b hb
  refine ⟨hk, vs, h1, h2, ?_⟩
  rcases h3 with e | e
  · rw [argH_at hb hk e, hoOf_lst] at q
    exact .inl ⟨e, (Option.some.inj q).symm⟩
  · rw [argH_at hb hk e, hoOf_tup] at q
    exact .inr ⟨e, (Option.some.inj q).symm⟩
theorem argH_only (ar : ∀ a ∈ A, ArgOb h A a) : OnlyF (argH K h A) := fun b => by
  cases q : argH K h A b with
  | none => exact .inl rfl
  | some u =>
    obtain ⟨_, vs, _, _, ⟨_, e⟩ | ⟨_, e⟩⟩ := argH_is ar q
    · exact .inr ⟨_, _, by rw [e]⟩
    · exact .inr ⟨_, _, by rw [e]⟩
theorem argH_ok (ar : ∀ a ∈ A, ArgOb h A a) : HOk P w (argH K h A) h := fun b u q => by
  obtain ⟨_, vs, h1, h2, ⟨e, rfl⟩ | ⟨e, rfl⟩⟩ := argH_is ar q
  · exact ⟨e, by rw [List.length_map]; exact h1, vs, _, vals_toV h2, e⟩
  · exact ⟨e, by rw [List.length_map]; exact h1, vs, vals_toV h2, _, e, rfl, _, rfl⟩
theorem seq_inj {c c' : Value} {vs us : List Value} (e : (some { cls := c, data := .seq vs.toArray } : Option Obj) = some { cls := c', data := .seq us.toArray }) : c = c' ∧ vs = us := by
  have e1 := Option.some.inj e
  have e2 : c = c' := congrArg Obj.cls e1
  have e3 : Data.seq vs.toArray = Data.seq us.toArray := congrArg Obj.data e1
  injection e3 with e4
  refine ⟨e2, ?_⟩
  have e5 := congrArg Array.toList e4
  simpa using e5
theorem argL (KX : K.In h) (ar : ∀ a ∈ A, ArgOb h A a) {a : Addr} {vs : List Value} (ha : a ∈ A) (e : h.get? a = some { cls := .type "list", data := .seq vs.toArray }) : (∀ u ∈ vs, OkU A u) ∧ SqL K (argH K h A) a (vs.map toV) := by
  obtain ⟨us, h1, h2, h3⟩ := ar a ha
  have hu : us = vs := by
    rcases h3 with q | q
    · rw [e] at q
      exact (seq_inj q).2.symm
    · rw [e] at q
      exact absurd (Value.type.inj (seq_inj q).1) (by decide)
  subst hu
  refine ⟨h2, ?_⟩
  cases hk : K.lookup a with
  | none => exact .inl (.inr ⟨_, by rw [argH_at ha hk e, hoOf_lst]⟩)
  | some o =>
    have e2 := KX a o hk
    rw [e] at e2
    obtain rfl := Option.some.inj e2
    exact .inr ⟨_, us.toArray, _, hk, rfl, rfl, rfl, by rw [List.size_toArray]; exact h1, by simpa using vals_toV h2⟩
theorem argT (KX : K.In h) (ar : ∀ a ∈ A, ArgOb h A a) {a : Addr} {vs : List Value} (ha : a ∈ A) (e : h.get? a = some { cls := .type "tuple", data := .seq vs.toArray }) : (∀ u ∈ vs, OkU A u) ∧ SqT K (argH K h A) a (vs.map toV) := by
  obtain ⟨us, h1, h2, h3⟩ := ar a ha
  have hu : us = vs := by
    rcases h3 with q | q
    · rw [e] at q
      exact absurd (Value.type.inj (seq_inj q).1) (by decide)
    · rw [e] at q
      exact (seq_inj q).2.symm
  subst hu
  refine ⟨h2, ?_⟩
  cases hk : K.lookup a with
  | none => exact .inl (.inr ⟨_, by rw [argH_at ha hk e, hoOf_tup]⟩)
  | some o =>
    have e2 := KX a o hk
    rw [e] at e2
    obtain rfl := Option.some.inj e2
    exact .inr ⟨_, us.toArray, _, hk, rfl, rfl, by rw [List.size_toArray]; exact h1, by simpa using vals_toV h2⟩
mutual
theorem dw_one {Pm : Params} (KX : K.In h) (ar : ∀ a ∈ A, ArgOb h A a) : ∀ (d : WData) (v : Value), Well Pm h v d → plW d = true → OkU A v → Dw K (argH K h A) (toV v) d
  | .none, _, x, _, _ => by
    cases x
    exact .non
  | .bool b, _, x, _, _ => by
    cases x
    exact .bl b
  | .int i, _, x, _, _ => by
    cases x
    exact .int i
  | .str s, _, x, _, _ => by
    cases x
    exact .str s
  | .bytes b, _, x, _, _ => by
    cases x
    have z := Dw.byt (K := K) (H := argH K h A) b.toArray
    exact z
  | .list ds, _, x, p, hu => by
    obtain ⟨a, vs, rfl, ho, hall⟩ := well_list x
    obtain ⟨h2, hs⟩ := argL KX ar hu ho
    exact .lst hs (dw_all KX ar ds _ hall p h2)
  | .tuple ds, _, x, p, hu => by
    obtain ⟨a, vs, rfl, ho, hall⟩ := well_tuple x
    obtain ⟨h2, hs⟩ := argT KX ar hu ho
    exact .tup hs (dw_all KX ar ds _ hall p h2)
  | .float _, _, _, p, _ => Bool.noConfusion (show false = true from p)
  | .dict _, _, _, p, _ => Bool.noConfusion (show false = true from p)
  | .bytearray _, _, _, p, _ => Bool.noConfusion (show false = true from p)
  | .set _, _, _, p, _ => Bool.noConfusion (show false = true from p)
  | .frozenset _, _, _, p, _ => Bool.noConfusion (show false = true from p)
  | .obj _ _, _, _, p, _ => Bool.noConfusion (show false = true from p)
theorem dw_all {Pm : Params} (KX : K.In h) (ar : ∀ a ∈ A, ArgOb h A a) : ∀ (ds : List WData) (vs : List Value), WellAll Pm h vs ds → plWs ds = true → (∀ u ∈ vs, OkU A u) → DwAll K (argH K h A) (vs.map toV) ds
  | [], _, x, _, _ => by
    cases x
    exact .nil
  | d :: ds, _, x, p, hu => by
    obtain ⟨v, vs, rfl, x1, x2⟩ := well_cons x
    have q : plW d = true ∧ plWs ds = true := Bool.and_eq_true_iff.mp p
    exact .cons (dw_one KX ar d v x1 q.1 (hu _ (List.mem_cons_self ..))) (dw_all KX ar ds vs x2 q.2 fun u m => hu u (List.mem_cons_of_mem _ m))
end
end
theorem spec_call {P : Program} {w : World} {K : PySem.W.Frag} {mg mb : Str → Option Value} {CX : CXT} {k : Nat} {fa : Addr} {fd : FuncData} {ps : List Str} {sp : Sp} {s₁ : Shared} {vals : List Value} {ds : List WData} {R : PySem.W.WRecords} {cl : Str → Option Addr} {d0 : WData}
    (KX : K.In s₁.heap) (hns : s₁.heap.Ns mainGlobals mg) (hb : s₁.heap.Ns builtinsNs mb) (hbb : ∀ x : Str, x ≠ "__name__" → mb x = bootBuiltins x) (hlim : s₁.heap.NoLimit) (hg : s₁.gens = #[])
    (hwl : WellAll w.params s₁.heap vals ds) (hpl : plWs ds = true) (hwt : ∀ d ∈ ds, d.weight ≤ 1048576) (hr : Room k callerA)
    (F : ∀ base : Heap, K.In base → base.Ns mainGlobals mg → FnOk P w K mg base CX k fa fd ps sp) (hbind : ∀ (s : Shared) (us : List Value), us.length = ps.length → BindsTo s fd ⟨us, []⟩ (ps.zip us)) (hlen : ds.length = ps.length)
    (hsp : ∀ (H : Hp) (xs : List V), OnlyF H → DwAll K H xs ds → sp xs H (fun v H' => Dw K H' v d0) fun _ _ _ => False)
    (hCX : ∀ H e s', CX [] H s₁ (fun _ _ _ => False) e s' → False) :
    codeAny (model P w) callerA (.call (.ref fa) ⟨vals, []⟩) (fun r s' => ∃ u as, r = .ok (.ret u) ∧ ReadsW R cl s'.heap u d0 as ∧ OldK s₁.heap s'.heap ∧ s'.os = s₁.os ∧ AllBare s'.gens) s₁ := by
  obtain ⟨A, ho, ar⟩ := area_all ds vals hwl hpl hwt
  have hO : OnlyF (argH K s₁.heap A) := argH_only ar
  have hok : HOk P w (argH K s₁.heap A) s₁.heap := argH_ok ar
  have hS := dw_all KX ar ds vals hwl hpl ho
  have hV := vals_toV ho
  have hK : ∀ b u, argH K s₁.heap A b = some u → K.lookup b = none := fun b u q => (argH_is ar q).1
  have noA : ∀ {b : Addr} {o : Obj} {es : Array DictEntry} {ep : Nat}, s₁.heap.get? b = some o → o.data = .dict es ep → argH K s₁.heap A b = none := fun {b o es ep} e d => by
    cases q : argH K s₁.heap A b with
    | none => rfl
    | some u =>
      obtain ⟨_, vs, _, _, ⟨e2, _⟩ | ⟨e2, _⟩⟩ := argH_is ar q
      · rw [e2] at e
        cases e
        have d' : Data.seq vs.toArray _ = Data.dict es ep := d
        cases d'
      · rw [e2] at e
        cases e
        have d' : Data.seq vs.toArray _ = Data.dict es ep := d
        cases d'
  generalize argH K s₁.heap A = H at hO hok hS hK noA
  have base_of : ∀ {b : Addr} {o : Obj}, s₁.heap.get? b = some o → H b = none → (hidT s₁.heap H).get? b = some o := fun e n => hidT_get e n
  have nsK : ∀ {b : Addr} {m : Str → Option Value}, s₁.heap.Ns b m → (hidT s₁.heap H).Ns b m := fun {b m} ⟨o, es, ep, e, d, r⟩ => ⟨o, es, ep, base_of e (noA e d), d, r⟩
  have nK : ∀ b o, K.lookup b = some o → H b = none := fun b o e => by
    cases q : H b with
    | none => rfl
    | some u =>
      rw [hK b u q] at e
      cases e
  have hKb : K.In (hidT s₁.heap H) := fun b o e => base_of (KX b o e) (nK b o e)
  have hM : Mod K mg (hidT s₁.heap H) := ⟨hKb, nsK hns, ⟨mb, nsK hb, hbb⟩, let ⟨mc, h1, h2⟩ := hlim; ⟨mc, nsK h1, h2⟩⟩
  have e0 : Env0 P w K mg (hidT s₁.heap H) callerA [] s₁ H := ⟨rfl, hM, fun b o e => of_hidT e, Nat.le_of_eq (hidT_size _ _), trivial, fun b hb => absurd (show b ∈ ([] : List Addr) from hb) (by simp), hok, .of_eq hg⟩
  have hl : vals.length = ps.length := by rw [wellAll_len hwl]; exact hlen
  refine codeAny_mono ((F _ hKb (nsK hns)).run callerA [] s₁ H ⟨vals, []⟩ vals (vals.map toV) _ _ hr e0 (hbind s₁ vals hl) hV (hsp H _ hO hS)) fun r s' x => ?_
  cases r with
  | error e => exact (hCX H e s' x).elim
  | ok fl =>
    cases fl with
    | next => exact False.elim x
    | brk => exact False.elim x
    | cont => exact False.elim x
    | ret u =>
      obtain ⟨v, H', os, bare, un, hok', r', q⟩ := x
      have kept : ∀ b o, s₁.heap.get? b = some o → s'.heap.get? b = some o := fun b o e => by
        cases q2 : H b with
        | none => exact un.keep b o e q2 (by intro z; exact absurd (show b ∈ ([] : List Addr) from z) (by simp)) (by simp)
        | some u2 =>
          rcases hO b with z | ⟨ob, u3, z⟩
          · rw [q2] at z
            cases z
          · have z2 := un.frzs b ob _ z
            obtain ⟨e1, _⟩ := hok b _ z
            obtain ⟨e2, _⟩ := hok' b _ z2
            rw [e] at e1
            cases e1
            exact e2
      have KX' : K.In s'.heap := fun b o e => kept b o (KX b o e)
      obtain ⟨as, hrd⟩ := Dw.reads (R := R) (cl := cl) hok' KX' d0 v u q r'
      exact ⟨u, as, rfl, hrd, OldK.of_keep kept, os, bare⟩
theorem layable_weight {ds : List WData} (h : WData.layableAll ds = true) : ∀ d ∈ ds, d.weight ≤ 1048576 := fun d hd =>
  (PySem.W.layableW_iff.mp (List.all_eq_true.mp h d hd)).2.2
theorem encAll_len : ∀ (cs : List Codec) (a : Codec.denoteAll cs), (Codec.encAll cs a).length = cs.length
  | [], _ => rfl
  | c :: cs, a => by
    show (Codec.encAll cs a.2).length + 1 = cs.length + 1
    rw [encAll_len cs a.2]
theorem walk_spec {r : OpenSpec} {k : Nat} {q : Program} {loose : List Str} {XP : (Str → Option Value) → Heap → Prop} {YP : World → Heap → Prop} {d : DefRec} {K : Params → PySem.W.Frag} {CX : World → CXT} {ps : List Str} {sp : World → Sp}
    (hwell : r.wellSaid = true) (hdf : d.params.defaults = []) (hlen : r.args.length = ps.length) (hr : Room k callerA)
    (hY : ∀ (w : World) (h : Heap), YP w h → (K w.params).In h)
    (F : ∀ (w : World) (mg : Str → Option Value) (fa : Addr) (h : Heap), YP w h → (K w.params).In h → h.Ns mainGlobals mg → mg d.name = some (.ref fa) →
      ∃ fd : FuncData, (∀ (s : Shared) (us : List Value), us.length = ps.length → BindsTo s fd ⟨us, []⟩ (ps.zip us)) ∧
        ∀ base : Heap, (K w.params).In base → base.Ns mainGlobals mg → FnOk r.prog w (K w.params) mg base (CX w) k fa fd ps (sp w))
    (hsp : ∀ (w : World) (H : Hp) (xs : List V) (a : Codec.denoteAll r.args), OnlyF H → Codec.withinAll r.args a = true → Codec.app r.args r.asked a = true → DwAll (K w.params) H xs (Codec.encAll r.args a) →
      sp w xs H (fun v H' => Dw (K w.params) H' v (r.ret.enc (Codec.app r.args r.f a))) fun _ _ _ => False)
    (hCX : ∀ (w : World) (H : Hp) (s : Shared) (e : Value) (s' : Shared), CX w [] H s (fun _ _ _ => False) e s' → False) :
    PySem.W.WalkOS q loose XP YP r d [] (fun f vs => PySem.call f vs) := by
  intro w s_0 s₁ mg mb G Y fa o pm cd doc dV kV ho hd hcd hD hmg hg args vals as hpre hlay hrd hwl hlo
  obtain ⟨a, e1, e2⟩ := PySem.W.os_pre_some hpre
  obtain ⟨e3, hwi⟩ := Codec.encAll_of_decAll r.args args a e1
  subst e3
  have KX := hY w _ Y
  obtain ⟨fd, hb, hF⟩ := F w mg fa _ Y KX G.T.g hmg
  refine PySem.W.enter_call (codeAny_mono (spec_call (R := []) (cl := classAt s_0.heap) (d0 := r.ret.enc (Codec.app r.args r.f a)) KX G.T.g G.T.b G.T.builtins G.T.nolimit hg hwl (pl_encAll _ _) (layable_weight hlay) hr hF hb (by rw [encAll_len]; exact hlen)
    (fun H xs hO hS => hsp w H xs a hO hwi e2 hS) fun H e s' => hCX w H s₁ e s') fun r' s' hq => ?_)
  obtain ⟨u, as', rfl, h1, h2, h3, h4⟩ := hq
  exact ⟨.inl ⟨u, _, as', rfl, fun _ => rfl, h1, (OpenSpec.post_iff hwell hwi _ _).mpr rfl, fun z => Bool.noConfusion (show false = true from z)⟩, h2, h3, h4⟩
theorem walk_specK {r : OpenSpec} {k : Nat} {q : Program} {loose : List Str} {XP : (Str → Option Value) → Heap → Prop} {YP : World → Heap → Prop} {d : DefRec} {K : Params → PySem.W.Frag} {CX : CXT} {ps : List Str} {sp : PySem.W.Frag → Sp}
    (hwell : r.wellSaid = true) (hdf : d.params.defaults = []) (hlen : r.args.length = ps.length) (hr : Room k callerA)
    (hY : ∀ (w : World) (h : Heap), YP w h → (K w.params).In h)
    (F : ∀ (w : World) (mg : Str → Option Value) (fa : Addr) (h : Heap), YP w h → (K w.params).In h → h.Ns mainGlobals mg → mg d.name = some (.ref fa) →
      ∃ fd : FuncData, (∀ (s : Shared) (us : List Value), us.length = ps.length → BindsTo s fd ⟨us, []⟩ (ps.zip us)) ∧
        ∀ base : Heap, (K w.params).In base → base.Ns mainGlobals mg → FnOk r.prog w (K w.params) mg base CX k fa fd ps (sp (K w.params)))
    (hsp : ∀ (K : PySem.W.Frag) (H : Hp) (xs : List V) (a : Codec.denoteAll r.args), OnlyF H → Codec.withinAll r.args a = true → Codec.app r.args r.asked a = true → DwAll K H xs (Codec.encAll r.args a) →
      sp K xs H (fun v H' => Dw K H' v (r.ret.enc (Codec.app r.args r.f a))) fun _ _ _ => False)
    (hCX : ∀ (H : Hp) (s : Shared) (e : Value) (s' : Shared), CX [] H s (fun _ _ _ => False) e s' → False) :
    PySem.W.WalkOS q loose XP YP r d [] (fun f vs => PySem.call f vs) :=
  walk_spec (K := K) (CX := fun _ => CX) (sp := fun w => sp (K w.params)) hwell hdf hlen hr hY F (fun w H xs a h1 h2 h3 h4 => hsp (K w.params) H xs a h1 h2 h3 h4) fun _ H s e s' => hCX H s e s'
end L2
end
namespace L2
open PySem PySem.Spec PyProof.Rows
def Itc (lo c : Int) (n : Nat) : It := ⟨fun i _ => i < n, fun i H x H' => H' = H ∧ x = .int (lo + (i : Nat) * c), fun i _ => n ≤ i⟩
theorem turn_rangeC {P : Program} {w : World} {K : PySem.W.Frag} {tg : Expr} (it : Addr) (lo c : Int) (n : Nat) : Turn P w K tg (Itc lo c n) [it] it (fun i h => IsRangeIter h it (lo + (i : Nat) * c) ((n : Int) - (i : Nat)) c) where
  mem := by simp
  obj := fun i h st b hb => by
    have e : b = it := by simpa using hb
    subst e
    exact ⟨_, st, fun v z => nomatch z⟩
  keep := fun i h h' st k => k it (by simp) _ st
  item := by
    intro X hP hw hK hc i pins s σ H E I hf st hg
    subst hP hw hK
    obtain ⟨f0, f1, f2, f3, f4, f5⟩ := hf it (by simp)
    have W := Walks.range (prog := X.prog) (w := X.w) (I.ok.hd hc) it lo c n
    refine W.item i s _ _ hg st fun v h' tk hv st' kk => ?_
    obtain ⟨t, rfl⟩ := hv
    have I1 : Inv X pins σ H { s with heap := h', toks := tk } := I.turned (fun b o hb e => kk b o (by simpa using hb) e) f0 f1 f3 f4 f5
    exact ⟨_, rfl, go_of (s := { s with heap := h', toks := tk }) (n := "range_iterator") st' rfl rfl (by decide) ⟨.int (lo + (i : Nat) * c), H, I1, ⟨t, rfl⟩, ⟨rfl, rfl⟩, st', fun b hb => (hf b hb).1⟩⟩
  done := by
    intro X hP hw hK hc i pins s σ H E I hf st hg
    subst hP hw hK
    obtain ⟨f0, f1, f2, f3, f4, f5⟩ := hf it (by simp)
    exact wpAny_pyNext_range_end (I.ok.hd hc) st (by have : n ≤ i := hg; omega) fun h' eb => ⟨rfl, I.turned (t' := s.toks) (fun b o hb e => eb b o hb e) f0 f1 f3 f4 f5⟩
  self := fun A i s Q E st h => wpAny_pyIter_rangeiter st h
def RgC (i j c : Int) (n : Nat) : Prop := c ≠ 0 ∧ c.natAbs < 1073741824 ∧ Builtin.Range.small i j c = true ∧ Builtin.Range.rangeSize i j c = n
theorem RgC.neg {i j : Int} (ha : -(2 ^ 62) ≤ i) (ha' : i < 2 ^ 62) (hb : -(2 ^ 62) ≤ j) (hb' : j < 2 ^ 62) : RgC i j (-1) (i - j).toNat :=
  ⟨by decide, by decide, PySem.W.small_down ha ha' hb hb', PySem.W.rangeSize_downNat i j⟩
def iRng3 (ta : TA) : TI := fun σ H R => ta σ H fun vs H1 => ∃ (i j c : Int) (n : Nat), vs = [.int i, .int j, .int c] ∧ RgC i j c n ∧ R (Itc i c n) H1
section
variable {X : Cx} {tg : Expr}
theorem pi_range3 {a b c : Expr} {ta : TA} {p pos : Pos} (hg : Gl X "range") (hm : X.mg "range" = none) (ha : PA X [a, b, c] ta)
    (hs : starEach [a, b, c] X.env = (false, eval a X.env) :: starEach [b, c] X.env := by rfl) (hpl : (backTo pos (starEach [b, c] X.env)).any (·.1) = false := by rfl) :
    PI X tg (.Call (.Name "range" p) [a, b, c] [] pos) (iRng3 ta) := by
  intro pins s σ H R I h
  refine Call_ (ld_blt I hg hm boot_range (PyProof.Rows.callWith_type1 (thn (ha pos pins s σ H _ I h) fun us s1 ⟨vs, H1, I1, r1, q1⟩ => ?_) hs hpl))
  obtain ⟨i, j, k, n, e, ⟨c0, c1, c2, c3⟩, q⟩ := q1
  subst e
  cases r1 with
  | cons r rr =>
    cases rr with
    | cons r' rr =>
      cases rr with
      | cons r'' rr =>
        cases rr
        obtain ⟨t, rfl⟩ := r
        obtain ⟨t', rfl⟩ := r'
        obtain ⟨t'', rfl⟩ := r''
        refine call_range_3 c0 ?_ (.inl (PyProof.noPylong_small c1))
        refine wpAny_pyIter_range (IsRange.new ..) c2 ?_
        have I2 : Inv X pins σ H1 { s1 with heap := s1.heap.push { cls := .type "range", data := .fields #[.int i t, .int j t', .int k t''] } } := I1.kept (t' := s1.toks) fun b o e => Heap.get?_push_of_some _ e
        refine pi_one (tk := s1.toks) I2 _ (turn_rangeC _ i k n) ?_ q
        have e1 : i + ((0 : Nat) : Int) * k = i := by simp
        have e2 : (n : Int) - ((0 : Nat) : Int) = Builtin.Range.rangeSize i j k := by rw [c3]; simp
        show IsRangeIter _ _ (i + ((0 : Nat) : Int) * k) ((n : Int) - ((0 : Nat) : Int)) k
        rw [e1, e2]
        exact Heap.get?_push_size _ rfl
end
theorem for_rangeC {lo c : Int} {n : Nat} {g : TG} {tb : TS} {D : Ends} {σ : St} {H : Hp} (Pv : Nat → St → Hp → Prop) (h0 : Pv 0 σ H)
    (hs : ∀ i σ H, i < n → Pv i σ H → g (.int (lo + (i : Nat) * c)) σ H fun σ2 H2 => tb { D with nx := Pv (i + 1), ct := Pv (i + 1), bk := D.nx } σ2 H2) (hd : ∀ σ H, Pv n σ H → D.nx σ H) :
    ∃ W : Nat → Nat → St → Hp → Prop, (∃ m, W 0 m σ H) ∧ ∀ i m σ H, W i m σ H →
      ((Itc lo c n).stop i H ∧ D.nx σ H) ∨ ((Itc lo c n).go i H ∧ ∃ N : St → Hp → Prop, (∀ σ' H', N σ' H' → ∃ m', m' < m ∧ W (i + 1) m' σ' H') ∧ ∀ x H', (Itc lo c n).yld i H x H' → g x σ H' fun σ2 H2 => tb { D with nx := N, ct := N, bk := D.nx } σ2 H2) := by
  refine ⟨fun i m σ H => m = n - i ∧ i ≤ n ∧ Pv i σ H, ⟨n, by simp, Nat.zero_le _, h0⟩, ?_⟩
  rintro i m σ H ⟨rfl, hi, p⟩
  by_cases hlt : i < n
  · refine .inr ⟨hlt, Pv (i + 1), fun σ' H' p' => ⟨n - (i + 1), by omega, rfl, hlt, p'⟩, fun x H' y => ?_⟩
    obtain ⟨e, y⟩ := y
    subst e y
    exact hs i σ _ hlt p
  · have e : i = n := by omega
    subst e
    exact .inl ⟨Nat.le_refl _, hd σ H p⟩
end L2
namespace PySem
open Sem (wp)
open AutoSeq1 (wpAny_loadPart')
theorem cm_enum_newT (l : Addr) (items : Array Value) (n : Nat) (dct : Option Addr) (sl : Array (Option Value)) :
    Meets (Builtin.«enumerate.__new__» ⟨[.type "enumerate", .ref l], []⟩) (fun _ R s => s.heap.get? l = some { cls := .type "tuple", dict := dct, data := .seq items n, slots := sl } ∧
      R (.ok (.ret (.ref (s.heap.push { cls := .type "tuple_iterator", data := .fields #[.ref l, .int 0 0] }).objs.size)))
        { s with heap := (s.heap.push { cls := .type "tuple_iterator", data := .fields #[.ref l, .int 0 0] }).push { cls := .type "enumerate", data := .fields #[.none, .bool false, .ref s.heap.objs.size, rawInt 0, .none, .none] } }) :=
  .of_wp fun prog w A R s hh => by
    rcases s with ⟨hp, g, d, tk, os⟩; have hl := hh.1; have h := hh.2; have hsub := sub_enumerate
    have hL : Heap.IsTuple (Shared.heap ⟨hp, g, d, tk, os⟩) l items := ⟨_, hl, rfl, n, rfl⟩
    (wp_walk using wpAny_loadPart' hl); refine wpAny_stack_any fun _ => wpAny_pure ?_; split
    · rename_i c _ _ _ _ _; cases (c == Value.type "enumerate") <;> (wp_walk using wpAny_loadPart' hl, wpAny_pyIter_tuple hL; exact ⟨_, rfl, h⟩)
    · (wp_walk using wpAny_loadPart' hl, wpAny_pyIter_tuple hL); exact ⟨_, rfl, h⟩
open AutoSeq1 in
theorem cm_extendTW (l : Addr) (items : Array Value) (n : Nat) (b : Addr) (items2 : Array Value) (n2 : Nat) (dd2 : Option Addr) (sl2 : Array (Option Value)) (hs0 : ¬(!items.isEmpty && Builtin.List.listTooLong (items.size + items2.size)) = true) (hs1 : items.size ≤ sizeLine) (hs2 : items.size + items2.size ≤ sizeLine + 1) :
    Meets (Builtin.«list.extend» ⟨[.ref l, .ref b], []⟩) (fun _ R s => s.heap.get? l = some { cls := .type "list", dict := none, data := .seq items n, slots := #[] } ∧ s.heap.get? b = some { cls := .type "tuple", dict := dd2, data := .seq items2 n2, slots := sl2 } ∧ R (.ok (.ret Value.none)) { s with heap := s.heap.update l (Obj.mapSeq fun x => x ++ items2), toks := s.toks }) :=
  .of_wp fun prog w A R s hh => by
    rcases s with ⟨hp, g, d, tk, os⟩; have hl := hh.1; have hb := hh.2.1; have h := hh.2.2; have f1 := idx_int; have f2 := sub_tuple_tuple; have f3 := sub_list_list; have f4 := sub_tuple_list; have f5 := sub_list_tuple
    have hzz : (items ++ items2).size ≤ sizeLine + 1 := Nat.le_trans (Nat.le_of_eq (Array.size_append ..)) hs2
    (wp_walk using (wpAny_updateSeq hl rfl (hz := hs1) (_hz' := hzz)), wpAny_loadPart' hl, wpAny_loadPart' hb); exact ⟨_, rfl, h⟩
section
variable {prog : Program} {w : World} {A : Around} {E : Value → Shared → Prop} {s : Shared}
theorem cm_call_enumT {l : Addr} {items : Array Value} {Q : Value → Shared → Prop} (hL : s.heap.IsTuple l items)
    (h : ∀ h', IsEnum h' (s.heap.objs.size + 1) s.heap.objs.size 0 .none → h'.IsTupleIter s.heap.objs.size l 0 → h'.objs.size = s.heap.objs.size + 2 → (∀ b o, s.heap.get? b = some o → h'.get? b = some o) → Q (.ref (s.heap.objs.size + 1)) { s with heap := h' }) :
    wpAny (model prog w) A (call (.type "enumerate") [.ref l]) Q E s := by
  rcases hL with ⟨⟨c, dct, dt, sl⟩, hl, hc, n, hd⟩
  replace hc : c = .type "tuple" := hc; replace hd : dt = .seq items n := hd; subst hc hd
  refine callType_new F.called_enumerate (by decide) (F.typeCall_enumerate_1 _) (F.newCall_enumerate_1 _) (fun o => F.args_object_init_2 o _) F.entry_enumerate_new (cm_enum_newT l items n dct sl) ⟨hl, ?_⟩
  generalize hI : s.heap.push { cls := .type "tuple_iterator", data := .fields #[.ref l, .int 0 0] } = hi
  have hz : hi.objs.size = s.heap.objs.size + 1 := hI ▸ Heap.size_push ..
  have h0 : hi.get? s.heap.objs.size = some { cls := .type "tuple_iterator", data := .fields #[.ref l, .int 0 0] } := hI ▸ Heap.get?_push_size _ rfl
  have hk : ∀ b o, s.heap.get? b = some o → hi.get? b = some o := fun b o x => hI ▸ Heap.get?_push_of_some _ x
  have he := Heap.get?_push_size hi (o := { cls := .type "enumerate", data := .fields #[.none, .bool false, .ref s.heap.objs.size, rawInt 0, .none, .none] }) rfl
  show _ ∧ _; rw [hz] at he ⊢
  exact ⟨⟨_, he, rfl⟩, h _ he ⟨_, Heap.get?_push_of_some _ h0, rfl, rfl⟩ (by rw [Heap.size_push, hz]) fun b o x => Heap.get?_push_of_some _ (hk b o x)⟩
theorem cm_nextOf_tuple {it t : Addr} {i : Nat} {items : Array Value} {Q : Value → Shared → Prop} (hit : s.heap.IsTupleIter it t i) (ht : s.heap.IsTuple t items)
    (hQ : ∀ x, items[i]? = some x → ∀ h', h'.IsTupleIter it t (i + 1) → Heap.SameBut it s.heap h' → Q x { s with heap := h' })
    (hE : items[i]? = none → A.handled = none ∧ ∀ h' e, Heap.ExtBut it s.heap h' → (∃ o, h'.get? e = some o ∧ o.cls = .type "StopIteration") → E (.ref e) { s with heap := h' }) : wpAny (model prog w) A (Builtin.SmallTypes.nextOf (.ref it)) Q E s := by
  have hI := hit.typeIs; rcases hit with ⟨o, ho, hc, hd⟩; rcases ht with ⟨ol, hol, _, nl, hdl⟩
  delta Builtin.SmallTypes.nextOf; refine wpAny_bind (wpAny_callSpecial?_slot (name := Str.ofString "__next__") hI F.slot_tuple_iterator_next (wpAny_call_entry F.slot_tuple_iterator_next hI F.entry_tuple_iterator_next ?_ (F.args_tuple_iterator_next_1 _)))
  show wpAny _ _ (field (.ref it) 0 >>= _) _ _ _; refine wpAny_bind (wpAny_field ho hd (x := .ref t) rfl ?_)
  show wpAny _ _ (if (Value.ref t == Value.none) = true then _ else _) _ _ _; refine (if_neg (show ¬ ((Value.ref t == Value.none) = true) from Bool.false_ne_true)).symm ▸ ?_
  show wpAny _ _ (field (.ref it) 1 >>= _) _ _ _; refine wpAny_bind (wpAny_field ho hd (x := .int i 0) rfl ?_)
  show wpAny _ _ (seqItems? (.ref t) >>= _) _ _ _; refine wpAny_bind (wpAny_seqItems hol hdl ?_)
  cases hx : items[i]? with
  | some x =>
    (simp only [Int.toNat_natCast, hx]); refine wpAny_bind (wpAny_setField ho hd (by simp) (wpAny_pure ⟨x, rfl, wpAny_pure (hQ x hx _ ⟨_, Heap.get?_update_self _ ho (Obj.isFreed_of_fields (Obj.data_mapFields hd _)), (Obj.cls_mapFields ..).trans hc, ?_⟩ (Heap.SameBut.update ..))⟩))
    rw [Obj.data_mapFields hd] <;> simp [rawInt]
  | none =>
    have hh := (hE hx).1
    (simp only [Int.toNat_natCast, hx]); refine wpAny_bind (wpAny_rule (wpAny_bind (wpAny_setField ho hd (by simp) ?_)))
    show wpAny _ _ (newExc (.type "StopIteration") [] >>= _) _ _ _; refine wpAny_bind ?_; simp only [newExc, newTuple]
    refine wpAny_bind (wpAny_newObj_type (wpAny_bind (m := firstArgMember _ _) (wpAny_of_eq (a := Value.none) (by first | rfl | (simp only [firstArgMember]; rfl)) (wpAny_newObj_type ?_ (by size_fits)))) (by size_fits))
    simp only [raiseNew]; refine wpAny_bind (wpAny_handled ?_); first | rw [show A.in1.handled = none from hh] | rw [hh]
    exact wpAny_bind (wpAny_pure (wpAny_throw ((hE hx).2 _ _ (((Heap.SameBut.update ..).extBut.push _).push _) ⟨_, Heap.get?_push_size _ rfl, rfl⟩)))
theorem cm_enum_endT {e it t : Addr} {i : Nat} {items : Array Value} {j : Int} {old : Value} {Q : Option Value → Shared → Prop} (hh : A.handled = none) (he : IsEnum s.heap e it j old) (hit : s.heap.IsTupleIter it t i) (ht : s.heap.IsTuple t items) (hx : items[i]? = none)
    (hQ : ∀ h', Heap.ExtBut it s.heap h' → Q none { s with heap := h' }) : wpAny (model prog w) A (pyNext (.ref e)) Q E s := by
  have hT : s.TypeIs (.ref e) "enumerate" := .intro _ ⟨he, rfl⟩
  delta pyNext; refine wpAny_bind (wpAny_attempt (wpAny_callSpecial?_slot (name := Str.ofString "__next__") hT F.slot_enumerate_next (wpAny_call_entry F.slot_enumerate_next hT F.entry_enumerate_next ?_ (F.args_enumerate_next_1 _))))
  show wpAny _ _ (field (.ref e) 2 >>= _) _ _ _; refine wpAny_bind (wpAny_field he rfl (x := .ref it) rfl (wpAny_bind (cm_nextOf_tuple hit ht (fun x hx' => by rw [hx] at hx'; cases hx') fun _ => ⟨hh, fun h' x he' hx' => ?_⟩)))
  rcases hx' with ⟨o, ho, hc⟩; exact wpAny_bind (wpAny_isInstance (T := "StopIteration") (b := true) ⟨o, ho, hc⟩ isSubtype_stop (wpAny_pure (hQ _ he')))
theorem cm_draws_tuple {it t : Addr} {items : Array Value} (hh : A.handled = none) (hne : t ≠ it) :
    Draws prog w A it [it, t] items.size (fun i v => items[i]? = some v) (fun i h => h.IsTupleIter it t i ∧ h.IsTuple t items) where
  live := fun i h st => let ⟨o, ho, _⟩ := st.1; ⟨o, ho⟩
  frame := fun _ _ _ st hk => ⟨st.1.at fun o e => hk it (by simp) o e, st.2.at fun o e => hk t (by simp) o e⟩
  item := fun i s Q E hi st hQ => cm_nextOf_tuple st.1 st.2 (fun x hx h' hit' hs' => hQ x h' s.toks hx ⟨hit', st.2.extBut hs'.extBut hne⟩ hs') fun hx => by simp at hx; omega
  done := fun s Q E st hE => cm_nextOf_tuple st.1 st.2 (fun x hx => by simp at hx) fun _ => ⟨hh, hE⟩
end
end PySem
namespace L2
open PySem PySem.Spec PyProof.Rows
theorem Same.upd {H : Hp} {p : Addr} {o : HO} (h : H p = Option.none) : Same H (L2.upd H p o) := fun b u e => by
  rw [upd_ne (ne_of_none e h)]
  exact e
theorem Same.rd {H H' : Hp} {a : Addr} {u : HO} (e : Same H H') (h : Rd H a u) : Rd H' a u := by
  rcases h with h | ⟨o, h⟩
  · exact .inl (e _ _ h)
  · exact .inr ⟨o, e _ _ h⟩
theorem Same.tup {K : PySem.W.Frag} {H H' : Hp} {a : Addr} {xs : List V} (e : Same H H') (h : SqT K H a xs) : SqT K H' a xs := by
  rcases h with h | h
  · exact .inl (e.rd h)
  · exact .inr h
def TKeep (H H' : Hp) : Prop := (∀ b xs, H b = some (.tup xs) → H' b = some (.tup xs)) ∧ ∀ b o u, H b = some (.frz o u) → H' b = some (.frz o u)
theorem Same.keep {H H' : Hp} (e : Same H H') : TKeep H H' := ⟨fun b xs h => e _ _ h, fun b o u h => e _ _ h⟩
theorem TKeep.tup {K : PySem.W.Frag} {H H' : Hp} {a : Addr} {xs : List V} (e : TKeep H H') (h : SqT K H a xs) : SqT K H' a xs := by
  rcases h with (h | ⟨o, h⟩) | h
  · exact .inl (.inl (e.1 _ _ h))
  · exact .inl (.inr ⟨o, e.2 _ _ _ h⟩)
  · exact .inr h
mutual
def tupd : PyData → Bool
  | .none => true
  | .bool _ => true
  | .int _ => true
  | .str _ => true
  | .list _ => false
  | .tuple xs => tupds xs
  | .dict _ => false
def tupds : List PyData → Bool
  | [] => true
  | x :: r => tupd x && tupds r
end
mutual
theorem Dp.keep {K : PySem.W.Frag} {H H' : Hp} (e : TKeep H H') : ∀ (d : PyData) (v : V), tupd d = true → Dp K H v d → Dp K H' v d
  | .none, _, _, h => by cases h; exact .non
  | .bool b, _, _, h => by cases h; exact .bl b
  | .int i, _, _, h => by cases h; exact .int i
  | .str x, _, _, h => by cases h; exact .str x
  | .list ds, _, q, h => by simp [tupd] at q
  | .tuple ds, _, q, h => by
    cases h with
    | tup hs ha => exact .tup (e.tup hs) (Dp.keepAll e ds _ (by simpa [tupd] using q) ha)
  | .dict _, _, q, h => by simp [tupd] at q
theorem Dp.keepAll {K : PySem.W.Frag} {H H' : Hp} (e : TKeep H H') : ∀ (ds : List PyData) (vs : List V), tupds ds = true → DpAll K H vs ds → DpAll K H' vs ds
  | [], _, _, h => by cases h; exact .nil
  | d :: ds, _, q, h => by
    cases h with
    | cons h1 h2 =>
      simp only [tupds, Bool.and_eq_true] at q
      exact .cons (Dp.keep e d _ q.1 h1) (Dp.keepAll e ds _ q.2 h2)
end
theorem DpAll.length {K : PySem.W.Frag} {H : Hp} : ∀ {vs : List V} {ds : List PyData}, DpAll K H vs ds → vs.length = ds.length
  | _, _, .nil => rfl
  | _, _, .cons _ h => by rw [List.length_cons, List.length_cons, DpAll.length h]
theorem DpAll.get {K : PySem.W.Frag} {H : Hp} : ∀ {vs : List V} {ds : List PyData} {i : Nat} {d : PyData}, DpAll K H vs ds → ds[i]? = some d → ∃ v, vs[i]? = some v ∧ Dp K H v d
  | _, _, i, d, .nil, h => by simp at h
  | v :: vs, e :: ds, 0, d, .cons h1 _, h => ⟨v, rfl, by
      have : e = d := by simpa using h
      rw [← this]; exact h1⟩
  | v :: vs, e :: ds, i + 1, d, .cons _ h2, h => by
    obtain ⟨x, hx, hd⟩ := DpAll.get h2 (i := i) (d := d) (by simpa using h)
    exact ⟨x, by simpa using hx, hd⟩
theorem DpAll.getV {K : PySem.W.Frag} {H : Hp} : ∀ {vs : List V} {ds : List PyData} {i : Nat} {v : V}, DpAll K H vs ds → vs[i]? = some v → ∃ d, ds[i]? = some d ∧ Dp K H v d
  | _, _, i, v, .nil, h => by simp at h
  | x :: vs, e :: ds, 0, v, .cons h1 _, h => ⟨e, rfl, by
      have : x = v := by simpa using h
      rw [← this]; exact h1⟩
  | x :: vs, e :: ds, i + 1, v, .cons _ h2, h => by
    obtain ⟨d, hx, hd⟩ := DpAll.getV h2 (i := i) (v := v) (by simpa using h)
    exact ⟨d, by simpa using hx, hd⟩
theorem DpAll.append {K : PySem.W.Frag} {H : Hp} : ∀ {vs ws : List V} {ds es : List PyData}, DpAll K H vs ds → DpAll K H ws es → DpAll K H (vs ++ ws) (ds ++ es)
  | _, _, _, _, .nil, h => h
  | _, _, _, _, .cons h1 h2, h => .cons h1 (DpAll.append h2 h)
theorem DpAll.take {K : PySem.W.Frag} {H : Hp} : ∀ {vs : List V} {ds : List PyData} (n : Nat), DpAll K H vs ds → DpAll K H (vs.take n) (ds.take n)
  | _, _, 0, _ => .nil
  | _, _, _ + 1, .nil => .nil
  | _, _, n + 1, .cons h1 h2 => .cons h1 (DpAll.take n h2)
theorem DpAll.drop {K : PySem.W.Frag} {H : Hp} : ∀ {vs : List V} {ds : List PyData} (n : Nat), DpAll K H vs ds → DpAll K H (vs.drop n) (ds.drop n)
  | _, _, 0, h => h
  | _, _, _ + 1, .nil => .nil
  | _, _, n + 1, .cons _ h2 => DpAll.drop n h2
theorem DpAll.set {K : PySem.W.Frag} {H : Hp} {v : V} {d : PyData} (h : Dp K H v d) : ∀ {vs : List V} {ds : List PyData} (n : Nat), DpAll K H vs ds → DpAll K H (vs.set n v) (ds.set n d)
  | _, _, _, .nil => .nil
  | _, _, 0, .cons _ h2 => .cons h h2
  | _, _, n + 1, .cons h1 h2 => .cons h1 (DpAll.set h n h2)
theorem DpAll.ints {K : PySem.W.Frag} {H : Hp} : ∀ {vs : List V} {ns : List Int}, DpAll K H vs (ns.map PyData.int) ↔ vs = ns.map V.int
  | vs, [] => ⟨fun h => by cases h; rfl, fun h => by rw [h]; exact .nil⟩
  | vs, n :: ns => ⟨fun h => by
      cases h with
      | cons h1 h2 =>
        cases h1
        rw [DpAll.ints.mp h2]
        rfl, fun h => by rw [h]; exact .cons (.int n) (DpAll.ints.mpr rfl)⟩
theorem pe_gint {X : Cx} {x : Str} {i : Int} {pos : Pos} (hg : Gl X x) (hm : ∃ t, X.mg x = some (.int i t)) (hd : (x == ("__debug__" : Str)) = false := by decide) : PE X (.Name x pos) (tC (.int i)) := by
  obtain ⟨t, ht⟩ := hm
  exact pe_glob hg ht ⟨t, rfl⟩ hd
def FnAt (P : Program) (w : World) (K : PySem.W.Frag) (mg : Str → Option Value) (base : Heap) (x : Str) (k : Nat) (ps : List Str) (sp : Sp) : Prop :=
  ∃ (f : Addr) (fd : FuncData), FnOk P w K mg base CX0 k f fd ps sp ∧ mg x = some (.ref f) ∧ PySem.W.keepIn K (.ref f) = true ∧ Binds K fd ps []
theorem pe_fn {X : Cx} {x : Str} {k : Nat} {ps : List Str} {sp : Sp} {e : Expr} {es : List Expr} {t : TA} {p pos : Pos} (F : FnAt X.prog X.w X.K X.mg X.base x k ps sp) (hr : Room k X.A) (hg : Gl X x) (ha : PA X (e :: es) t)
    (hdb : (x == ("__debug__" : Str)) = false := by decide) (he : starEach (e :: es) X.env = (false, eval e X.env) :: starEach es X.env := by rfl) (hpl : (backTo pos (starEach es X.env)).any (·.1) = false := by rfl) :
    PE X (.Call (.Name x p) (e :: es) [] pos) (tCall sp [] E0 t) := by
  obtain ⟨f, fd, G, hm, hk, b⟩ := F
  exact pe_call G hr hg hm hk b .nil pass0 ha hdb he hpl
def MethAt (P : Program) (w : World) (K : PySem.W.Frag) (mg : Str → Option Value) (base : Heap) (C : Addr) (m : Str) (k : Nat) (ps : List Str) (sp : Sp) : Prop :=
  ∃ (f : Addr) (fd : FuncData), FnOk P w K mg base CX0 k f fd ps sp ∧ Meth K C m f ∧ Binds K fd ps []
theorem cm_getItem_whole {prog : Program} {w : World} {A : Around} {E : Value → Shared → Prop} {s : Shared} {t sl : Addr} {items : Array Value} {vl vu : Value} {lo hi : Option Int} {Q : Value → Shared → Prop} (ht : IsTup s.heap t items) (hs : s.heap.IsSliceOf sl vl vu .none) (pl : IsPart vl lo) (pu : IsPart vu hi)
    (hw : HT.sIx items.size 0 lo = 0 ∧ HT.sIx items.size items.size hi = items.size) (h : Q (.ref t) s) : wpAny (model prog w) A (getItem (.ref t) (.ref sl)) Q E s := by
  obtain ⟨os, hos, hcs, hds⟩ := id hs
  have hTs : s.TypeIs (.ref sl) "slice" := ⟨os, hos, hcs⟩
  unfold getItem
  try with_reducible refine wpAny_holding ?_
  first | refine wpAny_bind (wpAny_pure ?_) | skip
  refine wpAny_bind (wpAny_sequenceKey ht.typeIs (by decide) ?_)
  refine wpAny_bind (wpAny_callSpecial?_slot (name := Str.ofString "__getitem__") ht.typeIs PyProof.Rows.slot_tuple_getitem
    (wpAny_call_entry PyProof.Rows.slot_tuple_getitem ht.typeIs entry_tuple_getitem ?_ (args_tuple_getitem _ _)))
  show wpAny _ _ (Builtin.Tuple.tupleItemsOf (.ref t) >>= _) _ _ s
  refine wpAny_bind (tupleItemsOf_ ht ?_)
  refine wpAny_bind (wpAny_typeOf hTs ?_)
  rw [if_pos (by decide)]
  refine wpAny_bind (HT.sliceApplied_gen hs pl pu ?_)
  have hyes : (((HT.sIx items.size 0 lo : Nat) : Int) == 0 && (1 : Int) == 1 && (HT.sIx items.size items.size hi - HT.sIx items.size 0 lo) == items.size) = true := by
    rw [hw.1, hw.2]
    simp
  show wpAny _ _ (if (((HT.sIx items.size 0 lo : Nat) : Int) == 0 && (1 : Int) == 1 && (HT.sIx items.size items.size hi - HT.sIx items.size 0 lo) == items.size) = true then _ else _) _ _ s
  rw [if_pos hyes]
  refine wpAny_bind (m := Builtin.Tuple.tupleIsExact _) ?_
  unfold Builtin.Tuple.tupleIsExact
  refine wpAny_bind (wpAny_typeOf ht.typeIs (wpAny_pure ?_))
  rw [if_pos (by decide)]
  exact wpAny_bind (wpAny_rule (wpAny_pure ⟨_, rfl, wpAny_pure h⟩))
def rSlTA (K : PySem.W.Frag) : V → Option Int → Option Int → Hp → VK → Prop := fun x lo hi H Q => ∃ a xs, x = .ref a ∧ SqT K H a xs ∧ ∀ p H', Same H H' → SqT K H' p (cutV xs lo hi) → Q (.ref p) H'
theorem sl_tupA {X : Cx} : SlR X (rSlTA X.K) := by
  intro pins s σ H x v vl vu lo hi sl Q I rx hs pl pu h
  obtain ⟨a, xs, rfl, hx, q⟩ := h
  by_cases hw : HT.sIx xs.length 0 lo = 0 ∧ HT.sIx xs.length xs.length hi = xs.length
  · cases rx
    obtain ⟨its, r, ht, hz⟩ := I.tuple hx
    have hlen : its.toArray.size = xs.length := by rw [List.size_toArray]; exact r.length.symm
    refine ⟨"tuple", _, PyProof.Rows.slot_tuple_getitem.lookup, ht.typeIs, ?_⟩
    refine cm_getItem_whole ht hs pl pu (by rw [hlen]; exact hw) ⟨.ref a, H, I, rfl, q a H (Same.refl H) ?_⟩
    have e : cutV xs lo hi = xs := by
      unfold cutV
      rw [hw.1, hw.2]
      simp
    rw [e]
    exact hx
  · exact sl_tup pins s σ H (.ref a) v vl vu lo hi sl Q I rx hs pl pu ⟨a, xs, rfl, hx, hw, fun p hp => q p _ (Same.upd hp) (SqT.of upd_same)⟩
def rCatTA (K : PySem.W.Frag) : R2 := fun x y H Q => ∃ a b xs ys, x = .ref a ∧ y = .ref b ∧ SqT K H a xs ∧ SqT K H b ys ∧ xs.length + ys.length ≤ sizeLine ∧ ∀ p H', Same H H' → SqT K H' p (xs ++ ys) → Q (.ref p) H'
theorem cm_cat_nil {prog : Program} {w : World} {A : Around} {E : Value → Shared → Prop} {s : Shared} {t b : Addr} {ws : List Value} {Q : Value → Shared → Prop} (ht : IsTup s.heap t ([] : List Value).toArray) (hb : IsTup s.heap b ws.toArray) (h : Q (.ref b) s) :
    wpAny (model prog w) A (binaryOp .Add (.ref t) (.ref b)) Q E s := by
  obtain ⟨⟨cls, dd, data, sl⟩, ho, hc, n, hd⟩ := id ht
  obtain ⟨⟨cls2, dd2, data2, sl2⟩, ho2, hc2, n2, hd2⟩ := id hb
  simp only at hc hd hc2 hd2
  subst hc hd hc2 hd2
  exact concat_meets ⟨_, ho, rfl⟩ ⟨_, ho2, rfl⟩ noFill_tuple_add seq_tuple_add PySem.F.slot_tuple_add PySem.F.entry_tuple_add (PySem.F.args_tuple_add_2 _ _)
    (tuple_addW0 t b ([] : List Value).toArray ws.toArray n n2 dd dd2 sl sl2 (by simp)) ⟨ho, ho2, h⟩
theorem op_catTA {X : Cx} : OpR X (binaryOp .Add) (rCatTA X.K) := by
  intro pins s σ H x y v u Q I rx ry h
  obtain ⟨a, b, xs, ys, rfl, rfl, ha, hb, hz, q⟩ := h
  by_cases hx : xs = []
  · subst hx
    cases rx
    cases ry
    obtain ⟨its, r1, p1, _⟩ := I.tuple ha
    obtain ⟨its2, r2, p2, _⟩ := I.tuple hb
    cases r1
    exact cm_cat_nil p1 p2 ⟨.ref b, H, I, rfl, q b H (Same.refl H) hb⟩
  · refine op_catT pins s σ H (.ref a) (.ref b) v u Q I rx ry ⟨a, b, xs, ys, rfl, rfl, ha, hb, hx, hz, fun e => ?_, fun e p hp => q p _ (Same.upd hp) (SqT.of upd_same)⟩
    subst e
    rw [List.append_nil] at q
    exact q a H (Same.refl H) ha
def rExtendT (K : PySem.W.Frag) : V → List V → Hp → VK → Prop := fun x vs H Q => ∃ l b xs zs, x = .ref l ∧ vs = [.ref b] ∧ H l = some (.lst xs) ∧ SqT K H b zs ∧ xs.length + zs.length ≤ sizeLine ∧ Q .non (upd H l (.lst (xs ++ zs)))
theorem mt_extendT {X : Cx} : MtM X "list.extend" (rExtendT X.K) := by
  intro pins s σ H x vs v us Q I rx rv h
  obtain ⟨l, b, xs, zs, rfl, rfl, hH, hB, hz, q⟩ := h
  cases rx
  obtain ⟨u, rfl, ru⟩ := rv.one
  cases ru
  obtain ⟨z, its, n, r, hl, e⟩ := I.lstM hH
  obtain ⟨its2, r2, p2, z2⟩ := I.tuple hB
  obtain ⟨⟨cls2, dd2, data2, sl2⟩, ho2, hc2, n2, hd2⟩ := id p2
  simp only at hc2 hd2
  subst hc2 hd2
  have hl2 := r2.length
  have hsz : its.toArray.size + its2.toArray.size ≤ sizeLine := by rw [List.size_toArray, List.size_toArray]; omega
  have hlong : ¬ (!its.toArray.isEmpty && Builtin.List.listTooLong (its.toArray.size + its2.toArray.size)) = true := by
    rw [notLongL hsz, Bool.and_false]
    exact Bool.false_ne_true
  refine call_meets F.slot_list_extend ⟨_, e, rfl⟩ F.entry_list_extend (F.args_list_extend_2 _ _)
    (cm_extendTW l its.toArray n b its2.toArray n2 dd2 sl2 hlong (by rw [List.size_toArray]; omega) (by omega)) ⟨e, ho2, ?_⟩
  refine ⟨.non, _, I.lset (its' := its ++ its2) hH e (by simp) (r.append r2) ?_, rfl, q⟩
  rw [List.length_append]
  omega
def FnV (P : Program) (w : World) (K : PySem.W.Frag) (mg : Str → Option Value) (base : Heap) (f : Addr) (k : Nat) (ps : List Str) (sp : Sp) : Prop :=
  ∃ fd : FuncData, FnOk P w K mg base CX0 k f fd ps sp ∧ PySem.W.keepIn K (.ref f) = true ∧ Binds K fd ps []
theorem FnAt.toV {P : Program} {w : World} {K : PySem.W.Frag} {mg : Str → Option Value} {base : Heap} {x : Str} {k : Nat} {ps : List Str} {sp : Sp} (F : FnAt P w K mg base x k ps sp) : ∃ f, mg x = some (.ref f) ∧ FnV P w K mg base f k ps sp := by
  obtain ⟨f, fd, G, hm, hk, b⟩ := F
  exact ⟨f, hm, fd, G, hk, b⟩
def tCallV (P : Program) (w : World) (K : PySem.W.Frag) (mg : Str → Option Value) (base : Heap) (k : Nat) (tf : TE) (t : TA) : TE := fun σ H Q => tf σ H fun x H1 => ∃ f ps sp, x = .ref f ∧ FnV P w K mg base f k ps sp ∧ t σ H1 fun vs H2 => sp vs H2 Q E0
theorem pe_callV {X : Cx} {k : Nat} {func e : Expr} {es : List Expr} {tf : TE} {t : TA} {pos : Pos} (hr : Room k X.A) (hf : PE X func tf) (ha : PA X (e :: es) t)
    (hc : eval (.Call func (e :: es) [] pos) X.env = (do callWith pos (← eval func X.env) [] (backTo pos (starEach (e :: es) X.env)) (backToKw pos (keywordEach [] X.env))) := by rfl)
    (he : starEach (e :: es) X.env = (false, eval e X.env) :: starEach es X.env := by rfl) (hpl : (backTo pos (starEach es X.env)).any (·.1) = false := by rfl) :
    PE X (.Call func (e :: es) [] pos) (tCallV X.prog X.w X.K X.mg X.base k tf t) := by
  intro pins s σ H Q I h
  refine Call_ (thn (hf pins s σ H _ I h) fun u s1 ⟨x, H1, I1, rx, f, ps, sp, ex, F, q⟩ => ?_) hc
  subst ex
  obtain rfl : u = Value.ref f := rx
  obtain ⟨fd, G, hk, b⟩ := F
  refine PySem.W.callWith_K (h₀ := X.base) I.ok.mod.kin hk (thn (ha pos pins s1 σ H1 _ I1 q) fun us s2 ⟨vs, H2, I2, r, q2⟩ => ⟨I2.kIn, ?_⟩) he hpl
  exact run_fn G hr b .nil pass0 I2 r (by rw [List.append_nil]; exact q2)
def IteT (K : PySem.W.Frag) (a : Addr) : It :=
  ⟨fun i H => ∃ (xs : List V) (x : V), SqT K H a xs ∧ xs[i]? = some x, fun i H v H' => ∃ T x, v = .ref T ∧ H T = none ∧ H' = upd H T (.tup [.int (i : Nat), x]) ∧ ∀ xs, SqT K H a xs → xs[i]? = some x, fun i H => ∃ xs : List V, SqT K H a xs ∧ xs.length ≤ i⟩
theorem turn_enumT {P : Program} {w : World} {K : PySem.W.Frag} {elts : List Expr} {kk : Nat} {tpos : Pos} (a e it : Addr) :
    Turn P w K (.Tuple elts kk tpos) (IteT K a) [e, it] e (fun i h => (∃ old, IsEnum h e it ((i : Nat) : Int) old) ∧ h.IsTupleIter it a i ∧ e ≠ it) where
  mem := by simp
  obj := fun i h st b hb => by
    obtain ⟨⟨old, he⟩, ⟨o, ho, hc, hd⟩, _⟩ := st
    have e' : b = e ∨ b = it := by simpa using hb
    rcases e' with z | z
    · rw [z]; exact ⟨_, he, fun v q => nomatch q⟩
    · rw [z]; exact ⟨o, ho, fun v q => by rw [hd] at q; cases q⟩
  keep := fun i h h' st k => let ⟨⟨old, he⟩, hi, hne⟩ := st; ⟨⟨old, k e (by simp) _ he⟩, hi.at fun o q => k it (by simp) o q, hne⟩
  item := by
    intro X hP hw hK hc i pins s σ H E I hf st hg
    subst hP hw hK
    obtain ⟨⟨old, he⟩, hit, hne⟩ := st
    obtain ⟨xs, x, hq, hx⟩ := hg
    obtain ⟨its, rv, p, hz⟩ := I.tuple hq
    obtain ⟨u, hu, ru⟩ := rv.get hx
    have hel : e < s.heap.objs.size := Heap.lt_size he
    have hil : it < s.heap.objs.size := by obtain ⟨_, q, _⟩ := hit; exact Heap.lt_size q
    have hai : a ≠ it := fun z => by
      obtain ⟨o, ho, hc, _⟩ := id p
      obtain ⟨o', ho', hc', _⟩ := id hit
      rw [z, ho'] at ho
      cases ho
      exact absurd (Value.type.inj (hc'.symm.trans hc)) (by decide)
    have hae : a ≠ e := fun z => by
      obtain ⟨o, ho, hc, _⟩ := id p
      rw [z, he] at ho
      cases ho
      exact absurd (Value.type.inj hc) (by decide)
    have hlt : i < its.toArray.size := by
      have := (List.getElem?_eq_some_iff.mp hu).1
      simpa using this
    refine wpAny_pyNext_enum_itemD (cm_draws_tuple (items := its.toArray) (A := X.A.in1) (show X.A.in1.handled = none from I.ok.hd hc) hai) he ⟨hit, p⟩ hlt hne (by simp [hne, Ne.symm hae]) fun x' h' tk hx' ho hst hT hsz hk => ?_
    have ex : x' = u := by
      have : some x' = some u := hx'.symm.trans (by simpa using hu)
      exact Option.some.inj this
    subst ex
    refine ⟨_, rfl, wpAny_letOwnedTupleGo_enum (s := { s with heap := h', toks := tk + 1 }) ho fun h'' he' sb => ?_⟩
    have hT2 : h''.get? s.heap.objs.size = some { cls := .type "tuple", data := .seq #[.int i tk, x'] } := (sb.2 _ (Nat.ne_of_gt hel)).trans hT
    have new : ObjOk X.prog X.w (upd H s.heap.objs.size (.tup [.int (i : Nat), x])) h'' s.heap.objs.size (.tup [.int (i : Nat), x]) :=
      ⟨by show 2 ≤ sizeLine; decide, [.int i tk, x'], .cons ⟨_, rfl⟩ (.cons ru .nil), ⟨_, hT2, rfl, _, rfl⟩⟩
    have I1 : Inv X pins σ (upd H s.heap.objs.size (.tup [.int (i : Nat), x])) { s with heap := h'', toks := tk + 1 } :=
      I.turnedNew (ch := [e, it]) (fun b ob hb q => (sb.2 b (fun z => hb (by simp [z]))).trans (hk b ob (fun z => hb (by simp [z])) (fun z => hb (by simp [z])) q)) hf (Nat.le_refl _) new
    refine ⟨.ref s.heap.objs.size, _, I1, rfl, ⟨_, x, rfl, I.hok.fresh (Nat.le_refl _), rfl, fun ys hy => by rw [I.tuple_inj hy hq]; exact hx⟩, ⟨⟨x', ?_⟩, hst.1.at fun o q => (sb.2 it (Ne.symm hne)).trans q, hne⟩, fun b hb => ?_⟩
    · have e1 : ((i + 1 : Nat) : Int) = (i : Int) + 1 := by omega
      rw [e1]; exact he'
    · have hb' : b < s.heap.objs.size := by
        have e' : b = e ∨ b = it := by simpa using hb
        rcases e' with z | z
        · rw [z]; exact hel
        · rw [z]; exact hil
      rw [upd_ne (Nat.ne_of_lt hb')]
      exact (hf b hb).1
  done := by
    intro X hP hw hK hc i pins s σ H E I hf st hg
    subst hP hw hK
    obtain ⟨⟨old, he⟩, hit, hne⟩ := st
    obtain ⟨xs, hq, hx⟩ := hg
    obtain ⟨its, rv, p, hz⟩ := I.tuple hq
    obtain ⟨f0, f1, f2, f3, f4, f5⟩ := hf it (by simp)
    have hl := rv.length
    exact cm_enum_endT (I.ok.hd hc) he hit p (by simp; omega) fun h' eb => ⟨rfl, I.turned (t' := s.toks) (fun b o hb q => eb b o hb q) f0 f1 f3 f4 f5⟩
  self := fun A i s Q E st h => let ⟨⟨_, he⟩, _⟩ := st; wpAny_pyIter_enum he h
def iEnumT (K : PySem.W.Frag) (ta : TA) : TI := fun σ H R => ta σ H fun vs H1 => ∃ a xs, vs = [.ref a] ∧ SqT K H1 a xs ∧ R (IteT K a) H1
theorem pi_enumT {X : Cx} {e : Expr} {ta : TA} {p pos tpos : Pos} {elts : List Expr} {kk : Nat} (hg : Gl X "enumerate") (hm : X.mg "enumerate" = none) (ha : PA X [e] ta) (hs : starEach [e] X.env = [(false, eval e X.env)] := by rfl) :
    PI X (.Tuple elts kk tpos) (.Call (.Name "enumerate" p) [e] [] pos) (iEnumT X.K ta) := by
  intro pins s σ H R I h
  refine Call_ (ld_blt I hg hm boot_enumerate (PyProof.Rows.callWith_type1 (thn (ha pos pins s σ H _ I h) fun us s1 ⟨vs, H1, I1, r1, q1⟩ => ?_) hs rfl))
  obtain ⟨a, xs, ex, hq, q⟩ := q1
  subst ex
  cases r1 with
  | cons r rr =>
    cases rr
    cases r
    obtain ⟨its, rv, p', hz⟩ := I1.tuple hq
    refine cm_call_enumT p' fun h' he hit hsz hk => wpAny_pyIter_enum he ?_
    have I2 : Inv X pins σ H1 { s1 with heap := h' } := I1.kept (t' := s1.toks) hk
    refine ⟨s1.heap.objs.size + 1, [s1.heap.objs.size + 1, s1.heap.objs.size], _, _, H1, rfl, I2, turn_enumT a (s1.heap.objs.size + 1) s1.heap.objs.size, ⟨⟨.none, he⟩, hit, Nat.succ_ne_self _⟩, fun b hb => ?_, q⟩
    have e' : b = s1.heap.objs.size + 1 ∨ b = s1.heap.objs.size := by simpa using hb
    have hle : s1.heap.objs.size ≤ b := by
      rcases e' with z | z
      · rw [z]; exact Nat.le_add_right _ _
      · rw [z]; exact Nat.le_refl _
    exact I1.fpOk hle (I1.hok.fresh hle)
theorem for_enumT {K : PySem.W.Frag} {a : Addr} {xs : List V} {g : TG} {tb : TS} {D : Ends} {σ : St} {H : Hp} (Pv : Nat → St → Hp → Prop) (h0 : Pv 0 σ H) (hl : ∀ i σ H, i ≤ xs.length → Pv i σ H → SqT K H a xs)
    (hs : ∀ i x T σ H, xs[i]? = some x → Pv i σ H → H T = none → g (.ref T) σ (upd H T (.tup [.int (i : Nat), x])) fun σ2 H2 => tb { D with nx := Pv (i + 1), ct := Pv (i + 1), bk := D.nx } σ2 H2) (hd : ∀ σ H, Pv xs.length σ H → D.nx σ H) :
    ∃ W : Nat → Nat → St → Hp → Prop, (∃ m, W 0 m σ H) ∧ ∀ i m σ H, W i m σ H →
      ((IteT K a).stop i H ∧ D.nx σ H) ∨ ((IteT K a).go i H ∧ ∃ N : St → Hp → Prop, (∀ σ' H', N σ' H' → ∃ m', m' < m ∧ W (i + 1) m' σ' H') ∧ ∀ x H', (IteT K a).yld i H x H' → g x σ H' fun σ2 H2 => tb { D with nx := N, ct := N, bk := D.nx } σ2 H2) := by
  refine ⟨fun i m σ H => i ≤ xs.length ∧ m = xs.length - i ∧ Pv i σ H, ⟨_, Nat.zero_le _, rfl, h0⟩, fun i m σ H ⟨hi, hm, hp⟩ => ?_⟩
  have hq := hl i σ H hi hp
  by_cases e : i = xs.length
  · exact .inl ⟨⟨xs, hq, by omega⟩, hd σ H (by rw [← e]; exact hp)⟩
  · have hlt : i < xs.length := by omega
    refine .inr ⟨⟨xs, xs[i], hq, List.getElem?_eq_getElem hlt⟩, Pv (i + 1), fun σ' H' hn => ⟨xs.length - (i + 1), by omega, by omega, rfl, hn⟩, fun x H' hy => ?_⟩
    obtain ⟨T, x0, rfl, hT, rfl, hx⟩ := hy
    exact hs i x0 T σ H (hx xs hq) hp hT
theorem while_w {c : TT} {tb : TS} {D : Ends} {σ : L2.St} {H : Hp} (Pv : L2.St → Hp → Prop) (mu : L2.St → Hp → Nat) (h0 : Pv σ H)
    (hs : ∀ m σ H, Pv σ H → mu σ H = m → c σ H fun b H1 => if b = true then ∃ N : L2.St → Hp → Prop, (∀ σ' H', N σ' H' → ∃ m', m' < m ∧ (Pv σ' H' ∧ mu σ' H' = m')) ∧ tb { D with nx := N, ct := N, bk := D.nx } σ H1 else D.nx σ H1) :
    tWhile c tb D σ H := ⟨fun m σ H => Pv σ H ∧ mu σ H = m, ⟨_, h0, rfl⟩, fun m σ H h => hs m σ H h.1 h.2⟩
theorem turn_w {Pv : L2.St → Hp → Prop} {mu : L2.St → Hp → Nat} {m : Nat} : ∀ σ' H', (Pv σ' H' ∧ mu σ' H' < m) → ∃ m', m' < m ∧ (Pv σ' H' ∧ mu σ' H' = m') := fun _ _ h => ⟨_, h.2, h.1, rfl⟩
def rLen (K : PySem.W.Frag) : List V → Hp → VK → Prop := fun xs H Q => ∃ p ys, xs = [.ref p] ∧ (SqL K H p ys ∨ SqT K H p ys) ∧ Q (.int ys.length) H
theorem call_lenK {X : Cx} {K : PySem.W.Frag} (h : X.K = K) : CallR X (.builtin "len") (rLen K) := by
  subst h
  exact call_len_seq
end L2
namespace L2
open PySem PySem.Spec PyProof.Rows
section
variable {X : Cx} {k : Nat} {C : Addr} {ps : List Str} {sp : Sp} {x m : Str} {p pos apos : Pos} {e o : Expr} {es : List Expr} {ta : TE} {t : TA}
theorem pe_mt {pl : Sem Bool} (he : PE X o ta) (c : Cls X.K C) (M : MethAt X.prog X.w X.K X.mg X.base C m k ps sp) (hr : Room k X.A) (ha : PA X (e :: es) t)
    (hst : starEach (e :: es) X.env = (false, eval e X.env) :: starEach es X.env := by rfl) (hpl : (backTo pos (starEach es X.env)).any (·.1) = false := by rfl)
    (ht : eval (.Call (.Attribute o m apos) (e :: es) [] pos) X.env = (do
      let ov ← eval o X.env
      standAt apos.atName
      let (f, first) ← holding [ov] (getMethod ov m pl)
      callWith pos f first (backTo pos (starEach (e :: es) X.env)) (backToKw pos (keywordEach [] X.env))) := by rfl) :
    PE X (.Call (.Attribute o m apos) (e :: es) [] pos) (tMeth C m sp [] E0 ta t) := by
  obtain ⟨f, fd, F, hm, b⟩ := M
  exact pe_meth (pl := pl) he c hm F hr b .nil pass0 ha hst hpl ht
theorem pe_mt0 {pl : Sem Bool} (he : PE X o ta) (c : Cls X.K C) (M : MethAt X.prog X.w X.K X.mg X.base C m k ps sp) (hr : Room k X.A)
    (ht : eval (.Call (.Attribute o m apos) [] [] pos) X.env = (do
      let ov ← eval o X.env
      standAt apos.atName
      let (f, first) ← holding [ov] (getMethod ov m pl)
      callWith pos f first (backTo pos (starEach [] X.env)) (backToKw pos (keywordEach [] X.env))) := by rfl) :
    PE X (.Call (.Attribute o m apos) [] [] pos) (tMeth C m sp [] E0 ta tNil) := by
  obtain ⟨f, fd, F, hm, b⟩ := M
  exact pe_meth0 (pl := pl) he c hm F hr b .nil pass0 ht
end
def MakeAt (P : Program) (w : World) (K : PySem.W.Frag) (mg : Str → Option Value) (base : Heap) (C : Addr) (x : Str) (k : Nat) (ps : List Str) (sp : Sp) : Prop :=
  ∃ (f : Addr) (fd : FuncData), Mk K C f ∧ FnOk P w K mg base CX0 k f fd ps sp ∧ mg x = some (.ref C) ∧ Binds K fd ps []
section
variable {X : Cx} {k : Nat} {C : Addr} {ps : List Str} {sp : Sp} {x m : Str} {p pos apos : Pos} {e o : Expr} {es : List Expr} {ta : TE} {t : TA}
theorem pe_mk (M : MakeAt X.prog X.w X.K X.mg X.base C x k ps sp) (hr : Room (k + 1) X.A) (hg : Gl X x) (ha : PA X (e :: es) t) (hdb : (x == ("__debug__" : Str)) = false := by decide)
    (he : starEach (e :: es) X.env = (false, eval e X.env) :: starEach es X.env := by rfl) (hpl : (backTo pos (starEach es X.env)).any (·.1) = false := by rfl) :
    PE X (.Call (.Name x p) (e :: es) [] pos) (tMake C sp [] E0 t) := by
  obtain ⟨f, fd, M, F, hm, b⟩ := M
  exact pe_make M F hr hg hm b .nil pass0 ha hdb he hpl
theorem pe_mk0 (M : MakeAt X.prog X.w X.K X.mg X.base C x k ps sp) (hr : Room (k + 1) X.A) (hg : Gl X x) (hdb : (x == ("__debug__" : Str)) = false := by decide) :
    PE X (.Call (.Name x p) [] [] pos) (tMake C sp [] E0 tNil) := by
  obtain ⟨f, fd, M, F, hm, b⟩ := M
  exact pe_make0 M F hr hg hm b .nil pass0 hdb
theorem pe_glty {T : String} (hg : Gl X x) (hm : X.mg x = none) (hv : bootBuiltins x = some (.type T)) (hn : x ≠ "__name__" := by decide) (hdb : (x == ("__debug__" : Str)) = false := by decide) : PE X (.Name x pos) (tC (.ty T)) :=
  fun _ _ _ H _ I h => ld_blt I hg hm hv ⟨.ty T, H, I, rfl, h⟩ hn hdb
def rIsTup (K : PySem.W.Frag) : List V → Hp → VK → Prop := fun vs H Q => (∃ a xs, vs = [.ref a, .ty "tuple"] ∧ SqT K H a xs ∧ Q (.bl true) H) ∨ (∃ i, vs = [.int i, .ty "tuple"] ∧ Q (.bl false) H)
theorem call_isinst : CallR X (.builtin "isinstance") (rIsTup X.K) := by
  intro pins s σ H xs us Q I r h
  rcases h with ⟨a, ys, rfl, hs, q⟩ | ⟨i, rfl, q⟩
  · cases r with
    | cons r rr =>
      cases rr with
      | cons r' rr =>
        cases rr
        cases r
        cases r'
        obtain ⟨its, rv, p, _⟩ := I.tuple hs
        obtain ⟨o, h1, h2, _⟩ := id p
        exact PySem.W.kia_one PySem.W.kitx_tuple I.kIn ⟨o, h1, h2⟩ (b := true) rfl (fun z => nomatch z) fun tk => ⟨.bl true, H, I.tok tk, rfl, q⟩
  · cases r with
    | cons r rr =>
      cases rr with
      | cons r' rr =>
        cases rr
        obtain ⟨t, rfl⟩ := r
        cases r'
        exact PySem.W.kia_one PySem.W.kitx_int I.kIn True.intro (b := false) (by rfl) (fun z => nomatch z) fun tk => ⟨.bl false, H, I.tok tk, rfl, q⟩
end
end L2
namespace CM
open Vanbkd
def ixF : Doc → Int → Option Nat
  | [], _ => none
  | c :: r, n => if (c.number : Int) = n then some 0 else (ixF r n).map (· + 1)
def ixI (d : Doc) (n : Int) : Int := match ixF d n with
  | some i => (i : Int)
  | none => -1
def ND (d : Doc) : Prop := (d.map fun c => c.number).Nodup
theorem ND.tail {c : Cell} {r : Doc} (h : ND (c :: r)) : ND r := (List.nodup_cons.mp h).2
theorem ND.head {c : Cell} {r : Doc} (h : ND (c :: r)) : ∀ x ∈ r, x.number ≠ c.number := fun x hx e =>
  (List.nodup_cons.mp h).1 (List.mem_map.mpr ⟨x, hx, e⟩)
theorem ixF_lt : ∀ {d : Doc} {n : Int} {i : Nat}, ixF d n = some i → i < d.length
  | [], _, _, h => by simp [ixF] at h
  | c :: r, n, i, h => by
    unfold ixF at h
    split at h
    · cases h; simp
    · cases e : ixF r n with
      | none => rw [e] at h; cases h
      | some j =>
        rw [e] at h
        cases h
        have := ixF_lt e
        simp; omega
theorem ixF_at : ∀ {d : Doc} {n : Int} {i : Nat}, ixF d n = some i → ∃ c, d[i]? = some c ∧ (c.number : Int) = n
  | [], _, _, h => by simp [ixF] at h
  | c :: r, n, i, h => by
    unfold ixF at h
    split at h
    · cases h; exact ⟨c, rfl, by assumption⟩
    · cases e : ixF r n with
      | none => rw [e] at h; cases h
      | some j =>
        rw [e] at h
        cases h
        obtain ⟨x, hx, hn⟩ := ixF_at e
        exact ⟨x, by simpa using hx, hn⟩
theorem ixF_none : ∀ {d : Doc} {n : Int}, ixF d n = none → ∀ c ∈ d, (c.number : Int) ≠ n
  | [], _, _, c, hc => by cases hc
  | c :: r, n, h, x, hx => by
    unfold ixF at h
    split at h
    · cases h
    · cases e : ixF r n with
      | some j => rw [e] at h; cases h
      | none =>
        rcases List.mem_cons.mp hx with rfl | hx
        · assumption
        · exact ixF_none e x hx
theorem ixF_neg {d : Doc} {n : Int} (h : n < 0) : ixF d n = none := by
  cases e : ixF d n with
  | none => rfl
  | some i =>
    obtain ⟨c, _, hc⟩ := ixF_at e
    omega
theorem find_ix : ∀ {d : Doc} {n : Nat}, find d n = (ixF d n).bind fun i => d[i]?
  | [], n => rfl
  | c :: r, n => by
    have ih := find_ix (d := r) (n := n)
    unfold find at ih ⊢
    unfold ixF
    rw [List.find?_cons]
    by_cases h : c.number = n
    · subst h
      simp
    · have h1 : (c.number == n) = false := by simpa using h
      have h2 : ¬ ((c.number : Int) = (n : Int)) := by omega
      rw [h1, if_neg h2, ih]
      cases e : ixF r n <;> simp
theorem has_ix {d : Doc} {n : Nat} : has d n = (ixF d n).isSome := by
  unfold has
  rw [find_ix]
  cases e : ixF d n with
  | none => rfl
  | some i =>
    obtain ⟨c, hc, _⟩ := ixF_at e
    simp [hc]
theorem hasI_ix {d : Doc} {n : Int} : hasI d n = (ixF d n).isSome := by
  unfold hasI
  by_cases h : 0 ≤ n
  · obtain ⟨k, rfl⟩ := Int.eq_ofNat_of_zero_le h
    rw [has_ix]
    simp
  · rw [ixF_neg (by omega)]
    simp [h]
theorem ixI_some {d : Doc} {n : Int} {i : Nat} (h : ixF d n = some i) : ixI d n = (i : Int) := by
  unfold ixI; rw [h]
theorem ixI_none {d : Doc} {n : Int} (h : ixF d n = none) : ixI d n = -1 := by
  unfold ixI; rw [h]
def withC (d : Doc) (i k : Nat) (cs : Doc) : Doc := d.take i ++ cs ++ d.drop (i + k)
theorem flatMap_off {r : Doc} {n : Nat} {f : Cell → Doc} (h : ∀ x ∈ r, x.number ≠ n) : (r.flatMap fun c => if c.number = n then f c else [c]) = r := by
  induction r with
  | nil => rfl
  | cons c r ih =>
    rw [List.flatMap_cons, if_neg (h c (by simp)), ih fun x hx => h x (by simp [hx])]
    rfl
theorem flatMap_at : ∀ {d : Doc} {n i : Nat} {c : Cell} {f : Cell → Doc}, ND d → ixF d n = some i → d[i]? = some c →
    (d.flatMap fun x => if x.number = n then f x else [x]) = withC d i 1 (f c)
  | [], n, i, c, f, _, h, _ => by simp [ixF] at h
  | x :: r, n, i, c, f, hN, h, hc => by
    unfold ixF at h
    split at h
    · rename_i hx
      cases h
      have e : x = c := by simpa using hc
      subst e
      have hx' : x.number = n := by omega
      rw [List.flatMap_cons, if_pos hx', flatMap_off (fun y hy => by rw [← hx']; exact hN.head y hy)]
      simp [withC]
    · rename_i hx
      cases e : ixF r n with
      | none => rw [e] at h; cases h
      | some j =>
        rw [e] at h
        cases h
        have hx' : ¬ x.number = n := by omega
        have ih := flatMap_at (f := f) hN.tail e (by simpa using hc)
        rw [List.flatMap_cons, if_neg hx', ih]
        simp [withC, Nat.add_right_comm]
theorem changed1_at {d : Doc} {n i : Nat} {c : Cell} {f : Cell → Cell} (hN : ND d) (h : ixF d n = some i) (hc : d[i]? = some c) : changed1 d n f = withC d i 1 [f c] := by
  rw [← flatMap_at (f := fun x => [f x]) hN h hc]
  unfold changed1
  induction d with
  | nil => rfl
  | cons x r ih =>
    clear ih hN h hc
    induction (x :: r) with
    | nil => rfl
    | cons y s ih =>
      rw [List.map_cons, List.flatMap_cons, ih]
      by_cases hy : y.number = n
      · rw [if_pos hy, if_pos hy]; rfl
      · rw [if_neg hy, if_neg hy]; rfl
theorem dropped_at {d : Doc} {n i : Nat} (hN : ND d) (h : ixF d n = some i) : dropped d n = withC d i 1 [] := by
  obtain ⟨c, hc, _⟩ := ixF_at h
  rw [← flatMap_at (f := fun x => []) hN h hc]
  unfold dropped
  clear hN h hc
  induction d with
  | nil => rfl
  | cons y s ih =>
    rw [List.filter_cons, List.flatMap_cons, ih]
    by_cases hy : y.number = n
    · rw [if_pos hy, if_neg (by simpa using hy)]; rfl
    · rw [if_neg hy, if_pos (by simpa using hy)]; rfl
theorem splitCell_at {d : Doc} {n i p m : Nat} {c : Cell} (hN : ND d) (h : ixF d n = some i) (hc : d[i]? = some c) :
    splitCell d n p m = withC d i 1 [{ c with text := c.text.take p }, ⟨m, c.hidden, c.text.drop p⟩] := by
  unfold splitCell
  exact flatMap_at (f := fun c => [{ c with text := c.text.take p }, ⟨m, c.hidden, c.text.drop p⟩]) hN h hc
def putI (d : Doc) (a : Nat) (c : Cell) : Doc := if a = 0 then withC d 0 0 [c] else withC d (ixI d a + 1).toNat 0 [c]
theorem putBehind_at {d : Doc} {a : Nat} {c : Cell} (hN : ND d) : putBehind d a c = if a = 0 ∨ (ixF d a).isSome = true then some (putI d a c) else none := by
  unfold putBehind putI
  by_cases h : a = 0
  · rw [if_pos h, if_pos (Or.inl h), if_pos h]
    simp [withC]
  · rw [if_neg h, if_neg h, has_ix]
    cases e : ixF d a with
    | none => simp [h]
    | some i =>
      obtain ⟨x, hx, hn⟩ := ixF_at e
      rw [if_pos (show (some i).isSome = true from rfl), if_pos (show a = 0 ∨ (some i).isSome = true from Or.inr rfl), flatMap_at (f := fun x => [x, c]) hN e hx, ixI_some e]
      have e2 : ((i : Int) + 1).toNat = i + 1 := by omega
      rw [e2]
      congr 1
      unfold withC
      rw [List.take_add_one, hx]
      simp
theorem nextOf_at : ∀ {d : Doc} {n i : Nat}, ixF d n = some i → nextOf d n = d[i + 1]?
  | [], n, i, h => by simp [ixF] at h
  | x :: r, n, i, h => by
    unfold ixF at h
    unfold nextOf
    rw [List.dropWhile_cons]
    split at h
    · rename_i hx
      cases h
      have hx' : x.number = n := by omega
      have : (x.number != n) = false := by simpa using hx'
      rw [this]
      cases r <;> simp
    · rename_i hx
      cases e : ixF r n with
      | none => rw [e] at h; cases h
      | some j =>
        rw [e] at h
        cases h
        have hx' : (x.number != n) = true := by
          simp
          omega
        have ih := nextOf_at e
        unfold nextOf at ih
        rw [hx', if_pos rfl, ih]
        simp
theorem ix_at_self {d : Doc} (hN : ND d) : ∀ {i : Nat} {c : Cell}, d[i]? = some c → ixF d c.number = some i := by
  induction d with
  | nil => intro i c h; simp at h
  | cons x r ih =>
    intro i c h
    cases i with
    | zero =>
      have e : x = c := by simpa using h
      subst e
      simp [ixF]
    | succ j =>
      have h' : r[j]? = some c := by simpa using h
      have hm : c ∈ r := List.mem_of_getElem? h'
      have hx := hN.head c hm
      unfold ixF
      rw [if_neg (by omega), ih hN.tail h']
      rfl
theorem at_inj {d : Doc} (hN : ND d) {i j : Nat} {c e : Cell} (hi : d[i]? = some c) (hj : d[j]? = some e) (h : c.number = e.number) : i = j := by
  have a := ix_at_self hN hi
  have b := ix_at_self hN hj
  rw [h, b] at a
  exact (Option.some.inj a).symm
theorem join_at {d : Doc} {n i : Nat} {c e : Cell} {f : Cell → Cell} (hN : ND d) (h : ixF d n = some i) (hc : d[i]? = some c) (he : d[i + 1]? = some e) :
    changed1 (dropped d e.number) n f = withC d i 2 [f c] := by
  have hx := ix_at_self hN he
  rw [dropped_at hN hx]
  obtain ⟨c', hc', hn⟩ := ixF_at h
  have : c' = c := Option.some.inj (hc'.symm.trans hc)
  subst this
  have hlt : i < d.length := ixF_lt h
  have hlt2 : i + 1 < d.length := ixF_lt hx
  have hsub : (withC d (i + 1) 1 []).Sublist d := by
    unfold withC
    have : d = d.take (i + 1) ++ d.drop (i + 1) := (List.take_append_drop _ _).symm
    rw [List.append_nil]
    conv => rhs; rw [this]
    exact List.Sublist.append (List.Sublist.refl _) (by
      rw [show i + 1 + 1 = (i + 1) + 1 from rfl, ← List.drop_drop]
      exact List.drop_sublist _ _)
  have hN2 : ND (withC d (i + 1) 1 []) := List.Nodup.sublist (hsub.map _) hN
  have hat : (withC d (i + 1) 1 [])[i]? = some c' := by
    unfold withC
    rw [List.append_nil, List.getElem?_append_left (by simp; omega), List.getElem?_take_of_lt (by omega)]
    exact hc
  have hix := ix_at_self hN2 hat
  rw [hn] at hix
  rw [changed1_at hN2 hix hat]
  unfold withC
  have e1 : (List.take (i + 1) d ++ [] ++ List.drop (i + 1 + 1) d).take i = d.take i := by
    rw [List.append_nil, List.take_append_of_le_length (by simp; omega), List.take_take]
    congr 1
    omega
  have e2 : (List.take (i + 1) d ++ [] ++ List.drop (i + 1 + 1) d).drop (i + 1) = d.drop (i + 2) := by
    rw [List.append_nil, List.drop_append_of_le_length (by simp; omega)]
    simp
  rw [e1, e2]
theorem swap_at {d : Doc} {a b i j : Nat} {c e : Cell} (hN : ND d) (ha : ixF d a = some i) (hb : ixF d b = some j) (hc : d[i]? = some c) (he : d[j]? = some e) :
    (d.map fun x => if x.number = a then e else if x.number = b then c else x) = (d.set i e).set j c := by
  obtain ⟨c', hc', hn⟩ := ixF_at ha
  obtain ⟨e', he', hm⟩ := ixF_at hb
  have h1 : c' = c := Option.some.inj (hc'.symm.trans hc)
  have h2 : e' = e := Option.some.inj (he'.symm.trans he)
  subst h1 h2
  apply List.ext_getElem?
  intro k
  rw [List.getElem?_map, List.getElem?_set, List.getElem?_set]
  have li := ixF_lt ha
  have lj := ixF_lt hb
  simp only [List.length_set]
  cases hk : d[k]? with
  | none =>
    have : d.length ≤ k := List.getElem?_eq_none_iff.mp hk
    rw [if_neg (by omega), if_neg (by omega)]
    rfl
  | some x =>
    show some (if x.number = a then e' else if x.number = b then c' else x) = _
    by_cases hjk : j = k
    · subst hjk
      rw [if_pos rfl, if_pos lj]
      have : x = e' := Option.some.inj (hk.symm.trans he)
      subst this
      by_cases hab : x.number = a
      · have : i = j := at_inj hN hc he (by omega)
        subst this
        have : x = c' := Option.some.inj (hk.symm.trans hc)
        subst this
        rw [if_pos hab]
      · rw [if_neg hab, if_pos (by omega)]
    · rw [if_neg hjk]
      by_cases hik : i = k
      · subst hik
        rw [if_pos rfl, if_pos li]
        have : x = c' := Option.some.inj (hk.symm.trans hc)
        subst this
        rw [if_pos (by omega)]
      · rw [if_neg hik]
        have n1 : ¬ x.number = a := fun h => hik (at_inj hN hc hk (by omega))
        have n2 : ¬ x.number = b := fun h => hjk (at_inj hN he hk (by omega))
        rw [if_neg n1, if_neg n2]
end CM
namespace CM
open Vanbkd
theorem foundFrom_fuel (x : Text) (hx : x ≠ []) : ∀ (k l p : Nat) (t : Text), t.length ≤ k → t.length ≤ l → foundFrom x k p t = foundFrom x l p t
  | 0, l, p, t, hk, _ => by
    have : t = [] := List.length_eq_zero_iff.mp (by omega)
    subst this
    cases l <;> rfl
  | k + 1, 0, p, t, _, hl => by
    have : t = [] := List.length_eq_zero_iff.mp (by omega)
    subst this
    rfl
  | k + 1, l + 1, p, [], _, _ => rfl
  | k + 1, l + 1, p, c :: r, hk, hl => by
    have h1 : 0 < x.length := List.length_pos_iff.mpr hx
    unfold foundFrom
    simp only [List.length_cons] at hk hl
    rw [foundFrom_fuel x hx k l (p + x.length) ((c :: r).drop x.length) (by rw [List.length_drop, List.length_cons]; omega) (by rw [List.length_drop, List.length_cons]; omega),
      foundFrom_fuel x hx k l (p + 1) r (by omega) (by omega)]
theorem replacedFrom_fuel (x y : Text) (hx : x ≠ []) : ∀ (k l : Nat) (t : Text), t.length ≤ k → t.length ≤ l → replacedFrom x y k t = replacedFrom x y l t
  | 0, l, t, hk, _ => by
    have : t = [] := List.length_eq_zero_iff.mp (by omega)
    subst this
    cases l <;> rfl
  | k + 1, 0, t, _, hl => by
    have : t = [] := List.length_eq_zero_iff.mp (by omega)
    subst this
    rfl
  | k + 1, l + 1, [], _, _ => rfl
  | k + 1, l + 1, c :: r, hk, hl => by
    have h1 : 0 < x.length := List.length_pos_iff.mpr hx
    unfold replacedFrom
    simp only [List.length_cons] at hk hl
    rw [replacedFrom_fuel x y hx k l ((c :: r).drop x.length) (by rw [List.length_drop, List.length_cons]; omega) (by rw [List.length_drop, List.length_cons]; omega),
      replacedFrom_fuel x y hx k l r (by omega) (by omega)]
def fnd (x t : Text) (p : Nat) : List Nat := foundFrom x t.length p (t.drop p)
theorem fnd_zero (x t : Text) : fnd x t 0 = found x t := by simp [fnd, found]
theorem pre_take {x t : Text} : x.isPrefixOf t = true ↔ t.take x.length = x := by
  rw [List.isPrefixOf_iff_prefix]
  constructor
  · rintro ⟨r, rfl⟩; simp
  · intro h; exact ⟨t.drop x.length, by
      have e := List.take_append_drop x.length t
      rw [h] at e
      exact e⟩
theorem fnd_end {x t : Text} {p : Nat} (hx : x ≠ []) (h : t.length < p + x.length) : fnd x t p = [] := by
  unfold fnd
  have key : ∀ (k p : Nat) (u : Text), u.length < x.length → foundFrom x k p u = [] := by
    intro k
    induction k with
    | zero => intro p u _; rfl
    | succ k ih =>
      intro p u hu
      cases u with
      | nil => rfl
      | cons c r =>
        unfold foundFrom
        have : ¬ x.isPrefixOf (c :: r) = true := by
          rw [pre_take]
          intro e
          have := congrArg List.length e
          simp at this hu
          omega
        rw [if_neg this]
        exact ih _ _ (by simp at hu; omega)
  exact key _ _ _ (by
    have h1 : 0 < x.length := List.length_pos_iff.mpr hx
    rw [List.length_drop]; omega)
theorem fnd_hit {x t : Text} {p : Nat} (hx : x ≠ []) (h : p + x.length ≤ t.length) (e : (t.drop p).take x.length = x) : fnd x t p = p :: fnd x t (p + x.length) := by
  have h1 : 0 < x.length := List.length_pos_iff.mpr hx
  unfold fnd
  cases hl : t.length with
  | zero => omega
  | succ k =>
    cases hd : t.drop p with
    | nil =>
      have := congrArg List.length hd
      rw [List.length_drop] at this
      simp at this
      omega
    | cons c r =>
      have hlen : (t.drop p).length = t.length - p := List.length_drop
      rw [hd] at e hlen
      conv => lhs; unfold foundFrom
      rw [if_pos (pre_take.mpr e)]
      congr 1
      rw [show (c :: r).drop x.length = t.drop (p + x.length) by rw [← hd, List.drop_drop]]
      exact foundFrom_fuel x hx _ _ _ _ (by rw [List.length_drop]; omega) (by rw [List.length_drop]; omega)
theorem fnd_miss {x t : Text} {p : Nat} (hx : x ≠ []) (h : p < t.length) (e : ¬ (t.drop p).take x.length = x) : fnd x t p = fnd x t (p + 1) := by
  unfold fnd
  cases hl : t.length with
  | zero => omega
  | succ k =>
    cases hd : t.drop p with
    | nil =>
      have := congrArg List.length hd
      rw [List.length_drop] at this
      simp at this
      omega
    | cons c r =>
      rw [hd] at e
      conv => lhs; unfold foundFrom
      rw [if_neg (fun q => e (pre_take.mp q))]
      have e2 : r = t.drop (p + 1) := by
        have : (t.drop p).drop 1 = r := by rw [hd]; rfl
        rw [← this, List.drop_drop]
      rw [e2]
      exact foundFrom_fuel x hx _ _ _ _ (by rw [List.length_drop]; omega) (by rw [List.length_drop]; omega)
theorem fnd_bounds {x t : Text} (hx : x ≠ []) : ∀ (m p : Nat), t.length - p ≤ m → ∀ q ∈ fnd x t p, p ≤ q ∧ q + x.length ≤ t.length
  | m, p, hm, q, hq => by
    by_cases h : p + x.length ≤ t.length
    · have h1 : 0 < x.length := List.length_pos_iff.mpr hx
      cases m with
      | zero => omega
      | succ m =>
        by_cases e : (t.drop p).take x.length = x
        · rw [fnd_hit hx h e] at hq
          rcases List.mem_cons.mp hq with rfl | hq
          · omega
          · have := fnd_bounds hx m (p + x.length) (by omega) q hq
            omega
        · rw [fnd_miss hx (by omega) e] at hq
          have := fnd_bounds hx m (p + 1) (by omega) q hq
          omega
    · rw [fnd_end hx (by omega)] at hq
      cases hq
theorem fnd_ge {x t : Text} (hx : x ≠ []) {p q : Nat} (hq : q ∈ fnd x t p) : p ≤ q ∧ q + x.length ≤ t.length := fnd_bounds hx _ p (Nat.le_refl _) q hq
def rep (t y : Text) (n : Nat) : Nat → List Nat → Text
  | b, [] => t.drop b
  | b, q :: r => (t.drop b).take (q - b) ++ y ++ rep t y n (q + n) r
theorem rep_fnd {x y t : Text} (hx : x ≠ []) : ∀ (m p : Nat), t.length - p ≤ m → rep t y x.length p (fnd x t p) = replacedFrom x y t.length (t.drop p)
  | m, p, hm => by
    have h1 : 0 < x.length := List.length_pos_iff.mpr hx
    by_cases hp : p < t.length
    · cases m with
      | zero => omega
      | succ m =>
        cases hl : t.length with
        | zero => omega
        | succ k =>
          cases hd : t.drop p with
          | nil =>
            have := congrArg List.length hd
            rw [List.length_drop] at this
            simp at this
            omega
          | cons c r =>
            have e2 : r = t.drop (p + 1) := by
              have : (t.drop p).drop 1 = r := by rw [hd]; rfl
              rw [← this, List.drop_drop]
            by_cases e : (t.drop p).take x.length = x
            · have hle : p + x.length ≤ t.length := by
                have := congrArg List.length e
                rw [List.length_take, List.length_drop] at this
                omega
              rw [fnd_hit hx hle e]
              unfold rep replacedFrom
              rw [hd] at e
              rw [if_pos (pre_take.mpr e), rep_fnd hx m (p + x.length) (by omega), show (c :: r).drop x.length = t.drop (p + x.length) by rw [← hd, List.drop_drop]]
              rw [replacedFrom_fuel x y hx t.length k _ (by rw [List.length_drop]; omega) (by rw [List.length_drop]; omega)]
              simp
            · have ih := rep_fnd (t := t) (y := y) hx m (p + 1) (by omega)
              rw [fnd_miss hx hp e]
              unfold replacedFrom
              have e' := e
              rw [hd] at e'
              rw [if_neg (fun q => e' (pre_take.mp q)), e2, replacedFrom_fuel x y hx k t.length _ (by rw [List.length_drop]; omega) (by rw [List.length_drop]; omega), ← ih]
              cases hf : fnd x t (p + 1) with
              | nil =>
                unfold rep
                rw [hd, e2]
              | cons q s =>
                have hq := (fnd_ge hx (p := p + 1) (q := q) (by rw [hf]; simp)).1
                unfold rep
                rw [hd, show q - p = (q - (p + 1)) + 1 by omega, List.take_succ_cons, e2]
                rfl
    · rw [fnd_end hx (by omega)]
      unfold rep
      rw [List.drop_eq_nil_of_le (by omega)]
      cases t.length <;> rfl
theorem rep_found {x y t : Text} (hx : x ≠ []) : rep t y x.length 0 (found x t) = replaced x y t := by
  rw [← fnd_zero, rep_fnd hx _ 0 (Nat.le_refl _)]
  rfl
theorem replacedFrom_len {x y : Text} (hx : x ≠ []) : ∀ (k p : Nat) (t : Text), t.length ≤ k → ((replacedFrom x y k t).length : Int) = (t.length : Int) + ((foundFrom x k p t).length : Int) * ((y.length : Int) - (x.length : Int))
  | 0, p, t, h => by
    have : t = [] := List.length_eq_zero_iff.mp (by omega)
    subst this
    simp [replacedFrom, foundFrom]
  | k + 1, p, [], _ => by simp [replacedFrom, foundFrom]
  | k + 1, p, c :: r, h => by
    have h1 : 0 < x.length := List.length_pos_iff.mpr hx
    simp only [List.length_cons] at h
    unfold replacedFrom foundFrom
    by_cases e : x.isPrefixOf (c :: r) = true
    · rw [if_pos e, if_pos e]
      have hle : x.length ≤ (c :: r).length := by
        have := congrArg List.length (pre_take.mp e)
        rw [List.length_take] at this
        omega
      have ih := replacedFrom_len (y := y) hx k (p + x.length) ((c :: r).drop x.length) (by rw [List.length_drop, List.length_cons]; omega)
      rw [List.length_append, List.length_cons]
      rw [List.length_drop] at ih
      simp only [List.length_cons] at hle ih ⊢
      have e3 : (((foundFrom x k (p + x.length) (List.drop x.length (c :: r))).length + 1 : Nat) : Int) * ((y.length : Int) - (x.length : Int)) =
        ((foundFrom x k (p + x.length) (List.drop x.length (c :: r))).length : Int) * ((y.length : Int) - (x.length : Int)) + ((y.length : Int) - (x.length : Int)) := by
        rw [Int.natCast_add, Int.add_mul]; simp
      rw [e3]
      omega
    · rw [if_neg e, if_neg e]
      have ih := replacedFrom_len (y := y) hx k (p + 1) r (by omega)
      simp only [List.length_cons]
      omega
theorem replaced_len {x y t : Text} (hx : x ≠ []) : ((replaced x y t).length : Int) = (t.length : Int) + ((found x t).length : Int) * ((y.length : Int) - (x.length : Int)) :=
  replacedFrom_len hx _ 0 t (Nat.le_refl _)
theorem found_len (x t : Text) : (found x t).length ≤ t.length := by
  unfold found
  have key : ∀ (k p : Nat) (u : Text), (foundFrom x k p u).length ≤ k := by
    intro k
    induction k with
    | zero => intro p u; simp [foundFrom]
    | succ k ih =>
      intro p u
      cases u with
      | nil => simp [foundFrom]
      | cons c r =>
        unfold foundFrom
        split
        · have := ih (p + x.length) ((c :: r).drop x.length)
          simp
          omega
        · have := ih (p + 1) r
          omega
  exact key _ _ _
end CM
namespace CM
open Vanbkd
structure WF (d : Doc) : Prop where
  nd : ND d
  len : d.length ≤ 12
  txt : ∀ c ∈ d, c.text.length ≤ 200
theorem WF.nil : WF [] := ⟨List.nodup_nil, by decide, fun _ h => by cases h⟩
def EOk : Edit → Prop
  | .make _ _ t => t.length ≤ 200
  | .write _ t => t.length ≤ 200
  | .replace x y => x ≠ [] ∧ x.length ≤ 200 ∧ y.length ≤ 200
  | _ => True
section
variable {d : Doc} {n a p m i j : Nat} {c e : Cell} {t x y : Text}
theorem ap_make_no (h : (ixF d n).isSome = true ∨ 12 ≤ d.length) : apply d (.make n a t) = none := by
  rw [apply, has_ix]
  exact if_pos h
theorem ap_make (hN : ND d) (h : ¬ ((ixF d n).isSome = true ∨ 12 ≤ d.length)) : apply d (.make n a t) = if a = 0 ∨ (ixF d a).isSome = true then some (putI d a ⟨n, false, t⟩) else none := by
  rw [apply, has_ix, ← putBehind_at hN]
  exact if_neg h
theorem ap_write_no (h : ixF d n = none) : apply d (.write n t) = none := by
  rw [apply, has_ix, h]
  rfl
theorem ap_write (hN : ND d) (h : ixF d n = some i) (hc : d[i]? = some c) : apply d (.write n t) = some (withC d i 1 [⟨c.number, c.hidden, t⟩]) := by
  rw [apply, has_ix, h, changed1_at hN h hc]
  rfl
theorem ap_move_no (h : ixF d n = none ∨ a = n) : apply d (.move n a) = none := by
  rw [apply, find_ix]
  cases e : ixF d n with
  | none => rfl
  | some i =>
    rcases h with h | h
    · rw [e] at h; cases h
    · obtain ⟨c, hc, _⟩ := ixF_at e
      show (d[i]?.bind _) = none
      rw [hc]
      exact if_pos h
def cut (d : Doc) (i : Nat) : Doc := withC d i 1 []
theorem cut_sub (d : Doc) (i : Nat) : (cut d i).Sublist d := by
  unfold cut withC
  conv => rhs; rw [← List.take_append_drop i d]
  rw [List.append_nil]
  refine List.Sublist.append (List.Sublist.refl _) ?_
  rw [← List.drop_drop]
  exact List.drop_sublist _ _
theorem ND.sub {d d' : Doc} (hN : ND d) (h : d'.Sublist d) : ND d' := List.Nodup.sublist (h.map _) hN
theorem cut_nd (hN : ND d) (i : Nat) : ND (cut d i) := hN.sub (cut_sub d i)
theorem ap_move (hN : ND d) (h : ixF d n = some i) (hc : d[i]? = some c) (ha : a ≠ n) :
    apply d (.move n a) = if a = 0 ∨ (ixF (cut d i) a).isSome = true then some (putI (cut d i) a c) else none := by
  rw [apply, find_ix, h]
  show (d[i]?.bind _) = _
  rw [hc]
  show (if a = n then none else putBehind (dropped d n) a c) = _
  rw [if_neg ha, dropped_at hN h]
  exact putBehind_at (cut_nd hN i)
theorem ix_cut (hN : ND d) (h : ixF d n = some i) {b : Int} (hb : b ≠ n) : (ixF (cut d i) b).isSome = (ixF d b).isSome := by
  obtain ⟨c, hc, hcn⟩ := ixF_at h
  have hsub := cut_sub d i
  cases e : ixF d b with
  | none =>
    cases e2 : ixF (cut d i) b with
    | none => rfl
    | some j =>
      obtain ⟨x, hx, hxn⟩ := ixF_at e2
      exact absurd hxn (ixF_none e x (hsub.subset (List.mem_of_getElem? hx)))
  | some k =>
    cases e2 : ixF (cut d i) b with
    | some j => rfl
    | none =>
      obtain ⟨x, hx, hxn⟩ := ixF_at e
      exfalso
      have hki : k ≠ i := fun q => by
        subst q
        have : c = x := Option.some.inj (hc.symm.trans hx)
        subst this
        omega
      refine ixF_none e2 x ?_ hxn
      unfold cut withC
      rw [List.append_nil]
      by_cases hlt : k < i
      · exact List.mem_append_left _ (List.mem_of_getElem? (i := k) (by rw [List.getElem?_take_of_lt hlt]; exact hx))
      · exact List.mem_append_right _ (List.mem_of_getElem? (i := k - (i + 1)) (by rw [List.getElem?_drop, show i + 1 + (k - (i + 1)) = k by omega]; exact hx))
theorem ap_drop_no (h : ixF d n = none) : apply d (.drop n) = none := by
  rw [apply, has_ix, h]
  rfl
theorem ap_drop (hN : ND d) (h : ixF d n = some i) : apply d (.drop n) = some (cut d i) := by
  rw [apply, has_ix, h, dropped_at hN h]
  rfl
theorem ap_hide_no {b : Bool} (h : ixF d n = none) : apply d (.hide n b) = none := by
  rw [apply, has_ix, h]
  rfl
theorem ap_hide {b : Bool} (hN : ND d) (h : ixF d n = some i) (hc : d[i]? = some c) : apply d (.hide n b) = some (withC d i 1 [⟨c.number, b, c.text⟩]) := by
  rw [apply, has_ix, h, changed1_at hN h hc]
  rfl
theorem ap_split_no (h : ixF d n = none) : apply d (.split n p m) = none := by
  rw [apply, find_ix, h]
  rfl
theorem ap_split_no2 (h : ixF d n = some i) (hc : d[i]? = some c) (q : c.text.length < p ∨ (ixF d m).isSome = true ∨ 12 ≤ d.length) : apply d (.split n p m) = none := by
  rw [apply, find_ix, h]
  show (d[i]?.bind _) = none
  rw [hc, has_ix]
  exact if_pos q
theorem ap_split (hN : ND d) (h : ixF d n = some i) (hc : d[i]? = some c) (q : ¬ (c.text.length < p ∨ (ixF d m).isSome = true ∨ 12 ≤ d.length)) :
    apply d (.split n p m) = some (withC d i 1 [⟨c.number, c.hidden, c.text.take p⟩, ⟨m, c.hidden, c.text.drop p⟩]) := by
  rw [apply, find_ix, h]
  show (d[i]?.bind _) = _
  rw [hc, has_ix]
  refine Eq.trans (if_neg q) ?_
  rw [splitCell_at hN h hc]
theorem ap_join_no (h : ixF d n = none) : apply d (.join n) = none := by
  rw [apply, find_ix, h]
  rfl
theorem ap_join_no2 (h : ixF d n = some i) (hc : d[i]? = some c) (q : d[i + 1]? = none) : apply d (.join n) = none := by
  rw [apply, find_ix, h, nextOf_at h, q]
  show (d[i]?.bind _) = none
  rw [hc]
  rfl
theorem ap_join_no3 (h : ixF d n = some i) (hc : d[i]? = some c) (he : d[i + 1]? = some e) (q : 200 < c.text.length + e.text.length) : apply d (.join n) = none := by
  rw [apply, find_ix, h, nextOf_at h, he]
  show (d[i]?.bind _) = none
  rw [hc]
  exact if_pos q
theorem ap_join (hN : ND d) (h : ixF d n = some i) (hc : d[i]? = some c) (he : d[i + 1]? = some e) (q : ¬ 200 < c.text.length + e.text.length) :
    apply d (.join n) = some (withC d i 2 [⟨c.number, c.hidden, c.text ++ e.text⟩]) := by
  rw [apply, find_ix, h, nextOf_at h, he]
  show (d[i]?.bind _) = _
  rw [hc]
  refine Eq.trans (if_neg q) ?_
  rw [join_at hN h hc he]
theorem ap_swap_no (h : ixF d a = none ∨ ixF d n = none) : apply d (.swap a n) = none := by
  rw [apply, find_ix, find_ix]
  cases e1 : ixF d a with
  | none => rfl
  | some i =>
    obtain ⟨c, hc, _⟩ := ixF_at e1
    rcases h with h | h
    · rw [e1] at h; cases h
    · show (d[i]?.bind _) = none
      rw [hc, h]
      rfl
theorem ap_swap (hN : ND d) (ha : ixF d a = some i) (hb : ixF d n = some j) (hc : d[i]? = some c) (he : d[j]? = some e) : apply d (.swap a n) = some ((d.set i e).set j c) := by
  rw [apply, find_ix, find_ix, ha, hb]
  show (d[i]?.bind _) = _
  rw [hc]
  show (d[j]?.bind _) = _
  rw [he]
  show some _ = some _
  rw [swap_at hN ha hb hc he]
theorem ap_replace : apply d (.replace x y) = if (∃ c ∈ d, 200 < (replaced x y c.text).length) then none else some (d.map fun c => ⟨c.number, c.hidden, replaced x y c.text⟩) := by
  rw [apply]
  show (if _ = true then none else some (d.map fun c => { c with text := replaced x y c.text })) = _
  by_cases h : ∃ c ∈ d, 200 < (replaced x y c.text).length
  · rw [if_pos h]
    refine if_pos ?_
    obtain ⟨c, hc, hl⟩ := h
    rw [List.any_eq_true]
    exact ⟨{ c with text := replaced x y c.text }, List.mem_map.mpr ⟨c, hc, rfl⟩, by exact decide_eq_true hl⟩
  · rw [if_neg h]
    refine if_neg ?_
    rw [List.any_eq_true]
    rintro ⟨q, hq, hl⟩
    obtain ⟨c, hc, rfl⟩ := List.mem_map.mp hq
    exact h ⟨c, hc, of_decide_eq_true hl⟩
end
theorem withC_mem {d : Doc} {i k : Nat} {cs : Doc} {c : Cell} (h : c ∈ withC d i k cs) : c ∈ d ∨ c ∈ cs := by
  unfold withC at h
  rcases List.mem_append.mp h with h | h
  · rcases List.mem_append.mp h with h | h
    · exact .inl (List.mem_of_mem_take h)
    · exact .inr h
  · exact .inl (List.mem_of_mem_drop h)
theorem withC_len {d : Doc} {i k : Nat} {cs : Doc} (h : i + k ≤ d.length) : (withC d i k cs).length + k = d.length + cs.length := by
  unfold withC
  simp
  omega
theorem one_nd {d : Doc} {i : Nat} {c c' : Cell} (hN : ND d) (hc : d[i]? = some c) (hn : c'.number = c.number) : ND (withC d i 1 [c']) := by
  have e : (withC d i 1 [c']).map (fun c => c.number) = d.map fun c => c.number := by
    have hs : d = d.take i ++ c :: d.drop (i + 1) := by
      obtain ⟨hl, he⟩ := List.getElem?_eq_some_iff.mp hc
      conv => lhs; rw [← List.take_append_drop i d, List.drop_eq_getElem_cons hl, he]
    unfold withC
    conv => rhs; rw [hs]
    simp [hn]
  unfold ND
  rw [e]
  exact hN
theorem put_nd {d : Doc} {i : Nat} {c : Cell} (hN : ND d) (h : ∀ x ∈ d, x.number ≠ c.number) : ND (withC d i 0 [c]) := by
  have hp : (withC d i 0 [c]).Perm (c :: d) := by
    unfold withC
    rw [List.append_assoc]
    refine List.perm_middle.trans ?_
    show (c :: (d.take i ++ d.drop (i + 0))).Perm (c :: d)
    rw [Nat.add_zero, List.take_append_drop]
  have := (hp.map fun c => c.number).nodup_iff.mpr (show ((c :: d).map fun c => c.number).Nodup from List.nodup_cons.mpr ⟨fun hm => by
    obtain ⟨x, hx, e⟩ := List.mem_map.mp hm
    exact h x hx e, hN⟩)
  exact this
theorem put_mem {d : Doc} {a : Nat} {c x : Cell} (h : x ∈ putI d a c) : x ∈ d ∨ x = c := by
  unfold putI at h
  split at h
  · rcases withC_mem h with h | h
    · exact .inl h
    · exact .inr (by simpa using h)
  · rcases withC_mem h with h | h
    · exact .inl h
    · exact .inr (by simpa using h)
theorem put_len {d : Doc} {a : Nat} {c : Cell} (h : a = 0 ∨ (ixF d a).isSome = true) : (putI d a c).length = d.length + 1 := by
  unfold putI
  split
  · have := withC_len (d := d) (i := 0) (k := 0) (cs := [c]) (by omega)
    simpa using this
  · rename_i ha
    cases e : ixF d a with
    | none =>
      rcases h with h | h
      · exact absurd h ha
      · rw [e] at h; cases h
    | some i =>
      have := withC_len (d := d) (i := (ixI d a + 1).toNat) (k := 0) (cs := [c]) (by
        rw [ixI_some e]
        have := ixF_lt e
        omega)
      simpa using this
theorem putI_nd {d : Doc} {a : Nat} {c : Cell} (hN : ND d) (h : ∀ x ∈ d, x.number ≠ c.number) : ND (putI d a c) := by
  unfold putI
  split <;> exact put_nd hN h
theorem ix_isSome {d : Doc} {n : Int} {c : Cell} (h : c ∈ d) (e : (c.number : Int) = n) : (ixF d n).isSome = true := by
  cases q : ixF d n with
  | none => exact absurd e (ixF_none q c h)
  | some i => rfl
theorem not_in_of {d : Doc} {n : Nat} (h : ¬ (ixF d n).isSome = true) : ∀ x ∈ d, x.number ≠ n := fun x hx e => h (ix_isSome hx (by omega))
theorem WF.one {d : Doc} {i : Nat} {c c' : Cell} (W : WF d) (hc : d[i]? = some c) (hn : c'.number = c.number) (ht : c'.text.length ≤ 200) : WF (withC d i 1 [c']) := by
  have hl : i < d.length := (List.getElem?_eq_some_iff.mp hc).1
  refine ⟨one_nd W.nd hc hn, ?_, fun x hx => ?_⟩
  · have := withC_len (d := d) (i := i) (k := 1) (cs := [c']) (by omega)
    have := W.len
    simp at *
    omega
  · rcases withC_mem hx with hx | hx
    · exact W.txt x hx
    · have : x = c' := by simpa using hx
      rw [this]; exact ht
theorem WF.cut {d : Doc} (W : WF d) (i : Nat) : WF (cut d i) :=
  ⟨cut_nd W.nd i, Nat.le_trans (cut_sub d i).length_le W.len, fun c hc => W.txt c ((cut_sub d i).subset hc)⟩
theorem ap_wf {d d' : Doc} {e : Edit} (W : WF d) (E : EOk e) (h : apply d e = some d') : WF d' := by
  cases e with
  | make n a t =>
    by_cases q : (ixF d n).isSome = true ∨ 12 ≤ d.length
    · rw [ap_make_no q] at h; cases h
    · rw [ap_make W.nd q] at h
      split at h
      · rename_i ha
        cases h
        refine ⟨putI_nd W.nd (not_in_of fun z => q (.inl z)), ?_, fun x hx => ?_⟩
        · rw [put_len ha]; omega
        · rcases put_mem hx with hx | rfl
          · exact W.txt x hx
          · exact E
      · cases h
  | write n t =>
    cases q : ixF d n with
    | none => rw [ap_write_no q] at h; cases h
    | some i =>
      obtain ⟨c, hc, _⟩ := ixF_at q
      rw [ap_write W.nd q hc] at h
      cases h
      exact W.one hc rfl E
  | move n a =>
    cases q : ixF d n with
    | none => rw [ap_move_no (.inl q)] at h; cases h
    | some i =>
      obtain ⟨c, hc, hcn⟩ := ixF_at q
      by_cases ha : a = n
      · rw [ap_move_no (.inr ha)] at h; cases h
      · rw [ap_move W.nd q hc ha] at h
        split at h
        · rename_i hs
          cases h
          have W2 := W.cut i
          refine ⟨putI_nd W2.nd (fun x hx e => ?_), ?_, fun x hx => ?_⟩
          · have hlt := ixF_lt q
            unfold CM.cut withC at hx
            rw [List.append_nil] at hx
            rcases List.mem_append.mp hx with hx | hx
            · obtain ⟨k, hk, he⟩ := List.mem_take_iff_getElem.mp hx
              have hk' : d[k]? = some x := by rw [List.getElem?_eq_getElem (by omega), he]
              have := at_inj W.nd hk' hc e
              omega
            · obtain ⟨k, hk, he⟩ := List.mem_drop_iff_getElem.mp hx
              have hk' : d[i + 1 + k]? = some x := by
                rw [List.getElem?_eq_getElem (by omega), he]
              have := at_inj W.nd hk' hc e
              omega
          · rw [put_len hs]
            have := withC_len (d := d) (i := i) (k := 1) (cs := []) (by have := ixF_lt q; omega)
            have := W.len
            unfold CM.cut
            simp at *
            omega
          · rcases put_mem hx with hx | rfl
            · exact W2.txt x hx
            · exact W.txt x (List.mem_of_getElem? hc)
        · cases h
  | drop n =>
    cases q : ixF d n with
    | none => rw [ap_drop_no q] at h; cases h
    | some i =>
      rw [ap_drop W.nd q] at h
      cases h
      exact W.cut i
  | hide n b =>
    cases q : ixF d n with
    | none => rw [ap_hide_no q] at h; cases h
    | some i =>
      obtain ⟨c, hc, _⟩ := ixF_at q
      rw [ap_hide W.nd q hc] at h
      cases h
      exact W.one hc rfl (W.txt c (List.mem_of_getElem? hc))
  | split n p m =>
    cases q : ixF d n with
    | none => rw [ap_split_no q] at h; cases h
    | some i =>
      obtain ⟨c, hc, hcn⟩ := ixF_at q
      by_cases z : c.text.length < p ∨ (ixF d m).isSome = true ∨ 12 ≤ d.length
      · rw [ap_split_no2 q hc z] at h; cases h
      · rw [ap_split W.nd q hc z] at h
        cases h
        have hct := W.txt c (List.mem_of_getElem? hc)
        have hlt := ixF_lt q
        have hm := not_in_of (d := d) (n := m) fun y => z (.inr (.inl y))
        have e1 : withC d i 1 [⟨c.number, c.hidden, c.text.take p⟩, ⟨m, c.hidden, c.text.drop p⟩] = withC (withC d i 1 [⟨c.number, c.hidden, c.text.take p⟩]) (i + 1) 0 [⟨m, c.hidden, c.text.drop p⟩] := by
          have l1 : (d.take i).length = i := by simp; omega
          have l2 : (d.take i ++ [(⟨c.number, c.hidden, c.text.take p⟩ : Cell)]).length = i + 1 := by simp; omega
          unfold withC
          generalize hA : d.take i ++ [(⟨c.number, c.hidden, c.text.take p⟩ : Cell)] = A at *
          rw [List.take_append_of_le_length (by omega), Nat.add_zero, List.drop_append_of_le_length (by omega)]
          rw [List.take_of_length_le (show A.length ≤ i + 1 by omega), List.drop_of_length_le (show A.length ≤ i + 1 by omega), ← hA]
          simp
        have W1 : WF (withC d i 1 [⟨c.number, c.hidden, c.text.take p⟩]) := W.one hc rfl (by simp; omega)
        have l0 := withC_len (d := d) (i := i) (k := 1) (cs := [⟨c.number, c.hidden, c.text.take p⟩]) (by omega)
        rw [e1]
        refine ⟨put_nd W1.nd (fun x hx => ?_), ?_, fun x hx => ?_⟩
        · rcases withC_mem hx with hx | hx
          · exact hm x hx
          · have : x = ⟨c.number, c.hidden, c.text.take p⟩ := by simpa using hx
            rw [this]
            exact hm c (List.mem_of_getElem? hc)
        · have := withC_len (d := withC d i 1 [⟨c.number, c.hidden, c.text.take p⟩]) (i := i + 1) (k := 0) (cs := [⟨m, c.hidden, c.text.drop p⟩]) (by simp at l0; omega)
          simp at this l0
          omega
        · rcases withC_mem hx with hx | hx
          · exact W1.txt x hx
          · have : x = ⟨m, c.hidden, c.text.drop p⟩ := by simpa using hx
            rw [this]
            simp
            omega
  | join n =>
    cases q : ixF d n with
    | none => rw [ap_join_no q] at h; cases h
    | some i =>
      obtain ⟨c, hc, _⟩ := ixF_at q
      cases he : d[i + 1]? with
      | none => rw [ap_join_no2 q hc he] at h; cases h
      | some e =>
        by_cases z : 200 < c.text.length + e.text.length
        · rw [ap_join_no3 q hc he z] at h; cases h
        · rw [ap_join W.nd q hc he z] at h
          cases h
          have hl : i + 1 < d.length := (List.getElem?_eq_some_iff.mp he).1
          have e1 : withC d i 2 [⟨c.number, c.hidden, c.text ++ e.text⟩] = withC (CM.cut d (i + 1)) i 1 [⟨c.number, c.hidden, c.text ++ e.text⟩] := by
            unfold CM.cut withC
            have l1 : (d.take (i + 1)).length = i + 1 := by simp; omega
            rw [List.append_nil, List.take_append_of_le_length (by omega), List.take_take, List.drop_append_of_le_length (by omega), show min i (i + 1) = i by omega]
            rw [List.drop_of_length_le (show (d.take (i + 1)).length ≤ i + 1 by omega), show i + 1 + 1 = i + 2 by omega]
            rfl
          have hc2 : (CM.cut d (i + 1))[i]? = some c := by
            unfold CM.cut withC
            rw [List.append_nil, List.getElem?_append_left (by simp; omega), List.getElem?_take_of_lt (by omega)]
            exact hc
          rw [e1]
          exact (W.cut (i + 1)).one hc2 rfl (by simp; omega)
  | swap a b =>
    cases qa : ixF d a with
    | none => rw [ap_swap_no (.inl qa)] at h; cases h
    | some i =>
      cases qb : ixF d b with
      | none => rw [ap_swap_no (.inr qb)] at h; cases h
      | some j =>
        obtain ⟨c, hc, _⟩ := ixF_at qa
        obtain ⟨e, he, _⟩ := ixF_at qb
        rw [ap_swap W.nd qa qb hc he] at h
        cases h
        refine ⟨?_, by simpa using W.len, fun x hx => ?_⟩
        · have hi := ixF_lt qa
          have hj := ixF_lt qb
          unfold ND
          rw [List.map_set, List.map_set]
          have key : ∀ k x, ((d.map fun c => c.number).set i e.number |>.set j c.number)[k]? = some x → ∃ k', (d.map fun c => c.number)[k']? = some x ∧ (k' = if k = j then i else if k = i then j else k) := by
            intro k x hx
            rw [List.getElem?_set, List.getElem?_set] at hx
            simp only [List.length_set, List.length_map] at hx
            by_cases h1 : j = k
            · rw [if_pos h1, if_pos (by omega)] at hx
              exact ⟨i, by rw [List.getElem?_map, hc]; exact hx, by rw [if_pos h1.symm]⟩
            · rw [if_neg h1] at hx
              by_cases h2 : i = k
              · rw [if_pos h2, if_pos (by omega)] at hx
                exact ⟨j, by rw [List.getElem?_map, he]; exact hx, by rw [if_neg (fun z => h1 z.symm), if_pos h2.symm]⟩
              · rw [if_neg h2] at hx
                exact ⟨k, hx, by rw [if_neg (fun z => h1 z.symm), if_neg (fun z => h2 z.symm)]⟩
          refine List.pairwise_iff_getElem.mpr fun u v hu hv huv heq => ?_
          obtain ⟨u', hu', eu⟩ := key u _ (List.getElem?_eq_getElem hu)
          obtain ⟨v', hv', ev⟩ := key v _ (List.getElem?_eq_getElem hv)
          rw [heq] at hu'
          have hlu : u' < (d.map fun c => c.number).length := (List.getElem?_eq_some_iff.mp hu').1
          have huv' : u' = v' := by
            have hN := W.nd
            unfold ND at hN
            exact (List.getElem_inj (h₀ := hlu) (h₁ := (List.getElem?_eq_some_iff.mp hv').1) hN).mp ((List.getElem?_eq_some_iff.mp hu').2.trans (List.getElem?_eq_some_iff.mp hv').2.symm)
          rw [huv'] at eu
          rw [ev] at eu
          by_cases c1 : u = j <;> by_cases c2 : v = j <;> by_cases c3 : u = i <;> by_cases c4 : v = i <;> by_cases c5 : i = j <;> simp only [c1, c2, c3, c4, c5, if_true, if_false] at eu <;> first | omega | (simp at eu; omega) | (split at eu <;> omega)
        · rcases List.mem_or_eq_of_mem_set hx with hx | rfl
          · rcases List.mem_or_eq_of_mem_set hx with hx | rfl
            · exact W.txt x hx
            · exact W.txt x (List.mem_of_getElem? he)
          · exact W.txt x (List.mem_of_getElem? hc)
  | replace x y =>
    rw [ap_replace] at h
    split at h
    · cases h
    · rename_i z
      cases h
      refine ⟨?_, by simpa using W.len, fun c hc => ?_⟩
      · unfold ND
        rw [List.map_map]
        exact W.nd
      · obtain ⟨c', hc', rfl⟩ := List.mem_map.mp hc
        have : ¬ 200 < (replaced x y c'.text).length := fun q => z ⟨c', hc', q⟩
        show (replaced x y c'.text).length ≤ 200
        omega
end CM
namespace CM
open Vanbkd
structure WFN (N : Nat) (d : Doc) : Prop where
  wf : WF d
  num : ∀ c ∈ d, c.number < N
theorem WFN.mono {N M : Nat} {d : Doc} (h : WFN N d) (l : N ≤ M) : WFN M d := ⟨h.wf, fun c hc => Nat.lt_of_lt_of_le (h.num c hc) l⟩
def ENum (N : Nat) : Edit → Prop
  | .make n _ _ => n < N
  | .split _ _ m => m < N
  | _ => True
structure EOkN (N : Nat) (e : Edit) : Prop where
  ok : EOk e
  num : ENum N e
theorem EOkN.mono {N M : Nat} {e : Edit} (h : EOkN N e) (l : N ≤ M) : EOkN M e := ⟨h.ok, by
  have := h.num
  cases e <;> simp only [ENum] at * <;> omega⟩
theorem ap_num {N : Nat} {d d' : Doc} {e : Edit} (W : WF d) (hd : ∀ c ∈ d, c.number < N) (E : ENum N e) (h : apply d e = some d') : ∀ c ∈ d', c.number < N := by
  cases e with
  | make n a t =>
    by_cases q : (ixF d n).isSome = true ∨ 12 ≤ d.length
    · rw [ap_make_no q] at h; cases h
    · rw [ap_make W.nd q] at h
      split at h
      · cases h
        intro x hx
        rcases put_mem hx with hx | rfl
        · exact hd x hx
        · exact E
      · cases h
  | write n t =>
    cases q : ixF d n with
    | none => rw [ap_write_no q] at h; cases h
    | some i =>
      obtain ⟨c, hc, _⟩ := ixF_at q
      rw [ap_write W.nd q hc] at h
      cases h
      intro x hx
      rcases withC_mem hx with hx | hx
      · exact hd x hx
      · rw [List.mem_singleton.mp hx]
        exact hd c (List.mem_of_getElem? hc)
  | move n a =>
    cases q : ixF d n with
    | none => rw [ap_move_no (.inl q)] at h; cases h
    | some i =>
      obtain ⟨c, hc, hcn⟩ := ixF_at q
      by_cases ha : a = n
      · rw [ap_move_no (.inr ha)] at h; cases h
      · rw [ap_move W.nd q hc ha] at h
        split at h
        · cases h
          intro x hx
          rcases put_mem hx with hx | rfl
          · exact hd x ((cut_sub d i).subset hx)
          · exact hd x (List.mem_of_getElem? hc)
        · cases h
  | drop n =>
    cases q : ixF d n with
    | none => rw [ap_drop_no q] at h; cases h
    | some i =>
      rw [ap_drop W.nd q] at h
      cases h
      exact fun x hx => hd x ((cut_sub d i).subset hx)
  | hide n b =>
    cases q : ixF d n with
    | none => rw [ap_hide_no q] at h; cases h
    | some i =>
      obtain ⟨c, hc, _⟩ := ixF_at q
      rw [ap_hide W.nd q hc] at h
      cases h
      intro x hx
      rcases withC_mem hx with hx | hx
      · exact hd x hx
      · rw [List.mem_singleton.mp hx]
        exact hd c (List.mem_of_getElem? hc)
  | split n p m =>
    cases q : ixF d n with
    | none => rw [ap_split_no q] at h; cases h
    | some i =>
      obtain ⟨c, hc, hcn⟩ := ixF_at q
      by_cases z : c.text.length < p ∨ (ixF d m).isSome = true ∨ 12 ≤ d.length
      · rw [ap_split_no2 q hc z] at h; cases h
      · rw [ap_split W.nd q hc z] at h
        cases h
        intro x hx
        rcases withC_mem hx with hx | hx
        · exact hd x hx
        · rcases List.mem_cons.mp hx with rfl | hx
          · exact hd c (List.mem_of_getElem? hc)
          · rw [List.mem_singleton.mp hx]
            exact E
  | join n =>
    cases q : ixF d n with
    | none => rw [ap_join_no q] at h; cases h
    | some i =>
      obtain ⟨c, hc, _⟩ := ixF_at q
      cases he : d[i + 1]? with
      | none => rw [ap_join_no2 q hc he] at h; cases h
      | some e =>
        by_cases z : 200 < c.text.length + e.text.length
        · rw [ap_join_no3 q hc he z] at h; cases h
        · rw [ap_join W.nd q hc he z] at h
          cases h
          intro x hx
          rcases withC_mem hx with hx | hx
          · exact hd x hx
          · rw [List.mem_singleton.mp hx]
            exact hd c (List.mem_of_getElem? hc)
  | swap a b =>
    cases qa : ixF d a with
    | none => rw [ap_swap_no (.inl qa)] at h; cases h
    | some i =>
      cases qb : ixF d b with
      | none => rw [ap_swap_no (.inr qb)] at h; cases h
      | some j =>
        obtain ⟨c, hc, _⟩ := ixF_at qa
        obtain ⟨e, he, _⟩ := ixF_at qb
        rw [ap_swap W.nd qa qb hc he] at h
        cases h
        intro x hx
        rcases List.mem_or_eq_of_mem_set hx with hx | rfl
        · rcases List.mem_or_eq_of_mem_set hx with hx | rfl
          · exact hd x hx
          · exact hd x (List.mem_of_getElem? he)
        · exact hd x (List.mem_of_getElem? hc)
  | replace x y =>
    rw [ap_replace] at h
    split at h
    · cases h
    · cases h
      intro c hc
      obtain ⟨c', hc', rfl⟩ := List.mem_map.mp hc
      exact hd c' hc'
theorem ap_wfn {N : Nat} {d d' : Doc} {e : Edit} (W : WFN N d) (E : EOkN N e) (h : apply d e = some d') : WFN N d' := ⟨ap_wf W.wf E.ok h, ap_num W.wf W.num E.num h⟩
theorem all_app (a b : List Edit) : ∀ d : Doc, applyAll d (a ++ b) = (applyAll d a).bind fun x => applyAll x b := by
  induction a with
  | nil => intro d; rfl
  | cons e r ih =>
    intro d
    show (apply d e).bind _ = ((apply d e).bind _).bind _
    cases apply d e with
    | none => rfl
    | some x => exact ih x
theorem all_one (d : Doc) (e : Edit) : applyAll d [e] = apply d e := by
  show (apply d e).bind _ = _
  cases apply d e <;> rfl
theorem all_wfn {N : Nat} : ∀ {l : List Edit} {d d' : Doc}, WFN N d → (∀ e ∈ l, EOkN N e) → applyAll d l = some d' → WFN N d'
  | [], d, d', W, _, h => by cases h; exact W
  | e :: r, d, d', W, E, h => by
    have h' : (apply d e).bind (fun x => applyAll x r) = some d' := h
    cases q : apply d e with
    | none => rw [q] at h'; cases h'
    | some x =>
      rw [q] at h'
      exact all_wfn (ap_wfn W (E e (by simp)) q) (fun z hz => E z (by simp [hz])) h'
theorem all_pre {a b : List Edit} {d : Doc} (h : (applyAll d (a ++ b)).isSome = true) : (applyAll d a).isSome = true := by
  rw [all_app] at h
  cases q : applyAll d a with
  | none => rw [q] at h; cases h
  | some x => rfl
structure SOk (N : Nat) (st : List Edit) : Prop where
  ne : st ≠ []
  len : st.length ≤ 10
  ok : ∀ e ∈ st, EOkN N e
theorem SOk.mono {N M : Nat} {st : List Edit} (h : SOk N st) (l : N ≤ M) : SOk M st := ⟨h.ne, h.len, fun e he => (h.ok e he).mono l⟩
structure Good (s : State) : Prop where
  wb : WFN s.next s.base
  he : ∀ st ∈ history s, SOk s.next st
  ge : ∀ e ∈ open_ s, EOkN s.next e
  gl : (open_ s).length ≤ 10
  hl : (history s).length ≤ 20
  ht : (applyAll s.base (history s).flatten).isSome = true
  gt : (applyAll s.base (s.done.flatten ++ open_ s)).isSome = true
  n1 : 1 ≤ s.next
  n2 : s.next ≤ 100
theorem good_start : Good start := ⟨⟨WF.nil, fun _ h => (nomatch h)⟩, fun _ h => (nomatch h), fun _ h => (nomatch h), by decide, by decide, rfl, rfl, by decide, by decide⟩
section
variable {s : State} (G : Good s)
include G
theorem Good.flat {l : List (List Edit)} (h : ∀ st ∈ l, st ∈ history s) : ∀ e ∈ l.flatten, EOkN s.next e := fun e he => by
  obtain ⟨st, hst, hm⟩ := List.mem_flatten.mp he
  exact (G.he st (h st hst)).ok e hm
theorem Good.at_ (p : Nat) : applyAll s.base ((history s).take p).flatten = some (docAt s p) ∧ WFN s.next (docAt s p) := by
  have h : (applyAll s.base ((history s).take p).flatten).isSome = true := by
    have := G.ht
    rw [← List.take_append_drop p (history s), List.flatten_append] at this
    exact all_pre this
  cases q : applyAll s.base ((history s).take p).flatten with
  | none => rw [q] at h; cases h
  | some d =>
    have e : docAt s p = d := by
      unfold docAt replay
      rw [q]; rfl
    rw [e]
    exact ⟨rfl, all_wfn G.wb (G.flat fun st hst => List.mem_of_mem_take hst) q⟩
theorem Good.doc : applyAll s.base (s.done.flatten ++ open_ s) = some (doc s) ∧ WFN s.next (doc s) := by
  have h := G.gt
  cases q : applyAll s.base (s.done.flatten ++ open_ s) with
  | none => rw [q] at h; cases h
  | some d =>
    have e : Vanbkd.doc s = d := by
      unfold Vanbkd.doc
      rw [q]; rfl
    rw [e]
    refine ⟨rfl, all_wfn G.wb (fun e he => ?_) q⟩
    rcases List.mem_append.mp he with he | he
    · exact G.flat (fun st hst => List.mem_append_left _ hst) e he
    · exact G.ge e he
theorem Good.pos : (history s).take s.done.length = s.done := by
  unfold history
  simp
theorem Good.doc_at (h : open_ s = []) : docAt s s.done.length = Vanbkd.doc s := by
  unfold docAt replay Vanbkd.doc
  rw [G.pos, h, List.append_nil]
end
theorem flat_snoc (l : List (List Edit)) (e : List Edit) : (l ++ [e]).flatten = l.flatten ++ e := by simp
theorem good_added {s : State} {N : Nat} {e : List Edit} (hb : WFN N s.base) (hd : ∀ st ∈ s.done, SOk N st) (hl : s.done.length ≤ 20) (hg : s.group = none) (E : SOk N e)
    (ht : (applyAll s.base (s.done.flatten ++ e)).isSome = true) (n1 : 1 ≤ N) (n2 : N ≤ 100) : Good { added s e with next := N } := by
  unfold added
  have hE : ∀ st ∈ s.done ++ [e], SOk N st := fun st hst => by
    rcases List.mem_append.mp hst with hst | hst
    · exact hd st hst
    · rw [List.mem_singleton.mp hst]; exact E
  by_cases q : (s.done ++ [e]).length ≤ STEPS
  · simp only [q, if_true]
    refine ⟨hb, fun st hst => hE st (by simpa [history] using hst), fun z hz => by simp [open_, hg] at hz, by simp [open_, hg], (by simp [history]; simp [STEPS] at q; omega), ?_, ?_, n1, n2⟩
    · show (applyAll s.base (s.done ++ [e] ++ []).flatten).isSome = true
      rw [List.append_nil, flat_snoc]
      exact ht
    · show (applyAll s.base ((s.done ++ [e]).flatten ++ (s.group.getD []))).isSome = true
      rw [hg, flat_snoc]
      show (applyAll s.base (s.done.flatten ++ e ++ [])).isSome = true
      rw [List.append_nil]
      exact ht
  · simp only [q, if_false]
    have hsp : s.done ++ [e] = (s.done ++ [e]).take 1 ++ (s.done ++ [e]).drop 1 := (List.take_append_drop 1 _).symm
    have ht2 : (applyAll s.base (((s.done ++ [e]).take 1).flatten ++ ((s.done ++ [e]).drop 1).flatten)).isSome = true := by
      rw [← List.flatten_append, ← hsp, flat_snoc]
      exact ht
    have h1 := all_pre ht2
    cases q1 : applyAll s.base ((s.done ++ [e]).take 1).flatten with
    | none => rw [q1] at h1; cases h1
    | some b =>
      have eb : replay s ((s.done ++ [e]).take 1) = b := by
        unfold replay
        rw [q1]; rfl
      rw [all_app, q1] at ht2
      have ht3 : (applyAll b ((s.done ++ [e]).drop 1).flatten).isSome = true := ht2
      rw [eb]
      refine ⟨all_wfn hb (fun z hz => ?_) q1, fun st hst => hE st ?_, fun z hz => by simp [open_, hg] at hz, by simp [open_, hg], ?_, ?_, ?_, n1, n2⟩
      · obtain ⟨st, hst, hm⟩ := List.mem_flatten.mp hz
        exact (hE st (List.mem_of_mem_take hst)).ok z hm
      · have : st ∈ (s.done ++ [e]).drop 1 ++ [] := hst
        rw [List.append_nil] at this
        exact List.mem_of_mem_drop this
      · show ((s.done ++ [e]).drop 1 ++ []).length ≤ 20
        simp
        omega
      · show (applyAll b ((s.done ++ [e]).drop 1 ++ []).flatten).isSome = true
        rw [List.append_nil]
        exact ht3
      · show (applyAll b (((s.done ++ [e]).drop 1).flatten ++ (s.group.getD []))).isSome = true
        rw [hg]
        show (applyAll b (((s.done ++ [e]).drop 1).flatten ++ [])).isSome = true
        rw [List.append_nil]
        exact ht3
theorem good_put {s : State} {N : Nat} {e : Edit} {d : Doc} (G : Good s) (hN : s.next ≤ N) (n2 : N ≤ 100) (E : EOkN N e) (h10 : (open_ s).length < 10) (h : apply (doc s) e = some d) : Good { put s e with next := N } := by
  have hd := G.doc
  unfold put
  cases hg : s.group with
  | none =>
    have ho : open_ s = [] := by simp [open_, hg]
    refine good_added (G.wb.mono hN) (fun st hst => (G.he st (List.mem_append_left _ hst)).mono hN) ?_ hg ⟨by simp, by simp, fun z hz => by rw [List.mem_singleton.mp hz]; exact E⟩ ?_ (Nat.le_trans G.n1 hN) n2
    · have := G.hl
      unfold history at this
      simp at this
      omega
    · rw [ho, List.append_nil] at hd
      rw [all_app, hd.1]
      show (applyAll (doc s) [e]).isSome = true
      rw [all_one, h]
      rfl
  | some g =>
    have ho : open_ s = g := by simp [open_, hg]
    refine ⟨G.wb.mono hN, fun st hst => (G.he st hst).mono hN, fun z hz => ?_, ?_, G.hl, G.ht, ?_, Nat.le_trans G.n1 hN, n2⟩
    · have : z ∈ g ++ [e] := hz
      rcases List.mem_append.mp this with hz | hz
      · exact (G.ge z (by rw [ho]; exact hz)).mono hN
      · rw [List.mem_singleton.mp hz]; exact E
    · show (g ++ [e]).length ≤ 10
      rw [ho] at h10
      simp
      omega
    · show (applyAll s.base (s.done.flatten ++ (g ++ [e]))).isSome = true
      rw [ho] at hd
      rw [← List.append_assoc, all_app, hd.1]
      show (applyAll (doc s) [e]).isSome = true
      rw [all_one, h]
      rfl
theorem good_gone {s : State} (G : Good s) (hg : s.group = none) (p : Nat) : Good (gone s p) := by
  have hh : history (gone s p) = history s := by
    unfold gone history
    exact List.take_append_drop p _
  have ho : open_ (gone s p) = [] := by
    show (s.group.getD []) = []
    rw [hg]; rfl
  refine ⟨G.wb, fun st hst => G.he st (by rw [hh] at hst; exact hst), (fun z hz => by rw [ho] at hz; cases hz), (by rw [ho]; decide), (by rw [hh]; exact G.hl), (by rw [hh]; exact G.ht), ?_, G.n1, G.n2⟩
  rw [ho, List.append_nil]
  show (applyAll s.base ((history s).take p).flatten).isSome = true
  rw [(G.at_ p).1]
  rfl
theorem without_mem {l : List (List Edit)} {k : Nat} {st : List Edit} (h : st ∈ without l k) : st ∈ l := by
  unfold without at h
  rcases List.mem_append.mp h with h | h
  · exact List.mem_of_mem_take h
  · exact List.mem_of_mem_drop h
theorem good_struck {s : State} (G : Good s) (hg : s.group = none) (k : Nat) (h : (applyAll s.base (without s.done k).flatten).isSome = true) : Good { s with done := without s.done k, undone := [] } := by
  have ho : (s.group.getD ([] : List Edit)) = [] := by rw [hg]; rfl
  refine ⟨G.wb, fun st hst => ?_, fun z hz => ?_, ?_, ?_, ?_, ?_, G.n1, G.n2⟩
  · have : st ∈ without s.done k ++ [] := hst
    rw [List.append_nil] at this
    exact G.he st (List.mem_append_left _ (without_mem this))
  · have : z ∈ (s.group.getD ([] : List Edit)) := hz
    rw [ho] at this
    cases this
  · show (s.group.getD ([] : List Edit)).length ≤ 10
    rw [ho]; decide
  · show (without s.done k ++ []).length ≤ 20
    have := G.hl
    unfold history at this
    unfold without
    simp at *
    omega
  · show (applyAll s.base (without s.done k ++ []).flatten).isSome = true
    rw [List.append_nil]; exact h
  · show (applyAll s.base ((without s.done k).flatten ++ s.group.getD [])).isSome = true
    rw [ho, List.append_nil]; exact h
end CM
namespace CM
open Vanbkd
theorem first_cons {b : Bool} {n : Int} {r : List (Bool × Int)} : first ((b, n) :: r) = if b = true then some n else first r := rfl
theorem first_none {b : Bool} {n : Int} {r : List (Bool × Int)} : first ((b, n) :: r) = none ↔ b = false ∧ first r = none := by
  rw [first_cons]
  cases b <;> simp
theorem fit_ix {d : Doc} {a : Int} : fit d a = true ↔ a = 0 ∨ (ixF d a).isSome = true := by
  unfold fit
  rw [hasI_ix]
  simp
theorem fresh_ix {N : Nat} {d : Doc} (W : WFN N d) : (ixF d (N : Int)).isSome = false := by
  cases q : ixF d (N : Int) with
  | none => rfl
  | some i =>
    obtain ⟨c, hc, hn⟩ := ixF_at q
    have := W.num c (List.mem_of_getElem? hc)
    omega
theorem toNat_ix {d : Doc} {a : Int} (h : (ixF d a).isSome = true) : ((a.toNat : Nat) : Int) = a := by
  cases q : ixF d a with
  | none => rw [q] at h; cases h
  | some i =>
    obtain ⟨c, hc, hn⟩ := ixF_at q
    omega
theorem fit_toNat {d : Doc} {a : Int} (h : a = 0 ∨ (ixF d a).isSome = true) : ((a.toNat : Nat) : Int) = a := by
  rcases h with rfl | h
  · rfl
  · exact toNat_ix h
theorem can_make {N : Nat} {d : Doc} {a : Int} {t : Text} (W : WFN N d) (h : a = 0 ∨ (ixF d a).isSome = true) (hl : ¬ 12 ≤ d.length) :
    apply d (.make N a.toNat t) = some (putI d a.toNat ⟨N, false, t⟩) := by
  rw [ap_make W.wf.nd (by rw [fresh_ix W]; simp; omega), if_pos]
  rcases h with rfl | h
  · exact .inl rfl
  · exact .inr (by rw [toNat_ix h]; exact h)
theorem can_move {d : Doc} {n : Nat} {i : Nat} {c : Cell} {a : Int} (W : WF d) (h : ixF d n = some i) (hc : d[i]? = some c) (ha : a = 0 ∨ (ixF d a).isSome = true) (hn : a ≠ n) :
    apply d (.move n a.toNat) = some (putI (cut d i) a.toNat c) := by
  have e := fit_toNat ha
  rw [ap_move W.nd h hc (by omega), if_pos]
  rcases ha with rfl | ha
  · exact .inl rfl
  · refine .inr ?_
    rw [ix_cut W.nd h (by omega), e]
    exact ha
theorem edited_none {s : State} {own : List (Bool × Int)} {e : Edit} {next : Nat} {ans : Int} {d : Doc} (h : first ((decide (EDITS ≤ (open_ s).length), -10) :: own) = none) (ha : apply (doc s) e = some d) :
    edited s own e next ans = if d = doc s then refused s (-7) else ({ put s e with next := next }, ⟨ans, []⟩) := by
  unfold edited
  rw [h]
  simp only [ha]
theorem edited_some {s : State} {own : List (Bool × Int)} {e : Edit} {next : Nat} {ans n : Int} (h : first ((decide (EDITS ≤ (open_ s).length), -10) :: own) = some n) : edited s own e next ans = refused s n := by
  unfold edited
  rw [h]
theorem edited_good {s : State} {own : List (Bool × Int)} {e : Edit} {next : Nat} {ans : Int} (G : Good s) (h : first own = none → EOkN next e ∧ s.next ≤ next ∧ next ≤ 100) : Good (edited s own e next ans).1 := by
  unfold edited
  split
  · exact G
  · rename_i q
    obtain ⟨q1, q2⟩ := first_none.mp q
    obtain ⟨E, l, m⟩ := h q2
    have h10 : (open_ s).length < 10 := by
      have : ¬ EDITS ≤ (open_ s).length := of_decide_eq_false q1
      unfold EDITS at this
      omega
    split
    · exact G
    · rename_i d hd
      split
      · exact G
      · exact good_put G l m E h10 hd
theorem tooLong_no {t : List Int} (h : tooLong t = false) : t.length ≤ 200 := by
  have : ¬ LONG < t.length := of_decide_eq_false h
  unfold LONG at this
  omega
theorem textOf_len (t : List Int) : (textOf t).length = t.length := by simp [textOf]
theorem usedUp_no {s : State} (h : usedUp s = false) : s.next ≤ 99 := by
  have : ¬ 99 < s.next := of_decide_eq_false h
  omega
theorem edit_good {s : State} (G : Good s) (c : Call) : Good (doEdit s c).1 := by
  have n2 := G.n2
  cases c with
  | new a t =>
    refine edited_good G fun h => ?_
    obtain ⟨h1, h⟩ := first_none.mp h
    obtain ⟨h2, h⟩ := first_none.mp h
    obtain ⟨h3, h⟩ := first_none.mp h
    obtain ⟨h4, h⟩ := first_none.mp h
    obtain ⟨h5, h⟩ := first_none.mp h
    have := usedUp_no h5
    exact ⟨⟨by show (textOf t).length ≤ 200; rw [textOf_len]; exact tooLong_no h3, by show s.next < s.next + 1; omega⟩, by omega, by omega⟩
  | write n t =>
    refine edited_good G fun h => ?_
    obtain ⟨h1, h⟩ := first_none.mp h
    obtain ⟨h2, h⟩ := first_none.mp h
    obtain ⟨h3, h⟩ := first_none.mp h
    exact ⟨⟨by show (textOf t).length ≤ 200; rw [textOf_len]; exact tooLong_no h3, trivial⟩, by omega, by omega⟩
  | move n a => exact edited_good G fun h => ⟨⟨trivial, trivial⟩, by omega, by omega⟩
  | drop n => exact edited_good G fun h => ⟨⟨trivial, trivial⟩, by omega, by omega⟩
  | hide n m => exact edited_good G fun h => ⟨⟨trivial, trivial⟩, by omega, by omega⟩
  | split n p =>
    refine edited_good G fun h => ?_
    obtain ⟨h1, h⟩ := first_none.mp h
    obtain ⟨h2, h⟩ := first_none.mp h
    obtain ⟨h3, h⟩ := first_none.mp h
    obtain ⟨h4, h⟩ := first_none.mp h
    have := usedUp_no h4
    exact ⟨⟨trivial, by show s.next < s.next + 1; omega⟩, by omega, by omega⟩
  | join n => exact edited_good G fun h => ⟨⟨trivial, trivial⟩, by omega, by omega⟩
  | swap a b => exact edited_good G fun h => ⟨⟨trivial, trivial⟩, by omega, by omega⟩
  | replace x y =>
    refine edited_good G fun h => ?_
    obtain ⟨h1, h⟩ := first_none.mp h
    obtain ⟨h2, h⟩ := first_none.mp h
    obtain ⟨h3, h⟩ := first_none.mp h
    have h2' := Bool.or_eq_false_iff.mp h2
    refine ⟨⟨⟨fun e => ?_, by rw [textOf_len]; exact tooLong_no h2'.1, by rw [textOf_len]; exact tooLong_no h2'.2⟩, trivial⟩, by omega, by omega⟩
    have := congrArg List.length e
    rw [textOf_len] at this
    have : x = [] := List.length_eq_zero_iff.mp this
    subst this
    cases h3
  | _ => exact G
theorem history_good {s : State} (G : Good s) (c : Call) : Good (doHistory s c).1 := by
  cases c with
  | begin =>
    show Good (if s.group.isSome = true then refused s (-11) else ({ s with group := some [] }, ⟨0, []⟩)).1
    split
    · exact G
    · rename_i h
      have hg : s.group = none := by
        cases q : s.group with
        | none => rfl
        | some g => rw [q] at h; exact absurd rfl h
      have ho : open_ s = [] := by simp [open_, hg]
      have := G.gt
      rw [ho] at this
      exact ⟨G.wb, G.he, fun z hz => (nomatch hz), Nat.zero_le _, G.hl, G.ht, this, G.n1, G.n2⟩
  | close =>
    show Good (match s.group with
      | none => refused s (-12)
      | some [] => ({ s with group := none }, ⟨0, []⟩)
      | some g => (added { s with group := none } g, ⟨ofNat g.length, []⟩)).1
    have gt := G.gt
    have ge := G.ge
    have gl := G.gl
    split
    · exact G
    · rename_i hg
      have ho : open_ s = [] := by simp [open_, hg]
      rw [ho] at gt
      exact ⟨G.wb, G.he, fun z hz => (nomatch hz), Nat.zero_le _, G.hl, G.ht, gt, G.n1, G.n2⟩
    · rename_i g hne hg
      have ho : open_ s = g := by simp [open_, hg]
      rw [ho] at gt ge gl
      have hl := G.hl
      unfold history at hl
      simp at hl
      have := good_added (s := { s with group := none }) (N := s.next) (e := g) G.wb (fun st hst => G.he st (List.mem_append_left _ hst)) (show s.done.length ≤ 20 by omega) rfl ⟨fun e => hne e, gl, ge⟩ gt G.n1 G.n2
      have e : ({ added { s with group := none } g with next := s.next } : State) = added { s with group := none } g := by
        unfold added
        dsimp only
        split <;> rfl
      rw [e] at this
      exact this
  | cancel =>
    show Good (match s.group with
      | none => refused s (-12)
      | some g => ({ s with group := none }, ⟨ofNat g.length, []⟩)).1
    have gt := G.gt
    split
    · exact G
    · rename_i g hg
      refine ⟨G.wb, G.he, fun z hz => (nomatch hz), Nat.zero_le _, G.hl, G.ht, ?_, G.n1, G.n2⟩
      have := all_pre gt
      show (applyAll s.base (s.done.flatten ++ [])).isSome = true
      rw [List.append_nil]
      exact this
  | undo =>
    show Good (match first [(s.group.isSome, -11), (s.done.isEmpty, -13)] with
      | some n => refused s n
      | none => (gone s (s.done.length - 1), ⟨ofNat (s.done.length - 1), []⟩)).1
    split
    · exact G
    · rename_i h
      obtain ⟨h1, h⟩ := first_none.mp h
      exact good_gone G (by cases q : s.group with
        | none => rfl
        | some g => rw [q] at h1; cases h1) _
  | redo =>
    show Good (match first [(s.group.isSome, -11), (s.undone.isEmpty, -14)] with
      | some n => refused s n
      | none => (gone s (s.done.length + 1), ⟨ofNat (s.undone.length - 1), []⟩)).1
    split
    · exact G
    · rename_i h
      obtain ⟨h1, h⟩ := first_none.mp h
      exact good_gone G (by cases q : s.group with
        | none => rfl
        | some g => rw [q] at h1; cases h1) _
  | to p =>
    show Good (match first [(s.group.isSome, -11), (!upTo p (history s).length, -3)] with
      | some n => refused s n
      | none => (gone s p.toNat, ⟨ofNat ((p.toNat - s.done.length) + (s.done.length - p.toNat)), []⟩)).1
    split
    · exact G
    · rename_i h
      obtain ⟨h1, h⟩ := first_none.mp h
      exact good_gone G (by cases q : s.group with
        | none => rfl
        | some g => rw [q] at h1; cases h1) _
  | strike k =>
    show Good (match first [(s.group.isSome, -11), (!(decide (0 ≤ k) && decide (k < ofNat s.done.length)), -3), ((applyAll s.base (without s.done k.toNat).flatten).isNone, -15)] with
      | some n => refused s n
      | none => ({ s with done := without s.done k.toNat, undone := [] }, ⟨0, []⟩)).1
    split
    · exact G
    · rename_i h
      obtain ⟨h1, h⟩ := first_none.mp h
      obtain ⟨h2, h⟩ := first_none.mp h
      obtain ⟨h3, h⟩ := first_none.mp h
      exact good_struck G (by cases q : s.group with
        | none => rfl
        | some g => rw [q] at h1; cases h1) _ (by
        cases q : applyAll s.base (without s.done k.toNat).flatten with
        | none => rw [q] at h3; cases h3
        | some d => rfl)
  | _ => exact G
theorem step_good {s : State} (G : Good s) (c : Call) : Good (Vanbkd.step s c).1 := by
  cases c <;> first | exact edit_good G _ | exact history_good G _ | exact G
end CM
namespace CM
open Vanbkd
theorem calls_eq (l : List Int) : PyVanbkd.calls l = (PyFlat.calls PyVanbkd.shape l.length l).map fun cs => cs.map PyVanbkd.whole := by
  unfold PyVanbkd.calls
  cases PyFlat.calls PyVanbkd.shape l.length l <;> rfl
theorem told_cons (a : List Int) (r : List (List Int)) : PyFlat.told (a :: r) = ((a.length : Int) :: a) ++ PyFlat.told r := by
  unfold PyFlat.told
  rw [List.flatMap_cons]
theorem row_some {r x s : List Int} (h : PyFlat.row r = some (x, s)) : ∃ (n : Int) (r' : List Int), r = n :: r' ∧ 0 ≤ n ∧ n.toNat ≤ r'.length ∧ x = r'.take n.toNat ∧ s = r'.drop n.toNat := by
  cases r with
  | nil => cases h
  | cons n r' =>
    rw [PyFlat.row] at h
    split at h
    · rename_i q
      cases h
      exact ⟨n, r', rfl, q.1, q.2, rfl, rfl⟩
    · cases h
theorem rows_succ {k : Nat} {r t : List Int} {xs : List (List Int)} (h : PyFlat.rows (k + 1) r = some (xs, t)) : ∃ x s ys, PyFlat.row r = some (x, s) ∧ PyFlat.rows k s = some (ys, t) ∧ xs = x :: ys := by
  unfold PyFlat.rows at h
  cases q : PyFlat.row r with
  | none => rw [q] at h; cases h
  | some z =>
    obtain ⟨x, s⟩ := z
    rw [q] at h
    dsimp only at h
    cases q2 : PyFlat.rows k s with
    | none => rw [q2] at h; cases h
    | some z2 =>
      obtain ⟨ys, t'⟩ := z2
      rw [q2] at h
      cases h
      exact ⟨x, s, ys, rfl, q2, rfl⟩
theorem rows_zero {r t : List Int} {xs : List (List Int)} (h : PyFlat.rows 0 r = some (xs, t)) : xs = [] ∧ t = r := by
  cases h
  exact ⟨rfl, rfl⟩
theorem rows_len : ∀ {k : Nat} {r t : List Int} {xs : List (List Int)}, PyFlat.rows k r = some (xs, t) → xs.length = k
  | 0, _, _, _, h => by rw [(rows_zero h).1]; rfl
  | k + 1, _, _, _, h => by
    obtain ⟨x, s, ys, _, h2, rfl⟩ := rows_succ h
    rw [List.length_cons, rows_len h2]
theorem call_some {p : Int} {r t : List Int} {c : List (List Int)} (h : PyFlat.call PyVanbkd.shape (p :: r) = some (c, t)) :
    ∃ n k xs, PyVanbkd.shape p = some (n, k) ∧ n ≤ r.length ∧ PyFlat.rows k (r.drop n) = some (xs, t) ∧ c = (p :: r.take n) :: xs := by
  rw [PyFlat.call] at h
  cases q : PyVanbkd.shape p with
  | none => rw [q] at h; cases h
  | some z =>
    obtain ⟨n, k⟩ := z
    rw [q] at h
    dsimp only at h
    split at h
    · cases h
    · rename_i hl
      cases q2 : PyFlat.rows k (r.drop n) with
      | none => rw [q2] at h; cases h
      | some z2 =>
        obtain ⟨xs, t'⟩ := z2
        rw [q2] at h
        cases h
        exact ⟨n, k, xs, rfl, by omega, q2, rfl⟩
theorem calls_cons {f : Nat} {p : Int} {r : List Int} {cs : List (List (List Int))} (h : PyFlat.calls PyVanbkd.shape f (p :: r) = some cs) :
    ∃ c t cs', PyFlat.call PyVanbkd.shape (p :: r) = some (c, t) ∧ (∃ f', PyFlat.calls PyVanbkd.shape f' t = some cs') ∧ cs = c :: cs' := by
  cases f with
  | zero => cases h
  | succ f =>
    unfold PyFlat.calls at h
    cases q : PyFlat.call PyVanbkd.shape (p :: r) with
    | none => rw [q] at h; cases h
    | some z =>
      obtain ⟨c, t⟩ := z
      rw [q] at h
      dsimp only at h
      cases q2 : PyFlat.calls PyVanbkd.shape f t with
      | none => rw [q2] at h; cases h
      | some cs' =>
        rw [q2] at h
        cases h
        exact ⟨c, t, cs', rfl, ⟨f, q2⟩, rfl⟩
theorem calls_nil {f : Nat} {cs : List (List (List Int))} (h : PyFlat.calls PyVanbkd.shape f [] = some cs) : cs = [] := by
  cases f <;> cases h <;> rfl
theorem flatMap_len {α β : Type} {f : α → List β} {k : Nat} : ∀ {l : List α}, (∀ x ∈ l, (f x).length ≤ k) → (l.flatMap f).length ≤ l.length * k
  | [], _ => by simp
  | x :: r, h => by
    have := flatMap_len (l := r) fun y hy => h y (by simp [hy])
    have := h x (by simp)
    rw [List.flatMap_cons, List.length_append, List.length_cons, Nat.add_mul]
    omega
theorem tell_len {d : Doc} (W : WF d) : (VanbkdNeutral.encode (tellDoc d)).length ≤ 5000 := by
  have h : (d.flatMap fun c => ofNat c.number :: markOf c.hidden :: tellText c.text).length ≤ d.length * 203 := flatMap_len fun c hc => by
    have := W.txt c hc
    simp [tellText, nats]
    omega
  have := W.len
  show (_ :: d.flatMap fun c => ofNat c.number :: markOf c.hidden :: tellText c.text).length ≤ 5000
  rw [List.length_cons]
  omega
theorem tellEdit_len {N : Nat} {e : Edit} (E : EOkN N e) : (tellEdit e).length ≤ 403 := by
  have h := E.ok
  cases e <;> simp only [EOk] at h <;> simp [tellEdit, tellText, nats] <;> omega
theorem one_len (n : Int) : (VanbkdNeutral.encode ⟨n, []⟩).length ≤ 5000 := by simp [VanbkdNeutral.encode]
theorem hasI_some {d : Doc} {n : Int} (h : hasI d n = true) : ∃ i c, ixF d n = some i ∧ d[i]? = some c ∧ (c.number : Int) = n ∧ textIn d n.toNat = some c.text := by
  rw [hasI_ix] at h
  cases q : ixF d n with
  | none => rw [q] at h; cases h
  | some i =>
    obtain ⟨c, hc, hn⟩ := ixF_at q
    refine ⟨i, c, rfl, hc, hn, ?_⟩
    unfold textIn
    rw [find_ix, show ((n.toNat : Nat) : Int) = n by omega, q]
    show (d[i]?).map _ = _
    rw [hc]
    rfl
theorem step_len {s : State} (G : Good s) (c : Call) : (VanbkdNeutral.encode (Vanbkd.step s c).2).length ≤ 5000 := by
  have edl : ∀ own e next ans, (VanbkdNeutral.encode (edited s own e next ans).2).length ≤ 5000 := by
    intro own e next ans
    unfold edited
    split
    · exact one_len _
    · split
      · exact one_len _
      · split <;> exact one_len _
  cases c with
  | new a t => exact edl _ _ _ _
  | write n t => exact edl _ _ _ _
  | move n a => exact edl _ _ _ _
  | drop n => exact edl _ _ _ _
  | hide n m => exact edl _ _ _ _
  | split n p => exact edl _ _ _ _
  | join n => exact edl _ _ _ _
  | swap a b => exact edl _ _ _ _
  | replace x y => exact edl _ _ _ _
  | begin =>
    show (VanbkdNeutral.encode (if s.group.isSome = true then refused s (-11) else ({ s with group := some [] }, ⟨0, []⟩)).2).length ≤ 5000
    split <;> exact one_len _
  | close =>
    show (VanbkdNeutral.encode (match s.group with
      | none => refused s (-12)
      | some [] => ({ s with group := none }, ⟨0, []⟩)
      | some g => (added { s with group := none } g, ⟨ofNat g.length, []⟩)).2).length ≤ 5000
    split <;> exact one_len _
  | cancel =>
    show (VanbkdNeutral.encode (match s.group with
      | none => refused s (-12)
      | some g => ({ s with group := none }, ⟨ofNat g.length, []⟩)).2).length ≤ 5000
    split <;> exact one_len _
  | undo =>
    show (VanbkdNeutral.encode (match first [(s.group.isSome, -11), (s.done.isEmpty, -13)] with
      | some n => refused s n
      | none => (gone s (s.done.length - 1), ⟨ofNat (s.done.length - 1), []⟩)).2).length ≤ 5000
    split <;> exact one_len _
  | redo =>
    show (VanbkdNeutral.encode (match first [(s.group.isSome, -11), (s.undone.isEmpty, -14)] with
      | some n => refused s n
      | none => (gone s (s.done.length + 1), ⟨ofNat (s.undone.length - 1), []⟩)).2).length ≤ 5000
    split <;> exact one_len _
  | to p =>
    show (VanbkdNeutral.encode (match first [(s.group.isSome, -11), (!upTo p (history s).length, -3)] with
      | some n => refused s n
      | none => (gone s p.toNat, ⟨ofNat ((p.toNat - s.done.length) + (s.done.length - p.toNat)), []⟩)).2).length ≤ 5000
    split <;> exact one_len _
  | strike k =>
    show (VanbkdNeutral.encode (match first [(s.group.isSome, -11), (!(decide (0 ≤ k) && decide (k < ofNat s.done.length)), -3), ((applyAll s.base (without s.done k.toNat).flatten).isNone, -15)] with
      | some n => refused s n
      | none => ({ s with done := without s.done k.toNat, undone := [] }, ⟨0, []⟩)).2).length ≤ 5000
    split <;> exact one_len _
  | whole => exact tell_len G.doc.2.wf
  | text n =>
    show (VanbkdNeutral.encode (if hasI (doc s) n = true then ⟨ofNat (lengthOf (doc s) n), nats ((textIn (doc s) n.toNat).getD [])⟩ else ⟨-1, []⟩)).length ≤ 5000
    split
    · rename_i h
      obtain ⟨i, c, _, hc, _, ht⟩ := hasI_some h
      have := G.doc.2.wf.txt c (List.mem_of_getElem? hc)
      rw [ht]
      simp [VanbkdNeutral.encode, nats]
      omega
    · exact one_len _
  | at_ p =>
    show (VanbkdNeutral.encode (if upTo p (history s).length = true then tellDoc (docAt s p.toNat) else ⟨-3, []⟩)).length ≤ 5000
    split
    · exact tell_len (G.at_ _).2.wf
    · exact one_len _
  | state => show (_ :: [_, _, _, _, _]).length ≤ 5000; simp
  | step k =>
    show (VanbkdNeutral.encode (match (if k < 0 then none else (history s)[k.toNat]?) with
      | some l => ⟨ofNat l.length, l.flatMap tellEdit⟩
      | none => ⟨-3, []⟩)).length ≤ 5000
    split
    · rename_i l hl
      split at hl
      · cases hl
      · have S := G.he l (List.mem_of_getElem? hl)
        have h : (l.flatMap tellEdit).length ≤ l.length * 403 := flatMap_len fun e he => tellEdit_len (S.ok e he)
        have := S.len
        show (_ :: l.flatMap tellEdit).length ≤ 5000
        rw [List.length_cons]
        omega
    · exact one_len _
  | changed p q =>
    show (VanbkdNeutral.encode (if (upTo p (history s).length && upTo q (history s).length) = true then
      let l := differences (docAt s p.toNat) (docAt s q.toNat)
      ⟨ofNat l.length, l.flatMap fun x => [ofNat x.1, ofNat x.2]⟩ else ⟨-3, []⟩)).length ≤ 5000
    split
    · have h : ((differences (docAt s p.toNat) (docAt s q.toNat)).flatMap fun x => [ofNat x.1, ofNat x.2]).length ≤ (differences (docAt s p.toNat) (docAt s q.toNat)).length * 2 := flatMap_len fun x _ => by simp
      have hd : (differences (docAt s p.toNat) (docAt s q.toNat)).length ≤ 24 := by
        have h1 := (G.at_ p.toNat).2.wf.len
        have h2 := (G.at_ q.toNat).2.wf.len
        unfold differences
        rw [List.length_append, List.length_map]
        exact Nat.le_trans (Nat.add_le_add (List.length_filterMap_le _ _) (List.length_filter_le _ _)) (by omega)
      show (_ :: ((differences (docAt s p.toNat) (docAt s q.toNat)).flatMap fun x => [ofNat x.1, ofNat x.2])).length ≤ 5000
      rw [List.length_cons]
      omega
    · exact one_len _
  | blame n =>
    show (VanbkdNeutral.encode (if hasI (doc s) n = true then ⟨ofNat (blameIn n.toNat 0 (past s) 0), []⟩ else ⟨-1, []⟩)).length ≤ 5000
    split <;> exact one_len _
  | find x =>
    show (VanbkdNeutral.encode (if bytes x = false then ⟨-4, []⟩ else if x.isEmpty = true then ⟨-17, []⟩ else
      let l := (doc s).flatMap fun c => (found (textOf x) c.text).map fun p => (c.number, p)
      ⟨ofNat l.length, l.flatMap fun z => [ofNat z.1, ofNat z.2]⟩)).length ≤ 5000
    split
    · exact one_len _
    · split
      · exact one_len _
      · have W := G.doc.2.wf
        have h1 : ((doc s).flatMap fun c => (found (textOf x) c.text).map fun p => (c.number, p)).length ≤ (doc s).length * 200 := flatMap_len fun c hc => by
          rw [List.length_map]
          exact Nat.le_trans (found_len _ _) (W.txt c hc)
        have h2 : (((doc s).flatMap fun c => (found (textOf x) c.text).map fun p => (c.number, p)).flatMap fun z => [ofNat z.1, ofNat z.2]).length ≤ _ * 2 := flatMap_len fun z _ => by simp
        have := W.len
        show (_ :: (((doc s).flatMap fun c => (found (textOf x) c.text).map fun p => (c.number, p)).flatMap fun z => [ofNat z.1, ofNat z.2])).length ≤ 5000
        rw [List.length_cons]
        omega
end CM
namespace CM
open Vanbkd
def numC : Call → Int
  | .new .. => 0 | .write .. => 1 | .move .. => 2 | .drop _ => 3 | .hide .. => 4 | .split .. => 5 | .join _ => 6 | .swap .. => 7 | .replace .. => 8
  | .begin => 9 | .close => 10 | .cancel => 11 | .undo => 12 | .redo => 13 | .to _ => 14 | .strike _ => 15 | .whole => 16 | .text _ => 17 | .at_ _ => 18
  | .state => 19 | .step _ => 20 | .changed .. => 21 | .blame _ => 22 | .find _ => 23
def whC : Call → List Int
  | .new a _ => [a] | .write n _ => [n] | .move n a => [n, a] | .drop n => [n] | .hide n m => [n, m] | .split n p => [n, p] | .join n => [n] | .swap a b => [a, b] | .replace .. => []
  | .to p => [p] | .strike k => [k] | .text n => [n] | .at_ p => [p] | .step k => [k] | .changed p q => [p, q] | .blame n => [n]
  | _ => []
def rowC : Call → List (List Int)
  | .new _ t => [t] | .write _ t => [t] | .replace x y => [x, y] | .find x => [x] | _ => []
def encC (k : Call) : List (List Int) := (numC k :: whC k) :: rowC k
theorem l0 {α : Type} {l : List α} (h : l.length = 0) : l = [] := List.length_eq_zero_iff.mp h
theorem l1 {α : Type} {l : List α} (h : l.length = 1) : ∃ a, l = [a] := match l, h with | [a], _ => ⟨a, rfl⟩
theorem l2 {α : Type} {l : List α} (h : l.length = 2) : ∃ a b, l = [a, b] := match l, h with | [a, b], _ => ⟨a, b, rfl⟩
structure Shaped (k : Call) : Prop where
  whole : PyVanbkd.whole (encC k) = encC k
  callOf : VanbkdNeutral.callOf (encC k) = some k
  rows : VanbkdNeutral.asked1 (encC k) = true → ∀ r ∈ rowC k, r.length ≤ 400
theorem row1 {b c : Bool} {l r : List Int} (h : (b && (c && decide (l.length ≤ 400))) = true) (hr : r ∈ [l]) : r.length ≤ 400 := by
  rw [List.mem_singleton.mp hr]
  rw [Bool.and_eq_true, Bool.and_eq_true, decide_eq_true_eq] at h
  exact h.2.2
theorem row1' {c : Bool} {l r : List Int} (h : (c && decide (l.length ≤ 400)) = true) (hr : r ∈ [l]) : r.length ≤ 400 := by
  rw [List.mem_singleton.mp hr]
  rw [Bool.and_eq_true, decide_eq_true_eq] at h
  exact h.2
theorem row2 {b c : Bool} {l m r : List Int} (h : ((b && decide (l.length ≤ 400)) && (c && decide (m.length ≤ 400))) = true) (hr : r ∈ [l, m]) : r.length ≤ 400 := by
  rw [Bool.and_eq_true, Bool.and_eq_true, Bool.and_eq_true, decide_eq_true_eq, decide_eq_true_eq] at h
  rcases List.mem_cons.mp hr with z | z
  · rw [z]; exact h.1.2
  · rw [List.mem_singleton.mp z]; exact h.2.2
theorem noRow {r : List Int} (h : r ∈ ([] : List (List Int))) : r.length ≤ 400 := by cases h
theorem shaped_k (k : Call) : Shaped k := by
  cases k with
  | new a t => exact ⟨rfl, rfl, fun h r hr => row1 h hr⟩
  | write a t => exact ⟨rfl, rfl, fun h r hr => row1 h hr⟩
  | replace x y => exact ⟨rfl, rfl, fun h r hr => row2 h hr⟩
  | find x => exact ⟨rfl, rfl, fun h r hr => row1' h hr⟩
  | _ => exact ⟨rfl, rfl, fun h r hr => noRow hr⟩
theorem shaped_call {p : Int} {ws : List Int} {xs : List (List Int)} {nw nr : Nat} (h : PyVanbkd.shape p = some (nw, nr)) (hw : ws.length = nw) (hx : xs.length = nr) : ∃ k, (p :: ws) :: xs = encC k := by
  have w0r0 : (0, 0) = (nw, nr) → ws = [] ∧ xs = [] := fun e => by cases e; exact ⟨l0 hw, l0 hx⟩
  have w1r0 : (1, 0) = (nw, nr) → (∃ a, ws = [a]) ∧ xs = [] := fun e => by cases e; exact ⟨l1 hw, l0 hx⟩
  have w2r0 : (2, 0) = (nw, nr) → (∃ a b, ws = [a, b]) ∧ xs = [] := fun e => by cases e; exact ⟨l2 hw, l0 hx⟩
  have w1r1 : (1, 1) = (nw, nr) → (∃ a, ws = [a]) ∧ ∃ t, xs = [t] := fun e => by cases e; exact ⟨l1 hw, l1 hx⟩
  have w0r2 : (0, 2) = (nw, nr) → ws = [] ∧ ∃ x y, xs = [x, y] := fun e => by cases e; exact ⟨l0 hw, l2 hx⟩
  have w0r1 : (0, 1) = (nw, nr) → ws = [] ∧ ∃ x, xs = [x] := fun e => by cases e; exact ⟨l0 hw, l1 hx⟩
  have step : ∀ {n : Int} {a b : Option (Nat × Nat)} {P : Prop}, (if p = n then a else b) = some (nw, nr) → (p = n → a = some (nw, nr) → P) → (b = some (nw, nr) → P) → P := fun h h1 h2 => by
    split at h
    · rename_i e; exact h1 e h
    · exact h2 h
  unfold PyVanbkd.shape at h
  refine step h (fun e q => ?_) fun h => ?_
  · obtain ⟨⟨a, rfl⟩, t, rfl⟩ := w1r1 (Option.some.inj q); exact ⟨.new a t, by rw [e]; rfl⟩
  refine step h (fun e q => ?_) fun h => ?_
  · obtain ⟨⟨a, rfl⟩, t, rfl⟩ := w1r1 (Option.some.inj q); exact ⟨.write a t, by rw [e]; rfl⟩
  refine step h (fun e q => ?_) fun h => ?_
  · obtain ⟨⟨a, b, rfl⟩, rfl⟩ := w2r0 (Option.some.inj q); exact ⟨.move a b, by rw [e]; rfl⟩
  refine step h (fun e q => ?_) fun h => ?_
  · obtain ⟨⟨a, rfl⟩, rfl⟩ := w1r0 (Option.some.inj q); exact ⟨.drop a, by rw [e]; rfl⟩
  refine step h (fun e q => ?_) fun h => ?_
  · obtain ⟨⟨a, b, rfl⟩, rfl⟩ := w2r0 (Option.some.inj q); exact ⟨.hide a b, by rw [e]; rfl⟩
  refine step h (fun e q => ?_) fun h => ?_
  · obtain ⟨⟨a, b, rfl⟩, rfl⟩ := w2r0 (Option.some.inj q); exact ⟨.split a b, by rw [e]; rfl⟩
  refine step h (fun e q => ?_) fun h => ?_
  · obtain ⟨⟨a, rfl⟩, rfl⟩ := w1r0 (Option.some.inj q); exact ⟨.join a, by rw [e]; rfl⟩
  refine step h (fun e q => ?_) fun h => ?_
  · obtain ⟨⟨a, b, rfl⟩, rfl⟩ := w2r0 (Option.some.inj q); exact ⟨.swap a b, by rw [e]; rfl⟩
  refine step h (fun e q => ?_) fun h => ?_
  · obtain ⟨rfl, x, y, rfl⟩ := w0r2 (Option.some.inj q); exact ⟨.replace x y, by rw [e]; rfl⟩
  refine step h (fun e q => ?_) fun h => ?_
  · obtain ⟨rfl, rfl⟩ := w0r0 (Option.some.inj q); exact ⟨.begin, by rw [e]; rfl⟩
  refine step h (fun e q => ?_) fun h => ?_
  · obtain ⟨rfl, rfl⟩ := w0r0 (Option.some.inj q); exact ⟨.close, by rw [e]; rfl⟩
  refine step h (fun e q => ?_) fun h => ?_
  · obtain ⟨rfl, rfl⟩ := w0r0 (Option.some.inj q); exact ⟨.cancel, by rw [e]; rfl⟩
  refine step h (fun e q => ?_) fun h => ?_
  · obtain ⟨rfl, rfl⟩ := w0r0 (Option.some.inj q); exact ⟨.undo, by rw [e]; rfl⟩
  refine step h (fun e q => ?_) fun h => ?_
  · obtain ⟨rfl, rfl⟩ := w0r0 (Option.some.inj q); exact ⟨.redo, by rw [e]; rfl⟩
  refine step h (fun e q => ?_) fun h => ?_
  · obtain ⟨⟨a, rfl⟩, rfl⟩ := w1r0 (Option.some.inj q); exact ⟨.to a, by rw [e]; rfl⟩
  refine step h (fun e q => ?_) fun h => ?_
  · obtain ⟨⟨a, rfl⟩, rfl⟩ := w1r0 (Option.some.inj q); exact ⟨.strike a, by rw [e]; rfl⟩
  refine step h (fun e q => ?_) fun h => ?_
  · obtain ⟨rfl, rfl⟩ := w0r0 (Option.some.inj q); exact ⟨.whole, by rw [e]; rfl⟩
  refine step h (fun e q => ?_) fun h => ?_
  · obtain ⟨⟨a, rfl⟩, rfl⟩ := w1r0 (Option.some.inj q); exact ⟨.text a, by rw [e]; rfl⟩
  refine step h (fun e q => ?_) fun h => ?_
  · obtain ⟨⟨a, rfl⟩, rfl⟩ := w1r0 (Option.some.inj q); exact ⟨.at_ a, by rw [e]; rfl⟩
  refine step h (fun e q => ?_) fun h => ?_
  · obtain ⟨rfl, rfl⟩ := w0r0 (Option.some.inj q); exact ⟨.state, by rw [e]; rfl⟩
  refine step h (fun e q => ?_) fun h => ?_
  · obtain ⟨⟨a, rfl⟩, rfl⟩ := w1r0 (Option.some.inj q); exact ⟨.step a, by rw [e]; rfl⟩
  refine step h (fun e q => ?_) fun h => ?_
  · obtain ⟨⟨a, b, rfl⟩, rfl⟩ := w2r0 (Option.some.inj q); exact ⟨.changed a b, by rw [e]; rfl⟩
  refine step h (fun e q => ?_) fun h => ?_
  · obtain ⟨⟨a, rfl⟩, rfl⟩ := w1r0 (Option.some.inj q); exact ⟨.blame a, by rw [e]; rfl⟩
  refine step h (fun e q => ?_) fun h => ?_
  · obtain ⟨rfl, x, rfl⟩ := w0r1 (Option.some.inj q); exact ⟨.find x, by rw [e]; rfl⟩
  · cases h
end CM
namespace CM
open Vanbkd
def docsOf (s : State) : List Doc := (List.range ((history s).length + 1)).map (docAt s)
theorem docsOf_len (s : State) : (docsOf s).length = (history s).length + 1 := by simp [docsOf]
theorem docsOf_at {s : State} {p : Nat} (h : p ≤ (history s).length) : (docsOf s)[p]? = some (docAt s p) := by
  unfold docsOf
  rw [List.getElem?_map, List.getElem?_range (by omega)]
  rfl
def alongD (b : Doc) (l : List (List Edit)) : List Doc := (List.range (l.length + 1)).map fun p => (applyAll b (l.take p).flatten).getD b
theorem docsOf_along (s : State) : docsOf s = alongD s.base (history s) := rfl
theorem along_len (b : Doc) (l : List (List Edit)) : (alongD b l).length = l.length + 1 := by simp [alongD]
theorem along_at {b : Doc} {l : List (List Edit)} {p : Nat} (h : p ≤ l.length) : (alongD b l)[p]? = some ((applyAll b (l.take p).flatten).getD b) := by
  unfold alongD
  rw [List.getElem?_map, List.getElem?_range (by omega)]
  rfl
theorem along_snoc (b : Doc) (l : List (List Edit)) (e : List Edit) : alongD b (l ++ [e]) = alongD b l ++ [(applyAll b (l.flatten ++ e)).getD b] := by
  apply List.ext_getElem?
  intro p
  by_cases h1 : p ≤ l.length
  · rw [along_at (by simp; omega), List.getElem?_append_left (by rw [along_len]; omega), along_at h1, List.take_append_of_le_length h1]
  · rw [List.getElem?_append_right (by rw [along_len]; omega), along_len]
    by_cases h2 : p = l.length + 1
    · subst h2
      rw [along_at (by simp), List.take_of_length_le (by simp), flat_snoc]
      simp
    · rw [List.getElem?_eq_none (by rw [along_len]; simp; omega), List.getElem?_eq_none (by simp; omega)]
theorem along_take (b : Doc) (l : List (List Edit)) (k : Nat) (h : k ≤ l.length) : (alongD b l).take (k + 1) = alongD b (l.take k) := by
  apply List.ext_getElem?
  intro p
  by_cases h1 : p ≤ k
  · rw [List.getElem?_take_of_lt (by omega), along_at (by omega), along_at (by simp; omega), List.take_take, show min p k = p by omega]
  · rw [List.getElem?_take_eq_none (by omega), List.getElem?_eq_none (by rw [along_len]; simp; omega)]
theorem along_drop {b c : Doc} {l : List (List Edit)} {e : List Edit} (h : applyAll b e = some c) (hs : (applyAll b (e ++ l.flatten)).isSome = true) : (alongD b (e :: l)).drop 1 = alongD c l := by
  apply List.ext_getElem?
  intro p
  rw [List.getElem?_drop]
  by_cases h1 : p ≤ l.length
  · rw [along_at (by simp; omega), along_at h1, show 1 + p = p + 1 by omega, List.take_succ_cons, List.flatten_cons, all_app, h]
    have hp : (applyAll c (l.take p).flatten).isSome = true := by
      rw [all_app, h] at hs
      have hs' : (applyAll c l.flatten).isSome = true := hs
      rw [← List.take_append_drop p l, List.flatten_append] at hs'
      exact all_pre hs'
    cases q : applyAll c (l.take p).flatten with
    | none => rw [q] at hp; cases hp
    | some d =>
      show some ((Option.bind (some c) _).getD b) = _
      show some ((applyAll c (l.take p).flatten).getD b) = _
      rw [q]
      rfl
  · rw [List.getElem?_eq_none (by rw [along_len]; simp; omega), List.getElem?_eq_none (by rw [along_len]; omega)]
theorem hist_added (s : State) (e : List Edit) : history (added s e) = if s.done.length + 1 ≤ 20 then s.done ++ [e] else (s.done ++ [e]).drop 1 := by
  unfold added history
  dsimp only
  by_cases h : (s.done ++ [e]).length ≤ STEPS
  · rw [if_pos h, if_pos (by simp [STEPS] at h; omega)]
    simp
  · rw [if_neg h, if_neg (by simp [STEPS] at h; omega)]
    simp
theorem done_added (s : State) (e : List Edit) : (added s e).done = if s.done.length + 1 ≤ 20 then s.done ++ [e] else (s.done ++ [e]).drop 1 := by
  unfold added
  dsimp only
  by_cases h : (s.done ++ [e]).length ≤ STEPS
  · rw [if_pos h, if_pos (by simp [STEPS] at h; omega)]
  · rw [if_neg h, if_neg (by simp [STEPS] at h; omega)]
theorem forg_added (s : State) (e : List Edit) : (added s e).forgotten = if s.done.length + 1 ≤ 20 then s.forgotten else s.forgotten + 1 := by
  unfold added
  dsimp only
  by_cases h : (s.done ++ [e]).length ≤ STEPS
  · rw [if_pos h, if_pos (by simp [STEPS] at h; omega)]
  · rw [if_neg h, if_neg (by simp [STEPS] at h; omega)]
theorem next_added (s : State) (e : List Edit) : (added s e).next = s.next ∧ (added s e).group = s.group := by
  unfold added
  dsimp only
  split <;> exact ⟨rfl, rfl⟩
theorem docs_added {s : State} {e : List Edit} {d : Doc} (h : applyAll s.base (s.done.flatten ++ e) = some d) :
    docsOf (added s e) = if s.done.length + 1 ≤ 20 then (docsOf s).take (s.done.length + 1) ++ [d] else ((docsOf s).take (s.done.length + 1) ++ [d]).drop 1 := by
  have e1 : (docsOf s).take (s.done.length + 1) ++ [d] = alongD s.base (s.done ++ [e]) := by
    rw [along_snoc, h, docsOf_along, along_take _ _ _ (by simp [history])]
    congr 2
    simp [history]
  rw [e1]
  by_cases q : s.done.length + 1 ≤ 20
  · rw [if_pos q, docsOf_along, hist_added, if_pos q]
    unfold added
    dsimp only
    rw [if_pos (by simp [STEPS]; omega)]
  · rw [if_neg q, docsOf_along, hist_added, if_neg q]
    unfold added
    dsimp only
    rw [if_neg (by simp [STEPS]; omega)]
    dsimp only
    cases hc : s.done ++ [e] with
    | nil => simp at hc
    | cons x r =>
      have hh : applyAll s.base (x ++ r.flatten) = some d := by
        have : (s.done ++ [e]).flatten = x ++ r.flatten := by rw [hc]; rfl
        rw [← this, flat_snoc]
        exact h
      have hx : (applyAll s.base x).isSome = true := all_pre (b := r.flatten) (by rw [hh]; rfl)
      cases qx : applyAll s.base x with
      | none => rw [qx] at hx; cases hx
      | some c =>
        rw [along_drop qx (by rw [hh]; rfl)]
        have : replay s [x] = c := by
          unfold replay
          rw [show ([x] : List (List Edit)).flatten = x by simp, qx]
          rfl
        show alongD (replay s [x]) r = _
        rw [this]
theorem docs_gone (s : State) (p : Nat) : docsOf (gone s p) = docsOf s ∧ history (gone s p) = history s := by
  have h : history (gone s p) = history s := by
    unfold gone history
    exact List.take_append_drop p _
  refine ⟨?_, h⟩
  rw [docsOf_along, docsOf_along, h]
  rfl
theorem doc_put {s : State} {e : Edit} {d : Doc} {N : Nat} (G : Good s) (h : apply (doc s) e = some d) : doc { put s e with next := N } = d := by
  have hd := G.doc.1
  cases hg : s.group with
  | some g =>
    have ho : open_ s = g := by simp [open_, hg]
    unfold put
    rw [hg]
    show (applyAll s.base (s.done.flatten ++ (g ++ [e]))).getD s.base = d
    rw [← List.append_assoc, all_app, ← ho, hd]
    show (applyAll (doc s) [e]).getD s.base = d
    rw [all_one, h]
    rfl
  | none =>
    have ho : open_ s = [] := by simp [open_, hg]
    rw [ho, List.append_nil] at hd
    have ha : applyAll s.base (s.done.flatten ++ [e]) = some d := by
      rw [all_app, hd]
      show applyAll (doc s) [e] = some d
      rw [all_one, h]
    unfold put
    rw [hg]
    show doc { added s [e] with next := N } = d
    have key : doc (added s [e]) = d := by
      have e2 := docs_added ha
      have hl : (docsOf (added s [e]))[(history (added s [e])).length]? = some d := by
        rw [e2, hist_added]
        have lt : ((docsOf s).take (s.done.length + 1)).length = s.done.length + 1 := by
          rw [List.length_take, docsOf_len]
          simp [history]
        by_cases q : s.done.length + 1 ≤ 20
        · rw [if_pos q, if_pos q, List.length_append, List.length_singleton, List.getElem?_append_right (by omega), lt]
          simp
        · rw [if_neg q, if_neg q, List.getElem?_drop, List.length_drop, List.length_append, List.length_singleton, List.getElem?_append_right (by omega), lt, show 1 + (s.done.length + 1 - 1) - (s.done.length + 1) = 0 by omega]
          rfl
      rw [docsOf_at (Nat.le_refl _)] at hl
      have hl' := Option.some.inj hl
      rw [← hl']
      have hh : history (added s [e]) = (added s [e]).done := by rw [hist_added, done_added]
      unfold docAt replay doc
      rw [hh, List.take_length]
      have : open_ (added s [e]) = [] := by
        unfold open_
        rw [(next_added s [e]).2, hg]
        rfl
      rw [this, List.append_nil]
    rw [← key]
    rfl
end CM
namespace CM
open Vanbkd
theorem doc_added {s : State} {e : List Edit} {d : Doc} (hg : s.group = none) (ha : applyAll s.base (s.done.flatten ++ e) = some d) : doc (added s e) = d := by
  have e2 := docs_added ha
  have hl : (docsOf (added s e))[(history (added s e)).length]? = some d := by
    rw [e2, hist_added]
    have lt : ((docsOf s).take (s.done.length + 1)).length = s.done.length + 1 := by
      rw [List.length_take, docsOf_len]
      simp [history]
    by_cases q : s.done.length + 1 ≤ 20
    · rw [if_pos q, if_pos q, List.length_append, List.length_singleton, List.getElem?_append_right (by omega), lt]
      simp
    · rw [if_neg q, if_neg q, List.getElem?_drop, List.length_drop, List.length_append, List.length_singleton, List.getElem?_append_right (by omega), lt, show 1 + (s.done.length + 1 - 1) - (s.done.length + 1) = 0 by omega]
      rfl
  rw [docsOf_at (Nat.le_refl _)] at hl
  have hl' := Option.some.inj hl
  rw [← hl']
  have hh : history (added s e) = (added s e).done := by rw [hist_added, done_added]
  unfold docAt replay doc
  rw [hh, List.take_length]
  have : open_ (added s e) = [] := by
    unfold open_
    rw [(next_added s e).2, hg]
    rfl
  rw [this, List.append_nil]
theorem doneLen_added (s : State) (e : List Edit) : (added s e).done.length = if s.done.length + 1 ≤ 20 then s.done.length + 1 else s.done.length := by
  rw [done_added]
  split
  · simp
  · simp
theorem take_done (s : State) : (history s).take s.done.length = s.done := by
  unfold history
  simp
theorem along_split {b c : Doc} {A L : List (List Edit)} (ha : applyAll b A.flatten = some c) (hs : (applyAll c L.flatten).isSome = true) : alongD b (A ++ L) = (alongD b A).take A.length ++ alongD c L := by
  apply List.ext_getElem?
  intro p
  by_cases hp : p < A.length
  · rw [along_at (by rw [List.length_append]; omega), List.getElem?_append_left (by rw [List.length_take, along_len]; omega), List.getElem?_take, if_pos hp, along_at (by omega), List.take_append_of_le_length (by omega)]
  · have lt : ((alongD b A).take A.length).length = A.length := by rw [List.length_take, along_len]; omega
    rw [List.getElem?_append_right (by omega), lt]
    by_cases hq : p ≤ A.length + L.length
    · rw [along_at (by rw [List.length_append]; omega), along_at (by omega)]
      rw [show (A ++ L).take p = A ++ L.take (p - A.length) by rw [List.take_append, List.take_of_length_le (by omega)], List.flatten_append, all_app, ha]
      show some ((applyAll c (L.take (p - A.length)).flatten).getD b) = some ((applyAll c (L.take (p - A.length)).flatten).getD c)
      have : (applyAll c (L.take (p - A.length)).flatten).isSome = true := by
        rw [← List.take_append_drop (p - A.length) L, List.flatten_append] at hs
        exact all_pre hs
      cases q : applyAll c (L.take (p - A.length)).flatten with
      | none => rw [q] at this; cases this
      | some x => rfl
    · rw [List.getElem?_eq_none (by rw [along_len, List.length_append]; omega), List.getElem?_eq_none (by rw [along_len]; omega)]
def struck (s : State) (i : Nat) : State := { s with done := without s.done i, undone := [] }
theorem later_eq {s : State} {i : Nat} (h : i < s.done.length) : ((history s).drop (i + 1)).take (s.done.length - (i + 1)) = s.done.drop (i + 1) := by
  unfold history
  rw [List.drop_append_of_le_length (by omega), List.take_append_of_le_length (by rw [List.length_drop]; omega), List.take_of_length_le (by rw [List.length_drop]; omega)]
theorem front_eq {s : State} {i : Nat} (h : i < s.done.length) : (history s).take i = s.done.take i := by
  unfold history
  rw [List.take_append_of_le_length (by omega)]
theorem struck_all {s : State} (G : Good s) {i : Nat} (h : i < s.done.length) : applyAll s.base (without s.done i).flatten = applyAll (docAt s i) (s.done.drop (i + 1)).flatten := by
  have := (G.at_ i).1
  rw [front_eq h] at this
  unfold without
  rw [List.flatten_append, all_app, this]
  rfl
theorem struck_hist {s : State} {i : Nat} (h : i < s.done.length) : history (struck s i) = (history s).take i ++ s.done.drop (i + 1) := by
  rw [front_eq h]
  show without s.done i ++ [] = _
  rw [List.append_nil]
  rfl
theorem struck_docs {s : State} (G : Good s) {i : Nat} (h : i < s.done.length) (hs : (applyAll (docAt s i) (s.done.drop (i + 1)).flatten).isSome = true) : docsOf (struck s i) = (docsOf s).take i ++ alongD (docAt s i) (s.done.drop (i + 1)) := by
  rw [docsOf_along, struck_hist h]
  show alongD s.base ((history s).take i ++ s.done.drop (i + 1)) = _
  have hl : i ≤ (history s).length := by unfold history; rw [List.length_append]; omega
  rw [along_split (G.at_ i).1 hs, docsOf_along]
  congr 1
  rw [← along_take _ _ _ hl, List.take_take, List.length_take]
  congr 1
  omega
theorem good_none {s : State} (G : Good s) : Good { s with group := none } := by
  have h : (applyAll s.base s.done.flatten).isSome = true := by
    have := G.gt
    exact all_pre this
  refine ⟨G.wb, G.he, fun z hz => (by simp [open_] at hz), (by simp [open_]), G.hl, G.ht, ?_, G.n1, G.n2⟩
  show (applyAll s.base (s.done.flatten ++ [])).isSome = true
  rw [List.append_nil]
  exact h
end CM
namespace CM
open Vanbkd PySem
def eInts (t : List Int) : PyData := .tuple (t.map PyData.int)
def eText (t : Text) : PyData := eInts (nats t)
def eCell (c : Cell) : PyData := .tuple [.int (ofNat c.number), .int (markOf c.hidden), eText c.text]
def eDoc (d : Doc) : PyData := .tuple (d.map eCell)
def eEdit : Edit → PyData
  | .make n a t => .tuple [.int 0, .int (ofNat n), .int (ofNat a), eText t]
  | .write n t => .tuple [.int 1, .int (ofNat n), eText t]
  | .move n a => .tuple [.int 2, .int (ofNat n), .int (ofNat a)]
  | .drop n => .tuple [.int 3, .int (ofNat n)]
  | .hide n h => .tuple [.int 4, .int (ofNat n), .int (markOf h)]
  | .split n p m => .tuple [.int 5, .int (ofNat n), .int (ofNat p), .int (ofNat m)]
  | .join n => .tuple [.int 6, .int (ofNat n)]
  | .swap a b => .tuple [.int 7, .int (ofNat a), .int (ofNat b)]
  | .replace x y => .tuple [.int 8, eText x, eText y]
def eStep (l : List Edit) : PyData := .tuple (l.map eEdit)
def eOpt : Option Doc → PyData
  | none => .none
  | some d => eDoc d
theorem eqv_ints : ∀ (a b : List Int), PyData.eqvAll (a.map PyData.int) (b.map PyData.int) = decide (a = b)
  | [], [] => by simp [PyData.eqvAll]
  | [], _ :: _ => by simp [PyData.eqvAll]
  | _ :: _, [] => by simp [PyData.eqvAll]
  | x :: a, y :: b => by
    rw [List.map_cons, List.map_cons, PyData.eqvAll, eqv_ints a b, PyData.eqv]
    by_cases h : x = y <;> by_cases g : a = b <;> simp [h, g]
theorem eqv_int2 (a b : List Int) : PyData.eqv (eInts a) (eInts b) = decide (a = b) := by
  unfold eInts
  rw [PyData.eqv]
  exact eqv_ints a b
theorem nats_inj {a b : List Nat} : nats a = nats b ↔ a = b := by
  unfold nats
  constructor
  · intro h
    exact List.map_inj_right (fun x y e => by unfold ofNat at e; omega) |>.mp h
  · intro h; rw [h]
theorem eqv_text (a b : Text) : PyData.eqv (eText a) (eText b) = decide (a = b) := by
  unfold eText
  rw [eqv_int2]
  exact decide_eq_decide.mpr nats_inj
theorem mark_inj {a b : Bool} : markOf a = markOf b ↔ a = b := by cases a <;> cases b <;> decide
theorem eqv_cell (c e : Cell) : PyData.eqv (eCell c) (eCell e) = decide (c = e) := by
  unfold eCell
  rw [PyData.eqv, PyData.eqvAll, PyData.eqvAll, PyData.eqvAll, PyData.eqvAll, eqv_text, PyData.eqv, PyData.eqv]
  obtain ⟨n, h, t⟩ := c
  obtain ⟨m, g, u⟩ := e
  dsimp only
  rw [Bool.and_true]
  by_cases h1 : n = m <;> by_cases h2 : h = g <;> by_cases h3 : t = u <;> simp [h1, h2, h3, ofNat, mark_inj] <;> omega
theorem eqv_cells : ∀ (a b : Doc), PyData.eqvAll (a.map eCell) (b.map eCell) = decide (a = b)
  | [], [] => by simp [PyData.eqvAll]
  | [], _ :: _ => by simp [PyData.eqvAll]
  | _ :: _, [] => by simp [PyData.eqvAll]
  | x :: a, y :: b => by
    rw [List.map_cons, List.map_cons, PyData.eqvAll, eqv_cells a b, eqv_cell]
    by_cases h : x = y <;> by_cases g : a = b <;> simp [h, g]
theorem eqv_doc (d e : Doc) : PyData.eqv (eDoc d) (eDoc e) = decide (d = e) := by
  unfold eDoc
  rw [PyData.eqv]
  exact eqv_cells d e
theorem lay_ints : ∀ l : List Int, PyData.canLayAll0 (l.map PyData.int) = true
  | [] => by simp [PyData.canLayAll0]
  | x :: r => by simp [PyData.canLayAll0, PyData.canLay0, lay_ints r]
theorem lay_cells : ∀ l : Doc, PyData.canLayAll0 (l.map eCell) = true
  | [] => by simp [PyData.canLayAll0]
  | x :: r => by simp [PyData.canLayAll0, PyData.canLay0, lay_cells r, eCell, eText, eInts, lay_ints]
theorem dep_ints : ∀ l : List Int, PyData.depthAll (l.map PyData.int) ≤ 1
  | [] => by simp [PyData.depthAll]
  | x :: r => by
    have := dep_ints r
    simp only [List.map_cons, PyData.depthAll, PyData.depth]
    omega
theorem dep_cells : ∀ l : Doc, PyData.depthAll (l.map eCell) ≤ 5
  | [] => by simp [PyData.depthAll]
  | x :: r => by
    have h1 := dep_cells r
    have h2 := dep_ints (nats x.text)
    simp only [List.map_cons, PyData.depthAll, PyData.depth, eCell, eText, eInts] at *
    omega
theorem shaped_ints (t : List Int) : SeqAt.shaped (eInts t) = true := by
  have h := dep_ints t
  unfold SeqAt.shaped eInts
  rw [Bool.and_eq_true]
  refine ⟨by simp [PyData.canLay0, lay_ints], decide_eq_true ?_⟩
  simp only [PyData.depth]
  omega
theorem shaped_doc (d : Doc) : SeqAt.shaped (eDoc d) = true := by
  have h := dep_cells d
  unfold SeqAt.shaped eDoc
  rw [Bool.and_eq_true]
  refine ⟨by simp [PyData.canLay0, lay_cells], decide_eq_true ?_⟩
  simp only [PyData.depth]
  omega
end CM
namespace CP
open PySem PySem.Spec PyProof.Rows L2 CM
open Vanbkd (Doc Cell Text Edit ofNat nats markOf)
theorem ub1 {C : Value → Value → Value → Option Addr → Value → Value → List Value → Prop} {p0 : Str} (h : ∀ a b c d e f x0, C a b c d e f [x0] := by intros; rfl) (a b : Value) (c : Value) (d : Option Addr) (e f : Value) (us : List Value) (hl : us.length = [p0].length) : C a b c d e f us := match us, hl with | [x0], _ => h a b c d e f x0
theorem ub2 {C : Value → Value → Value → Option Addr → Value → Value → List Value → Prop} {p0 p1 : Str} (h : ∀ a b c d e f x0 x1, C a b c d e f [x0, x1] := by intros; rfl) (a b : Value) (c : Value) (d : Option Addr) (e f : Value) (us : List Value) (hl : us.length = [p0, p1].length) : C a b c d e f us := match us, hl with | [x0, x1], _ => h a b c d e f x0 x1
theorem ub3 {C : Value → Value → Value → Option Addr → Value → Value → List Value → Prop} {p0 p1 p2 : Str} (h : ∀ a b c d e f x0 x1 x2, C a b c d e f [x0, x1, x2] := by intros; rfl) (a b : Value) (c : Value) (d : Option Addr) (e f : Value) (us : List Value) (hl : us.length = [p0, p1, p2].length) : C a b c d e f us := match us, hl with | [x0, x1, x2], _ => h a b c d e f x0 x1 x2
theorem ub4 {C : Value → Value → Value → Option Addr → Value → Value → List Value → Prop} {p0 p1 p2 p3 : Str} (h : ∀ a b c d e f x0 x1 x2 x3, C a b c d e f [x0, x1, x2, x3] := by intros; rfl) (a b : Value) (c : Value) (d : Option Addr) (e f : Value) (us : List Value) (hl : us.length = [p0, p1, p2, p3].length) : C a b c d e f us := match us, hl with | [x0, x1, x2, x3], _ => h a b c d e f x0 x1 x2 x3
theorem scM {N P : List Str} {sc : Scope} (a : sc.kind = .function := by rfl) (b : sc.isCoroutine = false := by rfl) (c : sc.isGenerator = false := by rfl) (d : N.Nodup := by decide +kernel) (e : N.take P.length = P := by rfl) (f : ∀ x ∈ P, sc.names.lookup x = some .local ∨ sc.names.lookup x = some .cell := by decide +kernel) (g : ∀ y ∈ sc.names, y.2 ≠ .free := by decide +kernel) : FnScope N P sc := ⟨a, b, c, d, e, f, g⟩
variable {K : PySem.W.Frag} {H H' : Hp} {v : V}
theorem tupds_ints : ∀ l : List Int, tupds (l.map PyData.int) = true
  | [] => by simp [tupds]
  | x :: r => by simp [tupds, tupd, tupds_ints r]
theorem tupd_ints (l : List Int) : tupd (eInts l) = true := by simp [eInts, tupd, tupds_ints]
theorem tupd_text (t : Text) : tupd (eText t) = true := tupd_ints _
theorem tupd_cell (c : Cell) : tupd (eCell c) = true := by simp [eCell, tupd, tupds, tupd_text]
theorem tupds_cells : ∀ d : Doc, tupds (d.map eCell) = true
  | [] => by simp [tupds]
  | x :: r => by simp [tupds, tupd_cell, tupds_cells r]
theorem tupd_doc (d : Doc) : tupd (eDoc d) = true := by simp [eDoc, tupd, tupds_cells]
theorem tupd_edit (e : Edit) : tupd (eEdit e) = true := by cases e <;> simp [eEdit, tupd, tupds, tupd_text]
theorem tupds_edits : ∀ l : List Edit, tupds (l.map eEdit) = true
  | [] => by simp [tupds]
  | x :: r => by simp [tupds, tupd_edit, tupds_edits r]
theorem tupd_step (l : List Edit) : tupd (eStep l) = true := by simp [eStep, tupd, tupds_edits]
theorem ints_iff {l : List Int} : Dp K H v (eInts l) ↔ ∃ a, v = .ref a ∧ SqT K H a (l.map V.int) := by
  constructor
  · intro h
    cases h with
    | tup hs ha => exact ⟨_, rfl, by rw [DpAll.ints.mp ha] at hs; exact hs⟩
  · rintro ⟨a, rfl, hs⟩
    exact .tup hs (DpAll.ints.mpr rfl)
theorem text_iff {t : Text} : Dp K H v (eText t) ↔ ∃ a, v = .ref a ∧ SqT K H a ((nats t).map V.int) := ints_iff
theorem cell_iff {c : Cell} : Dp K H v (eCell c) ↔ ∃ a u, v = .ref a ∧ SqT K H a [.int (ofNat c.number), .int (markOf c.hidden), u] ∧ Dp K H u (eText c.text) := by
  constructor
  · intro h
    cases h with
    | tup hs ha =>
      cases ha with
      | cons h1 h2 =>
        cases h1
        cases h2 with
        | cons h3 h4 =>
          cases h3
          cases h4 with
          | cons h5 h6 =>
            cases h6
            exact ⟨_, _, rfl, hs, h5⟩
  · rintro ⟨a, u, rfl, hs, h⟩
    exact .tup hs (.cons (.int _) (.cons (.int _) (.cons h .nil)))
theorem doc_iff {d : Doc} : Dp K H v (eDoc d) ↔ ∃ a xs, v = .ref a ∧ SqT K H a xs ∧ DpAll K H xs (d.map eCell) := by
  constructor
  · intro h
    cases h with
    | tup hs ha => exact ⟨_, _, rfl, hs, ha⟩
  · rintro ⟨a, xs, rfl, hs, ha⟩
    exact .tup hs ha
theorem dp_tup {ds : List PyData} : Dp K H v (.tuple ds) ↔ ∃ a xs, v = .ref a ∧ SqT K H a xs ∧ DpAll K H xs ds := by
  constructor
  · intro h
    cases h with
    | tup hs ha => exact ⟨_, _, rfl, hs, ha⟩
  · rintro ⟨a, xs, rfl, hs, ha⟩
    exact .tup hs ha
theorem dpa_cons {xs : List V} {d : PyData} {ds : List PyData} : DpAll K H xs (d :: ds) ↔ ∃ v vs, xs = v :: vs ∧ Dp K H v d ∧ DpAll K H vs ds := by
  constructor
  · intro h
    cases h with
    | cons h1 h2 => exact ⟨_, _, rfl, h1, h2⟩
  · rintro ⟨v, vs, rfl, h1, h2⟩
    exact .cons h1 h2
theorem dpa_nil {xs : List V} : DpAll K H xs [] ↔ xs = [] := by
  constructor
  · intro h
    cases h
    rfl
  · rintro rfl
    exact .nil
theorem dp_int {i : Int} : Dp K H v (.int i) ↔ v = .int i := by
  constructor
  · intro h
    cases h
    rfl
  · rintro rfl
    exact .int i
theorem dp_none : Dp K H v .none ↔ v = .non := by
  constructor
  · intro h
    cases h
    rfl
  · rintro rfl
    exact .non
theorem Dp.same {d : PyData} (e : Same H H') (q : tupd d = true) (h : Dp K H v d) : Dp K H' v d := Dp.keep e.keep d v q h
theorem DpAll.same {vs : List V} {ds : List PyData} (e : Same H H') (q : tupds ds = true) (h : DpAll K H vs ds) : DpAll K H' vs ds := Dp.keepAll e.keep ds vs q h
theorem cut_to (xs : List V) (i : Nat) : cutV xs none (some (i : Int)) = xs.take i := by
  unfold cutV
  rw [HT.sIx_none, HT.sIx_nat, Nat.sub_zero, List.drop_zero]
  by_cases h : i ≤ xs.length
  · rw [Nat.min_eq_left h]
  · rw [Nat.min_eq_right (by omega), List.take_of_length_le (Nat.le_refl _), List.take_of_length_le (by omega)]
theorem cut_from (xs : List V) (i : Nat) : cutV xs (some (i : Int)) none = xs.drop i := by
  unfold cutV
  rw [HT.sIx_none, HT.sIx_nat]
  by_cases h : i ≤ xs.length
  · rw [Nat.min_eq_left h, List.take_of_length_le (by rw [List.length_drop]; omega)]
  · rw [Nat.min_eq_right (by omega), List.drop_of_length_le (Nat.le_refl _), List.drop_of_length_le (by omega), List.take_nil]
theorem cut_mid' (xs : List V) (i j : Nat) (h : i ≤ j) : cutV xs (some (i : Int)) (some (j : Int)) = (xs.drop i).take (j - i) := by
  unfold cutV
  rw [HT.sIx_nat, HT.sIx_nat]
  by_cases h1 : j ≤ xs.length
  · rw [Nat.min_eq_left (show i ≤ xs.length by omega), Nat.min_eq_left h1]
  · by_cases h2 : i ≤ xs.length
    · rw [Nat.min_eq_left h2, Nat.min_eq_right (show xs.length ≤ j by omega), List.take_of_length_le (by rw [List.length_drop]; omega), List.take_of_length_le (by rw [List.length_drop]; omega)]
    · rw [Nat.min_eq_right (show xs.length ≤ i by omega), Nat.min_eq_right (show xs.length ≤ j by omega), List.drop_of_length_le (Nat.le_refl _), List.drop_of_length_le (by omega), List.take_nil, List.take_nil]
theorem cut_mid (xs : List V) (i j : Nat) : cutV xs (some (i : Int)) (some (j : Int)) = (xs.drop i).take (j - i) := by
  by_cases h : i ≤ j
  · exact cut_mid' xs i j h
  · unfold cutV
    rw [HT.sIx_nat, HT.sIx_nat, show min j xs.length - min i xs.length = 0 by omega, show j - i = 0 by omega, List.take_zero, List.take_zero]
structure Top (K : PySem.W.Frag) (mg : Str → Option Value) (x : Str) (st : Stmt) : Prop where
  ex : ∃ f fd, Fun K x x st f fd ∧ mg x = some (.ref f)
theorem Top.at_ {P : Program} {w : World} {mg : Str → Option Value} {base : Heap} {x : Str} {st : Stmt} {k : Nat} {ps : List Str} {sp : Sp} (T : Top K mg x st)
    (hb : ∀ (kV doc pm : Value) (an : Option Addr) (cdv ct : Value) (us : List Value), us.length = ps.length → bindArgs (PySem.W.fnOf x x (defArgs st) (defBody st) (defScope st) .none kV doc pm an cdv ct) ⟨us, []⟩ = pure (ps.zip us))
    (h : ∀ f fd, Fun K x x st f fd → FnOk P w K mg base CX0 k f fd ps sp) : FnAt P w K mg base x k ps sp := by
  obtain ⟨f, fd, F, hm⟩ := T.ex
  exact ⟨f, fd, h f fd F, hm, F.kp, F.binds hb⟩
end CP
namespace CP
open PySem PySem.Spec PyProof.Rows L2 CM
def top (i : Nat) : Stmt := PySem.Challenge.pw_cellpad_s01_answers.main.body.getD i (.Pass ⟨0, 0, 0, 0⟩)
structure Txt (mg : Str → Option Value) : Prop where
  b_len : mg "len" = none
  b_sum : mg "sum" = none
  b_any : mg "any" = none
  b_all : mg "all" = none
  b_max : mg "max" = none
  b_tuple : mg "tuple" = none
  b_list : mg "list" = none
  b_range : mg "range" = none
  b_enumerate : mg "enumerate" = none
  b_abs : mg "abs" = none
  b_isinstance : mg "isinstance" = none
structure Nums (mg : Str → Option Value) : Prop where
  c_MOST_CELLS : ∃ t, mg "MOST_CELLS" = some (.int 12 t)
  c_LONGEST_TEXT : ∃ t, mg "LONGEST_TEXT" = some (.int 200 t)
  c_GREATEST_BYTE : ∃ t, mg "GREATEST_BYTE" = some (.int 255 t)
  c_MAKE : ∃ t, mg "MAKE" = some (.int 0 t)
  c_SPLIT : ∃ t, mg "SPLIT" = some (.int 5 t)
  c_JOIN : ∃ t, mg "JOIN" = some (.int 6 t)
  c_REPLACE : ∃ t, mg "REPLACE" = some (.int 8 t)
  c_NOT_REFUSED : ∃ t, mg "NOT_REFUSED" = some (.int 0 t)
  c_NO_CELL : ∃ t, mg "NO_CELL" = some (.int (-1) t)
  c_BAD_AFTER : ∃ t, mg "BAD_AFTER" = some (.int (-2) t)
  c_OUT_OF_RANGE : ∃ t, mg "OUT_OF_RANGE" = some (.int (-3) t)
  c_NO_BYTE : ∃ t, mg "NO_BYTE" = some (.int (-4) t)
  c_TOO_LONG : ∃ t, mg "TOO_LONG" = some (.int (-5) t)
  c_TOO_MANY_CELLS : ∃ t, mg "TOO_MANY_CELLS" = some (.int (-6) t)
  c_NO_CHANGE : ∃ t, mg "NO_CHANGE" = some (.int (-7) t)
  c_BAD_PLACE : ∃ t, mg "BAD_PLACE" = some (.int (-8) t)
  c_NONE_BEHIND : ∃ t, mg "NONE_BEHIND" = some (.int (-9) t)
  c_GROUP_FULL : ∃ t, mg "GROUP_FULL" = some (.int (-10) t)
  c_GROUP_IS_OPEN : ∃ t, mg "GROUP_IS_OPEN" = some (.int (-11) t)
  c_NO_GROUP : ∃ t, mg "NO_GROUP" = some (.int (-12) t)
  c_NOTHING_DONE : ∃ t, mg "NOTHING_DONE" = some (.int (-13) t)
  c_NOTHING_UNDONE : ∃ t, mg "NOTHING_UNDONE" = some (.int (-14) t)
  c_NOT_STRUCK : ∃ t, mg "NOT_STRUCK" = some (.int (-15) t)
  c_NUMBERS_USED_UP : ∃ t, mg "NUMBERS_USED_UP" = some (.int (-16) t)
  c_EMPTY_TEXT : ∃ t, mg "EMPTY_TEXT" = some (.int (-17) t)
  c_BAD_MARK : ∃ t, mg "BAD_MARK" = some (.int (-18) t)
  c_GREATEST_NUMBER : ∃ t, mg "GREATEST_NUMBER" = some (.int 99 t)
  c_MOST_DONE : ∃ t, mg "MOST_DONE" = some (.int 20 t)
  c_MOST_EDITS : ∃ t, mg "MOST_EDITS" = some (.int 10 t)
  c_NO_DIFFERENCE : ∃ t, mg "NO_DIFFERENCE" = some (.int 0 t)
  c_AT_P_ALONE : ∃ t, mg "AT_P_ALONE" = some (.int 1 t)
  c_AT_Q_ALONE : ∃ t, mg "AT_Q_ALONE" = some (.int 2 t)
  c_OTHER_TEXT : ∃ t, mg "OTHER_TEXT" = some (.int 3 t)
  c_OTHER_MARK : ∃ t, mg "OTHER_MARK" = some (.int 4 t)
  c_OTHER_TEXT_AND_MARK : ∃ t, mg "OTHER_TEXT_AND_MARK" = some (.int 5 t)
  c_FIRST_GROUPING : ∃ t, mg "FIRST_GROUPING" = some (.int 9 t)
  c_FIRST_TRAVEL : ∃ t, mg "FIRST_TRAVEL" = some (.int 12 t)
  c_FIRST_TELLING : ∃ t, mg "FIRST_TELLING" = some (.int 16 t)
abbrev Nums3 := Nums
abbrev s_are_bytes : Stmt := top 4
abbrev s_number_of : Stmt := top 5
abbrev s_mark_of : Stmt := top 6
abbrev s_text_of : Stmt := top 7
abbrev s_index_of : Stmt := top 8
abbrev s_has_cell : Stmt := top 9
abbrev s_with_cells : Stmt := top 10
abbrev s_put_behind : Stmt := top 11
abbrev s_places_found : Stmt := top 12
abbrev s_count_found : Stmt := top 13
abbrev s_text_replaced : Stmt := top 14
abbrev s_do_make : Stmt := top 20
abbrev s_do_write : Stmt := top 21
abbrev s_do_move : Stmt := top 22
abbrev s_do_drop : Stmt := top 23
abbrev s_do_hide : Stmt := top 24
abbrev s_do_split : Stmt := top 25
abbrev s_do_join : Stmt := top 26
abbrev s_do_swap : Stmt := top 27
abbrev s_do_replace : Stmt := top 28
abbrev s_do_edit : Stmt := top 30
abbrev s_do_edits : Stmt := top 31
abbrev s_refuse_text : Stmt := top 53
abbrev s_refuse_cell : Stmt := top 54
abbrev s_refuse_one_more : Stmt := top 55
abbrev s_refuse_new : Stmt := top 56
abbrev s_refuse_write : Stmt := top 57
abbrev s_refuse_move : Stmt := top 58
abbrev s_refuse_drop : Stmt := top 59
abbrev s_refuse_hide : Stmt := top 60
abbrev s_refuse_split : Stmt := top 61
abbrev s_refuse_join : Stmt := top 62
abbrev s_refuse_swap : Stmt := top 63
abbrev s_refuse_replace : Stmt := top 64
abbrev s_makes_cell : Stmt := top 66
abbrev s_edit_of : Stmt := top 67
abbrev s_answer_of : Stmt := top 68
abbrev s_answer_edit : Stmt := top 69
abbrev s_answer_begin : Stmt := top 71
abbrev s_answer_end : Stmt := top 72
abbrev s_answer_cancel : Stmt := top 73
abbrev s_answer_grouping : Stmt := top 75
abbrev s_History_init : Stmt := inClass (top 78) 0
abbrev s_History_present : Stmt := inClass (top 78) 1
abbrev s_History_count_undone : Stmt := inClass (top 78) 2
abbrev s_History_has_position : Stmt := inClass (top 78) 3
abbrev s_History_go_to : Stmt := inClass (top 78) 4
abbrev s_History_add_step : Stmt := inClass (top 78) 5
abbrev s_History_forget_step : Stmt := inClass (top 78) 6
abbrev s_History_strike_step : Stmt := inClass (top 78) 7
abbrev s_Pad_init : Stmt := inClass (top 81) 0
abbrev s_Pad_has_group : Stmt := inClass (top 81) 1
abbrev s_Pad_group_is_full : Stmt := inClass (top 81) 2
abbrev s_Pad_take_edit : Stmt := inClass (top 81) 3
abbrev s_Pad_use_number : Stmt := inClass (top 81) 4
abbrev s_Pad_begin_group : Stmt := inClass (top 81) 5
abbrev s_Pad_end_group : Stmt := inClass (top 81) 6
abbrev s_Pad_go_to : Stmt := inClass (top 81) 7
abbrev s_Pad_strike_step : Stmt := inClass (top 81) 8
abbrev s_Pad_cancel_group : Stmt := inClass (top 81) 9
abbrev s_Reader_init : Stmt := inClass (top 85) 0
abbrev s_Reader_is_behind : Stmt := inClass (top 85) 1
abbrev s_Reader_take_whole : Stmt := inClass (top 85) 2
abbrev s_Reader_take_row : Stmt := inClass (top 85) 3
abbrev s_Reader_take_arguments : Stmt := inClass (top 85) 4
abbrev s_tell_text : Stmt := top 93
abbrev s_tell_document : Stmt := top 94
abbrev s_tell_edit : Stmt := top 95
abbrev s_tell_pairs : Stmt := top 96
abbrev s_text_in : Stmt := top 97
abbrev s_answer_whole : Stmt := top 98
abbrev s_answer_text : Stmt := top 99
abbrev s_answer_at : Stmt := top 100
abbrev s_answer_state : Stmt := top 101
abbrev s_answer_step : Stmt := top 102
abbrev s_difference : Stmt := top 103
abbrev s_answer_changed : Stmt := top 104
abbrev s_answer_blame : Stmt := top 105
abbrev s_answer_find : Stmt := top 106
abbrev s_answer_telling : Stmt := top 108
abbrev s_answer_undo : Stmt := top 110
abbrev s_answer_redo : Stmt := top 111
abbrev s_answer_to : Stmt := top 112
abbrev s_answer_strike : Stmt := top 113
abbrev s_answer_travel : Stmt := top 115
abbrev s_answer_call : Stmt := top 120
abbrev s_answers : Stmt := top 121
end CP
namespace CP
open PySem PySem.Spec PyProof.Rows L2 CM
def Chg : Option HO → Prop
  | some (.ins _ _ _) => True
  | some (.lst _) => True
  | _ => False
def Only (F : List Addr) (H H' : Hp) : Prop := ∀ b o, H b = some o → b ∉ F → H' b = some o
theorem Only.of {F : List Addr} {H H' : Hp} (e : Same H H') : Only F H H' := fun b o h _ => e b o h
theorem Only.refl {F : List Addr} {H : Hp} : Only F H H := fun _ _ h _ => h
theorem Only.trans {F : List Addr} {H H1 H2 : Hp} (a : Only F H H1) (b : Only F H1 H2) : Only F H H2 := fun c o h n => b c o (a c o h n) n
theorem Only.set {F : List Addr} {H : Hp} {a : Addr} {o : HO} (h : a ∈ F) : Only F H (upd H a o) := fun b u e n => by
  have hb : b ≠ a := fun z => n (by rw [z]; exact h)
  rw [upd_ne hb]
  exact e
theorem Only.mono {F G : List Addr} {H H' : Hp} (a : Only F H H') (h : ∀ b ∈ F, b ∈ G) : Only G H H' := fun c o e n => a c o e fun z => n (h c z)
theorem Only.free {F : List Addr} {H H' : Hp} {b : Addr} (a : Only F H H') (h : H' b = none) (n : b ∉ F) : H b = none := by
  cases q : H b with
  | none => rfl
  | some o => rw [a b o q n] at h; cases h
theorem Only.keep {F : List Addr} {H H' : Hp} (a : Only F H H') (c : ∀ b ∈ F, Chg (H b)) : TKeep H H' := by
  refine ⟨fun b xs h => a b _ h fun z => ?_, fun b o u h => a b _ h fun z => ?_⟩
  · have := c b z
    rw [h] at this
    exact this
  · have := c b z
    rw [h] at this
    exact this
theorem Dp.only {K : PySem.W.Frag} {F : List Addr} {H H' : Hp} {v : V} {d : PyData} (a : Only F H H') (c : ∀ b ∈ F, Chg (H b)) (q : tupd d = true) (h : Dp K H v d) : Dp K H' v d := Dp.keep (a.keep c) d v q h
theorem DpAll.only {K : PySem.W.Frag} {F : List Addr} {H H' : Hp} {vs : List V} {ds : List PyData} (a : Only F H H') (c : ∀ b ∈ F, Chg (H b)) (q : tupds ds = true) (h : DpAll K H vs ds) : DpAll K H' vs ds := Dp.keepAll (a.keep c) ds vs q h
structure MTop (K : PySem.W.Frag) (C : Addr) (m qual : Str) (st : Stmt) : Prop where
  ex : ∃ f fd, Fun K m qual st f fd ∧ Meth K C m f
theorem MTop.at_ {P : Program} {w : World} {K : PySem.W.Frag} {mg : Str → Option Value} {base : Heap} {C : Addr} {m qual : Str} {st : Stmt} {k : Nat} {ps : List Str} {sp : Sp} (T : MTop K C m qual st)
    (hb : ∀ (kV doc pm : Value) (an : Option Addr) (cdv ct : Value) (us : List Value), us.length = ps.length → bindArgs (PySem.W.fnOf m qual (defArgs st) (defBody st) (defScope st) .none kV doc pm an cdv ct) ⟨us, []⟩ = pure (ps.zip us))
    (h : ∀ f fd, Fun K m qual st f fd → FnOk P w K mg base CX0 k f fd ps sp) : MethAt P w K mg base C m k ps sp := by
  obtain ⟨f, fd, F, hm⟩ := T.ex
  exact ⟨f, fd, h f fd F, hm, F.binds hb⟩
structure ITop (K : PySem.W.Frag) (mg : Str → Option Value) (C : Addr) (x qual : Str) (st : Stmt) : Prop where
  ex : ∃ f fd, Fun K "__init__" qual st f fd ∧ Mk K C f
  mg : mg x = some (.ref C)
theorem ITop.at_ {P : Program} {w : World} {K : PySem.W.Frag} {mg : Str → Option Value} {base : Heap} {C : Addr} {x qual : Str} {st : Stmt} {k : Nat} {ps : List Str} {sp : Sp} (T : ITop K mg C x qual st)
    (hb : ∀ (kV doc pm : Value) (an : Option Addr) (cdv ct : Value) (us : List Value), us.length = ps.length → bindArgs (PySem.W.fnOf "__init__" qual (defArgs st) (defBody st) (defScope st) .none kV doc pm an cdv ct) ⟨us, []⟩ = pure (ps.zip us))
    (h : ∀ f fd, Fun K "__init__" qual st f fd → FnOk P w K mg base CX0 k f fd ps sp) : MakeAt P w K mg base C x k ps sp := by
  obtain ⟨f, fd, F, hm⟩ := T.ex
  exact ⟨f, fd, hm, h f fd F, T.mg, F.binds hb⟩
def rTupA (K : PySem.W.Frag) : List V → Hp → VK → Prop := fun xs H Q => ∃ p ys, xs = [.ref p] ∧ (SqL K H p ys ∨ SqT K H p ys) ∧ ∀ r H', Same H H' → SqT K H' r ys → Q (.ref r) H'
theorem call_tupleA {X : Cx} : CallR X (.type "tuple") (rTupA X.K) := by
  intro pins s σ H xs us Q I r h
  obtain ⟨p, ys, rfl, hq, q⟩ := h
  refine call_tuple_of pins s σ H _ us Q I r ⟨p, ys, rfl, ?_⟩
  rcases hq with hq | hq
  · exact .inl ⟨hq, fun l hl => q l _ (Same.upd hl) (SqT.of upd_same)⟩
  · exact .inr ⟨hq, q p H (Same.refl H) hq⟩
theorem nil2 {α : Type} {a : α} (h : a ∈ ([] : List α)) : False := by cases h
end CP
namespace CP
open PySem PySem.Spec PyProof.Rows L2 CM
open Vanbkd (Doc Cell Text Edit ofNat nats markOf found replaced)
def spNum (K : PySem.W.Frag) : Sp := fun vs H Q _ => ∃ v c, vs = [v] ∧ Dp K H v (eCell c) ∧ Q (.int (ofNat c.number)) H
def spMark (K : PySem.W.Frag) : Sp := fun vs H Q _ => ∃ v c, vs = [v] ∧ Dp K H v (eCell c) ∧ Q (.int (markOf c.hidden)) H
def spText (K : PySem.W.Frag) : Sp := fun vs H Q _ => ∃ v c, vs = [v] ∧ Dp K H v (eCell c) ∧ ∀ u, Dp K H u (eText c.text) → Q u H
def spIndex (K : PySem.W.Frag) : Sp := fun vs H Q _ => ∃ v d n, vs = [v, .int n] ∧ Dp K H v (eDoc d) ∧ ∀ H', Same H H' → Q (.int (ixI d n)) H'
def spHas (K : PySem.W.Frag) : Sp := fun vs H Q _ => ∃ v d n, vs = [v, .int n] ∧ Dp K H v (eDoc d) ∧ ∀ H', Same H H' → Q (.bl (ixF d n).isSome) H'
def spWith (K : PySem.W.Frag) : Sp := fun vs H Q _ => ∃ (v u : V) (d cs : Doc) (i k : Nat), vs = [v, .int (i : Int), .int (k : Int), u] ∧ Dp K H v (eDoc d) ∧ Dp K H u (eDoc cs) ∧ d.length + d.length + cs.length ≤ 1000 ∧
  ∀ p H', Same H H' → Dp K H' p (eDoc (withC d i k cs)) → Q p H'
section
variable {P : Program} {w : World} {K : PySem.W.Frag} {mg : Str → Option Value} {base : Heap}
theorem sc_number_of : FnScope ["cell"] ["cell"] (defScope s_number_of) := scM
theorem ok_number_of (F : Top K mg "number_of" s_number_of) : FnAt P w K mg base "number_of" 1 ["cell"] (spNum K) := by
  refine F.at_ ub1 fun f fd F => F.ok (k := 0) sc_number_of (fun vs H Q E h => ?_) (fun cdv A outer s H vs Q E hr h => ?_)
  · obtain ⟨v, c, rfl, _⟩ := h
    rfl
  · obtain ⟨v, c, rfl, hc, k⟩ := h
    obtain ⟨a, u, rfl, hs, hu⟩ := cell_iff.mp hc
    refine ⟨_, (pss_one (ps_ret (pe_ix ix_tup (pv 0) pe_int (fun _ _ => rfl)))), ?_⟩
    exact ⟨_, rfl, a, _, 0, _, rfl, rfl, hs, rfl, k⟩
theorem sc_mark_of : FnScope ["cell"] ["cell"] (defScope s_mark_of) := scM
theorem ok_mark_of (F : Top K mg "mark_of" s_mark_of) : FnAt P w K mg base "mark_of" 1 ["cell"] (spMark K) := by
  refine F.at_ ub1 fun f fd F => F.ok (k := 0) sc_mark_of (fun vs H Q E h => ?_) (fun cdv A outer s H vs Q E hr h => ?_)
  · obtain ⟨v, c, rfl, _⟩ := h
    rfl
  · obtain ⟨v, c, rfl, hc, k⟩ := h
    obtain ⟨a, u, rfl, hs, hu⟩ := cell_iff.mp hc
    refine ⟨_, (pss_one (ps_ret (pe_ix ix_tup (pv 0) pe_int (fun _ _ => rfl)))), ?_⟩
    exact ⟨_, rfl, a, _, 1, _, rfl, rfl, hs, rfl, k⟩
theorem sc_text_of : FnScope ["cell"] ["cell"] (defScope s_text_of) := scM
theorem ok_text_of (F : Top K mg "text_of" s_text_of) : FnAt P w K mg base "text_of" 1 ["cell"] (spText K) := by
  refine F.at_ ub1 fun f fd F => F.ok (k := 0) sc_text_of (fun vs H Q E h => ?_) (fun cdv A outer s H vs Q E hr h => ?_)
  · obtain ⟨v, c, rfl, _⟩ := h
    rfl
  · obtain ⟨v, c, rfl, hc, k⟩ := h
    obtain ⟨a, u, rfl, hs, hu⟩ := cell_iff.mp hc
    refine ⟨_, (pss_one (ps_ret (pe_ix ix_tup (pv 0) pe_int (fun _ _ => rfl)))), ?_⟩
    exact ⟨_, rfl, a, _, 2, _, rfl, rfl, hs, rfl, k u hu⟩
theorem ixF_step {d : Doc} {n : Int} : ∀ {i : Nat} {c : Cell}, ixF (d.take i) n = none → d[i]? = some c → (c.number : Int) = n → ixF d n = some i := by
  induction d with
  | nil => intro i c _ h; simp at h
  | cons x r ih =>
    intro i c h1 h2 h3
    cases i with
    | zero =>
      have : x = c := by simpa using h2
      subst this
      simp [ixF, h3]
    | succ j =>
      rw [List.take_succ_cons] at h1
      unfold ixF at h1 ⊢
      split at h1
      · cases h1
      · rename_i hx
        rw [if_neg hx, ih (i := j) (c := c) (by
          cases q : ixF (r.take j) n with
          | none => rfl
          | some k => rw [q] at h1; cases h1) (by simpa using h2) h3]
        rfl
theorem ixF_more {d : Doc} {n : Int} {i : Nat} {c : Cell} (h1 : ixF (d.take i) n = none) (h2 : d[i]? = some c) (h3 : ¬ (c.number : Int) = n) : ixF (d.take (i + 1)) n = none := by
  cases q : ixF (d.take (i + 1)) n with
  | none => rfl
  | some k =>
    obtain ⟨x, hx, hn⟩ := ixF_at q
    exfalso
    rw [List.take_add_one, h2] at hx
    have hm := List.mem_of_getElem? hx
    rcases List.mem_append.mp hm with hm | hm
    · exact ixF_none h1 x hm hn
    · have : x = c := by simpa using hm
      rw [this] at hn
      exact h3 hn
theorem sc_index_of : FnScope ["document", "number", "index", "cell"] ["document", "number"] (defScope s_index_of) := scM
theorem ok_index_of (T : Txt mg) (F : Top K mg "index_of" s_index_of) (F_number_of : FnAt P w K mg base "number_of" 1 ["cell"] (spNum K)) : FnAt P w K mg base "index_of" 2 ["document", "number"] (spIndex K) := by
  refine F.at_ ub2 fun f fd F => F.ok (k := 1) sc_index_of (fun vs H Q E h => ?_) (fun cdv A outer s H vs Q E hr h => ?_)
  · obtain ⟨v, d, n, rfl, _⟩ := h
    rfl
  · obtain ⟨v, d, n, rfl, hd, k⟩ := h
    obtain ⟨a, xs, rfl, hs, hx⟩ := doc_iff.mp hd
    have SC := sc_index_of
    refine ⟨_, (pss_cons (ps_for PassesOwn.never rfl (pi_enumT rfl T.b_enumerate (pa_cons (pv 0) pa_nil)) (pg_tup rfl (pgs_cons (pg_name (i := 2) SC.nd rfl (Or.inl rfl)) (pgs_cons (pg_name (i := 3) SC.nd rfl (Or.inl rfl)) pgs_nil))) (pss_one (ps_if (pt_cmpR op_eq (pe_fn F_number_of (hr.mono (by decide)) rfl (pa_cons (pv 3) pa_nil)) (pv 1) (nomark _)) (pss_one (ps_ret (pv 2))) pss_nil)))
      (pss_one (ps_ret (pe_un un_neg pe_int)))), ?_⟩
    refine ⟨_, rfl, a, xs, rfl, hs, for_enumT (K := K) (a := a) (xs := xs) (fun i σ H' => ∃ v2 v3, σ = [some (.ref a), some (.int n), v2, v3] ∧ Same H H' ∧ ixF (d.take i) n = none)
      ⟨_, _, rfl, Same.refl H, rfl⟩ (fun i σ H' _ ⟨_, _, _, e, _⟩ => e.tup hs) ?_ ?_⟩
    · rintro i x T' σ H' hi ⟨v2, v3, rfl, e, hn⟩ hT
      obtain ⟨dd, hdd, hc⟩ := DpAll.getV hx hi
      obtain ⟨c, hc0, rfl⟩ : ∃ c, d[i]? = some c ∧ dd = eCell c := by
        rw [List.getElem?_map] at hdd
        cases q : d[i]? with
        | none => rw [q] at hdd; cases hdd
        | some c =>
          rw [q] at hdd
          exact ⟨c, rfl, (Option.some.inj hdd).symm⟩
      have e1 : Same H (upd H' T' (.tup [.int (i : Nat), x])) := e.trans (Same.upd hT)
      refine ⟨T', _, rfl, SqT.of upd_same, rfl, _, _, rfl, _, _, rfl, rfl, ?_⟩
      refine ⟨_, rfl, x, c, rfl, Dp.same e1 (tupd_cell c) hc, _, rfl, rfl, _, rfl, ?_⟩
      refine ite2 (fun hh => ?_) (fun hh => ?_)
      · have hh' : ofNat c.number = n := by
          have := of_decide_eq_true hh
          exact V.int.inj this
        refine ⟨_, rfl, ?_⟩
        have e3 : ixI d n = (i : Int) := ixI_some (ixF_step hn hc0 hh')
        have kk := k _ e1
        rw [e3] at kk
        exact kk
      · have hh' : ¬ (c.number : Int) = n := fun z => hh (decide_eq_true (congrArg V.int z))
        exact ⟨_, _, rfl, e1, ixF_more hn hc0 hh'⟩
    · rintro σ H' ⟨v2, v3, rfl, e, hn⟩
      have hl : xs.length = d.length := by rw [DpAll.length hx, List.length_map]
      rw [hl, List.take_length] at hn
      refine ⟨1, rfl, ?_⟩
      have e3 : ixI d n = -1 := ixI_none hn
      have kk := k _ e
      rw [e3] at kk
      exact kk
theorem has_dec (d : Doc) (n : Int) : decide (0 ≤ ixI d n) = (ixF d n).isSome := by
  cases q : ixF d n with
  | none => rw [ixI_none q]; rfl
  | some i => rw [ixI_some q]; exact decide_eq_true (by omega)
theorem sc_has_cell : FnScope ["document", "number"] ["document", "number"] (defScope s_has_cell) := scM
theorem ok_has_cell (F : Top K mg "has_cell" s_has_cell) (F_index_of : FnAt P w K mg base "index_of" 2 ["document", "number"] (spIndex K)) : FnAt P w K mg base "has_cell" 3 ["document", "number"] (spHas K) := by
  refine F.at_ ub2 fun f fd F => F.ok (k := 2) sc_has_cell (fun vs H Q E h => ?_) (fun cdv A outer s H vs Q E hr h => ?_)
  · obtain ⟨v, d, n, rfl, _⟩ := h
    rfl
  · obtain ⟨v, d, n, rfl, hd, k⟩ := h
    refine ⟨_, (pss_one (ps_ret (pe_cmpR op_ge (pe_fn F_index_of (hr.mono (by decide)) rfl (pa_cons (pv 0) (pa_cons (pv 1) pa_nil))) pe_int (nomark _)))), ?_⟩
    refine ⟨_, rfl, _, rfl, v, d, n, rfl, hd, fun H' e => ⟨_, _, rfl, rfl, ?_⟩⟩
    show Q (.bl (decide (0 ≤ ixI d n))) H'
    rw [has_dec]
    exact k H' e
theorem sc_with_cells : FnScope ["document", "index", "count", "cells"] ["document", "index", "count", "cells"] (defScope s_with_cells) := scM
theorem ok_with_cells (F : Top K mg "with_cells" s_with_cells) : FnAt P w K mg base "with_cells" 1 ["document", "index", "count", "cells"] (spWith K) := by
  refine F.at_ ub4 fun f fd F => F.ok (k := 0) sc_with_cells (fun vs H Q E h => ?_) (fun cdv A outer s H vs Q E hr h => ?_)
  · obtain ⟨v, u, d, cs, i, k, rfl, _⟩ := h
    rfl
  · obtain ⟨v, u, d, cs, i, k, rfl, hd, hc, hz, q⟩ := h
    obtain ⟨a, xs, rfl, hs, hx⟩ := doc_iff.mp hd
    obtain ⟨b, ys, rfl, hb, hy⟩ := doc_iff.mp hc
    have lx : xs.length = d.length := by rw [DpAll.length hx, List.length_map]
    have ly : ys.length = cs.length := by rw [DpAll.length hy, List.length_map]
    have big : (1000 : Nat) ≤ sizeLine := by decide
    refine ⟨_, (pss_one (ps_ret (pe_op op_catTA (pe_op op_catTA (pe_slice sl_tupA (pv 0) po_none (po_some (pv 1))) (pv 3)) (pe_slice sl_tupA (pv 0) (po_some (pe_op op_add (pv 1) (pv 2))) po_none)))), ?_⟩
    refine ⟨_, rfl, _, rfl, _, rfl, a, xs, rfl, hs, fun p1 H1 e1 q1 => ?_⟩
    rw [cut_to] at q1
    refine ⟨_, rfl, p1, b, _, ys, rfl, rfl, q1, e1.tup hb, (by rw [List.length_take]; omega), fun p2 H2 e2 q2 => ?_⟩
    refine ⟨_, rfl, _, rfl, _, rfl, _, _, rfl, rfl, _, rfl, a, xs, rfl, (e1.trans e2).tup hs, fun p3 H3 e3 q3 => ?_⟩
    have ei : (i : Int) + (k : Int) = ((i + k : Nat) : Int) := by omega
    rw [ei, cut_from] at q3
    refine ⟨p2, p3, _, _, rfl, rfl, e3.tup q2, q3, (by rw [List.length_append, List.length_take, List.length_drop]; omega), fun p4 H4 e4 q4 => ?_⟩
    have e : Same H H4 := ((e1.trans e2).trans e3).trans e4
    refine q _ H4 e (doc_iff.mpr ⟨p4, _, rfl, q4, ?_⟩)
    unfold withC
    rw [List.map_append, List.map_append, List.map_take, List.map_drop]
    have hx4 := DpAll.same e (tupds_cells d) hx
    exact ((hx4.take i).append (DpAll.same e (tupds_cells cs) hy)).append (hx4.drop (i + k))
end
end CP
namespace CP
open PySem PySem.Spec PyProof.Rows L2 CM
open Vanbkd (Doc Cell Text Edit ofNat nats markOf found replaced)
def spPut (K : PySem.W.Frag) : Sp := fun vs H Q _ => ∃ (v u : V) (d : Doc) (c : Cell) (a : Nat), vs = [v, .int (a : Int), u] ∧ Dp K H v (eDoc d) ∧ Dp K H u (eCell c) ∧ d.length ≤ 400 ∧
  ∀ p H', Same H H' → Dp K H' p (eDoc (putI d a c)) → Q p H'
def mu (n i : Nat) : L2.St → Hp → Nat := fun σ _ => match σ[i]? with
  | some (some (V.int z)) => n - z.toNat
  | _ => 0
def nv (l : List Nat) : List V := (nats l).map V.int
theorem nv_len (l : List Nat) : (nv l).length = l.length := by simp [nv, nats]
theorem nv_take (l : List Nat) (k : Nat) : (nv l).take k = nv (l.take k) := by simp [nv, nats, List.map_take]
theorem nv_drop (l : List Nat) (k : Nat) : (nv l).drop k = nv (l.drop k) := by simp [nv, nats, List.map_drop]
theorem nv_app (l m : List Nat) : nv l ++ nv m = nv (l ++ m) := by simp [nv, nats]
theorem textN {K : PySem.W.Frag} {H : Hp} {v : V} {t : Text} : Dp K H v (eText t) ↔ ∃ a, v = .ref a ∧ SqT K H a (nv t) := text_iff
def spPlaces (K : PySem.W.Frag) : Sp := fun vs H Q _ => ∃ (v u : V) (t x : Text), vs = [v, u] ∧ Dp K H v (eText t) ∧ Dp K H u (eText x) ∧ x ≠ [] ∧ t.length ≤ 1000 ∧
  ∀ l H', Same H H' → H l = none → H' l = some (.lst (nv (found x t))) → Q (.ref l) H'
def spCount (K : PySem.W.Frag) : Sp := fun vs H Q _ => ∃ (v u : V) (d : Doc) (x : Text), vs = [v, u] ∧ Dp K H v (eDoc d) ∧ Dp K H u (eText x) ∧ x ≠ [] ∧ WF d ∧
  ∀ H', Same H H' → Q (.int (ofNat (d.map fun c => (found x c.text).length).sum)) H'
def spTextRep (K : PySem.W.Frag) : Sp := fun vs H Q _ => ∃ (v u z : V) (t x y : Text), vs = [v, u, z] ∧ Dp K H v (eText t) ∧ Dp K H u (eText x) ∧ Dp K H z (eText y) ∧ x ≠ [] ∧ t.length ≤ 200 ∧ y.length ≤ 200 ∧
  (∀ p H', Same H H' → (replaced x y t).length ≤ 200 → Dp K H' p (eText (replaced x y t)) → Q p H') ∧ (∀ H', Same H H' → 200 < (replaced x y t).length → Q .non H')
section
variable {P : Program} {w : World} {K : PySem.W.Frag} {mg : Str → Option Value} {base : Heap}
theorem sc_put_behind : FnScope ["document", "after", "cell", "index"] ["document", "after", "cell"] (defScope s_put_behind) := scM
theorem ok_put_behind (F : Top K mg "put_behind" s_put_behind) (F_index_of : FnAt P w K mg base "index_of" 2 ["document", "number"] (spIndex K)) (F_with_cells : FnAt P w K mg base "with_cells" 1 ["document", "index", "count", "cells"] (spWith K)) :
    FnAt P w K mg base "put_behind" 3 ["document", "after", "cell"] (spPut K) := by
  refine F.at_ ub3 fun f fd F => F.ok (k := 2) sc_put_behind (fun vs H Q E h => ?_) (fun cdv A outer s H vs Q E hr h => ?_)
  · obtain ⟨v, u, d, c, a, rfl, _⟩ := h
    rfl
  · obtain ⟨v, u, d, c, a, rfl, hd, hc, hz, k⟩ := h
    have SC := sc_put_behind
    refine ⟨_, (pss_cons (ps_set (i := 3) SC.nd rfl (Or.inl rfl) pe_int)
      (pss_cons (ps_if (pt_cmpR op_ne (pv 1) pe_int (nomark _)) (pss_one (ps_set (i := 3) SC.nd rfl (Or.inl rfl) (pe_op op_add (pe_fn F_index_of (hr.mono (by decide)) rfl (pa_cons (pv 0) (pa_cons (pv 1) pa_nil))) pe_int))) pss_nil)
      (pss_one (ps_ret (pe_fn F_with_cells (hr.mono (by decide)) rfl (pa_cons (pv 0) (pa_cons (pv 3) (pa_cons pe_int (pa_cons (pe_tup (pa_cons (pv 2) pa_nil)) pa_nil))))))))), ?_⟩
    have fin : ∀ (z : Int) (j : Nat) (H1 : Hp), z = (j : Int) → Same H H1 → withC d j 0 [c] = putI d a c → ∀ p : Addr, H1 p = none → spWith K [v, .int z, .int 0, .ref p] (upd H1 p (.tup [u])) Q E0 := by
      intro z j H1 ez e1 ej p hp
      subst ez
      have e2 : Same H (upd H1 p (.tup [u])) := e1.trans (Same.upd hp)
      refine ⟨v, .ref p, d, [c], j, 0, rfl, Dp.same e2 (tupd_doc d) hd, doc_iff.mpr ⟨p, [u], rfl, SqT.of upd_same, .cons (Dp.same e2 (tupd_cell c) hc) .nil⟩, (by simp; omega), fun r H' e3 hr' => ?_⟩
      rw [ej] at hr'
      exact k r H' (e2.trans e3) hr'
    refine ⟨_, rfl, rfl, _, rfl, ?_⟩
    by_cases ha : a = 0
    · subst ha
      refine iteNS (c := V.int ((0 : Nat) : Int) = V.int 0) rfl ?_
      refine ⟨_, rfl, _, rfl, _, rfl, (by show 1 ≤ sizeLine; decide), fun p hp => fin 0 0 H rfl (Same.refl H) (by simp [putI]) p hp⟩
    · have hne : ¬ (V.int (a : Int) = V.int 0) := fun z => ha (by have := V.int.inj z; omega)
      rw [decide_eq_false hne]
      refine iteT ?_
      refine ⟨_, rfl, _, rfl, v, d, a, rfl, hd, fun H1 e1 => ⟨_, _, rfl, rfl, ?_⟩⟩
      have hnn : ixI d a + 1 = (((ixI d a + 1).toNat : Nat) : Int) := by
        have : -1 ≤ ixI d a := by
          unfold ixI
          split <;> omega
        omega
      exact ⟨_, rfl, _, rfl, _, rfl, (by show 1 ≤ sizeLine; decide), fun p hp => fin _ _ H1 hnn e1 (by simp [putI, ha]) p hp⟩
theorem eqv_nv {K : PySem.W.Frag} {H : Hp} {a : Addr} {t : List Nat} (h : SqT K H a (nv t)) : Dp K H (.ref a) (eText t) := textN.mpr ⟨a, rfl, h⟩
theorem take_head {x t : Text} {p x0 : Nat} (h0 : x[0]? = some x0) (e : (t.drop p).take x.length = x) : t[p]? = some x0 := by
  have h1 := congrArg (fun l => l[0]?) e
  simp only [h0] at h1
  rw [List.getElem?_take] at h1
  split at h1
  · rw [List.getElem?_drop] at h1
    simpa using h1
  · cases h1
theorem nv_at {l : List Nat} {i q : Nat} (h : l[i]? = some q) : (nv l)[i]? = some (V.int (q : Int)) := by
  unfold nv nats
  rw [List.getElem?_map, List.getElem?_map, h]
  rfl
theorem sc_places_found : FnScope ["text", "wanted", "places", "first", "length", "last_place", "place"] ["text", "wanted"] (defScope s_places_found) := scM
theorem ok_places_found (T : Txt mg) (F : Top K mg "places_found" s_places_found) : FnAt P w K mg base "places_found" 1 ["text", "wanted"] (spPlaces K) := by
  refine F.at_ ub2 fun f fd F => F.ok (k := 0) sc_places_found (fun vs H Q E h => ?_) (fun cdv A outer s H vs Q E hr h => ?_)
  · obtain ⟨v, u, t, x, rfl, _⟩ := h
    rfl
  · obtain ⟨v, u, t, x, rfl, ht, hx, hne, hz, k⟩ := h
    obtain ⟨a, rfl, ha⟩ := textN.mp ht
    obtain ⟨b, rfl, hb⟩ := textN.mp hx
    have SC := sc_places_found
    have h0x : 0 < x.length := List.length_pos_iff.mpr hne
    obtain ⟨x0, hx0⟩ : ∃ x0, x[0]? = some x0 := ⟨x[0], List.getElem?_eq_getElem h0x⟩
    refine ⟨_, (pss_cons (ps_set (i := 2) SC.nd rfl (Or.inl rfl) (pe_lst pa_nil))
      (pss_cons (ps_set (i := 3) SC.nd rfl (Or.inl rfl) (pe_ix ix_tup (pv 1) pe_int (fun _ _ => rfl)))
      (pss_cons (ps_set (i := 4) SC.nd rfl (Or.inl rfl) (pe_callB call_len_seq (by rfl) T.b_len PySem.boot_len (pa_cons (pv 1) pa_nil)))
      (pss_cons (ps_set (i := 5) SC.nd rfl (Or.inl rfl) (pe_op op_sub (pe_callB call_len_seq (by rfl) T.b_len PySem.boot_len (pa_cons (pv 0) pa_nil)) (pv 4)))
      (pss_cons (ps_set (i := 6) SC.nd rfl (Or.inl rfl) pe_int)
      (pss_cons (ps_while PassesOwn.never (pt_cmpR op_le (pv 6) (pv 5) (nomark _)) (pss_one (ps_if (PW.pt (pw_and (pt_cmpR op_eq (pe_ix ix_tup (pv 0) (pv 6) (fun _ _ => rfl)) (pv 3) (nomark _)) (pw_and1 (pt_cmpR (op_eqD (hr.units)) (pe_slice sl_tupA (pv 0) (po_some (pv 6)) (po_some (pe_op op_add (pv 6) (pv 4)))) (pv 1) (nomark _))))) (pss_cons (ps_expr (pe_bm PySem.F.plainAttrs_list PySem.F.slot_list_append PySem.F.type_list_append mt_append (pv 2) (pa_cons (pv 6) pa_nil)))
      (pss_one (ps_aug (i := 6) SC.nd rfl (Or.inl rfl) (pv 4) ip_add))) (pss_one (ps_aug (i := 6) SC.nd rfl (Or.inl rfl) pe_int ip_add)))))
      (pss_one (ps_ret (pv 2))))))))), ?_⟩
    refine ⟨Nat.zero_le _, fun l hl => ?_⟩
    have e0 : Same H (upd H l (.lst [])) := Same.upd hl
    refine ⟨_, rfl, b, _, 0, _, rfl, rfl, e0.tup hb, at_of (j := 0) rfl (nv_at hx0), _, rfl, b, _, rfl, .inr (e0.tup hb), _, rfl, a, _, rfl, .inr (e0.tup ha), _, rfl, _, _, rfl, rfl, ?_⟩
    rw [nv_len, nv_len]
    let Pv : L2.St → Hp → Prop := fun σ H' => ∃ p : Nat, σ = [some (.ref a), some (.ref b), some (.ref l), some (.int (x0 : Int)), some (.int (x.length : Int)), some (.int ((t.length : Int) - (x.length : Int))), some (.int (p : Int))] ∧ Same H H' ∧ ∃ ps : List Nat, H' l = some (.lst (nv ps)) ∧ ps ++ fnd x t p = found x t ∧ ps.length ≤ p
    refine while_w Pv (mu (t.length + 1) 6) ⟨0, rfl, Same.upd hl, [], upd_same, by rw [fnd_zero]; rfl, Nat.le_refl _⟩ ?_
    rintro m σ H' ⟨p, rfl, e, ps, hp, hf, hpl⟩ hm
    have hm' : m = t.length + 1 - p := hm.symm
    subst hm'
    refine ⟨_, rfl, _, rfl, _, _, rfl, rfl, _, rfl, ?_⟩
    refine ite2 (fun hc => ?_) (fun hc => ?_)
    · have hle : p + x.length ≤ t.length := by
        have := of_decide_eq_true hc
        omega
      obtain ⟨tp, htp⟩ : ∃ tp, t[p]? = some tp := ⟨t[p], List.getElem?_eq_getElem (by omega)⟩
      refine ⟨_, turn_w (Pv := Pv) (mu := mu (t.length + 1) 6), ?_⟩
      have miss : ∀ H1, Same H' H1 → ¬ (t.drop p).take x.length = x → Pv [some (.ref a), some (.ref b), some (.ref l), some (.int (x0 : Int)), some (.int (x.length : Int)), some (.int ((t.length : Int) - (x.length : Int))), some (.int ((p : Int) + 1))] H1 ∧ t.length + 1 - ((p : Int) + 1).toNat < t.length + 1 - p := by
        intro H1 e1 he'
        refine ⟨⟨p + 1, rfl, e.trans e1, ps, e1 _ _ hp, ?_, by omega⟩, by omega⟩
        rw [← fnd_miss hne (by omega) he']
        exact hf
      refine ⟨_, rfl, _, rfl, a, _, _, _, rfl, rfl, e.tup ha, atI_nat (nv_at htp), _, rfl, rfl, _, rfl, ?_⟩
      refine ite2 (fun h1 => ?_) (fun h1 => ?_)
      · refine ⟨_, rfl, _, rfl, _, rfl, _, rfl, _, rfl, _, _, rfl, rfl, _, rfl, a, _, rfl, e.tup ha, fun p1 H1 e1 q1 => ?_⟩
        rw [show (p : Int) + (x.length : Int) = ((p + x.length : Nat) : Int) by omega, cut_mid, nv_drop, nv_take, show p + x.length - p = x.length by omega] at q1
        have e2 := e.trans e1
        refine ⟨_, rfl, _, _, eqv_nv q1, Dp.same e2 (tupd_text x) hx, shaped_ints _, shaped_ints _, _, rfl, ?_⟩
        rw [eqv_text]
        have hp1 := e1 _ _ hp
        refine ite2 (fun he => ?_) (fun he => ?_)
        · have he' := of_decide_eq_true he
          refine ⟨_, rfl, .inl ⟨rfl, _, SqL.of hp1⟩, _, rfl, l, _, _, rfl, rfl, hp1, (by rw [nv_len]; exact Nat.lt_of_le_of_lt (show ps.length ≤ 1000 by omega) (by decide)), ?_⟩
          have nl : ∀ q o, H q = some o → q ≠ l := fun q o hq z => by rw [z, hl] at hq; cases hq
          have e3 : Same H (upd H1 l (.lst (nv ps ++ [V.int (p : Int)]))) := fun q o hq => by rw [upd_ne (nl q o hq)]; exact e2 q o hq
          refine ⟨_, rfl, _, rfl, _, _, rfl, rfl, ?_⟩
          refine ⟨⟨p + x.length, ?_, e3, ps ++ [p], ?_, ?_, ?_⟩, ?_⟩
          · show [some (V.ref a), some (V.ref b), some (V.ref l), some (V.int (x0 : Int)), some (V.int (x.length : Int)), some (.int ((t.length : Int) - (x.length : Int))), some (V.int ((p : Int) + (x.length : Int)))] = _
            rw [show (p : Int) + (x.length : Int) = ((p + x.length : Nat) : Int) by omega]
          · rw [upd_same, ← nv_app]
            rfl
          · rw [List.append_assoc, List.singleton_append, ← fnd_hit hne hle he']
            exact hf
          · simp
            omega
          · show t.length + 1 - ((p : Int) + (x.length : Int)).toNat < t.length + 1 - p
            omega
        · exact ⟨_, rfl, _, _, rfl, rfl, miss _ e1 fun z => he (decide_eq_true z)⟩
      · refine ⟨_, rfl, _, _, rfl, rfl, miss _ (Same.refl H') fun z => h1 (decide_eq_true ?_)⟩
        have := take_head hx0 z
        rw [htp] at this
        rw [Option.some.inj this]
    · have hgt : t.length < p + x.length := by
        have : ¬ ((p : Int) ≤ (t.length : Int) - (x.length : Int)) := fun z => hc (decide_eq_true z)
        omega
      rw [fnd_end hne hgt, List.append_nil] at hf
      rw [hf] at hp
      exact ⟨_, rfl, k l H' e hl hp⟩
end
end CP
namespace CP
open PySem PySem.Spec PyProof.Rows L2 CM
open Vanbkd (Doc Cell Text Edit ofNat nats markOf found replaced)
section
variable {P : Program} {w : World} {K : PySem.W.Frag} {mg : Str → Option Value} {base : Heap}
theorem sum_ofNat : ∀ l : List Nat, (l.map ofNat).sum = ofNat l.sum
  | [] => rfl
  | x :: r => by
    rw [List.map_cons, List.sum_cons, List.sum_cons, sum_ofNat r]
    unfold ofNat
    omega
theorem cell_at {H : Hp} {xs : List V} {d : Doc} {i : Nat} {x : V} (hx : DpAll K H xs (d.map eCell)) (hi : xs[i]? = some x) : ∃ c, d[i]? = some c ∧ Dp K H x (eCell c) := by
  obtain ⟨dd, hdd, hc⟩ := DpAll.getV hx hi
  rw [List.getElem?_map] at hdd
  cases q : d[i]? with
  | none => rw [q] at hdd; cases hdd
  | some c =>
    rw [q] at hdd
    have : eCell c = dd := Option.some.inj hdd
    subst this
    exact ⟨c, rfl, hc⟩
theorem sc_count_found : FnScope ["document", "wanted", "cell"] ["document", "wanted"] (defScope s_count_found) := scM
theorem ok_count_found (T : Txt mg) (F : Top K mg "count_found" s_count_found) (F_places_found : FnAt P w K mg base "places_found" 1 ["text", "wanted"] (spPlaces K)) (F_text_of : FnAt P w K mg base "text_of" 1 ["cell"] (spText K)) :
    FnAt P w K mg base "count_found" 2 ["document", "wanted"] (spCount K) := by
  refine F.at_ ub2 fun f fd F => F.ok (k := 1) sc_count_found (fun vs H Q E h => ?_) (fun cdv A outer s H vs Q E hr h => ?_)
  · obtain ⟨v, u, d, x, rfl, _⟩ := h
    rfl
  · obtain ⟨v, u, d, x, rfl, hd, hx, hne, W, k⟩ := h
    obtain ⟨a, xs, rfl, hs, hxs⟩ := doc_iff.mp hd
    have SC := sc_count_found
    refine ⟨_, (pss_one (ps_ret (pe_callB (cr_sum rfl) (by rfl) T.b_sum boot_sum (pa_cons (pe_lc (own := [("cell", 2)]) rfl SC.nd (pi_tup (pv 0)) (blkOk_by (by kernel_rfl)) (fun _ _ _ _ _ => (pg_name (i := 2) SC.nd rfl (Or.inl rfl))) (fun _ _ _ _ _ => pts_nil) (fun _ _ _ _ _ => (pe_callB (call_lenK (K := K) rfl) (by rfl) T.b_len PySem.boot_len (pa_cons (pe_fn F_places_found (hr.mono (by decide)) rfl (pa_cons (pe_fn F_text_of (hr.mono (by decide)) rfl (pa_cons (pv 2) pa_nil)) (pa_cons (pv 1) pa_nil))) pa_nil)))) pa_nil)))), ?_⟩
    refine ⟨_, rfl, a, rfl, ⟨_, hs⟩, fun D hD => lc_tup (K := K) (a := a) (xs := xs) (fun i H' => Same H H' ∧ H' D = some (.lst ((d.take i).map fun c => V.int (ofNat (found x c.text).length)))) ⟨Same.upd hD, upd_same⟩ (fun i H' _ h => h.1.tup hs) ?_ ?_⟩
    · rintro i y H' hi ⟨e, hDi⟩
      obtain ⟨c, hc, hcell⟩ := cell_at hxs hi
      refine ⟨rfl, ?_⟩
      refine ⟨_, rfl, y, c, rfl, Dp.same e (tupd_cell c) hcell, fun z hz => ⟨_, rfl, z, u, c.text, x, rfl, hz, Dp.same e (tupd_text x) hx, hne, Nat.le_trans (W.txt c (List.mem_of_getElem? hc)) (by decide), fun l H4 e4 hl h4 => ?_⟩⟩
      refine ⟨l, _, rfl, .inl (SqL.of h4), _, e4 _ _ hDi, (by rw [List.length_map, List.length_take]; exact Nat.lt_of_le_of_lt (Nat.le_trans (Nat.min_le_right _ _) W.len) (by decide)), ?_, ?_⟩
      · intro q o hq
        rw [upd_ne (ne_of_none hq hD)]
        exact e4 _ _ (e _ _ hq)
      · rw [upd_same, List.take_add_one, hc, nv_len]
        simp [ofNat]
    · rintro H' ⟨e, hDl⟩
      have hl : xs.length = d.length := by rw [DpAll.length hxs, List.length_map]
      rw [hl, List.take_length] at hDl
      refine ⟨D, (d.map fun c => (found x c.text).length).map ofNat, rfl, SqL.of (by rw [hDl, List.map_map, List.map_map]; rfl), ?_⟩
      rw [sum_ofNat]
      exact k H' e
end
end CP
namespace CP
open PySem PySem.Spec PyProof.Rows L2 CM
open Vanbkd (Doc Cell Text Edit ofNat nats markOf found replaced)
section
variable {P : Program} {w : World} {K : PySem.W.Frag} {mg : Str → Option Value} {base : Heap}
theorem nv_get {l : List Nat} {i : Nat} {y : V} (h : (nv l)[i]? = some y) : ∃ q, l[i]? = some q ∧ y = V.int (q : Int) := by
  unfold nv nats at h
  rw [List.getElem?_map, List.getElem?_map] at h
  cases e : l[i]? with
  | none => rw [e] at h; cases h
  | some q =>
    rw [e] at h
    exact ⟨q, rfl, (Option.some.inj h).symm⟩
theorem drop_cons_of {α : Type} {l : List α} {i : Nat} {x : α} (h : l[i]? = some x) : l.drop i = x :: l.drop (i + 1) := by
  obtain ⟨hl, he⟩ := List.getElem?_eq_some_iff.mp h
  rw [List.drop_eq_getElem_cons hl, he]
theorem sc_text_replaced : FnScope ["text", "wanted", "other", "places", "made", "behind", "place"] ["text", "wanted", "other"] (defScope s_text_replaced) := scM
theorem ok_text_replaced (T : Txt mg) (N : Nums mg) (F : Top K mg "text_replaced" s_text_replaced) (F_places_found : FnAt P w K mg base "places_found" 1 ["text", "wanted"] (spPlaces K)) :
    FnAt P w K mg base "text_replaced" 2 ["text", "wanted", "other"] (spTextRep K) := by
  refine F.at_ ub3 fun f fd F => F.ok (k := 1) sc_text_replaced (fun vs H Q E h => ?_) (fun cdv A outer s H vs Q E hr h => ?_)
  · obtain ⟨v, u, z, t, x, y, rfl, _⟩ := h
    rfl
  · obtain ⟨v, u, z, t, x, y, rfl, ht, hx, hy, hne, hz, hzy, k, kn⟩ := h
    obtain ⟨a, rfl, ha⟩ := textN.mp ht
    obtain ⟨b, rfl, hb⟩ := textN.mp hx
    obtain ⟨c, rfl, hc⟩ := textN.mp hy
    have SC := sc_text_replaced
    have big : (50000 : Nat) < sizeLine := by decide
    refine ⟨_, (pss_cons (ps_set (i := 3) SC.nd rfl (Or.inl rfl) (pe_fn F_places_found (hr.mono (by decide)) rfl (pa_cons (pv 0) (pa_cons (pv 1) pa_nil))))
      (pss_cons (ps_if (pt_cmpR op_gt (pe_op op_add (pe_callB call_len_seq (by rfl) T.b_len PySem.boot_len (pa_cons (pv 0) pa_nil)) (pe_op op_mul (pe_callB call_len_seq (by rfl) T.b_len PySem.boot_len (pa_cons (pv 3) pa_nil)) (pe_op op_sub (pe_callB call_len_seq (by rfl) T.b_len PySem.boot_len (pa_cons (pv 2) pa_nil)) (pe_callB call_len_seq (by rfl) T.b_len PySem.boot_len (pa_cons (pv 1) pa_nil))))) (pe_gint rfl N.c_LONGEST_TEXT) (nomark _)) (pss_one (ps_ret pe_non)) pss_nil)
      (pss_cons (ps_set (i := 4) SC.nd rfl (Or.inl rfl) (pe_lst pa_nil))
      (pss_cons (ps_set (i := 5) SC.nd rfl (Or.inl rfl) pe_int)
      (pss_cons (ps_for PassesOwn.never rfl (pi_list (pv 3)) (pg_name (i := 6) SC.nd rfl (Or.inl rfl)) (pss_cons (ps_expr (pe_bm PySem.F.plainAttrs_list PySem.F.slot_list_extend PySem.F.type_list_extend mt_extendT (pv 4) (pa_cons (pe_slice sl_tupA (pv 0) (po_some (pv 5)) (po_some (pv 6))) pa_nil)))
      (pss_cons (ps_expr (pe_bm PySem.F.plainAttrs_list PySem.F.slot_list_extend PySem.F.type_list_extend mt_extendT (pv 4) (pa_cons (pv 2) pa_nil)))
      (pss_one (ps_set (i := 5) SC.nd rfl (Or.inl rfl) (pe_op op_add (pv 6) (pe_callB call_len_seq (by rfl) T.b_len PySem.boot_len (pa_cons (pv 1) pa_nil))))))))
      (pss_cons (ps_expr (pe_bm PySem.F.plainAttrs_list PySem.F.slot_list_extend PySem.F.type_list_extend mt_extendT (pv 4) (pa_cons (pe_slice sl_tupA (pv 0) (po_some (pv 5)) po_none) pa_nil)))
      (pss_one (ps_ret (pe_callTy call_tuple_of (by rfl) T.b_tuple boot_tuple (pa_cons (pv 4) pa_nil)))))))))), ?_⟩
    refine ⟨_, rfl, _, rfl, _, _, t, x, rfl, ht, hx, hne, (by omega), fun l H1 e1 hl h1 => ?_⟩
    refine ⟨_, rfl, a, _, rfl, .inr (e1.tup ha), _, rfl, l, _, rfl, .inl (SqL.of h1), _, rfl, c, _, rfl, .inr (e1.tup hc), _, rfl, b, _, rfl, .inr (e1.tup hb), _, _, rfl, rfl, _, _, rfl, rfl, ?_, _, _, rfl, rfl, _, _, rfl, rfl, _, rfl, ?_⟩
    · have := found_len x t
      rw [nv_len]
      exact .inl ⟨by omega, by omega⟩
    rw [nv_len, nv_len, nv_len, nv_len, ← replaced_len (y := y) (t := t) hne]
    refine ite2 (fun hg => ?_) (fun hg => ?_)
    · exact kn H1 e1 (by have := of_decide_eq_true hg; omega)
    have rl : (replaced x y t).length ≤ 200 := by
      have : ¬ ((200 : Int) < ((replaced x y t).length : Int)) := fun z => hg (decide_eq_true z)
      omega
    refine ⟨Nat.zero_le _, fun m hm => ?_⟩
    have hmH : H m = none := e1.free hm
    have e0 : Same H1 (upd H1 m (.lst [])) := Same.upd hm
    have nm : ∀ q o, H q = some o → q ≠ m := fun q o hq z => by rw [z, hmH] at hq; cases hq
    have lm : l ≠ m := fun z => by rw [z, hm] at h1; cases h1
    refine ⟨_, rfl, l, rfl, ⟨_, SqL.of (e0 _ _ h1)⟩, for_list (K := K) (a := l) (xs := nv (found x t)) (fun i σ H' => ∃ (β : Nat) (v6 : Option V) (ms : List Nat), σ = [some (.ref a), some (.ref b), some (.ref c), some (.ref l), some (.ref m), some (.int (β : Int)), v6] ∧ Same H H' ∧ H' l = some (.lst (nv (found x t))) ∧ H' m = some (.lst (nv ms)) ∧ ms ++ rep t y x.length β ((found x t).drop i) = replaced x y t)
      ⟨0, none, [], rfl, e1.trans e0, e0 _ _ h1, upd_same, by rw [List.drop_zero, rep_found hne]; rfl⟩ (fun i σ H' _ ⟨_, _, _, _, _, h, _⟩ => SqL.of h) ?_ ?_⟩
    · rintro i q σ H' hi ⟨β, v5, ms, rfl, e, hl', hm', hr'⟩
      obtain ⟨q, hq, rfl⟩ := nv_get hi
      rw [drop_cons_of hq] at hr'
      have hlen := congrArg List.length hr'
      unfold rep at hlen hr'
      simp only [List.length_append] at hlen
      refine ⟨_, rfl, .inl ⟨rfl, _, SqL.of hm'⟩, _, rfl, _, rfl, _, rfl, _, rfl, _, rfl, a, _, rfl, e.tup ha, fun p1 H2 e2 q1 => ?_⟩
      rw [cut_mid, nv_drop, nv_take] at q1
      have hm2 := e2 _ _ hm'
      refine ⟨m, p1, _, _, rfl, rfl, hm2, q1, (by rw [nv_len, nv_len]; omega), ?_⟩
      rw [nv_app]
      have e3 : Same H (upd H2 m (.lst (nv (ms ++ (t.drop β).take (q - β))))) := fun g o hg => by rw [upd_ne (nm g o hg)]; exact e2 _ _ (e _ _ hg)
      refine ⟨_, rfl, .inl ⟨rfl, _, SqL.of upd_same⟩, _, rfl, m, c, _, _, rfl, rfl, upd_same, e3.tup hc, (by rw [nv_len, nv_len, List.length_append]; omega), ?_⟩
      rw [nv_app, upd_upd]
      have e4 : Same H (upd H2 m (.lst (nv (ms ++ (t.drop β).take (q - β) ++ y)))) := fun g o hg => by rw [upd_ne (nm g o hg)]; exact e2 _ _ (e _ _ hg)
      refine ⟨_, rfl, _, rfl, b, _, rfl, .inr (e4.tup hb), _, _, rfl, rfl, ?_⟩
      refine ⟨q + x.length, some (V.int (q : Int)), ms ++ (t.drop β).take (q - β) ++ y, ?_, e4, ?_, upd_same, ?_⟩
      · rw [nv_len]
        show [some (V.ref a), some (V.ref b), some (V.ref c), some (V.ref l), some (V.ref m), some (V.int ((q : Int) + (x.length : Int))), some (V.int (q : Int))] = _
        rw [show (q : Int) + (x.length : Int) = ((q + x.length : Nat) : Int) by omega]
      · rw [upd_ne lm]
        exact e2 _ _ hl'
      · rw [← hr']
        simp [List.append_assoc]
    · rintro σ H' ⟨β, v5, ms, rfl, e, hl', hm', hr'⟩
      rw [nv_len, List.drop_length] at hr'
      unfold rep at hr'
      have hlen := congrArg List.length hr'
      simp only [List.length_append] at hlen
      refine ⟨_, rfl, .inl ⟨rfl, _, SqL.of hm'⟩, _, rfl, _, rfl, _, rfl, a, _, rfl, e.tup ha, fun p1 H2 e2 q1 => ?_⟩
      rw [cut_from, nv_drop] at q1
      refine ⟨m, p1, _, _, rfl, rfl, e2 _ _ hm', q1, (by rw [nv_len, nv_len]; omega), ?_⟩
      rw [nv_app, hr']
      refine ⟨_, rfl, m, _, rfl, .inl ⟨SqL.of upd_same, fun r hr2 => ?_⟩⟩
      have e3 : Same H (upd H2 m (.lst (nv (replaced x y t)))) := fun g o hg => by rw [upd_ne (nm g o hg)]; exact e2 _ _ (e _ _ hg)
      exact k _ _ (e3.trans (Same.upd hr2)) rl (textN.mpr ⟨r, rfl, SqT.of upd_same⟩)
end
end CP
namespace CP
open PySem PySem.Spec PyProof.Rows L2 CM
open Vanbkd (Doc Cell Text Edit ofNat nats markOf found replaced apply)
structure CellsOk (P : Program) (w : World) (K : PySem.W.Frag) (mg : Str → Option Value) (base : Heap) : Prop where
  number_of : FnAt P w K mg base "number_of" 1 ["cell"] (spNum K)
  mark_of : FnAt P w K mg base "mark_of" 1 ["cell"] (spMark K)
  text_of : FnAt P w K mg base "text_of" 1 ["cell"] (spText K)
  index_of : FnAt P w K mg base "index_of" 2 ["document", "number"] (spIndex K)
  has_cell : FnAt P w K mg base "has_cell" 3 ["document", "number"] (spHas K)
  with_cells : FnAt P w K mg base "with_cells" 1 ["document", "index", "count", "cells"] (spWith K)
  put_behind : FnAt P w K mg base "put_behind" 3 ["document", "after", "cell"] (spPut K)
  places_found : FnAt P w K mg base "places_found" 1 ["text", "wanted"] (spPlaces K)
  count_found : FnAt P w K mg base "count_found" 2 ["document", "wanted"] (spCount K)
  text_replaced : FnAt P w K mg base "text_replaced" 2 ["text", "wanted", "other"] (spTextRep K)
def spDo (K : PySem.W.Frag) (form : Edit → Prop) : Sp := fun vs H Q _ => ∃ (v u : V) (d : Doc) (e : Edit), vs = [v, u] ∧ Dp K H v (eDoc d) ∧ Dp K H u (eEdit e) ∧ WF d ∧ EOk e ∧ form e ∧
  ∀ p H', Same H H' → Dp K H' p (eOpt (apply d e)) → Q p H'
section
variable {P : Program} {w : World} {K : PySem.W.Frag} {mg : Str → Option Value} {base : Heap}
theorem none_opt {H : Hp} {o : Option Doc} (h : o = none) : Dp K H .non (eOpt o) := by
  subst h
  exact .non
theorem some_opt {H : Hp} {o : Option Doc} {d : Doc} {p : V} (h : o = some d) (hp : Dp K H p (eDoc d)) : Dp K H p (eOpt o) := by
  subst h
  exact hp
theorem cell_mk {H : Hp} {a : Addr} {n : Int} {m : Int} {u : V} {c : Cell} (hs : SqT K H a [.int n, .int m, u]) (hn : n = ofNat c.number) (hm : m = markOf c.hidden) (hu : Dp K H u (eText c.text)) : Dp K H (.ref a) (eCell c) := by
  subst hn hm
  exact cell_iff.mpr ⟨a, u, rfl, hs, hu⟩
theorem sc_do_make : FnScope ["document", "edit", "number", "after"] ["document", "edit"] (defScope s_do_make) := scM
theorem ok_do_make (T : Txt mg) (N : Nums mg) (C : CellsOk P w K mg base) (F : Top K mg "do_make" s_do_make) : FnAt P w K mg base "do_make" 4 ["document", "edit"] (spDo K fun e => ∃ n a t, e = .make n a t) := by
  refine F.at_ ub2 fun f fd F => F.ok (k := 3) sc_do_make (fun vs H Q E h => ?_) (fun cdv A outer s H vs Q E hr h => ?_)
  · obtain ⟨v, u, d, e, rfl, _⟩ := h
    rfl
  · obtain ⟨v, u, d, _, rfl, hd, he, W, hE, ⟨n, a, t, rfl⟩, k⟩ := h
    have F_has_cell := C.has_cell
    have F_put_behind := C.put_behind
    have SC := sc_do_make
    obtain ⟨b, xs, rfl, hb, hxs⟩ := dp_tup.mp he
    simp only [dpa_cons, dpa_nil, dp_int] at hxs
    obtain ⟨_, _, rfl, rfl, _, _, rfl, rfl, _, _, rfl, rfl, tv, _, rfl, htv, rfl⟩ := hxs
    obtain ⟨ad, ds, rfl, hds, hdc⟩ := doc_iff.mp hd
    have ld : ds.length = d.length := by rw [DpAll.length hdc, List.length_map]
    refine ⟨_, (pss_cons (ps_set (i := 2) SC.nd rfl (Or.inl rfl) (pe_ix ix_tup (pv 1) pe_int (fun _ _ => rfl)))
      (pss_cons (ps_set (i := 3) SC.nd rfl (Or.inl rfl) (pe_ix ix_tup (pv 1) pe_int (fun _ _ => rfl)))
      (pss_cons (ps_if (PW.pt (pw_or (pt_val (pe_fn F_has_cell (hr.mono (by decide)) rfl (pa_cons (pv 0) (pa_cons (pv 2) pa_nil)))) (pw_or1 (pt_cmpR op_ge (pe_callB call_len_seq (by rfl) T.b_len PySem.boot_len (pa_cons (pv 0) pa_nil)) (pe_gint rfl N.c_MOST_CELLS) (nomark _))))) (pss_one (ps_ret pe_non)) pss_nil)
      (pss_cons (ps_if (PW.pt (pw_and (pt_cmpR op_ne (pv 3) pe_int (nomark _)) (pw_and1 (pt_not (pt_val (pe_fn F_has_cell (hr.mono (by decide)) rfl (pa_cons (pv 0) (pa_cons (pv 3) pa_nil)))))))) (pss_one (ps_ret pe_non)) pss_nil)
      (pss_one (ps_ret (pe_fn F_put_behind (hr.mono (by decide)) rfl (pa_cons (pv 0) (pa_cons (pv 3) (pa_cons (pe_tup (pa_cons (pv 2) (pa_cons pe_int (pa_cons (pe_ix ix_tup (pv 1) pe_int (fun _ _ => rfl)) pa_nil)))) pa_nil)))))))))), ?_⟩
    refine ⟨_, rfl, b, _, 1, _, rfl, rfl, hb, rfl, _, rfl, b, _, 2, _, rfl, rfl, hb, rfl, ?_⟩
    refine ⟨_, rfl, _, rfl, _, d, _, rfl, hd, fun H1 e1 => ⟨_, rfl, ?_⟩⟩
    have hcat : ∀ H2, Same H H2 → (¬ ((ixF d n).isSome = true ∨ 12 ≤ d.length)) → (a = 0 ∨ (ixF d a).isSome = true) → ∀ q : Addr, H2 q = none → spPut K [.ref ad, .int (ofNat a), .ref q] (upd H2 q (.tup [.int (ofNat n), .int 0, tv])) Q E0 := by
      intro H2 e2 q1 q2 q hq
      have e3 : Same H (upd H2 q (.tup [.int (ofNat n), .int 0, tv])) := e2.trans (Same.upd hq)
      refine ⟨_, _, d, ⟨n, false, t⟩, a, rfl, Dp.same e3 (tupd_doc d) hd, cell_mk (SqT.of upd_same) rfl rfl (Dp.same e3 (tupd_text t) htv), Nat.le_trans W.len (by decide), fun p H' e4 hp => ?_⟩
      exact k p H' (e3.trans e4) (some_opt (by rw [ap_make W.nd q1, if_pos q2]) hp)
    refine ite2 (fun hq => ?_) (fun hq => ?_)
    · exact k _ _ e1 (none_opt (ap_make_no (.inl hq)))
    · refine ⟨_, rfl, ad, _, rfl, .inr (e1.tup hds), _, _, rfl, rfl, _, rfl, ?_⟩
      rw [ld]
      refine ite2 (fun hl => ?_) (fun hl => ?_)
      · exact k _ _ e1 (none_opt (ap_make_no (.inr (by have := of_decide_eq_true hl; omega))))
      · have hl' : ¬ 12 ≤ d.length := fun z => hl (decide_eq_true (by omega))
        have q1 : ¬ ((ixF d n).isSome = true ∨ 12 ≤ d.length) := fun z => z.elim hq hl'
        refine ⟨_, rfl, rfl, _, rfl, ?_⟩
        by_cases ha : a = 0
        · subst ha
          refine iteNS (c := V.int (ofNat 0) = V.int 0) rfl ?_
          refine ⟨_, rfl, _, rfl, _, rfl, _, rfl, b, _, 3, _, rfl, rfl, e1.tup hb, rfl, (by show 3 ≤ sizeLine; decide), fun q hq' => hcat H1 e1 q1 (.inl rfl) q hq'⟩
        · have hne : ¬ (V.int (ofNat a) = V.int 0) := fun z => ha (by have := V.int.inj z; unfold ofNat at this; omega)
          rw [decide_eq_false hne]
          refine iteT ?_
          refine ⟨_, rfl, _, rfl, _, d, _, rfl, Dp.same e1 (tupd_doc d) hd, fun H2 e2 => ⟨_, rfl, ?_⟩⟩
          cases hs : (ixF d (ofNat a)).isSome with
          | false =>
            exact k _ _ (e1.trans e2) (none_opt (by rw [ap_make W.nd q1, if_neg]; exact fun z => z.elim ha (fun y => by rw [show ((a : Nat) : Int) = ofNat a from rfl, hs] at y; cases y)))
          | true =>
            refine ⟨_, rfl, _, rfl, _, rfl, _, rfl, b, _, 3, _, rfl, rfl, (e1.trans e2).tup hb, rfl, (by show 3 ≤ sizeLine; decide), fun q hq' => hcat H2 (e1.trans e2) q1 (.inr hs) q hq'⟩
end
end CP
namespace CP
open PySem PySem.Spec PyProof.Rows L2 CM
open Vanbkd (Doc Cell Text Edit ofNat nats markOf found replaced apply)
section
variable {P : Program} {w : World} {K : PySem.W.Frag} {mg : Str → Option Value} {base : Heap}
theorem at_ix {H : Hp} {xs : List V} {d : Doc} {n : Int} {i : Nat} {c : Cell} (hx : DpAll K H xs (d.map eCell)) (hc : d[i]? = some c) : ∃ x, xs[i]? = some x ∧ Dp K H x (eCell c) :=
  DpAll.get hx (by rw [List.getElem?_map, hc]; rfl)
theorem sc_do_write : FnScope ["document", "edit", "index", "cell"] ["document", "edit"] (defScope s_do_write) := scM
theorem ok_do_write (C : CellsOk P w K mg base) (F : Top K mg "do_write" s_do_write) : FnAt P w K mg base "do_write" 4 ["document", "edit"] (spDo K fun e => ∃ n t, e = .write n t) := by
  refine F.at_ ub2 fun f fd F => F.ok (k := 3) sc_do_write (fun vs H Q E h => ?_) (fun cdv A outer s H vs Q E hr h => ?_)
  · obtain ⟨v, u, d, e, rfl, _⟩ := h
    rfl
  · obtain ⟨v, u, d, _, rfl, hd, he, W, hE, ⟨n, t, rfl⟩, k⟩ := h
    have F_index_of := C.index_of
    have F_with_cells := C.with_cells
    have F_number_of := C.number_of
    have F_mark_of := C.mark_of
    have SC := sc_do_write
    obtain ⟨b, xs, rfl, hb, hxs⟩ := dp_tup.mp he
    simp only [dpa_cons, dpa_nil, dp_int] at hxs
    obtain ⟨_, _, rfl, rfl, _, _, rfl, rfl, tv, _, rfl, htv, rfl⟩ := hxs
    obtain ⟨ad, ds, rfl, hds, hdc⟩ := doc_iff.mp hd
    refine ⟨_, (pss_cons (ps_set (i := 2) SC.nd rfl (Or.inl rfl) (pe_fn F_index_of (hr.mono (by decide)) rfl (pa_cons (pv 0) (pa_cons (pe_ix ix_tup (pv 1) pe_int (fun _ _ => rfl)) pa_nil))))
      (pss_cons (ps_if (pt_cmpR op_lt (pv 2) pe_int (nomark _)) (pss_one (ps_ret pe_non)) pss_nil)
      (pss_cons (ps_set (i := 3) SC.nd rfl (Or.inl rfl) (pe_ix ix_tup (pv 0) (pv 2) (fun _ _ => rfl)))
      (pss_one (ps_ret (pe_fn F_with_cells (hr.mono (by decide)) rfl (pa_cons (pv 0) (pa_cons (pv 2) (pa_cons pe_int (pa_cons (pe_tup (pa_cons (pe_tup (pa_cons (pe_fn F_number_of (hr.mono (by decide)) rfl (pa_cons (pv 3) pa_nil)) (pa_cons (pe_fn F_mark_of (hr.mono (by decide)) rfl (pa_cons (pv 3) pa_nil)) (pa_cons (pe_ix ix_tup (pv 1) pe_int (fun _ _ => rfl)) pa_nil)))) pa_nil)) pa_nil)))))))))), ?_⟩
    refine ⟨_, rfl, _, rfl, b, _, 1, _, rfl, rfl, hb, rfl, _, d, _, rfl, hd, fun H1 e1 => ⟨_, rfl, _, _, rfl, rfl, _, rfl, ?_⟩⟩
    have hd1 := Dp.same e1 (tupd_doc d) hd
    cases q : ixF d (ofNat n) with
    | none =>
      rw [ixI_none q]
      exact k _ _ e1 (none_opt (ap_write_no q))
    | some i =>
      rw [ixI_some q]
      obtain ⟨c, hc, hcn⟩ := ixF_at q
      obtain ⟨x, hx, hxc⟩ := at_ix (n := n) hdc hc
      refine ite2 (fun z => absurd (of_decide_eq_true z) (by omega)) (fun _ => ?_)
      have hxc1 := Dp.same e1 (tupd_cell c) hxc
      refine ⟨_, rfl, _, rfl, ad, _, _, _, rfl, rfl, e1.tup hds, atI_nat hx, ?_⟩
      refine ⟨_, rfl, _, rfl, _, rfl, x, c, rfl, hxc1, _, rfl, x, c, rfl, hxc1, _, rfl, b, _, 2, _, rfl, rfl, e1.tup hb, rfl, (by show 3 ≤ sizeLine; decide), fun q1 hq1 => ?_⟩
      have e2 := e1.trans (Same.upd (o := .tup [.int (ofNat c.number), .int (markOf c.hidden), tv]) hq1)
      refine ⟨(by show 1 ≤ sizeLine; decide), fun q2 hq2 => ?_⟩
      have e3 := e2.trans (Same.upd (o := .tup [.ref q1]) hq2)
      refine ⟨_, _, d, [⟨c.number, c.hidden, t⟩], i, 1, rfl, Dp.same e3 (tupd_doc d) hd, doc_iff.mpr ⟨q2, _, rfl, SqT.of upd_same, .cons (cell_mk (SqT.of (Same.upd hq2 _ _ upd_same)) rfl rfl (Dp.same e3 (tupd_text t) htv)) .nil⟩, (by have := W.len; simp; omega), fun p H' e4 hp => ?_⟩
      exact k p H' (e3.trans e4) (some_opt (ap_write W.nd q hc) hp)
theorem sc_do_hide : FnScope ["document", "edit", "index", "cell"] ["document", "edit"] (defScope s_do_hide) := scM
theorem ok_do_hide (C : CellsOk P w K mg base) (F : Top K mg "do_hide" s_do_hide) : FnAt P w K mg base "do_hide" 4 ["document", "edit"] (spDo K fun e => ∃ n m, e = .hide n m) := by
  refine F.at_ ub2 fun f fd F => F.ok (k := 3) sc_do_hide (fun vs H Q E h => ?_) (fun cdv A outer s H vs Q E hr h => ?_)
  · obtain ⟨v, u, d, e, rfl, _⟩ := h
    rfl
  · obtain ⟨v, u, d, _, rfl, hd, he, W, hE, ⟨n, m, rfl⟩, k⟩ := h
    have F_index_of := C.index_of
    have F_with_cells := C.with_cells
    have F_number_of := C.number_of
    have F_text_of := C.text_of
    have SC := sc_do_hide
    obtain ⟨b, xs, rfl, hb, hxs⟩ := dp_tup.mp he
    simp only [dpa_cons, dpa_nil, dp_int] at hxs
    obtain ⟨_, _, rfl, rfl, _, _, rfl, rfl, _, _, rfl, rfl, rfl⟩ := hxs
    obtain ⟨ad, ds, rfl, hds, hdc⟩ := doc_iff.mp hd
    refine ⟨_, (pss_cons (ps_set (i := 2) SC.nd rfl (Or.inl rfl) (pe_fn F_index_of (hr.mono (by decide)) rfl (pa_cons (pv 0) (pa_cons (pe_ix ix_tup (pv 1) pe_int (fun _ _ => rfl)) pa_nil))))
      (pss_cons (ps_if (pt_cmpR op_lt (pv 2) pe_int (nomark _)) (pss_one (ps_ret pe_non)) pss_nil)
      (pss_cons (ps_set (i := 3) SC.nd rfl (Or.inl rfl) (pe_ix ix_tup (pv 0) (pv 2) (fun _ _ => rfl)))
      (pss_one (ps_ret (pe_fn F_with_cells (hr.mono (by decide)) rfl (pa_cons (pv 0) (pa_cons (pv 2) (pa_cons pe_int (pa_cons (pe_tup (pa_cons (pe_tup (pa_cons (pe_fn F_number_of (hr.mono (by decide)) rfl (pa_cons (pv 3) pa_nil)) (pa_cons (pe_ix ix_tup (pv 1) pe_int (fun _ _ => rfl)) (pa_cons (pe_fn F_text_of (hr.mono (by decide)) rfl (pa_cons (pv 3) pa_nil)) pa_nil)))) pa_nil)) pa_nil)))))))))), ?_⟩
    refine ⟨_, rfl, _, rfl, b, _, 1, _, rfl, rfl, hb, rfl, _, d, _, rfl, hd, fun H1 e1 => ⟨_, rfl, _, _, rfl, rfl, _, rfl, ?_⟩⟩
    cases q : ixF d (ofNat n) with
    | none =>
      rw [ixI_none q]
      exact k _ _ e1 (none_opt (ap_hide_no q))
    | some i =>
      rw [ixI_some q]
      obtain ⟨c, hc, hcn⟩ := ixF_at q
      obtain ⟨x, hx, hxc⟩ := at_ix (n := n) hdc hc
      refine ite2 (fun z => absurd (of_decide_eq_true z) (by omega)) (fun _ => ?_)
      have hxc1 := Dp.same e1 (tupd_cell c) hxc
      refine ⟨_, rfl, _, rfl, ad, _, _, _, rfl, rfl, e1.tup hds, atI_nat hx, ?_⟩
      refine ⟨_, rfl, _, rfl, _, rfl, x, c, rfl, hxc1, _, rfl, b, _, 2, _, rfl, rfl, e1.tup hb, rfl, _, rfl, x, c, rfl, hxc1, fun tv htv => ⟨(by show 3 ≤ sizeLine; decide), fun q1 hq1 => ?_⟩⟩
      have e2 := e1.trans (Same.upd (o := .tup [.int (ofNat c.number), .int (markOf m), tv]) hq1)
      refine ⟨(by show 1 ≤ sizeLine; decide), fun q2 hq2 => ?_⟩
      have e3 := e2.trans (Same.upd (o := .tup [.ref q1]) hq2)
      refine ⟨_, _, d, [⟨c.number, m, c.text⟩], i, 1, rfl, Dp.same e3 (tupd_doc d) hd, doc_iff.mpr ⟨q2, _, rfl, SqT.of upd_same, .cons (cell_mk (SqT.of (Same.upd hq2 _ _ upd_same)) rfl rfl (Dp.same ((Same.upd hq1).trans (Same.upd hq2)) (tupd_text c.text) htv)) .nil⟩, (by have := W.len; simp; omega), fun p H' e4 hp => ?_⟩
      exact k p H' (e3.trans e4) (some_opt (ap_hide W.nd q hc) hp)
theorem sc_do_drop : FnScope ["document", "edit", "index"] ["document", "edit"] (defScope s_do_drop) := scM
theorem ok_do_drop (C : CellsOk P w K mg base) (F : Top K mg "do_drop" s_do_drop) : FnAt P w K mg base "do_drop" 4 ["document", "edit"] (spDo K fun e => ∃ n, e = .drop n) := by
  refine F.at_ ub2 fun f fd F => F.ok (k := 3) sc_do_drop (fun vs H Q E h => ?_) (fun cdv A outer s H vs Q E hr h => ?_)
  · obtain ⟨v, u, d, e, rfl, _⟩ := h
    rfl
  · obtain ⟨v, u, d, _, rfl, hd, he, W, hE, ⟨n, rfl⟩, k⟩ := h
    have F_index_of := C.index_of
    have F_with_cells := C.with_cells
    have SC := sc_do_drop
    obtain ⟨b, xs, rfl, hb, hxs⟩ := dp_tup.mp he
    simp only [dpa_cons, dpa_nil, dp_int] at hxs
    obtain ⟨_, _, rfl, rfl, _, _, rfl, rfl, rfl⟩ := hxs
    refine ⟨_, (pss_cons (ps_set (i := 2) SC.nd rfl (Or.inl rfl) (pe_fn F_index_of (hr.mono (by decide)) rfl (pa_cons (pv 0) (pa_cons (pe_ix ix_tup (pv 1) pe_int (fun _ _ => rfl)) pa_nil))))
      (pss_cons (ps_if (pt_cmpR op_lt (pv 2) pe_int (nomark _)) (pss_one (ps_ret pe_non)) pss_nil)
      (pss_one (ps_ret (pe_fn F_with_cells (hr.mono (by decide)) rfl (pa_cons (pv 0) (pa_cons (pv 2) (pa_cons pe_int (pa_cons (pe_tup pa_nil) pa_nil))))))))), ?_⟩
    refine ⟨_, rfl, _, rfl, b, _, 1, _, rfl, rfl, hb, rfl, _, d, _, rfl, hd, fun H1 e1 => ⟨_, rfl, _, _, rfl, rfl, _, rfl, ?_⟩⟩
    cases q : ixF d (ofNat n) with
    | none =>
      rw [ixI_none q]
      exact k _ _ e1 (none_opt (ap_drop_no q))
    | some i =>
      rw [ixI_some q]
      refine ite2 (fun z => absurd (of_decide_eq_true z) (by omega)) (fun _ => ?_)
      refine ⟨_, rfl, _, rfl, Nat.zero_le _, fun q2 hq2 => ?_⟩
      have e3 := e1.trans (Same.upd (o := .tup []) hq2)
      refine ⟨_, _, d, [], i, 1, rfl, Dp.same e3 (tupd_doc d) hd, doc_iff.mpr ⟨q2, _, rfl, SqT.of upd_same, .nil⟩, (by have := W.len; simp; omega), fun p H' e4 hp => ?_⟩
      exact k p H' (e3.trans e4) (some_opt (ap_drop W.nd q) hp)
theorem sc_do_move : FnScope ["document", "edit", "number", "after", "index", "others"] ["document", "edit"] (defScope s_do_move) := scM
theorem ok_do_move (C : CellsOk P w K mg base) (F : Top K mg "do_move" s_do_move) : FnAt P w K mg base "do_move" 4 ["document", "edit"] (spDo K fun e => ∃ n a, e = .move n a) := by
  refine F.at_ ub2 fun f fd F => F.ok (k := 3) sc_do_move (fun vs H Q E h => ?_) (fun cdv A outer s H vs Q E hr h => ?_)
  · obtain ⟨v, u, d, e, rfl, _⟩ := h
    rfl
  · obtain ⟨v, u, d, _, rfl, hd, he, W, hE, ⟨n, a, rfl⟩, k⟩ := h
    have F_index_of := C.index_of
    have F_has_cell := C.has_cell
    have F_with_cells := C.with_cells
    have F_put_behind := C.put_behind
    have SC := sc_do_move
    obtain ⟨b, xs, rfl, hb, hxs⟩ := dp_tup.mp he
    simp only [dpa_cons, dpa_nil, dp_int] at hxs
    obtain ⟨_, _, rfl, rfl, _, _, rfl, rfl, _, _, rfl, rfl, rfl⟩ := hxs
    obtain ⟨ad, ds, rfl, hds, hdc⟩ := doc_iff.mp hd
    refine ⟨_, (pss_cons (ps_set (i := 2) SC.nd rfl (Or.inl rfl) (pe_ix ix_tup (pv 1) pe_int (fun _ _ => rfl)))
      (pss_cons (ps_set (i := 3) SC.nd rfl (Or.inl rfl) (pe_ix ix_tup (pv 1) pe_int (fun _ _ => rfl)))
      (pss_cons (ps_set (i := 4) SC.nd rfl (Or.inl rfl) (pe_fn F_index_of (hr.mono (by decide)) rfl (pa_cons (pv 0) (pa_cons (pv 2) pa_nil))))
      (pss_cons (ps_if (PW.pt (pw_or (pt_cmpR op_lt (pv 4) pe_int (nomark _)) (pw_or1 (pt_cmpR op_eq (pv 3) (pv 2) (nomark _))))) (pss_one (ps_ret pe_non)) pss_nil)
      (pss_cons (ps_if (PW.pt (pw_and (pt_cmpR op_ne (pv 3) pe_int (nomark _)) (pw_and1 (pt_not (pt_val (pe_fn F_has_cell (hr.mono (by decide)) rfl (pa_cons (pv 0) (pa_cons (pv 3) pa_nil)))))))) (pss_one (ps_ret pe_non)) pss_nil)
      (pss_cons (ps_set (i := 5) SC.nd rfl (Or.inl rfl) (pe_fn F_with_cells (hr.mono (by decide)) rfl (pa_cons (pv 0) (pa_cons (pv 4) (pa_cons pe_int (pa_cons (pe_tup pa_nil) pa_nil))))))
      (pss_one (ps_ret (pe_fn F_put_behind (hr.mono (by decide)) rfl (pa_cons (pv 5) (pa_cons (pv 3) (pa_cons (pe_ix ix_tup (pv 0) (pv 4) (fun _ _ => rfl)) pa_nil)))))))))))), ?_⟩
    refine ⟨_, rfl, b, _, 1, _, rfl, rfl, hb, rfl, _, rfl, b, _, 2, _, rfl, rfl, hb, rfl, _, rfl, _, rfl, _, d, _, rfl, hd, fun H1 e1 => ⟨_, rfl, _, _, rfl, rfl, _, rfl, ?_⟩⟩
    cases q : ixF d (ofNat n) with
    | none =>
      rw [ixI_none q]
      exact k _ _ e1 (none_opt (ap_move_no (.inl q)))
    | some i =>
      rw [ixI_some q]
      obtain ⟨c, hc, hcn⟩ := ixF_at q
      obtain ⟨x, hx, hxc⟩ := at_ix (n := n) hdc hc
      refine ite2 (fun z => absurd (of_decide_eq_true z) (by omega)) (fun _ => ?_)
      refine ⟨_, rfl, _, rfl, rfl, _, rfl, ?_⟩
      have hcat : ∀ H2, Same H H2 → a ≠ n → (a = 0 ∨ (ixF d (ofNat a)).isSome = true) → ∀ q2 : Addr, H2 q2 = none → spWith K [.ref ad, .int (i : Int), .int 1, .ref q2] (upd H2 q2 (.tup []))
          (fun p H3 => spPut K [p, .int (ofNat a), x] H3 Q E0) E0 := by
        intro H2 e2 hne ha q2 hq2
        have e3 := e2.trans (Same.upd (o := .tup []) hq2)
        refine ⟨_, _, d, [], i, 1, rfl, Dp.same e3 (tupd_doc d) hd, doc_iff.mpr ⟨q2, _, rfl, SqT.of upd_same, .nil⟩, (by have := W.len; simp; omega), fun p H3 e4 hp => ?_⟩
        have e5 := e3.trans e4
        refine ⟨p, x, cut d i, c, a, rfl, hp, Dp.same e5 (tupd_cell c) hxc, Nat.le_trans (cut_sub d i).length_le (Nat.le_trans W.len (by decide)), fun r H4 e6 hr4 => ?_⟩
        refine k r H4 (e5.trans e6) (some_opt ?_ hr4)
        rw [ap_move W.nd q hc hne, if_pos]
        rcases ha with ha | ha
        · exact .inl ha
        · refine .inr ?_
          rw [ix_cut W.nd q (by omega)]
          exact ha
      refine ite2 (fun z => ?_) (fun z => ?_)
      · have : ofNat a = ofNat n := V.int.inj (of_decide_eq_true z)
        exact k _ _ e1 (none_opt (ap_move_no (.inr (by unfold ofNat at this; omega))))
      · have hne : a ≠ n := fun y => z (decide_eq_true (by rw [y]))
        refine ⟨_, rfl, rfl, _, rfl, ?_⟩
        by_cases ha : a = 0
        · refine iteNS (c := V.int (ofNat a) = V.int 0) (by rw [ha]; rfl) ?_
          refine ⟨_, rfl, _, rfl, Nat.zero_le _, fun q2 hq2 => ?_⟩
          obtain ⟨v1, u1, d1, cs1, i1, k1, e1', hh⟩ := hcat H1 e1 hne (.inl ha) q2 hq2
          refine ⟨v1, u1, d1, cs1, i1, k1, e1', hh.1, hh.2.1, hh.2.2.1, fun p H3 e4 hp => ?_⟩
          have e5 := (e1.trans (Same.upd (o := .tup []) hq2)).trans e4
          exact ⟨_, rfl, _, rfl, _, rfl, _, rfl, ad, _, _, _, rfl, rfl, e5.tup hds, atI_nat hx, hh.2.2.2 p H3 e4 hp⟩
        · have hz : ¬ (V.int (ofNat a) = V.int 0) := fun z => ha (by have := V.int.inj z; unfold ofNat at this; omega)
          rw [decide_eq_false hz]
          refine iteT ?_
          refine ⟨_, rfl, _, rfl, _, d, _, rfl, Dp.same e1 (tupd_doc d) hd, fun H2 e2 => ⟨_, rfl, ?_⟩⟩
          cases hs : (ixF d (ofNat a)).isSome with
          | false =>
            refine k _ _ (e1.trans e2) (none_opt ?_)
            rw [ap_move W.nd q hc hne, if_neg]
            rintro (y | y)
            · exact ha y
            · rw [ix_cut W.nd q (by omega), show ((a : Nat) : Int) = ofNat a from rfl, hs] at y
              cases y
          | true =>
            refine ⟨_, rfl, _, rfl, Nat.zero_le _, fun q2 hq2 => ?_⟩
            obtain ⟨v1, u1, d1, cs1, i1, k1, e1', hh⟩ := hcat H2 (e1.trans e2) hne (.inr hs) q2 hq2
            refine ⟨v1, u1, d1, cs1, i1, k1, e1', hh.1, hh.2.1, hh.2.2.1, fun p H3 e4 hp => ?_⟩
            have e5 := ((e1.trans e2).trans (Same.upd (o := .tup []) hq2)).trans e4
            exact ⟨_, rfl, _, rfl, _, rfl, _, rfl, ad, _, _, _, rfl, rfl, e5.tup hds, atI_nat hx, hh.2.2.2 p H3 e4 hp⟩
end
end CP
namespace CP
open PySem PySem.Spec PyProof.Rows L2 CM
open Vanbkd (Doc Cell Text Edit ofNat nats markOf found replaced apply)
section
variable {P : Program} {w : World} {K : PySem.W.Frag} {mg : Str → Option Value} {base : Heap}
theorem sc_do_split : FnScope ["document", "edit", "place", "new_number", "index", "cell", "text", "first", "second"] ["document", "edit"] (defScope s_do_split) := scM
theorem ok_do_split (T : Txt mg) (N : Nums mg) (C : CellsOk P w K mg base) (F : Top K mg "do_split" s_do_split) : FnAt P w K mg base "do_split" 4 ["document", "edit"] (spDo K fun e => ∃ n p m, e = .split n p m) := by
  refine F.at_ ub2 fun f fd F => F.ok (k := 3) sc_do_split (fun vs H Q E h => ?_) (fun cdv A outer s H vs Q E hr h => ?_)
  · obtain ⟨v, u, d, e, rfl, _⟩ := h
    rfl
  · obtain ⟨v, u, d, _, rfl, hd, he, W, hE, ⟨n, p, m, rfl⟩, k⟩ := h
    have F_index_of := C.index_of
    have F_has_cell := C.has_cell
    have F_with_cells := C.with_cells
    have F_text_of := C.text_of
    have F_number_of := C.number_of
    have F_mark_of := C.mark_of
    have SC := sc_do_split
    obtain ⟨b, xs, rfl, hb, hxs⟩ := dp_tup.mp he
    simp only [dpa_cons, dpa_nil, dp_int] at hxs
    obtain ⟨_, _, rfl, rfl, _, _, rfl, rfl, _, _, rfl, rfl, _, _, rfl, rfl, rfl⟩ := hxs
    obtain ⟨ad, ds, rfl, hds, hdc⟩ := doc_iff.mp hd
    have ld : ds.length = d.length := by rw [DpAll.length hdc, List.length_map]
    refine ⟨_, (pss_cons (ps_set (i := 2) SC.nd rfl (Or.inl rfl) (pe_ix ix_tup (pv 1) pe_int (fun _ _ => rfl)))
      (pss_cons (ps_set (i := 3) SC.nd rfl (Or.inl rfl) (pe_ix ix_tup (pv 1) pe_int (fun _ _ => rfl)))
      (pss_cons (ps_set (i := 4) SC.nd rfl (Or.inl rfl) (pe_fn F_index_of (hr.mono (by decide)) rfl (pa_cons (pv 0) (pa_cons (pe_ix ix_tup (pv 1) pe_int (fun _ _ => rfl)) pa_nil))))
      (pss_cons (ps_if (PW.pt (pw_or (pt_cmpR op_lt (pv 4) pe_int (nomark _)) (pw_or1 (pt_cmpR op_lt (pe_callB call_len_seq (by rfl) T.b_len PySem.boot_len (pa_cons (pe_fn F_text_of (hr.mono (by decide)) rfl (pa_cons (pe_ix ix_tup (pv 0) (pv 4) (fun _ _ => rfl)) pa_nil)) pa_nil)) (pv 2) (nomark _))))) (pss_one (ps_ret pe_non)) pss_nil)
      (pss_cons (ps_if (PW.pt (pw_or (pt_val (pe_fn F_has_cell (hr.mono (by decide)) rfl (pa_cons (pv 0) (pa_cons (pv 3) pa_nil)))) (pw_or1 (pt_cmpR op_ge (pe_callB call_len_seq (by rfl) T.b_len PySem.boot_len (pa_cons (pv 0) pa_nil)) (pe_gint rfl N.c_MOST_CELLS) (nomark _))))) (pss_one (ps_ret pe_non)) pss_nil)
      (pss_cons (ps_set (i := 5) SC.nd rfl (Or.inl rfl) (pe_ix ix_tup (pv 0) (pv 4) (fun _ _ => rfl)))
      (pss_cons (ps_set (i := 6) SC.nd rfl (Or.inl rfl) (pe_fn F_text_of (hr.mono (by decide)) rfl (pa_cons (pv 5) pa_nil)))
      (pss_cons (ps_set (i := 7) SC.nd rfl (Or.inl rfl) (pe_tup (pa_cons (pe_fn F_number_of (hr.mono (by decide)) rfl (pa_cons (pv 5) pa_nil)) (pa_cons (pe_fn F_mark_of (hr.mono (by decide)) rfl (pa_cons (pv 5) pa_nil)) (pa_cons (pe_slice sl_tupA (pv 6) po_none (po_some (pv 2))) pa_nil)))))
      (pss_cons (ps_set (i := 8) SC.nd rfl (Or.inl rfl) (pe_tup (pa_cons (pv 3) (pa_cons (pe_fn F_mark_of (hr.mono (by decide)) rfl (pa_cons (pv 5) pa_nil)) (pa_cons (pe_slice sl_tupA (pv 6) (po_some (pv 2)) po_none) pa_nil)))))
      (pss_one (ps_ret (pe_fn F_with_cells (hr.mono (by decide)) rfl (pa_cons (pv 0) (pa_cons (pv 4) (pa_cons pe_int (pa_cons (pe_tup (pa_cons (pv 7) (pa_cons (pv 8) pa_nil))) pa_nil)))))))))))))))), ?_⟩
    refine ⟨_, rfl, b, _, 2, _, rfl, rfl, hb, rfl, _, rfl, b, _, 3, _, rfl, rfl, hb, rfl, _, rfl, _, rfl, b, _, 1, _, rfl, rfl, hb, rfl, _, d, _, rfl, hd, fun H1 e1 => ⟨_, rfl, _, _, rfl, rfl, _, rfl, ?_⟩⟩
    cases q : ixF d (ofNat n) with
    | none =>
      rw [ixI_none q]
      exact k _ _ e1 (none_opt (ap_split_no q))
    | some i =>
      rw [ixI_some q]
      obtain ⟨c, hc, hcn⟩ := ixF_at q
      obtain ⟨x, hx, hxc⟩ := at_ix (n := n) hdc hc
      have hct := W.txt c (List.mem_of_getElem? hc)
      refine ite2 (fun z => absurd (of_decide_eq_true z) (by omega)) (fun _ => ?_)
      have hxc1 := Dp.same e1 (tupd_cell c) hxc
      refine ⟨_, rfl, _, rfl, ad, _, _, _, rfl, rfl, e1.tup hds, atI_nat hx, x, c, rfl, hxc1, fun tv htv => ?_⟩
      obtain ⟨ta, rfl, hta⟩ := textN.mp htv
      refine ⟨ta, _, rfl, .inr hta, _, rfl, _, _, rfl, rfl, _, rfl, ?_⟩
      rw [nv_len]
      refine ite2 (fun z => ?_) (fun z => ?_)
      · have hz : c.text.length < p := by
          have := of_decide_eq_true z
          unfold ofNat at this
          omega
        exact k _ _ e1 (none_opt (ap_split_no2 q hc (.inl hz)))
      · have hz : ¬ c.text.length < p := fun y => z (decide_eq_true (by unfold ofNat; omega))
        refine ⟨_, rfl, _, rfl, _, d, _, rfl, Dp.same e1 (tupd_doc d) hd, fun H2 e2 => ⟨_, rfl, ?_⟩⟩
        have e12 := e1.trans e2
        refine ite2 (fun hq => ?_) (fun hq => ?_)
        · exact k _ _ e12 (none_opt (ap_split_no2 q hc (.inr (.inl hq))))
        · refine ⟨_, rfl, ad, _, rfl, .inr (e12.tup hds), _, _, rfl, rfl, _, rfl, ?_⟩
          rw [ld]
          refine ite2 (fun hl => ?_) (fun hl => ?_)
          · exact k _ _ e12 (none_opt (ap_split_no2 q hc (.inr (.inr (by have := of_decide_eq_true hl; omega)))))
          · have hl' : ¬ 12 ≤ d.length := fun y => hl (decide_eq_true (by omega))
            have q1 : ¬ (c.text.length < p ∨ (ixF d m).isSome = true ∨ 12 ≤ d.length) := by
              rintro (y | y | y)
              · exact hz y
              · exact hq y
              · exact hl' y
            have hxc2 := Dp.same e12 (tupd_cell c) hxc
            refine ⟨_, rfl, _, rfl, ad, _, _, _, rfl, rfl, e12.tup hds, atI_nat hx, _, rfl, x, c, rfl, hxc2, fun tw htw => ?_⟩
            obtain ⟨tb, rfl, htb⟩ := textN.mp htw
            refine ⟨_, rfl, x, c, rfl, hxc2, _, rfl, x, c, rfl, hxc2, _, rfl, _, rfl, _, rfl, tb, _, rfl, htb, fun p1 H3 e3 hp1 => ⟨(by show 3 ≤ sizeLine; decide), fun q3 hq3 => ?_⟩⟩
            rw [show ofNat p = ((p : Nat) : Int) from rfl, cut_to, nv_take] at hp1
            have e4 := e3.trans (Same.upd (o := .tup [.int (ofNat c.number), .int (markOf c.hidden), .ref p1]) hq3)
            refine ⟨_, rfl, _, rfl, x, c, rfl, Dp.same (e12.trans e4) (tupd_cell c) hxc, _, rfl, _, rfl, _, rfl, tb, _, rfl, e4.tup htb, fun p2 H5 e5 hp2 => ⟨(by show 3 ≤ sizeLine; decide), fun q5 hq5 => ?_⟩⟩
            rw [show ofNat p = ((p : Nat) : Int) from rfl, cut_from, nv_drop] at hp2
            have e6 := e5.trans (Same.upd (o := .tup [.int (ofNat m), .int (markOf c.hidden), .ref p2]) hq5)
            refine ⟨_, rfl, _, rfl, _, rfl, _, rfl, (by show 2 ≤ sizeLine; decide), fun q7 hq7 => ?_⟩
            have e7 := Same.upd (o := .tup [.ref q3, .ref q5]) hq7
            have e8 := ((e12.trans e4).trans e6).trans e7
            have c1 : Dp K (upd (upd H5 q5 (.tup [.int (ofNat m), .int (markOf c.hidden), .ref p2])) q7 (.tup [.ref q3, .ref q5])) (.ref q3) (eCell ⟨c.number, c.hidden, c.text.take p⟩) :=
              cell_mk (SqT.of (e7 _ _ (e6 _ _ upd_same))) rfl rfl (textN.mpr ⟨p1, rfl, e7.tup (e6.tup ((Same.upd hq3).tup hp1))⟩)
            have c2 : Dp K (upd (upd H5 q5 (.tup [.int (ofNat m), .int (markOf c.hidden), .ref p2])) q7 (.tup [.ref q3, .ref q5])) (.ref q5) (eCell ⟨m, c.hidden, c.text.drop p⟩) :=
              cell_mk (SqT.of (e7 _ _ upd_same)) rfl rfl (textN.mpr ⟨p2, rfl, e7.tup ((Same.upd hq5).tup hp2)⟩)
            refine ⟨_, _, d, [⟨c.number, c.hidden, c.text.take p⟩, ⟨m, c.hidden, c.text.drop p⟩], i, 1, rfl, Dp.same e8 (tupd_doc d) hd, doc_iff.mpr ⟨q7, _, rfl, SqT.of upd_same, .cons c1 (.cons c2 .nil)⟩, (by have := W.len; simp; omega), fun r H' e9 hr' => ?_⟩
            exact k r H' (e8.trans e9) (some_opt (ap_split W.nd q hc q1) hr')
theorem sc_do_join : FnScope ["document", "edit", "index", "cell", "text"] ["document", "edit"] (defScope s_do_join) := scM
theorem ok_do_join (T : Txt mg) (N : Nums mg) (C : CellsOk P w K mg base) (F : Top K mg "do_join" s_do_join) : FnAt P w K mg base "do_join" 4 ["document", "edit"] (spDo K fun e => ∃ n, e = .join n) := by
  refine F.at_ ub2 fun f fd F => F.ok (k := 3) sc_do_join (fun vs H Q E h => ?_) (fun cdv A outer s H vs Q E hr h => ?_)
  · obtain ⟨v, u, d, e, rfl, _⟩ := h
    rfl
  · obtain ⟨v, u, d, _, rfl, hd, he, W, hE, ⟨n, rfl⟩, k⟩ := h
    have F_index_of := C.index_of
    have F_with_cells := C.with_cells
    have F_text_of := C.text_of
    have F_number_of := C.number_of
    have F_mark_of := C.mark_of
    have SC := sc_do_join
    obtain ⟨b, xs, rfl, hb, hxs⟩ := dp_tup.mp he
    simp only [dpa_cons, dpa_nil, dp_int] at hxs
    obtain ⟨_, _, rfl, rfl, _, _, rfl, rfl, rfl⟩ := hxs
    obtain ⟨ad, ds, rfl, hds, hdc⟩ := doc_iff.mp hd
    have ld : ds.length = d.length := by rw [DpAll.length hdc, List.length_map]
    refine ⟨_, (pss_cons (ps_set (i := 2) SC.nd rfl (Or.inl rfl) (pe_fn F_index_of (hr.mono (by decide)) rfl (pa_cons (pv 0) (pa_cons (pe_ix ix_tup (pv 1) pe_int (fun _ _ => rfl)) pa_nil))))
      (pss_cons (ps_if (PW.pt (pw_or (pt_cmpR op_lt (pv 2) pe_int (nomark _)) (pw_or1 (pt_cmpR op_eq (pe_op op_add (pv 2) pe_int) (pe_callB call_len_seq (by rfl) T.b_len PySem.boot_len (pa_cons (pv 0) pa_nil)) (nomark _))))) (pss_one (ps_ret pe_non)) pss_nil)
      (pss_cons (ps_set (i := 3) SC.nd rfl (Or.inl rfl) (pe_ix ix_tup (pv 0) (pv 2) (fun _ _ => rfl)))
      (pss_cons (ps_set (i := 4) SC.nd rfl (Or.inl rfl) (pe_op op_catTA (pe_fn F_text_of (hr.mono (by decide)) rfl (pa_cons (pv 3) pa_nil)) (pe_fn F_text_of (hr.mono (by decide)) rfl (pa_cons (pe_ix ix_tup (pv 0) (pe_op op_add (pv 2) pe_int) (fun _ _ => rfl)) pa_nil))))
      (pss_cons (ps_if (pt_cmpR op_gt (pe_callB call_len_seq (by rfl) T.b_len PySem.boot_len (pa_cons (pv 4) pa_nil)) (pe_gint rfl N.c_LONGEST_TEXT) (nomark _)) (pss_one (ps_ret pe_non)) pss_nil)
      (pss_one (ps_ret (pe_fn F_with_cells (hr.mono (by decide)) rfl (pa_cons (pv 0) (pa_cons (pv 2) (pa_cons pe_int (pa_cons (pe_tup (pa_cons (pe_tup (pa_cons (pe_fn F_number_of (hr.mono (by decide)) rfl (pa_cons (pv 3) pa_nil)) (pa_cons (pe_fn F_mark_of (hr.mono (by decide)) rfl (pa_cons (pv 3) pa_nil)) (pa_cons (pv 4) pa_nil)))) pa_nil)) pa_nil)))))))))))), ?_⟩
    refine ⟨_, rfl, _, rfl, b, _, 1, _, rfl, rfl, hb, rfl, _, d, _, rfl, hd, fun H1 e1 => ⟨_, rfl, _, _, rfl, rfl, _, rfl, ?_⟩⟩
    cases q : ixF d (ofNat n) with
    | none =>
      rw [ixI_none q]
      exact k _ _ e1 (none_opt (ap_join_no q))
    | some i =>
      rw [ixI_some q]
      have hil := ixF_lt q
      obtain ⟨c, hc, hcn⟩ := ixF_at q
      obtain ⟨x, hx, hxc⟩ := at_ix (n := n) hdc hc
      have hct := W.txt c (List.mem_of_getElem? hc)
      refine ite2 (fun z => absurd (of_decide_eq_true z) (by omega)) (fun _ => ?_)
      refine ⟨_, rfl, _, _, rfl, rfl, _, rfl, ad, _, rfl, .inr (e1.tup hds), rfl, _, rfl, ?_⟩
      rw [ld]
      refine ite2 (fun z => ?_) (fun z => ?_)
      · have hz : i + 1 = d.length := by
          have := V.int.inj (of_decide_eq_true z)
          omega
        exact k _ _ e1 (none_opt (ap_join_no2 q hc (List.getElem?_eq_none (by omega))))
      · have hz : i + 1 < d.length := by
          have : ¬ i + 1 = d.length := fun y => z (decide_eq_true (congrArg V.int (by omega)))
          omega
        obtain ⟨c2, hc2⟩ : ∃ c2, d[i + 1]? = some c2 := ⟨_, List.getElem?_eq_getElem hz⟩
        obtain ⟨x2, hx2, hxc2⟩ := at_ix (n := n) hdc hc2
        have hct2 := W.txt c2 (List.mem_of_getElem? hc2)
        refine ⟨_, rfl, _, rfl, ad, _, _, _, rfl, rfl, e1.tup hds, atI_nat hx, _, rfl, x, c, rfl, Dp.same e1 (tupd_cell c) hxc, fun tv htv => ?_⟩
        obtain ⟨ta, rfl, hta⟩ := textN.mp htv
        refine ⟨_, rfl, _, rfl, _, _, rfl, rfl, ad, _, _, _, rfl, rfl, e1.tup hds, at_of (j := i + 1) (by omega) hx2, x2, c2, rfl, Dp.same e1 (tupd_cell c2) hxc2, fun tw htw => ?_⟩
        obtain ⟨tb, rfl, htb⟩ := textN.mp htw
        have big : (400 : Nat) ≤ sizeLine := by decide
        refine ⟨ta, tb, _, _, rfl, rfl, hta, htb, (by rw [nv_len, nv_len]; omega), fun p1 H2 e2 hp1 => ?_⟩
        rw [nv_app] at hp1
        have e12 := e1.trans e2
        refine ⟨_, rfl, p1, _, rfl, .inr hp1, _, _, rfl, rfl, _, rfl, ?_⟩
        rw [nv_len, List.length_append]
        refine ite2 (fun y => ?_) (fun y => ?_)
        · have hy : 200 < c.text.length + c2.text.length := by
            have := of_decide_eq_true y
            omega
          exact k _ _ e12 (none_opt (ap_join_no3 q hc hc2 hy))
        · have hy : ¬ 200 < c.text.length + c2.text.length := fun g => y (decide_eq_true (by omega))
          have hxc12 := Dp.same e12 (tupd_cell c) hxc
          refine ⟨_, rfl, _, rfl, _, rfl, x, c, rfl, hxc12, _, rfl, x, c, rfl, hxc12, _, rfl, (by show 3 ≤ sizeLine; decide), fun q1 hq1 => ?_⟩
          refine ⟨(by show 1 ≤ sizeLine; decide), fun q2 hq2 => ?_⟩
          have e3 := Same.upd (o := .tup [.int (ofNat c.number), .int (markOf c.hidden), .ref p1]) hq1
          have e4 := Same.upd (o := .tup [.ref q1]) hq2
          have e5 := (e12.trans e3).trans e4
          refine ⟨_, _, d, [⟨c.number, c.hidden, c.text ++ c2.text⟩], i, 2, rfl, Dp.same e5 (tupd_doc d) hd, doc_iff.mpr ⟨q2, _, rfl, SqT.of upd_same, .cons (cell_mk (SqT.of (e4 _ _ upd_same)) rfl rfl (textN.mpr ⟨p1, rfl, e4.tup (e3.tup hp1)⟩)) .nil⟩, (by have := W.len; simp; omega), fun r H' e9 hr' => ?_⟩
          exact k r H' (e5.trans e9) (some_opt (ap_join W.nd q hc hc2 hy) hr')
end
end CP
namespace CP
open PySem PySem.Spec PyProof.Rows L2 CM
open Vanbkd (Doc Cell Text Edit ofNat nats markOf found replaced apply)
section
variable {P : Program} {w : World} {K : PySem.W.Frag} {mg : Str → Option Value} {base : Heap}
theorem ix_nat {n j : Nat} (h : j < n) : ixN n (j : Int) = some j := by
  unfold ixN
  rw [if_pos (by omega), if_pos (by omega)]
  simp
theorem sc_do_swap : FnScope ["document", "edit", "index_a", "index_b", "swapped"] ["document", "edit"] (defScope s_do_swap) := scM
theorem ok_do_swap (T : Txt mg) (C : CellsOk P w K mg base) (F : Top K mg "do_swap" s_do_swap) : FnAt P w K mg base "do_swap" 4 ["document", "edit"] (spDo K fun e => ∃ a b, e = .swap a b) := by
  refine F.at_ ub2 fun f fd F => F.ok (k := 3) sc_do_swap (fun vs H Q E h => ?_) (fun cdv A outer s H vs Q E hr h => ?_)
  · obtain ⟨v, u, d, e, rfl, _⟩ := h
    rfl
  · obtain ⟨v, u, d, _, rfl, hd, he, W, hE, ⟨na, nb, rfl⟩, k⟩ := h
    have F_index_of := C.index_of
    have SC := sc_do_swap
    obtain ⟨b, xs, rfl, hb, hxs⟩ := dp_tup.mp he
    simp only [dpa_cons, dpa_nil, dp_int] at hxs
    obtain ⟨_, _, rfl, rfl, _, _, rfl, rfl, _, _, rfl, rfl, rfl⟩ := hxs
    obtain ⟨ad, ds, rfl, hds, hdc⟩ := doc_iff.mp hd
    have ld : ds.length = d.length := by rw [DpAll.length hdc, List.length_map]
    refine ⟨_, (pss_cons (ps_set (i := 2) SC.nd rfl (Or.inl rfl) (pe_fn F_index_of (hr.mono (by decide)) rfl (pa_cons (pv 0) (pa_cons (pe_ix ix_tup (pv 1) pe_int (fun _ _ => rfl)) pa_nil))))
      (pss_cons (ps_set (i := 3) SC.nd rfl (Or.inl rfl) (pe_fn F_index_of (hr.mono (by decide)) rfl (pa_cons (pv 0) (pa_cons (pe_ix ix_tup (pv 1) pe_int (fun _ _ => rfl)) pa_nil))))
      (pss_cons (ps_if (PW.pt (pw_or (pt_cmpR op_lt (pv 2) pe_int (nomark _)) (pw_or1 (pt_cmpR op_lt (pv 3) pe_int (nomark _))))) (pss_one (ps_ret pe_non)) pss_nil)
      (pss_cons (ps_set (i := 4) SC.nd rfl (Or.inl rfl) (pe_callTy call_list_of (by rfl) T.b_list boot_list (pa_cons (pv 0) pa_nil)))
      (pss_cons (ps_asg (pe_ix ix_tup (pv 0) (pv 3) (fun _ _ => rfl)) (pg_sub (pv 4) (pv 2) set_list))
      (pss_cons (ps_asg (pe_ix ix_tup (pv 0) (pv 2) (fun _ _ => rfl)) (pg_sub (pv 4) (pv 3) set_list))
      (pss_one (ps_ret (pe_callTy call_tuple_of (by rfl) T.b_tuple boot_tuple (pa_cons (pv 4) pa_nil)))))))))), ?_⟩
    refine ⟨_, rfl, _, rfl, b, _, 1, _, rfl, rfl, hb, rfl, _, d, _, rfl, hd, fun H1 e1 => ?_⟩
    refine ⟨_, rfl, _, rfl, b, _, 2, _, rfl, rfl, e1.tup hb, rfl, _, d, _, rfl, Dp.same e1 (tupd_doc d) hd, fun H2 e2 => ⟨_, rfl, _, _, rfl, rfl, _, rfl, ?_⟩⟩
    have e12 := e1.trans e2
    cases qa : ixF d (ofNat na) with
    | none =>
      rw [ixI_none qa]
      exact k _ _ e12 (none_opt (ap_swap_no (.inl qa)))
    | some i =>
      rw [ixI_some qa]
      obtain ⟨c, hc, _⟩ := ixF_at qa
      obtain ⟨x, hx, hxc⟩ := at_ix (n := na) hdc hc
      refine ite2 (fun z => absurd (of_decide_eq_true z) (by omega)) (fun _ => ?_)
      refine ⟨_, rfl, _, _, rfl, rfl, _, rfl, ?_⟩
      cases qb : ixF d (ofNat nb) with
      | none =>
        rw [ixI_none qb]
        exact k _ _ e12 (none_opt (ap_swap_no (.inr qb)))
      | some j =>
        rw [ixI_some qb]
        obtain ⟨c2, hc2, _⟩ := ixF_at qb
        obtain ⟨x2, hx2, hxc2⟩ := at_ix (n := nb) hdc hc2
        have hil := ixF_lt qa
        have hjl := ixF_lt qb
        refine ite2 (fun z => absurd (of_decide_eq_true z) (by omega)) (fun _ => ?_)
        refine ⟨_, rfl, ad, _, rfl, .inr (e12.tup hds), fun l hl => ?_⟩
        have e3 := e12.trans (Same.upd (o := .lst ds) hl)
        refine ⟨_, rfl, _, rfl, ad, _, _, _, rfl, rfl, e3.tup hds, atI_nat hx2, _, rfl, _, rfl, l, _, _, i, rfl, rfl, upd_same, ix_nat (by omega), ?_⟩
        rw [upd_upd]
        have e4 := e12.trans (Same.upd (o := .lst (ds.set i x2)) hl)
        refine ⟨_, rfl, _, rfl, ad, _, _, _, rfl, rfl, e4.tup hds, atI_nat hx, _, rfl, _, rfl, l, _, _, j, rfl, rfl, upd_same, ix_nat (by rw [List.length_set]; omega), ?_⟩
        rw [upd_upd]
        have e5 := e12.trans (Same.upd (o := .lst ((ds.set i x2).set j x)) hl)
        refine ⟨_, rfl, l, _, rfl, .inl ⟨SqL.of upd_same, fun r hr2 => ?_⟩⟩
        have e6 := e5.trans (Same.upd (o := .tup ((ds.set i x2).set j x)) hr2)
        refine k _ _ e6 (some_opt (ap_swap W.nd qa qb hc hc2) (doc_iff.mpr ⟨r, _, rfl, SqT.of upd_same, ?_⟩))
        rw [List.map_set, List.map_set]
        exact DpAll.set (Dp.same e6 (tupd_cell c) hxc) j (DpAll.set (Dp.same e6 (tupd_cell c2) hxc2) i (DpAll.same e6 (tupds_cells d) hdc))
theorem tk_rep (x y : Text) : ∀ l : List Cell, tupds (l.map fun c => eCell ⟨c.number, c.hidden, replaced x y c.text⟩) = true
  | [] => by simp [tupds]
  | a :: r => by
    rw [List.map_cons, tupds, tk_rep x y r, tupd_cell]
    rfl
theorem sc_do_replace : FnScope ["document", "edit", "made", "cell", "text"] ["document", "edit"] (defScope s_do_replace) := scM
theorem ok_do_replace (T : Txt mg) (N : Nums mg) (C : CellsOk P w K mg base) (F : Top K mg "do_replace" s_do_replace) : FnAt P w K mg base "do_replace" 4 ["document", "edit"] (spDo K fun e => ∃ x y, e = .replace x y) := by
  refine F.at_ ub2 fun f fd F => F.ok (k := 3) sc_do_replace (fun vs H Q E h => ?_) (fun cdv A outer s H vs Q E hr h => ?_)
  · obtain ⟨v, u, d, e, rfl, _⟩ := h
    rfl
  · obtain ⟨v, u, d, _, rfl, hd, he, W, hE, ⟨x, y, rfl⟩, k⟩ := h
    have F_text_of := C.text_of
    have F_number_of := C.number_of
    have F_mark_of := C.mark_of
    have F_text_replaced := C.text_replaced
    have SC := sc_do_replace
    obtain ⟨hne, hxl, hyl⟩ := hE
    obtain ⟨b, xs, rfl, hb, hxs⟩ := dp_tup.mp he
    simp only [dpa_cons, dpa_nil, dp_int] at hxs
    obtain ⟨_, _, rfl, rfl, xv, _, rfl, hxv, yv, _, rfl, hyv, rfl⟩ := hxs
    obtain ⟨ad, ds, rfl, hds, hdc⟩ := doc_iff.mp hd
    have ld : ds.length = d.length := by rw [DpAll.length hdc, List.length_map]
    refine ⟨_, (pss_cons (ps_set (i := 2) SC.nd rfl (Or.inl rfl) (pe_lst pa_nil))
      (pss_cons (ps_for PassesOwn.never rfl (pi_tup (pv 0)) (pg_name (i := 3) SC.nd rfl (Or.inl rfl)) (pss_cons (ps_set (i := 4) SC.nd rfl (Or.inl rfl) (pe_fn F_text_replaced (hr.mono (by decide)) rfl (pa_cons (pe_fn F_text_of (hr.mono (by decide)) rfl (pa_cons (pv 3) pa_nil)) (pa_cons (pe_ix ix_tup (pv 1) pe_int (fun _ _ => rfl)) (pa_cons (pe_ix ix_tup (pv 1) pe_int (fun _ _ => rfl)) pa_nil)))))
      (pss_cons (ps_if (pt_cmpR op_isN (pv 4) pe_non (nomark _)) (pss_one (ps_ret pe_non)) pss_nil)
      (pss_one (ps_expr (pe_bm PySem.F.plainAttrs_list PySem.F.slot_list_append PySem.F.type_list_append mt_append (pv 2) (pa_cons (pe_tup (pa_cons (pe_fn F_number_of (hr.mono (by decide)) rfl (pa_cons (pv 3) pa_nil)) (pa_cons (pe_fn F_mark_of (hr.mono (by decide)) rfl (pa_cons (pv 3) pa_nil)) (pa_cons (pv 4) pa_nil)))) pa_nil)))))))
      (pss_one (ps_ret (pe_callTy call_tuple_of (by rfl) T.b_tuple boot_tuple (pa_cons (pv 2) pa_nil)))))), ?_⟩
    refine ⟨Nat.zero_le _, fun m hm => ?_⟩
    have nm : ∀ q o, H q = some o → q ≠ m := fun q o hq z => by rw [z, hm] at hq; cases hq
    have e0 : Same H (upd H m (.lst [])) := Same.upd hm
    refine ⟨_, rfl, ad, rfl, ⟨_, e0.tup hds⟩, for_tup (K := K) (a := ad) (xs := ds) (fun i σ H' => ∃ (v3 v4 : Option V) (ms : List V), σ = [some (.ref ad), some (.ref b), some (.ref m), v3, v4] ∧ Same H H' ∧ H' m = some (.lst ms) ∧
        DpAll K H' ms ((d.take i).map fun c => eCell ⟨c.number, c.hidden, replaced x y c.text⟩) ∧ ∀ c ∈ d.take i, ¬ 200 < (replaced x y c.text).length)
      ⟨none, none, [], rfl, e0, upd_same, .nil, fun c hc => by simp at hc⟩ (fun i σ H' _ ⟨_, _, _, _, e, _⟩ => e.tup hds) ?_ ?_⟩
    · rintro i z σ H' hi ⟨v5, v6, ms, rfl, e, hm', hms, hall⟩
      obtain ⟨c, hc, hcell⟩ := cell_at hdc hi
      have hct := W.txt c (List.mem_of_getElem? hc)
      refine ⟨_, rfl, z, c, rfl, Dp.same e (tupd_cell c) hcell, fun tv htv => ?_⟩
      refine ⟨_, rfl, b, _, 1, _, rfl, rfl, e.tup hb, rfl, _, rfl, b, _, 2, _, rfl, rfl, e.tup hb, rfl, tv, xv, yv, c.text, x, y, rfl, htv, Dp.same e (tupd_text x) hxv, Dp.same e (tupd_text y) hyv, hne, hct, hyl, fun r H3 e3 hle hr3 => ?_, fun H3 e3 hgt => ?_⟩
      · have e12 := e.trans e3
        have hg : ¬ 200 < (replaced x y c.text).length := by omega
        have hc2 := Dp.same e12 (tupd_cell c) hcell
        have hm2 := e3 _ _ hm'
        obtain ⟨ra, rfl, _⟩ := textN.mp hr3
        refine ⟨_, rfl, rfl, _, rfl, ?_⟩
        rw [decide_eq_false (show ¬ (V.ref ra = V.non) from fun z => nomatch z)]
        refine iteF ?_
        refine ⟨_, rfl, .inl ⟨rfl, _, SqL.of hm2⟩, _, rfl, z, c, rfl, hc2, _, rfl, z, c, rfl, hc2, _, rfl, (by show 3 ≤ sizeLine; decide), fun q4 hq4 => ?_⟩
        have e4 := Same.upd (o := .tup [.int (ofNat c.number), .int (markOf c.hidden), V.ref ra]) hq4
        have hm4 := e4 _ _ hm2
        have lms : ms.length ≤ 12 := by
          rw [DpAll.length hms, List.length_map, List.length_take]
          have := W.len
          omega
        refine ⟨m, _, _, rfl, rfl, hm4, Nat.lt_of_le_of_lt lms (by decide), ?_⟩
        have kp : TKeep H' (upd (upd H3 q4 (.tup [.int (ofNat c.number), .int (markOf c.hidden), V.ref ra])) m (.lst (ms ++ [V.ref q4]))) := by
          have e5 := e3.trans e4
          refine ⟨fun b' ys hb' => ?_, fun b' o' u' hb' => ?_⟩
          · rw [upd_ne (ne_of hb' hm' (by intro z; cases z))]
            exact e5 _ _ hb'
          · rw [upd_ne (ne_of hb' hm' (by intro z; cases z))]
            exact e5 _ _ hb'
        have kp2 : TKeep (upd H3 q4 (.tup [.int (ofNat c.number), .int (markOf c.hidden), V.ref ra])) (upd (upd H3 q4 (.tup [.int (ofNat c.number), .int (markOf c.hidden), V.ref ra])) m (.lst (ms ++ [V.ref q4]))) := by
          refine ⟨fun b' ys hb' => ?_, fun b' o' u' hb' => ?_⟩
          · rw [upd_ne (ne_of hb' hm4 (by intro z; cases z))]
            exact hb'
          · rw [upd_ne (ne_of hb' hm4 (by intro z; cases z))]
            exact hb'
        refine ⟨some z, some (V.ref ra), ms ++ [V.ref q4], rfl, fun q o hq => ?_, upd_same, ?_, fun c' hc' => ?_⟩
        · rw [upd_ne (nm q o hq)]
          exact e4 _ _ (e12 _ _ hq)
        · rw [List.take_add_one, hc]
          simp only [Option.toList_some, List.map_append, List.map_cons, List.map_nil]
          refine (Dp.keepAll kp _ _ (tk_rep x y _) hms).append (.cons ?_ .nil)
          refine Dp.keep kp2 _ _ (tupd_cell _) (cell_mk (c := ⟨c.number, c.hidden, replaced x y c.text⟩) (SqT.of upd_same) rfl rfl (Dp.same e4 (tupd_text _) hr3))
        · rw [List.take_add_one, hc] at hc'
          rcases List.mem_append.mp hc' with h | h
          · exact hall c' h
          · have : c' = c := by simpa using h
            rw [this]
            exact hg
      · refine ⟨_, rfl, rfl, _, rfl, iteT ?_⟩
        exact k _ _ (e.trans e3) (none_opt (by rw [ap_replace, if_pos ⟨c, List.mem_of_getElem? hc, hgt⟩]))
    · rintro σ H' ⟨v5, v6, ms, rfl, e, hm', hms, hall⟩
      rw [ld, List.take_length] at hms hall
      refine ⟨_, rfl, m, _, rfl, .inl ⟨SqL.of hm', fun r hr2 => ?_⟩⟩
      have e6 := Same.upd (o := .tup ms) hr2
      refine k _ _ (e.trans e6) (some_opt (d := d.map fun c => ⟨c.number, c.hidden, replaced x y c.text⟩) (by rw [ap_replace, if_neg (fun ⟨c, hc, hl⟩ => hall c hc hl)]) (doc_iff.mpr ⟨r, ms, rfl, SqT.of upd_same, ?_⟩))
      rw [List.map_map]
      exact DpAll.same e6 (tk_rep x y d) hms
end
end CP
namespace CP
open PySem PySem.Spec PyProof.Rows L2 CM
open Vanbkd (Doc Cell Text Edit ofNat nats markOf found replaced apply)
def Table (K : PySem.W.Frag) (mg : Str → Option Value) (x : Str) (fs : List Str) : Prop := ∃ (a : Addr) (as : List Addr), mg x = some (.ref a) ∧ (∀ H, SqT K H a (as.map V.ref)) ∧ fs.map mg = as.map fun b => some (Value.ref b)
theorem Table.get {K : PySem.W.Frag} {mg : Str → Option Value} {x : Str} {fs : List Str} {a : Addr} {as : List Addr} (h : fs.map mg = as.map fun b => some (Value.ref b)) {i : Nat} {y : Str} {f : Addr} (hi : fs[i]? = some y) (hm : mg y = some (.ref f)) : (as.map V.ref)[i]? = some (V.ref f) := by
  have := congrArg (fun l => l[i]?) h
  simp only [List.getElem?_map, hi] at this
  cases q : as[i]? with
  | none => rw [q] at this; cases this
  | some b =>
    rw [q] at this
    have h2 : mg y = some (Value.ref b) := Option.some.inj this
    rw [hm] at h2
    cases h2
    rw [List.getElem?_map, q]
    rfl
structure EditsOk (P : Program) (w : World) (K : PySem.W.Frag) (mg : Str → Option Value) (base : Heap) : Prop where
  do_make : FnAt P w K mg base "do_make" 4 ["document", "edit"] (spDo K fun e => ∃ n a t, e = .make n a t)
  do_write : FnAt P w K mg base "do_write" 4 ["document", "edit"] (spDo K fun e => ∃ n t, e = .write n t)
  do_move : FnAt P w K mg base "do_move" 4 ["document", "edit"] (spDo K fun e => ∃ n a, e = .move n a)
  do_drop : FnAt P w K mg base "do_drop" 4 ["document", "edit"] (spDo K fun e => ∃ n, e = .drop n)
  do_hide : FnAt P w K mg base "do_hide" 4 ["document", "edit"] (spDo K fun e => ∃ n m, e = .hide n m)
  do_split : FnAt P w K mg base "do_split" 4 ["document", "edit"] (spDo K fun e => ∃ n p m, e = .split n p m)
  do_join : FnAt P w K mg base "do_join" 4 ["document", "edit"] (spDo K fun e => ∃ n, e = .join n)
  do_swap : FnAt P w K mg base "do_swap" 4 ["document", "edit"] (spDo K fun e => ∃ a b, e = .swap a b)
  do_replace : FnAt P w K mg base "do_replace" 4 ["document", "edit"] (spDo K fun e => ∃ x y, e = .replace x y)
def kindE : Edit → Nat
  | .make .. => 0 | .write .. => 1 | .move .. => 2 | .drop _ => 3 | .hide .. => 4 | .split .. => 5 | .join _ => 6 | .swap .. => 7 | .replace .. => 8
theorem kind_at {K : PySem.W.Frag} {H : Hp} {u : V} {e : Edit} (h : Dp K H u (eEdit e)) : ∃ b xs, u = .ref b ∧ SqT K H b (.int (kindE e : Nat) :: xs) := by
  cases e <;> (obtain ⟨b, xs, rfl, hb, hxs⟩ := dp_tup.mp h; obtain ⟨v, vs, rfl, h1, _⟩ := dpa_cons.mp hxs; rw [dp_int.mp h1] at hb; exact ⟨b, vs, rfl, hb⟩)
section
variable {P : Program} {w : World} {K : PySem.W.Frag} {mg : Str → Option Value} {base : Heap}
theorem sc_do_edit : FnScope ["document", "edit"] ["document", "edit"] (defScope s_do_edit) := scM
theorem ok_do_edit (D : Table K mg "DOINGS" ["do_make", "do_write", "do_move", "do_drop", "do_hide", "do_split", "do_join", "do_swap", "do_replace"]) (C : EditsOk P w K mg base) (F : Top K mg "do_edit" s_do_edit) : FnAt P w K mg base "do_edit" 5 ["document", "edit"] (spDo K fun _ => True) := by
  refine F.at_ ub2 fun f fd F => F.ok (k := 4) sc_do_edit (fun vs H Q E h => ?_) (fun cdv A outer s H vs Q E hr h => ?_)
  · obtain ⟨v, u, d, e, rfl, _⟩ := h
    rfl
  · obtain ⟨v, u, d, e, rfl, hd, he, W, hE, _, k⟩ := h
    obtain ⟨a, as, hm, hT, hfs⟩ := D
    obtain ⟨b, xs, rfl, hb⟩ := kind_at he
    refine ⟨_, (pss_one (ps_ret (pe_callV (k := 4) (hr.mono (by decide)) (pe_ix ix_tup (pe_glob (v := V.ref a) rfl hm rfl) (pe_ix ix_tup (pv 1) pe_int (fun _ _ => rfl)) (fun _ _ => rfl)) (pa_cons (pv 0) (pa_cons (pv 1) pa_nil))))), ?_⟩
    refine ⟨_, rfl, b, _, 0, _, rfl, rfl, hb, at_of (j := 0) rfl rfl, a, as.map V.ref, ((kindE e : Nat) : Int), ?_⟩
    have go : ∀ {y : Str} {form : Edit → Prop}, FnAt P w K mg base y 4 ["document", "edit"] (spDo K form) → (["do_make", "do_write", "do_move", "do_drop", "do_hide", "do_split", "do_join", "do_swap", "do_replace"] : List Str)[kindE e]? = some y → form e →
        ∃ f ps sp, atI (as.map V.ref) ((kindE e : Nat) : Int) = some (V.ref f) ∧ FnV P w K mg base f 4 ps sp ∧ sp [v, V.ref b] H Q E0 := by
      intro y form FA hy hf
      obtain ⟨f, hmf, FV⟩ := FA.toV
      exact ⟨f, _, _, atI_nat (Table.get (K := K) (x := "DOINGS") (a := a) hfs hy hmf), FV, v, V.ref b, d, e, rfl, hd, he, W, hE, hf, k⟩
    have fin : ∃ f ps sp, atI (as.map V.ref) ((kindE e : Nat) : Int) = some (V.ref f) ∧ FnV P w K mg base f 4 ps sp ∧ sp [v, V.ref b] H Q E0 := by
      cases e with
      | make n a t => exact go C.do_make rfl ⟨_, _, _, rfl⟩
      | write n t => exact go C.do_write rfl ⟨_, _, rfl⟩
      | move n a => exact go C.do_move rfl ⟨_, _, rfl⟩
      | drop n => exact go C.do_drop rfl ⟨_, rfl⟩
      | hide n h => exact go C.do_hide rfl ⟨_, _, rfl⟩
      | split n p m => exact go C.do_split rfl ⟨_, _, _, rfl⟩
      | join n => exact go C.do_join rfl ⟨_, rfl⟩
      | swap a b => exact go C.do_swap rfl ⟨_, _, rfl⟩
      | replace x y => exact go C.do_replace rfl ⟨_, _, rfl⟩
    obtain ⟨f', ps, sp, h1, h2, h3⟩ := fin
    exact ⟨_, rfl, rfl, hT H, h1, f', ps, sp, rfl, h2, _, rfl, _, rfl, h3⟩
def spDos (K : PySem.W.Frag) : Sp := fun vs H Q _ => ∃ (v u : V) (d : Doc) (l : List Edit), vs = [v, u] ∧ Dp K H v (eDoc d) ∧ Dp K H u (eStep l) ∧ WF d ∧ (∀ e ∈ l, EOk e) ∧
  ∀ p H', Same H H' → Dp K H' p (eOpt (Vanbkd.applyAll d l)) → Q p H'
theorem edit_at {H : Hp} {xs : List V} {l : List Edit} {i : Nat} {x : V} (hx : DpAll K H xs (l.map eEdit)) (hi : xs[i]? = some x) : ∃ e, l[i]? = some e ∧ Dp K H x (eEdit e) := by
  obtain ⟨dd, hdd, hc⟩ := DpAll.getV hx hi
  rw [List.getElem?_map] at hdd
  cases q : l[i]? with
  | none => rw [q] at hdd; cases hdd
  | some c =>
    rw [q] at hdd
    have : eEdit c = dd := Option.some.inj hdd
    subst this
    exact ⟨c, rfl, hc⟩
theorem applyAll_take {d d' : Doc} {l : List Edit} {i : Nat} {e : Edit} (h : Vanbkd.applyAll d (l.take i) = some d') (he : l[i]? = some e) : Vanbkd.applyAll d (l.take (i + 1)) = apply d' e := by
  rw [List.take_add_one, he, Option.toList_some, all_app, h]
  exact all_one d' e
theorem applyAll_none {d : Doc} {l : List Edit} {i : Nat} (h : Vanbkd.applyAll d (l.take i) = none) : Vanbkd.applyAll d l = none := by
  rw [← List.take_append_drop i l, all_app, h]
  rfl
theorem sc_do_edits : FnScope ["document", "edits", "made", "edit"] ["document", "edits"] (defScope s_do_edits) := scM
theorem ok_do_edits (F : Top K mg "do_edits" s_do_edits) (F_do_edit : FnAt P w K mg base "do_edit" 5 ["document", "edit"] (spDo K fun _ => True)) : FnAt P w K mg base "do_edits" 6 ["document", "edits"] (spDos K) := by
  refine F.at_ ub2 fun f fd F => F.ok (k := 5) sc_do_edits (fun vs H Q E h => ?_) (fun cdv A outer s H vs Q E hr h => ?_)
  · obtain ⟨v, u, d, l, rfl, _⟩ := h
    rfl
  · obtain ⟨v, u, d, l, rfl, hd, hl, W, hE, k⟩ := h
    have SC := sc_do_edits
    obtain ⟨b, xs, rfl, hb, hxs⟩ := dp_tup.mp hl
    have lx : xs.length = l.length := by rw [DpAll.length hxs, List.length_map]
    refine ⟨_, (pss_cons (ps_set (i := 2) SC.nd rfl (Or.inl rfl) (pv 0))
      (pss_cons (ps_for PassesOwn.never rfl (pi_tup (pv 1)) (pg_name (i := 3) SC.nd rfl (Or.inl rfl)) (pss_cons (ps_set (i := 2) SC.nd rfl (Or.inl rfl) (pe_fn F_do_edit (hr.mono (by decide)) rfl (pa_cons (pv 2) (pa_cons (pv 3) pa_nil))))
      (pss_one (ps_if (pt_cmpR op_isN (pv 2) pe_non (nomark _)) (pss_one (ps_ret pe_non)) pss_nil))))
      (pss_one (ps_ret (pv 2))))), ?_⟩
    refine ⟨_, rfl, _, rfl, b, rfl, ⟨_, hb⟩, for_tup (K := K) (a := b) (xs := xs) (fun i σ H' => ∃ (mv : V) (v3 : Option V) (d' : Doc), σ = [some v, some (.ref b), some mv, v3] ∧ Same H H' ∧ Dp K H' mv (eDoc d') ∧ WF d' ∧ Vanbkd.applyAll d (l.take i) = some d')
      ⟨v, none, d, rfl, Same.refl H, hd, W, rfl⟩ (fun i σ H' _ ⟨_, _, _, _, e, _⟩ => e.tup hb) ?_ ?_⟩
    · rintro i z σ H' hi ⟨mv, v3, d', rfl, e, hmv, W', ha⟩
      obtain ⟨ed, hed, hz⟩ := edit_at hxs hi
      have hok := hE ed (List.mem_of_getElem? hed)
      refine ⟨_, rfl, _, rfl, mv, z, d', ed, rfl, hmv, Dp.same e (tupd_edit ed) hz, W', hok, trivial, fun p H2 e2 hp => ⟨_, rfl, rfl, _, rfl, ?_⟩⟩
      have ha2 := applyAll_take ha hed
      cases q : apply d' ed with
      | none =>
        rw [q] at hp ha2
        cases dp_none.mp hp
        refine iteT ?_
        exact k _ _ (e.trans e2) (none_opt (applyAll_none ha2))
      | some d2 =>
        rw [q] at hp ha2
        obtain ⟨pa, ys, rfl, _⟩ := doc_iff.mp hp
        rw [decide_eq_false (show ¬ (V.ref pa = V.non) from fun z => nomatch z)]
        exact iteF ⟨_, _, d2, rfl, e.trans e2, hp, ap_wf W' hok q, ha2⟩
    · rintro σ H' ⟨mv, v3, d', rfl, e, hmv, W', ha⟩
      rw [lx, List.take_length] at ha
      exact ⟨_, rfl, k _ _ e (some_opt ha hmv)⟩
end
end CP
namespace CP
open PySem PySem.Spec PyProof.Rows L2 CM
open Vanbkd (Doc Cell Text Edit ofNat nats markOf found replaced apply first bytes tooLong fit hasI textOf upTo lengthOf behind)
def ref (own : List (Bool × Int)) : Int := (first own).getD 0
theorem ref_t {b : Bool} {n : Int} {r : List (Bool × Int)} (h : b = true) : ref ((b, n) :: r) = n := by
  subst h
  rfl
theorem ref_f {b : Bool} {n : Int} {r : List (Bool × Int)} (h : b = false) : ref ((b, n) :: r) = ref r := by
  subst h
  rfl
def refT (t : List Int) : Int := ref [(!bytes t, -4), (tooLong t, -5)]
def refM (d : Doc) (N : Nat) : Int := ref [(decide (12 ≤ d.length), -6), (decide (99 < N), -16)]
def PadDoc (K : PySem.W.Frag) (CP : Addr) (H : Hp) (a : Addr) (d : Doc) (N : Nat) : Prop :=
  ∃ (dx : Addr) (fs : List (Str × V)) (dv : V), H a = some (.ins CP dx fs) ∧ fs.lookup ("document" : Str) = some dv ∧ Dp K H dv (eDoc d) ∧ fs.lookup ("next_number" : Str) = some (V.int (ofNat N))
theorem PadDoc.same {K : PySem.W.Frag} {CP : Addr} {H H' : Hp} {a : Addr} {d : Doc} {N : Nat} (h : PadDoc K CP H a d N) (e : Same H H') : PadDoc K CP H' a d N := by
  obtain ⟨dx, fs, dv, h1, h2, h3, h4⟩ := h
  exact ⟨dx, fs, dv, e _ _ h1, h2, Dp.same e (tupd_doc d) h3, h4⟩
structure PadCls (K : PySem.W.Frag) (CP : Addr) : Prop where
  cl : Cls K CP
  n_document : NoAttr K CP "document"
  n_next_number : NoAttr K CP "next_number"
def eArgs (ws : List Int) (rs : List (List Int)) : PyData := .tuple (ws.map PyData.int ++ rs.map eInts)
def spBytes (K : PySem.W.Frag) : Sp := fun vs H Q _ => ∃ (v : V) (t : List Int), vs = [v] ∧ Dp K H v (eInts t) ∧ t.length ≤ 1000 ∧ ∀ H', Same H H' → Q (.bl (bytes t)) H'
def spRefText (K : PySem.W.Frag) : Sp := fun vs H Q _ => ∃ (v : V) (t : List Int), vs = [v] ∧ Dp K H v (eInts t) ∧ t.length ≤ 1000 ∧ ∀ H', Same H H' → Q (.int (refT t)) H'
def spRefCell (K : PySem.W.Frag) (CP : Addr) : Sp := fun vs H Q _ => ∃ (a : Addr) (n : Int) (d : Doc) (N : Nat), vs = [.ref a, .int n] ∧ PadDoc K CP H a d N ∧ ∀ H', Same H H' → Q (.int (ref [(!hasI d n, -1)])) H'
def spRefMore (K : PySem.W.Frag) (CP : Addr) : Sp := fun vs H Q _ => ∃ (a : Addr) (d : Doc) (N : Nat), vs = [.ref a] ∧ PadDoc K CP H a d N ∧ ∀ H', Same H H' → Q (.int (refM d N)) H'
def spRef (K : PySem.W.Frag) (CP : Addr) (nw nr : Nat) (own : Doc → Nat → List Int → List (List Int) → Int) : Sp := fun vs H Q _ => ∃ (a : Addr) (u : V) (d : Doc) (N : Nat) (ws : List Int) (rs : List (List Int)),
  vs = [.ref a, u] ∧ PadDoc K CP H a d N ∧ WF d ∧ Dp K H u (eArgs ws rs) ∧ ws.length = nw ∧ rs.length = nr ∧ (∀ r ∈ rs, r.length ≤ 400) ∧ ∀ H', Same H H' → Q (.int (own d N ws rs)) H'
section
variable {P : Program} {w : World} {K : PySem.W.Frag} {mg : Str → Option Value} {base : Heap} {CP : Addr}
theorem sc_are_bytes : FnScope ["numbers", "number"] ["numbers"] (defScope s_are_bytes) := scM
theorem ok_are_bytes (T : Txt mg) (N : Nums3 mg) (F : Top K mg "are_bytes" s_are_bytes) : FnAt P w K mg base "are_bytes" 1 ["numbers"] (spBytes K) := by
  refine F.at_ ub1 fun f fd F => F.ok (k := 0) sc_are_bytes (fun vs H Q E h => ?_) (fun cdv A outer s H vs Q E hr h => ?_)
  · obtain ⟨v, t, rfl, _⟩ := h
    rfl
  · obtain ⟨v, t, rfl, ht, hz, k⟩ := h
    obtain ⟨a, rfl, ha⟩ := ints_iff.mp ht
    have SC := sc_are_bytes
    refine ⟨_, (pss_one (ps_ret (pe_callB (cr_all rfl) (by rfl) T.b_all boot_all (pa_cons (pe_lc (own := [("number", 1)]) rfl SC.nd (pi_tup (pv 0)) (blkOk_by (by kernel_rfl)) (fun _ _ _ _ _ => (pg_name (i := 1) SC.nd rfl (Or.inl rfl))) (fun _ _ _ _ _ => pts_nil) (fun _ _ _ _ _ => (pe_chain op_le op_le pe_int (pv 1) (pe_gint rfl N.c_GREATEST_BYTE)))) pa_nil)))), ?_⟩
    refine ⟨_, rfl, a, rfl, ⟨_, ha⟩, fun D hD => lc_tup (K := K) (a := a) (xs := t.map V.int) (fun i H' => Same H H' ∧ H' D = some (.lst ((t.take i).map fun z => V.bl (decide (0 ≤ z) && decide (z ≤ 255))))) ⟨Same.upd hD, upd_same⟩ (fun i H' _ h => h.1.tup ha) ?_ ?_⟩
    · rintro i y H' hi ⟨e, hDi⟩
      obtain ⟨z, hz0, rfl⟩ : ∃ z, t[i]? = some z ∧ y = V.int z := by
        rw [List.getElem?_map] at hi
        cases q : t[i]? with
        | none => rw [q] at hi; cases hi
        | some z =>
          rw [q] at hi
          exact ⟨z, rfl, (Option.some.inj hi).symm⟩
      refine ⟨rfl, ?_⟩
      have fin : ∀ b : Bool, b = (decide (0 ≤ z) && decide (z ≤ 255)) → ∃ acc, H' D = some (.lst acc) ∧ acc.length < sizeLine ∧ (Same H (upd H' D (.lst (acc ++ [V.bl b]))) ∧ upd H' D (.lst (acc ++ [V.bl b])) D = some (.lst ((t.take (i + 1)).map fun z => V.bl (decide (0 ≤ z) && decide (z ≤ 255))))) := by
        intro b hb
        refine ⟨_, hDi, ?_, fun q o hq => ?_, ?_⟩
        · rw [List.length_map, List.length_take]
          exact Nat.lt_of_le_of_lt (Nat.le_trans (Nat.min_le_right _ _) hz) (by decide)
        · rw [upd_ne (ne_of_none hq hD)]
          exact e _ _ hq
        · rw [upd_same, List.take_add_one, hz0, hb]
          simp
      refine ⟨_, rfl, _, _, rfl, rfl, _, rfl, ?_⟩
      refine ite2 (fun h0 => ?_) (fun h0 => ?_)
      · refine ⟨_, _, rfl, rfl, fin _ ?_⟩
        rw [h0]
        rfl
      · refine fin false ?_
        rw [Bool.not_eq_true _ |>.mp h0]
        rfl
    · rintro H' ⟨e, hDl⟩
      rw [List.length_map, List.take_length] at hDl
      refine ⟨D, t.map fun z => (decide (0 ≤ z) && decide (z ≤ 255)), rfl, SqL.of (by rw [hDl, List.map_map]; rfl), ?_⟩
      rw [List.all_map]
      exact k H' e
theorem sc_refuse_text : FnScope ["text"] ["text"] (defScope s_refuse_text) := scM
theorem ok_refuse_text (T : Txt mg) (N : Nums mg) (N3 : Nums3 mg) (F : Top K mg "refuse_text" s_refuse_text) (F_are_bytes : FnAt P w K mg base "are_bytes" 1 ["numbers"] (spBytes K)) : FnAt P w K mg base "refuse_text" 2 ["text"] (spRefText K) := by
  refine F.at_ ub1 fun f fd F => F.ok (k := 1) sc_refuse_text (fun vs H Q E h => ?_) (fun cdv A outer s H vs Q E hr h => ?_)
  · obtain ⟨v, t, rfl, _⟩ := h
    rfl
  · obtain ⟨v, t, rfl, ht, hz, k⟩ := h
    obtain ⟨a, rfl, ha⟩ := ints_iff.mp ht
    refine ⟨_, (pss_cons (ps_if (pt_not (pt_val (pe_fn F_are_bytes (hr.mono (by decide)) rfl (pa_cons (pv 0) pa_nil)))) (pss_one (ps_ret (pe_gint rfl N3.c_NO_BYTE))) pss_nil)
      (pss_cons (ps_if (pt_cmpR op_gt (pe_callB call_len_seq (by rfl) T.b_len PySem.boot_len (pa_cons (pv 0) pa_nil)) (pe_gint rfl N.c_LONGEST_TEXT) (nomark _)) (pss_one (ps_ret (pe_gint rfl N3.c_TOO_LONG))) pss_nil)
      (pss_one (ps_ret (pe_gint rfl N3.c_NOT_REFUSED))))), ?_⟩
    refine ⟨_, rfl, _, t, rfl, ht, hz, fun H1 e1 => ⟨_, rfl, ?_⟩⟩
    have kk := k H1 e1
    unfold refT at kk
    refine ite2 (fun hb => ?_) (fun hb => ?_)
    · rw [ref_t hb] at kk
      exact kk
    · rw [ref_f (Bool.not_eq_true _ |>.mp hb)] at kk
      refine ⟨_, rfl, a, _, rfl, .inr (e1.tup ha), _, _, rfl, rfl, _, rfl, ?_⟩
      rw [List.length_map]
      refine ite2 (fun hl => ?_) (fun hl => ?_)
      · rw [ref_t (show tooLong t = true from decide_eq_true (by have := of_decide_eq_true hl; unfold Vanbkd.LONG; omega))] at kk
        exact kk
      · rw [ref_f (show tooLong t = false from decide_eq_false (fun z => hl (decide_eq_true (by unfold Vanbkd.LONG at z; omega))))] at kk
        exact kk
theorem sc_refuse_cell : FnScope ["pad", "number"] ["pad", "number"] (defScope s_refuse_cell) := scM
theorem ok_refuse_cell (N3 : Nums3 mg) (PC : PadCls K CP) (F : Top K mg "refuse_cell" s_refuse_cell) (F_has_cell : FnAt P w K mg base "has_cell" 3 ["document", "number"] (spHas K)) : FnAt P w K mg base "refuse_cell" 4 ["pad", "number"] (spRefCell K CP) := by
  refine F.at_ ub2 fun f fd F => F.ok (k := 3) sc_refuse_cell (fun vs H Q E h => ?_) (fun cdv A outer s H vs Q E hr h => ?_)
  · obtain ⟨a, n, d, N, rfl, _⟩ := h
    rfl
  · obtain ⟨a, n, d, N, rfl, hp, k⟩ := h
    obtain ⟨dx, fs, dv, h1, h2, h3, h4⟩ := hp
    refine ⟨_, (pss_cons (ps_if (pt_not (pt_val (pe_fn F_has_cell (hr.mono (by decide)) rfl (pa_cons (pe_fld (pv 0) rfl) (pa_cons (pv 1) pa_nil))))) (pss_one (ps_ret (pe_gint rfl N3.c_NO_CELL))) pss_nil)
      (pss_one (ps_ret (pe_gint rfl N3.c_NOT_REFUSED)))), ?_⟩
    refine ⟨_, rfl, a, CP, dx, fs, dv, rfl, h1, PC.cl, PC.n_document, h2, _, rfl, dv, d, n, rfl, h3, fun H1 e1 => ⟨_, rfl, ?_⟩⟩
    have kk := k H1 e1
    refine ite2 (fun hb => ?_) (fun hb => ?_)
    · rw [ref_t (by rw [hasI_ix]; exact hb)] at kk
      exact kk
    · rw [ref_f (by rw [hasI_ix]; exact Bool.not_eq_true _ |>.mp hb)] at kk
      exact kk
theorem sc_refuse_one_more : FnScope ["pad"] ["pad"] (defScope s_refuse_one_more) := scM
theorem ok_refuse_one_more (T : Txt mg) (N : Nums mg) (N3 : Nums3 mg) (PC : PadCls K CP) (F : Top K mg "refuse_one_more" s_refuse_one_more) : FnAt P w K mg base "refuse_one_more" 1 ["pad"] (spRefMore K CP) := by
  refine F.at_ ub1 fun f fd F => F.ok (k := 0) sc_refuse_one_more (fun vs H Q E h => ?_) (fun cdv A outer s H vs Q E hr h => ?_)
  · obtain ⟨a, d, N, rfl, _⟩ := h
    rfl
  · obtain ⟨a, d, n, rfl, hp, k⟩ := h
    obtain ⟨dx, fs, dv, h1, h2, h3, h4⟩ := hp
    obtain ⟨b, xs, rfl, hb, hx⟩ := doc_iff.mp h3
    have ld : xs.length = d.length := by rw [DpAll.length hx, List.length_map]
    refine ⟨_, (pss_cons (ps_if (pt_cmpR op_ge (pe_callB call_len_seq (by rfl) T.b_len PySem.boot_len (pa_cons (pe_fld (pv 0) rfl) pa_nil)) (pe_gint rfl N.c_MOST_CELLS) (nomark _)) (pss_one (ps_ret (pe_gint rfl N3.c_TOO_MANY_CELLS))) pss_nil)
      (pss_cons (ps_if (pt_cmpR op_gt (pe_fld (pv 0) rfl) (pe_gint rfl N3.c_GREATEST_NUMBER) (nomark _)) (pss_one (ps_ret (pe_gint rfl N3.c_NUMBERS_USED_UP))) pss_nil)
      (pss_one (ps_ret (pe_gint rfl N3.c_NOT_REFUSED))))), ?_⟩
    refine ⟨_, rfl, a, CP, dx, fs, _, rfl, h1, PC.cl, PC.n_document, h2, b, _, rfl, .inr hb, _, _, rfl, rfl, _, rfl, ?_⟩
    rw [ld]
    have kk := k H (Same.refl H)
    unfold refM at kk
    refine ite2 (fun hl => ?_) (fun hl => ?_)
    · rw [ref_t (decide_eq_true (by have := of_decide_eq_true hl; omega))] at kk
      exact kk
    · rw [ref_f (decide_eq_false (fun z => hl (decide_eq_true (by omega))))] at kk
      refine ⟨_, rfl, a, CP, dx, fs, _, rfl, h1, PC.cl, PC.n_next_number, h4, _, _, rfl, rfl, _, rfl, ?_⟩
      refine ite2 (fun hn => ?_) (fun hn => ?_)
      · rw [ref_t (decide_eq_true (by have := of_decide_eq_true hn; unfold ofNat at this; omega))] at kk
        exact kk
      · rw [ref_f (decide_eq_false (fun z => hn (decide_eq_true (by unfold ofNat; omega))))] at kk
        exact kk
end
end CP
namespace CP
open PySem PySem.Spec PyProof.Rows L2 CM
open Vanbkd (Doc Cell Text Edit ofNat nats markOf found replaced apply first bytes tooLong fit hasI textOf upTo lengthOf behind textIn nextOf)
def rNew : Doc → Nat → List Int → List (List Int) → Int
  | d, N, [a], [t] => ref [(!fit d a, -2), (!bytes t, -4), (tooLong t, -5), (decide (12 ≤ d.length), -6), (decide (99 < N), -16)]
  | _, _, _, _ => 0
def rWrite : Doc → Nat → List Int → List (List Int) → Int
  | d, _, [n], [t] => ref [(!hasI d n, -1), (!bytes t, -4), (tooLong t, -5)]
  | _, _, _, _ => 0
def rMove : Doc → Nat → List Int → List (List Int) → Int
  | d, _, [n, a], [] => ref [(!hasI d n, -1), (!fit d a || a == n, -2)]
  | _, _, _, _ => 0
def rDrop : Doc → Nat → List Int → List (List Int) → Int
  | d, _, [n], [] => ref [(!hasI d n, -1)]
  | _, _, _, _ => 0
def rHide : Doc → Nat → List Int → List (List Int) → Int
  | d, _, [n, m], [] => ref [(!hasI d n, -1), (!(m == 0 || m == 1), -18)]
  | _, _, _, _ => 0
def rSplit : Doc → Nat → List Int → List (List Int) → Int
  | d, N, [n, p], [] => ref [(!hasI d n, -1), (!upTo p (lengthOf d n), -8), (decide (12 ≤ d.length), -6), (decide (99 < N), -16)]
  | _, _, _, _ => 0
def rJoin : Doc → Nat → List Int → List (List Int) → Int
  | d, _, [n], [] => ref [(!hasI d n, -1), ((behind d n).isNone, -9), (decide (Vanbkd.LONG < lengthOf d n + ((behind d n).getD (0, 0)).2), -5)]
  | _, _, _, _ => 0
def rSwap : Doc → Nat → List Int → List (List Int) → Int
  | d, _, [a, b], [] => ref [(!hasI d a || !hasI d b, -1)]
  | _, _, _, _ => 0
def rReplace : Doc → Nat → List Int → List (List Int) → Int
  | d, _, [], [x, y] => ref [(!bytes x || !bytes y, -4), (tooLong x || tooLong y, -5), (x.isEmpty, -17), ((apply d (.replace (textOf x) (textOf y))).isNone, -5)]
  | _, _, _, _ => 0
structure RefOk (P : Program) (w : World) (K : PySem.W.Frag) (mg : Str → Option Value) (base : Heap) (CP : Addr) : Prop where
  are_bytes : FnAt P w K mg base "are_bytes" 1 ["numbers"] (spBytes K)
  refuse_text : FnAt P w K mg base "refuse_text" 2 ["text"] (spRefText K)
  refuse_cell : FnAt P w K mg base "refuse_cell" 4 ["pad", "number"] (spRefCell K CP)
  refuse_one_more : FnAt P w K mg base "refuse_one_more" 1 ["pad"] (spRefMore K CP)
theorem len1 {α : Type} {l : List α} (h : l.length = 1) : ∃ a, l = [a] := match l, h with | [a], _ => ⟨a, rfl⟩
theorem len2 {α : Type} {l : List α} (h : l.length = 2) : ∃ a b, l = [a, b] := match l, h with | [a, b], _ => ⟨a, b, rfl⟩
theorem len0 {α : Type} {l : List α} (h : l.length = 0) : l = [] := List.length_eq_zero_iff.mp h
section
variable {P : Program} {w : World} {K : PySem.W.Frag} {mg : Str → Option Value} {base : Heap} {CP : Addr}
theorem args_wr {H : Hp} {u : V} {n : Int} {t : List Int} (h : Dp K H u (eArgs [n] [t])) : ∃ b tv, u = .ref b ∧ SqT K H b [.int n, tv] ∧ Dp K H tv (eInts t) := by
  obtain ⟨b, xs, rfl, hb, hxs⟩ := (dp_tup (ds := [.int n, eInts t])).mp h
  simp only [dpa_cons, dpa_nil, dp_int] at hxs
  obtain ⟨_, _, rfl, rfl, tv, _, rfl, htv, rfl⟩ := hxs
  exact ⟨b, tv, rfl, hb, htv⟩
theorem args_w {H : Hp} {u : V} {n : Int} (h : Dp K H u (eArgs [n] [])) : ∃ b, u = .ref b ∧ SqT K H b [.int n] := by
  obtain ⟨b, xs, rfl, hb, hxs⟩ := (dp_tup (ds := [.int n])).mp h
  simp only [dpa_cons, dpa_nil, dp_int] at hxs
  obtain ⟨_, _, rfl, rfl, rfl⟩ := hxs
  exact ⟨b, rfl, hb⟩
theorem args_ww {H : Hp} {u : V} {n m : Int} (h : Dp K H u (eArgs [n, m] [])) : ∃ b, u = .ref b ∧ SqT K H b [.int n, .int m] := by
  obtain ⟨b, xs, rfl, hb, hxs⟩ := (dp_tup (ds := [.int n, .int m])).mp h
  simp only [dpa_cons, dpa_nil, dp_int] at hxs
  obtain ⟨_, _, rfl, rfl, _, _, rfl, rfl, rfl⟩ := hxs
  exact ⟨b, rfl, hb⟩
theorem args_rr {H : Hp} {u : V} {x y : List Int} (h : Dp K H u (eArgs [] [x, y])) : ∃ b xv yv, u = .ref b ∧ SqT K H b [xv, yv] ∧ Dp K H xv (eInts x) ∧ Dp K H yv (eInts y) := by
  obtain ⟨b, xs, rfl, hb, hxs⟩ := (dp_tup (ds := [eInts x, eInts y])).mp h
  simp only [dpa_cons, dpa_nil, dp_int] at hxs
  obtain ⟨xv, _, rfl, hxv, yv, _, rfl, hyv, rfl⟩ := hxs
  exact ⟨b, xv, yv, rfl, hb, hxv, hyv⟩
theorem refT_cases (t : List Int) (r : List (Bool × Int)) : (refT t ≠ 0 ∧ ref ((!bytes t, -4) :: (tooLong t, -5) :: r) = refT t) ∨ (refT t = 0 ∧ ref ((!bytes t, -4) :: (tooLong t, -5) :: r) = ref r) := by
  unfold refT
  cases bytes t <;> cases tooLong t
  · exact .inl ⟨by decide, rfl⟩
  · exact .inl ⟨by decide, rfl⟩
  · exact .inr ⟨rfl, rfl⟩
  · exact .inl ⟨by decide, rfl⟩
theorem not_fit {d : Doc} {a : Int} (h0 : a ≠ 0) : (!fit d a) = !(ixF d a).isSome := by
  unfold fit
  rw [hasI_ix]
  have : (a == 0) = false := by simpa using h0
  rw [this]
  rfl
theorem sc_refuse_new : FnScope ["pad", "arguments", "after", "refusal"] ["pad", "arguments"] (defScope s_refuse_new) := scM
theorem ok_refuse_new (N3 : Nums3 mg) (PC : PadCls K CP) (C : CellsOk P w K mg base) (R : RefOk P w K mg base CP) (F : Top K mg "refuse_new" s_refuse_new) : FnAt P w K mg base "refuse_new" 5 ["pad", "arguments"] (spRef K CP 1 1 rNew) := by
  refine F.at_ ub2 fun f fd F => F.ok (k := 4) sc_refuse_new (fun vs H Q E h => ?_) (fun cdv A outer s H vs Q E hr h => ?_)
  · obtain ⟨a, u, d, N, ws, rs, rfl, _⟩ := h
    rfl
  · obtain ⟨a, u, d, N, ws, rs, rfl, hp, W, hu, hw, hrs, hl, k⟩ := h
    obtain ⟨n, rfl⟩ := len1 hw
    obtain ⟨t, rfl⟩ := len1 hrs
    obtain ⟨b, tv, rfl, hb, htv⟩ := args_wr hu
    have k : ∀ H', Same H H' → Q (.int (ref [(!fit d n, -2), (!bytes t, -4), (tooLong t, -5), (decide (12 ≤ d.length), -6), (decide (99 < N), -16)])) H' := k
    have F_has_cell := C.has_cell
    have F_refuse_text := R.refuse_text
    have F_refuse_one_more := R.refuse_one_more
    have SC := sc_refuse_new
    obtain ⟨dx, fs, dv, h1, h2, h3, h4⟩ := id hp
    refine ⟨_, (pss_cons (ps_set (i := 2) SC.nd rfl (Or.inl rfl) (pe_ix ix_tup (pv 1) pe_int (fun _ _ => rfl)))
      (pss_cons (ps_if (PW.pt (pw_and (pt_cmpR op_ne (pv 2) pe_int (nomark _)) (pw_and1 (pt_not (pt_val (pe_fn F_has_cell (hr.mono (by decide)) rfl (pa_cons (pe_fld (pv 0) rfl) (pa_cons (pv 2) pa_nil)))))))) (pss_one (ps_ret (pe_gint rfl N3.c_BAD_AFTER))) pss_nil)
      (pss_cons (ps_set (i := 3) SC.nd rfl (Or.inl rfl) (pe_fn F_refuse_text (hr.mono (by decide)) rfl (pa_cons (pe_ix ix_tup (pv 1) pe_int (fun _ _ => rfl)) pa_nil)))
      (pss_cons (ps_if (pt_cmpR op_ne (pv 3) (pe_gint rfl N3.c_NOT_REFUSED) (nomark _)) (pss_one (ps_ret (pv 3))) pss_nil)
      (pss_one (ps_ret (pe_fn F_refuse_one_more (hr.mono (by decide)) rfl (pa_cons (pv 0) pa_nil)))))))), ?_⟩
    refine ⟨_, rfl, b, _, 0, _, rfl, rfl, hb, rfl, ?_⟩
    have rest : ∀ H1, Same H H1 → fit d n = true → spRefText K [tv] H1 (fun x H2 => ∃ i, x = V.int i ∧ (if (!decide (V.int i = V.int 0)) = true then Q x H2 else spRefMore K CP [.ref a] H2 Q E0)) E0 := by
      intro H1 e1 hf
      refine ⟨tv, t, rfl, Dp.same e1 (tupd_ints t) htv, Nat.le_trans (hl t (by simp)) (by decide), fun H2 e2 => ⟨_, rfl, ?_⟩⟩
      have e12 := e1.trans e2
      have kr : ∀ H', Same H H' → Q (.int (ref ((!bytes t, -4) :: (tooLong t, -5) :: [(decide (12 ≤ d.length), -6), (decide (99 < N), -16)]))) H' := fun H' e' => by
        have := k H' e'
        rw [ref_f (by rw [hf]; rfl)] at this
        exact this
      rcases refT_cases t [(decide (12 ≤ d.length), -6), (decide (99 < N), -16)] with ⟨q1, q2⟩ | ⟨q1, q2⟩
      · rw [decide_eq_false (show ¬ (V.int (refT t) = V.int 0) from fun z => q1 (V.int.inj z))]
        refine iteT ?_
        have := kr H2 e12
        rw [q2] at this
        exact this
      · rw [q1]
        refine iteNS (c := V.int 0 = V.int 0) rfl ?_
        refine ⟨a, d, N, rfl, hp.same e12, fun H3 e3 => ?_⟩
        have := kr H3 (e12.trans e3)
        rw [q2] at this
        exact this
    have use : ∀ H1, Same H H1 → fit d n = true → spRefText K [tv] H1 (fun x H2 => ∃ v, some (some x) = some (some v) ∧ (L2.scal v (.int 0) = true ∧ ∃ k', V.bl (!decide (v = V.int 0)) = V.bl k' ∧ (if k' = true then ∃ v', some (some x) = some (some v') ∧ Q v' H2 else ∃ v', some (some (V.ref a)) = some (some v') ∧ spRefMore K CP [v'] H2 Q E0))) E0 := by
      intro H1 e1 hf
      obtain ⟨v0, t0, e0, g1, g2, g3⟩ := rest H1 e1 hf
      refine ⟨v0, t0, e0, g1, g2, fun H2 e2 => ?_⟩
      obtain ⟨i, ei, hi⟩ := g3 H2 e2
      refine ⟨_, rfl, rfl, _, rfl, ?_⟩
      rw [ei] at hi ⊢
      by_cases z : i = 0
      · subst z
        refine iteNS (c := V.int 0 = V.int 0) rfl ⟨_, rfl, ?_⟩
        have : ¬ (!decide (V.int 0 = V.int 0)) = true := by decide
        rw [if_neg this] at hi
        exact hi
      · have hz : ¬ (V.int i = V.int 0) := fun y => z (V.int.inj y)
        rw [decide_eq_false hz] at hi ⊢
        exact iteT ⟨_, rfl, hi⟩
    refine ⟨_, rfl, rfl, _, rfl, ?_⟩
    by_cases ha : n = 0
    · subst ha
      refine iteNS (c := V.int 0 = V.int 0) rfl ?_
      exact ⟨_, rfl, b, _, 1, tv, rfl, rfl, hb, rfl, use H (Same.refl H) rfl⟩
    · have hne : ¬ (V.int n = V.int 0) := fun z => ha (V.int.inj z)
      rw [decide_eq_false hne]
      refine iteT ?_
      refine ⟨_, rfl, a, CP, dx, fs, dv, rfl, h1, PC.cl, PC.n_document, h2, _, rfl, dv, d, n, rfl, h3, fun H1 e1 => ⟨_, rfl, ?_⟩⟩
      refine ite2 (fun hh => ?_) (fun hh => ?_)
      · have := k H1 e1
        rw [ref_t (by rw [not_fit ha]; exact hh)] at this
        exact this
      · have hf : fit d n = true := by
          have h5 := not_fit (d := d) ha
          rw [Bool.not_eq_true _ |>.mp hh] at h5
          cases q : fit d n with
          | true => rfl
          | false => rw [q] at h5; cases h5
        exact ⟨_, rfl, b, _, 1, tv, rfl, rfl, e1.tup hb, rfl, use H1 e1 hf⟩
end
end CP
namespace CP
open PySem PySem.Spec PyProof.Rows L2 CM
open Vanbkd (Doc Cell Text Edit ofNat nats markOf found replaced apply first bytes tooLong fit hasI textOf upTo lengthOf behind textIn nextOf)
theorem qk {Q : VK} {H H' : Hp} {n m : Int} (k : ∀ H', Same H H' → Q (.int n) H') (e : Same H H') (h : n = m) : Q (.int m) H' := h ▸ k H' e
theorem ite_ref {A B : Prop} {i : Int} (h0 : i = 0 → B) (h1 : i ≠ 0 → A) : if (!decide (V.int i = V.int 0)) = true then A else B := by
  by_cases h : i = 0
  · subst h
    exact iteNS (c := V.int 0 = V.int 0) rfl (h0 rfl)
  · rw [decide_eq_false (show ¬ (V.int i = V.int 0) from fun z => h (V.int.inj z))]
    exact iteT (h1 h)
theorem ref_app : ∀ {l r : List (Bool × Int)}, (∀ p ∈ l, p.2 ≠ 0) → ref (l ++ r) = if ref l = 0 then ref r else ref l
  | [], r, _ => by simp [ref, first]
  | (b, n) :: l, r, h => by
    have hn : n ≠ 0 := h (b, n) (by simp)
    cases b with
    | true =>
      rw [List.cons_append, ref_t rfl, ref_t rfl, if_neg hn]
    | false =>
      rw [List.cons_append, ref_f rfl, ref_f rfl]
      exact ref_app fun p hp => h p (by simp [hp])
theorem not_t {b : Bool} (h : ¬ b = true) : b = false := Bool.not_eq_true _ |>.mp h
section
variable {P : Program} {w : World} {K : PySem.W.Frag} {mg : Str → Option Value} {base : Heap} {CP : Addr}
theorem sc_refuse_write : FnScope ["pad", "arguments", "refusal"] ["pad", "arguments"] (defScope s_refuse_write) := scM
theorem ok_refuse_write (N3 : Nums3 mg) (PC : PadCls K CP) (C : CellsOk P w K mg base) (R : RefOk P w K mg base CP) (F : Top K mg "refuse_write" s_refuse_write) : FnAt P w K mg base "refuse_write" 5 ["pad", "arguments"] (spRef K CP 1 1 rWrite) := by
  refine F.at_ ub2 fun f fd F => F.ok (k := 4) sc_refuse_write (fun vs H Q E h => ?_) (fun cdv A outer s H vs Q E hr h => ?_)
  · obtain ⟨a, u, d, N, ws, rs, rfl, _⟩ := h
    rfl
  · obtain ⟨a, u, d, N, ws, rs, rfl, hp, W, hu, hw, hrs, hl, k⟩ := h
    obtain ⟨n, rfl⟩ := len1 hw
    obtain ⟨t, rfl⟩ := len1 hrs
    obtain ⟨b, tv, rfl, hb, htv⟩ := args_wr hu
    have k : ∀ H', Same H H' → Q (.int (ref ([(!hasI d n, -1)] ++ [(!bytes t, -4), (tooLong t, -5)]))) H' := k
    rw [ref_app (by simp)] at k
    have F_refuse_text := R.refuse_text
    have F_refuse_cell := R.refuse_cell
    have SC := sc_refuse_write
    refine ⟨_, (pss_cons (ps_set (i := 2) SC.nd rfl (Or.inl rfl) (pe_fn F_refuse_cell (hr.mono (by decide)) rfl (pa_cons (pv 0) (pa_cons (pe_ix ix_tup (pv 1) pe_int (fun _ _ => rfl)) pa_nil))))
      (pss_cons (ps_if (pt_cmpR op_ne (pv 2) (pe_gint rfl N3.c_NOT_REFUSED) (nomark _)) (pss_one (ps_ret (pv 2))) pss_nil)
      (pss_one (ps_ret (pe_fn F_refuse_text (hr.mono (by decide)) rfl (pa_cons (pe_ix ix_tup (pv 1) pe_int (fun _ _ => rfl)) pa_nil)))))), ?_⟩
    refine ⟨_, rfl, _, rfl, b, _, 0, _, rfl, rfl, hb, rfl, a, n, d, N, rfl, hp, fun H1 e1 => ⟨_, rfl, rfl, _, rfl, ?_⟩⟩
    refine ite_ref (fun z => ?_) (fun z => ?_)
    · refine ⟨_, rfl, b, _, 1, _, rfl, rfl, e1.tup hb, rfl, tv, t, rfl, Dp.same e1 (tupd_ints t) htv, Nat.le_trans (hl t (by simp)) (by decide), fun H2 e2 => ?_⟩
      exact qk k (e1.trans e2) (by rw [if_pos z]; rfl)
    · exact ⟨_, rfl, qk k e1 (by rw [if_neg z])⟩
theorem sc_refuse_move : FnScope ["pad", "arguments", "number", "after"] ["pad", "arguments"] (defScope s_refuse_move) := scM
theorem ok_refuse_move (N3 : Nums3 mg) (PC : PadCls K CP) (C : CellsOk P w K mg base) (R : RefOk P w K mg base CP) (F : Top K mg "refuse_move" s_refuse_move) : FnAt P w K mg base "refuse_move" 5 ["pad", "arguments"] (spRef K CP 2 0 rMove) := by
  refine F.at_ ub2 fun f fd F => F.ok (k := 4) sc_refuse_move (fun vs H Q E h => ?_) (fun cdv A outer s H vs Q E hr h => ?_)
  · obtain ⟨a, u, d, N, ws, rs, rfl, _⟩ := h
    rfl
  · obtain ⟨a, u, d, N, ws, rs, rfl, hp, W, hu, hw, hrs, hl, k⟩ := h
    obtain ⟨n, m, rfl⟩ := len2 hw
    obtain rfl := len0 hrs
    obtain ⟨b, rfl, hb⟩ := args_ww hu
    have k : ∀ H', Same H H' → Q (.int (ref [(!hasI d n, -1), (!fit d m || m == n, -2)])) H' := k
    have F_has_cell := C.has_cell
    have SC := sc_refuse_move
    obtain ⟨dx, fs, dv, h1, h2, h3, h4⟩ := id hp
    refine ⟨_, (pss_cons (ps_set (i := 2) SC.nd rfl (Or.inl rfl) (pe_ix ix_tup (pv 1) pe_int (fun _ _ => rfl)))
      (pss_cons (ps_set (i := 3) SC.nd rfl (Or.inl rfl) (pe_ix ix_tup (pv 1) pe_int (fun _ _ => rfl)))
      (pss_cons (ps_if (pt_not (pt_val (pe_fn F_has_cell (hr.mono (by decide)) rfl (pa_cons (pe_fld (pv 0) rfl) (pa_cons (pv 2) pa_nil))))) (pss_one (ps_ret (pe_gint rfl N3.c_NO_CELL))) pss_nil)
      (pss_cons (ps_if (pt_cmpR op_eq (pv 3) (pv 2) (nomark _)) (pss_one (ps_ret (pe_gint rfl N3.c_BAD_AFTER))) pss_nil)
      (pss_cons (ps_if (PW.pt (pw_and (pt_cmpR op_ne (pv 3) pe_int (nomark _)) (pw_and1 (pt_not (pt_val (pe_fn F_has_cell (hr.mono (by decide)) rfl (pa_cons (pe_fld (pv 0) rfl) (pa_cons (pv 3) pa_nil)))))))) (pss_one (ps_ret (pe_gint rfl N3.c_BAD_AFTER))) pss_nil)
      (pss_one (ps_ret (pe_gint rfl N3.c_NOT_REFUSED)))))))), ?_⟩
    refine ⟨_, rfl, b, _, 0, _, rfl, rfl, hb, rfl, _, rfl, b, _, 1, _, rfl, rfl, hb, rfl, _, rfl, a, CP, dx, fs, dv, rfl, h1, PC.cl, PC.n_document, h2, _, rfl, dv, d, n, rfl, h3, fun H1 e1 => ⟨_, rfl, ?_⟩⟩
    refine ite2 (fun hb1 => ?_) (fun hb1 => ?_)
    · exact qk k e1 (ref_t (by rw [hasI_ix]; exact hb1))
    have c1 : (!hasI d n) = false := by rw [hasI_ix]; exact not_t hb1
    refine ⟨_, rfl, _, rfl, rfl, _, rfl, ?_⟩
    refine ite2 (fun hq => ?_) (fun hq => ?_)
    · have hmn : m = n := V.int.inj (of_decide_eq_true hq)
      exact qk k e1 ((ref_f c1).trans (ref_t (by rw [hmn]; simp)))
    have hmn : (m == n) = false := by
      have : m ≠ n := fun z => hq (decide_eq_true (congrArg V.int z))
      simpa using this
    refine ⟨_, rfl, rfl, _, rfl, ?_⟩
    refine ite_ref (fun z => ?_) (fun z => ?_)
    · exact qk k e1 ((ref_f c1).trans (ref_f (by rw [hmn, z]; rfl)))
    · refine ⟨_, rfl, a, CP, dx, fs, dv, rfl, e1 _ _ h1, PC.cl, PC.n_document, h2, _, rfl, dv, d, m, rfl, Dp.same e1 (tupd_doc d) h3, fun H2 e2 => ⟨_, rfl, ?_⟩⟩
      refine ite2 (fun hb2 => ?_) (fun hb2 => ?_)
      · exact qk k (e1.trans e2) ((ref_f c1).trans (ref_t (by rw [hmn, not_fit z, Bool.or_false]; exact hb2)))
      · exact qk k (e1.trans e2) ((ref_f c1).trans (ref_f (by rw [hmn, not_fit z, Bool.or_false]; exact not_t hb2)))
theorem sc_refuse_drop : FnScope ["pad", "arguments"] ["pad", "arguments"] (defScope s_refuse_drop) := scM
theorem ok_refuse_drop (N3 : Nums3 mg) (PC : PadCls K CP) (C : CellsOk P w K mg base) (R : RefOk P w K mg base CP) (F : Top K mg "refuse_drop" s_refuse_drop) : FnAt P w K mg base "refuse_drop" 5 ["pad", "arguments"] (spRef K CP 1 0 rDrop) := by
  refine F.at_ ub2 fun f fd F => F.ok (k := 4) sc_refuse_drop (fun vs H Q E h => ?_) (fun cdv A outer s H vs Q E hr h => ?_)
  · obtain ⟨a, u, d, N, ws, rs, rfl, _⟩ := h
    rfl
  · obtain ⟨a, u, d, N, ws, rs, rfl, hp, W, hu, hw, hrs, hl, k⟩ := h
    obtain ⟨n, rfl⟩ := len1 hw
    obtain rfl := len0 hrs
    obtain ⟨b, rfl, hb⟩ := args_w hu
    have F_refuse_cell := R.refuse_cell
    refine ⟨_, (pss_one (ps_ret (pe_fn F_refuse_cell (hr.mono (by decide)) rfl (pa_cons (pv 0) (pa_cons (pe_ix ix_tup (pv 1) pe_int (fun _ _ => rfl)) pa_nil))))), ?_⟩
    exact ⟨_, rfl, _, rfl, b, _, 0, _, rfl, rfl, hb, rfl, a, n, d, N, rfl, hp, fun H1 e1 => k H1 e1⟩
theorem sc_refuse_hide : FnScope ["pad", "arguments"] ["pad", "arguments"] (defScope s_refuse_hide) := scM
theorem ok_refuse_hide (N3 : Nums3 mg) (PC : PadCls K CP) (C : CellsOk P w K mg base) (R : RefOk P w K mg base CP) (F : Top K mg "refuse_hide" s_refuse_hide) : FnAt P w K mg base "refuse_hide" 5 ["pad", "arguments"] (spRef K CP 2 0 rHide) := by
  refine F.at_ ub2 fun f fd F => F.ok (k := 4) sc_refuse_hide (fun vs H Q E h => ?_) (fun cdv A outer s H vs Q E hr h => ?_)
  · obtain ⟨a, u, d, N, ws, rs, rfl, _⟩ := h
    rfl
  · obtain ⟨a, u, d, N, ws, rs, rfl, hp, W, hu, hw, hrs, hl, k⟩ := h
    obtain ⟨n, m, rfl⟩ := len2 hw
    obtain rfl := len0 hrs
    obtain ⟨b, rfl, hb⟩ := args_ww hu
    have k : ∀ H', Same H H' → Q (.int (ref [(!hasI d n, -1), (!(m == 0 || m == 1), -18)])) H' := k
    have F_has_cell := C.has_cell
    obtain ⟨dx, fs, dv, h1, h2, h3, h4⟩ := id hp
    refine ⟨_, (pss_cons (ps_if (pt_not (pt_val (pe_fn F_has_cell (hr.mono (by decide)) rfl (pa_cons (pe_fld (pv 0) rfl) (pa_cons (pe_ix ix_tup (pv 1) pe_int (fun _ _ => rfl)) pa_nil))))) (pss_one (ps_ret (pe_gint rfl N3.c_NO_CELL))) pss_nil)
      (pss_cons (ps_if (pt_cmpR op_notIn_seq (pe_ix ix_tup (pv 1) pe_int (fun _ _ => rfl)) (pe_tup (pa_cons pe_int (pa_cons pe_int pa_nil))) (by with_unfolding_all rfl)) (pss_one (ps_ret (pe_gint rfl N3.c_BAD_MARK))) pss_nil)
      (pss_one (ps_ret (pe_gint rfl N3.c_NOT_REFUSED))))), ?_⟩
    refine ⟨_, rfl, a, CP, dx, fs, dv, rfl, h1, PC.cl, PC.n_document, h2, _, rfl, b, _, 0, _, rfl, rfl, hb, rfl, dv, d, n, rfl, h3, fun H1 e1 => ⟨_, rfl, ?_⟩⟩
    refine ite2 (fun hb1 => ?_) (fun hb1 => ?_)
    · exact qk k e1 (ref_t (by rw [hasI_ix]; exact hb1))
    have c1 : (!hasI d n) = false := by rw [hasI_ix]; exact not_t hb1
    refine ⟨_, rfl, b, _, 1, _, rfl, rfl, e1.tup hb, rfl, (by show 2 ≤ sizeLine; decide), fun p hp' => ⟨p, _, rfl, .inr (SqT.of upd_same), rfl, rfl, _, rfl, ?_⟩⟩
    have ev : inV (V.int m) [V.int 0, V.int 1] = (m == 0 || m == 1) := by
      show (eqV (V.int 0) (V.int m) || (eqV (V.int 1) (V.int m) || false)) = _
      rw [Bool.or_false]
      show ((0 : Int) == m || (1 : Int) == m) = _
      rw [show ((0 : Int) == m) = (m == 0) from by rw [Bool.eq_iff_iff]; simp; omega, show ((1 : Int) == m) = (m == 1) from by rw [Bool.eq_iff_iff]; simp; omega]
    have e2 := e1.trans (Same.upd (o := .tup [V.int 0, V.int 1]) hp')
    refine ite2 (fun hq => ?_) (fun hq => ?_)
    · exact qk k e2 ((ref_f c1).trans (ref_t (by rw [← ev]; exact hq)))
    · exact qk k e2 ((ref_f c1).trans (ref_f (by rw [← ev]; exact not_t hq)))
end
end CP
namespace CP
open PySem PySem.Spec PyProof.Rows L2 CM
open Vanbkd (Doc Cell Text Edit ofNat nats markOf found replaced apply first bytes tooLong fit hasI textOf upTo lengthOf behind textIn nextOf)
theorem not_tt {b : Bool} (h : (!b) = true) : b = false := by cases b <;> simp_all
theorem not_ff {b : Bool} (h : ¬ (!b) = true) : b = true := by cases b <;> simp_all
theorem hasI_t {d : Doc} {n : Int} {i : Nat} (q : ixF d n = some i) : hasI d n = true := by rw [hasI_ix, q]; rfl
theorem hasI_f {d : Doc} {n : Int} (q : ixF d n = none) : hasI d n = false := by rw [hasI_ix, q]; rfl
theorem textIn_at {d : Doc} {n : Int} {i : Nat} {c : Cell} (q : ixF d n = some i) (hc : d[i]? = some c) : textIn d n.toNat = some c.text := by
  obtain ⟨i', c', q', hc', _, ht⟩ := hasI_some (hasI_t q)
  rw [q] at q'
  cases q'
  rw [hc] at hc'
  cases hc'
  exact ht
theorem lengthOf_at {d : Doc} {n : Int} {i : Nat} {c : Cell} (q : ixF d n = some i) (hc : d[i]? = some c) : lengthOf d n = c.text.length := by
  unfold lengthOf
  rw [textIn_at q hc]
  rfl
theorem behind_at {d : Doc} {n : Int} {i : Nat} (q : ixF d n = some i) : behind d n = d[i + 1]?.map fun e => (e.number, e.text.length) := by
  have hn : ((n.toNat : Nat) : Int) = n := toNat_ix (by rw [q]; rfl)
  unfold behind
  rw [nextOf_at (n := n.toNat) (by rw [hn]; exact q)]
section
variable {P : Program} {w : World} {K : PySem.W.Frag} {mg : Str → Option Value} {base : Heap} {CP : Addr}
theorem sc_refuse_split : FnScope ["pad", "arguments", "index"] ["pad", "arguments"] (defScope s_refuse_split) := scM
theorem ok_refuse_split (T : Txt mg) (N3 : Nums3 mg) (PC : PadCls K CP) (C : CellsOk P w K mg base) (R : RefOk P w K mg base CP) (F : Top K mg "refuse_split" s_refuse_split) : FnAt P w K mg base "refuse_split" 5 ["pad", "arguments"] (spRef K CP 2 0 rSplit) := by
  refine F.at_ ub2 fun f fd F => F.ok (k := 4) sc_refuse_split (fun vs H Q E h => ?_) (fun cdv A outer s H vs Q E hr h => ?_)
  · obtain ⟨a, u, d, N, ws, rs, rfl, _⟩ := h
    rfl
  · obtain ⟨a, u, d, N, ws, rs, rfl, hp, W, hu, hw, hrs, hl, k⟩ := h
    obtain ⟨n, p, rfl⟩ := len2 hw
    obtain rfl := len0 hrs
    obtain ⟨b, rfl, hb⟩ := args_ww hu
    have k : ∀ H', Same H H' → Q (.int (ref [(!hasI d n, -1), (!upTo p (lengthOf d n), -8), (decide (12 ≤ d.length), -6), (decide (99 < N), -16)])) H' := k
    have F_index_of := C.index_of
    have F_text_of := C.text_of
    have F_refuse_one_more := R.refuse_one_more
    have SC := sc_refuse_split
    obtain ⟨dx, fs, dv, h1, h2, h3, h4⟩ := id hp
    obtain ⟨ad, ds, rfl, hds, hdc⟩ := doc_iff.mp h3
    refine ⟨_, (pss_cons (ps_set (i := 2) SC.nd rfl (Or.inl rfl) (pe_fn F_index_of (hr.mono (by decide)) rfl (pa_cons (pe_fld (pv 0) rfl) (pa_cons (pe_ix ix_tup (pv 1) pe_int (fun _ _ => rfl)) pa_nil))))
      (pss_cons (ps_if (pt_cmpR op_lt (pv 2) pe_int (nomark _)) (pss_one (ps_ret (pe_gint rfl N3.c_NO_CELL))) pss_nil)
      (pss_cons (ps_if (pt_not (pt_chain op_le op_le pe_int (pe_ix ix_tup (pv 1) pe_int (fun _ _ => rfl)) (pe_callB call_len_seq (by rfl) T.b_len PySem.boot_len (pa_cons (pe_fn F_text_of (hr.mono (by decide)) rfl (pa_cons (pe_ix ix_tup (pe_fld (pv 0) rfl) (pv 2) (fun _ _ => rfl)) pa_nil)) pa_nil)))) (pss_one (ps_ret (pe_gint rfl N3.c_BAD_PLACE))) pss_nil)
      (pss_one (ps_ret (pe_fn F_refuse_one_more (hr.mono (by decide)) rfl (pa_cons (pv 0) pa_nil))))))), ?_⟩
    refine ⟨_, rfl, a, CP, dx, fs, _, rfl, h1, PC.cl, PC.n_document, h2, _, rfl, b, _, 0, _, rfl, rfl, hb, rfl, _, d, n, rfl, h3, fun H1 e1 => ⟨_, rfl, _, _, rfl, rfl, _, rfl, ?_⟩⟩
    cases q : ixF d n with
    | none =>
      rw [ixI_none q]
      exact qk k e1 (ref_t (by rw [hasI_f q]; rfl))
    | some i =>
      rw [ixI_some q]
      obtain ⟨c, hc, hcn⟩ := ixF_at q
      obtain ⟨x, hx, hxc⟩ := at_ix (n := 0) hdc hc
      have c1 : (!hasI d n) = false := by rw [hasI_t q]; rfl
      have lo := lengthOf_at q hc
      refine ite2 (fun z => absurd (of_decide_eq_true z) (by omega)) (fun _ => ?_)
      refine ⟨_, rfl, b, _, 1, _, rfl, rfl, e1.tup hb, rfl, _, _, rfl, rfl, _, rfl, ?_⟩
      refine ite2 (fun hp0 => ?_) (fun hp0 => ?_)
      · refine ⟨_, rfl, a, CP, dx, fs, _, rfl, e1 _ _ h1, PC.cl, PC.n_document, h2, _, rfl, ad, _, _, _, rfl, rfl, e1.tup hds, atI_nat hx, x, c, rfl, Dp.same e1 (tupd_cell c) hxc, fun tv htv => ?_⟩
        obtain ⟨ta, rfl, hta⟩ := textN.mp htv
        refine ⟨ta, _, rfl, .inr hta, _, _, rfl, rfl, _, rfl, ?_⟩
        rw [nv_len]
        refine ite2 (fun hp1 => ?_) (fun hp1 => ?_)
        · refine qk k e1 ((ref_f c1).trans (ref_t ?_))
          rw [lo]
          unfold Vanbkd.upTo
          rw [show decide (p ≤ ofNat c.text.length) = false from not_tt hp1, Bool.and_false]
          rfl
        · refine ⟨_, rfl, a, d, N, rfl, hp.same e1, fun H2 e2 => qk k (e1.trans e2) ((ref_f c1).trans (ref_f ?_))⟩
          rw [lo]
          unfold Vanbkd.upTo
          rw [show decide (p ≤ ofNat c.text.length) = true from not_ff hp1, show decide (0 ≤ p) = true from hp0]
          rfl
      · refine ⟨_, rfl, ?_⟩
        refine iteT ?_
        refine qk k e1 ((ref_f c1).trans (ref_t ?_))
        unfold Vanbkd.upTo
        rw [show decide (0 ≤ p) = false from not_t hp0]
        rfl
theorem sc_refuse_join : FnScope ["pad", "arguments", "index"] ["pad", "arguments"] (defScope s_refuse_join) := scM
theorem ok_refuse_join (T : Txt mg) (N3 : Nums3 mg) (PC : PadCls K CP) (C : CellsOk P w K mg base) (R : RefOk P w K mg base CP) (F : Top K mg "refuse_join" s_refuse_join) : FnAt P w K mg base "refuse_join" 5 ["pad", "arguments"] (spRef K CP 1 0 rJoin) := by
  refine F.at_ ub2 fun f fd F => F.ok (k := 4) sc_refuse_join (fun vs H Q E h => ?_) (fun cdv A outer s H vs Q E hr h => ?_)
  · obtain ⟨a, u, d, N, ws, rs, rfl, _⟩ := h
    rfl
  · obtain ⟨a, u, d, N, ws, rs, rfl, hp, W, hu, hw, hrs, hl, k⟩ := h
    obtain ⟨n, rfl⟩ := len1 hw
    obtain rfl := len0 hrs
    obtain ⟨b, rfl, hb⟩ := args_w hu
    have k : ∀ H', Same H H' → Q (.int (ref [(!hasI d n, -1), ((behind d n).isNone, -9), (decide (Vanbkd.LONG < lengthOf d n + ((behind d n).getD (0, 0)).2), -5)])) H' := k
    have F_index_of := C.index_of
    have F_text_of := C.text_of
    have SC := sc_refuse_join
    obtain ⟨dx, fs, dv, h1, h2, h3, h4⟩ := id hp
    obtain ⟨ad, ds, rfl, hds, hdc⟩ := doc_iff.mp h3
    have ld : ds.length = d.length := by rw [DpAll.length hdc, List.length_map]
    refine ⟨_, (pss_cons (ps_set (i := 2) SC.nd rfl (Or.inl rfl) (pe_fn F_index_of (hr.mono (by decide)) rfl (pa_cons (pe_fld (pv 0) rfl) (pa_cons (pe_ix ix_tup (pv 1) pe_int (fun _ _ => rfl)) pa_nil))))
      (pss_cons (ps_if (pt_cmpR op_lt (pv 2) pe_int (nomark _)) (pss_one (ps_ret (pe_gint rfl N3.c_NO_CELL))) pss_nil)
      (pss_cons (ps_if (pt_cmpR op_eq (pe_op op_add (pv 2) pe_int) (pe_callB call_len_seq (by rfl) T.b_len PySem.boot_len (pa_cons (pe_fld (pv 0) rfl) pa_nil)) (nomark _)) (pss_one (ps_ret (pe_gint rfl N3.c_NONE_BEHIND))) pss_nil)
      (pss_cons (ps_if (pt_cmpR op_gt (pe_op op_add (pe_callB call_len_seq (by rfl) T.b_len PySem.boot_len (pa_cons (pe_fn F_text_of (hr.mono (by decide)) rfl (pa_cons (pe_ix ix_tup (pe_fld (pv 0) rfl) (pv 2) (fun _ _ => rfl)) pa_nil)) pa_nil)) (pe_callB call_len_seq (by rfl) T.b_len PySem.boot_len (pa_cons (pe_fn F_text_of (hr.mono (by decide)) rfl (pa_cons (pe_ix ix_tup (pe_fld (pv 0) rfl) (pe_op op_add (pv 2) pe_int) (fun _ _ => rfl)) pa_nil)) pa_nil))) (pe_gint rfl N3.c_LONGEST_TEXT) (nomark _)) (pss_one (ps_ret (pe_gint rfl N3.c_TOO_LONG))) pss_nil)
      (pss_one (ps_ret (pe_gint rfl N3.c_NOT_REFUSED))))))), ?_⟩
    refine ⟨_, rfl, a, CP, dx, fs, _, rfl, h1, PC.cl, PC.n_document, h2, _, rfl, b, _, 0, _, rfl, rfl, hb, rfl, _, d, n, rfl, h3, fun H1 e1 => ⟨_, rfl, _, _, rfl, rfl, _, rfl, ?_⟩⟩
    cases q : ixF d n with
    | none =>
      rw [ixI_none q]
      exact qk k e1 (ref_t (by rw [hasI_f q]; rfl))
    | some i =>
      rw [ixI_some q]
      obtain ⟨c, hc, hcn⟩ := ixF_at q
      obtain ⟨x, hx, hxc⟩ := at_ix (n := 0) hdc hc
      have c1 : (!hasI d n) = false := by rw [hasI_t q]; rfl
      have lo := lengthOf_at q hc
      have be := behind_at q
      have hil := ixF_lt q
      refine ite2 (fun z => absurd (of_decide_eq_true z) (by omega)) (fun _ => ?_)
      refine ⟨_, rfl, _, _, rfl, rfl, _, rfl, a, CP, dx, fs, _, rfl, e1 _ _ h1, PC.cl, PC.n_document, h2, ad, _, rfl, .inr (e1.tup hds), rfl, _, rfl, ?_⟩
      rw [ld]
      refine ite2 (fun hz => ?_) (fun hz => ?_)
      · have hz' : (i : Int) + 1 = (d.length : Int) := V.int.inj (of_decide_eq_true hz)
        have : d[i + 1]? = none := List.getElem?_eq_none_iff.mpr (by omega)
        exact qk k e1 ((ref_f c1).trans (ref_t (by rw [be, this]; rfl)))
      · have hz' : ¬ ((i : Int) + 1 = (d.length : Int)) := fun z => hz (decide_eq_true (congrArg V.int z))
        obtain ⟨c2, hc2⟩ : ∃ c2, d[i + 1]? = some c2 := ⟨d[i + 1], List.getElem?_eq_getElem (by omega)⟩
        obtain ⟨x2, hx2, hxc2⟩ := at_ix (n := 0) hdc hc2
        have c2' : (behind d n).isNone = false := by rw [be, hc2]; rfl
        refine ⟨_, rfl, a, CP, dx, fs, _, rfl, e1 _ _ h1, PC.cl, PC.n_document, h2, _, rfl, ad, _, _, _, rfl, rfl, e1.tup hds, atI_nat hx, x, c, rfl, Dp.same e1 (tupd_cell c) hxc, fun tv htv => ?_⟩
        obtain ⟨ta, rfl, hta⟩ := textN.mp htv
        refine ⟨ta, _, rfl, .inr hta, _, rfl, a, CP, dx, fs, _, rfl, e1 _ _ h1, PC.cl, PC.n_document, h2, _, rfl, _, _, rfl, rfl, ad, _, _, _, rfl, rfl, e1.tup hds, at_of (j := i + 1) (by omega) hx2, x2, c2, rfl, Dp.same e1 (tupd_cell c2) hxc2, fun tv2 htv2 => ?_⟩
        obtain ⟨ta2, rfl, hta2⟩ := textN.mp htv2
        refine ⟨ta2, _, rfl, .inr hta2, _, _, rfl, rfl, _, _, rfl, rfl, _, rfl, ?_⟩
        rw [nv_len, nv_len]
        refine ite2 (fun hg => ?_) (fun hg => ?_)
        · refine qk k e1 ((ref_f c1).trans ((ref_f c2').trans (ref_t ?_)))
          rw [be, hc2, lo]
          have := of_decide_eq_true hg
          exact decide_eq_true (by show 200 < c.text.length + c2.text.length; omega)
        · refine qk k e1 ((ref_f c1).trans ((ref_f c2').trans (ref_f ?_)))
          rw [be, hc2, lo]
          refine decide_eq_false fun z => hg (decide_eq_true ?_)
          have z' : 200 < c.text.length + c2.text.length := z
          omega
theorem sc_refuse_swap : FnScope ["pad", "arguments"] ["pad", "arguments"] (defScope s_refuse_swap) := scM
theorem ok_refuse_swap (N3 : Nums3 mg) (PC : PadCls K CP) (C : CellsOk P w K mg base) (R : RefOk P w K mg base CP) (F : Top K mg "refuse_swap" s_refuse_swap) : FnAt P w K mg base "refuse_swap" 5 ["pad", "arguments"] (spRef K CP 2 0 rSwap) := by
  refine F.at_ ub2 fun f fd F => F.ok (k := 4) sc_refuse_swap (fun vs H Q E h => ?_) (fun cdv A outer s H vs Q E hr h => ?_)
  · obtain ⟨a, u, d, N, ws, rs, rfl, _⟩ := h
    rfl
  · obtain ⟨a, u, d, N, ws, rs, rfl, hp, W, hu, hw, hrs, hl, k⟩ := h
    obtain ⟨n, m, rfl⟩ := len2 hw
    obtain rfl := len0 hrs
    obtain ⟨b, rfl, hb⟩ := args_ww hu
    have k : ∀ H', Same H H' → Q (.int (ref [(!hasI d n || !hasI d m, -1)])) H' := k
    have F_has_cell := C.has_cell
    have F_refuse_cell := R.refuse_cell
    obtain ⟨dx, fs, dv, h1, h2, h3, h4⟩ := id hp
    refine ⟨_, (pss_cons (ps_if (pt_not (pt_val (pe_fn F_has_cell (hr.mono (by decide)) rfl (pa_cons (pe_fld (pv 0) rfl) (pa_cons (pe_ix ix_tup (pv 1) pe_int (fun _ _ => rfl)) pa_nil))))) (pss_one (ps_ret (pe_gint rfl N3.c_NO_CELL))) pss_nil)
      (pss_one (ps_ret (pe_fn F_refuse_cell (hr.mono (by decide)) rfl (pa_cons (pv 0) (pa_cons (pe_ix ix_tup (pv 1) pe_int (fun _ _ => rfl)) pa_nil)))))), ?_⟩
    refine ⟨_, rfl, a, CP, dx, fs, dv, rfl, h1, PC.cl, PC.n_document, h2, _, rfl, b, _, 0, _, rfl, rfl, hb, rfl, dv, d, n, rfl, h3, fun H1 e1 => ⟨_, rfl, ?_⟩⟩
    refine ite2 (fun hb1 => ?_) (fun hb1 => ?_)
    · exact qk k e1 (ref_t (by rw [hasI_ix (n := n), show (!(ixF d n).isSome) = true from hb1]; rfl))
    · refine ⟨_, rfl, _, rfl, b, _, 1, _, rfl, rfl, e1.tup hb, rfl, a, m, d, N, rfl, hp.same e1, fun H2 e2 => ?_⟩
      refine qk k (e1.trans e2) ?_
      rw [hasI_ix (n := n), show (!(ixF d n).isSome) = false from not_t hb1, Bool.false_or]
end
end CP
namespace CP
open PySem PySem.Spec PyProof.Rows L2 CM
open Vanbkd (Doc Cell Text Edit ofNat nats markOf found replaced apply first bytes tooLong fit hasI textOf lengthOf behind textIn nextOf)
theorem eText_of {x : List Int} (h : bytes x = true) : eText (textOf x) = eInts x := by
  unfold eText eInts nats textOf
  congr 1
  rw [List.map_map, List.map_map]
  refine List.map_congr_left fun z hz => ?_
  have := List.all_eq_true.mp h z hz
  simp only [Bool.and_eq_true, decide_eq_true_eq] at this
  show PyData.int (ofNat z.toNat) = PyData.int z
  unfold ofNat
  congr 1
  omega
theorem bytes_app (x y : List Int) : bytes (x ++ y) = (bytes x && bytes y) := by
  unfold bytes
  rw [List.all_append]
theorem any_ex {d : Doc} {f : Cell → Bool} : ((d.map f).any id) = decide (∃ c ∈ d, f c = true) := by
  rw [Bool.eq_iff_iff]
  simp
section
variable {P : Program} {w : World} {K : PySem.W.Frag} {mg : Str → Option Value} {base : Heap} {CP : Addr}
theorem sc_refuse_replace : FnScope ["pad", "arguments", "wanted", "other", "cell"] ["pad", "arguments"] (defScope s_refuse_replace) := scM
theorem ok_refuse_replace (T : Txt mg) (N3 : Nums3 mg) (PC : PadCls K CP) (C : CellsOk P w K mg base) (R : RefOk P w K mg base CP) (F : Top K mg "refuse_replace" s_refuse_replace) : FnAt P w K mg base "refuse_replace" 5 ["pad", "arguments"] (spRef K CP 0 2 rReplace) := by
  refine F.at_ ub2 fun f fd F => F.ok (k := 4) sc_refuse_replace (fun vs H Q E h => ?_) (fun cdv A outer s H vs Q E hr h => ?_)
  · obtain ⟨a, u, d, N, ws, rs, rfl, _⟩ := h
    rfl
  · obtain ⟨a, u, d, N, ws, rs, rfl, hp, W, hu, hw, hrs, hl, k⟩ := h
    obtain rfl := len0 hw
    obtain ⟨x, y, rfl⟩ := len2 hrs
    obtain ⟨b, xv, yv, rfl, hb, hxv, hyv⟩ := args_rr hu
    have k : ∀ H', Same H H' → Q (.int (ref [(!bytes x || !bytes y, -4), (tooLong x || tooLong y, -5), (x.isEmpty, -17), ((apply d (.replace (textOf x) (textOf y))).isNone, -5)])) H' := k
    have F_are_bytes := R.are_bytes
    have F_text_of := C.text_of
    have F_text_replaced := C.text_replaced
    have SC := sc_refuse_replace
    obtain ⟨dx, fs, dv, h1, h2, h3, h4⟩ := id hp
    obtain ⟨ad, ds, rfl, hds, hdc⟩ := doc_iff.mp h3
    have ld : ds.length = d.length := by rw [DpAll.length hdc, List.length_map]
    obtain ⟨xa, rfl, hxa⟩ := ints_iff.mp hxv
    obtain ⟨ya, rfl, hya⟩ := ints_iff.mp hyv
    have hx4 := hl x (by simp)
    have hy4 := hl y (by simp)
    have big : (1000 : Nat) ≤ sizeLine := by decide
    refine ⟨_, (pss_cons (ps_set (i := 2) SC.nd rfl (Or.inr rfl) (pe_ix ix_tup (pv 1) pe_int (fun _ _ => rfl)))
      (pss_cons (ps_set (i := 3) SC.nd rfl (Or.inr rfl) (pe_ix ix_tup (pv 1) pe_int (fun _ _ => rfl)))
      (pss_cons (ps_if (pt_not (pt_val (pe_fn F_are_bytes (hr.mono (by decide)) rfl (pa_cons (pe_op op_catTA (pv 2) (pv 3)) pa_nil)))) (pss_one (ps_ret (pe_gint rfl N3.c_NO_BYTE))) pss_nil)
      (pss_cons (ps_if (pt_cmpR op_gt (pe_callB (call_max2 rfl) (by rfl) T.b_max boot_max (pa_cons (pe_callB call_len_seq (by rfl) T.b_len PySem.boot_len (pa_cons (pv 2) pa_nil)) (pa_cons (pe_callB call_len_seq (by rfl) T.b_len PySem.boot_len (pa_cons (pv 3) pa_nil)) pa_nil))) (pe_gint rfl N3.c_LONGEST_TEXT) (nomark _)) (pss_one (ps_ret (pe_gint rfl N3.c_TOO_LONG))) pss_nil)
      (pss_cons (ps_if (pt_cmpR op_eq (pe_callB call_len_seq (by rfl) T.b_len PySem.boot_len (pa_cons (pv 2) pa_nil)) pe_int (nomark _)) (pss_one (ps_ret (pe_gint rfl N3.c_EMPTY_TEXT))) pss_nil)
      (pss_cons (ps_if (pt_val (pe_callB (cr_any rfl) (by rfl) T.b_any boot_any (pa_cons (pe_lc (own := [("cell", 4)]) rfl SC.nd (pi_tup (pe_fld (pv 0) rfl)) (blkOk_by (by kernel_rfl)) (fun _ _ _ _ _ => (pg_name (i := 4) SC.nd rfl (Or.inl rfl))) (fun _ _ _ _ _ => pts_nil) (fun _ _ _ _ _ => (pe_cmpR op_isN (pe_fn F_text_replaced (hr.mono (by decide)) rfl (pa_cons (pe_fn F_text_of (hr.mono (by decide)) rfl (pa_cons (pv 4) pa_nil)) (pa_cons (pv 2) (pa_cons (pv 3) pa_nil)))) pe_non (nomark _)))) pa_nil))) (pss_one (ps_ret (pe_gint rfl N3.c_TOO_LONG))) pss_nil)
      (pss_one (ps_ret (pe_gint rfl N3.c_NOT_REFUSED))))))))), ?_⟩
    refine ⟨_, rfl, b, _, 0, _, rfl, rfl, hb, rfl, _, rfl, b, _, 1, _, rfl, rfl, hb, rfl, ?_⟩
    refine ⟨_, rfl, _, rfl, xa, ya, _, _, rfl, rfl, hxa, hya, (by rw [List.length_map, List.length_map]; omega), fun p1 H1 e1 q1 => ?_⟩
    rw [← List.map_append] at q1
    refine ⟨_, x ++ y, rfl, ints_iff.mpr ⟨p1, rfl, q1⟩, (by rw [List.length_append]; omega), fun H2 e2 => ⟨_, rfl, ?_⟩⟩
    rw [bytes_app]
    have e12 := e1.trans e2
    refine ite2 (fun hbb => ?_) (fun hbb => ?_)
    · refine qk k e12 (ref_t ?_)
      rw [← Bool.not_and]
      exact hbb
    have hby : (bytes x && bytes y) = true := by
      cases q : (bytes x && bytes y) with
      | true => rfl
      | false => rw [q] at hbb; exact absurd rfl hbb
    have hbx : bytes x = true := (Bool.and_eq_true _ _ ▸ hby).1
    have hbY : bytes y = true := (Bool.and_eq_true _ _ ▸ hby).2
    have c1 : (!bytes x || !bytes y) = false := by rw [hbx, hbY]; rfl
    refine ⟨_, rfl, xa, _, rfl, .inr (e12.tup hxa), _, rfl, ya, _, rfl, .inr (e12.tup hya), _, _, rfl, _, _, rfl, rfl, _, rfl, ?_⟩
    rw [List.length_map, List.length_map]
    refine ite2 (fun hg => ?_) (fun hg => ?_)
    · refine qk k e12 ((ref_f c1).trans (ref_t ?_))
      have hg' := of_decide_eq_true hg
      unfold Vanbkd.tooLong
      rw [Bool.or_eq_true, decide_eq_true_eq, decide_eq_true_eq]
      show 200 < x.length ∨ 200 < y.length
      split at hg' <;> omega
    have hg' : ¬ ((200 : Int) < if (y.length : Int) > (x.length : Int) then (y.length : Int) else (x.length : Int)) := fun z => hg (decide_eq_true z)
    have hxl : x.length ≤ 200 := by split at hg' <;> omega
    have hyl : y.length ≤ 200 := by split at hg' <;> omega
    have c2 : (tooLong x || tooLong y) = false := by
      unfold Vanbkd.tooLong
      rw [Bool.or_eq_false_iff]
      exact ⟨decide_eq_false (by show ¬ 200 < x.length; omega), decide_eq_false (by show ¬ 200 < y.length; omega)⟩
    refine ⟨_, rfl, xa, _, rfl, .inr (e12.tup hxa), rfl, _, rfl, ?_⟩
    rw [List.length_map]
    refine ite2 (fun hz => ?_) (fun hz => ?_)
    · have hz' : (x.length : Int) = 0 := V.int.inj (of_decide_eq_true hz)
      refine qk k e12 ((ref_f c1).trans ((ref_f c2).trans (ref_t ?_)))
      cases x with
      | nil => rfl
      | cons _ _ => simp at hz'; omega
    have hne : x ≠ [] := fun z => hz (decide_eq_true (by rw [z]; rfl))
    have c3 : x.isEmpty = false := by
      cases x with
      | nil => exact absurd rfl hne
      | cons _ _ => rfl
    have hneT : textOf x ≠ [] := by
      intro z
      apply hne
      cases x with
      | nil => rfl
      | cons _ _ => cases z
    have ex := eText_of hbx
    have ey := eText_of hbY
    refine ⟨_, rfl, a, CP, dx, fs, _, rfl, e12 _ _ h1, PC.cl, PC.n_document, h2, ad, rfl, ⟨_, e12.tup hds⟩, fun D hD => ?_⟩
    refine lc_tup (K := K) (a := ad) (xs := ds) (fun i H' => Same H H' ∧ Same H2 H' ∧ H' D = some (.lst ((d.take i).map fun c => V.bl (decide (200 < (replaced (textOf x) (textOf y) c.text).length))))) ⟨e12.trans (Same.upd hD), Same.upd hD, upd_same⟩ (fun i H' _ h => h.1.tup hds) ?_ ?_
    · rintro i z H' hi ⟨e, eb, hDi⟩
      obtain ⟨c, hc, hcell⟩ := cell_at hdc hi
      have hct := W.txt c (List.mem_of_getElem? hc)
      refine ⟨rfl, ?_⟩
      have fin : ∀ (v : V) (H4 : Hp), Same H' H4 → decide (v = V.non) = decide (200 < (replaced (textOf x) (textOf y) c.text).length) → ∃ acc, H4 D = some (.lst acc) ∧ acc.length < sizeLine ∧ (Same H (upd H4 D (.lst (acc ++ [V.bl (decide (v = V.non))]))) ∧ Same H2 (upd H4 D (.lst (acc ++ [V.bl (decide (v = V.non))]))) ∧ upd H4 D (.lst (acc ++ [V.bl (decide (v = V.non))])) D = some (.lst ((d.take (i + 1)).map fun c => V.bl (decide (200 < (replaced (textOf x) (textOf y) c.text).length))))) := by
        intro v H4 e4 hv
        refine ⟨_, e4 _ _ hDi, ?_, fun q o hq => ?_, fun q o hq => ?_, ?_⟩
        · rw [List.length_map, List.length_take]
          exact Nat.lt_of_le_of_lt (Nat.le_trans (Nat.min_le_right _ _) W.len) (by decide)
        · rw [upd_ne (ne_of_none (e12 _ _ hq) hD)]
          exact e4 _ _ (e _ _ hq)
        · rw [upd_ne (ne_of_none hq hD)]
          exact e4 _ _ (eb _ _ hq)
        · rw [upd_same, List.take_add_one, hc, hv]
          simp
      refine ⟨_, rfl, z, c, rfl, Dp.same e (tupd_cell c) hcell, fun tv htv => ⟨_, rfl, _, rfl, tv, _, _, c.text, textOf x, textOf y, rfl, htv, ?_, ?_, hneT, hct, (by rw [textOf_len]; exact hyl), fun r H4 e4 hle hr4 => ?_, fun H4 e4 hgt => ?_⟩⟩
      · rw [ex]
        exact Dp.same e (tupd_ints x) hxv
      · rw [ey]
        exact Dp.same e (tupd_ints y) hyv
      · obtain ⟨ra, rfl, _⟩ := textN.mp hr4
        refine ⟨rfl, fin _ H4 e4 ?_⟩
        rw [decide_eq_false (show ¬ (V.ref ra = V.non) from fun z => nomatch z), decide_eq_false (by omega)]
      · exact ⟨rfl, fin _ H4 e4 (by rw [decide_eq_true hgt]; rfl)⟩
    · rintro H' ⟨e, _, hDl⟩
      rw [ld, List.take_length] at hDl
      refine ⟨D, d.map fun c => decide (200 < (replaced (textOf x) (textOf y) c.text).length), rfl, SqL.of (by rw [hDl, List.map_map]; rfl), _, rfl, ?_⟩
      rw [any_ex]
      have ea : (apply d (.replace (textOf x) (textOf y))).isNone = decide (∃ c ∈ d, decide (200 < (replaced (textOf x) (textOf y) c.text).length) = true) := by
        rw [ap_replace]
        simp only [decide_eq_true_eq]
        split
        · rename_i hh
          rw [decide_eq_true hh]
          rfl
        · rename_i hh
          rw [decide_eq_false hh]
          rfl
      refine ite2 (fun hh => ?_) (fun hh => ?_)
      · exact qk k e ((ref_f c1).trans ((ref_f c2).trans ((ref_f c3).trans (ref_t (by rw [ea]; exact hh)))))
      · exact qk k e ((ref_f c1).trans ((ref_f c2).trans ((ref_f c3).trans (ref_f (by rw [ea]; exact not_t hh)))))
end
end CP
namespace CP
open PySem PySem.Spec PyProof.Rows L2 CM
open Vanbkd (Doc Cell Text Edit ofNat nats markOf apply applyAll)
structure HistCls (K : PySem.W.Frag) (CH : Addr) : Prop where
  cl : Cls K CH
  n_steps : NoAttr K CH "steps"
  n_documents : NoAttr K CH "documents"
  n_position : NoAttr K CH "position"
  n_forgotten : NoAttr K CH "forgotten"
def histF (ls ld : Addr) (pos fg : Nat) : List (Str × V) := [("steps", .ref ls), ("documents", .ref ld), ("position", .int (pos : Int)), ("forgotten", .int (fg : Int))]
theorem tupds_steps : ∀ l : List (List Edit), tupds (l.map eStep) = true
  | [] => by simp [tupds]
  | x :: r => by simp [tupds, tupd_step, tupds_steps r]
theorem tupds_docs : ∀ l : List Doc, tupds (l.map eDoc) = true
  | [] => by simp [tupds]
  | x :: r => by simp [tupds, tupd_doc, tupds_docs r]
structure HistAt (K : PySem.W.Frag) (CH : Addr) (H : Hp) (h ls ld : Addr) (S : List (List Edit)) (D : List Doc) (pos fg : Nat) : Prop where
  obj : ∃ dx, H h = some (.ins CH dx (histF ls ld pos fg))
  steps : ∃ sv, H ls = some (.lst sv) ∧ DpAll K H sv (S.map eStep)
  docs : ∃ dv, H ld = some (.lst dv) ∧ DpAll K H dv (D.map eDoc)
theorem HistAt.keep {K : PySem.W.Frag} {CH : Addr} {F : List Addr} {H H' : Hp} {h ls ld : Addr} {S : List (List Edit)} {D : List Doc} {pos fg : Nat} (A : HistAt K CH H h ls ld S D pos fg) (o : Only F H H') (c : ∀ b ∈ F, Chg (H b)) (hh : h ∉ F) (hs : ls ∉ F) (hd : ld ∉ F) :
    HistAt K CH H' h ls ld S D pos fg := by
  obtain ⟨dx, h1⟩ := A.obj
  obtain ⟨sv, h2, h3⟩ := A.steps
  obtain ⟨dv, h4, h5⟩ := A.docs
  exact ⟨⟨dx, o _ _ h1 hh⟩, ⟨sv, o _ _ h2 hs, DpAll.only o c (tupds_steps S) h3⟩, ⟨dv, o _ _ h4 hd, DpAll.only o c (tupds_docs D) h5⟩⟩
theorem HistAt.same {K : PySem.W.Frag} {CH : Addr} {H H' : Hp} {h ls ld : Addr} {S : List (List Edit)} {D : List Doc} {pos fg : Nat} (A : HistAt K CH H h ls ld S D pos fg) (e : Same H H') : HistAt K CH H' h ls ld S D pos fg :=
  A.keep (F := []) (Only.of e) (fun b hb => (nil2 hb).elim) (fun z => nil2 z) (fun z => nil2 z) (fun z => nil2 z)
def spHInit (K : PySem.W.Frag) (CH : Addr) : Sp := fun vs H Q _ => ∃ (x dx : Addr), vs = [.ref x] ∧ H x = some (.ins CH dx []) ∧
  ∀ H' ls ld, Only [x] H H' → H ls = none → H ld = none → HistAt K CH H' x ls ld [] [[]] 0 0 → Q .non H'
def spPresent (K : PySem.W.Frag) (CH : Addr) : Sp := fun vs H Q _ => ∃ (h ls ld : Addr) (S : List (List Edit)) (D : List Doc) (pos fg : Nat) (d : Doc), vs = [.ref h] ∧ HistAt K CH H h ls ld S D pos fg ∧ D[pos]? = some d ∧ ∀ v, Dp K H v (eDoc d) → Q v H
def spUndone (K : PySem.W.Frag) (CH : Addr) : Sp := fun vs H Q _ => ∃ (h ls ld : Addr) (S : List (List Edit)) (D : List Doc) (pos fg : Nat), vs = [.ref h] ∧ HistAt K CH H h ls ld S D pos fg ∧ Q (.int ((S.length : Int) - (pos : Int))) H
def spHasPos (K : PySem.W.Frag) (CH : Addr) : Sp := fun vs H Q _ => ∃ (h ls ld : Addr) (S : List (List Edit)) (D : List Doc) (pos fg : Nat) (q : Int), vs = [.ref h, .int q] ∧ HistAt K CH H h ls ld S D pos fg ∧ Q (.bl (Vanbkd.upTo q S.length)) H
def spHGo (K : PySem.W.Frag) (CH : Addr) : Sp := fun vs H Q _ => ∃ (h ls ld : Addr) (S : List (List Edit)) (D : List Doc) (pos fg q : Nat), vs = [.ref h, .int (q : Int)] ∧ HistAt K CH H h ls ld S D pos fg ∧ h ≠ ls ∧ h ≠ ld ∧
  ∀ H', Only [h] H H' → HistAt K CH H' h ls ld S D q fg → Q .non H'
def spForget (K : PySem.W.Frag) (CH : Addr) : Sp := fun vs H Q _ => ∃ (h ls ld : Addr) (S : List (List Edit)) (D : List Doc) (pos fg : Nat), vs = [.ref h] ∧ HistAt K CH H h ls ld S D (pos + 1) fg ∧
  ∀ H' ls' ld', Only [h] H H' → H ls' = none → H ld' = none → HistAt K CH H' h ls' ld' (S.drop 1) (D.drop 1) pos (fg + 1) → Q .non H'
def addS (S : List (List Edit)) (pos : Nat) (e : List Edit) : List (List Edit) := if pos + 1 ≤ 20 then S.take pos ++ [e] else (S.take pos ++ [e]).drop 1
def addD (D : List Doc) (pos : Nat) (d : Doc) : List Doc := if pos + 1 ≤ 20 then D.take (pos + 1) ++ [d] else (D.take (pos + 1) ++ [d]).drop 1
def addP (pos : Nat) : Nat := if pos + 1 ≤ 20 then pos + 1 else pos
def addF (pos fg : Nat) : Nat := if pos + 1 ≤ 20 then fg else fg + 1
def spAdd (K : PySem.W.Frag) (CH : Addr) : Sp := fun vs H Q _ => ∃ (h ls ld : Addr) (S : List (List Edit)) (D : List Doc) (pos fg : Nat) (a : Addr) (xs : List V) (e : List Edit) (v : V) (d : Doc), vs = [.ref h, .ref a, v] ∧ HistAt K CH H h ls ld S D pos fg ∧
  (SqL K H a xs ∨ SqT K H a xs) ∧ DpAll K H xs (e.map eEdit) ∧ Dp K H v (eDoc d) ∧ S.length ≤ 100 ∧ D.length ≤ 100 ∧
  ∀ H' ls' ld', Only [h] H H' → H ls' = none → H ld' = none → HistAt K CH H' h ls' ld' (addS S pos e) (addD D pos d) (addP pos) (addF pos fg) → Q .non H'
section
variable {P : Program} {w : World} {K : PySem.W.Frag} {mg : Str → Option Value} {base : Heap} {CH : Addr}
theorem sc_History_init : FnScope ["self"] ["self"] (defScope s_History_init) := scM
theorem ok_History_init (HC : HistCls K CH) (F : ITop K mg CH "History" "History.__init__" s_History_init) : MakeAt P w K mg base CH "History" 1 ["self"] (spHInit K CH) := by
  refine F.at_ ub1 fun f fd F => F.ok (k := 0) sc_History_init (fun vs H Q E h => ?_) (fun cdv A outer s H vs Q E hr h => ?_)
  · obtain ⟨x, dx, rfl, _⟩ := h
    rfl
  · obtain ⟨x, dx, rfl, hx, k⟩ := h
    refine ⟨_, (pss_cons (ps_fld (pv 0) (pe_lst pa_nil) rfl)
      (pss_cons (ps_fld (pv 0) (pe_lst (pa_cons (pe_tup pa_nil) pa_nil)) rfl)
      (pss_cons (ps_fld (pv 0) pe_int rfl)
      (pss_one (ps_fld (pv 0) pe_int rfl))))), ?_⟩
    refine ⟨Nat.zero_le _, fun l hl => ⟨_, rfl, x, CH, dx, _, rfl, (Same.upd hl) _ _ hx, HC.cl, HC.n_steps, (by show 0 < 1000; decide), ?_⟩⟩
    have xl : x ≠ l := ne_of_none hx hl
    refine ⟨Nat.zero_le _, fun t ht => ⟨(by show 1 ≤ sizeLine; decide), fun m hm => ⟨_, rfl, x, CH, dx, _, rfl, (Same.upd hm) _ _ ((Same.upd ht) _ _ upd_same), HC.cl, HC.n_documents, (by show 1 < 1000; decide), ?_⟩⟩⟩
    refine ⟨_, rfl, x, CH, dx, _, rfl, upd_same, HC.cl, HC.n_position, (by show 2 < 1000; decide), ?_⟩
    refine ⟨_, rfl, x, CH, dx, _, rfl, upd_same, HC.cl, HC.n_forgotten, (by show 3 < 1000; decide), ?_⟩
    rw [upd_upd, upd_upd]
    have hlt : l ≠ t := fun z => by
      rw [← z, upd_ne (Ne.symm xl), upd_same] at ht
      cases ht
    have htx : t ≠ x := fun z => by rw [z, upd_same] at ht; cases ht
    have hmt : m ≠ t := fun z => by rw [z, upd_same] at hm; cases hm
    have hmx : m ≠ x := fun z => by rw [z, upd_ne (Ne.symm htx), upd_same] at hm; cases hm
    have hml : m ≠ l := fun z => by rw [z, upd_ne hlt, upd_ne (Ne.symm xl), upd_same] at hm; cases hm
    have htH : H t = none := by
      rw [upd_ne htx, upd_ne (Ne.symm hlt)] at ht
      exact ht
    have hmH : H m = none := by
      rw [upd_ne hmt, upd_ne hmx, upd_ne hml] at hm
      exact hm
    refine k _ l m (fun b o hb nb => ?_) hl hmH ⟨⟨dx, upd_same⟩, ⟨[], ?_, .nil⟩, ⟨[.ref t], ?_, .cons (doc_iff.mpr ⟨t, [], rfl, SqT.of ?_, .nil⟩) .nil⟩⟩
    · have hbx : b ≠ x := fun z => nb (by simp [z])
      rw [upd_ne hbx, upd_ne (ne_of_none hb hmH), upd_ne (ne_of_none hb htH), upd_ne hbx, upd_ne (ne_of_none hb hl)]
      exact hb
    · rw [upd_ne (Ne.symm xl), upd_ne (Ne.symm hml), upd_ne hlt, upd_ne (Ne.symm xl), upd_same]
    · rw [upd_ne hmx, upd_same]
    · rw [upd_ne htx, upd_ne (Ne.symm hmt), upd_same]
theorem sc_History_present : FnScope ["self"] ["self"] (defScope s_History_present) := scM
theorem ok_History_present (HC : HistCls K CH) (F : MTop K CH "present" "History.present" s_History_present) : MethAt P w K mg base CH "present" 1 ["self"] (spPresent K CH) := by
  refine F.at_ ub1 fun f fd F => F.ok (k := 0) sc_History_present (fun vs H Q E h => ?_) (fun cdv A outer s H vs Q E hr h => ?_)
  · obtain ⟨h, ls, ld, S, D, pos, fg, d, rfl, _⟩ := h
    rfl
  · obtain ⟨h, ls, ld, S, D, pos, fg, d, rfl, A, hd, k⟩ := h
    obtain ⟨dx, h1⟩ := A.obj
    obtain ⟨dv, h4, h5⟩ := A.docs
    obtain ⟨v, hv, hdv⟩ := DpAll.get h5 (i := pos) (d := eDoc d) (by rw [List.getElem?_map, hd]; rfl)
    refine ⟨_, (pss_one (ps_ret (pe_ix ix_list (pe_fld (pv 0) rfl) (pe_fld (pv 0) rfl) (fun _ _ => rfl)))), ?_⟩
    exact ⟨_, rfl, h, CH, dx, _, _, rfl, h1, HC.cl, HC.n_documents, rfl, _, rfl, h, CH, dx, _, _, rfl, h1, HC.cl, HC.n_position, rfl, ld, _, _, _, rfl, rfl, SqL.of h4, atI_nat hv, k v hdv⟩
theorem sc_History_count_undone : FnScope ["self"] ["self"] (defScope s_History_count_undone) := scM
theorem ok_History_count_undone (T : Txt mg) (HC : HistCls K CH) (F : MTop K CH "count_undone" "History.count_undone" s_History_count_undone) : MethAt P w K mg base CH "count_undone" 1 ["self"] (spUndone K CH) := by
  refine F.at_ ub1 fun f fd F => F.ok (k := 0) sc_History_count_undone (fun vs H Q E h => ?_) (fun cdv A outer s H vs Q E hr h => ?_)
  · obtain ⟨h, ls, ld, S, D, pos, fg, rfl, _⟩ := h
    rfl
  · obtain ⟨h, ls, ld, S, D, pos, fg, rfl, A, k⟩ := h
    obtain ⟨dx, h1⟩ := A.obj
    obtain ⟨sv, h2, h3⟩ := A.steps
    have lS : sv.length = S.length := by rw [DpAll.length h3, List.length_map]
    refine ⟨_, (pss_one (ps_ret (pe_op op_sub (pe_callB call_len_seq (by rfl) T.b_len PySem.boot_len (pa_cons (pe_fld (pv 0) rfl) pa_nil)) (pe_fld (pv 0) rfl)))), ?_⟩
    refine ⟨_, rfl, h, CH, dx, _, _, rfl, h1, HC.cl, HC.n_steps, rfl, ls, _, rfl, .inl (SqL.of h2), _, rfl, h, CH, dx, _, _, rfl, h1, HC.cl, HC.n_position, rfl, _, _, rfl, rfl, ?_⟩
    rw [lS]
    exact k
theorem sc_History_has_position : FnScope ["self", "position"] ["self", "position"] (defScope s_History_has_position) := scM
theorem ok_History_has_position (T : Txt mg) (HC : HistCls K CH) (F : MTop K CH "has_position" "History.has_position" s_History_has_position) : MethAt P w K mg base CH "has_position" 1 ["self", "position"] (spHasPos K CH) := by
  refine F.at_ ub2 fun f fd F => F.ok (k := 0) sc_History_has_position (fun vs H Q E h => ?_) (fun cdv A outer s H vs Q E hr h => ?_)
  · obtain ⟨h, ls, ld, S, D, pos, fg, q, rfl, _⟩ := h
    rfl
  · obtain ⟨h, ls, ld, S, D, pos, fg, q, rfl, A, k⟩ := h
    obtain ⟨dx, h1⟩ := A.obj
    obtain ⟨sv, h2, h3⟩ := A.steps
    have lS : sv.length = S.length := by rw [DpAll.length h3, List.length_map]
    refine ⟨_, (pss_one (ps_ret (pe_chain op_le op_le pe_int (pv 1) (pe_callB call_len_seq (by rfl) T.b_len PySem.boot_len (pa_cons (pe_fld (pv 0) rfl) pa_nil))))), ?_⟩
    refine ⟨_, rfl, _, _, rfl, rfl, _, rfl, ?_⟩
    unfold Vanbkd.upTo at k
    refine ite2 (fun h0 => ?_) (fun h0 => ?_)
    · refine ⟨_, rfl, h, CH, dx, _, _, rfl, h1, HC.cl, HC.n_steps, rfl, ls, _, rfl, .inl (SqL.of h2), _, _, rfl, rfl, ?_⟩
      rw [lS]
      rw [show decide (0 ≤ q) = true from h0, Bool.true_and] at k
      exact k
    · rw [show decide (0 ≤ q) = false from Bool.not_eq_true _ |>.mp h0, Bool.false_and] at k
      exact k
theorem sc_History_go_to : FnScope ["self", "position"] ["self", "position"] (defScope s_History_go_to) := scM
theorem ok_History_go_to (HC : HistCls K CH) (F : MTop K CH "go_to" "History.go_to" s_History_go_to) : MethAt P w K mg base CH "go_to" 1 ["self", "position"] (spHGo K CH) := by
  refine F.at_ ub2 fun f fd F => F.ok (k := 0) sc_History_go_to (fun vs H Q E h => ?_) (fun cdv A outer s H vs Q E hr h => ?_)
  · obtain ⟨h, ls, ld, S, D, pos, fg, q, rfl, _⟩ := h
    rfl
  · obtain ⟨h, ls, ld, S, D, pos, fg, q, rfl, A, n1, n2, k⟩ := h
    obtain ⟨dx, h1⟩ := A.obj
    obtain ⟨sv, h2, h3⟩ := A.steps
    obtain ⟨dv, h4, h5⟩ := A.docs
    refine ⟨_, (pss_one (ps_fld (pv 0) (pv 1) rfl)), ?_⟩
    refine ⟨_, rfl, _, rfl, h, CH, dx, _, rfl, h1, HC.cl, HC.n_position, (by show 4 < 1000; decide), ?_⟩
    have o : Only [h] H (upd H h (.ins CH dx (histF ls ld q fg))) := Only.set (by simp)
    have c : ∀ b ∈ [h], Chg (H b) := fun b hb => by
      have : b = h := by simpa using hb
      rw [this, h1]
      exact True.intro
    exact k _ o ⟨⟨dx, upd_same⟩, ⟨sv, o _ _ h2 (by simpa using n1.symm), DpAll.only o c (tupds_steps S) h3⟩, ⟨dv, o _ _ h4 (by simpa using n2.symm), DpAll.only o c (tupds_docs D) h5⟩⟩
end
end CP
namespace CP
open PySem PySem.Spec PyProof.Rows L2 CM
open Vanbkd (Doc Cell Text Edit ofNat nats markOf apply applyAll)
theorem map_drop1 {α β : Type} (f : α → β) (l : List α) (n : Nat) : (l.map f).drop n = (l.drop n).map f := List.map_drop.symm
theorem map_take1 {α β : Type} (f : α → β) (l : List α) (n : Nat) : (l.map f).take n = (l.take n).map f := List.map_take.symm
section
variable {P : Program} {w : World} {K : PySem.W.Frag} {mg : Str → Option Value} {base : Heap} {CH : Addr}
theorem sc_History_forget_step : FnScope ["self"] ["self"] (defScope s_History_forget_step) := scM
theorem ok_History_forget_step (HC : HistCls K CH) (F : MTop K CH "forget_step" "History.forget_step" s_History_forget_step) : MethAt P w K mg base CH "forget_step" 1 ["self"] (spForget K CH) := by
  refine F.at_ ub1 fun f fd F => F.ok (k := 0) sc_History_forget_step (fun vs H Q E h => ?_) (fun cdv A outer s H vs Q E hr h => ?_)
  · obtain ⟨h, ls, ld, S, D, pos, fg, rfl, _⟩ := h
    rfl
  · obtain ⟨h, ls, ld, S, D, pos, fg, rfl, A, k⟩ := h
    obtain ⟨dx, h1⟩ := A.obj
    obtain ⟨sv, h2, h3⟩ := A.steps
    obtain ⟨dv, h4, h5⟩ := A.docs
    have hls : ls ≠ h := ne_of h2 h1 (fun z => nomatch z)
    have hld : ld ≠ h := ne_of h4 h1 (fun z => nomatch z)
    refine ⟨_, (pss_cons (ps_fld (pv 0) (pe_slice sl_list (pe_fld (pv 0) rfl) (po_some pe_int) po_none) rfl)
      (pss_cons (ps_fld (pv 0) (pe_slice sl_list (pe_fld (pv 0) rfl) (po_some pe_int) po_none) rfl)
      (pss_cons (ps_fldaug (pv 0) pe_int in_sub)
      (pss_one (ps_fldaug (pv 0) pe_int in_add))))), ?_⟩
    refine ⟨_, rfl, h, CH, dx, _, _, rfl, h1, HC.cl, HC.n_steps, rfl, _, rfl, ls, _, rfl, SqL.of h2, fun p1 hp1 => ?_⟩
    have n1 : h ≠ p1 := ne_of_none h1 hp1
    refine ⟨_, rfl, h, CH, dx, _, rfl, (Same.upd hp1) _ _ h1, HC.cl, HC.n_steps, (by show 4 < 1000; decide), ?_⟩
    refine ⟨_, rfl, h, CH, dx, _, _, rfl, upd_same, HC.cl, HC.n_documents, rfl, _, rfl, ld, dv, rfl, SqL.of (by rw [upd_ne hld, upd_ne (ne_of_none h4 hp1)]; exact h4), fun p2 hp2 => ?_⟩
    have n2 : p2 ≠ h := fun z => by rw [z, upd_same] at hp2; cases hp2
    have n3 : p2 ≠ p1 := fun z => by rw [z, upd_ne (Ne.symm n1), upd_same] at hp2; cases hp2
    have hp2H : H p2 = none := by
      rw [upd_ne n2, upd_ne n3] at hp2
      exact hp2
    refine ⟨_, rfl, h, CH, dx, _, rfl, (by rw [upd_ne (Ne.symm n2)]; exact upd_same), HC.cl, HC.n_documents, (by show 4 < 1000; decide), ?_⟩
    refine ⟨_, rfl, h, CH, dx, _, _, rfl, upd_same, HC.cl, HC.n_position, rfl, _, _, rfl, rfl, dx, _, upd_same, (by show 4 < 1000; decide), ?_⟩
    refine ⟨_, rfl, h, CH, dx, _, _, rfl, upd_same, HC.cl, HC.n_forgotten, rfl, _, _, rfl, rfl, dx, _, upd_same, (by show 4 < 1000; decide), ?_⟩
    rw [upd_upd, upd_upd]
    have o : Only [h] H (upd (upd (upd (upd H p1 (.lst (cutV sv (some 1) none))) h (.ins CH dx (putF "steps" (.ref p1) (histF ls ld (pos + 1) fg)))) p2 (.lst (cutV dv (some 1) none))) h (.ins CH dx (histF p1 p2 pos (fg + 1)))) := fun b o hb nb => by
      have hbh : b ≠ h := fun z => nb (by simp [z])
      rw [upd_ne hbh, upd_ne (ne_of_none hb hp2H), upd_ne hbh, upd_ne (ne_of_none hb hp1)]
      exact hb
    have c : ∀ b ∈ [h], Chg (H b) := fun b hb => by
      have : b = h := by simpa using hb
      rw [this, h1]
      exact True.intro
    have ef : ([("steps", V.ref p1), ("documents", V.ref p2), ("position", V.int (((pos + 1 : Nat) : Int) - 1)), ("forgotten", V.int ((fg : Int) + 1))] : List (Str × V)) = histF p1 p2 pos (fg + 1) := by
      unfold histF
      rw [show ((pos + 1 : Nat) : Int) - 1 = (pos : Int) by omega, show (fg : Int) + 1 = ((fg + 1 : Nat) : Int) by omega]
    have fin := k _ p1 p2 o hp1 hp2H ⟨⟨dx, upd_same⟩, ⟨_, (by rw [upd_ne (Ne.symm n1), upd_ne (Ne.symm n3), upd_ne (Ne.symm n1), upd_same]), ?_⟩, ⟨_, (by rw [upd_ne n2, upd_same]), ?_⟩⟩
    · rw [← ef] at fin
      exact fin
    · rw [← map_drop1]
      have q := (DpAll.only o c (tupds_steps S) h3).drop 1
      rw [← show cutV sv (some 1) none = sv.drop 1 from cut_from sv 1] at q
      exact q
    · rw [← map_drop1]
      have q := (DpAll.only o c (tupds_docs D) h5).drop 1
      rw [← show cutV dv (some 1) none = dv.drop 1 from cut_from dv 1] at q
      exact q
theorem sc_History_add_step : FnScope ["self", "edits", "document"] ["self", "edits", "document"] (defScope s_History_add_step) := scM
theorem ok_History_add_step (T : Txt mg) (N : Nums mg) (HC : HistCls K CH) (M_History_forget_step : MethAt P w K mg base CH "forget_step" 1 ["self"] (spForget K CH)) (F : MTop K CH "add_step" "History.add_step" s_History_add_step) :
    MethAt P w K mg base CH "add_step" 2 ["self", "edits", "document"] (spAdd K CH) := by
  refine F.at_ ub3 fun f fd F => F.ok (k := 1) sc_History_add_step (fun vs H Q E h => ?_) (fun cdv A outer s H vs Q E hr h => ?_)
  · obtain ⟨h, ls, ld, S, D, pos, fg, a, xs, e, v, d, rfl, _⟩ := h
    rfl
  · obtain ⟨h, ls, ld, S, D, pos, fg, a, xs, e, v, d, rfl, A, hxs, hE, hv, zS, zD, k⟩ := h
    obtain ⟨dx, h1⟩ := A.obj
    obtain ⟨sv, h2, h3⟩ := A.steps
    obtain ⟨dv, h4, h5⟩ := A.docs
    have lS : sv.length = S.length := by rw [DpAll.length h3, List.length_map]
    have lD : dv.length = D.length := by rw [DpAll.length h5, List.length_map]
    have big : (1000 : Nat) ≤ sizeLine := by decide
    have hls : ls ≠ h := ne_of h2 h1 (fun z => nomatch z)
    have hld : ld ≠ h := ne_of h4 h1 (fun z => nomatch z)
    have SC := sc_History_add_step
    refine ⟨_, (pss_cons (ps_fld (pv 0) (pe_op op_cat (pe_slice sl_list (pe_fld (pv 0) rfl) po_none (po_some (pe_fld (pv 0) rfl))) (pe_lst (pa_cons (pe_callTy call_tupleA (by rfl) T.b_tuple boot_tuple (pa_cons (pv 1) pa_nil)) pa_nil))) rfl)
      (pss_cons (ps_fld (pv 0) (pe_op op_cat (pe_slice sl_list (pe_fld (pv 0) rfl) po_none (po_some (pe_op op_add (pe_fld (pv 0) rfl) pe_int))) (pe_lst (pa_cons (pv 2) pa_nil))) rfl)
      (pss_cons (ps_fldaug (pv 0) pe_int in_add)
      (pss_one (ps_if (pt_cmpR op_gt (pe_fld (pv 0) rfl) (pe_gint rfl N.c_MOST_DONE) (nomark _)) (pss_one (ps_expr (pe_mt0 (pv 0) HC.cl M_History_forget_step (hr.mono (by decide))))) pss_nil))))), ?_⟩
    refine ⟨_, rfl, h, CH, dx, _, _, rfl, h1, HC.cl, HC.n_steps, rfl, _, rfl, h, CH, dx, _, _, rfl, h1, HC.cl, HC.n_position, rfl, _, rfl, ls, _, rfl, SqL.of h2, fun p1 hp1 => ?_⟩
    have s1 : Same H (upd H p1 (.lst (cutV sv none (some (pos : Int))))) := Same.upd hp1
    refine ⟨_, rfl, a, xs, rfl, hxs.imp (fun z => s1.seq z) (fun z => s1.tup z), fun r H2 s2 hr2 => ⟨(by show 1 ≤ sizeLine; decide), fun q1 hq1 => ?_⟩⟩
    have s3 : Same H2 (upd H2 q1 (.lst [.ref r])) := Same.upd hq1
    have sA := (s1.trans s2).trans s3
    have g1 : (upd H2 q1 (.lst [.ref r])) p1 = some (.lst (cutV sv none (some (pos : Int)))) := s3 _ _ (s2 _ _ upd_same)
    refine ⟨p1, q1, _, _, rfl, rfl, g1, upd_same, (by rw [cut_to, List.length_take]; show _ + 1 ≤ _; omega), fun t1 ht1 => ?_⟩
    have s4 := sA.trans (Same.upd (o := .lst (cutV sv none (some (pos : Int)) ++ [V.ref r])) ht1)
    refine ⟨_, rfl, h, CH, dx, _, rfl, s4 _ _ h1, HC.cl, HC.n_steps, (by show 4 < 1000; decide), ?_⟩
    have t1H : H t1 = none := sA.free ht1
    have nt1 : t1 ≠ h := fun z => by rw [z, h1] at t1H; cases t1H
    generalize hB : upd (upd H2 q1 (.lst [.ref r])) t1 (.lst (cutV sv none (some (pos : Int)) ++ [V.ref r])) = HB at s4 ⊢
    have gt1 : HB t1 = some (.lst (cutV sv none (some (pos : Int)) ++ [V.ref r])) := by rw [← hB]; exact upd_same
    have gr : SqT K HB r xs := by
      have := (s3.trans (Same.upd (o := .lst (cutV sv none (some (pos : Int)) ++ [V.ref r])) ht1)).tup hr2
      rw [hB] at this
      exact this
    have cE : DpAll K HB xs (e.map eEdit) := DpAll.same s4 (tupds_edits e) hE
    have cS : DpAll K HB sv (S.map eStep) := DpAll.same s4 (tupds_steps S) h3
    have cD : DpAll K HB dv (D.map eDoc) := DpAll.same s4 (tupds_docs D) h5
    have cV : Dp K HB v (eDoc d) := Dp.same s4 (tupd_doc d) hv
    refine ⟨_, rfl, h, CH, dx, _, _, rfl, upd_same, HC.cl, HC.n_documents, rfl, _, rfl, h, CH, dx, _, _, rfl, upd_same, HC.cl, HC.n_position, rfl, _, _, rfl, rfl, _, rfl, ld, dv, rfl, SqL.of (by rw [upd_ne hld]; exact s4 _ _ h4), fun p2 hp2 => ?_⟩
    have n2 : p2 ≠ h := fun z => by rw [z, upd_same] at hp2; cases hp2
    have p2B : HB p2 = none := by rw [upd_ne n2] at hp2; exact hp2
    refine ⟨_, rfl, (by show 1 ≤ sizeLine; decide), fun q2 hq2 => ?_⟩
    have m2 : q2 ≠ p2 := fun z => by rw [z, upd_same] at hq2; cases hq2
    have m3 : q2 ≠ h := fun z => by rw [z, upd_ne (Ne.symm n2), upd_same] at hq2; cases hq2
    have q2B : HB q2 = none := by rw [upd_ne m2, upd_ne m3] at hq2; exact hq2
    refine ⟨p2, q2, _, _, rfl, rfl, (by rw [upd_ne (Ne.symm m2), upd_same]), upd_same, (by rw [show ((pos : Int) + 1) = ((pos + 1 : Nat) : Int) by omega, cut_to, List.length_take]; show _ + 1 ≤ _; omega), fun t2 ht2 => ?_⟩
    have l1 : t2 ≠ q2 := fun z => by rw [z, upd_same] at ht2; cases ht2
    have l2 : t2 ≠ p2 := fun z => by rw [z, upd_ne (Ne.symm m2), upd_same] at ht2; cases ht2
    have l3 : t2 ≠ h := fun z => by rw [z, upd_ne (Ne.symm m3), upd_ne (Ne.symm n2), upd_same] at ht2; cases ht2
    have t2B : HB t2 = none := by rw [upd_ne l1, upd_ne l2, upd_ne l3] at ht2; exact ht2
    refine ⟨_, rfl, h, CH, dx, _, rfl, (by rw [upd_ne (Ne.symm l3), upd_ne (Ne.symm m3), upd_ne (Ne.symm n2), upd_same]), HC.cl, HC.n_documents, (by show 4 < 1000; decide), ?_⟩
    refine ⟨_, rfl, h, CH, dx, _, _, rfl, upd_same, HC.cl, HC.n_position, rfl, _, _, rfl, rfl, dx, _, upd_same, (by show 4 < 1000; decide), ?_⟩
    rw [upd_upd]
    rw [show ((pos : Int) + 1) = ((pos + 1 : Nat) : Int) by omega, cut_to]
    rw [cut_to] at gt1
    have ef : putF "position" (V.int ((pos + 1 : Nat) : Int)) (putF "documents" (V.ref t2) (putF "steps" (V.ref t1) (histF ls ld pos fg))) = histF t1 t2 (pos + 1) fg := rfl
    rw [ef]
    generalize hC : upd (upd (upd (upd (upd HB h (.ins CH dx (putF "steps" (V.ref t1) (histF ls ld pos fg)))) p2 (.lst (dv.take (pos + 1)))) q2 (.lst [v])) t2 (.lst (dv.take (pos + 1) ++ [v]))) h (.ins CH dx (histF t1 t2 (pos + 1) fg)) = HC'
    have oBC : Only [h] HB HC' := fun b o hb nb => by
      have hbh : b ≠ h := fun z => nb (by simp [z])
      rw [← hC, upd_ne hbh, upd_ne (ne_of_none hb t2B), upd_ne (ne_of_none hb q2B), upd_ne (ne_of_none hb p2B), upd_ne hbh]
      exact hb
    have cB : ∀ b ∈ [h], Chg (HB b) := fun b hb => by
      have : b = h := by simpa using hb
      rw [this, s4 _ _ h1]
      exact True.intro
    have o : Only [h] H HC' := (Only.of s4).trans oBC
    have A1 : HistAt K CH HC' h t1 t2 (S.take pos ++ [e]) (D.take (pos + 1) ++ [d]) (pos + 1) fg := by
      refine ⟨⟨dx, by rw [← hC]; exact upd_same⟩, ⟨_, oBC _ _ gt1 (by simpa using nt1), ?_⟩, ⟨dv.take (pos + 1) ++ [v], ?_, ?_⟩⟩
      · rw [List.map_append, ← map_take1]
        refine ((DpAll.only oBC cB (tupds_steps S) cS).take pos).append (.cons (dp_tup.mpr ⟨r, xs, rfl, (oBC.keep cB).tup gr, DpAll.only oBC cB (tupds_edits e) cE⟩) .nil)
      · rw [← hC, upd_ne l3, upd_same]
      · rw [List.map_append, ← map_take1]
        exact ((DpAll.only oBC cB (tupds_docs D) cD).take (pos + 1)).append (.cons (Dp.only oBC cB (tupd_doc d) cV) .nil)
    have ht2H : H t2 = none := s4.free t2B
    obtain ⟨dx1, hobj⟩ := A1.obj
    refine ⟨_, rfl, h, CH, dx1, _, _, rfl, hobj, HC.cl, HC.n_position, rfl, _, _, rfl, rfl, _, rfl, ?_⟩
    refine ite2 (fun hg => ?_) (fun hg => ?_)
    · have hg' : ¬ pos + 1 ≤ 20 := by
        have := of_decide_eq_true hg
        omega
      refine ⟨_, rfl, h, dx1, _, rfl, hobj, rfl, h, t1, t2, _, _, pos, fg, rfl, A1, fun H' ls' ld' o2 f1 f2 A2 => ?_⟩
      refine k H' ls' ld' (o.trans o2) ?_ ?_ ?_
      · exact o.free f1 (fun z => by
          have : ls' = h := by simpa using z
          rw [this, hobj] at f1
          cases f1)
      · exact o.free f2 (fun z => by
          have : ld' = h := by simpa using z
          rw [this, hobj] at f2
          cases f2)
      · unfold addS addD addP addF
        rw [if_neg hg', if_neg hg', if_neg hg', if_neg hg']
        exact A2
    · have hg' : pos + 1 ≤ 20 := by
        have : ¬ ((20 : Int) < ((pos + 1 : Nat) : Int)) := fun z => hg (decide_eq_true z)
        omega
      refine k HC' t1 t2 o t1H ht2H ?_
      unfold addS addD addP addF
      rw [if_pos hg', if_pos hg', if_pos hg', if_pos hg']
      exact A1
end
end CP
namespace CP
open PySem PySem.Spec PyProof.Rows L2 CM
open Vanbkd (Doc Cell Text Edit ofNat nats markOf apply applyAll)
theorem atI_last {α : Type} {xs : List α} {v : α} (h : xs[xs.length - 1]? = some v) : atI xs (-1) = some v := by
  have hl : xs.length - 1 < xs.length := (List.getElem?_eq_some_iff.mp h).1
  unfold atI ixN
  rw [if_neg (by decide), if_pos (by omega)]
  show xs[((-1 : Int) + xs.length).toNat]? = some v
  rw [show ((-1 : Int) + xs.length).toNat = xs.length - 1 by omega]
  exact h
theorem along_nil (b : Doc) : alongD b [] = [b] := by simp [alongD, applyAll]
theorem all_wf {l : List Edit} : ∀ {d d' : Doc}, WF d → (∀ e ∈ l, EOk e) → applyAll d l = some d' → WF d' := by
  induction l with
  | nil => intro d d' W _ h; cases h; exact W
  | cons e r ih =>
    intro d d' W hE h
    rw [show e :: r = [e] ++ r from rfl, all_app, all_one] at h
    cases q : apply d e with
    | none => rw [q] at h; cases h
    | some d1 =>
      rw [q] at h
      exact ih (ap_wf W (hE e (by simp)) q) (fun x hx => hE x (by simp [hx])) h
def spStrikeH (K : PySem.W.Frag) (CH : Addr) : Sp := fun vs H Q _ => ∃ (h ls ld : Addr) (S : List (List Edit)) (D : List Doc) (pos fg i : Nat) (b : Doc), vs = [.ref h, .int (i : Int)] ∧ HistAt K CH H h ls ld S D pos fg ∧
  D[i]? = some b ∧ WF b ∧ (∀ st ∈ S, ∀ e ∈ st, EOk e) ∧ S.length ≤ 100 ∧ D.length ≤ 101 ∧
  (∀ H' ls' ld', Only [h] H H' → H ls' = none → H ld' = none → (applyAll b ((S.drop (i + 1)).take (pos - (i + 1))).flatten).isSome = true →
    HistAt K CH H' h ls' ld' (S.take i ++ (S.drop (i + 1)).take (pos - (i + 1))) (D.take i ++ alongD b ((S.drop (i + 1)).take (pos - (i + 1)))) (S.take i ++ (S.drop (i + 1)).take (pos - (i + 1))).length fg → Q (.bl true) H') ∧
  (∀ H', Same H H' → (applyAll b ((S.drop (i + 1)).take (pos - (i + 1))).flatten).isSome = false → Q (.bl false) H')
section
variable {P : Program} {w : World} {K : PySem.W.Frag} {mg : Str → Option Value} {base : Heap} {CH : Addr}
theorem step_at {H : Hp} {xs : List V} {l : List (List Edit)} {i : Nat} {x : V} (hx : DpAll K H xs (l.map eStep)) (hi : xs[i]? = some x) : ∃ e, l[i]? = some e ∧ Dp K H x (eStep e) := by
  obtain ⟨dd, hdd, hc⟩ := DpAll.getV hx hi
  rw [List.getElem?_map] at hdd
  cases q : l[i]? with
  | none => rw [q] at hdd; cases hdd
  | some c =>
    rw [q] at hdd
    have : eStep c = dd := Option.some.inj hdd
    subst this
    exact ⟨c, rfl, hc⟩
theorem sc_History_strike_step : FnScope ["self", "index", "later", "documents", "edits", "document"] ["self", "index"] (defScope s_History_strike_step) := scM
theorem ok_History_strike_step (T : Txt mg) (HC : HistCls K CH) (F_do_edits : FnAt P w K mg base "do_edits" 6 ["document", "edits"] (spDos K)) (F : MTop K CH "strike_step" "History.strike_step" s_History_strike_step) :
    MethAt P w K mg base CH "strike_step" 7 ["self", "index"] (spStrikeH K CH) := by
  refine F.at_ ub2 fun f fd F => F.ok (k := 6) sc_History_strike_step (fun vs H Q E h => ?_) (fun cdv A outer s H vs Q E hr h => ?_)
  · obtain ⟨h, ls, ld, S, D, pos, fg, i, b, rfl, _⟩ := h
    rfl
  · obtain ⟨h, ls, ld, S, D, pos, fg, i, b, rfl, A, hb, W, hE, zS, zD, k, kn⟩ := h
    obtain ⟨dx, h1⟩ := A.obj
    obtain ⟨sv, h2, h3⟩ := A.steps
    obtain ⟨dv, h4, h5⟩ := A.docs
    have lS : sv.length = S.length := by rw [DpAll.length h3, List.length_map]
    have lD : dv.length = D.length := by rw [DpAll.length h5, List.length_map]
    have big : (1000 : Nat) ≤ sizeLine := by decide
    have hls : ls ≠ h := ne_of h2 h1 (fun z => nomatch z)
    have hld : ld ≠ h := ne_of h4 h1 (fun z => nomatch z)
    have SC := sc_History_strike_step
    have hiD : i < D.length := (List.getElem?_eq_some_iff.mp hb).1
    refine ⟨_, (pss_cons (ps_set (i := 2) SC.nd rfl (Or.inl rfl) (pe_slice sl_list (pe_fld (pv 0) rfl) (po_some (pe_op op_add (pv 1) pe_int)) (po_some (pe_fld (pv 0) rfl))))
      (pss_cons (ps_set (i := 3) SC.nd rfl (Or.inl rfl) (pe_slice sl_list (pe_fld (pv 0) rfl) po_none (po_some (pe_op op_add (pv 1) pe_int))))
      (pss_cons (ps_for PassesOwn.never rfl (pi_list (pv 2)) (pg_name (i := 4) SC.nd rfl (Or.inl rfl)) (pss_cons (ps_set (i := 5) SC.nd rfl (Or.inl rfl) (pe_fn F_do_edits (hr.mono (by decide)) rfl (pa_cons (pe_ix ix_list (pv 3) (pe_un un_neg pe_int) (fun _ _ => rfl)) (pa_cons (pv 4) pa_nil))))
      (pss_cons (ps_if (pt_cmpR op_isN (pv 5) pe_non (nomark _)) (pss_one (ps_ret pe_bl)) pss_nil)
      (pss_one (ps_expr (pe_bm PySem.F.plainAttrs_list PySem.F.slot_list_append PySem.F.type_list_append mt_append (pv 3) (pa_cons (pv 5) pa_nil)))))))
      (pss_cons (ps_fld (pv 0) (pe_op op_cat (pe_slice sl_list (pe_fld (pv 0) rfl) po_none (po_some (pv 1))) (pv 2)) rfl)
      (pss_cons (ps_fld (pv 0) (pv 3) rfl)
      (pss_cons (ps_fld (pv 0) (pe_callB call_len_seq (by rfl) T.b_len PySem.boot_len (pa_cons (pe_fld (pv 0) rfl) pa_nil)) rfl)
      (pss_one (ps_ret pe_bl)))))))), ?_⟩
    refine ⟨_, rfl, h, CH, dx, _, _, rfl, h1, HC.cl, HC.n_steps, rfl, _, rfl, _, _, rfl, rfl, _, rfl, _, rfl, h, CH, dx, _, _, rfl, h1, HC.cl, HC.n_position, rfl, _, rfl, ls, _, rfl, SqL.of h2, fun lt hlt => ?_⟩
    rw [show ((i : Int) + 1) = ((i + 1 : Nat) : Int) by omega, cut_mid]
    have s1 : Same H (upd H lt (.lst ((sv.drop (i + 1)).take (pos - (i + 1))))) := Same.upd hlt
    refine ⟨_, rfl, h, CH, dx, _, _, rfl, s1 _ _ h1, HC.cl, HC.n_documents, rfl, _, rfl, _, _, rfl, rfl, _, rfl, ld, _, rfl, SqL.of (s1 _ _ h4), fun dc hdc => ?_⟩
    rw [show ((i : Int) + 1) = ((i + 1 : Nat) : Int) by omega, cut_to]
    have s2 := s1.trans (Same.upd (o := .lst (dv.take (i + 1))) hdc)
    have hdcH : H dc = none := s1.free hdc
    have ndl : lt ≠ dc := fun z => by rw [← z, upd_same] at hdc; cases hdc
    have g1 : (upd (upd H lt (.lst ((sv.drop (i + 1)).take (pos - (i + 1))))) dc (.lst (dv.take (i + 1)))) lt = some (.lst ((sv.drop (i + 1)).take (pos - (i + 1)))) := by rw [upd_ne ndl, upd_same]
    generalize hL : (S.drop (i + 1)).take (pos - (i + 1)) = L at k kn
    generalize hlv : (sv.drop (i + 1)).take (pos - (i + 1)) = lv at g1 s1 s2 hdc ⊢
    have cL : DpAll K H lv (L.map eStep) := by
      rw [← hL, ← hlv, ← map_take1, ← map_drop1]
      exact (h3.drop (i + 1)).take (pos - (i + 1))
    have lL : lv.length = L.length := by rw [DpAll.length cL, List.length_map]
    have lL100 : L.length ≤ 100 := by rw [← hL, List.length_take, List.length_drop]; omega
    have hEL : ∀ st ∈ L, ∀ e ∈ st, EOk e := fun st hst => hE st (by
      rw [← hL] at hst
      exact List.mem_of_mem_drop (List.mem_of_mem_take hst))
    refine ⟨_, rfl, lt, rfl, ⟨_, SqL.of g1⟩, for_list (K := K) (a := lt) (xs := lv) (fun j σ H' => ∃ (v4 v5 : Option V) (ws : List V) (cur : Doc), σ = [some (.ref h), some (.int (i : Int)), some (.ref lt), some (.ref dc), v4, v5] ∧ Same H H' ∧ H' lt = some (.lst lv) ∧ H' dc = some (.lst ws) ∧
        DpAll K H' ws ((D.take i ++ alongD b (L.take j)).map eDoc) ∧ applyAll b (L.take j).flatten = some cur ∧ WF cur)
      ⟨none, none, _, b, rfl, s2, g1, upd_same, ?_, rfl, W⟩ (fun j σ H' _ ⟨_, _, _, _, _, _, q, _⟩ => SqL.of q) ?_ ?_⟩
    · have q := (DpAll.same s2 (tupds_docs D) h5).take (i + 1)
      rw [map_take1, show D.take (i + 1) = D.take i ++ [b] from by rw [List.take_add_one, hb]; rfl] at q
      rw [List.take_zero, along_nil]
      exact q
    · rintro j z σ H' hz ⟨v4, v5, ws, cur, rfl, e, hl', hd', hws, hap, Wc⟩
      obtain ⟨st, hst, hzst⟩ := step_at cL hz
      have hjL : j < L.length := (List.getElem?_eq_some_iff.mp hst).1
      have tk : L.take (j + 1) = L.take j ++ [st] := by rw [List.take_add_one, hst]; rfl
      have lw : ws.length = i + (j + 1) := by
        rw [DpAll.length hws, List.length_map, List.length_append, along_len, List.length_take, List.length_take]
        omega
      have hlast : (D.take i ++ alongD b (L.take j))[ws.length - 1]? = some cur := by
        rw [lw, List.getElem?_append_right (by rw [List.length_take]; omega), List.length_take, show i + (j + 1) - 1 - min i D.length = j by omega, along_at (by rw [List.length_take]; omega), List.take_take, Nat.min_self, hap]
        rfl
      obtain ⟨lastv, hlv1, hlv2⟩ := DpAll.get hws (i := ws.length - 1) (d := eDoc cur) (by rw [List.getElem?_map, hlast]; rfl)
      refine ⟨_, rfl, 1, rfl, dc, ws, _, lastv, rfl, rfl, SqL.of hd', atI_last hlv1, _, rfl, lastv, z, cur, st, rfl, hlv2, Dp.same e (tupd_step st) hzst, Wc, hEL st (List.mem_of_getElem? hst), fun p H2 e2 hp => ⟨_, rfl, rfl, _, rfl, ?_⟩⟩
      have hap2 : applyAll b (L.take (j + 1)).flatten = applyAll cur st := by
        rw [tk, List.flatten_append, all_app, hap]
        simp
      cases q : applyAll cur st with
      | none =>
        rw [q] at hp hap2
        cases dp_none.mp hp
        refine iteT ?_
        refine kn _ (e.trans e2) ?_
        rw [← List.take_append_drop (j + 1) L, List.flatten_append]
        cases r : (applyAll b ((L.take (j + 1)).flatten ++ (L.drop (j + 1)).flatten)).isSome with
        | false => rfl
        | true =>
          have := all_pre r
          rw [hap2] at this
          cases this
      | some d2 =>
        rw [q] at hp hap2
        obtain ⟨pa, ys, rfl, _⟩ := doc_iff.mp hp
        rw [decide_eq_false (show ¬ (V.ref pa = V.non) from fun z => nomatch z)]
        refine iteF ?_
        have hd2 := e2 _ _ hd'
        refine ⟨_, rfl, .inl ⟨rfl, _, SqL.of hd2⟩, _, rfl, dc, _, _, rfl, rfl, hd2, (by omega), ?_⟩
        have oo : Only [dc] H2 (upd H2 dc (.lst (ws ++ [V.ref pa]))) := Only.set (by simp)
        have cc : ∀ c ∈ [dc], Chg (H2 c) := fun c hc => by
          have : c = dc := by simpa using hc
          rw [this, hd2]
          exact True.intro
        refine ⟨some z, some (V.ref pa), ws ++ [V.ref pa], d2, rfl, fun q o hq => ?_, ?_, upd_same, ?_, hap2, all_wf Wc (hEL st (List.mem_of_getElem? hst)) q⟩
        · rw [upd_ne (ne_of_none hq hdcH)]
          exact e2 _ _ (e _ _ hq)
        · rw [upd_ne ndl]
          exact e2 _ _ hl'
        · rw [tk, along_snoc, ← List.append_assoc, List.map_append, show (applyAll b ((L.take j).flatten ++ st)).getD b = d2 by
            have : applyAll b ((L.take j).flatten ++ st) = some d2 := by rw [← hap2, tk, List.flatten_append]; simp
            rw [this]; rfl]
          exact (DpAll.only oo cc (tupds_docs _) (DpAll.same e2 (tupds_docs _) hws)).append (.cons (Dp.only oo cc (tupd_doc d2) hp) .nil)
    · rintro σ H' ⟨v4, v5, ws, cur, rfl, e, hl', hd', hws, hap, Wc⟩
      rw [lL, List.take_length] at hws hap
      refine ⟨_, rfl, h, CH, dx, _, _, rfl, e _ _ h1, HC.cl, HC.n_steps, rfl, _, rfl, _, rfl, ls, _, rfl, SqL.of (e _ _ h2), fun p3 hp3 => ?_⟩
      rw [cut_to]
      have s3 := Same.upd (o := .lst (sv.take i)) hp3
      refine ⟨_, rfl, p3, lt, _, _, rfl, rfl, upd_same, s3 _ _ hl', (by rw [List.length_take]; omega), fun t3 ht3 => ?_⟩
      have s4 := s3.trans (Same.upd (o := .lst (sv.take i ++ lv)) ht3)
      have s5 := e.trans s4
      have ht3H : H t3 = none := e.free (s3.free ht3)
      have nt3 : t3 ≠ h := fun z => by rw [z, h1] at ht3H; cases ht3H
      have ndh : dc ≠ h := fun z => by rw [z, h1] at hdcH; cases hdcH
      refine ⟨_, rfl, h, CH, dx, _, rfl, s5 _ _ h1, HC.cl, HC.n_steps, (by show 4 < 1000; decide), ?_⟩
      refine ⟨_, rfl, _, rfl, h, CH, dx, _, rfl, upd_same, HC.cl, HC.n_documents, (by show 4 < 1000; decide), ?_⟩
      rw [upd_upd]
      refine ⟨_, rfl, h, CH, dx, _, _, rfl, upd_same, HC.cl, HC.n_steps, rfl, t3, _, rfl, .inl (SqL.of (by rw [upd_ne nt3, upd_same])), _, rfl, h, CH, dx, _, rfl, upd_same, HC.cl, HC.n_position, (by show 4 < 1000; decide), ?_⟩
      rw [upd_upd]
      generalize hB : upd (upd H' p3 (.lst (sv.take i))) t3 (.lst (sv.take i ++ lv)) = HB at s4 s5 ⊢
      have gB : HB t3 = some (.lst (sv.take i ++ lv)) := by rw [← hB]; exact upd_same
      have hlen : (sv.take i ++ lv).length = (S.take i ++ L).length := by rw [List.length_append, List.length_append, List.length_take, List.length_take, lS, lL]
      have ef : putF "position" (V.int ((sv.take i ++ lv).length : Int)) (putF "documents" (V.ref dc) (putF "steps" (V.ref t3) (histF ls ld pos fg))) = histF t3 dc (S.take i ++ L).length fg := by
        rw [hlen]
        rfl
      rw [ef]
      have o1 : Only [h] HB (upd HB h (.ins CH dx (histF t3 dc (S.take i ++ L).length fg))) := Only.set (by simp)
      have c1 : ∀ c ∈ [h], Chg (HB c) := fun c hc => by
        have : c = h := by simpa using hc
        rw [this, s5 _ _ h1]
        exact True.intro
      refine k _ t3 dc ((Only.of s5).trans o1) ht3H hdcH (by rw [hap]; rfl) ⟨⟨dx, upd_same⟩, ⟨_, o1 _ _ gB (by simpa using nt3), ?_⟩, ⟨ws, o1 _ _ (s4 _ _ hd') (by simpa using ndh), DpAll.only o1 c1 (tupds_docs _) (DpAll.same s4 (tupds_docs _) hws)⟩⟩
      rw [List.map_append, ← map_take1]
      exact DpAll.only o1 c1 (by rw [map_take1, ← List.map_append]; exact tupds_steps _) (((DpAll.same s5 (tupds_steps S) h3).take i).append (DpAll.same s5 (tupds_steps L) cL))
end
end CP
namespace CP
open PySem PySem.Spec PyProof.Rows L2 CM
open Vanbkd (Doc Cell Text Edit State ofNat nats markOf apply applyAll doc history open_ put added gone)
structure PadC (K : PySem.W.Frag) (CP : Addr) : Prop extends PadCls K CP where
  n_history : NoAttr K CP "history"
  n_group : NoAttr K CP "group"
def padF (h : Addr) (dv gv : V) (n : Nat) : List (Str × V) := [("history", .ref h), ("document", dv), ("group", gv), ("next_number", .int (n : Int))]
def footG : V → List Addr
  | .ref g => [g]
  | _ => []
def foot (p h ls ld : Addr) (gv : V) : List Addr := p :: h :: ls :: ld :: footG gv
def GrpAt (K : PySem.W.Frag) (H : Hp) (gv : V) : Option (List Edit) → Prop
  | none => gv = .non
  | some es => ∃ ga ev, gv = .ref ga ∧ H ga = some (.lst ev) ∧ DpAll K H ev (es.map eEdit)
structure PadIn (K : PySem.W.Frag) (CP CH : Addr) (H : Hp) (p h ls ld : Addr) (dv gv : V) (s : State) : Prop where
  obj : ∃ dx, H p = some (.ins CP dx (padF h dv gv s.next))
  hist : HistAt K CH H h ls ld (history s) (docsOf s) s.done.length s.forgotten
  dc : Dp K H dv (eDoc (doc s))
  grp : GrpAt K H gv s.group
  ph : p ≠ h
  gl : ∀ g ∈ footG gv, g ≠ ls ∧ g ≠ ld
def PadAt (K : PySem.W.Frag) (CP CH : Addr) (H : Hp) (p : Addr) (s : State) (F : List Addr) : Prop := ∃ h ls ld dv gv, PadIn K CP CH H p h ls ld dv gv s ∧ F = foot p h ls ld gv
def Stp (F F' : List Addr) (H H' : Hp) : Prop := Only F H H' ∧ ∀ b ∈ F', b ∈ F ∨ H b = none
theorem Stp.refl {F : List Addr} {H : Hp} : Stp F F H H := ⟨Only.refl, fun b hb => .inl hb⟩
theorem Stp.of {F : List Addr} {H H' : Hp} (e : Same H H') : Stp F F H H' := ⟨Only.of e, fun b hb => .inl hb⟩
theorem Stp.trans {F F' F2 : List Addr} {H H' H2 : Hp} (a : Stp F F' H H') (b : Stp F' F2 H' H2) : Stp F F2 H H2 := by
  have key : ∀ x, x ∈ F' → x ∈ F ∨ H x = none := a.2
  refine ⟨fun x o hx nx => b.1 x o (a.1 x o hx nx) fun z => ?_, fun x hx => ?_⟩
  · rcases key x z with q | q
    · exact nx q
    · rw [hx] at q; cases q
  · rcases b.2 x hx with q | q
    · exact key x q
    · by_cases hF : x ∈ F
      · exact .inl hF
      · exact .inr (a.1.free q hF)
theorem foot_sub {H : Hp} {p h ls ld ls' ld' : Addr} {gv gv' : V} (a : ls' = ls ∨ H ls' = none) (b : ld' = ld ∨ H ld' = none) (c : ∀ g ∈ footG gv', g ∈ footG gv ∨ H g = none) : ∀ x ∈ foot p h ls' ld' gv', x ∈ foot p h ls ld gv ∨ H x = none := by
  intro x hx
  unfold foot at hx ⊢
  simp only [List.mem_cons] at hx ⊢
  rcases hx with hx | hx | hx | hx | hx
  · exact .inl (.inl hx)
  · exact .inl (.inr (.inl hx))
  · rcases a with a | a
    · exact .inl (.inr (.inr (.inl (hx.trans a))))
    · exact .inr (hx ▸ a)
  · rcases b with b | b
    · exact .inl (.inr (.inr (.inr (.inl (hx.trans b)))))
    · exact .inr (hx ▸ b)
  · rcases c x hx with c | c
    · exact .inl (.inr (.inr (.inr (.inr c))))
    · exact .inr c
section
variable {K : PySem.W.Frag} {CP CH : Addr} {H H' : Hp} {p h ls ld : Addr} {dv gv : V} {s : State} {F : List Addr}
theorem PadIn.lsne (A : PadIn K CP CH H p h ls ld dv gv s) : ls ≠ p ∧ ls ≠ h ∧ ld ≠ p ∧ ld ≠ h := by
  obtain ⟨dx, h1⟩ := A.obj
  obtain ⟨dx2, h2⟩ := A.hist.obj
  obtain ⟨sv, h3, _⟩ := A.hist.steps
  obtain ⟨dv, h4, _⟩ := A.hist.docs
  exact ⟨ne_of h3 h1 (fun z => nomatch z), ne_of h3 h2 (fun z => nomatch z), ne_of h4 h1 (fun z => nomatch z), ne_of h4 h2 (fun z => nomatch z)⟩
theorem PadIn.chgG (A : PadIn K CP CH H p h ls ld dv gv s) : ∀ b ∈ footG gv, ∃ xs, H b = some (.lst xs) := by
  intro b hb
  have g := A.grp
  cases q : s.group with
  | none =>
    rw [q] at g
    rw [show gv = .non from g] at hb
    cases hb
  | some es =>
    rw [q] at g
    obtain ⟨ga, ev, rfl, h1, _⟩ := g
    have : b = ga := by simpa [footG] using hb
    rw [this]
    exact ⟨ev, h1⟩
theorem PadIn.chg (A : PadIn K CP CH H p h ls ld dv gv s) : ∀ b ∈ foot p h ls ld gv, Chg (H b) := by
  intro b hb
  obtain ⟨dx, h1⟩ := A.obj
  obtain ⟨dx2, h2⟩ := A.hist.obj
  obtain ⟨sv, h3, _⟩ := A.hist.steps
  obtain ⟨dv, h4, _⟩ := A.hist.docs
  unfold foot at hb
  simp only [List.mem_cons] at hb
  rcases hb with rfl | rfl | rfl | rfl | hb
  · rw [h1]; exact True.intro
  · rw [h2]; exact True.intro
  · rw [h3]; exact True.intro
  · rw [h4]; exact True.intro
  · obtain ⟨xs, hx⟩ := A.chgG b hb
    rw [hx]; exact True.intro
theorem GrpAt.only {G : List Addr} {g : Option (List Edit)} (A : GrpAt K H gv g) (o : Only G H H') (c : ∀ b ∈ G, Chg (H b)) (n : ∀ b ∈ footG gv, b ∉ G) : GrpAt K H' gv g := by
  cases g with
  | none => exact A
  | some es =>
    obtain ⟨ga, ev, rfl, h1, h2⟩ := A
    exact ⟨ga, ev, rfl, o _ _ h1 (n ga (by simp [footG])), DpAll.only o c (tupds_edits es) h2⟩
theorem PadIn.only {G : List Addr} (A : PadIn K CP CH H p h ls ld dv gv s) (o : Only G H H') (c : ∀ b ∈ G, Chg (H b)) (n : ∀ b ∈ foot p h ls ld gv, b ∉ G) : PadIn K CP CH H' p h ls ld dv gv s := by
  obtain ⟨dx, h1⟩ := A.obj
  unfold foot at n
  simp only [List.mem_cons] at n
  exact ⟨⟨dx, o _ _ h1 (n p (.inl rfl))⟩, A.hist.keep o c (n h (.inr (.inl rfl))) (n ls (.inr (.inr (.inl rfl)))) (n ld (.inr (.inr (.inr (.inl rfl))))), Dp.only o c (tupd_doc _) A.dc, A.grp.only o c (fun b hb => n b (.inr (.inr (.inr (.inr hb))))), A.ph, A.gl⟩
theorem PadAt.only {G : List Addr} (A : PadAt K CP CH H p s F) (o : Only G H H') (c : ∀ b ∈ G, Chg (H b)) (n : ∀ b ∈ F, b ∉ G) : PadAt K CP CH H' p s F := by
  obtain ⟨h, ls, ld, dv, gv, A, rfl⟩ := A
  exact ⟨h, ls, ld, dv, gv, A.only o c n, rfl⟩
theorem PadAt.same (A : PadAt K CP CH H p s F) (e : Same H H') : PadAt K CP CH H' p s F := A.only (G := []) (Only.of e) (fun b hb => (nil2 hb).elim) (fun b _ z => nil2 z)
theorem PadAt.chg (A : PadAt K CP CH H p s F) : ∀ b ∈ F, Chg (H b) := by
  obtain ⟨h, ls, ld, dv, gv, A, rfl⟩ := A
  exact A.chg
theorem PadAt.doc (A : PadAt K CP CH H p s F) : PadDoc K CP H p (doc s) s.next := by
  obtain ⟨h, ls, ld, dv, gv, A, rfl⟩ := A
  obtain ⟨dx, h1⟩ := A.obj
  exact ⟨dx, _, dv, h1, rfl, A.dc, rfl⟩
end
def spHasG (CP : Addr) : Sp := fun vs H Q _ => ∃ (p dx : Addr) (fs : List (Str × V)) (gv : V), vs = [.ref p] ∧ H p = some (.ins CP dx fs) ∧ fs.lookup ("group" : Str) = some gv ∧ Q (.bl (!decide (gv = .non))) H
def spFull (K : PySem.W.Frag) (CP CH : Addr) : Sp := fun vs H Q _ => ∃ (p : Addr) (s : State) (F : List Addr), vs = [.ref p] ∧ PadAt K CP CH H p s F ∧ Q (.bl (decide (10 ≤ (open_ s).length))) H
def spTake (K : PySem.W.Frag) (CP CH : Addr) : Sp := fun vs H Q _ => ∃ (p : Addr) (s : State) (F : List Addr) (ev dv : V) (e : Edit) (d : Doc), vs = [.ref p, ev, dv] ∧ PadAt K CP CH H p s F ∧ Good s ∧ Dp K H ev (eEdit e) ∧ Dp K H dv (eDoc d) ∧ apply (doc s) e = some d ∧
  ∀ H' F', Stp F F' H H' → PadAt K CP CH H' p (put s e) F' → Q .non H'
def spUse (K : PySem.W.Frag) (CP CH : Addr) : Sp := fun vs H Q _ => ∃ (p : Addr) (s : State) (F : List Addr), vs = [.ref p] ∧ PadAt K CP CH H p s F ∧
  ∀ H', Stp F F H H' → PadAt K CP CH H' p { s with next := s.next + 1 } F → Q .non H'
def spBegin (K : PySem.W.Frag) (CP CH : Addr) : Sp := fun vs H Q _ => ∃ (p : Addr) (s : State) (F : List Addr), vs = [.ref p] ∧ PadAt K CP CH H p s F ∧ s.group = none ∧
  ∀ H' F', Stp F F' H H' → PadAt K CP CH H' p { s with group := some [] } F' → Q .non H'
def ended (s : State) (es : List Edit) : State := if es = [] then { s with group := none } else added { s with group := none } es
def spEnd (K : PySem.W.Frag) (CP CH : Addr) : Sp := fun vs H Q _ => ∃ (p : Addr) (s : State) (F : List Addr) (es : List Edit), vs = [.ref p] ∧ PadAt K CP CH H p s F ∧ Good s ∧ s.group = some es ∧
  ∀ H' F', Stp F F' H H' → PadAt K CP CH H' p (ended s es) F' → Q (.int (es.length : Int)) H'
def spCancel (K : PySem.W.Frag) (CP CH : Addr) : Sp := fun vs H Q _ => ∃ (p : Addr) (s : State) (F : List Addr) (es : List Edit), vs = [.ref p] ∧ PadAt K CP CH H p s F ∧ Good s ∧ s.group = some es ∧
  ∀ H' F', Stp F F' H H' → PadAt K CP CH H' p { s with group := none } F' → Q (.int (es.length : Int)) H'
def spGo (K : PySem.W.Frag) (CP CH : Addr) : Sp := fun vs H Q _ => ∃ (p : Addr) (s : State) (F : List Addr) (q : Nat), vs = [.ref p, .int (q : Int)] ∧ PadAt K CP CH H p s F ∧ Good s ∧ s.group = none ∧ q ≤ (history s).length ∧
  ∀ H' F', Stp F F' H H' → PadAt K CP CH H' p (gone s q) F' → Q .non H'
def spStrike (K : PySem.W.Frag) (CP CH : Addr) : Sp := fun vs H Q _ => ∃ (p : Addr) (s : State) (F : List Addr) (i : Nat), vs = [.ref p, .int (i : Int)] ∧ PadAt K CP CH H p s F ∧ Good s ∧ s.group = none ∧ i < s.done.length ∧
  (∀ H' F', Stp F F' H H' → (applyAll s.base (Vanbkd.without s.done i).flatten).isSome = true → PadAt K CP CH H' p (struck s i) F' → Q (.bl true) H') ∧
  (∀ H' F', Stp F F' H H' → (applyAll s.base (Vanbkd.without s.done i).flatten).isSome = false → PadAt K CP CH H' p s F' → Q (.bl false) H')
section
variable {P : Program} {w : World} {K : PySem.W.Frag} {mg : Str → Option Value} {base : Heap} {CP CH : Addr}
theorem sc_Pad_has_group : FnScope ["self"] ["self"] (defScope s_Pad_has_group) := scM
theorem ok_Pad_has_group (PC : PadC K CP) (F : MTop K CP "has_group" "Pad.has_group" s_Pad_has_group) : MethAt P w K mg base CP "has_group" 1 ["self"] (spHasG CP) := by
  refine F.at_ ub1 fun f fd F => F.ok (k := 0) sc_Pad_has_group (fun vs H Q E h => ?_) (fun cdv A outer s H vs Q E hr h => ?_)
  · obtain ⟨p, dx, fs, gv, rfl, _⟩ := h
    rfl
  · obtain ⟨p, dx, fs, gv, rfl, h1, h2, k⟩ := h
    refine ⟨_, (pss_one (ps_ret (pe_cmpR op_notN (pe_fld (pv 0) rfl) pe_non (nomark _)))), ?_⟩
    exact ⟨_, rfl, p, CP, dx, fs, gv, rfl, h1, PC.cl, PC.n_group, h2, rfl, k⟩
theorem sc_Pad_group_is_full : FnScope ["self"] ["self"] (defScope s_Pad_group_is_full) := scM
theorem ok_Pad_group_is_full (T : Txt mg) (N : Nums mg) (PC : PadC K CP) (M_Pad_has_group : MethAt P w K mg base CP "has_group" 1 ["self"] (spHasG CP)) (F : MTop K CP "group_is_full" "Pad.group_is_full" s_Pad_group_is_full) :
    MethAt P w K mg base CP "group_is_full" 2 ["self"] (spFull K CP CH) := by
  refine F.at_ ub1 fun f fd F => F.ok (k := 1) sc_Pad_group_is_full (fun vs H Q E h => ?_) (fun cdv A outer s H vs Q E hr h => ?_)
  · obtain ⟨p, s, F, rfl, _⟩ := h
    rfl
  · obtain ⟨p, s, F, rfl, ⟨h, ls, ld, dv, gv, A, rfl⟩, k⟩ := h
    obtain ⟨dx, h1⟩ := A.obj
    have g := A.grp
    refine ⟨_, (pss_one (ps_ret (pe_and (pe_mt0 (pv 0) PC.cl M_Pad_has_group (hr.mono (by decide))) (pe_one (pe_cmpR op_ge (pe_callB call_len_seq (by rfl) T.b_len PySem.boot_len (pa_cons (pe_fld (pv 0) rfl) pa_nil)) (pe_gint rfl N.c_MOST_EDITS) (nomark _)))))), ?_⟩
    refine ⟨_, rfl, p, dx, _, rfl, h1, rfl, p, dx, _, gv, rfl, h1, rfl, _, rfl, ?_⟩
    unfold Vanbkd.open_ at k
    cases q : s.group with
    | none =>
      rw [q] at g k
      rw [show gv = .non from g]
      exact iteF k
    | some es =>
      rw [q] at g k
      obtain ⟨ga, ev, rfl, h2, h3⟩ := g
      have le : ev.length = es.length := by rw [DpAll.length h3, List.length_map]
      rw [decide_eq_false (show ¬ (V.ref ga = V.non) from fun z => nomatch z)]
      refine iteT ?_
      refine ⟨_, rfl, p, CP, dx, _, _, rfl, h1, PC.cl, PC.n_group, rfl, ga, _, rfl, .inl (SqL.of h2), _, _, rfl, rfl, ?_⟩
      rw [le]
      have e1 : decide ((10 : Int) ≤ (es.length : Int)) = decide (10 ≤ es.length) := decide_eq_decide.mpr (by omega)
      show Q (.bl (decide ((10 : Int) ≤ (es.length : Int)))) H
      rw [e1]
      exact k
theorem sc_Pad_use_number : FnScope ["self"] ["self"] (defScope s_Pad_use_number) := scM
theorem ok_Pad_use_number (PC : PadC K CP) (F : MTop K CP "use_number" "Pad.use_number" s_Pad_use_number) : MethAt P w K mg base CP "use_number" 1 ["self"] (spUse K CP CH) := by
  refine F.at_ ub1 fun f fd F => F.ok (k := 0) sc_Pad_use_number (fun vs H Q E h => ?_) (fun cdv A outer s H vs Q E hr h => ?_)
  · obtain ⟨p, s, F, rfl, _⟩ := h
    rfl
  · obtain ⟨p, s, F, rfl, ⟨h, ls, ld, dv, gv, A, rfl⟩, k⟩ := h
    obtain ⟨dx, h1⟩ := A.obj
    have ne := A.lsne
    refine ⟨_, (pss_one (ps_fldaug (pv 0) pe_int in_add)), ?_⟩
    refine ⟨_, rfl, p, CP, dx, _, _, rfl, h1, PC.cl, PC.n_next_number, rfl, _, _, rfl, rfl, dx, _, h1, (by show 4 < 1000; decide), ?_⟩
    have o : Only [p] H (upd H p (.ins CP dx (padF h dv gv (s.next + 1)))) := Only.set (by simp)
    have c : ∀ b ∈ [p], Chg (H b) := fun b hb => by
      have : b = p := by simpa using hb
      rw [this, h1]
      exact True.intro
    have np : ∀ b ∈ footG gv, b ≠ p := fun b hb => by
      obtain ⟨xs, hx⟩ := A.chgG b hb
      exact ne_of hx h1 (fun z => nomatch z)
    refine k _ ⟨o.mono (by simp [foot]), fun b hb => .inl hb⟩ ⟨h, ls, ld, dv, gv, ⟨⟨dx, upd_same⟩, A.hist.keep o c (by simpa using A.ph.symm) (by simpa using ne.1) (by simpa using ne.2.2.1), Dp.only o c (tupd_doc _) A.dc, A.grp.only o c (fun b hb => by simpa using np b hb), A.ph, A.gl⟩, rfl⟩
end
end CP
namespace CP
open PySem PySem.Spec PyProof.Rows L2 CM
open Vanbkd (Doc Cell Text Edit State ofNat nats markOf apply applyAll doc history open_ put added gone)
theorem chg1 {H : Hp} {p : Addr} {o : HO} (h : H p = some o) (c : Chg (some o)) : ∀ b ∈ [p], Chg (H b) := fun b hb => by
  have : b = p := by simpa using hb
  rw [this, h]
  exact c
theorem notin1 {a b : Addr} (h : a ≠ b) : a ∉ [b] := by simpa using h
section
variable {P : Program} {w : World} {K : PySem.W.Frag} {mg : Str → Option Value} {base : Heap} {CP CH : Addr}
theorem hist_add {H : Hp} {h ls ld : Addr} {s : State} {e : List Edit} {d : Doc} (ha : applyAll s.base (s.done.flatten ++ e) = some d)
    (A : HistAt K CH H h ls ld (addS (history s) s.done.length e) (addD (docsOf s) s.done.length d) (addP s.done.length) (addF s.done.length s.forgotten)) :
    HistAt K CH H h ls ld (history (added s e)) (docsOf (added s e)) (added s e).done.length (added s e).forgotten := by
  rw [hist_added, docs_added ha, doneLen_added, forg_added]
  unfold addS addD addP addF at A
  rw [take_done] at A
  exact A
theorem sc_Pad_take_edit : FnScope ["self", "edit", "document"] ["self", "edit", "document"] (defScope s_Pad_take_edit) := scM
theorem ok_Pad_take_edit (PC : PadC K CP) (HC : HistCls K CH) (M_Pad_has_group : MethAt P w K mg base CP "has_group" 1 ["self"] (spHasG CP)) (M_History_add_step : MethAt P w K mg base CH "add_step" 2 ["self", "edits", "document"] (spAdd K CH))
    (F : MTop K CP "take_edit" "Pad.take_edit" s_Pad_take_edit) : MethAt P w K mg base CP "take_edit" 3 ["self", "edit", "document"] (spTake K CP CH) := by
  refine F.at_ ub3 fun f fd F => F.ok (k := 2) sc_Pad_take_edit (fun vs H Q E h => ?_) (fun cdv A outer s H vs Q E hr h => ?_)
  · obtain ⟨p, s, F, ev, dv, e, d, rfl, _⟩ := h
    rfl
  · obtain ⟨p, s, F, ev, dv', e, d, rfl, ⟨h, ls, ld, dv, gv, A, rfl⟩, G, hev, hdv, hap, k⟩ := h
    obtain ⟨dx, h1⟩ := A.obj
    obtain ⟨dxh, h2⟩ := A.hist.obj
    have ne := A.lsne
    have g := A.grp
    have hdoc : doc (put s e) = d := doc_put (N := (put s e).next) G hap
    refine ⟨_, (pss_cons (ps_fld (pv 0) (pv 2) rfl)
      (pss_one (ps_if (pt_val (pe_mt0 (pv 0) PC.cl M_Pad_has_group (hr.mono (by decide)))) (pss_one (ps_expr (pe_bm PySem.F.plainAttrs_list PySem.F.slot_list_append PySem.F.type_list_append mt_append (pe_fld (pv 0) rfl) (pa_cons (pv 1) pa_nil)))) (pss_one (ps_expr (pe_mt (pe_fld (pv 0) rfl) HC.cl M_History_add_step (hr.mono (by decide)) (pa_cons (pe_tup (pa_cons (pv 1) pa_nil)) (pa_cons (pv 2) pa_nil)))))))), ?_⟩
    refine ⟨_, rfl, _, rfl, p, CP, dx, _, rfl, h1, PC.cl, PC.n_document, (by show 4 < 1000; decide), ?_⟩
    refine ⟨_, rfl, p, dx, _, rfl, upd_same, rfl, p, dx, _, gv, rfl, upd_same, rfl, _, rfl, ?_⟩
    have o : Only [p] H (upd H p (.ins CP dx (padF h dv' gv s.next))) := Only.set (by simp)
    have c := chg1 h1 (show Chg (some (.ins CP dx (padF h dv gv s.next))) from True.intro)
    have np : ∀ b ∈ footG gv, b ≠ p := fun b hb => by
      obtain ⟨xs, hx⟩ := A.chgG b hb
      exact ne_of hx h1 (fun z => nomatch z)
    have A1 := A.hist.keep o c (notin1 A.ph.symm) (notin1 ne.1) (notin1 ne.2.2.1)
    have hev1 := Dp.only o c (tupd_edit e) hev
    have hdv1 := Dp.only o c (tupd_doc d) hdv
    cases q : s.group with
    | some es =>
      rw [q] at g
      obtain ⟨ga, evs, rfl, h3, h4⟩ := g
      have le : evs.length = es.length := by rw [DpAll.length h4, List.length_map]
      have hes : es.length ≤ 10 := by
        have := G.gl
        unfold Vanbkd.open_ at this
        rw [q] at this
        exact this
      have gp : ga ≠ p := np ga (by simp [footG])
      rw [decide_eq_false (show ¬ (V.ref ga = V.non) from fun z => nomatch z)]
      refine iteT ?_
      have h31 := o _ _ h3 (notin1 gp)
      refine ⟨_, rfl, p, CP, dx, _, _, rfl, upd_same, PC.cl, PC.n_group, rfl, .inl ⟨rfl, _, SqL.of h31⟩, _, rfl, ga, _, _, rfl, rfl, h31, (by rw [le]; exact Nat.lt_of_le_of_lt hes (by decide)), ?_⟩
      have ep : put s e = { s with group := some (es ++ [e]) } := by
        unfold Vanbkd.put
        rw [q]
      have o2 : Only [ga] (upd H p (.ins CP dx (padF h dv' (.ref ga) s.next))) (upd (upd H p (.ins CP dx (padF h dv' (.ref ga) s.next))) ga (.lst (evs ++ [ev]))) := Only.set (by simp)
      have c2 := chg1 h31 (show Chg (some (.lst evs)) from True.intro)
      have gl := A.gl ga (by simp [footG])
      have gh : h ≠ ga := ne_of h2 h3 (fun z => nomatch z)
      refine k _ (foot p h ls ld (.ref ga)) ⟨(o.mono (by simp [foot])).trans (o2.mono (by simp [foot, footG])), fun b hb => .inl hb⟩ ⟨h, ls, ld, dv', .ref ga, ?_, rfl⟩
      rw [ep] at hdoc ⊢
      refine ⟨⟨dx, o2 _ _ upd_same (notin1 gp.symm)⟩, A1.keep o2 c2 (notin1 gh) (notin1 gl.1.symm) (notin1 gl.2.symm), ?_, ⟨ga, evs ++ [ev], rfl, upd_same, ?_⟩, A.ph, A.gl⟩
      · rw [hdoc]
        exact Dp.only o2 c2 (tupd_doc d) hdv1
      · rw [List.map_append]
        exact (DpAll.only o2 c2 (tupds_edits es) (DpAll.only o c (tupds_edits es) h4)).append (.cons (Dp.only o2 c2 (tupd_edit e) hev1) .nil)
    | none =>
      rw [q] at g
      obtain rfl : gv = .non := g
      refine iteF ?_
      have h21 := o _ _ h2 (notin1 A.ph.symm)
      refine ⟨_, rfl, p, CP, dx, _, _, rfl, upd_same, PC.cl, PC.n_history, rfl, h, dxh, _, rfl, h21, rfl, _, rfl, (by show 1 ≤ sizeLine; decide), fun t ht => ?_⟩
      have ep : put s e = added s [e] := by
        unfold Vanbkd.put
        rw [q]
      have s1 := Same.upd (o := .tup [ev]) ht
      have hd1 := G.doc.1
      rw [show open_ s = [] by unfold Vanbkd.open_; rw [q]; rfl, List.append_nil] at hd1
      have ha : applyAll s.base (s.done.flatten ++ [e]) = some d := by
        rw [all_app, hd1]
        show applyAll (doc s) [e] = some d
        rw [all_one, hap]
      have hl := G.hl
      refine ⟨_, rfl, h, ls, ld, history s, docsOf s, s.done.length, s.forgotten, t, [ev], [e], dv', d, rfl, A1.same s1, .inr (SqT.of upd_same), .cons (Dp.same s1 (tupd_edit e) hev1) .nil, Dp.same s1 (tupd_doc d) hdv1, (by omega), (by rw [docsOf_len]; omega), fun H' ls' ld' o2 f1 f2 A2 => ?_⟩
      have A3 := hist_add (s := s) ha A2
      rw [ep] at k hdoc
      obtain ⟨sv', h5, _⟩ := A2.steps
      have f1H : H ls' = none := o.free (s1.free f1) (notin1 fun z => by rw [z, s1 _ _ upd_same] at f1; cases f1)
      have f2H : H ld' = none := o.free (s1.free f2) (notin1 fun z => by rw [z, s1 _ _ upd_same] at f2; cases f2)
      refine k H' (foot p h ls' ld' .non) ⟨((o.mono (by simp [foot])).trans (Only.of s1)).trans (o2.mono (by simp [foot])), foot_sub (.inr f1H) (.inr f2H) (fun g hg => by cases hg)⟩ ⟨h, ls', ld', dv', .non, ?_, rfl⟩
      have nx := next_added s [e]
      refine ⟨⟨dx, ?_⟩, A3, ?_, ?_, A.ph, fun g hg => by cases hg⟩
      · rw [nx.1]
        exact o2 _ _ (s1 _ _ upd_same) (notin1 A.ph)
      · rw [hdoc]
        exact Dp.only o2 (chg1 (s1 _ _ h21) True.intro) (tupd_doc d) (Dp.same s1 (tupd_doc d) hdv1)
      · rw [nx.2, q]
        rfl
theorem sc_Pad_begin_group : FnScope ["self"] ["self"] (defScope s_Pad_begin_group) := scM
theorem ok_Pad_begin_group (PC : PadC K CP) (F : MTop K CP "begin_group" "Pad.begin_group" s_Pad_begin_group) : MethAt P w K mg base CP "begin_group" 1 ["self"] (spBegin K CP CH) := by
  refine F.at_ ub1 fun f fd F => F.ok (k := 0) sc_Pad_begin_group (fun vs H Q E h => ?_) (fun cdv A outer s H vs Q E hr h => ?_)
  · obtain ⟨p, s, F, rfl, _⟩ := h
    rfl
  · obtain ⟨p, s, F, rfl, ⟨h, ls, ld, dv, gv, A, rfl⟩, hg, k⟩ := h
    obtain ⟨dx, h1⟩ := A.obj
    have ne := A.lsne
    have g := A.grp
    rw [hg] at g
    obtain rfl : gv = .non := g
    refine ⟨_, (pss_one (ps_fld (pv 0) (pe_lst pa_nil) rfl)), ?_⟩
    refine ⟨Nat.zero_le _, fun l hl => ⟨_, rfl, p, CP, dx, _, rfl, (Same.upd hl) _ _ h1, PC.cl, PC.n_group, (by show 4 < 1000; decide), ?_⟩⟩
    have s1 := Same.upd (o := .lst []) hl
    have pl : p ≠ l := ne_of_none h1 hl
    have o : Only [p] (upd H l (.lst [])) (upd (upd H l (.lst [])) p (.ins CP dx (padF h dv (.ref l) s.next))) := Only.set (by simp)
    have c := chg1 (s1 _ _ h1) (show Chg (some (.ins CP dx (padF h dv .non s.next))) from True.intro)
    obtain ⟨sv, h3, _⟩ := A.hist.steps
    obtain ⟨dvs, h4, _⟩ := A.hist.docs
    have hd : doc { s with group := some [] } = doc s := by
      unfold Vanbkd.doc Vanbkd.open_
      rw [hg]
      rfl
    refine k _ (foot p h ls ld (.ref l)) ⟨(Only.of s1).trans (o.mono (by simp [foot])), foot_sub (.inl rfl) (.inl rfl) (fun g hg => .inr (by
      have : g = l := by simpa [footG] using hg
      rw [this]
      exact hl))⟩ ⟨h, ls, ld, dv, .ref l, ⟨⟨dx, upd_same⟩, (A.hist.same s1).keep o c (notin1 A.ph.symm) (notin1 ne.1) (notin1 ne.2.2.1), ?_, ⟨l, [], rfl, o _ _ upd_same (notin1 pl.symm), .nil⟩, A.ph, fun g hg => ?_⟩, rfl⟩
    · rw [hd]
      exact Dp.only o c (tupd_doc _) (Dp.same s1 (tupd_doc _) A.dc)
    · have : g = l := by simpa [footG] using hg
      rw [this]
      exact ⟨(ne_of_none h3 hl).symm, (ne_of_none h4 hl).symm⟩
end
end CP
namespace CP
open PySem PySem.Spec PyProof.Rows L2 CM
open Vanbkd (Doc Cell Text Edit State ofNat nats markOf apply applyAll doc history open_ put added gone docAt)
def spPInit (K : PySem.W.Frag) (CP CH : Addr) : Sp := fun vs H Q _ => ∃ (x dx : Addr), vs = [.ref x] ∧ H x = some (.ins CP dx []) ∧
  ∀ H' F, Only [x] H H' → (∀ b ∈ F, b = x ∨ H b = none) → PadAt K CP CH H' x Vanbkd.start F → Q .non H'
section
variable {P : Program} {w : World} {K : PySem.W.Frag} {mg : Str → Option Value} {base : Heap} {CP CH : Addr}
theorem pos_le (s : State) : s.done.length ≤ (history s).length := by
  unfold Vanbkd.history
  rw [List.length_append]
  omega
theorem sc_Pad_end_group : FnScope ["self", "edits"] ["self"] (defScope s_Pad_end_group) := scM
theorem ok_Pad_end_group (T : Txt mg) (PC : PadC K CP) (HC : HistCls K CH) (M_History_add_step : MethAt P w K mg base CH "add_step" 2 ["self", "edits", "document"] (spAdd K CH))
    (F : MTop K CP "end_group" "Pad.end_group" s_Pad_end_group) : MethAt P w K mg base CP "end_group" 3 ["self"] (spEnd K CP CH) := by
  refine F.at_ ub1 fun f fd F => F.ok (k := 2) sc_Pad_end_group (fun vs H Q E h => ?_) (fun cdv A outer s H vs Q E hr h => ?_)
  · obtain ⟨p, s, F, es, rfl, _⟩ := h
    rfl
  · obtain ⟨p, s, F, es, rfl, ⟨h, ls, ld, dv, gv, A, rfl⟩, G, hg, k⟩ := h
    obtain ⟨dx, h1⟩ := A.obj
    obtain ⟨dxh, h2⟩ := A.hist.obj
    have ne := A.lsne
    have g := A.grp
    rw [hg] at g
    obtain ⟨ga, ev, rfl, h3, h4⟩ := g
    have le : ev.length = es.length := by rw [DpAll.length h4, List.length_map]
    have gp : ga ≠ p := ne_of h3 h1 (fun z => nomatch z)
    have gh : ga ≠ h := ne_of h3 h2 (fun z => nomatch z)
    have SC := sc_Pad_end_group
    refine ⟨_, (pss_cons (ps_set (i := 1) SC.nd rfl (Or.inl rfl) (pe_fld (pv 0) rfl))
      (pss_cons (ps_fld (pv 0) pe_non rfl)
      (pss_cons (ps_if (pt_cmpR op_gt (pe_callB call_len_seq (by rfl) T.b_len PySem.boot_len (pa_cons (pv 1) pa_nil)) pe_int (nomark _)) (pss_one (ps_expr (pe_mt (pe_fld (pv 0) rfl) HC.cl M_History_add_step (hr.mono (by decide)) (pa_cons (pv 1) (pa_cons (pe_fld (pv 0) rfl) pa_nil))))) pss_nil)
      (pss_one (ps_ret (pe_callB call_len_seq (by rfl) T.b_len PySem.boot_len (pa_cons (pv 1) pa_nil))))))), ?_⟩
    refine ⟨_, rfl, p, CP, dx, _, _, rfl, h1, PC.cl, PC.n_group, rfl, _, rfl, p, CP, dx, _, rfl, h1, PC.cl, PC.n_group, (by show 4 < 1000; decide), ?_⟩
    have o : Only [p] H (upd H p (.ins CP dx (padF h dv .non s.next))) := Only.set (by simp)
    have c := chg1 h1 (show Chg (some (.ins CP dx (padF h dv (.ref ga) s.next))) from True.intro)
    have h31 := o _ _ h3 (notin1 gp)
    have h21 := o _ _ h2 (notin1 A.ph.symm)
    have A1 := A.hist.keep o c (notin1 A.ph.symm) (notin1 ne.1) (notin1 ne.2.2.1)
    have hdv1 := Dp.only o c (tupd_doc _) A.dc
    have h41 := DpAll.only o c (tupds_edits es) h4
    refine ⟨_, rfl, ga, _, rfl, .inl (SqL.of h31), _, _, rfl, rfl, _, rfl, ?_⟩
    rw [le]
    refine ite2 (fun hz => ?_) (fun hz => ?_)
    · have hne : es ≠ [] := fun z => by
        rw [z] at hz
        exact absurd (of_decide_eq_true hz) (by decide)
      have ee : ended s es = added { s with group := none } es := by
        unfold ended
        rw [if_neg hne]
      rw [ee] at k
      have ha : applyAll s.base (s.done.flatten ++ es) = some (doc s) := by
        have := G.doc.1
        rw [show open_ s = es by unfold Vanbkd.open_; rw [hg]; rfl] at this
        exact this
      have hl := G.hl
      refine ⟨_, rfl, p, CP, dx, _, _, rfl, upd_same, PC.cl, PC.n_history, rfl, h, dxh, _, rfl, h21, rfl, _, rfl, _, rfl, p, CP, dx, _, _, rfl, upd_same, PC.cl, PC.n_document, rfl, h, ls, ld, history s, docsOf s, s.done.length, s.forgotten, ga, ev, es, dv, doc s, rfl, A1, .inl (SqL.of h31), h41, hdv1, (by omega), (by rw [docsOf_len]; omega), fun H' ls' ld' o2 f1 f2 A2 => ?_⟩
      have A3 := hist_add (s := { s with group := none }) ha A2
      have f1H : H ls' = none := o.free f1 (notin1 fun z => by rw [z, upd_same] at f1; cases f1)
      have f2H : H ld' = none := o.free f2 (notin1 fun z => by rw [z, upd_same] at f2; cases f2)
      refine ⟨_, rfl, ga, _, rfl, .inl (SqL.of (o2 _ _ h31 (notin1 gh))), ?_⟩
      rw [le]
      have nx := next_added { s with group := none } es
      refine k H' (foot p h ls' ld' .non) ⟨(o.mono (by simp [foot])).trans (o2.mono (by simp [foot])), foot_sub (.inr f1H) (.inr f2H) (fun g hg => by cases hg)⟩ ⟨h, ls', ld', dv, .non, ⟨⟨dx, ?_⟩, A3, ?_, ?_, A.ph, fun g hg => by cases hg⟩, rfl⟩
      · rw [nx.1]
        exact o2 _ _ upd_same (notin1 A.ph)
      · rw [doc_added (s := { s with group := none }) rfl ha]
        exact Dp.only o2 (chg1 h21 True.intro) (tupd_doc _) hdv1
      · rw [nx.2]
        rfl
    · have hne : es = [] := by
        cases es with
        | nil => rfl
        | cons a r => exact absurd (decide_eq_true (by simp only [List.length_cons]; omega)) hz
      subst hne
      have ee : ended s [] = { s with group := none } := by
        unfold ended
        rw [if_pos rfl]
      rw [ee] at k
      refine ⟨_, rfl, ga, _, rfl, .inl (SqL.of h31), ?_⟩
      rw [le]
      have hd : doc { s with group := none } = doc s := by
        unfold Vanbkd.doc Vanbkd.open_
        rw [hg]
        rfl
      refine k _ (foot p h ls ld .non) ⟨o.mono (by simp [foot]), foot_sub (.inl rfl) (.inl rfl) (fun g hg => by cases hg)⟩ ⟨h, ls, ld, dv, .non, ⟨⟨dx, upd_same⟩, A1, ?_, rfl, A.ph, fun g hg => by cases hg⟩, rfl⟩
      rw [hd]
      exact hdv1
theorem sc_Pad_cancel_group : FnScope ["self", "edits"] ["self"] (defScope s_Pad_cancel_group) := scM
theorem ok_Pad_cancel_group (T : Txt mg) (PC : PadC K CP) (HC : HistCls K CH) (M_History_present : MethAt P w K mg base CH "present" 1 ["self"] (spPresent K CH))
    (F : MTop K CP "cancel_group" "Pad.cancel_group" s_Pad_cancel_group) : MethAt P w K mg base CP "cancel_group" 2 ["self"] (spCancel K CP CH) := by
  refine F.at_ ub1 fun f fd F => F.ok (k := 1) sc_Pad_cancel_group (fun vs H Q E h => ?_) (fun cdv A outer s H vs Q E hr h => ?_)
  · obtain ⟨p, s, F, es, rfl, _⟩ := h
    rfl
  · obtain ⟨p, s, F, es, rfl, ⟨h, ls, ld, dv, gv, A, rfl⟩, G, hg, k⟩ := h
    obtain ⟨dx, h1⟩ := A.obj
    obtain ⟨dxh, h2⟩ := A.hist.obj
    have ne := A.lsne
    have g := A.grp
    rw [hg] at g
    obtain ⟨ga, ev, rfl, h3, h4⟩ := g
    have le : ev.length = es.length := by rw [DpAll.length h4, List.length_map]
    have gp : ga ≠ p := ne_of h3 h1 (fun z => nomatch z)
    have SC := sc_Pad_cancel_group
    refine ⟨_, (pss_cons (ps_set (i := 1) SC.nd rfl (Or.inl rfl) (pe_fld (pv 0) rfl))
      (pss_cons (ps_fld (pv 0) pe_non rfl)
      (pss_cons (ps_fld (pv 0) (pe_mt0 (pe_fld (pv 0) rfl) HC.cl M_History_present (hr.mono (by decide))) rfl)
      (pss_one (ps_ret (pe_callB call_len_seq (by rfl) T.b_len PySem.boot_len (pa_cons (pv 1) pa_nil))))))), ?_⟩
    refine ⟨_, rfl, p, CP, dx, _, _, rfl, h1, PC.cl, PC.n_group, rfl, _, rfl, p, CP, dx, _, rfl, h1, PC.cl, PC.n_group, (by show 4 < 1000; decide), ?_⟩
    have o : Only [p] H (upd H p (.ins CP dx (padF h dv .non s.next))) := Only.set (by simp)
    have c := chg1 h1 (show Chg (some (.ins CP dx (padF h dv (.ref ga) s.next))) from True.intro)
    have h31 := o _ _ h3 (notin1 gp)
    have h21 := o _ _ h2 (notin1 A.ph.symm)
    have A1 := A.hist.keep o c (notin1 A.ph.symm) (notin1 ne.1) (notin1 ne.2.2.1)
    refine ⟨_, rfl, p, CP, dx, _, _, rfl, upd_same, PC.cl, PC.n_history, rfl, h, dxh, _, rfl, h21, rfl, h, ls, ld, history s, docsOf s, s.done.length, s.forgotten, docAt s s.done.length, rfl, A1, docsOf_at (pos_le s), fun v hv => ?_⟩
    refine ⟨_, rfl, p, CP, dx, _, rfl, upd_same, PC.cl, PC.n_document, (by show 4 < 1000; decide), ?_⟩
    rw [upd_upd]
    have o2 : Only [p] (upd H p (.ins CP dx (padF h dv .non s.next))) (upd H p (.ins CP dx (padF h v .non s.next))) := fun b o hb nb => by
      have hbp : b ≠ p := fun z => nb (by simp [z])
      rw [upd_ne hbp] at hb ⊢
      exact hb
    have o3 : Only [p] H (upd H p (.ins CP dx (padF h v .non s.next))) := Only.set (by simp)
    refine ⟨_, rfl, ga, _, rfl, .inl (SqL.of (o3 _ _ h3 (notin1 gp))), ?_⟩
    rw [le]
    have hd : docAt s s.done.length = doc { s with group := none } := (good_none G).doc_at rfl
    rw [hd] at hv
    exact k _ (foot p h ls ld .non) ⟨o3.mono (by simp [foot]), foot_sub (.inl rfl) (.inl rfl) (fun g hg => by cases hg)⟩ ⟨h, ls, ld, v, .non, ⟨⟨dx, upd_same⟩, A.hist.keep o3 c (notin1 A.ph.symm) (notin1 ne.1) (notin1 ne.2.2.1), Dp.only o2 (chg1 upd_same True.intro) (tupd_doc _) hv, rfl, A.ph, fun g hg => by cases hg⟩, rfl⟩
theorem sc_Pad_go_to : FnScope ["self", "position"] ["self", "position"] (defScope s_Pad_go_to) := scM
theorem ok_Pad_go_to (PC : PadC K CP) (HC : HistCls K CH) (M_History_present : MethAt P w K mg base CH "present" 1 ["self"] (spPresent K CH)) (M_History_go_to : MethAt P w K mg base CH "go_to" 1 ["self", "position"] (spHGo K CH))
    (F : MTop K CP "go_to" "Pad.go_to" s_Pad_go_to) : MethAt P w K mg base CP "go_to" 2 ["self", "position"] (spGo K CP CH) := by
  refine F.at_ ub2 fun f fd F => F.ok (k := 1) sc_Pad_go_to (fun vs H Q E h => ?_) (fun cdv A outer s H vs Q E hr h => ?_)
  · obtain ⟨p, s, F, q, rfl, _⟩ := h
    rfl
  · obtain ⟨p, s, F, q, rfl, ⟨h, ls, ld, dv, gv, A, rfl⟩, G, hg, hq, k⟩ := h
    obtain ⟨dx, h1⟩ := A.obj
    obtain ⟨dxh, h2⟩ := A.hist.obj
    have ne := A.lsne
    have g := A.grp
    rw [hg] at g
    obtain rfl : gv = .non := g
    refine ⟨_, (pss_cons (ps_expr (pe_mt (pe_fld (pv 0) rfl) HC.cl M_History_go_to (hr.mono (by decide)) (pa_cons (pv 1) pa_nil)))
      (pss_one (ps_fld (pv 0) (pe_mt0 (pe_fld (pv 0) rfl) HC.cl M_History_present (hr.mono (by decide))) rfl))), ?_⟩
    refine ⟨_, rfl, p, CP, dx, _, _, rfl, h1, PC.cl, PC.n_history, rfl, h, dxh, _, rfl, h2, rfl, _, rfl, h, ls, ld, history s, docsOf s, s.done.length, s.forgotten, q, rfl, A.hist, ne.2.1.symm, ne.2.2.2.symm, fun H1 o1 A1 => ?_⟩
    obtain ⟨dxh1, h21⟩ := A1.obj
    have h11 := o1 _ _ h1 (notin1 A.ph)
    refine ⟨_, rfl, p, CP, dx, _, _, rfl, h11, PC.cl, PC.n_history, rfl, h, dxh1, _, rfl, h21, rfl, h, ls, ld, history s, docsOf s, q, s.forgotten, docAt s q, rfl, A1, docsOf_at hq, fun v hv => ?_⟩
    refine ⟨_, rfl, p, CP, dx, _, rfl, h11, PC.cl, PC.n_document, (by show 4 < 1000; decide), ?_⟩
    have o2 : Only [p] H1 (upd H1 p (.ins CP dx (padF h v .non s.next))) := Only.set (by simp)
    have c2 := chg1 h11 (show Chg (some (.ins CP dx (padF h dv .non s.next))) from True.intro)
    have dg := docs_gone s q
    have gl : (gone s q).done.length = q := by
      show ((history s).take q).length = q
      rw [List.length_take]
      omega
    have hd : docAt s q = doc (gone s q) := by
      have := (good_gone G hg q).doc_at (by show s.group.getD [] = []; rw [hg]; rfl)
      rw [gl] at this
      rw [← this]
      unfold Vanbkd.docAt Vanbkd.replay
      rw [dg.2]
      rfl
    rw [hd] at hv
    refine k _ (foot p h ls ld .non) ⟨(o1.mono (by simp [foot])).trans (o2.mono (by simp [foot])), fun b hb => .inl hb⟩ ⟨h, ls, ld, v, .non, ⟨⟨dx, upd_same⟩, ?_, Dp.only o2 c2 (tupd_doc _) hv, ?_, A.ph, fun g hg => by cases hg⟩, rfl⟩
    · rw [dg.1, dg.2, gl]
      exact A1.keep o2 c2 (notin1 A.ph.symm) (notin1 ne.1) (notin1 ne.2.2.1)
    · show GrpAt K _ V.non s.group
      rw [hg]
      rfl
theorem sc_Pad_strike_step : FnScope ["self", "index", "struck"] ["self", "index"] (defScope s_Pad_strike_step) := scM
theorem ok_Pad_strike_step (PC : PadC K CP) (HC : HistCls K CH) (M_History_present : MethAt P w K mg base CH "present" 1 ["self"] (spPresent K CH)) (M_History_strike_step : MethAt P w K mg base CH "strike_step" 7 ["self", "index"] (spStrikeH K CH))
    (F : MTop K CP "strike_step" "Pad.strike_step" s_Pad_strike_step) : MethAt P w K mg base CP "strike_step" 8 ["self", "index"] (spStrike K CP CH) := by
  refine F.at_ ub2 fun f fd F => F.ok (k := 7) sc_Pad_strike_step (fun vs H Q E h => ?_) (fun cdv A outer s H vs Q E hr h => ?_)
  · obtain ⟨p, s, F, i, rfl, _⟩ := h
    rfl
  · obtain ⟨p, s, F, i, rfl, ⟨h, ls, ld, dv, gv, A, rfl⟩, G, hg, hi, k, kn⟩ := h
    obtain ⟨dx, h1⟩ := A.obj
    obtain ⟨dxh, h2⟩ := A.hist.obj
    have ne := A.lsne
    have g := A.grp
    rw [hg] at g
    obtain rfl : gv = .non := g
    have SC := sc_Pad_strike_step
    have hl := G.hl
    have pl := pos_le s
    refine ⟨_, (pss_cons (ps_set (i := 2) SC.nd rfl (Or.inl rfl) (pe_mt (pe_fld (pv 0) rfl) HC.cl M_History_strike_step (hr.mono (by decide)) (pa_cons (pv 1) pa_nil)))
      (pss_cons (ps_fld (pv 0) (pe_mt0 (pe_fld (pv 0) rfl) HC.cl M_History_present (hr.mono (by decide))) rfl)
      (pss_one (ps_ret (pv 2))))), ?_⟩
    rw [struck_all G hi] at k kn
    refine ⟨_, rfl, p, CP, dx, _, _, rfl, h1, PC.cl, PC.n_history, rfl, h, dxh, _, rfl, h2, rfl, _, rfl, h, ls, ld, history s, docsOf s, s.done.length, s.forgotten, i, docAt s i, rfl, A.hist, docsOf_at (by omega), (G.at_ i).2.wf, (fun st hst e he => ((G.he st hst).ok e he).ok), (by omega), (by rw [docsOf_len]; omega), fun H1 ls' ld' o1 f1 f2 hs A1 => ?_, fun H1 e1 hs => ?_⟩
    · rw [later_eq hi] at hs A1
      rw [← struck_hist hi, ← struck_docs G hi hs] at A1
      obtain ⟨dxh1, h21⟩ := A1.obj
      have h11 := o1 _ _ h1 (notin1 A.ph)
      have Gs : Good (struck s i) := good_struck G hg i (by rw [struck_all G hi]; exact hs)
      have sl : (history (struck s i)).length = (struck s i).done.length := by
        show (Vanbkd.without s.done i ++ []).length = _
        rw [List.append_nil]
        rfl
      have hd : docAt (struck s i) (history (struck s i)).length = doc (struck s i) := by
        rw [sl]
        exact Gs.doc_at (by show s.group.getD [] = []; rw [hg]; rfl)
      refine ⟨_, rfl, p, CP, dx, _, _, rfl, h11, PC.cl, PC.n_history, rfl, h, dxh1, _, rfl, h21, rfl, h, ls', ld', _, _, _, s.forgotten, _, rfl, A1, docsOf_at (Nat.le_refl _), fun v hv => ?_⟩
      rw [hd] at hv
      refine ⟨_, rfl, p, CP, dx, _, rfl, h11, PC.cl, PC.n_document, (by show 4 < 1000; decide), ?_⟩
      have o2 : Only [p] H1 (upd H1 p (.ins CP dx (padF h v .non s.next))) := Only.set (by simp)
      have c2 := chg1 h11 (show Chg (some (.ins CP dx (padF h dv .non s.next))) from True.intro)
      have n1 : ls' ≠ p := fun z => by rw [z, h1] at f1; cases f1
      have n2 : ld' ≠ p := fun z => by rw [z, h1] at f2; cases f2
      refine ⟨_, rfl, k _ (foot p h ls' ld' .non) ⟨(o1.mono (by simp [foot])).trans (o2.mono (by simp [foot])), foot_sub (.inr f1) (.inr f2) (fun g hg => by cases hg)⟩ hs ⟨h, ls', ld', v, .non, ⟨⟨dx, upd_same⟩, ?_, Dp.only o2 c2 (tupd_doc _) hv, ?_, A.ph, fun g hg => by cases hg⟩, rfl⟩⟩
      · rw [sl] at A1
        exact A1.keep o2 c2 (notin1 A.ph.symm) (notin1 n1) (notin1 n2)
      · show GrpAt K _ V.non s.group
        rw [hg]
        rfl
    · rw [later_eq hi] at hs
      have A1 := A.hist.same e1
      obtain ⟨dxh1, h21⟩ := A1.obj
      have h11 := e1 _ _ h1
      refine ⟨_, rfl, p, CP, dx, _, _, rfl, h11, PC.cl, PC.n_history, rfl, h, dxh1, _, rfl, h21, rfl, h, ls, ld, history s, docsOf s, s.done.length, s.forgotten, _, rfl, A1, docsOf_at pl, fun v hv => ?_⟩
      rw [G.doc_at (by unfold Vanbkd.open_; rw [hg]; rfl)] at hv
      refine ⟨_, rfl, p, CP, dx, _, rfl, h11, PC.cl, PC.n_document, (by show 4 < 1000; decide), ?_⟩
      have o2 : Only [p] H1 (upd H1 p (.ins CP dx (padF h v .non s.next))) := Only.set (by simp)
      have c2 := chg1 h11 (show Chg (some (.ins CP dx (padF h dv .non s.next))) from True.intro)
      refine ⟨_, rfl, kn _ (foot p h ls ld .non) ⟨(Only.of e1).trans (o2.mono (by simp [foot])), fun b hb => .inl hb⟩ hs ⟨h, ls, ld, v, .non, ⟨⟨dx, upd_same⟩, A1.keep o2 c2 (notin1 A.ph.symm) (notin1 ne.1) (notin1 ne.2.2.1), Dp.only o2 c2 (tupd_doc _) hv, ?_, A.ph, fun g hg => by cases hg⟩, rfl⟩⟩
      rw [hg]
      rfl
end
end CP
namespace CP
open PySem PySem.Spec PyProof.Rows L2 CM
open Vanbkd (Doc Cell Text Edit State ofNat nats markOf apply applyAll doc history open_ put added gone docAt)
section
variable {P : Program} {w : World} {K : PySem.W.Frag} {mg : Str → Option Value} {base : Heap} {CP CH : Addr}
theorem sc_Pad_init : FnScope ["self"] ["self"] (defScope s_Pad_init) := scM
theorem ok_Pad_init (PC : PadC K CP) (HC : HistCls K CH) (M_History : MakeAt P w K mg base CH "History" 1 ["self"] (spHInit K CH)) (F : ITop K mg CP "Pad" "Pad.__init__" s_Pad_init) : MakeAt P w K mg base CP "Pad" 3 ["self"] (spPInit K CP CH) := by
  refine F.at_ ub1 fun f fd F => F.ok (k := 2) sc_Pad_init (fun vs H Q E h => ?_) (fun cdv A outer s H vs Q E hr h => ?_)
  · obtain ⟨x, dx, rfl, _⟩ := h
    rfl
  · obtain ⟨x, dx, rfl, hx, k⟩ := h
    refine ⟨_, (pss_cons (ps_fld (pv 0) (pe_mk0 M_History (hr.mono (by decide)) rfl) rfl)
      (pss_cons (ps_fld (pv 0) (pe_tup pa_nil) rfl)
      (pss_cons (ps_fld (pv 0) pe_non rfl)
      (pss_one (ps_fld (pv 0) pe_int rfl))))), ?_⟩
    intro y dy ny ndy nne
    have xy : x ≠ y := ne_of_none hx ny
    have xdy : x ≠ dy := ne_of_none hx ndy
    refine ⟨y, dy, rfl, upd_same, fun H1 ls ld o1 f1 f2 A1 => ⟨rfl, ?_⟩⟩
    have s0 : Same H (upd (upd H dy (.own y)) y (.ins CH dy [])) := fun b o hb => by
      rw [upd_ne (ne_of_none hb ny), upd_ne (ne_of_none hb ndy)]
      exact hb
    have hx1 : H1 x = some (.ins CP dx []) := o1 _ _ (s0 _ _ hx) (notin1 xy)
    have f1H := s0.free f1
    have f2H := s0.free f2
    obtain ⟨dyh, hy⟩ := A1.obj
    obtain ⟨sv, h3, _⟩ := A1.steps
    obtain ⟨dvs, h4, _⟩ := A1.docs
    refine ⟨_, rfl, x, CP, dx, _, rfl, hx1, PC.cl, PC.n_history, (by show 0 < 1000; decide), ?_⟩
    refine ⟨Nat.zero_le _, fun t ht => ⟨_, rfl, x, CP, dx, _, rfl, (Same.upd ht) _ _ upd_same, PC.cl, PC.n_document, (by show 1 < 1000; decide), ?_⟩⟩
    refine ⟨_, rfl, x, CP, dx, _, rfl, upd_same, PC.cl, PC.n_group, (by show 2 < 1000; decide), ?_⟩
    refine ⟨_, rfl, x, CP, dx, _, rfl, upd_same, PC.cl, PC.n_next_number, (by show 3 < 1000; decide), ?_⟩
    rw [upd_upd, upd_upd]
    have tx : t ≠ x := fun z => by rw [z, upd_same] at ht; cases ht
    have ht1 : H1 t = none := by rw [upd_ne tx] at ht; exact ht
    have o : Only [x] H1 (upd (upd (upd H1 x (.ins CP dx (putF "history" (.ref y) []))) t (.tup [])) x (.ins CP dx (padF y (.ref t) .non 1))) := fun b o hb nb => by
      have hbx : b ≠ x := fun z => nb (by simp [z])
      rw [upd_ne hbx, upd_ne (ne_of_none hb ht1), upd_ne hbx]
      exact hb
    have c := chg1 hx1 (show Chg (some (.ins CP dx [])) from True.intro)
    have nls : ls ≠ x := fun z => by rw [z, hx] at f1H; cases f1H
    have nld : ld ≠ x := fun z => by rw [z, hx] at f2H; cases f2H
    refine k _ (foot x y ls ld .non) (fun b o' hb nb => ?_) (fun b hb => ?_) ⟨y, ls, ld, .ref t, .non, ⟨⟨dx, upd_same⟩, A1.keep o c (notin1 xy.symm) (notin1 nls) (notin1 nld), ?_, rfl, xy, fun g hg => by cases hg⟩, rfl⟩
    · exact o _ _ (o1 _ _ (s0 _ _ hb) (notin1 (ne_of_none hb ny))) nb
    · unfold foot footG at hb
      simp only [List.mem_cons, List.not_mem_nil, or_false] at hb
      rcases hb with hb | hb | hb | hb
      · exact .inl hb
      · exact .inr (hb ▸ ny)
      · exact .inr (hb ▸ f1H)
      · exact .inr (hb ▸ f2H)
    · exact doc_iff.mpr ⟨t, [], rfl, SqT.of (by rw [upd_ne tx, upd_same]), .nil⟩
end
end CP
namespace CP
open PySem PySem.Spec PyProof.Rows L2 CM
open Vanbkd (Doc Cell Text Edit State Call Answer ofNat nats markOf apply applyAll doc history open_ put added gone docAt found replaced first bytes tooLong fit hasI textOf lengthOf behind textIn nextOf full usedUp edited doEdit refused)
def ownC (s : State) : Call → List (Bool × Int)
  | .new a t => [(!fit (doc s) a, -2), (!bytes t, -4), (tooLong t, -5), (full s, -6), (usedUp s, -16)]
  | .write n t => [(!hasI (doc s) n, -1), (!bytes t, -4), (tooLong t, -5)]
  | .move n a => [(!hasI (doc s) n, -1), (!fit (doc s) a || a == n, -2)]
  | .drop n => [(!hasI (doc s) n, -1)]
  | .hide n m => [(!hasI (doc s) n, -1), (!(m == 0 || m == 1), -18)]
  | .split n p => [(!hasI (doc s) n, -1), (!Vanbkd.upTo p (lengthOf (doc s) n), -8), (full s, -6), (usedUp s, -16)]
  | .join n => [(!hasI (doc s) n, -1), ((behind (doc s) n).isNone, -9), (decide (Vanbkd.LONG < lengthOf (doc s) n + ((behind (doc s) n).getD (0, 0)).2), -5)]
  | .swap a b => [(!hasI (doc s) a || !hasI (doc s) b, -1)]
  | .replace x y => [(!bytes x || !bytes y, -4), (tooLong x || tooLong y, -5), (x.isEmpty, -17), ((apply (doc s) (.replace (textOf x) (textOf y))).isNone, -5)]
  | _ => []
def editC (s : State) : Call → Edit
  | .new a t => .make s.next a.toNat (textOf t)
  | .write n t => .write n.toNat (textOf t)
  | .move n a => .move n.toNat a.toNat
  | .drop n => .drop n.toNat
  | .hide n m => .hide n.toNat (m == 1)
  | .split n p => .split n.toNat p.toNat s.next
  | .join n => .join n.toNat
  | .swap a b => .swap a.toNat b.toNat
  | .replace x y => .replace (textOf x) (textOf y)
  | _ => .drop 0
def makesC : Call → Bool
  | .new .. => true
  | .split .. => true
  | _ => false
def nextC (s : State) (c : Call) : Nat := if makesC c = true then s.next + 1 else s.next
def ansE (d : Doc) (N : Nat) : Edit → Int
  | .make .. => ofNat N
  | .split .. => ofNat N
  | .join n => ofNat (((nextOf d n).map fun e => (e.number, e.text.length)).getD (0, 0)).1
  | .replace x y => ofNat (d.map fun c => (found x c.text).length).sum
  | _ => 0
def kindC : Call → Nat
  | .new .. => 0 | .write .. => 1 | .move .. => 2 | .drop _ => 3 | .hide .. => 4 | .split .. => 5 | .join _ => 6 | .swap .. => 7 | .replace .. => 8
  | _ => 9
theorem doEdit_eq {s : State} {c : Call} (h : kindC c < 9) : doEdit s c = edited s (ownC s c) (editC s c) (nextC s c) (ansE (doc s) s.next (editC s c)) := by
  cases c <;> first | rfl | (exact absurd h (Nat.lt_irrefl 9))
def rawE (N : Nat) (k : Nat) (ws : List Int) (rs : List (List Int)) : PyData :=
  if k = 0 then .tuple [.int 0, .int (ofNat N), .int (ws.getD 0 0), eInts (rs.getD 0 [])]
  else if k = 5 then .tuple [.int 5, .int (ws.getD 0 0), .int (ws.getD 1 0), .int (ofNat N)]
  else .tuple (.int (k : Int) :: (ws.map PyData.int ++ rs.map eInts))
theorem fit_or {d : Doc} {a : Int} (h : (!fit d a) = false) : a = 0 ∨ (ixF d a).isSome = true := fit_ix.mp (by cases q : fit d a <;> simp_all)
theorem has_ex {d : Doc} {n : Int} (h : (!hasI d n) = false) : ∃ i c, ixF d (n.toNat : Nat) = some i ∧ d[i]? = some c ∧ ((n.toNat : Nat) : Int) = n ∧ ixF d n = some i := by
  have h' : hasI d n = true := by cases q : hasI d n <;> simp_all
  obtain ⟨i, c, q, hc, _, _⟩ := hasI_some h'
  have e : ((n.toNat : Nat) : Int) = n := toNat_ix (by rw [q]; rfl)
  exact ⟨i, c, by rw [e]; exact q, hc, e, q⟩
theorem eT {t : List Int} (h : (!bytes t) = false) : eText (textOf t) = eInts t := eText_of (by cases q : bytes t <;> simp_all)
theorem can_edit {s : State} (G : Good s) {c : Call} (hk : kindC c < 9) (h : first (ownC s c) = none) :
    (∃ d, apply (doc s) (editC s c) = some d) ∧ EOkN (nextC s c) (editC s c) ∧ rawE s.next (kindC c) (whC c) (rowC c) = eEdit (editC s c) ∧ s.next ≤ nextC s c ∧ nextC s c ≤ 100 := by
  have W := G.doc.2
  have n2 := G.n2
  cases c with
  | new a t =>
    obtain ⟨h1, h⟩ := first_none.mp h
    obtain ⟨h2, h⟩ := first_none.mp h
    obtain ⟨h3, h⟩ := first_none.mp h
    obtain ⟨h4, h⟩ := first_none.mp h
    obtain ⟨h5, h⟩ := first_none.mp h
    have u := usedUp_no h5
    have hf := fit_or h1
    have e1 := fit_toNat hf
    have hl : ¬ 12 ≤ (doc s).length := of_decide_eq_false h4
    refine ⟨⟨_, can_make W hf hl⟩, ⟨by show (textOf t).length ≤ 200; rw [textOf_len]; exact tooLong_no h3, by show s.next < s.next + 1; omega⟩, ?_, (by show s.next ≤ s.next + 1; omega), (by show s.next + 1 ≤ 100; omega)⟩
    show PyData.tuple [.int 0, .int (ofNat s.next), .int a, eInts t] = .tuple [.int 0, .int (ofNat s.next), .int (ofNat a.toNat), eText (textOf t)]
    rw [eT h2, show ofNat a.toNat = a from e1]
  | write n t =>
    obtain ⟨h1, h⟩ := first_none.mp h
    obtain ⟨h2, h⟩ := first_none.mp h
    obtain ⟨h3, h⟩ := first_none.mp h
    obtain ⟨i, x, q, hx, en, _⟩ := has_ex h1
    refine ⟨⟨_, ap_write W.wf.nd q hx⟩, ⟨by show (textOf t).length ≤ 200; rw [textOf_len]; exact tooLong_no h3, trivial⟩, ?_, Nat.le_refl _, n2⟩
    show PyData.tuple [.int 1, .int n, eInts t] = .tuple [.int 1, .int (ofNat n.toNat), eText (textOf t)]
    rw [eT h2, show ofNat n.toNat = n from en]
  | move n a =>
    obtain ⟨h1, h⟩ := first_none.mp h
    obtain ⟨h2, h⟩ := first_none.mp h
    obtain ⟨i, x, q, hx, en, _⟩ := has_ex h1
    obtain ⟨h3, h4⟩ := Bool.or_eq_false_iff.mp h2
    have hf := fit_or h3
    have ea := fit_toNat hf
    have hne : a ≠ n := by simpa using h4
    refine ⟨⟨_, can_move W.wf q hx hf (by omega)⟩, ⟨trivial, trivial⟩, ?_, Nat.le_refl _, n2⟩
    show PyData.tuple [.int 2, .int n, .int a] = .tuple [.int 2, .int (ofNat n.toNat), .int (ofNat a.toNat)]
    rw [show ofNat n.toNat = n from en, show ofNat a.toNat = a from ea]
  | drop n =>
    obtain ⟨h1, h⟩ := first_none.mp h
    obtain ⟨i, x, q, hx, en, _⟩ := has_ex h1
    refine ⟨⟨_, ap_drop W.wf.nd q⟩, ⟨trivial, trivial⟩, ?_, Nat.le_refl _, n2⟩
    show PyData.tuple [.int 3, .int n] = .tuple [.int 3, .int (ofNat n.toNat)]
    rw [show ofNat n.toNat = n from en]
  | hide n m =>
    obtain ⟨h1, h⟩ := first_none.mp h
    obtain ⟨h2, h⟩ := first_none.mp h
    obtain ⟨i, x, q, hx, en, _⟩ := has_ex h1
    refine ⟨⟨_, ap_hide W.wf.nd q hx⟩, ⟨trivial, trivial⟩, ?_, Nat.le_refl _, n2⟩
    show PyData.tuple [.int 4, .int n, .int m] = .tuple [.int 4, .int (ofNat n.toNat), .int (markOf (m == 1))]
    have em : markOf (m == 1) = m := by
      have : m = 0 ∨ m = 1 := by
        by_cases z : m = 0
        · exact .inl z
        · exact .inr (by simpa [z] using h2)
      rcases this with rfl | rfl <;> rfl
    rw [show ofNat n.toNat = n from en, em]
  | split n p =>
    obtain ⟨h1, h⟩ := first_none.mp h
    obtain ⟨h2, h⟩ := first_none.mp h
    obtain ⟨h3, h⟩ := first_none.mp h
    obtain ⟨h4, h⟩ := first_none.mp h
    have u := usedUp_no h4
    obtain ⟨i, x, q, hx, en, q'⟩ := has_ex h1
    have hl : ¬ 12 ≤ (doc s).length := of_decide_eq_false h3
    rw [lengthOf_at q' hx] at h2
    have hp : 0 ≤ p ∧ p ≤ (x.text.length : Int) := by
      have h2' := not_ff (b := Vanbkd.upTo p x.text.length) (by rw [h2]; exact Bool.false_ne_true)
      unfold Vanbkd.upTo at h2'
      rw [Bool.and_eq_true, decide_eq_true_eq, decide_eq_true_eq] at h2'
      exact h2'
    have fr := fresh_ix W
    refine ⟨⟨_, ap_split W.wf.nd q hx (fun z => ?_)⟩, ⟨trivial, by show s.next < s.next + 1; omega⟩, ?_, (by show s.next ≤ s.next + 1; omega), (by show s.next + 1 ≤ 100; omega)⟩
    · rcases z with z | z | z
      · omega
      · rw [fr] at z; cases z
      · exact hl z
    · show PyData.tuple [.int 5, .int n, .int p, .int (ofNat s.next)] = .tuple [.int 5, .int (ofNat n.toNat), .int (ofNat p.toNat), .int (ofNat s.next)]
      rw [show ofNat n.toNat = n from en, show ofNat p.toNat = p from by unfold ofNat; omega]
  | join n =>
    obtain ⟨h1, h⟩ := first_none.mp h
    obtain ⟨h2, h⟩ := first_none.mp h
    obtain ⟨h3, h⟩ := first_none.mp h
    obtain ⟨i, x, q, hx, en, q'⟩ := has_ex h1
    rw [behind_at q'] at h2 h3
    cases hy : (doc s)[i + 1]? with
    | none => rw [hy] at h2; cases h2
    | some y =>
      rw [hy, lengthOf_at q' hx] at h3
      have h3' : ¬ 200 < x.text.length + y.text.length := of_decide_eq_false h3
      refine ⟨⟨_, ap_join W.wf.nd q hx hy h3'⟩, ⟨trivial, trivial⟩, ?_, Nat.le_refl _, n2⟩
      show PyData.tuple [.int 6, .int n] = .tuple [.int 6, .int (ofNat n.toNat)]
      rw [show ofNat n.toNat = n from en]
  | swap a b =>
    obtain ⟨h1, h⟩ := first_none.mp h
    obtain ⟨h2, h3⟩ := Bool.or_eq_false_iff.mp h1
    obtain ⟨i, x, q, hx, en, _⟩ := has_ex h2
    obtain ⟨j, y, r, hy, em, _⟩ := has_ex h3
    refine ⟨⟨_, ap_swap W.wf.nd q r hx hy⟩, ⟨trivial, trivial⟩, ?_, Nat.le_refl _, n2⟩
    show PyData.tuple [.int 7, .int a, .int b] = .tuple [.int 7, .int (ofNat a.toNat), .int (ofNat b.toNat)]
    rw [show ofNat a.toNat = a from en, show ofNat b.toNat = b from em]
  | replace x y =>
    obtain ⟨h1, h⟩ := first_none.mp h
    obtain ⟨h2, h⟩ := first_none.mp h
    obtain ⟨h3, h⟩ := first_none.mp h
    obtain ⟨h4, h⟩ := first_none.mp h
    obtain ⟨h5, h6⟩ := Bool.or_eq_false_iff.mp h1
    have h2' := Bool.or_eq_false_iff.mp h2
    refine ⟨?_, ⟨⟨fun e => ?_, by rw [textOf_len]; exact tooLong_no h2'.1, by rw [textOf_len]; exact tooLong_no h2'.2⟩, trivial⟩, ?_, Nat.le_refl _, n2⟩
    · show ∃ d, apply (doc s) (.replace (textOf x) (textOf y)) = some d
      cases q : apply (doc s) (.replace (textOf x) (textOf y)) with
      | none => rw [q] at h4; cases h4
      | some d => exact ⟨d, rfl⟩
    · have := congrArg List.length e
      rw [textOf_len] at this
      have : x = [] := List.length_eq_zero_iff.mp this
      subst this
      cases h3
    · show PyData.tuple [.int 8, eInts x, eInts y] = .tuple [.int 8, eText (textOf x), eText (textOf y)]
      rw [eT h5, eT h6]
  | _ => exact absurd hk (Nat.lt_irrefl 9)
theorem own_ne {s : State} {c : Call} : ∀ p ∈ ownC s c, p.2 ≠ 0 := by
  cases c <;> simp [ownC]
theorem ref_zero {l : List (Bool × Int)} (h : ∀ p ∈ l, p.2 ≠ 0) : ref l = 0 ↔ first l = none := by
  induction l with
  | nil => simp [ref, first]
  | cons a r ih =>
    obtain ⟨b, n⟩ := a
    have hn : n ≠ 0 := h (b, n) (by simp)
    cases b with
    | true =>
      rw [ref_t rfl, first_cons]
      simp [hn]
    | false =>
      rw [ref_f rfl, first_cons]
      simp [ih fun p hp => h p (by simp [hp])]
theorem ref_some {l : List (Bool × Int)} (h : ref l ≠ 0) : first l = some (ref l) := by
  unfold ref at *
  cases q : first l with
  | none => rw [q] at h; exact absurd rfl h
  | some n => rfl
end CP
namespace CP
open PySem PySem.Spec PyProof.Rows L2 CM
open Vanbkd (Doc Cell Text Edit State Call Answer ofNat nats markOf apply applyAll doc history open_ put added gone docAt found replaced first bytes tooLong fit hasI textOf lengthOf behind textIn nextOf full usedUp edited doEdit refused)
def spMakes : Sp := fun vs H Q _ => ∃ k : Nat, vs = [.int (k : Int)] ∧ Q (.bl (decide (k = 0 ∨ k = 5))) H
def spEditOf (K : PySem.W.Frag) (CP : Addr) : Sp := fun vs H Q _ => ∃ (p : Addr) (u : V) (d : Doc) (N k : Nat) (ws : List Int) (rs : List (List Int)), vs = [.ref p, .int (k : Int), u] ∧ PadDoc K CP H p d N ∧ Dp K H u (eArgs ws rs) ∧
  (k = 0 → ws.length = 1 ∧ rs.length = 1) ∧ (k = 5 → ws.length = 2 ∧ rs.length = 0) ∧ ws.length + rs.length ≤ 10 ∧ ∀ v H', Same H H' → Dp K H' v (rawE N k ws rs) → Q v H'
def spAnsOf (K : PySem.W.Frag) (CP : Addr) : Sp := fun vs H Q _ => ∃ (p : Addr) (u : V) (d : Doc) (N : Nat) (e : Edit), vs = [.ref p, u] ∧ PadDoc K CP H p d N ∧ WF d ∧ Dp K H u (eEdit e) ∧ EOk e ∧ (∃ d', apply d e = some d') ∧
  ∀ H', Same H H' → Q (.int (ansE d N e)) H'
def spAnsEdit (K : PySem.W.Frag) (CP CH : Addr) : Sp := fun vs H Q _ => ∃ (p : Addr) (s : State) (F : List Addr) (c : Call) (u : V), vs = [.ref p, .int (kindC c : Int), u] ∧ kindC c < 9 ∧ PadAt K CP CH H p s F ∧ Good s ∧ Dp K H u (eArgs (whC c) (rowC c)) ∧ (∀ r ∈ rowC c, r.length ≤ 400) ∧
  ∀ H' F', Stp F F' H H' → PadAt K CP CH H' p (doEdit s c).1 F' → Q (.int (doEdit s c).2.number) H'
section
variable {P : Program} {w : World} {K : PySem.W.Frag} {mg : Str → Option Value} {base : Heap} {CP CH : Addr}
theorem sc_makes_cell : FnScope ["kind"] ["kind"] (defScope s_makes_cell) := scM
theorem ok_makes_cell (N : Nums mg) (F : Top K mg "makes_cell" s_makes_cell) : FnAt P w K mg base "makes_cell" 1 ["kind"] spMakes := by
  refine F.at_ ub1 fun f fd F => F.ok (k := 0) sc_makes_cell (fun vs H Q E h => ?_) (fun cdv A outer s H vs Q E hr h => ?_)
  · obtain ⟨k, rfl, _⟩ := h
    rfl
  · obtain ⟨k, rfl, q⟩ := h
    refine ⟨_, (pss_one (ps_ret (pe_or (pe_cmpR op_eq (pv 0) (pe_gint rfl N.c_MAKE) (nomark _)) (pe_one (pe_cmpR op_eq (pv 0) (pe_gint rfl N.c_SPLIT) (nomark _)))))), ?_⟩
    refine ⟨_, rfl, rfl, _, rfl, ?_⟩
    refine ite2 (fun h0 => ?_) (fun h0 => ?_)
    · have hk : k = 0 := by
        have := V.int.inj (of_decide_eq_true h0)
        omega
      rw [decide_eq_true (.inl hk)] at q
      exact q
    · have hk : k ≠ 0 := fun z => h0 (decide_eq_true (by rw [z]; rfl))
      refine ⟨_, rfl, rfl, ?_⟩
      have e : decide (V.int (k : Int) = V.int 5) = decide (k = 0 ∨ k = 5) := decide_eq_decide.mpr ⟨fun z => .inr (by have := V.int.inj z; omega), fun z => by
        rcases z with z | z
        · exact absurd z hk
        · rw [z]; rfl⟩
      show Q (.bl (decide (V.int (k : Int) = V.int 5))) H
      rw [e]
      exact q
theorem tupds_app : ∀ {a b : List PyData}, tupds a = true → tupds b = true → tupds (a ++ b) = true
  | [], _, _, h => h
  | x :: r, b, h, h2 => by
    simp only [tupds, Bool.and_eq_true, List.cons_append] at *
    exact ⟨h.1, tupds_app h.2 h2⟩
theorem tupds_rows : ∀ l : List (List Int), tupds (l.map eInts) = true
  | [] => by simp [tupds]
  | x :: r => by simp [tupds, tupd_ints, tupds_rows r]
theorem tupds_args (ws : List Int) (rs : List (List Int)) : tupds (ws.map PyData.int ++ rs.map eInts) = true := tupds_app (tupds_ints ws) (tupds_rows rs)
theorem tupd_args (ws : List Int) (rs : List (List Int)) : tupd (eArgs ws rs) = true := by
  unfold eArgs
  rw [tupd]
  exact tupds_args ws rs
theorem sc_edit_of : FnScope ["pad", "kind", "arguments"] ["pad", "kind", "arguments"] (defScope s_edit_of) := scM
theorem ok_edit_of (N : Nums mg) (PC : PadC K CP) (F : Top K mg "edit_of" s_edit_of) : FnAt P w K mg base "edit_of" 1 ["pad", "kind", "arguments"] (spEditOf K CP) := by
  refine F.at_ ub3 fun f fd F => F.ok (k := 0) sc_edit_of (fun vs H Q E h => ?_) (fun cdv A outer s H vs Q E hr h => ?_)
  · obtain ⟨p, u, d, n, k, ws, rs, rfl, _⟩ := h
    rfl
  · obtain ⟨p, u, d, n, k, ws, rs, rfl, hp, hu, c0, c5, hz, q⟩ := h
    obtain ⟨dx, fs, dv, h1, h2, h3, h4⟩ := id hp
    have big : (1000 : Nat) ≤ sizeLine := by decide
    refine ⟨_, (pss_cons (ps_if (pt_cmpR op_eq (pv 1) (pe_gint rfl N.c_MAKE) (nomark _)) (pss_one (ps_ret (pe_tup (pa_cons (pe_gint rfl N.c_MAKE) (pa_cons (pe_fld (pv 0) rfl) (pa_cons (pe_ix ix_tup (pv 2) pe_int (fun _ _ => rfl)) (pa_cons (pe_ix ix_tup (pv 2) pe_int (fun _ _ => rfl)) pa_nil))))))) pss_nil)
      (pss_cons (ps_if (pt_cmpR op_eq (pv 1) (pe_gint rfl N.c_SPLIT) (nomark _)) (pss_one (ps_ret (pe_tup (pa_cons (pe_gint rfl N.c_SPLIT) (pa_cons (pe_ix ix_tup (pv 2) pe_int (fun _ _ => rfl)) (pa_cons (pe_ix ix_tup (pv 2) pe_int (fun _ _ => rfl)) (pa_cons (pe_fld (pv 0) rfl) pa_nil))))))) pss_nil)
      (pss_one (ps_ret (pe_op op_catTA (pe_tup (pa_cons (pv 1) pa_nil)) (pv 2)))))), ?_⟩
    refine ⟨_, rfl, rfl, _, rfl, ?_⟩
    refine ite2 (fun hk => ?_) (fun hk => ?_)
    · have hk' : k = 0 := by
        have := V.int.inj (of_decide_eq_true hk)
        omega
      subst hk'
      obtain ⟨hw, hrs⟩ := c0 rfl
      obtain ⟨a, rfl⟩ := len1 hw
      obtain ⟨t, rfl⟩ := len1 hrs
      obtain ⟨b, tv, rfl, hb, htv⟩ := args_wr hu
      refine ⟨_, rfl, p, CP, dx, fs, _, rfl, h1, PC.cl, PC.n_next_number, h4, _, rfl, b, _, 0, _, rfl, rfl, hb, rfl, _, rfl, b, _, 1, _, rfl, rfl, hb, rfl, (by show 4 ≤ sizeLine; decide), fun r hr2 => ?_⟩
      have e := Same.upd (o := .tup [.int 0, .int (ofNat n), .int a, tv]) hr2
      refine q _ _ e (dp_tup.mpr ⟨r, _, rfl, SqT.of upd_same, .cons (.int _) (.cons (.int _) (.cons (.int _) (.cons (Dp.same e (tupd_ints t) htv) .nil)))⟩)
    · have hk0 : k ≠ 0 := fun z => hk (decide_eq_true (by rw [z]; rfl))
      refine ⟨_, rfl, rfl, _, rfl, ?_⟩
      refine ite2 (fun hk2 => ?_) (fun hk2 => ?_)
      · have hk' : k = 5 := by
          have := V.int.inj (of_decide_eq_true hk2)
          omega
        subst hk'
        obtain ⟨hw, hrs⟩ := c5 rfl
        obtain ⟨a, t, rfl⟩ := len2 hw
        obtain rfl := len0 hrs
        obtain ⟨b, rfl, hb⟩ := args_ww hu
        refine ⟨_, rfl, b, _, 0, _, rfl, rfl, hb, rfl, _, rfl, b, _, 1, _, rfl, rfl, hb, rfl, _, rfl, p, CP, dx, fs, _, rfl, h1, PC.cl, PC.n_next_number, h4, (by show 4 ≤ sizeLine; decide), fun r hr2 => ?_⟩
        have e := Same.upd (o := .tup [.int 5, .int a, .int t, .int (ofNat n)]) hr2
        exact q _ _ e (dp_tup.mpr ⟨r, _, rfl, SqT.of upd_same, .cons (.int _) (.cons (.int _) (.cons (.int _) (.cons (.int _) .nil)))⟩)
      · have hk5 : k ≠ 5 := fun z => hk2 (decide_eq_true (by rw [z]; rfl))
        obtain ⟨b, xs, rfl, hb, hxs⟩ := dp_tup.mp hu
        have lx := DpAll.length hxs
        rw [List.length_append, List.length_map, List.length_map] at lx
        refine ⟨_, rfl, (by show 1 ≤ sizeLine; decide), fun r hr2 => ?_⟩
        have e := Same.upd (o := .tup [.int (k : Int)]) hr2
        refine ⟨_, rfl, r, b, _, _, rfl, rfl, SqT.of upd_same, e.tup hb, (by show 1 + xs.length ≤ sizeLine; omega), fun t H' e' ht => ?_⟩
        have e2 := e.trans e'
        refine q _ _ e2 ?_
        unfold rawE
        rw [if_neg hk0, if_neg hk5]
        exact dp_tup.mpr ⟨t, _, rfl, ht, .cons (.int _) (DpAll.same e2 (tupds_args ws rs) hxs)⟩
theorem sc_answer_of : FnScope ["pad", "edit"] ["pad", "edit"] (defScope s_answer_of) := scM
theorem ok_answer_of (N : Nums mg) (PC : PadC K CP) (C : CellsOk P w K mg base) (F_makes_cell : FnAt P w K mg base "makes_cell" 1 ["kind"] spMakes) (F : Top K mg "answer_of" s_answer_of) : FnAt P w K mg base "answer_of" 3 ["pad", "edit"] (spAnsOf K CP) := by
  refine F.at_ ub2 fun f fd F => F.ok (k := 2) sc_answer_of (fun vs H Q E h => ?_) (fun cdv A outer s H vs Q E hr h => ?_)
  · obtain ⟨p, u, d, n, e, rfl, _⟩ := h
    rfl
  · obtain ⟨p, u, d, n, e, rfl, hp, W, hu, hE, ⟨d', hap⟩, k⟩ := h
    obtain ⟨dx, fs, dv, h1, h2, h3, h4⟩ := id hp
    have F_count_found := C.count_found
    have F_number_of := C.number_of
    have F_index_of := C.index_of
    refine ⟨_, (pss_cons (ps_if (pt_val (pe_fn F_makes_cell (hr.mono (by decide)) rfl (pa_cons (pe_ix ix_tup (pv 1) pe_int (fun _ _ => rfl)) pa_nil))) (pss_one (ps_ret (pe_fld (pv 0) rfl))) pss_nil)
      (pss_cons (ps_if (pt_cmpR op_eq (pe_ix ix_tup (pv 1) pe_int (fun _ _ => rfl)) (pe_gint rfl N.c_JOIN) (nomark _)) (pss_one (ps_ret (pe_fn F_number_of (hr.mono (by decide)) rfl (pa_cons (pe_ix ix_tup (pe_fld (pv 0) rfl) (pe_op op_add (pe_fn F_index_of (hr.mono (by decide)) rfl (pa_cons (pe_fld (pv 0) rfl) (pa_cons (pe_ix ix_tup (pv 1) pe_int (fun _ _ => rfl)) pa_nil))) pe_int) (fun _ _ => rfl)) pa_nil)))) pss_nil)
      (pss_cons (ps_if (pt_cmpR op_eq (pe_ix ix_tup (pv 1) pe_int (fun _ _ => rfl)) (pe_gint rfl N.c_REPLACE) (nomark _)) (pss_one (ps_ret (pe_fn F_count_found (hr.mono (by decide)) rfl (pa_cons (pe_fld (pv 0) rfl) (pa_cons (pe_ix ix_tup (pv 1) pe_int (fun _ _ => rfl)) pa_nil))))) pss_nil)
      (pss_one (ps_ret pe_int))))), ?_⟩
    have k0 := k H (Same.refl H)
    have mk : (∃ b xs, u = .ref b ∧ SqT K H b (.int (kindE e : Nat) :: xs)) := kind_at hu
    cases e with
    | make a1 a2 a3 =>
      obtain ⟨b, xs, rfl, hb⟩ := mk
      exact ⟨_, rfl, b, _, 0, _, rfl, rfl, hb, at_of (j := 0) rfl rfl, 0, rfl, _, rfl, iteT ⟨_, rfl, p, CP, dx, fs, _, rfl, h1, PC.cl, PC.n_next_number, h4, k0⟩⟩
    | split a1 a2 a3 =>
      obtain ⟨b, xs, rfl, hb⟩ := mk
      exact ⟨_, rfl, b, _, 0, _, rfl, rfl, hb, at_of (j := 0) rfl rfl, 5, rfl, _, rfl, iteT ⟨_, rfl, p, CP, dx, fs, _, rfl, h1, PC.cl, PC.n_next_number, h4, k0⟩⟩
    | write a1 a2 =>
      obtain ⟨b, xs, rfl, hb⟩ := mk
      exact ⟨_, rfl, b, _, 0, _, rfl, rfl, hb, at_of (j := 0) rfl rfl, 1, rfl, _, rfl, iteF ⟨_, rfl, b, _, 0, _, rfl, rfl, hb, at_of (j := 0) rfl rfl, rfl, _, rfl, iteF ⟨_, rfl, b, _, 0, _, rfl, rfl, hb, at_of (j := 0) rfl rfl, rfl, _, rfl, iteF k0⟩⟩⟩
    | move a1 a2 =>
      obtain ⟨b, xs, rfl, hb⟩ := mk
      exact ⟨_, rfl, b, _, 0, _, rfl, rfl, hb, at_of (j := 0) rfl rfl, 2, rfl, _, rfl, iteF ⟨_, rfl, b, _, 0, _, rfl, rfl, hb, at_of (j := 0) rfl rfl, rfl, _, rfl, iteF ⟨_, rfl, b, _, 0, _, rfl, rfl, hb, at_of (j := 0) rfl rfl, rfl, _, rfl, iteF k0⟩⟩⟩
    | drop a1 =>
      obtain ⟨b, xs, rfl, hb⟩ := mk
      exact ⟨_, rfl, b, _, 0, _, rfl, rfl, hb, at_of (j := 0) rfl rfl, 3, rfl, _, rfl, iteF ⟨_, rfl, b, _, 0, _, rfl, rfl, hb, at_of (j := 0) rfl rfl, rfl, _, rfl, iteF ⟨_, rfl, b, _, 0, _, rfl, rfl, hb, at_of (j := 0) rfl rfl, rfl, _, rfl, iteF k0⟩⟩⟩
    | hide a1 a2 =>
      obtain ⟨b, xs, rfl, hb⟩ := mk
      exact ⟨_, rfl, b, _, 0, _, rfl, rfl, hb, at_of (j := 0) rfl rfl, 4, rfl, _, rfl, iteF ⟨_, rfl, b, _, 0, _, rfl, rfl, hb, at_of (j := 0) rfl rfl, rfl, _, rfl, iteF ⟨_, rfl, b, _, 0, _, rfl, rfl, hb, at_of (j := 0) rfl rfl, rfl, _, rfl, iteF k0⟩⟩⟩
    | swap a1 a2 =>
      obtain ⟨b, xs, rfl, hb⟩ := mk
      exact ⟨_, rfl, b, _, 0, _, rfl, rfl, hb, at_of (j := 0) rfl rfl, 7, rfl, _, rfl, iteF ⟨_, rfl, b, _, 0, _, rfl, rfl, hb, at_of (j := 0) rfl rfl, rfl, _, rfl, iteF ⟨_, rfl, b, _, 0, _, rfl, rfl, hb, at_of (j := 0) rfl rfl, rfl, _, rfl, iteF k0⟩⟩⟩
    | join a1 =>
      obtain ⟨b, xs, rfl, hb, hxs⟩ := dp_tup.mp hu
      simp only [dpa_cons, dpa_nil, dp_int] at hxs
      obtain ⟨_, _, rfl, rfl, _, _, rfl, rfl, rfl⟩ := hxs
      obtain ⟨ad, ds, rfl, hds, hdc⟩ := doc_iff.mp h3
      obtain ⟨i, hi⟩ : ∃ i, ixF d a1 = some i := by
        cases q : ixF d a1 with
        | none => rw [ap_join_no q] at hap; cases hap
        | some i => exact ⟨i, rfl⟩
      obtain ⟨c, hc, _⟩ := ixF_at hi
      obtain ⟨c2, hc2⟩ : ∃ c2, d[i + 1]? = some c2 := by
        cases q : d[i + 1]? with
        | none => rw [ap_join_no2 hi hc q] at hap; cases hap
        | some c2 => exact ⟨c2, rfl⟩
      obtain ⟨x2, hx2, hxc2⟩ := at_ix (n := 0) hdc hc2
      refine ⟨_, rfl, b, _, 0, _, rfl, rfl, hb, rfl, 6, rfl, _, rfl, iteF ⟨_, rfl, b, _, 0, _, rfl, rfl, hb, rfl, rfl, _, rfl, iteT ?_⟩⟩
      refine ⟨_, rfl, p, CP, dx, fs, _, rfl, h1, PC.cl, PC.n_document, h2, _, rfl, p, CP, dx, fs, _, rfl, h1, PC.cl, PC.n_document, h2, _, rfl, b, _, 1, _, rfl, rfl, hb, rfl, _, d, _, rfl, h3, fun H1 e1 => ?_⟩
      rw [show ixI d (ofNat a1) = (i : Int) from ixI_some hi]
      refine ⟨_, _, rfl, rfl, ad, _, _, _, rfl, rfl, e1.tup hds, at_of (j := i + 1) (by omega) hx2, x2, c2, rfl, Dp.same e1 (tupd_cell c2) hxc2, ?_⟩
      have kk : Q (.int (ofNat (((nextOf d a1).map fun e => (e.number, e.text.length)).getD (0, 0)).1)) H1 := k H1 e1
      rw [nextOf_at hi, hc2] at kk
      exact kk
    | replace x y =>
      obtain ⟨b, xs, rfl, hb, hxs⟩ := dp_tup.mp hu
      simp only [dpa_cons, dpa_nil, dp_int] at hxs
      obtain ⟨_, _, rfl, rfl, xv, _, rfl, hxv, yv, _, rfl, hyv, rfl⟩ := hxs
      refine ⟨_, rfl, b, _, 0, _, rfl, rfl, hb, rfl, 8, rfl, _, rfl, iteF ⟨_, rfl, b, _, 0, _, rfl, rfl, hb, rfl, rfl, _, rfl, iteF ⟨_, rfl, b, _, 0, _, rfl, rfl, hb, rfl, rfl, _, rfl, iteT ?_⟩⟩⟩
      exact ⟨_, rfl, p, CP, dx, fs, _, rfl, h1, PC.cl, PC.n_document, h2, _, rfl, b, _, 1, _, rfl, rfl, hb, rfl, _, xv, d, x, rfl, h3, hxv, hE.1, W, fun H1 e1 => k H1 e1⟩
end
end CP
namespace CP
open PySem PySem.Spec PyProof.Rows L2 CM
open Vanbkd (Doc Cell Text Edit State Call Answer ofNat nats markOf apply applyAll doc history open_ put added gone docAt found replaced first bytes tooLong fit hasI textOf lengthOf behind textIn nextOf full usedUp edited doEdit refused)
structure RefsOk (P : Program) (w : World) (K : PySem.W.Frag) (mg : Str → Option Value) (base : Heap) (CP : Addr) : Prop where
  r_new : FnAt P w K mg base "refuse_new" 5 ["pad", "arguments"] (spRef K CP 1 1 rNew)
  r_write : FnAt P w K mg base "refuse_write" 5 ["pad", "arguments"] (spRef K CP 1 1 rWrite)
  r_move : FnAt P w K mg base "refuse_move" 5 ["pad", "arguments"] (spRef K CP 2 0 rMove)
  r_drop : FnAt P w K mg base "refuse_drop" 5 ["pad", "arguments"] (spRef K CP 1 0 rDrop)
  r_hide : FnAt P w K mg base "refuse_hide" 5 ["pad", "arguments"] (spRef K CP 2 0 rHide)
  r_split : FnAt P w K mg base "refuse_split" 5 ["pad", "arguments"] (spRef K CP 2 0 rSplit)
  r_join : FnAt P w K mg base "refuse_join" 5 ["pad", "arguments"] (spRef K CP 1 0 rJoin)
  r_swap : FnAt P w K mg base "refuse_swap" 5 ["pad", "arguments"] (spRef K CP 2 0 rSwap)
  r_replace : FnAt P w K mg base "refuse_replace" 5 ["pad", "arguments"] (spRef K CP 0 2 rReplace)
def REFUSERS : List Str := ["refuse_new", "refuse_write", "refuse_move", "refuse_drop", "refuse_hide", "refuse_split", "refuse_join", "refuse_swap", "refuse_replace"]
section
variable {P : Program} {w : World} {K : PySem.W.Frag} {mg : Str → Option Value} {base : Heap} {CP CH : Addr}
theorem refuser_at (R : RefsOk P w K mg base CP) {as : List Addr} (hfs : REFUSERS.map mg = as.map fun b => some (Value.ref b)) {c : Call} (hk : kindC c < 9) (s : State) :
    ∃ f ps sp, atI (as.map V.ref) ((kindC c : Nat) : Int) = some (V.ref f) ∧ FnV P w K mg base f 5 ps sp ∧ ∀ (p : Addr) (u : V) (H : Hp) (Q : VK), PadDoc K CP H p (doc s) s.next → WF (doc s) → Dp K H u (eArgs (whC c) (rowC c)) → (∀ r ∈ rowC c, r.length ≤ 400) →
      (∀ H', Same H H' → Q (.int (ref (ownC s c))) H') → sp [.ref p, u] H Q E0 := by
  have go : ∀ {y : Str} {nw nr : Nat} {own : Doc → Nat → List Int → List (List Int) → Int}, FnAt P w K mg base y 5 ["pad", "arguments"] (spRef K CP nw nr own) → REFUSERS[kindC c]? = some y → (whC c).length = nw → (rowC c).length = nr → own (doc s) s.next (whC c) (rowC c) = ref (ownC s c) →
      ∃ f ps sp, atI (as.map V.ref) ((kindC c : Nat) : Int) = some (V.ref f) ∧ FnV P w K mg base f 5 ps sp ∧ ∀ (p : Addr) (u : V) (H : Hp) (Q : VK), PadDoc K CP H p (doc s) s.next → WF (doc s) → Dp K H u (eArgs (whC c) (rowC c)) → (∀ r ∈ rowC c, r.length ≤ 400) →
      (∀ H', Same H H' → Q (.int (ref (ownC s c))) H') → sp [.ref p, u] H Q E0 := by
    intro y nw nr own FA hy hw hr ho
    obtain ⟨f, hmf, FV⟩ := FA.toV
    refine ⟨f, _, _, atI_nat (Table.get (K := K) (x := "REFUSERS") (a := f) hfs hy hmf), FV, fun p u H Q hp W hu hl k => ⟨p, u, doc s, s.next, whC c, rowC c, rfl, hp, W, hu, hw, hr, hl, fun H' e => ?_⟩⟩
    rw [ho]
    exact k H' e
  cases c with
  | new a t => exact go R.r_new rfl rfl rfl rfl
  | write n t => exact go R.r_write rfl rfl rfl rfl
  | move n a => exact go R.r_move rfl rfl rfl rfl
  | drop n => exact go R.r_drop rfl rfl rfl rfl
  | hide n m => exact go R.r_hide rfl rfl rfl rfl
  | split n p => exact go R.r_split rfl rfl rfl rfl
  | join n => exact go R.r_join rfl rfl rfl rfl
  | swap a b => exact go R.r_swap rfl rfl rfl rfl
  | replace x y => exact go R.r_replace rfl rfl rfl rfl
  | _ => exact absurd hk (Nat.lt_irrefl 9)
theorem PadAt.ex {H : Hp} {p : Addr} {s : State} {F : List Addr} (A : PadAt K CP CH H p s F) : ∃ h dv gv dx, H p = some (.ins CP dx (padF h dv gv s.next)) ∧ Dp K H dv (eDoc (Vanbkd.doc s)) := by
  obtain ⟨h, ls, ld, dv, gv, A, rfl⟩ := A
  obtain ⟨dx, h1⟩ := A.obj
  exact ⟨h, dv, gv, dx, h1, A.dc⟩
theorem put_next (s : State) (e : Edit) : (put s e).next = s.next := by
  unfold Vanbkd.put
  split
  · rfl
  · exact (next_added s [e]).1
theorem args_len {c : Call} (hk : kindC c < 9) : (kindC c = 0 → (whC c).length = 1 ∧ (rowC c).length = 1) ∧ (kindC c = 5 → (whC c).length = 2 ∧ (rowC c).length = 0) ∧ (whC c).length + (rowC c).length ≤ 10 := by
  cases c <;> simp [kindC, whC, rowC]
theorem makes_kind {c : Call} (hk : kindC c < 9) : decide (kindC c = 0 ∨ kindC c = 5) = makesC c := by
  cases c <;> first | rfl | (exact absurd hk (Nat.lt_irrefl 9))
theorem sc_answer_edit : FnScope ["pad", "kind", "arguments", "refusal", "edit", "document", "answer"] ["pad", "kind", "arguments"] (defScope s_answer_edit) := scM
theorem ok_answer_edit (N : Nums mg) (PC : PadC K CP) (R : RefsOk P w K mg base CP) (D : Table K mg "REFUSERS" REFUSERS) (M_Pad_group_is_full : MethAt P w K mg base CP "group_is_full" 2 ["self"] (spFull K CP CH)) (M_Pad_take_edit : MethAt P w K mg base CP "take_edit" 3 ["self", "edit", "document"] (spTake K CP CH))
    (M_Pad_use_number : MethAt P w K mg base CP "use_number" 1 ["self"] (spUse K CP CH)) (F_makes_cell : FnAt P w K mg base "makes_cell" 1 ["kind"] spMakes) (F_edit_of : FnAt P w K mg base "edit_of" 1 ["pad", "kind", "arguments"] (spEditOf K CP))
    (F_answer_of : FnAt P w K mg base "answer_of" 3 ["pad", "edit"] (spAnsOf K CP)) (F_do_edit : FnAt P w K mg base "do_edit" 5 ["document", "edit"] (spDo K fun _ => True)) (F : Top K mg "answer_edit" s_answer_edit) :
    FnAt P w K mg base "answer_edit" 6 ["pad", "kind", "arguments"] (spAnsEdit K CP CH) := by
  refine F.at_ ub3 fun f fd F => F.ok (k := 5) sc_answer_edit (fun vs H Q E h => ?_) (fun cdv A outer s H vs Q E hr h => ?_)
  · obtain ⟨p, s, F, c, u, rfl, _⟩ := h
    rfl
  · obtain ⟨p, s, F, c, u, rfl, hk, A, G, hu, hl, k⟩ := h
    obtain ⟨ra, as, hm, hT, hfs⟩ := D
    obtain ⟨h, dv, gv, dx, h1, hdv⟩ := A.ex
    have W := G.doc.2.wf
    have SC := sc_answer_edit
    rw [doEdit_eq hk] at k
    obtain ⟨f', ps, sp, hat, FV, hsp⟩ := refuser_at R hfs hk s
    obtain ⟨al1, al2, al3⟩ := args_len hk
    refine ⟨_, (pss_cons (ps_if (pt_val (pe_mt0 (pv 0) PC.cl M_Pad_group_is_full (hr.mono (by decide)))) (pss_one (ps_ret (pe_gint rfl N.c_GROUP_FULL))) pss_nil)
      (pss_cons (ps_set (i := 3) SC.nd rfl (Or.inl rfl) (pe_callV (k := 5) (hr.mono (by decide)) (pe_ix ix_tup (pe_glob (v := V.ref ra) rfl hm rfl) (pv 1) (fun _ _ => rfl)) (pa_cons (pv 0) (pa_cons (pv 2) pa_nil))))
      (pss_cons (ps_if (pt_cmpR op_ne (pv 3) (pe_gint rfl N.c_NOT_REFUSED) (nomark _)) (pss_one (ps_ret (pv 3))) pss_nil)
      (pss_cons (ps_set (i := 4) SC.nd rfl (Or.inl rfl) (pe_fn F_edit_of (hr.mono (by decide)) rfl (pa_cons (pv 0) (pa_cons (pv 1) (pa_cons (pv 2) pa_nil)))))
      (pss_cons (ps_set (i := 5) SC.nd rfl (Or.inl rfl) (pe_fn F_do_edit (hr.mono (by decide)) rfl (pa_cons (pe_fld (pv 0) rfl) (pa_cons (pv 4) pa_nil))))
      (pss_cons (ps_if (pt_cmpR (op_eqD (hr.units)) (pv 5) (pe_fld (pv 0) rfl) (nomark _)) (pss_one (ps_ret (pe_gint rfl N.c_NO_CHANGE))) pss_nil)
      (pss_cons (ps_set (i := 6) SC.nd rfl (Or.inl rfl) (pe_fn F_answer_of (hr.mono (by decide)) rfl (pa_cons (pv 0) (pa_cons (pv 4) pa_nil))))
      (pss_cons (ps_expr (pe_mt (pv 0) PC.cl M_Pad_take_edit (hr.mono (by decide)) (pa_cons (pv 4) (pa_cons (pv 5) pa_nil))))
      (pss_cons (ps_if (pt_val (pe_fn F_makes_cell (hr.mono (by decide)) rfl (pa_cons (pv 1) pa_nil))) (pss_one (ps_expr (pe_mt0 (pv 0) PC.cl M_Pad_use_number (hr.mono (by decide))))) pss_nil)
      (pss_one (ps_ret (pv 6)))))))))))), ?_⟩
    refine ⟨_, rfl, p, dx, _, rfl, h1, rfl, p, s, F, rfl, A, _, rfl, ?_⟩
    refine ite2 (fun h10 => ?_) (fun h10 => ?_)
    · rw [edited_some (n := -10) (by rw [first_cons, if_pos (show decide (Vanbkd.EDITS ≤ (open_ s).length) = true from h10)])] at k
      exact k H F Stp.refl A
    have c10 : decide (Vanbkd.EDITS ≤ (open_ s).length) = false := not_t h10
    refine ⟨_, rfl, ra, _, _, _, rfl, rfl, hT H, hat, f', ps, sp, rfl, FV, _, rfl, _, rfl, hsp p u H _ A.doc W hu hl fun H1 e1 => ?_⟩
    refine ⟨_, rfl, rfl, _, rfl, ?_⟩
    have A1 := A.same e1
    refine ite_ref (fun z => ?_) (fun z => ?_)
    · have hf : first (ownC s c) = none := (ref_zero own_ne).mp z
      obtain ⟨⟨d, hap⟩, hE, hraw, hn1, hn2⟩ := can_edit G hk hf
      rw [edited_none (d := d) (by rw [first_cons, c10]; exact hf) hap] at k
      refine ⟨_, rfl, _, rfl, _, rfl, p, u, doc s, s.next, kindC c, whC c, rowC c, rfl, A1.doc, Dp.same e1 (tupd_args _ _) hu, al1, al2, al3, fun ev H2 e2 hev => ?_⟩
      rw [hraw] at hev
      have e12 := e1.trans e2
      refine ⟨_, rfl, p, CP, dx, _, _, rfl, e12 _ _ h1, PC.cl, PC.n_document, rfl, _, rfl, dv, ev, doc s, editC s c, rfl, Dp.same e12 (tupd_doc _) hdv, hev, W, hE.ok, trivial, fun r H3 e3 hr3 => ?_⟩
      rw [hap] at hr3
      have hr3 : Dp K H3 r (eDoc d) := hr3
      have e13 := e12.trans e3
      refine ⟨_, rfl, _, rfl, p, CP, dx, _, _, rfl, e13 _ _ h1, PC.cl, PC.n_document, rfl, eDoc d, eDoc (doc s), hr3, Dp.same e13 (tupd_doc _) hdv, shaped_doc _, shaped_doc _, _, rfl, ?_⟩
      rw [eqv_doc]
      refine ite2 (fun hd => ?_) (fun hd => ?_)
      · rw [if_pos (of_decide_eq_true hd)] at k
        exact k H3 F (Stp.of e13) (A.same e13)
      have hd' : ¬ d = doc s := fun z => hd (decide_eq_true z)
      rw [if_neg hd'] at k
      refine ⟨_, rfl, _, rfl, p, ev, doc s, s.next, editC s c, rfl, (A.same e13).doc, W, Dp.same e3 (tupd_edit _) hev, hE.ok, ⟨d, hap⟩, fun H4 e4 => ?_⟩
      have e14 := e13.trans e4
      refine ⟨_, rfl, p, dx, _, rfl, e14 _ _ h1, rfl, _, rfl, _, rfl, p, s, F, ev, r, editC s c, d, rfl, A.same e14, G, Dp.same (e3.trans e4) (tupd_edit _) hev, Dp.same e4 (tupd_doc _) hr3, hap, fun H5 F5 st5 A5 => ?_⟩
      obtain ⟨h5, dv5, gv5, dx5, h15, _⟩ := A5.ex
      have st := (Stp.of (F := F) e14).trans st5
      refine ⟨_, rfl, kindC c, rfl, _, rfl, ?_⟩
      rw [makes_kind hk]
      refine ite2 (fun hmk => ?_) (fun hmk => ?_)
      · refine ⟨_, rfl, p, dx5, _, rfl, h15, rfl, p, put s (editC s c), F5, rfl, A5, fun H6 st6 A6 => ⟨_, rfl, ?_⟩⟩
        refine k H6 F5 (st.trans st6) ?_
        rw [put_next] at A6
        unfold nextC
        rw [if_pos hmk]
        exact A6
      · refine ⟨_, rfl, k H5 F5 st ?_⟩
        unfold nextC
        rw [if_neg hmk]
        have e : ({ put s (editC s c) with next := s.next } : State) = put s (editC s c) := by
          have := put_next s (editC s c)
          cases q : put s (editC s c) with
          | mk b1 b2 b3 b4 b5 b6 =>
            rw [q] at this
            rw [← this]
        rw [e]
        exact A5
    · rw [edited_some (n := ref (ownC s c)) (by rw [first_cons, c10]; exact ref_some z)] at k
      exact ⟨_, rfl, k H1 F (Stp.of e1) A1⟩
end
end CP
namespace CP
open PySem PySem.Spec PyProof.Rows L2 CM
open Vanbkd (Doc Cell Text Edit State Call Answer ofNat nats markOf apply applyAll doc history open_ put added gone docAt first refused doHistory)
structure PMeths (P : Program) (w : World) (K : PySem.W.Frag) (mg : Str → Option Value) (base : Heap) (CP CH : Addr) : Prop where
  has_group : MethAt P w K mg base CP "has_group" 1 ["self"] (spHasG CP)
  begin_group : MethAt P w K mg base CP "begin_group" 1 ["self"] (spBegin K CP CH)
  end_group : MethAt P w K mg base CP "end_group" 3 ["self"] (spEnd K CP CH)
  cancel_group : MethAt P w K mg base CP "cancel_group" 2 ["self"] (spCancel K CP CH)
  go_to : MethAt P w K mg base CP "go_to" 2 ["self", "position"] (spGo K CP CH)
  strike_step : MethAt P w K mg base CP "strike_step" 8 ["self", "index"] (spStrike K CP CH)
  count_undone : MethAt P w K mg base CH "count_undone" 1 ["self"] (spUndone K CH)
  has_position : MethAt P w K mg base CH "has_position" 1 ["self", "position"] (spHasPos K CH)
def spGrp (K : PySem.W.Frag) (CP CH : Addr) (c : Call) : Sp := fun vs H Q _ => ∃ (p : Addr) (s : State) (F : List Addr), vs = [.ref p] ∧ PadAt K CP CH H p s F ∧ Good s ∧
  ∀ H' F', Stp F F' H H' → PadAt K CP CH H' p (doHistory s c).1 F' → Q (.int (doHistory s c).2.number) H'
def spTrv (K : PySem.W.Frag) (CP CH : Addr) (form : Call → Prop) : Sp := fun vs H Q _ => ∃ (p : Addr) (s : State) (F : List Addr) (c : Call) (u : V), vs = [.ref p, u] ∧ PadAt K CP CH H p s F ∧ Good s ∧ Dp K H u (eArgs (whC c) (rowC c)) ∧ form c ∧
  ∀ H' F', Stp F F' H H' → PadAt K CP CH H' p (doHistory s c).1 F' → Q (.int (doHistory s c).2.number) H'
section
variable {P : Program} {w : World} {K : PySem.W.Frag} {mg : Str → Option Value} {base : Heap} {CP CH : Addr}
theorem grp_bl {H : Hp} {p h ls ld : Addr} {dv gv : V} {s : State} (A : PadIn K CP CH H p h ls ld dv gv s) : (!decide (gv = V.non)) = s.group.isSome := by
  have g := A.grp
  cases q : s.group with
  | none =>
    rw [q] at g
    rw [show gv = .non from g]
    rfl
  | some es =>
    rw [q] at g
    obtain ⟨ga, ev, rfl, _⟩ := g
    rw [decide_eq_false (show ¬ (V.ref ga = V.non) from fun z => nomatch z)]
    rfl
theorem is_none {s : State} (h : ¬ s.group.isSome = true) : s.group = none := by
  cases q : s.group with
  | none => rfl
  | some g => rw [q] at h; exact absurd rfl h
theorem sc_answer_begin : FnScope ["pad"] ["pad"] (defScope s_answer_begin) := scM
theorem ok_answer_begin (N : Nums mg) (PC : PadC K CP) (M : PMeths P w K mg base CP CH) (F : Top K mg "answer_begin" s_answer_begin) : FnAt P w K mg base "answer_begin" 4 ["pad"] (spGrp K CP CH .begin) := by
  refine F.at_ ub1 fun f fd F => F.ok (k := 3) sc_answer_begin (fun vs H Q E h => ?_) (fun cdv A outer s H vs Q E hr h => ?_)
  · obtain ⟨p, s, F, rfl, _⟩ := h
    rfl
  · obtain ⟨p, s, F, rfl, A0, G, k⟩ := h
    obtain ⟨h, ls, ld, dv, gv, A, hF⟩ := id A0
    obtain ⟨dx, h1⟩ := A.obj
    refine ⟨_, (pss_cons (ps_if (pt_val (pe_mt0 (pv 0) PC.cl M.has_group (hr.mono (by decide)))) (pss_one (ps_ret (pe_gint rfl N.c_GROUP_IS_OPEN))) pss_nil)
      (pss_cons (ps_expr (pe_mt0 (pv 0) PC.cl M.begin_group (hr.mono (by decide))))
      (pss_one (ps_ret pe_int)))), ?_⟩
    refine ⟨_, rfl, p, dx, _, rfl, h1, rfl, p, dx, _, gv, rfl, h1, rfl, _, rfl, ?_⟩
    rw [grp_bl A]
    refine ite2 (fun hg => ?_) (fun hg => ?_)
    · have e : doHistory s .begin = refused s (-11) := if_pos hg
      rw [e] at k
      exact k H F Stp.refl A0
    · have e : doHistory s .begin = ({ s with group := some [] }, ⟨0, []⟩) := if_neg hg
      rw [e] at k
      exact ⟨_, rfl, p, dx, _, rfl, h1, rfl, p, s, F, rfl, A0, is_none hg, fun H' F' st A' => k H' F' st A'⟩
theorem close_eq {s : State} {es : List Edit} (h : s.group = some es) : doHistory s .close = (ended s es, ⟨ofNat es.length, []⟩) := by
  unfold Vanbkd.doHistory ended
  rw [h]
  cases es with
  | nil => rfl
  | cons a r => rfl
theorem sc_answer_end : FnScope ["pad"] ["pad"] (defScope s_answer_end) := scM
theorem ok_answer_end (N : Nums mg) (PC : PadC K CP) (M : PMeths P w K mg base CP CH) (F : Top K mg "answer_end" s_answer_end) : FnAt P w K mg base "answer_end" 4 ["pad"] (spGrp K CP CH .close) := by
  refine F.at_ ub1 fun f fd F => F.ok (k := 3) sc_answer_end (fun vs H Q E h => ?_) (fun cdv A outer s H vs Q E hr h => ?_)
  · obtain ⟨p, s, F, rfl, _⟩ := h
    rfl
  · obtain ⟨p, s, F, rfl, A0, G, k⟩ := h
    obtain ⟨h, ls, ld, dv, gv, A, hF⟩ := id A0
    obtain ⟨dx, h1⟩ := A.obj
    refine ⟨_, (pss_cons (ps_if (pt_not (pt_val (pe_mt0 (pv 0) PC.cl M.has_group (hr.mono (by decide))))) (pss_one (ps_ret (pe_gint rfl N.c_NO_GROUP))) pss_nil)
      (pss_one (ps_ret (pe_mt0 (pv 0) PC.cl M.end_group (hr.mono (by decide)))))), ?_⟩
    refine ⟨_, rfl, p, dx, _, rfl, h1, rfl, p, dx, _, gv, rfl, h1, rfl, _, rfl, ?_⟩
    rw [grp_bl A]
    cases q : s.group with
    | none =>
      have e : doHistory s .close = refused s (-12) := by
        unfold Vanbkd.doHistory
        rw [q]
      rw [e] at k
      exact iteT (k H F Stp.refl A0)
    | some es =>
      rw [close_eq q] at k
      exact iteF ⟨_, rfl, p, dx, _, rfl, h1, rfl, p, s, F, es, rfl, A0, G, q, fun H' F' st A' => k H' F' st A'⟩
theorem sc_answer_cancel : FnScope ["pad"] ["pad"] (defScope s_answer_cancel) := scM
theorem ok_answer_cancel (N : Nums mg) (PC : PadC K CP) (M : PMeths P w K mg base CP CH) (F : Top K mg "answer_cancel" s_answer_cancel) : FnAt P w K mg base "answer_cancel" 4 ["pad"] (spGrp K CP CH .cancel) := by
  refine F.at_ ub1 fun f fd F => F.ok (k := 3) sc_answer_cancel (fun vs H Q E h => ?_) (fun cdv A outer s H vs Q E hr h => ?_)
  · obtain ⟨p, s, F, rfl, _⟩ := h
    rfl
  · obtain ⟨p, s, F, rfl, A0, G, k⟩ := h
    obtain ⟨h, ls, ld, dv, gv, A, hF⟩ := id A0
    obtain ⟨dx, h1⟩ := A.obj
    refine ⟨_, (pss_cons (ps_if (pt_not (pt_val (pe_mt0 (pv 0) PC.cl M.has_group (hr.mono (by decide))))) (pss_one (ps_ret (pe_gint rfl N.c_NO_GROUP))) pss_nil)
      (pss_one (ps_ret (pe_mt0 (pv 0) PC.cl M.cancel_group (hr.mono (by decide)))))), ?_⟩
    refine ⟨_, rfl, p, dx, _, rfl, h1, rfl, p, dx, _, gv, rfl, h1, rfl, _, rfl, ?_⟩
    rw [grp_bl A]
    cases q : s.group with
    | none =>
      have e : doHistory s .cancel = refused s (-12) := by
        unfold Vanbkd.doHistory
        rw [q]
      rw [e] at k
      exact iteT (k H F Stp.refl A0)
    | some es =>
      have e : doHistory s .cancel = ({ s with group := none }, ⟨ofNat es.length, []⟩) := by
        unfold Vanbkd.doHistory
        rw [q]
      rw [e] at k
      exact iteF ⟨_, rfl, p, dx, _, rfl, h1, rfl, p, s, F, es, rfl, A0, G, q, fun H' F' st A' => k H' F' st A'⟩
def GROUPINGS : List Str := ["answer_begin", "answer_end", "answer_cancel"]
def grpC : Nat → Call
  | 0 => .begin
  | 1 => .close
  | _ => .cancel
def spGrouping (K : PySem.W.Frag) (CP CH : Addr) : Sp := fun vs H Q _ => ∃ (p : Addr) (s : State) (F : List Addr) (j : Nat), vs = [.ref p, .int (j : Int)] ∧ j < 3 ∧ PadAt K CP CH H p s F ∧ Good s ∧
  ∀ H' F', Stp F F' H H' → PadAt K CP CH H' p (doHistory s (grpC j)).1 F' → Q (.int (doHistory s (grpC j)).2.number) H'
theorem sc_answer_grouping : FnScope ["pad", "which"] ["pad", "which"] (defScope s_answer_grouping) := scM
theorem ok_answer_grouping (D : Table K mg "GROUPINGS" GROUPINGS) (F0 : FnAt P w K mg base "answer_begin" 4 ["pad"] (spGrp K CP CH .begin)) (F1 : FnAt P w K mg base "answer_end" 4 ["pad"] (spGrp K CP CH .close)) (F2 : FnAt P w K mg base "answer_cancel" 4 ["pad"] (spGrp K CP CH .cancel))
    (F : Top K mg "answer_grouping" s_answer_grouping) : FnAt P w K mg base "answer_grouping" 5 ["pad", "which"] (spGrouping K CP CH) := by
  refine F.at_ ub2 fun f fd F => F.ok (k := 4) sc_answer_grouping (fun vs H Q E h => ?_) (fun cdv A outer s H vs Q E hr h => ?_)
  · obtain ⟨p, s, F, j, rfl, _⟩ := h
    rfl
  · obtain ⟨p, s, F, j, rfl, hj, A0, G, k⟩ := h
    obtain ⟨ra, as, hm, hT, hfs⟩ := D
    refine ⟨_, (pss_one (ps_ret (pe_callV (k := 4) (hr.mono (by decide)) (pe_ix ix_tup (pe_glob (v := V.ref ra) rfl hm rfl) (pv 1) (fun _ _ => rfl)) (pa_cons (pv 0) pa_nil)))), ?_⟩
    have go : ∀ {y : Str}, FnAt P w K mg base y 4 ["pad"] (spGrp K CP CH (grpC j)) → GROUPINGS[j]? = some y → ∃ f ps sp, atI (as.map V.ref) (j : Int) = some (V.ref f) ∧ FnV P w K mg base f 4 ps sp ∧ sp [.ref p] H Q E0 := by
      intro y FA hy
      obtain ⟨f, hmf, FV⟩ := FA.toV
      exact ⟨f, _, _, atI_nat (Table.get (K := K) (x := "GROUPINGS") (a := f) hfs hy hmf), FV, p, s, F, rfl, A0, G, k⟩
    have fin : ∃ f ps sp, atI (as.map V.ref) (j : Int) = some (V.ref f) ∧ FnV P w K mg base f 4 ps sp ∧ sp [.ref p] H Q E0 := by
      match j, hj with
      | 0, _ => exact go F0 rfl
      | 1, _ => exact go F1 rfl
      | 2, _ => exact go F2 rfl
    obtain ⟨f', ps, sp, h1, h2, h3⟩ := fin
    exact ⟨_, rfl, ra, _, _, _, rfl, rfl, hT H, h1, f', ps, sp, rfl, h2, _, rfl, h3⟩
end
end CP
namespace CP
open PySem PySem.Spec PyProof.Rows L2 CM
open Vanbkd (Doc Cell Text Edit State Call Answer ofNat nats markOf apply applyAll doc history open_ put added gone docAt first refused doHistory)
section
variable {P : Program} {w : World} {K : PySem.W.Frag} {mg : Str → Option Value} {base : Heap} {CP CH : Addr}
theorem gone_len {s : State} {q : Nat} (h : q ≤ (history s).length) : (gone s q).done.length = q := by
  show ((history s).take q).length = q
  rw [List.length_take]
  omega
theorem hist_len (s : State) : (history s).length = s.done.length + s.undone.length := by
  unfold Vanbkd.history
  rw [List.length_append]
theorem undo_eq (s : State) : doHistory s .undo = (match first [(s.group.isSome, -11), (s.done.isEmpty, -13)] with
    | some n => refused s n
    | none => (gone s (s.done.length - 1), ⟨ofNat (s.done.length - 1), []⟩)) := rfl
theorem redo_eq (s : State) : doHistory s .redo = (match first [(s.group.isSome, -11), (s.undone.isEmpty, -14)] with
    | some n => refused s n
    | none => (gone s (s.done.length + 1), ⟨ofNat (s.undone.length - 1), []⟩)) := rfl
theorem to_eq (s : State) (p : Int) : doHistory s (.to p) = (match first [(s.group.isSome, -11), (!Vanbkd.upTo p (history s).length, -3)] with
    | some n => refused s n
    | none => (gone s p.toNat, ⟨ofNat ((p.toNat - s.done.length) + (s.done.length - p.toNat)), []⟩)) := rfl
theorem strike_eq (s : State) (k : Int) : doHistory s (.strike k) = (match first [(s.group.isSome, -11), (!(decide (0 ≤ k) && decide (k < ofNat s.done.length)), -3), ((applyAll s.base (Vanbkd.without s.done k.toNat).flatten).isNone, -15)] with
    | some n => refused s n
    | none => (struck s k.toNat, ⟨0, []⟩)) := rfl
theorem sc_answer_undo : FnScope ["pad", "arguments"] ["pad", "arguments"] (defScope s_answer_undo) := scM
theorem ok_answer_undo (N : Nums mg) (PC : PadC K CP) (HC : HistCls K CH) (M : PMeths P w K mg base CP CH) (F : Top K mg "answer_undo" s_answer_undo) : FnAt P w K mg base "answer_undo" 9 ["pad", "arguments"] (spTrv K CP CH fun c => c = .undo) := by
  refine F.at_ ub2 fun f fd F => F.ok (k := 8) sc_answer_undo (fun vs H Q E h => ?_) (fun cdv A outer s H vs Q E hr h => ?_)
  · obtain ⟨p, s, F, c, u, rfl, _⟩ := h
    rfl
  · obtain ⟨p, s, F, c, u, rfl, A0, G, hu, rfl, k⟩ := h
    obtain ⟨h, ls, ld, dv, gv, A, hF⟩ := id A0
    obtain ⟨dx, h1⟩ := A.obj
    obtain ⟨dxh, h2⟩ := A.hist.obj
    have hlen := hist_len s
    refine ⟨_, (pss_cons (ps_if (pt_val (pe_mt0 (pv 0) PC.cl M.has_group (hr.mono (by decide)))) (pss_one (ps_ret (pe_gint rfl N.c_GROUP_IS_OPEN))) pss_nil)
      (pss_cons (ps_if (pt_cmpR op_eq (pe_fld (pe_fld (pv 0) rfl) rfl) pe_int (nomark _)) (pss_one (ps_ret (pe_gint rfl N.c_NOTHING_DONE))) pss_nil)
      (pss_cons (ps_expr (pe_mt (pv 0) PC.cl M.go_to (hr.mono (by decide)) (pa_cons (pe_op op_sub (pe_fld (pe_fld (pv 0) rfl) rfl) pe_int) pa_nil)))
      (pss_one (ps_ret (pe_fld (pe_fld (pv 0) rfl) rfl)))))), ?_⟩
    refine ⟨_, rfl, p, dx, _, rfl, h1, rfl, p, dx, _, gv, rfl, h1, rfl, _, rfl, ?_⟩
    rw [grp_bl A]
    refine ite2 (fun hg => ?_) (fun hg => ?_)
    · have e : doHistory s .undo = refused s (-11) := by
        rw [undo_eq, first_cons, if_pos hg]
      rw [e] at k
      exact k H F Stp.refl A0
    have hgn := is_none hg
    refine ⟨_, rfl, p, CP, dx, _, _, rfl, h1, PC.cl, PC.n_history, rfl, h, CH, dxh, _, _, rfl, h2, HC.cl, HC.n_position, rfl, rfl, _, rfl, ?_⟩
    refine ite2 (fun hz => ?_) (fun hz => ?_)
    · have hz' : s.done.length = 0 := by
        have := V.int.inj (of_decide_eq_true hz)
        omega
      have e : doHistory s .undo = refused s (-13) := by
        rw [undo_eq, first_cons, if_neg hg, first_cons, if_pos (by rw [List.length_eq_zero_iff.mp hz']; rfl)]
      rw [e] at k
      exact k H F Stp.refl A0
    · have hz' : s.done.length ≠ 0 := fun z => hz (decide_eq_true (by rw [z]; rfl))
      have e : doHistory s .undo = (gone s (s.done.length - 1), ⟨ofNat (s.done.length - 1), []⟩) := by
        rw [undo_eq, first_cons, if_neg hg, first_cons, if_neg (by
          cases q : s.done with
          | nil => rw [q] at hz'; exact absurd rfl hz'
          | cons a r => exact Bool.false_ne_true)]
        rfl
      rw [e] at k
      refine ⟨_, rfl, p, dx, _, rfl, h1, rfl, _, rfl, p, CP, dx, _, _, rfl, h1, PC.cl, PC.n_history, rfl, h, CH, dxh, _, _, rfl, h2, HC.cl, HC.n_position, rfl, _, _, rfl, rfl, p, s, F, s.done.length - 1, (by show [V.ref p, V.int ((s.done.length : Int) - 1)] = _; rw [show (s.done.length : Int) - 1 = ((s.done.length - 1 : Nat) : Int) by omega]), A0, G, hgn, (by omega), fun H' F' st A' => ?_⟩
      obtain ⟨h', ls', ld', dv', gv', A2, _⟩ := id A'
      obtain ⟨dx', h1'⟩ := A2.obj
      obtain ⟨dxh', h2'⟩ := A2.hist.obj
      refine ⟨_, rfl, p, CP, dx', _, _, rfl, h1', PC.cl, PC.n_history, rfl, h', CH, dxh', _, _, rfl, h2', HC.cl, HC.n_position, rfl, ?_⟩
      rw [gone_len (by omega)]
      exact k H' F' st A'
theorem sc_answer_redo : FnScope ["pad", "arguments"] ["pad", "arguments"] (defScope s_answer_redo) := scM
theorem ok_answer_redo (N : Nums mg) (PC : PadC K CP) (HC : HistCls K CH) (M : PMeths P w K mg base CP CH) (F : Top K mg "answer_redo" s_answer_redo) : FnAt P w K mg base "answer_redo" 9 ["pad", "arguments"] (spTrv K CP CH fun c => c = .redo) := by
  refine F.at_ ub2 fun f fd F => F.ok (k := 8) sc_answer_redo (fun vs H Q E h => ?_) (fun cdv A outer s H vs Q E hr h => ?_)
  · obtain ⟨p, s, F, c, u, rfl, _⟩ := h
    rfl
  · obtain ⟨p, s, F, c, u, rfl, A0, G, hu, rfl, k⟩ := h
    obtain ⟨h, ls, ld, dv, gv, A, hF⟩ := id A0
    obtain ⟨dx, h1⟩ := A.obj
    obtain ⟨dxh, h2⟩ := A.hist.obj
    have hlen := hist_len s
    refine ⟨_, (pss_cons (ps_if (pt_val (pe_mt0 (pv 0) PC.cl M.has_group (hr.mono (by decide)))) (pss_one (ps_ret (pe_gint rfl N.c_GROUP_IS_OPEN))) pss_nil)
      (pss_cons (ps_if (pt_cmpR op_eq (pe_mt0 (pe_fld (pv 0) rfl) HC.cl M.count_undone (hr.mono (by decide))) pe_int (nomark _)) (pss_one (ps_ret (pe_gint rfl N.c_NOTHING_UNDONE))) pss_nil)
      (pss_cons (ps_expr (pe_mt (pv 0) PC.cl M.go_to (hr.mono (by decide)) (pa_cons (pe_op op_add (pe_fld (pe_fld (pv 0) rfl) rfl) pe_int) pa_nil)))
      (pss_one (ps_ret (pe_mt0 (pe_fld (pv 0) rfl) HC.cl M.count_undone (hr.mono (by decide)))))))), ?_⟩
    refine ⟨_, rfl, p, dx, _, rfl, h1, rfl, p, dx, _, gv, rfl, h1, rfl, _, rfl, ?_⟩
    rw [grp_bl A]
    refine ite2 (fun hg => ?_) (fun hg => ?_)
    · have e : doHistory s .redo = refused s (-11) := by
        rw [redo_eq, first_cons, if_pos hg]
      rw [e] at k
      exact k H F Stp.refl A0
    have hgn := is_none hg
    refine ⟨_, rfl, p, CP, dx, _, _, rfl, h1, PC.cl, PC.n_history, rfl, h, dxh, _, rfl, h2, rfl, h, ls, ld, _, _, _, _, rfl, A.hist, rfl, _, rfl, ?_⟩
    refine ite2 (fun hz => ?_) (fun hz => ?_)
    · have hz' : s.undone.length = 0 := by
        have := V.int.inj (of_decide_eq_true hz)
        omega
      have e : doHistory s .redo = refused s (-14) := by
        rw [redo_eq, first_cons, if_neg hg, first_cons, if_pos (by rw [List.length_eq_zero_iff.mp hz']; rfl)]
      rw [e] at k
      exact k H F Stp.refl A0
    · have hz' : s.undone.length ≠ 0 := fun z => hz (decide_eq_true (congrArg V.int (by omega)))
      have e : doHistory s .redo = (gone s (s.done.length + 1), ⟨ofNat (s.undone.length - 1), []⟩) := by
        rw [redo_eq, first_cons, if_neg hg, first_cons, if_neg (by
          cases q : s.undone with
          | nil => rw [q] at hz'; exact absurd rfl hz'
          | cons a r => exact Bool.false_ne_true)]
        rfl
      rw [e] at k
      refine ⟨_, rfl, p, dx, _, rfl, h1, rfl, _, rfl, p, CP, dx, _, _, rfl, h1, PC.cl, PC.n_history, rfl, h, CH, dxh, _, _, rfl, h2, HC.cl, HC.n_position, rfl, _, _, rfl, rfl, p, s, F, s.done.length + 1, rfl, A0, G, hgn, (by omega), fun H' F' st A' => ?_⟩
      obtain ⟨h', ls', ld', dv', gv', A2, _⟩ := id A'
      obtain ⟨dx', h1'⟩ := A2.obj
      obtain ⟨dxh', h2'⟩ := A2.hist.obj
      refine ⟨_, rfl, p, CP, dx', _, _, rfl, h1', PC.cl, PC.n_history, rfl, h', dxh', _, rfl, h2', rfl, h', ls', ld', _, _, _, _, rfl, A2.hist, ?_⟩
      rw [gone_len (by omega), (docs_gone s _).2, show ((history s).length : Int) - ((s.done.length + 1 : Nat) : Int) = ofNat (s.undone.length - 1) by unfold ofNat; omega]
      exact k H' F' st A'
theorem sc_answer_to : FnScope ["pad", "arguments", "position", "before"] ["pad", "arguments"] (defScope s_answer_to) := scM
theorem ok_answer_to (T : Txt mg) (N : Nums mg) (PC : PadC K CP) (HC : HistCls K CH) (M : PMeths P w K mg base CP CH) (F : Top K mg "answer_to" s_answer_to) : FnAt P w K mg base "answer_to" 9 ["pad", "arguments"] (spTrv K CP CH fun c => ∃ q, c = .to q) := by
  refine F.at_ ub2 fun f fd F => F.ok (k := 8) sc_answer_to (fun vs H Q E h => ?_) (fun cdv A outer s H vs Q E hr h => ?_)
  · obtain ⟨p, s, F, c, u, rfl, _⟩ := h
    rfl
  · obtain ⟨p, s, F, c, u, rfl, A0, G, hu, ⟨q, rfl⟩, k⟩ := h
    obtain ⟨b, rfl, hb⟩ := args_w hu
    obtain ⟨h, ls, ld, dv, gv, A, hF⟩ := id A0
    obtain ⟨dx, h1⟩ := A.obj
    obtain ⟨dxh, h2⟩ := A.hist.obj
    have SC := sc_answer_to
    refine ⟨_, (pss_cons (ps_set (i := 2) SC.nd rfl (Or.inl rfl) (pe_ix ix_tup (pv 1) pe_int (fun _ _ => rfl)))
      (pss_cons (ps_if (pt_val (pe_mt0 (pv 0) PC.cl M.has_group (hr.mono (by decide)))) (pss_one (ps_ret (pe_gint rfl N.c_GROUP_IS_OPEN))) pss_nil)
      (pss_cons (ps_if (pt_not (pt_val (pe_mt (pe_fld (pv 0) rfl) HC.cl M.has_position (hr.mono (by decide)) (pa_cons (pv 2) pa_nil)))) (pss_one (ps_ret (pe_gint rfl N.c_OUT_OF_RANGE))) pss_nil)
      (pss_cons (ps_set (i := 3) SC.nd rfl (Or.inl rfl) (pe_fld (pe_fld (pv 0) rfl) rfl))
      (pss_cons (ps_expr (pe_mt (pv 0) PC.cl M.go_to (hr.mono (by decide)) (pa_cons (pv 2) pa_nil)))
      (pss_one (ps_ret (pe_callB call_abs (by rfl) T.b_abs boot_abs (pa_cons (pe_op op_sub (pv 2) (pv 3)) pa_nil))))))))), ?_⟩
    refine ⟨_, rfl, b, _, 0, _, rfl, rfl, hb, rfl, ?_⟩
    refine ⟨_, rfl, p, dx, _, rfl, h1, rfl, p, dx, _, gv, rfl, h1, rfl, _, rfl, ?_⟩
    rw [grp_bl A]
    refine ite2 (fun hg => ?_) (fun hg => ?_)
    · have e : doHistory s (.to q) = refused s (-11) := by
        rw [to_eq, first_cons, if_pos hg]
      rw [e] at k
      exact k H F Stp.refl A0
    have hgn := is_none hg
    refine ⟨_, rfl, p, CP, dx, _, _, rfl, h1, PC.cl, PC.n_history, rfl, h, dxh, _, rfl, h2, rfl, _, rfl, h, ls, ld, _, _, _, _, q, rfl, A.hist, _, rfl, ?_⟩
    refine ite2 (fun hz => ?_) (fun hz => ?_)
    · have e : doHistory s (.to q) = refused s (-3) := by
        rw [to_eq, first_cons, if_neg hg, first_cons, if_pos hz]
      rw [e] at k
      exact k H F Stp.refl A0
    · have hz' : Vanbkd.upTo q (history s).length = true := not_ff hz
      have hz2 : 0 ≤ q ∧ q ≤ ((history s).length : Int) := by
        unfold Vanbkd.upTo at hz'
        rw [Bool.and_eq_true, decide_eq_true_eq, decide_eq_true_eq] at hz'
        exact hz'
      have e : doHistory s (.to q) = (gone s q.toNat, ⟨ofNat ((q.toNat - s.done.length) + (s.done.length - q.toNat)), []⟩) := by
        rw [to_eq, first_cons, if_neg hg, first_cons, if_neg hz]
        rfl
      rw [e] at k
      refine ⟨_, rfl, p, CP, dx, _, _, rfl, h1, PC.cl, PC.n_history, rfl, h, CH, dxh, _, _, rfl, h2, HC.cl, HC.n_position, rfl, ?_⟩
      refine ⟨_, rfl, p, dx, _, rfl, h1, rfl, _, rfl, p, s, F, q.toNat, (by show [V.ref p, V.int q] = _; rw [show ((q.toNat : Nat) : Int) = q by omega]), A0, G, hgn, (by omega), fun H' F' st A' => ?_⟩
      refine ⟨_, rfl, _, rfl, _, _, rfl, rfl, _, rfl, ?_⟩
      have ee : (if q - (s.done.length : Int) < 0 then -(q - (s.done.length : Int)) else q - (s.done.length : Int)) = ofNat ((q.toNat - s.done.length) + (s.done.length - q.toNat)) := by
        unfold ofNat
        split <;> omega
      rw [ee]
      exact k H' F' st A'
theorem sc_answer_strike : FnScope ["pad", "arguments", "index"] ["pad", "arguments"] (defScope s_answer_strike) := scM
theorem ok_answer_strike (N : Nums mg) (PC : PadC K CP) (HC : HistCls K CH) (M : PMeths P w K mg base CP CH) (F : Top K mg "answer_strike" s_answer_strike) : FnAt P w K mg base "answer_strike" 9 ["pad", "arguments"] (spTrv K CP CH fun c => ∃ q, c = .strike q) := by
  refine F.at_ ub2 fun f fd F => F.ok (k := 8) sc_answer_strike (fun vs H Q E h => ?_) (fun cdv A outer s H vs Q E hr h => ?_)
  · obtain ⟨p, s, F, c, u, rfl, _⟩ := h
    rfl
  · obtain ⟨p, s, F, c, u, rfl, A0, G, hu, ⟨q, rfl⟩, k⟩ := h
    obtain ⟨b, rfl, hb⟩ := args_w hu
    obtain ⟨h, ls, ld, dv, gv, A, hF⟩ := id A0
    obtain ⟨dx, h1⟩ := A.obj
    obtain ⟨dxh, h2⟩ := A.hist.obj
    have SC := sc_answer_strike
    refine ⟨_, (pss_cons (ps_set (i := 2) SC.nd rfl (Or.inl rfl) (pe_ix ix_tup (pv 1) pe_int (fun _ _ => rfl)))
      (pss_cons (ps_if (pt_val (pe_mt0 (pv 0) PC.cl M.has_group (hr.mono (by decide)))) (pss_one (ps_ret (pe_gint rfl N.c_GROUP_IS_OPEN))) pss_nil)
      (pss_cons (ps_if (pt_not (pt_chain op_le op_lt pe_int (pv 2) (pe_fld (pe_fld (pv 0) rfl) rfl))) (pss_one (ps_ret (pe_gint rfl N.c_OUT_OF_RANGE))) pss_nil)
      (pss_cons (ps_if (pt_not (pt_val (pe_mt (pv 0) PC.cl M.strike_step (hr.mono (by decide)) (pa_cons (pv 2) pa_nil)))) (pss_one (ps_ret (pe_gint rfl N.c_NOT_STRUCK))) pss_nil)
      (pss_one (ps_ret pe_int)))))), ?_⟩
    refine ⟨_, rfl, b, _, 0, _, rfl, rfl, hb, rfl, ?_⟩
    refine ⟨_, rfl, p, dx, _, rfl, h1, rfl, p, dx, _, gv, rfl, h1, rfl, _, rfl, ?_⟩
    rw [grp_bl A]
    refine ite2 (fun hg => ?_) (fun hg => ?_)
    · have e : doHistory s (.strike q) = refused s (-11) := by
        rw [strike_eq, first_cons, if_pos hg]
      rw [e] at k
      exact k H F Stp.refl A0
    have hgn := is_none hg
    have out : (!(decide (0 ≤ q) && decide (q < ofNat s.done.length))) = true → Q (.int (-3)) H := fun hz => by
      have e : doHistory s (.strike q) = refused s (-3) := by
        rw [strike_eq, first_cons, if_neg hg, first_cons, if_pos hz]
      rw [e] at k
      exact k H F Stp.refl A0
    refine ⟨_, rfl, _, _, rfl, rfl, _, rfl, ?_⟩
    refine ite2 (fun h0 => ?_) (fun h0 => ?_)
    · refine ⟨_, rfl, p, CP, dx, _, _, rfl, h1, PC.cl, PC.n_history, rfl, h, CH, dxh, _, _, rfl, h2, HC.cl, HC.n_position, rfl, _, _, rfl, rfl, _, rfl, ?_⟩
      refine ite2 (fun hz => ?_) (fun hz => ?_)
      · refine out ?_
        rw [show decide (0 ≤ q) = true from h0, Bool.true_and]
        exact hz
      · have h0' : 0 ≤ q := of_decide_eq_true h0
        have hz' : q < (s.done.length : Int) := of_decide_eq_true (not_ff hz)
        have c2 : ¬ (!(decide (0 ≤ q) && decide (q < ofNat s.done.length))) = true := by
          rw [show decide (0 ≤ q) = true from h0, Bool.true_and]
          exact hz
        refine ⟨_, rfl, p, dx, _, rfl, h1, rfl, _, rfl, p, s, F, q.toNat, (by show [V.ref p, V.int q] = _; rw [show ((q.toNat : Nat) : Int) = q by omega]), A0, G, hgn, (by omega), fun H' F' st hs A' => ⟨_, rfl, iteF ?_⟩, fun H' F' st hs A' => ⟨_, rfl, iteT ?_⟩⟩
        · have e : doHistory s (.strike q) = (struck s q.toNat, ⟨0, []⟩) := by
            rw [strike_eq, first_cons, if_neg hg, first_cons, if_neg c2, first_cons, if_neg (by
              cases z : applyAll s.base (Vanbkd.without s.done q.toNat).flatten with
              | none => rw [z] at hs; cases hs
              | some x => exact Bool.false_ne_true)]
            rfl
          rw [e] at k
          exact k H' F' st A'
        · have e : doHistory s (.strike q) = refused s (-15) := by
            rw [strike_eq, first_cons, if_neg hg, first_cons, if_neg c2, first_cons, if_pos (by
              cases z : applyAll s.base (Vanbkd.without s.done q.toNat).flatten with
              | none => rfl
              | some x => rw [z] at hs; cases hs)]
          rw [e] at k
          exact k H' F' st A'
    · refine ⟨_, rfl, iteT (out ?_)⟩
      rw [show decide (0 ≤ q) = false from not_t h0]
      rfl
def TRAVELS : List Str := ["answer_undo", "answer_redo", "answer_to", "answer_strike"]
def trvC : Call → Nat
  | .undo => 0 | .redo => 1 | .to _ => 2 | .strike _ => 3 | _ => 4
def spTravel (K : PySem.W.Frag) (CP CH : Addr) : Sp := fun vs H Q _ => ∃ (p : Addr) (s : State) (F : List Addr) (c : Call) (u : V), vs = [.ref p, .int (trvC c : Int), u] ∧ trvC c < 4 ∧ PadAt K CP CH H p s F ∧ Good s ∧ Dp K H u (eArgs (whC c) (rowC c)) ∧
  ∀ H' F', Stp F F' H H' → PadAt K CP CH H' p (doHistory s c).1 F' → Q (.int (doHistory s c).2.number) H'
theorem sc_answer_travel : FnScope ["pad", "which", "arguments"] ["pad", "which", "arguments"] (defScope s_answer_travel) := scM
theorem ok_answer_travel (D : Table K mg "TRAVELS" TRAVELS) (F0 : FnAt P w K mg base "answer_undo" 9 ["pad", "arguments"] (spTrv K CP CH fun c => c = .undo)) (F1 : FnAt P w K mg base "answer_redo" 9 ["pad", "arguments"] (spTrv K CP CH fun c => c = .redo))
    (F2 : FnAt P w K mg base "answer_to" 9 ["pad", "arguments"] (spTrv K CP CH fun c => ∃ q, c = .to q)) (F3 : FnAt P w K mg base "answer_strike" 9 ["pad", "arguments"] (spTrv K CP CH fun c => ∃ q, c = .strike q))
    (F : Top K mg "answer_travel" s_answer_travel) : FnAt P w K mg base "answer_travel" 10 ["pad", "which", "arguments"] (spTravel K CP CH) := by
  refine F.at_ ub3 fun f fd F => F.ok (k := 9) sc_answer_travel (fun vs H Q E h => ?_) (fun cdv A outer s H vs Q E hr h => ?_)
  · obtain ⟨p, s, F, c, u, rfl, _⟩ := h
    rfl
  · obtain ⟨p, s, F, c, u, rfl, hj, A0, G, hu, k⟩ := h
    obtain ⟨ra, as, hm, hT, hfs⟩ := D
    refine ⟨_, (pss_one (ps_ret (pe_callV (k := 9) (hr.mono (by decide)) (pe_ix ix_tup (pe_glob (v := V.ref ra) rfl hm rfl) (pv 1) (fun _ _ => rfl)) (pa_cons (pv 0) (pa_cons (pv 2) pa_nil))))), ?_⟩
    have go : ∀ {y : Str} {form : Call → Prop}, FnAt P w K mg base y 9 ["pad", "arguments"] (spTrv K CP CH form) → TRAVELS[trvC c]? = some y → form c → ∃ f ps sp, atI (as.map V.ref) (trvC c : Int) = some (V.ref f) ∧ FnV P w K mg base f 9 ps sp ∧ sp [.ref p, u] H Q E0 := by
      intro y form FA hy hf
      obtain ⟨f, hmf, FV⟩ := FA.toV
      exact ⟨f, _, _, atI_nat (Table.get (K := K) (x := "TRAVELS") (a := f) hfs hy hmf), FV, p, s, F, c, u, rfl, A0, G, hu, hf, k⟩
    have fin : ∃ f ps sp, atI (as.map V.ref) (trvC c : Int) = some (V.ref f) ∧ FnV P w K mg base f 9 ps sp ∧ sp [.ref p, u] H Q E0 := by
      cases c with
      | undo => exact go F0 rfl rfl
      | redo => exact go F1 rfl rfl
      | to q => exact go F2 rfl ⟨_, rfl⟩
      | strike q => exact go F3 rfl ⟨_, rfl⟩
      | _ => exact absurd hj (Nat.lt_irrefl 4)
    obtain ⟨f', ps, sp, h1, h2, h3⟩ := fin
    exact ⟨_, rfl, ra, _, _, _, rfl, rfl, hT H, h1, f', ps, sp, rfl, h2, _, rfl, _, rfl, h3⟩
end
end CP
namespace CP
open PySem PySem.Spec PyProof.Rows L2 CM
open Vanbkd (Doc Cell Text Edit State Call Answer ofNat nats markOf apply applyAll doc history open_ docAt found textOf bytes hasI lengthOf textIn tellText tellDoc tellEdit told)
def iv (l : List Int) : List V := l.map V.int
theorem iv_len (l : List Int) : (iv l).length = l.length := List.length_map ..
theorem iv_app (a b : List Int) : iv a ++ iv b = iv (a ++ b) := (List.map_append ..).symm
def Gives (H : Hp) (Q : VK) (ns : List Int) : Prop := ∀ l H', Same H H' → H l = none → H' l = some (.lst (iv ns)) → Q (.ref l) H'
theorem Gives.same {H H' : Hp} {Q : VK} {ns : List Int} (g : Gives H Q ns) (e : Same H H') : Gives H' Q ns := fun l H2 e2 hl h => g l H2 (e.trans e2) (e.free hl) h
theorem Gives.one {H : Hp} {Q : VK} {n : Int} (g : Gives H Q [n]) : 1 ≤ sizeLine ∧ ∀ l, H l = none → Q (.ref l) (upd H l (.lst [V.int n])) := ⟨by decide, fun l hl => g l _ (Same.upd hl) hl upd_same⟩
def spTellText (K : PySem.W.Frag) : Sp := fun vs H Q _ => ∃ (v : V) (t : List Int), vs = [v] ∧ Dp K H v (eInts t) ∧ t.length ≤ 1000 ∧ Gives H Q ((t.length : Int) :: t)
def spTellDoc (K : PySem.W.Frag) : Sp := fun vs H Q _ => ∃ (v : V) (d : Doc), vs = [v] ∧ Dp K H v (eDoc d) ∧ WF d ∧ Gives H Q (VanbkdNeutral.encode (tellDoc d))
def spTellEdit (K : PySem.W.Frag) : Sp := fun vs H Q _ => ∃ (v : V) (e : Edit), vs = [v] ∧ Dp K H v (eEdit e) ∧ EOk e ∧ Gives H Q (tellEdit e)
def ePair (x : Int × Int) : PyData := .tuple [.int x.1, .int x.2]
def pairsI (l : List (Int × Int)) : List Int := l.flatMap fun x => [x.1, x.2]
def spTellPairs (K : PySem.W.Frag) : Sp := fun vs H Q _ => ∃ (a : Addr) (xs : List V) (l : List (Int × Int)), vs = [.ref a] ∧ H a = some (.lst xs) ∧ DpAll K H xs (l.map ePair) ∧ l.length ≤ 3000 ∧ Gives H Q ((l.length : Int) :: pairsI l)
def textI (d : Doc) (n : Int) : Option Text := (ixF d n).bind fun i => d[i]?.map fun c => c.text
def eOptT : Option Text → PyData
  | none => .none
  | some t => eText t
def spTextIn (K : PySem.W.Frag) : Sp := fun vs H Q _ => ∃ (v : V) (d : Doc) (n : Int), vs = [v, .int n] ∧ Dp K H v (eDoc d) ∧ ∀ u H', Same H H' → Dp K H' u (eOptT (textI d n)) → Q u H'
section
variable {P : Program} {w : World} {K : PySem.W.Frag} {mg : Str → Option Value} {base : Heap} {CP CH : Addr}
theorem sc_tell_text : FnScope ["text"] ["text"] (defScope s_tell_text) := scM
theorem ok_tell_text (T : Txt mg) (F : Top K mg "tell_text" s_tell_text) : FnAt P w K mg base "tell_text" 1 ["text"] (spTellText K) := by
  refine F.at_ ub1 fun f fd F => F.ok (k := 0) sc_tell_text (fun vs H Q E h => ?_) (fun cdv A outer s H vs Q E hr h => ?_)
  · obtain ⟨v, t, rfl, _⟩ := h
    rfl
  · obtain ⟨v, t, rfl, ht, hz, k⟩ := h
    obtain ⟨a, rfl, ha⟩ := ints_iff.mp ht
    have big : (1000 : Nat) < sizeLine := by decide
    refine ⟨_, (pss_one (ps_ret (pe_op op_cat (pe_lst (pa_cons (pe_callB call_len_seq (by rfl) T.b_len PySem.boot_len (pa_cons (pv 0) pa_nil)) pa_nil)) (pe_callTy call_list_of (by rfl) T.b_list boot_list (pa_cons (pv 0) pa_nil))))), ?_⟩
    refine ⟨_, rfl, a, _, rfl, .inr ha, (by show 1 ≤ sizeLine; decide), fun l1 hl1 => ?_⟩
    have s1 := Same.upd (o := .lst [V.int ((t.map V.int).length : Int)]) hl1
    refine ⟨_, rfl, a, _, rfl, .inr (s1.tup ha), fun l2 hl2 => ?_⟩
    have s2 := Same.upd (o := .lst (t.map V.int)) hl2
    refine ⟨l1, l2, _, _, rfl, rfl, s2 _ _ upd_same, upd_same, (by rw [List.length_map]; show 1 + _ ≤ _; omega), fun l3 hl3 => ?_⟩
    have s3 := (s1.trans s2).trans (Same.upd (o := .lst ([V.int ((t.map V.int).length : Int)] ++ t.map V.int)) hl3)
    refine k l3 _ s3 ((s1.trans s2).free hl3) ?_
    rw [upd_same, List.length_map]
    rfl
theorem sc_tell_document : FnScope ["document", "told", "cell"] ["document"] (defScope s_tell_document) := scM
theorem ok_tell_document (T : Txt mg) (C : CellsOk P w K mg base) (F_tell_text : FnAt P w K mg base "tell_text" 1 ["text"] (spTellText K)) (F : Top K mg "tell_document" s_tell_document) : FnAt P w K mg base "tell_document" 2 ["document"] (spTellDoc K) := by
  refine F.at_ ub1 fun f fd F => F.ok (k := 1) sc_tell_document (fun vs H Q E h => ?_) (fun cdv A outer s H vs Q E hr h => ?_)
  · obtain ⟨v, d, rfl, _⟩ := h
    rfl
  · obtain ⟨v, d, rfl, hd, W, k⟩ := h
    obtain ⟨ad, ds, rfl, hds, hdc⟩ := doc_iff.mp hd
    have ld : ds.length = d.length := by rw [DpAll.length hdc, List.length_map]
    have F_text_of := C.text_of
    have F_number_of := C.number_of
    have F_mark_of := C.mark_of
    have SC := sc_tell_document
    have big : (10000 : Nat) < sizeLine := by decide
    have tl : (VanbkdNeutral.encode (tellDoc d)).length ≤ 5000 := tell_len W
    let f : Cell → List Int := fun c => ofNat c.number :: markOf c.hidden :: tellText c.text
    have pre : ∀ i, (ofNat d.length :: (d.take i).flatMap f).length ≤ 5000 := fun i => by
      refine Nat.le_trans ?_ tl
      show _ ≤ (ofNat d.length :: d.flatMap f).length
      rw [List.length_cons, List.length_cons]
      conv => rhs; rw [← List.take_append_drop i d, List.flatMap_append, List.length_append]
      omega
    refine ⟨_, (pss_cons (ps_set (i := 1) SC.nd rfl (Or.inl rfl) (pe_lst (pa_cons (pe_callB call_len_seq (by rfl) T.b_len PySem.boot_len (pa_cons (pv 0) pa_nil)) pa_nil)))
      (pss_cons (ps_for PassesOwn.never rfl (pi_tup (pv 0)) (pg_name (i := 2) SC.nd rfl (Or.inl rfl)) (pss_cons (ps_expr (pe_bm PySem.F.plainAttrs_list PySem.F.slot_list_extend PySem.F.type_list_extend mt_extend (pv 1) (pa_cons (pe_lst (pa_cons (pe_fn F_number_of (hr.mono (by decide)) rfl (pa_cons (pv 2) pa_nil)) (pa_cons (pe_fn F_mark_of (hr.mono (by decide)) rfl (pa_cons (pv 2) pa_nil)) pa_nil))) pa_nil)))
      (pss_one (ps_expr (pe_bm PySem.F.plainAttrs_list PySem.F.slot_list_extend PySem.F.type_list_extend mt_extend (pv 1) (pa_cons (pe_fn F_tell_text (hr.mono (by decide)) rfl (pa_cons (pe_fn F_text_of (hr.mono (by decide)) rfl (pa_cons (pv 2) pa_nil)) pa_nil)) pa_nil))))))
      (pss_one (ps_ret (pv 1))))), ?_⟩
    refine ⟨_, rfl, ad, _, rfl, .inr hds, (by show 1 ≤ sizeLine; decide), fun t ht => ?_⟩
    have s1 := Same.upd (o := .lst [V.int (ds.length : Int)]) ht
    refine ⟨_, rfl, ad, rfl, ⟨_, s1.tup hds⟩, for_tup (K := K) (a := ad) (xs := ds) (fun i σ H' => ∃ v2 : Option V, σ = [some (.ref ad), some (.ref t), v2] ∧ Same H H' ∧ H' t = some (.lst (iv (ofNat d.length :: (d.take i).flatMap f))))
      ⟨none, rfl, s1, by rw [upd_same, ld]; rfl⟩ (fun i σ H' _ ⟨_, _, e, _⟩ => e.tup hds) ?_ ?_⟩
    · rintro i z σ H' hi ⟨v2, rfl, e, ht'⟩
      obtain ⟨c, hc, hcell⟩ := cell_at hdc hi
      have hct := W.txt c (List.mem_of_getElem? hc)
      have hc1 := Dp.same e (tupd_cell c) hcell
      refine ⟨_, rfl, .inl ⟨rfl, _, SqL.of ht'⟩, _, rfl, z, c, rfl, hc1, _, rfl, z, c, rfl, hc1, (by show 2 ≤ sizeLine; decide), fun q hq => ?_⟩
      have s2 := Same.upd (o := .lst [V.int (ofNat c.number), V.int (markOf c.hidden)]) hq
      have p1 := pre i
      refine ⟨t, q, _, _, rfl, rfl, s2 _ _ ht', upd_same, (by rw [iv_len]; show _ + 2 ≤ _; omega), ?_⟩
      have qt : q ≠ t := fun z => by rw [z, ht'] at hq; cases hq
      have s3 : Same H (upd (upd H' q (.lst [V.int (ofNat c.number), V.int (markOf c.hidden)])) t (.lst (iv (ofNat d.length :: (d.take i).flatMap f) ++ [V.int (ofNat c.number), V.int (markOf c.hidden)]))) := fun b o hb => by
        rw [upd_ne (ne_of_none hb ht)]
        exact s2 _ _ (e _ _ hb)
      refine ⟨_, rfl, .inl ⟨rfl, _, SqL.of upd_same⟩, _, rfl, z, c, rfl, Dp.same s3 (tupd_cell c) hcell, fun tv htv => ⟨tv, nats c.text, rfl, htv, (by simp [nats]; omega), fun l H4 e4 hl4 h4 => ?_⟩⟩
      have tne : t ≠ l := fun z => by rw [← z, upd_same] at hl4; cases hl4
      refine ⟨t, l, _, _, rfl, rfl, e4 _ _ upd_same, h4, ?_, ?_⟩
      · rw [List.length_append, iv_len, iv_len]
        show _ + 2 + ((nats c.text).length + 1) ≤ _
        have : (nats c.text).length = c.text.length := by simp [nats]
        omega
      · refine ⟨some z, rfl, fun b o hb => ?_, ?_⟩
        · rw [upd_ne (ne_of_none hb ht)]
          exact e4 _ _ (s3 _ _ hb)
        · rw [upd_same, List.take_add_one, hc, show [V.int (ofNat c.number), V.int (markOf c.hidden)] = iv [ofNat c.number, markOf c.hidden] from rfl, iv_app, iv_app]
          congr 3
          rw [Option.toList_some, List.flatMap_append, List.flatMap_cons, List.flatMap_nil, List.append_nil, List.append_assoc, List.cons_append]
          congr 2
          show ofNat c.number :: markOf c.hidden :: (((nats c.text).length : Int) :: nats c.text) = ofNat c.number :: markOf c.hidden :: (ofNat c.text.length :: nats c.text)
          rw [show (nats c.text).length = c.text.length by simp [nats]]
          rfl
    · rintro σ H' ⟨v2, rfl, e, ht'⟩
      rw [ld, List.take_length] at ht'
      exact ⟨_, rfl, k t H' e ht ht'⟩
def partsE : Edit → List (Int ⊕ Text)
  | .make n a t => [.inl 0, .inl (ofNat n), .inl (ofNat a), .inr t]
  | .write n t => [.inl 1, .inl (ofNat n), .inr t]
  | .move n a => [.inl 2, .inl (ofNat n), .inl (ofNat a)]
  | .drop n => [.inl 3, .inl (ofNat n)]
  | .hide n h => [.inl 4, .inl (ofNat n), .inl (markOf h)]
  | .split n p m => [.inl 5, .inl (ofNat n), .inl (ofNat p), .inl (ofNat m)]
  | .join n => [.inl 6, .inl (ofNat n)]
  | .swap a b => [.inl 7, .inl (ofNat a), .inl (ofNat b)]
  | .replace x y => [.inl 8, .inr x, .inr y]
def encP : Int ⊕ Text → PyData
  | .inl i => .int i
  | .inr t => eText t
def telP : Int ⊕ Text → List Int
  | .inl i => [i]
  | .inr t => tellText t
theorem parts_enc (e : Edit) : eEdit e = .tuple ((partsE e).map encP) := by cases e <;> rfl
theorem parts_tel (e : Edit) : tellEdit e = (partsE e).flatMap telP := by cases e <;> simp [tellEdit, partsE, telP]
theorem parts_len (e : Edit) : (partsE e).length ≤ 4 := by cases e <;> simp [partsE]
theorem parts_ok {e : Edit} (E : EOk e) : ∀ x ∈ partsE e, ∀ t, x = .inr t → t.length ≤ 200 := by
  cases e <;> simp [partsE] <;> first | exact E | exact ⟨E.2.1, E.2.2⟩
theorem sc_tell_edit : FnScope ["edit", "told", "part"] ["edit"] (defScope s_tell_edit) := scM
theorem ok_tell_edit (T : Txt mg) (F_tell_text : FnAt P w K mg base "tell_text" 1 ["text"] (spTellText K)) (F : Top K mg "tell_edit" s_tell_edit) : FnAt P w K mg base "tell_edit" 2 ["edit"] (spTellEdit K) := by
  refine F.at_ ub1 fun f fd F => F.ok (k := 1) sc_tell_edit (fun vs H Q E h => ?_) (fun cdv A outer s H vs Q E hr h => ?_)
  · obtain ⟨v, e, rfl, _⟩ := h
    rfl
  · obtain ⟨v, ed, rfl, he, hE, k⟩ := h
    rw [parts_enc] at he
    rw [parts_tel] at k
    have pl := parts_len ed
    have po := parts_ok hE
    generalize partsE ed = ps at he k pl po
    obtain ⟨b, xs, rfl, hb, hxs⟩ := dp_tup.mp he
    have lx : xs.length = ps.length := by rw [DpAll.length hxs, List.length_map]
    have SC := sc_tell_edit
    have big : (10000 : Nat) < sizeLine := by decide
    have plen : ∀ i, ((ps.take i).flatMap telP).length ≤ 804 := fun i => by
      have h1 : ((ps.take i).flatMap telP).length ≤ (ps.take i).length * 201 := flatMap_len fun x hx => by
        cases x with
        | inl j => simp [telP]
        | inr t =>
          have := po _ (List.mem_of_mem_take hx) t rfl
          simp [telP, tellText, nats]
          omega
      have : (ps.take i).length ≤ 4 := by rw [List.length_take]; omega
      omega
    refine ⟨_, (pss_cons (ps_set (i := 1) SC.nd rfl (Or.inl rfl) (pe_lst pa_nil))
      (pss_cons (ps_for PassesOwn.never rfl (pi_tup (pv 0)) (pg_name (i := 2) SC.nd rfl (Or.inl rfl)) (pss_one (ps_if (pt_val (pe_callB call_isinst (by rfl) T.b_isinstance boot_isinstance (pa_cons (pv 2) (pa_cons (pe_glty rfl T.b_tuple boot_tuple) pa_nil)))) (pss_one (ps_expr (pe_bm PySem.F.plainAttrs_list PySem.F.slot_list_extend PySem.F.type_list_extend mt_extend (pv 1) (pa_cons (pe_fn F_tell_text (hr.mono (by decide)) rfl (pa_cons (pv 2) pa_nil)) pa_nil)))) (pss_one (ps_expr (pe_bm PySem.F.plainAttrs_list PySem.F.slot_list_append PySem.F.type_list_append mt_append (pv 1) (pa_cons (pv 2) pa_nil)))))))
      (pss_one (ps_ret (pv 1))))), ?_⟩
    refine ⟨Nat.zero_le _, fun t ht => ?_⟩
    have s1 := Same.upd (o := .lst []) ht
    refine ⟨_, rfl, b, rfl, ⟨_, s1.tup hb⟩, for_tup (K := K) (a := b) (xs := xs) (fun i σ H' => ∃ v2 : Option V, σ = [some (.ref b), some (.ref t), v2] ∧ Same H H' ∧ H' t = some (.lst (iv ((ps.take i).flatMap telP))))
      ⟨none, rfl, s1, by rw [upd_same]; rfl⟩ (fun i σ H' _ ⟨_, _, e, _⟩ => e.tup hb) ?_ ?_⟩
    · rintro i z σ H' hi ⟨v2, rfl, e, ht'⟩
      obtain ⟨dd, hdd, hz⟩ := DpAll.getV hxs hi
      rw [List.getElem?_map] at hdd
      have p1 := plen i
      have p2 := plen (i + 1)
      cases q : ps[i]? with
      | none => rw [q] at hdd; cases hdd
      | some x =>
        rw [q] at hdd
        have hx : encP x = dd := Option.some.inj hdd
        subst hx
        have tk : (ps.take (i + 1)).flatMap telP = (ps.take i).flatMap telP ++ telP x := by
          rw [List.take_add_one, q, Option.toList_some, List.flatMap_append, List.flatMap_cons, List.flatMap_nil, List.append_nil]
        cases x with
        | inl j =>
          cases dp_int.mp hz
          refine ⟨_, rfl, .inr ⟨j, rfl, _, rfl, iteF ?_⟩⟩
          refine ⟨_, rfl, .inl ⟨rfl, _, SqL.of ht'⟩, _, rfl, t, _, _, rfl, rfl, ht', (by rw [iv_len]; omega), some (V.int j), rfl, fun c o hc => ?_, ?_⟩
          · rw [upd_ne (ne_of_none hc ht)]
            exact e _ _ hc
          · rw [upd_same, tk, ← iv_app]
            rfl
        | inr x =>
          obtain ⟨xa, rfl, hxa⟩ := textN.mp hz
          have hxl := po _ (List.mem_of_getElem? q) x rfl
          refine ⟨_, rfl, .inl ⟨xa, _, rfl, e.tup hxa, _, rfl, iteT ?_⟩⟩
          refine ⟨_, rfl, .inl ⟨rfl, _, SqL.of ht'⟩, _, rfl, _, nats x, rfl, Dp.same e (tupd_text x) hz, (by simp [nats]; omega), fun l H4 e4 hl4 h4 => ?_⟩
          refine ⟨t, l, _, _, rfl, rfl, e4 _ _ ht', h4, ?_, some (V.ref xa), rfl, fun c o hc => ?_, ?_⟩
          · rw [iv_len, iv_len]
            show _ + ((nats x).length + 1) ≤ _
            have : (nats x).length = x.length := by simp [nats]
            omega
          · rw [upd_ne (ne_of_none hc ht)]
            exact e4 _ _ (e _ _ hc)
          · rw [upd_same, tk, iv_app]
            show _ = some (HO.lst (iv (_ ++ (ofNat x.length :: nats x))))
            rw [show (nats x).length = x.length by simp [nats]]
            rfl
    · rintro σ H' ⟨v2, rfl, e, ht'⟩
      rw [lx, List.take_length] at ht'
      exact ⟨_, rfl, k t H' e ht ht'⟩
theorem sc_tell_pairs : FnScope ["pairs", "told", "pair"] ["pairs"] (defScope s_tell_pairs) := scM
theorem tupds_pairs : ∀ l : List (Int × Int), tupds (l.map ePair) = true
  | [] => by simp [tupds]
  | x :: r => by simp [tupds, tupds_pairs r, ePair, tupd]
theorem ok_tell_pairs (T : Txt mg) (F : Top K mg "tell_pairs" s_tell_pairs) : FnAt P w K mg base "tell_pairs" 1 ["pairs"] (spTellPairs K) := by
  refine F.at_ ub1 fun f fd F => F.ok (k := 0) sc_tell_pairs (fun vs H Q E h => ?_) (fun cdv A outer s H vs Q E hr h => ?_)
  · obtain ⟨a, xs, l, rfl, _⟩ := h
    rfl
  · obtain ⟨a, xs, l, rfl, ha, hxs, hz, k⟩ := h
    have lx : xs.length = l.length := by rw [DpAll.length hxs, List.length_map]
    have SC := sc_tell_pairs
    have big : (10000 : Nat) < sizeLine := by decide
    have plen : ∀ i, (pairsI (l.take i)).length ≤ 6000 := fun i => by
      have h1 : (pairsI (l.take i)).length ≤ (l.take i).length * 2 := flatMap_len fun x hx => Nat.le_refl _
      have : (l.take i).length ≤ 3000 := by rw [List.length_take]; omega
      omega
    refine ⟨_, (pss_cons (ps_set (i := 1) SC.nd rfl (Or.inl rfl) (pe_lst (pa_cons (pe_callB call_len_seq (by rfl) T.b_len PySem.boot_len (pa_cons (pv 0) pa_nil)) pa_nil)))
      (pss_cons (ps_for PassesOwn.never rfl (pi_list (pv 0)) (pg_name (i := 2) SC.nd rfl (Or.inl rfl)) (pss_one (ps_expr (pe_bm PySem.F.plainAttrs_list PySem.F.slot_list_extend PySem.F.type_list_extend mt_extendT (pv 1) (pa_cons (pv 2) pa_nil)))))
      (pss_one (ps_ret (pv 1))))), ?_⟩
    refine ⟨_, rfl, a, _, rfl, .inl (SqL.of ha), (by show 1 ≤ sizeLine; decide), fun t ht => ?_⟩
    have s1 := Same.upd (o := .lst [V.int (xs.length : Int)]) ht
    refine ⟨_, rfl, a, rfl, ⟨_, SqL.of (s1 _ _ ha)⟩, for_list (K := K) (a := a) (xs := xs) (fun i σ H' => ∃ v2 : Option V, σ = [some (.ref a), some (.ref t), v2] ∧ Same H H' ∧ H' t = some (.lst (iv ((l.length : Int) :: pairsI (l.take i)))))
      ⟨none, rfl, s1, by rw [upd_same, lx]; rfl⟩ (fun i σ H' _ ⟨_, _, e, _⟩ => SqL.of (e _ _ ha)) ?_ ?_⟩
    · rintro i z σ H' hi ⟨v2, rfl, e, ht'⟩
      obtain ⟨dd, hdd, hzd⟩ := DpAll.getV hxs hi
      rw [List.getElem?_map] at hdd
      have p1 := plen i
      cases q : l[i]? with
      | none => rw [q] at hdd; cases hdd
      | some x =>
        rw [q] at hdd
        have hx : ePair x = dd := Option.some.inj hdd
        subst hx
        obtain ⟨pa, ys, rfl, hpa, hys⟩ := dp_tup.mp hzd
        simp only [dpa_cons, dpa_nil, dp_int] at hys
        obtain ⟨_, _, rfl, rfl, _, _, rfl, rfl, rfl⟩ := hys
        refine ⟨_, rfl, .inl ⟨rfl, _, SqL.of ht'⟩, _, rfl, t, pa, _, _, rfl, rfl, ht', e.tup hpa, (by rw [iv_len]; show (_ + 1) + 2 ≤ _; omega), some (V.ref pa), rfl, fun c o hc => ?_, ?_⟩
        · rw [upd_ne (ne_of_none hc ht)]
          exact e _ _ hc
        · rw [upd_same, show [V.int x.1, V.int x.2] = iv [x.1, x.2] from rfl, iv_app, List.take_add_one, q]
          unfold pairsI
          rw [Option.toList_some, List.flatMap_append, List.flatMap_cons, List.flatMap_nil, List.append_nil]
          rfl
    · rintro σ H' ⟨v2, rfl, e, ht'⟩
      rw [lx, List.take_length] at ht'
      exact ⟨_, rfl, k t H' e ht ht'⟩
theorem sc_text_in : FnScope ["document", "number", "index"] ["document", "number"] (defScope s_text_in) := scM
theorem ok_text_in (C : CellsOk P w K mg base) (F : Top K mg "text_in" s_text_in) : FnAt P w K mg base "text_in" 3 ["document", "number"] (spTextIn K) := by
  refine F.at_ ub2 fun f fd F => F.ok (k := 2) sc_text_in (fun vs H Q E h => ?_) (fun cdv A outer s H vs Q E hr h => ?_)
  · obtain ⟨v, d, n, rfl, _⟩ := h
    rfl
  · obtain ⟨v, d, n, rfl, hd, k⟩ := h
    obtain ⟨ad, ds, rfl, hds, hdc⟩ := doc_iff.mp hd
    have F_text_of := C.text_of
    have F_index_of := C.index_of
    have SC := sc_text_in
    refine ⟨_, (pss_cons (ps_set (i := 2) SC.nd rfl (Or.inl rfl) (pe_fn F_index_of (hr.mono (by decide)) rfl (pa_cons (pv 0) (pa_cons (pv 1) pa_nil))))
      (pss_cons (ps_if (pt_cmpR op_lt (pv 2) pe_int (nomark _)) (pss_one (ps_ret pe_non)) pss_nil)
      (pss_one (ps_ret (pe_fn F_text_of (hr.mono (by decide)) rfl (pa_cons (pe_ix ix_tup (pv 0) (pv 2) (fun _ _ => rfl)) pa_nil)))))), ?_⟩
    refine ⟨_, rfl, _, rfl, _, d, n, rfl, hd, fun H1 e1 => ⟨_, rfl, _, _, rfl, rfl, _, rfl, ?_⟩⟩
    unfold textI at k
    cases q : ixF d n with
    | none =>
      rw [ixI_none q]
      rw [q] at k
      exact k .non H1 e1 .non
    | some i =>
      rw [ixI_some q]
      rw [q] at k
      obtain ⟨c, hc, hcn⟩ := ixF_at q
      obtain ⟨x, hx, hxc⟩ := at_ix (n := 0) hdc hc
      refine ite2 (fun z => absurd (of_decide_eq_true z) (by omega)) (fun _ => ?_)
      refine ⟨_, rfl, _, rfl, ad, _, _, _, rfl, rfl, e1.tup hds, atI_nat hx, x, c, rfl, Dp.same e1 (tupd_cell c) hxc, fun tv htv => ?_⟩
      refine k tv H1 e1 ?_
      show Dp K H1 tv (eOptT (d[i]?.map fun c => c.text))
      rw [hc]
      exact htv
end
end CP
namespace CP
open PySem PySem.Spec PyProof.Rows L2 CM
open Vanbkd (Doc Cell Text Edit State Call Answer ofNat nats markOf apply applyAll doc history open_ docAt found textOf bytes hasI lengthOf textIn tellText tellDoc tellEdit told)
def spTel (K : PySem.W.Frag) (CP CH : Addr) (form : Call → Prop) : Sp := fun vs H Q _ => ∃ (p : Addr) (s : State) (F : List Addr) (c : Call) (u : V), vs = [.ref p, u] ∧ PadAt K CP CH H p s F ∧ Good s ∧ Dp K H u (eArgs (whC c) (rowC c)) ∧ (∀ r ∈ rowC c, r.length ≤ 400) ∧ form c ∧
  Gives H Q (VanbkdNeutral.encode (told s c))
structure TellOk (P : Program) (w : World) (K : PySem.W.Frag) (mg : Str → Option Value) (base : Heap) : Prop where
  tell_text : FnAt P w K mg base "tell_text" 1 ["text"] (spTellText K)
  tell_document : FnAt P w K mg base "tell_document" 2 ["document"] (spTellDoc K)
  tell_edit : FnAt P w K mg base "tell_edit" 2 ["edit"] (spTellEdit K)
  tell_pairs : FnAt P w K mg base "tell_pairs" 1 ["pairs"] (spTellPairs K)
  text_in : FnAt P w K mg base "text_in" 3 ["document", "number"] (spTextIn K)
section
variable {P : Program} {w : World} {K : PySem.W.Frag} {mg : Str → Option Value} {base : Heap} {CP CH : Addr}
theorem sc_answer_whole : FnScope ["pad", "arguments"] ["pad", "arguments"] (defScope s_answer_whole) := scM
theorem ok_answer_whole (PC : PadC K CP) (O : TellOk P w K mg base) (F : Top K mg "answer_whole" s_answer_whole) : FnAt P w K mg base "answer_whole" 5 ["pad", "arguments"] (spTel K CP CH fun c => c = .whole) := by
  refine F.at_ ub2 fun f fd F => F.ok (k := 4) sc_answer_whole (fun vs H Q E h => ?_) (fun cdv A outer s H vs Q E hr h => ?_)
  · obtain ⟨p, s, F, c, u, rfl, _⟩ := h
    rfl
  · obtain ⟨p, s, F, c, u, rfl, A0, G, hu, hl, rfl, k⟩ := h
    obtain ⟨h, ls, ld, dv, gv, A, hF⟩ := id A0
    obtain ⟨dx, h1⟩ := A.obj
    have F_tell_document := O.tell_document
    refine ⟨_, (pss_one (ps_ret (pe_fn F_tell_document (hr.mono (by decide)) rfl (pa_cons (pe_fld (pv 0) rfl) pa_nil)))), ?_⟩
    exact ⟨_, rfl, p, CP, dx, _, _, rfl, h1, PC.cl, PC.n_document, rfl, dv, doc s, rfl, A.dc, G.doc.2.wf, k⟩
theorem sc_answer_text : FnScope ["pad", "arguments", "text"] ["pad", "arguments"] (defScope s_answer_text) := scM
theorem ok_answer_text (N : Nums mg) (PC : PadC K CP) (O : TellOk P w K mg base) (F : Top K mg "answer_text" s_answer_text) : FnAt P w K mg base "answer_text" 5 ["pad", "arguments"] (spTel K CP CH fun c => ∃ n, c = .text n) := by
  refine F.at_ ub2 fun f fd F => F.ok (k := 4) sc_answer_text (fun vs H Q E h => ?_) (fun cdv A outer s H vs Q E hr h => ?_)
  · obtain ⟨p, s, F, c, u, rfl, _⟩ := h
    rfl
  · obtain ⟨p, s, F, c, u, rfl, A0, G, hu, hl, ⟨n, rfl⟩, k⟩ := h
    obtain ⟨b, rfl, hb⟩ := args_w hu
    obtain ⟨h, ls, ld, dv, gv, A, hF⟩ := id A0
    obtain ⟨dx, h1⟩ := A.obj
    have F_text_in := O.text_in
    have F_tell_text := O.tell_text
    have SC := sc_answer_text
    refine ⟨_, (pss_cons (ps_set (i := 2) SC.nd rfl (Or.inl rfl) (pe_fn F_text_in (hr.mono (by decide)) rfl (pa_cons (pe_fld (pv 0) rfl) (pa_cons (pe_ix ix_tup (pv 1) pe_int (fun _ _ => rfl)) pa_nil))))
      (pss_cons (ps_if (pt_cmpR op_isN (pv 2) pe_non (nomark _)) (pss_one (ps_ret (pe_lst (pa_cons (pe_gint rfl N.c_NO_CELL) pa_nil)))) pss_nil)
      (pss_one (ps_ret (pe_fn F_tell_text (hr.mono (by decide)) rfl (pa_cons (pv 2) pa_nil)))))), ?_⟩
    refine ⟨_, rfl, p, CP, dx, _, _, rfl, h1, PC.cl, PC.n_document, rfl, _, rfl, b, _, 0, _, rfl, rfl, hb, rfl, dv, doc s, n, rfl, A.dc, fun tv H1 e1 htv => ⟨_, rfl, rfl, _, rfl, ?_⟩⟩
    have k : Gives H Q (VanbkdNeutral.encode (if hasI (doc s) n = true then ⟨ofNat (lengthOf (doc s) n), nats ((textIn (doc s) n.toNat).getD [])⟩ else ⟨-1, []⟩)) := k
    unfold textI at htv
    cases q : ixF (doc s) n with
    | none =>
      rw [q] at htv
      rw [if_neg (by rw [hasI_f q]; exact Bool.false_ne_true)] at k
      obtain rfl := dp_none.mp htv
      exact iteT (k.same e1).one
    | some i =>
      obtain ⟨c, hc, hcn⟩ := ixF_at q
      rw [q] at htv
      have htv : Dp K H1 tv (eOptT ((doc s)[i]?.map fun c => c.text)) := htv
      rw [hc] at htv
      have htv : Dp K H1 tv (eText c.text) := htv
      rw [if_pos (hasI_t q), lengthOf_at q hc, textIn_at q hc] at k
      obtain ⟨ta, rfl, hta⟩ := textN.mp htv
      rw [decide_eq_false (show ¬ (V.ref ta = V.non) from fun z => nomatch z)]
      have hct := G.doc.2.wf.txt c (List.mem_of_getElem? hc)
      refine iteF ⟨_, rfl, _, nats c.text, rfl, htv, (by simp [nats]; omega), ?_⟩
      have e : (((nats c.text).length : Int) :: nats c.text) = VanbkdNeutral.encode ⟨ofNat c.text.length, nats ((some c.text).getD [])⟩ := by
        show _ = ofNat c.text.length :: nats c.text
        rw [show (nats c.text).length = c.text.length by simp [nats]]
        rfl
      rw [e]
      exact k.same e1
theorem sc_answer_at : FnScope ["pad", "arguments"] ["pad", "arguments"] (defScope s_answer_at) := scM
theorem ok_answer_at (N : Nums mg) (PC : PadC K CP) (HC : HistCls K CH) (M : PMeths P w K mg base CP CH) (O : TellOk P w K mg base) (F : Top K mg "answer_at" s_answer_at) : FnAt P w K mg base "answer_at" 5 ["pad", "arguments"] (spTel K CP CH fun c => ∃ q, c = .at_ q) := by
  refine F.at_ ub2 fun f fd F => F.ok (k := 4) sc_answer_at (fun vs H Q E h => ?_) (fun cdv A outer s H vs Q E hr h => ?_)
  · obtain ⟨p, s, F, c, u, rfl, _⟩ := h
    rfl
  · obtain ⟨p, s, F, c, u, rfl, A0, G, hu, hl, ⟨q, rfl⟩, k⟩ := h
    obtain ⟨b, rfl, hb⟩ := args_w hu
    obtain ⟨h, ls, ld, dv, gv, A, hF⟩ := id A0
    obtain ⟨dx, h1⟩ := A.obj
    obtain ⟨dxh, h2⟩ := A.hist.obj
    obtain ⟨dvs, h4, h5⟩ := A.hist.docs
    have F_tell_document := O.tell_document
    have k : Gives H Q (VanbkdNeutral.encode (if Vanbkd.upTo q (history s).length = true then tellDoc (docAt s q.toNat) else ⟨-3, []⟩)) := k
    refine ⟨_, (pss_cons (ps_if (pt_not (pt_val (pe_mt (pe_fld (pv 0) rfl) HC.cl M.has_position (hr.mono (by decide)) (pa_cons (pe_ix ix_tup (pv 1) pe_int (fun _ _ => rfl)) pa_nil)))) (pss_one (ps_ret (pe_lst (pa_cons (pe_gint rfl N.c_OUT_OF_RANGE) pa_nil)))) pss_nil)
      (pss_one (ps_ret (pe_fn F_tell_document (hr.mono (by decide)) rfl (pa_cons (pe_ix ix_list (pe_fld (pe_fld (pv 0) rfl) rfl) (pe_ix ix_tup (pv 1) pe_int (fun _ _ => rfl)) (fun _ _ => rfl)) pa_nil))))), ?_⟩
    refine ⟨_, rfl, p, CP, dx, _, _, rfl, h1, PC.cl, PC.n_history, rfl, h, dxh, _, rfl, h2, rfl, _, rfl, b, _, 0, _, rfl, rfl, hb, rfl, h, ls, ld, _, _, _, _, q, rfl, A.hist, _, rfl, ?_⟩
    refine ite2 (fun hz => ?_) (fun hz => ?_)
    · rw [if_neg (by rw [not_tt hz]; exact Bool.false_ne_true)] at k
      exact k.one
    · have hz' : Vanbkd.upTo q (history s).length = true := not_ff hz
      have hz2 : 0 ≤ q ∧ q ≤ ((history s).length : Int) := by
        unfold Vanbkd.upTo at hz'
        rw [Bool.and_eq_true, decide_eq_true_eq, decide_eq_true_eq] at hz'
        exact hz'
      rw [if_pos hz'] at k
      obtain ⟨v, hv, hvd⟩ := DpAll.get h5 (i := q.toNat) (d := eDoc (docAt s q.toNat)) (by rw [List.getElem?_map, docsOf_at (by omega)]; rfl)
      exact ⟨_, rfl, p, CP, dx, _, _, rfl, h1, PC.cl, PC.n_history, rfl, h, CH, dxh, _, _, rfl, h2, HC.cl, HC.n_documents, rfl, _, rfl, b, _, 0, _, rfl, rfl, hb, rfl, ld, dvs, q, v, rfl, rfl, SqL.of h4, at_of (j := q.toNat) (by omega) hv, v, _, rfl, hvd, (G.at_ _).2.wf, k⟩
theorem sc_answer_state : FnScope ["pad", "arguments", "history", "group"] ["pad", "arguments"] (defScope s_answer_state) := scM
theorem ok_answer_state (T : Txt mg) (PC : PadC K CP) (HC : HistCls K CH) (M : PMeths P w K mg base CP CH) (F : Top K mg "answer_state" s_answer_state) : FnAt P w K mg base "answer_state" 5 ["pad", "arguments"] (spTel K CP CH fun c => c = .state) := by
  refine F.at_ ub2 fun f fd F => F.ok (k := 4) sc_answer_state (fun vs H Q E h => ?_) (fun cdv A outer s H vs Q E hr h => ?_)
  · obtain ⟨p, s, F, c, u, rfl, _⟩ := h
    rfl
  · obtain ⟨p, s, F, c, u, rfl, A0, G, hu, hl, rfl, k⟩ := h
    obtain ⟨h, ls, ld, dv, gv, A, hF⟩ := id A0
    obtain ⟨dx, h1⟩ := A.obj
    obtain ⟨dxh, h2⟩ := A.hist.obj
    obtain ⟨sv, h3, h3'⟩ := A.hist.steps
    have lS : sv.length = (history s).length := by rw [DpAll.length h3', List.length_map]
    have SC := sc_answer_state
    have k : Gives H Q [ofNat s.done.length, ofNat (history s).length, markOf s.group.isSome, ofNat (open_ s).length, ofNat s.next, ofNat s.forgotten] := k
    refine ⟨_, (pss_cons (ps_set (i := 2) SC.nd rfl (Or.inl rfl) (pe_fld (pv 0) rfl))
      (pss_cons (ps_set (i := 3) SC.nd rfl (Or.inl rfl) (pe_lst (pa_cons pe_int (pa_cons pe_int pa_nil))))
      (pss_cons (ps_if (pt_val (pe_mt0 (pv 0) PC.cl M.has_group (hr.mono (by decide)))) (pss_one (ps_set (i := 3) SC.nd rfl (Or.inl rfl) (pe_lst (pa_cons pe_int (pa_cons (pe_callB call_len_seq (by rfl) T.b_len PySem.boot_len (pa_cons (pe_fld (pv 0) rfl) pa_nil)) pa_nil))))) pss_nil)
      (pss_one (ps_ret (pe_op op_cat (pe_op op_cat (pe_lst (pa_cons (pe_fld (pv 2) rfl) (pa_cons (pe_callB call_len_seq (by rfl) T.b_len PySem.boot_len (pa_cons (pe_fld (pv 2) rfl) pa_nil)) pa_nil))) (pv 3)) (pe_lst (pa_cons (pe_fld (pv 0) rfl) (pa_cons (pe_fld (pv 2) rfl) pa_nil))))))))), ?_⟩
    refine ⟨_, rfl, p, CP, dx, _, _, rfl, h1, PC.cl, PC.n_history, rfl, (by show 2 ≤ sizeLine; decide), fun g hg => ?_⟩
    have s1 := Same.upd (o := .lst [V.int 0, V.int 0]) hg
    refine ⟨_, rfl, p, dx, _, rfl, s1 _ _ h1, rfl, p, dx, _, gv, rfl, s1 _ _ h1, rfl, _, rfl, ?_⟩
    rw [grp_bl A]
    have gr := A.grp
    cases q : s.group with
    | none =>
      rw [show (open_ s).length = 0 by unfold Vanbkd.open_; rw [q]; rfl, q] at k
      refine iteF ?_
      refine ⟨_, rfl, h, CH, dxh, _, _, rfl, s1 _ _ h2, HC.cl, HC.n_position, rfl, _, rfl, h, CH, dxh, _, _, rfl, s1 _ _ h2, HC.cl, HC.n_steps, rfl, ls, _, rfl, .inl (SqL.of (s1 _ _ h3)), (by show 2 ≤ sizeLine; decide), fun a1 ha1 => ?_⟩
      rw [lS]
      have s2 := Same.upd (o := .lst [V.int (s.done.length : Int), V.int ((history s).length : Int)]) ha1
      refine ⟨_, rfl, a1, g, _, _, rfl, rfl, upd_same, s2 _ _ upd_same, (by show 4 ≤ sizeLine; decide), fun a2 ha2 => ?_⟩
      have s3 := Same.upd (o := .lst ([V.int (s.done.length : Int), V.int ((history s).length : Int)] ++ [V.int 0, V.int 0])) ha2
      have s13 := (s1.trans s2).trans s3
      refine ⟨_, rfl, p, CP, dx, _, _, rfl, s13 _ _ h1, PC.cl, PC.n_next_number, rfl, _, rfl, h, CH, dxh, _, _, rfl, s13 _ _ h2, HC.cl, HC.n_forgotten, rfl, (by show 2 ≤ sizeLine; decide), fun a3 ha3 => ?_⟩
      have s4 := Same.upd (o := .lst [V.int (s.next : Int), V.int (s.forgotten : Int)]) ha3
      refine ⟨a2, a3, _, _, rfl, rfl, s4 _ _ upd_same, upd_same, (by show 6 ≤ sizeLine; decide), fun a4 ha4 => ?_⟩
      exact k a4 _ ((s13.trans s4).trans (Same.upd ha4)) ((s13.trans s4).free ha4) upd_same
    | some es =>
      rw [q] at gr
      obtain ⟨ga, ev, rfl, hga, hev⟩ := gr
      have le : ev.length = es.length := by rw [DpAll.length hev, List.length_map]
      rw [show (open_ s).length = es.length by unfold Vanbkd.open_; rw [q]; rfl, q] at k
      refine iteT ?_
      refine ⟨_, rfl, p, CP, dx, _, _, rfl, s1 _ _ h1, PC.cl, PC.n_group, rfl, ga, _, rfl, .inl (SqL.of (s1 _ _ hga)), (by show 2 ≤ sizeLine; decide), fun g2 hg2 => ?_⟩
      rw [le]
      have s0 := Same.upd (o := .lst [V.int 1, V.int (es.length : Int)]) hg2
      have s01 := s1.trans s0
      refine ⟨_, rfl, h, CH, dxh, _, _, rfl, s01 _ _ h2, HC.cl, HC.n_position, rfl, _, rfl, h, CH, dxh, _, _, rfl, s01 _ _ h2, HC.cl, HC.n_steps, rfl, ls, _, rfl, .inl (SqL.of (s01 _ _ h3)), (by show 2 ≤ sizeLine; decide), fun a1 ha1 => ?_⟩
      rw [lS]
      have s2 := Same.upd (o := .lst [V.int (s.done.length : Int), V.int ((history s).length : Int)]) ha1
      refine ⟨_, rfl, a1, g2, _, _, rfl, rfl, upd_same, s2 _ _ upd_same, (by show 4 ≤ sizeLine; decide), fun a2 ha2 => ?_⟩
      have s3 := Same.upd (o := .lst ([V.int (s.done.length : Int), V.int ((history s).length : Int)] ++ [V.int 1, V.int (es.length : Int)])) ha2
      have s13 := (s01.trans s2).trans s3
      refine ⟨_, rfl, p, CP, dx, _, _, rfl, s13 _ _ h1, PC.cl, PC.n_next_number, rfl, _, rfl, h, CH, dxh, _, _, rfl, s13 _ _ h2, HC.cl, HC.n_forgotten, rfl, (by show 2 ≤ sizeLine; decide), fun a3 ha3 => ?_⟩
      have s4 := Same.upd (o := .lst [V.int (s.next : Int), V.int (s.forgotten : Int)]) ha3
      refine ⟨a2, a3, _, _, rfl, rfl, s4 _ _ upd_same, upd_same, (by show 6 ≤ sizeLine; decide), fun a4 ha4 => ?_⟩
      exact k a4 _ ((s13.trans s4).trans (Same.upd ha4)) ((s13.trans s4).free ha4) upd_same
theorem sc_answer_step : FnScope ["pad", "arguments", "steps", "edits", "told", "edit"] ["pad", "arguments"] (defScope s_answer_step) := scM
theorem ok_answer_step (T : Txt mg) (N : Nums mg) (PC : PadC K CP) (HC : HistCls K CH) (O : TellOk P w K mg base) (F : Top K mg "answer_step" s_answer_step) : FnAt P w K mg base "answer_step" 5 ["pad", "arguments"] (spTel K CP CH fun c => ∃ q, c = .step q) := by
  refine F.at_ ub2 fun f fd F => F.ok (k := 4) sc_answer_step (fun vs H Q E h => ?_) (fun cdv A outer s H vs Q E hr h => ?_)
  · obtain ⟨p, s, F, c, u, rfl, _⟩ := h
    rfl
  · obtain ⟨p, s, F, c, u, rfl, A0, G, hu, hl, ⟨q, rfl⟩, k⟩ := h
    obtain ⟨b, rfl, hb⟩ := args_w hu
    obtain ⟨h, ls, ld, dv, gv, A, hF⟩ := id A0
    obtain ⟨dx, h1⟩ := A.obj
    obtain ⟨dxh, h2⟩ := A.hist.obj
    obtain ⟨sv, h3, h3'⟩ := A.hist.steps
    have lS : sv.length = (history s).length := by rw [DpAll.length h3', List.length_map]
    have F_tell_edit := O.tell_edit
    have SC := sc_answer_step
    have big : (10000 : Nat) < sizeLine := by decide
    have k : Gives H Q (VanbkdNeutral.encode (match (if q < 0 then none else (history s)[q.toNat]?) with
      | some l => ⟨ofNat l.length, l.flatMap tellEdit⟩
      | none => ⟨-3, []⟩)) := k
    refine ⟨_, (pss_cons (ps_set (i := 2) SC.nd rfl (Or.inl rfl) (pe_fld (pe_fld (pv 0) rfl) rfl))
      (pss_cons (ps_if (pt_not (pt_chain op_le op_lt pe_int (pe_ix ix_tup (pv 1) pe_int (fun _ _ => rfl)) (pe_callB call_len_seq (by rfl) T.b_len PySem.boot_len (pa_cons (pv 2) pa_nil)))) (pss_one (ps_ret (pe_lst (pa_cons (pe_gint rfl N.c_OUT_OF_RANGE) pa_nil)))) pss_nil)
      (pss_cons (ps_set (i := 3) SC.nd rfl (Or.inl rfl) (pe_ix ix_list (pv 2) (pe_ix ix_tup (pv 1) pe_int (fun _ _ => rfl)) (fun _ _ => rfl)))
      (pss_cons (ps_set (i := 4) SC.nd rfl (Or.inl rfl) (pe_lst (pa_cons (pe_callB call_len_seq (by rfl) T.b_len PySem.boot_len (pa_cons (pv 3) pa_nil)) pa_nil)))
      (pss_cons (ps_for PassesOwn.never rfl (pi_tup (pv 3)) (pg_name (i := 5) SC.nd rfl (Or.inl rfl)) (pss_one (ps_expr (pe_bm PySem.F.plainAttrs_list PySem.F.slot_list_extend PySem.F.type_list_extend mt_extend (pv 4) (pa_cons (pe_fn F_tell_edit (hr.mono (by decide)) rfl (pa_cons (pv 5) pa_nil)) pa_nil)))))
      (pss_one (ps_ret (pv 4)))))))), ?_⟩
    refine ⟨_, rfl, p, CP, dx, _, _, rfl, h1, PC.cl, PC.n_history, rfl, h, CH, dxh, _, _, rfl, h2, HC.cl, HC.n_steps, rfl, ?_⟩
    refine ⟨_, rfl, b, _, 0, _, rfl, rfl, hb, rfl, _, _, rfl, rfl, _, rfl, ?_⟩
    refine ite2 (fun h0 => ?_) (fun h0 => ?_)
    · have h0' : 0 ≤ q := of_decide_eq_true h0
      rw [if_neg (show ¬ q < 0 by omega)] at k
      refine ⟨_, rfl, ls, _, rfl, .inl (SqL.of h3), _, _, rfl, rfl, _, rfl, ?_⟩
      rw [lS]
      refine ite2 (fun hz => ?_) (fun hz => ?_)
      · have hz' : ¬ q < ((history s).length : Int) := of_decide_eq_false (not_tt hz)
        rw [List.getElem?_eq_none (by omega)] at k
        exact k.one
      · have hz' : q < ((history s).length : Int) := of_decide_eq_true (not_ff hz)
        obtain ⟨st, hst⟩ : ∃ st, (history s)[q.toNat]? = some st := ⟨(history s)[q.toNat], List.getElem?_eq_getElem (by omega)⟩
        rw [hst] at k
        have k : Gives H Q (ofNat st.length :: st.flatMap tellEdit) := k
        obtain ⟨v, hv, hvd⟩ := DpAll.get h3' (i := q.toNat) (d := eStep st) (by rw [List.getElem?_map, hst]; rfl)
        obtain ⟨va, xs, rfl, hva, hxs⟩ := dp_tup.mp hvd
        have lx : xs.length = st.length := by rw [DpAll.length hxs, List.length_map]
        have SO := G.he st (List.mem_of_getElem? hst)
        have pre : ∀ i, (ofNat st.length :: (st.take i).flatMap tellEdit).length ≤ 4100 := fun i => by
          have h1 : ((st.take i).flatMap tellEdit).length ≤ (st.take i).length * 403 := flatMap_len fun e he => tellEdit_len (SO.ok e (List.mem_of_mem_take he))
          have h2 : (st.take i).length ≤ 10 := by
            have := SO.len
            rw [List.length_take]
            omega
          rw [List.length_cons]
          omega
        refine ⟨_, rfl, _, rfl, b, _, 0, _, rfl, rfl, hb, rfl, ls, sv, q, _, rfl, rfl, SqL.of h3, at_of (j := q.toNat) (by omega) hv, ?_⟩
        refine ⟨_, rfl, va, _, rfl, .inr hva, (by show 1 ≤ sizeLine; decide), fun t ht => ?_⟩
        have s1 := Same.upd (o := .lst [V.int (xs.length : Int)]) ht
        refine ⟨_, rfl, va, rfl, ⟨_, s1.tup hva⟩, for_tup (K := K) (a := va) (xs := xs) (fun i σ H' => ∃ v5 : Option V, σ = [some (.ref p), some (.ref b), some (.ref ls), some (.ref va), some (.ref t), v5] ∧ Same H H' ∧ H' t = some (.lst (iv (ofNat st.length :: (st.take i).flatMap tellEdit))))
          ⟨none, rfl, s1, by rw [upd_same, lx]; rfl⟩ (fun i σ H' _ ⟨_, _, e, _⟩ => e.tup hva) ?_ ?_⟩
        · rintro i z σ H' hi ⟨v5, rfl, e, ht'⟩
          obtain ⟨ed, hed, hz⟩ := edit_at hxs hi
          have EO := SO.ok ed (List.mem_of_getElem? hed)
          have tl := tellEdit_len EO
          have p1 := pre i
          refine ⟨_, rfl, .inl ⟨rfl, _, SqL.of ht'⟩, _, rfl, z, ed, rfl, Dp.same e (tupd_edit ed) hz, EO.ok, fun l H4 e4 hl4 h4 => ?_⟩
          refine ⟨t, l, _, _, rfl, rfl, e4 _ _ ht', h4, (by rw [iv_len, iv_len]; omega), some z, rfl, fun c o hc => ?_, ?_⟩
          · rw [upd_ne (ne_of_none hc ht)]
            exact e4 _ _ (e _ _ hc)
          · rw [upd_same, iv_app, List.take_add_one, hed, Option.toList_some, List.flatMap_append, List.flatMap_cons, List.flatMap_nil, List.append_nil]
            rfl
        · rintro σ H' ⟨v5, rfl, e, ht'⟩
          rw [lx, List.take_length] at ht'
          exact ⟨_, rfl, k t H' e ht ht'⟩
    · rw [if_pos (show q < 0 from by
        have : ¬ 0 ≤ q := of_decide_eq_false (not_t h0)
        omega)] at k
      exact ⟨_, rfl, iteT k.one⟩
end
end CP
namespace CP
open PySem PySem.Spec PyProof.Rows L2 CM
open Vanbkd (Doc Cell Text Edit State Call Answer ofNat nats markOf apply applyAll doc history open_ docAt found textOf bytes hasI lengthOf textIn tellText tellDoc tellEdit told differences has find)
def diffK (c : Cell) (e : Doc) : Int := match (ixF e c.number).bind fun i => e[i]? with
  | none => 1
  | some x => if c.text = x.text then (if c.hidden = x.hidden then 0 else 4) else (if c.hidden = x.hidden then 3 else 5)
def gDiff (e : Doc) (c : Cell) : Option (Int × Int) := if diffK c e = 0 then none else some (ofNat c.number, diffK c e)
theorem fmap_congr {α β : Type} {f g : α → Option β} : ∀ {l : List α}, (∀ x ∈ l, f x = g x) → l.filterMap f = l.filterMap g
  | [], _ => rfl
  | x :: r, h => by
    rw [List.filterMap_cons, List.filterMap_cons, h x (by simp), fmap_congr fun y hy => h y (by simp [hy])]
theorem differences_eq (d e : Doc) : (differences d e).map (fun x => (ofNat x.1, ofNat x.2)) = d.filterMap (gDiff e) ++ (e.filter fun c => !has d c.number).map fun c => (ofNat c.number, (2 : Int)) := by
  unfold Vanbkd.differences
  rw [List.map_append, List.map_map, List.map_filterMap]
  congr 1
  refine fmap_congr fun c _ => ?_
  unfold gDiff diffK
  rw [← find_ix (d := e) (n := c.number)]
  cases q : find e c.number with
  | none => rfl
  | some x =>
    by_cases h1 : c.text = x.text <;> by_cases h2 : c.hidden = x.hidden <;> simp [h1, h2, ofNat]
def spDiff (K : PySem.W.Frag) : Sp := fun vs H Q _ => ∃ (v u : V) (c : Cell) (e : Doc), vs = [v, u] ∧ Dp K H v (eCell c) ∧ Dp K H u (eDoc e) ∧ ∀ H', Same H H' → Q (.int (diffK c e)) H'
section
variable {P : Program} {w : World} {K : PySem.W.Frag} {mg : Str → Option Value} {base : Heap} {CP CH : Addr}
theorem sc_difference : FnScope ["cell", "document", "index", "other"] ["cell", "document"] (defScope s_difference) := scM
theorem ok_difference (N : Nums mg) (C : CellsOk P w K mg base) (F : Top K mg "difference" s_difference) : FnAt P w K mg base "difference" 3 ["cell", "document"] (spDiff K) := by
  refine F.at_ ub2 fun f fd F => F.ok (k := 2) sc_difference (fun vs H Q E h => ?_) (fun cdv A outer s H vs Q E hr h => ?_)
  · obtain ⟨v, u, c, e, rfl, _⟩ := h
    rfl
  · obtain ⟨v, u, c, e, rfl, hc, he, k⟩ := h
    obtain ⟨ea, es, rfl, hes, hec⟩ := doc_iff.mp he
    have F_text_of := C.text_of
    have F_mark_of := C.mark_of
    have F_number_of := C.number_of
    have F_index_of := C.index_of
    have SC := sc_difference
    refine ⟨_, (pss_cons (ps_set (i := 2) SC.nd rfl (Or.inl rfl) (pe_fn F_index_of (hr.mono (by decide)) rfl (pa_cons (pv 1) (pa_cons (pe_fn F_number_of (hr.mono (by decide)) rfl (pa_cons (pv 0) pa_nil)) pa_nil))))
      (pss_cons (ps_if (pt_cmpR op_lt (pv 2) pe_int (nomark _)) (pss_one (ps_ret (pe_gint rfl N.c_AT_P_ALONE))) pss_nil)
      (pss_cons (ps_set (i := 3) SC.nd rfl (Or.inl rfl) (pe_ix ix_tup (pv 1) (pv 2) (fun _ _ => rfl)))
      (pss_cons (ps_if (pt_cmpR (op_eqD (hr.units)) (pe_fn F_text_of (hr.mono (by decide)) rfl (pa_cons (pv 0) pa_nil)) (pe_fn F_text_of (hr.mono (by decide)) rfl (pa_cons (pv 3) pa_nil)) (nomark _)) (pss_one (ps_ret (pe_ifExp (pt_cmpR op_eq (pe_fn F_mark_of (hr.mono (by decide)) rfl (pa_cons (pv 0) pa_nil)) (pe_fn F_mark_of (hr.mono (by decide)) rfl (pa_cons (pv 3) pa_nil)) (nomark _)) (pe_gint rfl N.c_NO_DIFFERENCE) (pe_gint rfl N.c_OTHER_MARK)))) pss_nil)
      (pss_one (ps_ret (pe_ifExp (pt_cmpR op_eq (pe_fn F_mark_of (hr.mono (by decide)) rfl (pa_cons (pv 0) pa_nil)) (pe_fn F_mark_of (hr.mono (by decide)) rfl (pa_cons (pv 3) pa_nil)) (nomark _)) (pe_gint rfl N.c_OTHER_TEXT) (pe_gint rfl N.c_OTHER_TEXT_AND_MARK)))))))), ?_⟩
    refine ⟨_, rfl, _, rfl, v, c, rfl, hc, _, e, ofNat c.number, rfl, he, fun H1 e1 => ⟨_, rfl, _, _, rfl, rfl, _, rfl, ?_⟩⟩
    unfold diffK at k
    cases q : ixF e (ofNat c.number) with
    | none =>
      rw [show ixF e ((c.number : Nat) : Int) = none from q] at k
      rw [ixI_none q]
      exact k H1 e1
    | some i =>
      obtain ⟨x, hx, hxn⟩ := ixF_at q
      obtain ⟨z, hz, hzc⟩ := at_ix (n := 0) hec hx
      rw [show ixF e ((c.number : Nat) : Int) = some i from q] at k
      have k : ∀ H', Same H H' → Q (.int (match e[i]? with | none => 1 | some x => if c.text = x.text then (if c.hidden = x.hidden then 0 else 4) else (if c.hidden = x.hidden then 3 else 5))) H' := k
      rw [hx] at k
      have k : ∀ H', Same H H' → Q (.int (if c.text = x.text then (if c.hidden = x.hidden then 0 else 4) else (if c.hidden = x.hidden then 3 else 5))) H' := k
      rw [ixI_some q]
      refine ite2 (fun z => absurd (of_decide_eq_true z) (by omega)) (fun _ => ?_)
      have hc1 := Dp.same e1 (tupd_cell c) hc
      have hz1 := Dp.same e1 (tupd_cell x) hzc
      refine ⟨_, rfl, _, rfl, ea, _, _, _, rfl, rfl, e1.tup hes, atI_nat hz, ?_⟩
      refine ⟨_, rfl, v, c, rfl, hc1, fun t1 ht1 => ⟨_, rfl, z, x, rfl, hz1, fun t2 ht2 => ⟨eText c.text, eText x.text, ht1, ht2, shaped_ints _, shaped_ints _, _, rfl, ?_⟩⟩⟩
      rw [eqv_text]
      have em : (V.int (markOf c.hidden) = V.int (markOf x.hidden)) ↔ c.hidden = x.hidden := ⟨fun z => mark_inj.mp (V.int.inj z), fun z => by rw [z]⟩
      refine ite2 (fun ht => ?_) (fun ht => ?_)
      · rw [if_pos (of_decide_eq_true ht)] at k
        refine ⟨_, rfl, v, c, rfl, hc1, _, rfl, z, x, rfl, hz1, rfl, _, rfl, ?_⟩
        refine ite2 (fun hm => ?_) (fun hm => ?_)
        · rw [if_pos (em.mp (of_decide_eq_true hm))] at k
          exact k H1 e1
        · rw [if_neg (fun z => hm (decide_eq_true (em.mpr z)))] at k
          exact k H1 e1
      · rw [if_neg (fun z => ht (decide_eq_true z))] at k
        refine ⟨_, rfl, v, c, rfl, hc1, _, rfl, z, x, rfl, hz1, rfl, _, rfl, ?_⟩
        refine ite2 (fun hm => ?_) (fun hm => ?_)
        · rw [if_pos (em.mp (of_decide_eq_true hm))] at k
          exact k H1 e1
        · rw [if_neg (fun z => hm (decide_eq_true (em.mpr z)))] at k
          exact k H1 e1
theorem sc_answer_changed : FnScope ["pad", "arguments", "history", "at_p", "at_q", "pairs", "cell", "kind", "position"] ["pad", "arguments"] (defScope s_answer_changed) := scM
theorem pairsI_map (l : List (Nat × Nat)) : pairsI (l.map fun x => (ofNat x.1, ofNat x.2)) = l.flatMap fun x => [ofNat x.1, ofNat x.2] := by
  unfold pairsI
  rw [List.flatMap_map]
theorem upTo_iff {q : Int} {n : Nat} : Vanbkd.upTo q n = true ↔ 0 ≤ q ∧ q ≤ (n : Int) := by
  unfold Vanbkd.upTo
  rw [Bool.and_eq_true, decide_eq_true_eq, decide_eq_true_eq]
  exact Iff.rfl
theorem ok_answer_changed (T : Txt mg) (N : Nums mg) (PC : PadC K CP) (HC : HistCls K CH) (C : CellsOk P w K mg base) (M : PMeths P w K mg base CP CH) (O : TellOk P w K mg base) (F_difference : FnAt P w K mg base "difference" 3 ["cell", "document"] (spDiff K)) (F : Top K mg "answer_changed" s_answer_changed) :
    FnAt P w K mg base "answer_changed" 5 ["pad", "arguments"] (spTel K CP CH fun c => ∃ a b, c = .changed a b) := by
  refine F.at_ ub2 fun f fd F => F.ok (k := 4) sc_answer_changed (fun vs H Q E h => ?_) (fun cdv A outer s H vs Q E hr h => ?_)
  · obtain ⟨p, s, F, c, u, rfl, _⟩ := h
    rfl
  · obtain ⟨p, s, F, c, u, rfl, A0, G, hu, hl, ⟨q1, q2, rfl⟩, k⟩ := h
    obtain ⟨b, rfl, hb⟩ := args_ww hu
    obtain ⟨h, ls, ld, dv, gv, A, hF⟩ := id A0
    obtain ⟨dx, h1⟩ := A.obj
    obtain ⟨dxh, h2⟩ := A.hist.obj
    obtain ⟨dvs, h4, h5⟩ := A.hist.docs
    have F_has_cell := C.has_cell
    have F_number_of := C.number_of
    have F_tell_pairs := O.tell_pairs
    have SC := sc_answer_changed
    have big : (10000 : Nat) < sizeLine := by decide
    have k : Gives H Q (VanbkdNeutral.encode (if (Vanbkd.upTo q1 (history s).length && Vanbkd.upTo q2 (history s).length) = true then
        ⟨ofNat (differences (docAt s q1.toNat) (docAt s q2.toNat)).length, (differences (docAt s q1.toNat) (docAt s q2.toNat)).flatMap fun x => [ofNat x.1, ofNat x.2]⟩ else ⟨-3, []⟩)) := k
    refine ⟨_, (pss_cons (ps_set (i := 2) SC.nd rfl (Or.inr rfl) (pe_fld (pv 0) rfl))
      (pss_cons (ps_if (pt_not (pt_val (pe_callB (cr_all rfl) (by rfl) T.b_all boot_all (pa_cons (pe_lc (own := [("position", 8)]) rfl SC.nd (pi_tup (pv 1)) (blkOk_by (by kernel_rfl)) (fun _ _ _ _ _ => (pg_name (i := 8) SC.nd rfl (Or.inl rfl))) (fun _ _ _ _ _ => pts_nil) (fun _ _ _ _ _ => (pe_mt (pv 2) HC.cl M.has_position (hr.mono (by decide)) (pa_cons (pv 8) pa_nil)))) pa_nil)))) (pss_one (ps_ret (pe_lst (pa_cons (pe_gint rfl N.c_OUT_OF_RANGE) pa_nil)))) pss_nil)
      (pss_cons (ps_set (i := 3) SC.nd rfl (Or.inl rfl) (pe_ix ix_list (pe_fld (pv 2) rfl) (pe_ix ix_tup (pv 1) pe_int (fun _ _ => rfl)) (fun _ _ => rfl)))
      (pss_cons (ps_set (i := 4) SC.nd rfl (Or.inl rfl) (pe_ix ix_list (pe_fld (pv 2) rfl) (pe_ix ix_tup (pv 1) pe_int (fun _ _ => rfl)) (fun _ _ => rfl)))
      (pss_cons (ps_set (i := 5) SC.nd rfl (Or.inl rfl) (pe_lst pa_nil))
      (pss_cons (ps_for PassesOwn.never rfl (pi_tup (pv 3)) (pg_name (i := 6) SC.nd rfl (Or.inl rfl)) (pss_cons (ps_set (i := 7) SC.nd rfl (Or.inl rfl) (pe_fn F_difference (hr.mono (by decide)) rfl (pa_cons (pv 6) (pa_cons (pv 4) pa_nil))))
      (pss_one (ps_if (pt_cmpR op_ne (pv 7) (pe_gint rfl N.c_NO_DIFFERENCE) (nomark _)) (pss_one (ps_expr (pe_bm PySem.F.plainAttrs_list PySem.F.slot_list_append PySem.F.type_list_append mt_append (pv 5) (pa_cons (pe_tup (pa_cons (pe_fn F_number_of (hr.mono (by decide)) rfl (pa_cons (pv 6) pa_nil)) (pa_cons (pv 7) pa_nil))) pa_nil)))) pss_nil))))
      (pss_cons (ps_for PassesOwn.never rfl (pi_tup (pv 4)) (pg_name (i := 6) SC.nd rfl (Or.inl rfl)) (pss_one (ps_if (pt_not (pt_val (pe_fn F_has_cell (hr.mono (by decide)) rfl (pa_cons (pv 3) (pa_cons (pe_fn F_number_of (hr.mono (by decide)) rfl (pa_cons (pv 6) pa_nil)) pa_nil))))) (pss_one (ps_expr (pe_bm PySem.F.plainAttrs_list PySem.F.slot_list_append PySem.F.type_list_append mt_append (pv 5) (pa_cons (pe_tup (pa_cons (pe_fn F_number_of (hr.mono (by decide)) rfl (pa_cons (pv 6) pa_nil)) (pa_cons (pe_gint rfl N.c_AT_Q_ALONE) pa_nil))) pa_nil)))) pss_nil)))
      (pss_one (ps_ret (pe_fn F_tell_pairs (hr.mono (by decide)) rfl (pa_cons (pv 5) pa_nil))))))))))), ?_⟩
    refine ⟨_, rfl, p, CP, dx, _, _, rfl, h1, PC.cl, PC.n_history, rfl, ?_⟩
    refine ⟨_, rfl, b, rfl, ⟨_, hb⟩, fun Dl hDl => lc_tup (K := K) (a := b) (xs := [V.int q1, V.int q2]) (fun i H' => Same H H' ∧ H' Dl = some (.lst ((([q1, q2] : List Int).take i).map fun z => V.bl (Vanbkd.upTo z (history s).length)))) ⟨Same.upd hDl, upd_same⟩ (fun i H' _ hh => hh.1.tup hb) ?_ ?_⟩
    · rintro i y H' hi ⟨e, hDi⟩
      obtain ⟨z, hz0, rfl⟩ : ∃ z, ([q1, q2] : List Int)[i]? = some z ∧ y = V.int z := by
        have hi' : (([q1, q2] : List Int).map V.int)[i]? = some y := hi
        rw [List.getElem?_map] at hi'
        cases r : ([q1, q2] : List Int)[i]? with
        | none => rw [r] at hi'; cases hi'
        | some z =>
          rw [r] at hi'
          exact ⟨z, rfl, (Option.some.inj hi').symm⟩
      refine ⟨rfl, ?_⟩
      refine ⟨_, rfl, h, dxh, _, rfl, e _ _ h2, rfl, _, rfl, h, ls, ld, _, _, _, _, z, rfl, A.hist.same e, _, hDi, ?_, fun q o hq => ?_, ?_⟩
      · rw [List.length_map, List.length_take]
        exact Nat.lt_of_le_of_lt (Nat.min_le_right _ _) (by show 2 < sizeLine; decide)
      · rw [upd_ne (ne_of_none hq hDl)]
        exact e _ _ hq
      · rw [upd_same, List.take_add_one, hz0]
        simp
    · rintro Ha ⟨ea, hDa⟩
      refine ⟨Dl, ([q1, q2] : List Int).map fun z => Vanbkd.upTo z (history s).length, rfl, SqL.of (by rw [hDa]; rfl), _, rfl, ?_⟩
      rw [show (([q1, q2] : List Int).map fun z => Vanbkd.upTo z (history s).length).all id = (Vanbkd.upTo q1 (history s).length && Vanbkd.upTo q2 (history s).length) by simp]
      refine ite2 (fun hn => ?_) (fun hn => ?_)
      · rw [if_neg (by rw [not_tt hn]; exact Bool.false_ne_true)] at k
        exact (k.same ea).one
      · have hok := not_ff hn
        rw [if_pos hok] at k
        rw [Bool.and_eq_true] at hok
        have b1 := upTo_iff.mp hok.1
        have b2 := upTo_iff.mp hok.2
        have Wp := (G.at_ q1.toNat).2.wf
        have Wq := (G.at_ q2.toNat).2.wf
        obtain ⟨v1, hv1, hvd1⟩ := DpAll.get h5 (i := q1.toNat) (d := eDoc (docAt s q1.toNat)) (by rw [List.getElem?_map, docsOf_at (by omega)]; rfl)
        obtain ⟨v2, hv2, hvd2⟩ := DpAll.get h5 (i := q2.toNat) (d := eDoc (docAt s q2.toNat)) (by rw [List.getElem?_map, docsOf_at (by omega)]; rfl)
        generalize docAt s q1.toNat = dp at k Wp hvd1
        generalize docAt s q2.toNat = dq at k Wq hvd2
        have k : Gives H Q (((dp.filterMap (gDiff dq) ++ (dq.filter fun c => !has dp c.number).map fun c => (ofNat c.number, (2 : Int))).length : Int) :: pairsI (dp.filterMap (gDiff dq) ++ (dq.filter fun c => !has dp c.number).map fun c => (ofNat c.number, (2 : Int)))) := by
          rw [← differences_eq, pairsI_map, List.length_map]
          exact k
        obtain ⟨pa, ps, rfl, hps, hpc⟩ := doc_iff.mp hvd1
        obtain ⟨qa, qs, rfl, hqs, hqc⟩ := doc_iff.mp hvd2
        have lp : ps.length = dp.length := by rw [DpAll.length hpc, List.length_map]
        have lq : qs.length = dq.length := by rw [DpAll.length hqc, List.length_map]
        have fl : ∀ i, ((dp.take i).filterMap (gDiff dq)).length ≤ 12 := fun i => by
          refine Nat.le_trans (List.length_filterMap_le _ _) ?_
          rw [List.length_take]
          have := Wp.len
          omega
        have fl2 : ∀ i, (((dq.take i).filter fun c => !has dp c.number).map fun c => (ofNat c.number, (2 : Int))).length ≤ 12 := fun i => by
          rw [List.length_map]
          refine Nat.le_trans (List.length_filter_le _ _) ?_
          rw [List.length_take]
          have := Wq.len
          omega
        refine ⟨_, rfl, h, CH, dxh, _, _, rfl, ea _ _ h2, HC.cl, HC.n_documents, rfl, _, rfl, b, _, 0, _, rfl, rfl, ea.tup hb, rfl, ld, dvs, q1, _, rfl, rfl, SqL.of (ea _ _ h4), at_of (j := q1.toNat) (by omega) hv1, ?_⟩
        refine ⟨_, rfl, h, CH, dxh, _, _, rfl, ea _ _ h2, HC.cl, HC.n_documents, rfl, _, rfl, b, _, 1, _, rfl, rfl, ea.tup hb, rfl, ld, dvs, q2, _, rfl, rfl, SqL.of (ea _ _ h4), at_of (j := q2.toNat) (by omega) hv2, ?_⟩
        refine ⟨Nat.zero_le _, fun l hla => ?_⟩
        have hlH : H l = none := ea.free hla
        have s1 := ea.trans (Same.upd (o := .lst []) hla)
        have put : ∀ (H3 : Hp) (pvs : List V) (L : List (Int × Int)) (t : Addr) (n m : Int), Same H H3 → H3 l = some (.lst pvs) → DpAll K H3 pvs (L.map ePair) → H3 t = none →
            Same H (upd (upd H3 t (.tup [.int n, .int m])) l (.lst (pvs ++ [.ref t]))) ∧ DpAll K (upd (upd H3 t (.tup [.int n, .int m])) l (.lst (pvs ++ [.ref t]))) (pvs ++ [.ref t]) ((L ++ [(n, m)]).map ePair) := by
          intro H3 pvs L t n m e3 hl3 hp3 ht3
          have st := Same.upd (o := .tup [.int n, .int m]) ht3
          have oo : Only [l] (upd H3 t (.tup [.int n, .int m])) (upd (upd H3 t (.tup [.int n, .int m])) l (.lst (pvs ++ [.ref t]))) := Only.set (by simp)
          have cc := chg1 (st _ _ hl3) (show Chg (some (.lst pvs)) from True.intro)
          refine ⟨fun c o hc => ?_, ?_⟩
          · rw [upd_ne (ne_of_none hc hlH)]
            exact st _ _ (e3 _ _ hc)
          · rw [List.map_append]
            refine (DpAll.only oo cc (tupds_pairs L) (DpAll.same st (tupds_pairs L) hp3)).append (.cons ?_ .nil)
            refine Dp.only oo cc (by simp [ePair, tupd, tupds]) (dp_tup.mpr ⟨t, _, rfl, SqT.of upd_same, .cons (.int _) (.cons (.int _) .nil)⟩)
        refine ⟨_, rfl, pa, rfl, ⟨_, s1.tup hps⟩, for_tup (K := K) (a := pa) (xs := ps) (fun i σ H' => ∃ (v6 v7 v8 : Option V) (pvs : List V), σ = [some (.ref p), some (.ref b), some (.ref h), some (.ref pa), some (.ref qa), some (.ref l), v6, v7, v8] ∧ Same H H' ∧ H' l = some (.lst pvs) ∧ DpAll K H' pvs (((dp.take i).filterMap (gDiff dq)).map ePair))
          ⟨_, _, _, [], rfl, s1, upd_same, .nil⟩ (fun i σ H' _ ⟨_, _, _, _, _, e, _⟩ => e.tup hps) ?_ ?_⟩
        · rintro i z σ H' hi ⟨v6, v7, v8, pvs, rfl, e, hl', hpv⟩
          obtain ⟨c, hc, hcell⟩ := cell_at hpc hi
          have tk : (dp.take (i + 1)).filterMap (gDiff dq) = (dp.take i).filterMap (gDiff dq) ++ (gDiff dq c).toList := by
            rw [List.take_add_one, hc, Option.toList_some, List.filterMap_append]
            cases r : gDiff dq c <;> simp [r]
          have fi := fl i
          have lpv : pvs.length ≤ 12 := by rw [DpAll.length hpv, List.length_map]; exact fi
          refine ⟨_, rfl, _, rfl, z, _, c, dq, rfl, Dp.same e (tupd_cell c) hcell, Dp.same e (tupd_doc dq) hvd2, fun H2 e2 => ⟨_, rfl, rfl, _, rfl, ?_⟩⟩
          have e12 := e.trans e2
          refine ite_ref (fun hz => ?_) (fun hz => ?_)
          · refine ⟨_, _, _, pvs, rfl, e12, e2 _ _ hl', ?_⟩
            rw [tk, show gDiff dq c = none from if_pos hz]
            simp only [Option.toList_none, List.append_nil]
            exact DpAll.same e2 (tupds_pairs _) hpv
          · refine ⟨_, rfl, .inl ⟨rfl, _, SqL.of (e2 _ _ hl')⟩, _, rfl, z, c, rfl, Dp.same e12 (tupd_cell c) hcell, _, rfl, (by show 2 ≤ sizeLine; decide), fun t ht => ?_⟩
            obtain ⟨g1, g2⟩ := put H2 pvs _ t (ofNat c.number) (diffK c dq) e12 (e2 _ _ hl') (DpAll.same e2 (tupds_pairs _) hpv) ht
            refine ⟨l, _, _, rfl, rfl, (Same.upd ht) _ _ (e2 _ _ hl'), (by omega), _, _, _, _, rfl, g1, upd_same, ?_⟩
            rw [tk, show gDiff dq c = some (ofNat c.number, diffK c dq) from if_neg hz]
            exact g2
        · rintro σ Hb ⟨v6, v7, v8, pvs, rfl, e, hl', hpv⟩
          rw [lp, List.take_length] at hpv
          have f0 := fl dp.length
          rw [List.take_length] at f0
          refine ⟨_, rfl, qa, rfl, ⟨_, e.tup hqs⟩, for_tup (K := K) (a := qa) (xs := qs) (fun i σ H' => ∃ (v6 v7 v8 : Option V) (pvs : List V), σ = [some (.ref p), some (.ref b), some (.ref h), some (.ref pa), some (.ref qa), some (.ref l), v6, v7, v8] ∧ Same H H' ∧ H' l = some (.lst pvs) ∧ DpAll K H' pvs ((dp.filterMap (gDiff dq) ++ ((dq.take i).filter fun c => !has dp c.number).map fun c => (ofNat c.number, (2 : Int))).map ePair))
            ⟨_, _, _, pvs, rfl, e, hl', by rw [List.take_zero, List.filter_nil, List.map_nil, List.append_nil]; exact hpv⟩ (fun i σ H' _ ⟨_, _, _, _, _, e, _⟩ => e.tup hqs) ?_ ?_⟩
          · rintro i z σ H' hi ⟨v6, v7, v8, pvs, rfl, e, hl', hpv⟩
            obtain ⟨c, hc, hcell⟩ := cell_at hqc hi
            have fi := fl2 i
            have lpv : pvs.length ≤ 24 := by
              rw [DpAll.length hpv, List.length_map, List.length_append]
              omega
            have hc1 := Dp.same e (tupd_cell c) hcell
            have tk : ((dq.take (i + 1)).filter fun c => !has dp c.number) = ((dq.take i).filter fun c => !has dp c.number) ++ (if (!has dp c.number) = true then [c] else []) := by
              rw [List.take_add_one, hc, Option.toList_some, List.filter_append, List.filter_cons, List.filter_nil]
            refine ⟨_, rfl, _, rfl, z, c, rfl, hc1, _, dp, ofNat c.number, rfl, Dp.same e (tupd_doc dp) hvd1, fun H2 e2 => ⟨_, rfl, ?_⟩⟩
            have e12 := e.trans e2
            have eh : has dp c.number = (ixF dp (ofNat c.number)).isSome := has_ix
            rw [← eh]
            refine ite2 (fun hz => ?_) (fun hz => ?_)
            · refine ⟨_, rfl, .inl ⟨rfl, _, SqL.of (e2 _ _ hl')⟩, _, rfl, z, c, rfl, Dp.same e12 (tupd_cell c) hcell, (by show 2 ≤ sizeLine; decide), fun t ht => ?_⟩
              obtain ⟨g1, g2⟩ := put H2 pvs _ t (ofNat c.number) 2 e12 (e2 _ _ hl') (DpAll.same e2 (tupds_pairs _) hpv) ht
              refine ⟨l, _, _, rfl, rfl, (Same.upd ht) _ _ (e2 _ _ hl'), (by omega), _, _, _, _, rfl, g1, upd_same, ?_⟩
              have e3 : (dp.filterMap (gDiff dq) ++ (((dq.take i).filter fun c => !has dp c.number) ++ [c]).map fun c => (ofNat c.number, (2 : Int))) = (dp.filterMap (gDiff dq) ++ ((dq.take i).filter fun c => !has dp c.number).map fun c => (ofNat c.number, (2 : Int))) ++ [(ofNat c.number, 2)] := by
                rw [List.map_append, List.append_assoc]
                rfl
              rw [tk, if_pos hz, e3]
              exact g2
            · refine ⟨_, _, _, pvs, rfl, e12, e2 _ _ hl', ?_⟩
              rw [tk, if_neg hz, List.append_nil]
              exact DpAll.same e2 (tupds_pairs _) hpv
          · rintro σ Hc ⟨v6, v7, v8, pvs, rfl, e, hl', hpv⟩
            rw [lq, List.take_length] at hpv
            have f1 := fl2 dq.length
            rw [List.take_length] at f1
            exact ⟨_, rfl, l, pvs, _, rfl, hl', hpv, (by rw [List.length_append]; omega), k.same e⟩
end
end CP
namespace CP
open PySem PySem.Spec PyProof.Rows L2 CM
open Vanbkd (Doc Cell Text Edit State Call Answer ofNat nats markOf apply applyAll doc history open_ docAt found textOf bytes hasI lengthOf textIn tellText tellDoc tellEdit told differences has find blameIn past)
theorem blame_snoc (n : Nat) : ∀ (l : List Doc) (i b : Nat) (d e : Doc), blameIn n i (l ++ [d, e]) b = if textIn d n = textIn e n then blameIn n i (l ++ [d]) b else i + l.length + 1
  | [], i, b, d, e => by
    show blameIn n (i + 1) [e] (if textIn d n = textIn e n then b else i + 1) = _
    rw [show blameIn n (i + 1) [e] (if textIn d n = textIn e n then b else i + 1) = (if textIn d n = textIn e n then b else i + 1) from rfl]
    split <;> rfl
  | [x], i, b, d, e => by
    show blameIn n (i + 1) ([] ++ [d, e]) (if textIn x n = textIn d n then b else i + 1) = _
    rw [blame_snoc n [] (i + 1) _ d e]
    split
    · rfl
    · simp
  | x :: y :: r, i, b, d, e => by
    show blameIn n (i + 1) ((y :: r) ++ [d, e]) (if textIn x n = textIn y n then b else i + 1) = _
    rw [blame_snoc n (y :: r) (i + 1) _ d e]
    split
    · rfl
    · simp
      omega
theorem textI_eq {d : Doc} {n : Int} (h : 0 ≤ n) : textI d n = textIn d n.toNat := by
  unfold textI Vanbkd.textIn
  rw [find_ix, show ((n.toNat : Nat) : Int) = n by omega]
  cases q : ixF d n with
  | none => rfl
  | some i => rfl
theorem eqv_optT (a b : Option Text) : PyData.eqv (eOptT a) (eOptT b) = decide (a = b) := by
  cases a <;> cases b
  · simp [eOptT, PyData.eqv]
  · simp [eOptT, eText, eInts, PyData.eqv]
  · simp [eOptT, eText, eInts, PyData.eqv]
  · show PyData.eqv (eText _) (eText _) = _
    rw [eqv_text]
    simp
theorem shaped_optT (a : Option Text) : SeqAt.shaped (eOptT a) = true := by
  cases a with
  | none => decide
  | some t => exact shaped_ints _
theorem tupd_optT (a : Option Text) : tupd (eOptT a) = true := by
  cases a with
  | none => simp [eOptT, tupd]
  | some t => exact tupd_text t
section
variable {P : Program} {w : World} {K : PySem.W.Frag} {mg : Str → Option Value} {base : Heap} {CP CH : Addr}
theorem past_take {s : State} : (docsOf s).take (s.done.length + 1) = (List.range (s.done.length + 1)).map fun p => docAt s p := by
  unfold docsOf
  rw [← List.map_take, List.take_range]
  congr 2
  have := pos_le s
  omega
theorem sc_answer_blame : FnScope ["pad", "arguments", "number", "documents", "index"] ["pad", "arguments"] (defScope s_answer_blame) := scM
theorem ok_answer_blame (T : Txt mg) (N : Nums mg) (PC : PadC K CP) (HC : HistCls K CH) (C : CellsOk P w K mg base) (M : PMeths P w K mg base CP CH) (O : TellOk P w K mg base) (F : Top K mg "answer_blame" s_answer_blame) :
    FnAt P w K mg base "answer_blame" 5 ["pad", "arguments"] (spTel K CP CH fun c => ∃ n, c = .blame n) := by
  refine F.at_ ub2 fun f fd F => F.ok (k := 4) sc_answer_blame (fun vs H Q E h => ?_) (fun cdv A outer s H vs Q E hr h => ?_)
  · obtain ⟨p, s, F, c, u, rfl, _⟩ := h
    rfl
  · obtain ⟨p, s, F, c, u, rfl, A0, G, hu, hl, ⟨n, rfl⟩, k⟩ := h
    obtain ⟨b, rfl, hb⟩ := args_w hu
    obtain ⟨h, ls, ld, dv, gv, A, hF⟩ := id A0
    obtain ⟨dx, h1⟩ := A.obj
    obtain ⟨dxh, h2⟩ := A.hist.obj
    obtain ⟨dvs, h4, h5⟩ := A.hist.docs
    have F_has_cell := C.has_cell
    have F_text_in := O.text_in
    have SC := sc_answer_blame
    have big : (10000 : Nat) < sizeLine := by decide
    have k : Gives H Q (VanbkdNeutral.encode (if hasI (doc s) n = true then ⟨ofNat (blameIn n.toNat 0 (past s) 0), []⟩ else ⟨-1, []⟩)) := k
    refine ⟨_, (pss_cons (ps_set (i := 2) SC.nd rfl (Or.inl rfl) (pe_ix ix_tup (pv 1) pe_int (fun _ _ => rfl)))
      (pss_cons (ps_if (pt_not (pt_val (pe_fn F_has_cell (hr.mono (by decide)) rfl (pa_cons (pe_fld (pv 0) rfl) (pa_cons (pv 2) pa_nil))))) (pss_one (ps_ret (pe_lst (pa_cons (pe_gint rfl N.c_NO_CELL) pa_nil)))) pss_nil)
      (pss_cons (ps_set (i := 3) SC.nd rfl (Or.inl rfl) (pe_slice sl_list (pe_fld (pe_fld (pv 0) rfl) rfl) po_none (po_some (pe_op op_add (pe_fld (pe_fld (pv 0) rfl) rfl) pe_int))))
      (pss_cons (ps_if (pt_val (pe_mt0 (pv 0) PC.cl M.has_group (hr.mono (by decide)))) (pss_one (ps_expr (pe_bm PySem.F.plainAttrs_list PySem.F.slot_list_append PySem.F.type_list_append mt_append (pv 3) (pa_cons (pe_fld (pv 0) rfl) pa_nil)))) pss_nil)
      (pss_cons (ps_for PassesOwn.never rfl (pi_range3 rfl T.b_range (pa_cons (pe_op op_sub (pe_callB call_len_seq (by rfl) T.b_len PySem.boot_len (pa_cons (pv 3) pa_nil)) pe_int) (pa_cons pe_int (pa_cons (pe_un un_neg pe_int) pa_nil)))) (pg_name (i := 4) SC.nd rfl (Or.inl rfl)) (pss_one (ps_if (pt_cmpR (op_neD (hr.units)) (pe_fn F_text_in (hr.mono (by decide)) rfl (pa_cons (pe_ix ix_list (pv 3) (pv 4) (fun _ _ => rfl)) (pa_cons (pv 2) pa_nil))) (pe_fn F_text_in (hr.mono (by decide)) rfl (pa_cons (pe_ix ix_list (pv 3) (pe_op op_sub (pv 4) pe_int) (fun _ _ => rfl)) (pa_cons (pv 2) pa_nil))) (nomark _)) (pss_one (ps_ret (pe_lst (pa_cons (pv 4) pa_nil)))) pss_nil)))
      (pss_one (ps_ret (pe_lst (pa_cons pe_int pa_nil))))))))), ?_⟩
    refine ⟨_, rfl, b, _, 0, _, rfl, rfl, hb, rfl, _, rfl, p, CP, dx, _, _, rfl, h1, PC.cl, PC.n_document, rfl, _, rfl, dv, doc s, n, rfl, A.dc, fun H1 e1 => ⟨_, rfl, ?_⟩⟩
    refine ite2 (fun hn => ?_) (fun hn => ?_)
    · rw [if_neg (by rw [hasI_ix, not_tt hn]; exact Bool.false_ne_true)] at k
      exact (k.same e1).one
    have hi : (ixF (doc s) n).isSome = true := not_ff hn
    rw [if_pos (by rw [hasI_ix]; exact hi)] at k
    have k : Gives H Q [ofNat (blameIn n.toNat 0 (past s) 0)] := k
    have n0 : 0 ≤ n := by
      have := toNat_ix hi
      omega
    refine ⟨_, rfl, p, CP, dx, _, _, rfl, e1 _ _ h1, PC.cl, PC.n_history, rfl, h, CH, dxh, _, _, rfl, e1 _ _ h2, HC.cl, HC.n_documents, rfl, _, rfl, p, CP, dx, _, _, rfl, e1 _ _ h1, PC.cl, PC.n_history, rfl, h, CH, dxh, _, _, rfl, e1 _ _ h2, HC.cl, HC.n_position, rfl, _, _, rfl, rfl, _, rfl, ld, dvs, rfl, SqL.of (e1 _ _ h4), fun dc hdc => ?_⟩
    rw [show ((s.done.length : Int) + 1) = ((s.done.length + 1 : Nat) : Int) by omega, cut_to]
    have hdcH : H dc = none := e1.free hdc
    have s2 := e1.trans (Same.upd (o := .lst (dvs.take (s.done.length + 1))) hdc)
    have cT : DpAll K H (dvs.take (s.done.length + 1)) (((List.range (s.done.length + 1)).map fun p => docAt s p).map eDoc) := by
      rw [← past_take, ← map_take1]
      exact h5.take (s.done.length + 1)
    refine ⟨_, rfl, p, dx, _, rfl, s2 _ _ h1, rfl, p, dx, _, gv, rfl, s2 _ _ h1, rfl, _, rfl, ?_⟩
    rw [grp_bl A]
    have hl20 := G.hl
    have pl := pos_le s
    have main : ∀ (Hm : Hp) (ws : List V), Same H Hm → Hm dc = some (.lst ws) → DpAll K Hm ws ((past s).map eDoc) → ws.length ≤ 22 → 1 ≤ ws.length →
        ∃ (Pv : Nat → L2.St → Hp → Prop), Pv 0 [some (.ref p), some (.ref b), some (.int n), some (.ref dc), none] Hm ∧
          (∀ i σ H', Pv i σ H' → i ≤ ws.length - 1 → ∃ v4, σ = [some (.ref p), some (.ref b), some (.int n), some (.ref dc), v4] ∧ Same H H' ∧ H' dc = some (.lst ws) ∧ DpAll K H' ws ((past s).map eDoc) ∧ blameIn n.toNat 0 ((past s).take (ws.length - i)) 0 = blameIn n.toNat 0 (past s) 0) ∧
          (∀ i v4 H', Same H H' → H' dc = some (.lst ws) → DpAll K H' ws ((past s).map eDoc) → blameIn n.toNat 0 ((past s).take (ws.length - i)) 0 = blameIn n.toNat 0 (past s) 0 → Pv i [some (.ref p), some (.ref b), some (.int n), some (.ref dc), v4] H') := by
      intro Hm ws em hm hw hw22 hw1
      have lw : ws.length = (past s).length := by rw [DpAll.length hw, List.length_map]
      refine ⟨fun i σ H' => ∃ v4, σ = [some (.ref p), some (.ref b), some (.int n), some (.ref dc), v4] ∧ Same H H' ∧ H' dc = some (.lst ws) ∧ DpAll K H' ws ((past s).map eDoc) ∧ blameIn n.toNat 0 ((past s).take (ws.length - i)) 0 = blameIn n.toNat 0 (past s) 0, ⟨none, rfl, em, hm, hw, ?_⟩, fun i σ H' hp _ => hp, fun i v4 H' a1 a2 a3 a4 => ⟨v4, rfl, a1, a2, a3, a4⟩⟩
      rw [Nat.sub_zero, lw, List.take_length]
    have lP : (past s).length = s.done.length + 1 + (if s.group.isSome = true then 1 else 0) := by
      unfold Vanbkd.past
      rw [List.length_append, List.length_map, List.length_range]
      split <;> rfl
    have turn : ∀ (ws : List V) (i : Nat) (H' : Hp), Same H H' → H' dc = some (.lst ws) → DpAll K H' ws ((past s).map eDoc) → i < ws.length - 1 → blameIn n.toNat 0 ((past s).take (ws.length - i)) 0 = blameIn n.toNat 0 (past s) 0 →
        ∃ va vb da db, ws[ws.length - 1 - i]? = some va ∧ ws[ws.length - 1 - i - 1]? = some vb ∧ Dp K H' va (eDoc da) ∧ Dp K H' vb (eDoc db) ∧
          (textI da n = textI db n → blameIn n.toNat 0 ((past s).take (ws.length - (i + 1))) 0 = blameIn n.toNat 0 (past s) 0) ∧ (textI da n ≠ textI db n → ofNat (blameIn n.toNat 0 (past s) 0) = ((ws.length - 1 - i : Nat) : Int)) := by
      intro ws i H' e' hd' hw' hi' hb'
      have lw : ws.length = (past s).length := by rw [DpAll.length hw', List.length_map]
      obtain ⟨da, hda⟩ : ∃ da, (past s)[ws.length - 1 - i]? = some da := ⟨(past s)[ws.length - 1 - i], List.getElem?_eq_getElem (by omega)⟩
      obtain ⟨db, hdb⟩ : ∃ db, (past s)[ws.length - 1 - i - 1]? = some db := ⟨(past s)[ws.length - 1 - i - 1], List.getElem?_eq_getElem (by omega)⟩
      obtain ⟨va, hva, hva'⟩ := DpAll.get hw' (i := ws.length - 1 - i) (d := eDoc da) (by rw [List.getElem?_map, hda]; rfl)
      obtain ⟨vb, hvb, hvb'⟩ := DpAll.get hw' (i := ws.length - 1 - i - 1) (d := eDoc db) (by rw [List.getElem?_map, hdb]; rfl)
      have e1 : (past s).take (ws.length - i) = (past s).take (ws.length - 1 - i - 1) ++ [db, da] := by
        rw [show ws.length - i = ws.length - 1 - i - 1 + 1 + 1 by omega, List.take_add_one, List.take_add_one, hdb, show ws.length - 1 - i - 1 + 1 = ws.length - 1 - i by omega, hda]
        simp
      have e2 : (past s).take (ws.length - (i + 1)) = (past s).take (ws.length - 1 - i - 1) ++ [db] := by
        rw [show ws.length - (i + 1) = ws.length - 1 - i - 1 + 1 by omega, List.take_add_one, hdb]
        rfl
      rw [e1, blame_snoc] at hb'
      refine ⟨va, vb, da, db, hva, hvb, hva', hvb', fun z => ?_, fun z => ?_⟩
      · rw [textI_eq n0, textI_eq n0] at z
        rw [if_pos z.symm] at hb'
        rw [e2]
        exact hb'
      · rw [textI_eq n0, textI_eq n0] at z
        rw [if_neg (fun y => z y.symm), List.length_take] at hb'
        rw [← hb']
        unfold ofNat
        omega
    cases q : s.group with
    | none =>
      refine iteF ?_
      have hw : DpAll K (upd H1 dc (.lst (dvs.take (s.done.length + 1)))) (dvs.take (s.done.length + 1)) ((past s).map eDoc) := by
        have : past s = (List.range (s.done.length + 1)).map fun p => docAt s p := by
          unfold Vanbkd.past
          rw [q]
          simp
        rw [this]
        exact DpAll.same s2 (by rw [← past_take]; exact tupds_docs _) cT
      have lw : (dvs.take (s.done.length + 1)).length = (past s).length := by rw [DpAll.length hw, List.length_map]
      have lw2 : (dvs.take (s.done.length + 1)).length = s.done.length + 1 := by rw [lw, lP, q]; rfl
      generalize dvs.take (s.done.length + 1) = ws at hw lw lw2 s2 hdc ⊢
      obtain ⟨Pv, p0, pOut, pIn⟩ := main _ ws s2 upd_same hw (by omega) (by omega)
      refine ⟨_, rfl, dc, ws, rfl, .inl (SqL.of upd_same), _, _, rfl, rfl, 1, rfl, (ws.length : Int) - 1, 0, -1, ((ws.length : Int) - 1 - 0).toNat, rfl, RgC.neg (by omega) (by omega) (by omega) (by omega), for_rangeC (lo := (ws.length : Int) - 1) (c := -1) (n := ((ws.length : Int) - 1 - 0).toNat) Pv p0 ?_ ?_⟩
      · intro i σ H' hi hp
        obtain ⟨v4, rfl, e', hd', hw', hb'⟩ := pOut i σ H' hp (by omega)
        obtain ⟨va, vb, da, db, hva, hvb, hva', hvb', keq, kne⟩ := turn ws i H' e' hd' hw' (by omega) hb'
        have ei : (ws.length : Int) - 1 + (i : Nat) * (-1) = ((ws.length - 1 - i : Nat) : Int) := by omega
        rw [ei]
        refine ⟨_, rfl, _, rfl, dc, ws, _, va, rfl, rfl, SqL.of hd', atI_nat hva, _, rfl, va, da, n, rfl, hva', fun u1 H2 e2 hu1 => ?_⟩
        refine ⟨_, rfl, _, rfl, _, _, rfl, rfl, dc, ws, _, vb, rfl, rfl, SqL.of (e2 _ _ hd'), at_of (j := ws.length - 1 - i - 1) (by omega) hvb, _, rfl, vb, db, n, rfl, Dp.same e2 (tupd_doc db) hvb', fun u2 H3 e3 hu2 => ?_⟩
        refine ⟨_, _, Dp.same e3 (tupd_optT _) hu1, hu2, shaped_optT _, shaped_optT _, _, rfl, ?_⟩
        rw [eqv_optT]
        have e13 := (e'.trans e2).trans e3
        refine ite2 (fun hne => ?_) (fun hne => ?_)
        · have hne' : textI da n ≠ textI db n := of_decide_eq_false (not_tt hne)
          refine ⟨_, rfl, ?_⟩
          have kk := (k.same e13).one
          rw [kne hne'] at kk
          exact kk
        · have heq : textI da n = textI db n := of_decide_eq_true (not_ff hne)
          exact pIn (i + 1) _ H3 e13 (e3 _ _ (e2 _ _ hd')) (DpAll.same (e2.trans e3) (tupds_docs _) hw') (keq heq)
      · intro σ H' hp
        obtain ⟨v4, rfl, e', hd', hw', hb'⟩ := pOut _ σ H' hp (by omega)
        have kk := (k.same e').one
        have hz : blameIn n.toNat 0 (past s) 0 = 0 := by
          rw [← hb', show ws.length - ((ws.length : Int) - 1 - 0).toNat = 1 by omega]
          cases r : past s with
          | nil => rfl
          | cons x y => rfl
        rw [hz] at kk
        exact kk
    | some es =>
      refine iteT ?_
      refine ⟨_, rfl, .inl ⟨rfl, _, SqL.of upd_same⟩, _, rfl, p, CP, dx, _, _, rfl, s2 _ _ h1, PC.cl, PC.n_document, rfl, dc, _, _, rfl, rfl, upd_same, (by rw [DpAll.length cT, List.length_map, List.length_map, List.length_range]; omega), ?_⟩
      rw [upd_upd]
      have s3 := e1.trans (Same.upd (o := .lst (dvs.take (s.done.length + 1) ++ [dv])) hdc)
      have hw : DpAll K (upd H1 dc (.lst (dvs.take (s.done.length + 1) ++ [dv]))) (dvs.take (s.done.length + 1) ++ [dv]) ((past s).map eDoc) := by
        have : past s = ((List.range (s.done.length + 1)).map fun p => docAt s p) ++ [doc s] := by
          unfold Vanbkd.past
          rw [q]
          simp
        rw [this, List.map_append]
        exact (DpAll.same s3 (by rw [← past_take]; exact tupds_docs _) cT).append (.cons (Dp.same s3 (tupd_doc _) A.dc) .nil)
      have lw : (dvs.take (s.done.length + 1) ++ [dv]).length = (past s).length := by rw [DpAll.length hw, List.length_map]
      have lw2 : (dvs.take (s.done.length + 1) ++ [dv]).length = s.done.length + 2 := by rw [lw, lP, q]; rfl
      generalize dvs.take (s.done.length + 1) ++ [dv] = ws at hw lw lw2 s3 ⊢
      obtain ⟨Pv, p0, pOut, pIn⟩ := main _ ws s3 upd_same hw (by omega) (by omega)
      refine ⟨_, rfl, dc, ws, rfl, .inl (SqL.of upd_same), _, _, rfl, rfl, 1, rfl, (ws.length : Int) - 1, 0, -1, ((ws.length : Int) - 1 - 0).toNat, rfl, RgC.neg (by omega) (by omega) (by omega) (by omega), for_rangeC (lo := (ws.length : Int) - 1) (c := -1) (n := ((ws.length : Int) - 1 - 0).toNat) Pv p0 ?_ ?_⟩
      · intro i σ H' hi hp
        obtain ⟨v4, rfl, e', hd', hw', hb'⟩ := pOut i σ H' hp (by omega)
        obtain ⟨va, vb, da, db, hva, hvb, hva', hvb', keq, kne⟩ := turn ws i H' e' hd' hw' (by omega) hb'
        have ei : (ws.length : Int) - 1 + (i : Nat) * (-1) = ((ws.length - 1 - i : Nat) : Int) := by omega
        rw [ei]
        refine ⟨_, rfl, _, rfl, dc, ws, _, va, rfl, rfl, SqL.of hd', atI_nat hva, _, rfl, va, da, n, rfl, hva', fun u1 H2 e2 hu1 => ?_⟩
        refine ⟨_, rfl, _, rfl, _, _, rfl, rfl, dc, ws, _, vb, rfl, rfl, SqL.of (e2 _ _ hd'), at_of (j := ws.length - 1 - i - 1) (by omega) hvb, _, rfl, vb, db, n, rfl, Dp.same e2 (tupd_doc db) hvb', fun u2 H3 e3 hu2 => ?_⟩
        refine ⟨_, _, Dp.same e3 (tupd_optT _) hu1, hu2, shaped_optT _, shaped_optT _, _, rfl, ?_⟩
        rw [eqv_optT]
        have e13 := (e'.trans e2).trans e3
        refine ite2 (fun hne => ?_) (fun hne => ?_)
        · have hne' : textI da n ≠ textI db n := of_decide_eq_false (not_tt hne)
          refine ⟨_, rfl, ?_⟩
          have kk := (k.same e13).one
          rw [kne hne'] at kk
          exact kk
        · have heq : textI da n = textI db n := of_decide_eq_true (not_ff hne)
          exact pIn (i + 1) _ H3 e13 (e3 _ _ (e2 _ _ hd')) (DpAll.same (e2.trans e3) (tupds_docs _) hw') (keq heq)
      · intro σ H' hp
        obtain ⟨v4, rfl, e', hd', hw', hb'⟩ := pOut _ σ H' hp (by omega)
        have kk := (k.same e').one
        have hz : blameIn n.toNat 0 (past s) 0 = 0 := by
          rw [← hb', show ws.length - ((ws.length : Int) - 1 - 0).toNat = 1 by omega]
          cases r : past s with
          | nil => rfl
          | cons x y => rfl
        rw [hz] at kk
        exact kk
end
end CP
namespace CP
open PySem PySem.Spec PyProof.Rows L2 CM
open Vanbkd (Doc Cell Text Edit State Call Answer ofNat nats markOf apply applyAll doc history open_ docAt found textOf bytes hasI lengthOf textIn tellText tellDoc tellEdit told differences has find blameIn past)
def hits (x : Text) (c : Cell) : List (Int × Int) := (found x c.text).map fun p => (ofNat c.number, ofNat p)
section
variable {P : Program} {w : World} {K : PySem.W.Frag} {mg : Str → Option Value} {base : Heap} {CP CH : Addr}
theorem sc_answer_find : FnScope ["pad", "arguments", "wanted", "pairs", "cell", "place"] ["pad", "arguments"] (defScope s_answer_find) := scM
theorem args_r {H : Hp} {u : V} {x : List Int} (h : Dp K H u (eArgs [] [x])) : ∃ b xv, u = .ref b ∧ SqT K H b [xv] ∧ Dp K H xv (eInts x) := by
  obtain ⟨b, xs, rfl, hb, hxs⟩ := (dp_tup (ds := [eInts x])).mp h
  simp only [dpa_cons, dpa_nil, dp_int] at hxs
  obtain ⟨xv, _, rfl, hxv, rfl⟩ := hxs
  exact ⟨b, xv, rfl, hb, hxv⟩
theorem ok_answer_find (T : Txt mg) (N : Nums mg) (PC : PadC K CP) (C : CellsOk P w K mg base) (R : RefOk P w K mg base CP) (O : TellOk P w K mg base) (F : Top K mg "answer_find" s_answer_find) :
    FnAt P w K mg base "answer_find" 5 ["pad", "arguments"] (spTel K CP CH fun c => ∃ x, c = .find x) := by
  refine F.at_ ub2 fun f fd F => F.ok (k := 4) sc_answer_find (fun vs H Q E h => ?_) (fun cdv A outer s H vs Q E hr h => ?_)
  · obtain ⟨p, s, F, c, u, rfl, _⟩ := h
    rfl
  · obtain ⟨p, s, F, c, u, rfl, A0, G, hu, hl, ⟨x, rfl⟩, k⟩ := h
    obtain ⟨b, xv, rfl, hb, hxv⟩ := args_r hu
    obtain ⟨xa, rfl, hxa⟩ := ints_iff.mp hxv
    obtain ⟨h, ls, ld, dv, gv, A, hF⟩ := id A0
    obtain ⟨dx, h1⟩ := A.obj
    have W := G.doc.2.wf
    have hdv := A.dc
    have hx4 := hl x (by simp [rowC])
    have F_are_bytes := R.are_bytes
    have F_places_found := C.places_found
    have F_text_of := C.text_of
    have F_number_of := C.number_of
    have F_tell_pairs := O.tell_pairs
    have SC := sc_answer_find
    have big : (10000 : Nat) < sizeLine := by decide
    have k : Gives H Q (VanbkdNeutral.encode (if bytes x = false then ⟨-4, []⟩ else if x.isEmpty = true then ⟨-17, []⟩ else
      ⟨ofNat ((doc s).flatMap fun c => (found (textOf x) c.text).map fun p => (c.number, p)).length, ((doc s).flatMap fun c => (found (textOf x) c.text).map fun p => (c.number, p)).flatMap fun z => [ofNat z.1, ofNat z.2]⟩)) := k
    generalize doc s = d at k W hdv
    obtain ⟨ad, ds, rfl, hds, hdc⟩ := doc_iff.mp hdv
    have ld' : ds.length = d.length := by rw [DpAll.length hdc, List.length_map]
    refine ⟨_, (pss_cons (ps_set (i := 2) SC.nd rfl (Or.inl rfl) (pe_ix ix_tup (pv 1) pe_int (fun _ _ => rfl)))
      (pss_cons (ps_if (pt_not (pt_val (pe_fn F_are_bytes (hr.mono (by decide)) rfl (pa_cons (pv 2) pa_nil)))) (pss_one (ps_ret (pe_lst (pa_cons (pe_gint rfl N.c_NO_BYTE) pa_nil)))) pss_nil)
      (pss_cons (ps_if (pt_cmpR op_eq (pe_callB call_len_seq (by rfl) T.b_len PySem.boot_len (pa_cons (pv 2) pa_nil)) pe_int (nomark _)) (pss_one (ps_ret (pe_lst (pa_cons (pe_gint rfl N.c_EMPTY_TEXT) pa_nil)))) pss_nil)
      (pss_cons (ps_set (i := 3) SC.nd rfl (Or.inl rfl) (pe_lst pa_nil))
      (pss_cons (ps_for PassesOwn.never rfl (pi_tup (pe_fld (pv 0) rfl)) (pg_name (i := 4) SC.nd rfl (Or.inl rfl)) (pss_one (ps_for PassesOwn.never rfl (pi_list (pe_fn F_places_found (hr.mono (by decide)) rfl (pa_cons (pe_fn F_text_of (hr.mono (by decide)) rfl (pa_cons (pv 4) pa_nil)) (pa_cons (pv 2) pa_nil)))) (pg_name (i := 5) SC.nd rfl (Or.inl rfl)) (pss_one (ps_expr (pe_bm PySem.F.plainAttrs_list PySem.F.slot_list_append PySem.F.type_list_append mt_append (pv 3) (pa_cons (pe_tup (pa_cons (pe_fn F_number_of (hr.mono (by decide)) rfl (pa_cons (pv 4) pa_nil)) (pa_cons (pv 5) pa_nil))) pa_nil)))))))
      (pss_one (ps_ret (pe_fn F_tell_pairs (hr.mono (by decide)) rfl (pa_cons (pv 3) pa_nil))))))))), ?_⟩
    refine ⟨_, rfl, b, _, 0, _, rfl, rfl, hb, rfl, _, rfl, _, x, rfl, hxv, Nat.le_trans hx4 (by decide), fun H1 e1 => ⟨_, rfl, ?_⟩⟩
    refine ite2 (fun hn => ?_) (fun hn => ?_)
    · rw [if_pos (not_tt hn)] at k
      exact (k.same e1).one
    have hbx : bytes x = true := not_ff hn
    rw [if_neg (by rw [hbx]; decide)] at k
    refine ⟨_, rfl, xa, _, rfl, .inr (e1.tup hxa), rfl, _, rfl, ?_⟩
    rw [List.length_map]
    refine ite2 (fun hz => ?_) (fun hz => ?_)
    · have hz' : (x.length : Int) = 0 := V.int.inj (of_decide_eq_true hz)
      have : x = [] := List.length_eq_zero_iff.mp (by omega)
      rw [if_pos (by rw [this]; rfl)] at k
      exact (k.same e1).one
    have hne : x ≠ [] := fun z => hz (decide_eq_true (by rw [z]; rfl))
    rw [if_neg (by
      cases x with
      | nil => exact absurd rfl hne
      | cons _ _ => exact Bool.false_ne_true)] at k
    have hneT : textOf x ≠ [] := by
      intro z
      apply hne
      cases x with
      | nil => rfl
      | cons _ _ => cases z
    have ex := eText_of hbx
    have em : (d.flatMap fun c => (found (textOf x) c.text).map fun p => (c.number, p)).map (fun z => (ofNat z.1, ofNat z.2)) = d.flatMap (hits (textOf x)) := by
      rw [List.map_flatMap]
      congr 1
      funext c
      unfold hits
      rw [List.map_map]
      rfl
    have k : Gives H Q (((d.flatMap (hits (textOf x))).length : Int) :: pairsI (d.flatMap (hits (textOf x)))) := by
      rw [← em, pairsI_map, List.length_map]
      exact k
    have hlen : ∀ c ∈ d, (hits (textOf x) c).length ≤ 200 := fun c hc => by
      unfold hits
      rw [List.length_map]
      exact Nat.le_trans (found_len _ _) (W.txt c hc)
    have flen : ∀ i, ((d.take i).flatMap (hits (textOf x))).length ≤ 2400 := fun i => by
      have h1 := flatMap_len (l := d.take i) (f := hits (textOf x)) (k := 200) fun c hc => hlen c (List.mem_of_mem_take hc)
      have h2 : (d.take i).length ≤ 12 := by
        have := W.len
        rw [List.length_take]
        omega
      omega
    refine ⟨Nat.zero_le _, fun l hla => ?_⟩
    have hlH : H l = none := e1.free hla
    have s1 := e1.trans (Same.upd (o := .lst []) hla)
    have put : ∀ (H3 : Hp) (pvs : List V) (L : List (Int × Int)) (t : Addr) (n m : Int), Same H H3 → H3 l = some (.lst pvs) → DpAll K H3 pvs (L.map ePair) → H3 t = none →
        Same H (upd (upd H3 t (.tup [.int n, .int m])) l (.lst (pvs ++ [.ref t]))) ∧ DpAll K (upd (upd H3 t (.tup [.int n, .int m])) l (.lst (pvs ++ [.ref t]))) (pvs ++ [.ref t]) ((L ++ [(n, m)]).map ePair) := by
      intro H3 pvs L t n m e3 hl3 hp3 ht3
      have st := Same.upd (o := .tup [.int n, .int m]) ht3
      have oo : Only [l] (upd H3 t (.tup [.int n, .int m])) (upd (upd H3 t (.tup [.int n, .int m])) l (.lst (pvs ++ [.ref t]))) := Only.set (by simp)
      have cc := chg1 (st _ _ hl3) (show Chg (some (.lst pvs)) from True.intro)
      refine ⟨fun c o hc => ?_, ?_⟩
      · rw [upd_ne (ne_of_none hc hlH)]
        exact st _ _ (e3 _ _ hc)
      · rw [List.map_append]
        refine (DpAll.only oo cc (tupds_pairs L) (DpAll.same st (tupds_pairs L) hp3)).append (.cons ?_ .nil)
        refine Dp.only oo cc (by simp [ePair, tupd, tupds]) (dp_tup.mpr ⟨t, _, rfl, SqT.of upd_same, .cons (.int _) (.cons (.int _) .nil)⟩)
    refine ⟨_, rfl, p, CP, dx, _, _, rfl, s1 _ _ h1, PC.cl, PC.n_document, rfl, ad, rfl, ⟨_, s1.tup hds⟩, for_tup (K := K) (a := ad) (xs := ds) (fun i σ H' => ∃ (v4 v5 : Option V) (pvs : List V), σ = [some (.ref p), some (.ref b), some (.ref xa), some (.ref l), v4, v5] ∧ Same H H' ∧ H' l = some (.lst pvs) ∧ DpAll K H' pvs (((d.take i).flatMap (hits (textOf x))).map ePair))
      ⟨none, none, [], rfl, s1, upd_same, .nil⟩ (fun i σ H' _ ⟨_, _, _, _, e, _⟩ => e.tup hds) ?_ ?_⟩
    · rintro i z σ H' hi ⟨v4, v5, pvs, rfl, e, hl', hpv⟩
      obtain ⟨c, hc, hcell⟩ := cell_at hdc hi
      have hcm := List.mem_of_getElem? hc
      have tk : (d.take (i + 1)).flatMap (hits (textOf x)) = (d.take i).flatMap (hits (textOf x)) ++ hits (textOf x) c := by
        rw [List.take_add_one, hc, Option.toList_some, List.flatMap_append, List.flatMap_cons, List.flatMap_nil, List.append_nil]
      refine ⟨_, rfl, z, c, rfl, Dp.same e (tupd_cell c) hcell, fun tv htv => ⟨_, rfl, tv, _, c.text, textOf x, rfl, htv, ?_, hneT, Nat.le_trans (W.txt c hcm) (by decide), fun lp H2 e2 hlp h2 => ?_⟩⟩
      · rw [ex]
        exact Dp.same e (tupd_ints x) hxv
      have lpl : lp ≠ l := fun z => by rw [z, hl'] at hlp; cases hlp
      have f1 := flen i
      have f2 := hlen c hcm
      refine ⟨lp, rfl, ⟨_, SqL.of h2⟩, for_list (K := K) (a := lp) (xs := nv (found (textOf x) c.text)) (fun j σ H3 => ∃ (v5 : Option V) (pvs : List V), σ = [some (.ref p), some (.ref b), some (.ref xa), some (.ref l), some z, v5] ∧ Same H H3 ∧ H3 lp = some (.lst (nv (found (textOf x) c.text))) ∧ H3 l = some (.lst pvs) ∧ DpAll K H3 pvs (((d.take i).flatMap (hits (textOf x)) ++ (hits (textOf x) c).take j).map ePair))
        ⟨v5, pvs, rfl, e.trans e2, h2, e2 _ _ hl', by rw [List.take_zero, List.append_nil]; exact DpAll.same e2 (tupds_pairs _) hpv⟩ (fun j σ H3 _ ⟨_, _, _, _, q, _⟩ => SqL.of q) ?_ ?_⟩
      · rintro j y σ H3 hj ⟨v5, pvs, rfl, e3, hlp3, hl3, hpv3⟩
        obtain ⟨q, hq, rfl⟩ := nv_get hj
        have hh : (hits (textOf x) c)[j]? = some (ofNat c.number, ofNat q) := by
          unfold hits
          rw [List.getElem?_map, hq]
          rfl
        have lpv : pvs.length ≤ 2600 := by
          rw [DpAll.length hpv3, List.length_map, List.length_append, List.length_take]
          omega
        refine ⟨_, rfl, .inl ⟨rfl, _, SqL.of hl3⟩, _, rfl, z, c, rfl, Dp.same e3 (tupd_cell c) hcell, _, rfl, (by show 2 ≤ sizeLine; decide), fun t ht => ?_⟩
        obtain ⟨g1, g2⟩ := put H3 pvs _ t (ofNat c.number) (q : Int) e3 hl3 hpv3 ht
        refine ⟨l, _, _, rfl, rfl, (Same.upd ht) _ _ hl3, (by omega), some (V.int (q : Int)), _, rfl, g1, ?_, upd_same, ?_⟩
        · rw [upd_ne lpl]
          exact (Same.upd ht) _ _ hlp3
        · rw [List.take_add_one, hh, Option.toList_some, ← List.append_assoc]
          exact g2
      · rintro σ H3 ⟨v5, pvs, rfl, e3, hlp3, hl3, hpv3⟩
        have ln : (nv (found (textOf x) c.text)).length = (hits (textOf x) c).length := by
          unfold hits
          rw [nv_len, List.length_map]
        rw [ln, List.take_length, ← tk] at hpv3
        exact ⟨some z, v5, pvs, rfl, e3, hl3, hpv3⟩
    · rintro σ H' ⟨v4, v5, pvs, rfl, e, hl', hpv⟩
      rw [ld', List.take_length] at hpv
      have f1 := flen d.length
      rw [List.take_length] at f1
      exact ⟨_, rfl, l, pvs, _, rfl, hl', hpv, (by omega), k.same e⟩
def TELLINGS : List Str := ["answer_whole", "answer_text", "answer_at", "answer_state", "answer_step", "answer_changed", "answer_blame", "answer_find"]
def telC : Call → Nat
  | .whole => 0 | .text _ => 1 | .at_ _ => 2 | .state => 3 | .step _ => 4 | .changed .. => 5 | .blame _ => 6 | .find _ => 7 | _ => 8
structure AnsOk (P : Program) (w : World) (K : PySem.W.Frag) (mg : Str → Option Value) (base : Heap) (CP CH : Addr) : Prop where
  whole : FnAt P w K mg base "answer_whole" 5 ["pad", "arguments"] (spTel K CP CH fun c => c = .whole)
  text : FnAt P w K mg base "answer_text" 5 ["pad", "arguments"] (spTel K CP CH fun c => ∃ n, c = .text n)
  at_ : FnAt P w K mg base "answer_at" 5 ["pad", "arguments"] (spTel K CP CH fun c => ∃ q, c = .at_ q)
  state : FnAt P w K mg base "answer_state" 5 ["pad", "arguments"] (spTel K CP CH fun c => c = .state)
  step : FnAt P w K mg base "answer_step" 5 ["pad", "arguments"] (spTel K CP CH fun c => ∃ q, c = .step q)
  changed : FnAt P w K mg base "answer_changed" 5 ["pad", "arguments"] (spTel K CP CH fun c => ∃ a b, c = .changed a b)
  blame : FnAt P w K mg base "answer_blame" 5 ["pad", "arguments"] (spTel K CP CH fun c => ∃ n, c = .blame n)
  find : FnAt P w K mg base "answer_find" 5 ["pad", "arguments"] (spTel K CP CH fun c => ∃ x, c = .find x)
def spTelling (K : PySem.W.Frag) (CP CH : Addr) : Sp := fun vs H Q _ => ∃ (p : Addr) (s : State) (F : List Addr) (c : Call) (u : V), vs = [.ref p, .int (telC c : Int), u] ∧ telC c < 8 ∧ PadAt K CP CH H p s F ∧ Good s ∧ Dp K H u (eArgs (whC c) (rowC c)) ∧ (∀ r ∈ rowC c, r.length ≤ 400) ∧
  Gives H Q (VanbkdNeutral.encode (told s c))
theorem sc_answer_telling : FnScope ["pad", "which", "arguments"] ["pad", "which", "arguments"] (defScope s_answer_telling) := scM
theorem ok_answer_telling (D : Table K mg "TELLINGS" TELLINGS) (O : AnsOk P w K mg base CP CH) (F : Top K mg "answer_telling" s_answer_telling) : FnAt P w K mg base "answer_telling" 6 ["pad", "which", "arguments"] (spTelling K CP CH) := by
  refine F.at_ ub3 fun f fd F => F.ok (k := 5) sc_answer_telling (fun vs H Q E h => ?_) (fun cdv A outer s H vs Q E hr h => ?_)
  · obtain ⟨p, s, F, c, u, rfl, _⟩ := h
    rfl
  · obtain ⟨p, s, F, c, u, rfl, hj, A0, G, hu, hl, k⟩ := h
    obtain ⟨ra, as, hm, hT, hfs⟩ := D
    refine ⟨_, (pss_one (ps_ret (pe_callV (k := 5) (hr.mono (by decide)) (pe_ix ix_tup (pe_glob (v := V.ref ra) rfl hm rfl) (pv 1) (fun _ _ => rfl)) (pa_cons (pv 0) (pa_cons (pv 2) pa_nil))))), ?_⟩
    have go : ∀ {y : Str} {form : Call → Prop}, FnAt P w K mg base y 5 ["pad", "arguments"] (spTel K CP CH form) → TELLINGS[telC c]? = some y → form c → ∃ f ps sp, atI (as.map V.ref) (telC c : Int) = some (V.ref f) ∧ FnV P w K mg base f 5 ps sp ∧ sp [.ref p, u] H Q E0 := by
      intro y form FA hy hf
      obtain ⟨f, hmf, FV⟩ := FA.toV
      exact ⟨f, _, _, atI_nat (Table.get (K := K) (x := "TELLINGS") (a := f) hfs hy hmf), FV, p, s, F, c, u, rfl, A0, G, hu, hl, hf, k⟩
    have fin : ∃ f ps sp, atI (as.map V.ref) (telC c : Int) = some (V.ref f) ∧ FnV P w K mg base f 5 ps sp ∧ sp [.ref p, u] H Q E0 := by
      cases c with
      | whole => exact go O.whole rfl rfl
      | text n => exact go O.text rfl ⟨_, rfl⟩
      | at_ q => exact go O.at_ rfl ⟨_, rfl⟩
      | state => exact go O.state rfl rfl
      | step q => exact go O.step rfl ⟨_, rfl⟩
      | changed a b => exact go O.changed rfl ⟨_, _, rfl⟩
      | blame n => exact go O.blame rfl ⟨_, rfl⟩
      | find x => exact go O.find rfl ⟨_, rfl⟩
      | _ => exact absurd hj (Nat.lt_irrefl 8)
    obtain ⟨f', ps, sp, h1, h2, h3⟩ := fin
    exact ⟨_, rfl, ra, _, _, _, rfl, rfl, hT H, h1, f', ps, sp, rfl, h2, _, rfl, _, rfl, h3⟩
end
end CP
namespace CP
open PySem PySem.Spec PyProof.Rows L2 CM
def Fz (K : PySem.W.Frag) (H : Hp) (a : Addr) (xs : List V) : Prop := (∃ o, H a = some (.frz o (.lst xs))) ∨
  ∃ (o : Obj) (its : Array Value) (n : Nat), K.lookup a = some o ∧ o.cls = .type "list" ∧ o.dict = none ∧ o.data = .seq its n ∧ its.size ≤ sizeLine ∧ Vals xs its.toList
theorem Fz.sql {K : PySem.W.Frag} {H : Hp} {a : Addr} {xs : List V} (h : Fz K H a xs) : SqL K H a xs := by
  rcases h with ⟨o, h⟩ | h
  · exact .inl (.inr ⟨o, h⟩)
  · exact .inr h
theorem Fz.keep {K : PySem.W.Frag} {H H' : Hp} {a : Addr} {xs : List V} (h : Fz K H a xs) (e : TKeep H H') : Fz K H' a xs := by
  rcases h with ⟨o, h⟩ | h
  · exact .inl ⟨o, e.2 _ _ _ h⟩
  · exact .inr h
structure ReadCls (K : PySem.W.Frag) (CR : Addr) : Prop where
  cl : Cls K CR
  n_numbers : NoAttr K CR "numbers"
  n_place : NoAttr K CR "place"
def readF (a : Addr) (i : Nat) : List (Str × V) := [("numbers", .ref a), ("place", .int (i : Int))]
structure ReadAt (K : PySem.W.Frag) (CR : Addr) (H : Hp) (r a : Addr) (ns : List Int) (i : Nat) : Prop where
  obj : ∃ dx, H r = some (.ins CR dx (readF a i))
  nums : Fz K H a (iv ns)
theorem ReadAt.only {K : PySem.W.Frag} {CR : Addr} {F : List Addr} {H H' : Hp} {r a : Addr} {ns : List Int} {i : Nat} (A : ReadAt K CR H r a ns i) (o : Only F H H') (c : ∀ b ∈ F, Chg (H b)) (hr : r ∉ F) : ReadAt K CR H' r a ns i := by
  obtain ⟨dx, h1⟩ := A.obj
  exact ⟨⟨dx, o _ _ h1 hr⟩, A.nums.keep (o.keep c)⟩
theorem ReadAt.same {K : PySem.W.Frag} {CR : Addr} {H H' : Hp} {r a : Addr} {ns : List Int} {i : Nat} (A : ReadAt K CR H r a ns i) (e : Same H H') : ReadAt K CR H' r a ns i :=
  A.only (F := []) (Only.of e) (fun b hb => (nil2 hb).elim) (fun z => nil2 z)
def spRInit (K : PySem.W.Frag) (CR : Addr) : Sp := fun vs H Q _ => ∃ (x dx a : Addr) (ns : List Int), vs = [.ref x, .ref a] ∧ H x = some (.ins CR dx []) ∧ Fz K H a (iv ns) ∧
  ∀ H', Only [x] H H' → ReadAt K CR H' x a ns 0 → Q .non H'
def spBehind (K : PySem.W.Frag) (CR : Addr) : Sp := fun vs H Q _ => ∃ (r a : Addr) (ns : List Int) (i : Nat), vs = [.ref r] ∧ ReadAt K CR H r a ns i ∧ Q (.bl (decide (ns.length ≤ i))) H
def spWhole (K : PySem.W.Frag) (CR : Addr) : Sp := fun vs H Q _ => ∃ (r a : Addr) (ns : List Int) (i : Nat) (n : Int), vs = [.ref r] ∧ ReadAt K CR H r a ns i ∧ ns[i]? = some n ∧
  ∀ H', Only [r] H H' → ReadAt K CR H' r a ns (i + 1) → Q (.int n) H'
def spRow (K : PySem.W.Frag) (CR : Addr) : Sp := fun vs H Q _ => ∃ (r a : Addr) (ns : List Int) (i : Nat) (x t : List Int), vs = [.ref r] ∧ ReadAt K CR H r a ns i ∧ PyFlat.row (ns.drop i) = some (x, t) ∧ ns.length ≤ 100000 ∧
  ∀ v H' i', Only [r] H H' → ReadAt K CR H' r a ns i' → ns.drop i' = t → i < i' → Dp K H' v (eInts x) → Q v H'
def WHOLES : List Int := [1, 1, 2, 1, 2, 2, 1, 2, 0, 0, 0, 0, 0, 0, 1, 1, 0, 1, 1, 0, 1, 2, 1, 0]
def ROWS : List Int := [1, 1, 0, 0, 0, 0, 0, 0, 2, 0, 0, 0, 0, 0, 0, 0, 0, 0, 0, 0, 0, 0, 0, 1]
def TableI (K : PySem.W.Frag) (mg : Str → Option Value) (x : Str) (ns : List Int) : Prop := ∃ a, mg x = some (.ref a) ∧ ∀ H, SqT K H a (iv ns)
def spArgs (K : PySem.W.Frag) (CR : Addr) : Sp := fun vs H Q _ => ∃ (r a : Addr) (ns : List Int) (i p nw nr : Nat) (xs : List (List Int)) (t : List Int), vs = [.ref r, .int (p : Int)] ∧ ReadAt K CR H r a ns i ∧ WHOLES[p]? = some (nw : Int) ∧ ROWS[p]? = some (nr : Int) ∧ nw ≤ 2 ∧ nr ≤ 2 ∧
  nw ≤ (ns.drop i).length ∧ PyFlat.rows nr ((ns.drop i).drop nw) = some (xs, t) ∧ ns.length ≤ 100000 ∧
  ∀ v H' i', Only [r] H H' → ReadAt K CR H' r a ns i' → ns.drop i' = t → i ≤ i' → Dp K H' v (eArgs ((ns.drop i).take nw) xs) → Q v H'
theorem drop_head {α : Type} {l : List α} {i : Nat} {x : α} {r : List α} (h : l.drop i = x :: r) : l[i]? = some x ∧ l.drop (i + 1) = r := by
  have h1 : (l.drop i)[0]? = some x := by rw [h]; rfl
  rw [List.getElem?_drop] at h1
  refine ⟨by simpa using h1, ?_⟩
  have h2 : (l.drop i).drop 1 = r := by rw [h]; rfl
  rw [List.drop_drop] at h2
  exact h2
section
variable {P : Program} {w : World} {K : PySem.W.Frag} {mg : Str → Option Value} {base : Heap} {CR : Addr}
theorem sc_Reader_init : FnScope ["self", "numbers"] ["self", "numbers"] (defScope s_Reader_init) := scM
theorem ok_Reader_init (RC : ReadCls K CR) (F : ITop K mg CR "Reader" "Reader.__init__" s_Reader_init) : MakeAt P w K mg base CR "Reader" 1 ["self", "numbers"] (spRInit K CR) := by
  refine F.at_ ub2 fun f fd F => F.ok (k := 0) sc_Reader_init (fun vs H Q E h => ?_) (fun cdv A outer s H vs Q E hr h => ?_)
  · obtain ⟨x, dx, a, ns, rfl, _⟩ := h
    rfl
  · obtain ⟨x, dx, a, ns, rfl, hx, hz, k⟩ := h
    refine ⟨_, (pss_cons (ps_fld (pv 0) (pv 1) rfl)
      (pss_one (ps_fld (pv 0) pe_int rfl))), ?_⟩
    refine ⟨_, rfl, _, rfl, x, CR, dx, _, rfl, hx, RC.cl, RC.n_numbers, (by show 0 < 1000; decide), ?_⟩
    refine ⟨_, rfl, x, CR, dx, _, rfl, upd_same, RC.cl, RC.n_place, (by show 1 < 1000; decide), ?_⟩
    rw [upd_upd]
    have o : Only [x] H (upd H x (.ins CR dx (readF a 0))) := Only.set (by simp)
    exact k _ o ⟨⟨dx, upd_same⟩, hz.keep (o.keep (chg1 hx True.intro))⟩
theorem sc_Reader_is_behind : FnScope ["self"] ["self"] (defScope s_Reader_is_behind) := scM
theorem ok_Reader_is_behind (T : Txt mg) (RC : ReadCls K CR) (F : MTop K CR "is_behind" "Reader.is_behind" s_Reader_is_behind) : MethAt P w K mg base CR "is_behind" 1 ["self"] (spBehind K CR) := by
  refine F.at_ ub1 fun f fd F => F.ok (k := 0) sc_Reader_is_behind (fun vs H Q E h => ?_) (fun cdv A outer s H vs Q E hr h => ?_)
  · obtain ⟨r, a, ns, i, rfl, _⟩ := h
    rfl
  · obtain ⟨r, a, ns, i, rfl, A, k⟩ := h
    obtain ⟨dx, h1⟩ := A.obj
    refine ⟨_, (pss_one (ps_ret (pe_cmpR op_ge (pe_fld (pv 0) rfl) (pe_callB call_len_seq (by rfl) T.b_len PySem.boot_len (pa_cons (pe_fld (pv 0) rfl) pa_nil)) (nomark _)))), ?_⟩
    refine ⟨_, rfl, r, CR, dx, _, _, rfl, h1, RC.cl, RC.n_place, rfl, _, rfl, r, CR, dx, _, _, rfl, h1, RC.cl, RC.n_numbers, rfl, a, _, rfl, .inl A.nums.sql, _, _, rfl, rfl, ?_⟩
    rw [iv_len]
    have e : decide ((ns.length : Int) ≤ (i : Int)) = decide (ns.length ≤ i) := decide_eq_decide.mpr (by omega)
    show Q (.bl (decide ((ns.length : Int) ≤ (i : Int)))) H
    rw [e]
    exact k
theorem sc_Reader_take_whole : FnScope ["self", "number"] ["self"] (defScope s_Reader_take_whole) := scM
theorem ok_Reader_take_whole (RC : ReadCls K CR) (F : MTop K CR "take_whole" "Reader.take_whole" s_Reader_take_whole) : MethAt P w K mg base CR "take_whole" 1 ["self"] (spWhole K CR) := by
  refine F.at_ ub1 fun f fd F => F.ok (k := 0) sc_Reader_take_whole (fun vs H Q E h => ?_) (fun cdv A outer s H vs Q E hr h => ?_)
  · obtain ⟨r, a, ns, i, n, rfl, _⟩ := h
    rfl
  · obtain ⟨r, a, ns, i, n, rfl, A, hn, k⟩ := h
    obtain ⟨dx, h1⟩ := A.obj
    have SC := sc_Reader_take_whole
    refine ⟨_, (pss_cons (ps_set (i := 1) SC.nd rfl (Or.inl rfl) (pe_ix ix_list (pe_fld (pv 0) rfl) (pe_fld (pv 0) rfl) (fun _ _ => rfl)))
      (pss_cons (ps_fldaug (pv 0) pe_int in_add)
      (pss_one (ps_ret (pv 1))))), ?_⟩
    refine ⟨_, rfl, r, CR, dx, _, _, rfl, h1, RC.cl, RC.n_numbers, rfl, _, rfl, r, CR, dx, _, _, rfl, h1, RC.cl, RC.n_place, rfl, a, _, _, V.int n, rfl, rfl, A.nums.sql, atI_nat (by unfold iv; rw [List.getElem?_map, hn]; rfl), ?_⟩
    refine ⟨_, rfl, r, CR, dx, _, _, rfl, h1, RC.cl, RC.n_place, rfl, _, _, rfl, rfl, dx, _, h1, (by show 2 < 1000; decide), ?_⟩
    have o : Only [r] H (upd H r (.ins CR dx (readF a (i + 1)))) := Only.set (by simp)
    exact ⟨_, rfl, k _ o ⟨⟨dx, upd_same⟩, A.nums.keep (o.keep (chg1 h1 True.intro))⟩⟩
theorem sc_Reader_take_row : FnScope ["self", "length", "row"] ["self"] (defScope s_Reader_take_row) := scM
theorem ok_Reader_take_row (T : Txt mg) (RC : ReadCls K CR) (M_Reader_take_whole : MethAt P w K mg base CR "take_whole" 1 ["self"] (spWhole K CR)) (F : MTop K CR "take_row" "Reader.take_row" s_Reader_take_row) : MethAt P w K mg base CR "take_row" 2 ["self"] (spRow K CR) := by
  refine F.at_ ub1 fun f fd F => F.ok (k := 1) sc_Reader_take_row (fun vs H Q E h => ?_) (fun cdv A outer s H vs Q E hr h => ?_)
  · obtain ⟨r, a, ns, i, x, t, rfl, _⟩ := h
    rfl
  · obtain ⟨r, a, ns, i, x, t, rfl, A, hrow, hz, k⟩ := h
    obtain ⟨n, r', hd, n0, hn, rfl, rfl⟩ := row_some hrow
    obtain ⟨hi, hd1⟩ := drop_head hd
    obtain ⟨dx, h1⟩ := A.obj
    have SC := sc_Reader_take_row
    refine ⟨_, (pss_cons (ps_set (i := 1) SC.nd rfl (Or.inl rfl) (pe_mt0 (pv 0) RC.cl M_Reader_take_whole (hr.mono (by decide))))
      (pss_cons (ps_set (i := 2) SC.nd rfl (Or.inl rfl) (pe_callTy call_tupleA (by rfl) T.b_tuple boot_tuple (pa_cons (pe_slice sl_list (pe_fld (pv 0) rfl) (po_some (pe_fld (pv 0) rfl)) (po_some (pe_op op_add (pe_fld (pv 0) rfl) (pv 1)))) pa_nil)))
      (pss_cons (ps_fldaug (pv 0) (pv 1) in_add)
      (pss_one (ps_ret (pv 2)))))), ?_⟩
    refine ⟨_, rfl, r, dx, _, rfl, h1, rfl, r, a, ns, i, n, rfl, A, hi, fun H1 o1 A1 => ?_⟩
    obtain ⟨dx1, h11⟩ := A1.obj
    refine ⟨_, rfl, r, CR, dx1, _, _, rfl, h11, RC.cl, RC.n_numbers, rfl, _, rfl, r, CR, dx1, _, _, rfl, h11, RC.cl, RC.n_place, rfl, _, rfl, _, rfl, r, CR, dx1, _, _, rfl, h11, RC.cl, RC.n_place, rfl, _, rfl, _, _, rfl, rfl, _, rfl, a, _, rfl, A1.nums.sql, fun q hq => ?_⟩
    have s2 := Same.upd (o := .lst (cutV (iv ns) (some ((i + 1 : Nat) : Int)) (some (((i + 1 : Nat) : Int) + n)))) hq
    refine ⟨q, _, rfl, .inl (SqL.of upd_same), fun t' H2 e2 ht => ?_⟩
    have ec : cutV (iv ns) (some ((i + 1 : Nat) : Int)) (some (((i + 1 : Nat) : Int) + n)) = iv (r'.take n.toNat) := by
      rw [show ((i + 1 : Nat) : Int) + n = ((i + 1 + n.toNat : Nat) : Int) by omega, cut_mid]
      unfold iv
      rw [map_drop1, map_take1, hd1, show i + 1 + n.toNat - (i + 1) = n.toNat by omega]
    rw [ec] at ht
    have e12 := s2.trans e2
    have h12 := e12 _ _ h11
    refine ⟨_, rfl, r, CR, dx1, _, _, rfl, h12, RC.cl, RC.n_place, rfl, _, rfl, _, _, rfl, rfl, dx1, _, h12, (by show 2 < 1000; decide), ?_⟩
    have ef : putF "place" (V.int (((i + 1 : Nat) : Int) + n)) (readF a (i + 1)) = readF a (i + 1 + n.toNat) := by
      rw [show ((i + 1 : Nat) : Int) + n = ((i + 1 + n.toNat : Nat) : Int) by omega]
      rfl
    rw [ef]
    have o3 : Only [r] H2 (upd H2 r (.ins CR dx1 (readF a (i + 1 + n.toNat)))) := Only.set (by simp)
    have c3 := chg1 h12 (show Chg (some (.ins CR dx1 (readF a (i + 1)))) from True.intro)
    have A2 := A1.same e12
    refine ⟨_, rfl, k _ _ (i + 1 + n.toNat) ((o1.trans (Only.of e12)).trans o3) ⟨⟨dx1, upd_same⟩, A2.nums.keep (o3.keep c3)⟩ ?_ (by omega) (Dp.only o3 c3 (tupd_ints _) (ints_iff.mpr ⟨t', rfl, ht⟩))⟩
    rw [← hd1, List.drop_drop]
end
end CP
namespace CP
open PySem PySem.Spec PyProof.Rows L2 CM
section
variable {P : Program} {w : World} {K : PySem.W.Frag} {mg : Str → Option Value} {base : Heap} {CR : Addr}
theorem sc_Reader_take_arguments : FnScope ["self", "call", "arguments", "k"] ["self", "call"] (defScope s_Reader_take_arguments) := scM
theorem ok_Reader_take_arguments (T : Txt mg) (RC : ReadCls K CR) (TW : TableI K mg "WHOLES" WHOLES) (TR : TableI K mg "ROWS" ROWS) (M_Reader_take_whole : MethAt P w K mg base CR "take_whole" 1 ["self"] (spWhole K CR)) (M_Reader_take_row : MethAt P w K mg base CR "take_row" 2 ["self"] (spRow K CR))
    (F : MTop K CR "take_arguments" "Reader.take_arguments" s_Reader_take_arguments) : MethAt P w K mg base CR "take_arguments" 3 ["self", "call"] (spArgs K CR) := by
  refine F.at_ ub2 fun f fd F => F.ok (k := 2) sc_Reader_take_arguments (fun vs H Q E h => ?_) (fun cdv A outer s H vs Q E hr h => ?_)
  · obtain ⟨r, a, ns, i, p, nw, nr, xs, t, rfl, _⟩ := h
    rfl
  · obtain ⟨r, a, ns, i, p, nw, nr, xs, t, rfl, A, hw, hrw, nw2, nr2, hnw, hrows, hz, k⟩ := h
    obtain ⟨wa, hmw, hTW⟩ := TW
    obtain ⟨ra, hmr, hTR⟩ := TR
    obtain ⟨dx, h1⟩ := A.obj
    have SC := sc_Reader_take_arguments
    have big : (10000 : Nat) < sizeLine := by decide
    refine ⟨_, (pss_cons (ps_set (i := 2) SC.nd rfl (Or.inl rfl) (pe_lst pa_nil))
      (pss_cons (ps_for PassesOwn.never rfl (pi_range1 rfl T.b_range (pa_cons (pe_ix ix_tup (pe_glob (v := V.ref wa) rfl hmw rfl) (pv 1) (fun _ _ => rfl)) pa_nil)) (pg_name (i := 3) SC.nd rfl (Or.inl rfl)) (pss_one (ps_expr (pe_bm PySem.F.plainAttrs_list PySem.F.slot_list_append PySem.F.type_list_append mt_append (pv 2) (pa_cons (pe_mt0 (pv 0) RC.cl M_Reader_take_whole (hr.mono (by decide))) pa_nil)))))
      (pss_cons (ps_for PassesOwn.never rfl (pi_range1 rfl T.b_range (pa_cons (pe_ix ix_tup (pe_glob (v := V.ref ra) rfl hmr rfl) (pv 1) (fun _ _ => rfl)) pa_nil)) (pg_name (i := 3) SC.nd rfl (Or.inl rfl)) (pss_one (ps_expr (pe_bm PySem.F.plainAttrs_list PySem.F.slot_list_append PySem.F.type_list_append mt_append (pv 2) (pa_cons (pe_mt0 (pv 0) RC.cl M_Reader_take_row (hr.mono (by decide))) pa_nil)))))
      (pss_one (ps_ret (pe_callTy call_tupleA (by rfl) T.b_tuple boot_tuple (pa_cons (pv 2) pa_nil))))))), ?_⟩
    refine ⟨Nat.zero_le _, fun l hl => ?_⟩
    have s1 := Same.upd (o := .lst []) hl
    have lr : l ≠ r := fun z => by rw [z, h1] at hl; cases hl
    refine ⟨_, rfl, wa, _, _, V.int (nw : Int), rfl, rfl, hTW _, atI_nat (by unfold iv; rw [List.getElem?_map, hw]; rfl), (nw : Int), rfl, (by omega), (by omega), for_range (lo := 0) (n := ((nw : Nat) : Int).toNat) (fun j σ H' => ∃ v3 : Option V, σ = [some (.ref r), some (.int (p : Int)), some (.ref l), v3] ∧ Only [r] H H' ∧ ReadAt K CR H' r a ns (i + j) ∧ H' l = some (.lst (iv ((ns.drop i).take j))))
      ⟨none, rfl, Only.of s1, A.same s1, upd_same⟩ ?_ ?_⟩
    · rintro j σ H' hj ⟨v3, rfl, o, A', hl'⟩
      have hj' : j < nw := by omega
      obtain ⟨n, hn⟩ : ∃ n, (ns.drop i)[j]? = some n := ⟨(ns.drop i)[j], List.getElem?_eq_getElem (by omega)⟩
      have hn2 : ns[i + j]? = some n := by rw [List.getElem?_drop] at hn; exact hn
      obtain ⟨dx', h1'⟩ := A'.obj
      refine ⟨_, rfl, .inl ⟨rfl, _, SqL.of hl'⟩, _, rfl, r, dx', _, rfl, h1', rfl, r, a, ns, i + j, n, rfl, A', hn2, fun H1 o1 A1 => ?_⟩
      have hl1 := o1 _ _ hl' (notin1 lr)
      refine ⟨l, _, _, rfl, rfl, hl1, (by rw [iv_len, List.length_take]; omega), ?_⟩
      have o2 : Only [l] H1 (upd H1 l (.lst (iv ((ns.drop i).take j) ++ [V.int n]))) := Only.set (by simp)
      refine ⟨_, rfl, fun b ob hb nb => ?_, A1.only o2 (chg1 hl1 True.intro) (notin1 lr.symm), ?_⟩
      · rw [upd_ne (ne_of_none hb hl)]
        exact o1 _ _ (o _ _ hb nb) nb
      · rw [upd_same, List.take_add_one, hn]
        unfold iv
        rw [List.map_append]
        rfl
    · rintro σ H0 ⟨v3, rfl, o, A', hl'⟩
      rw [Int.toNat_natCast] at A' hl'
      refine ⟨_, rfl, ra, _, _, V.int (nr : Int), rfl, rfl, hTR _, atI_nat (by unfold iv; rw [List.getElem?_map, hrw]; rfl), (nr : Int), rfl, (by omega), (by omega), for_range (lo := 0) (n := ((nr : Nat) : Int).toNat) (fun j σ H' => ∃ (v3 : Option V) (i' : Nat) (rvs : List V), σ = [some (.ref r), some (.int (p : Int)), some (.ref l), v3] ∧ Only [r] H H' ∧ ReadAt K CR H' r a ns i' ∧ H' l = some (.lst (iv ((ns.drop i).take nw) ++ rvs)) ∧ DpAll K H' rvs ((xs.take j).map eInts) ∧
          PyFlat.rows (nr - j) (ns.drop i') = some (xs.drop j, t) ∧ i ≤ i')
        ⟨v3, i + nw, [], rfl, o, A', by rw [List.append_nil]; exact hl', .nil, by rw [Nat.sub_zero, List.drop_zero, ← List.drop_drop]; exact hrows, by omega⟩ ?_ ?_⟩
      · rintro j σ H' hj ⟨v3, i', rvs, rfl, o, A', hl', hrv, hrs, hii⟩
        have hj' : j < nr := by omega
        rw [show nr - j = (nr - j - 1) + 1 by omega] at hrs
        obtain ⟨x, s', ys, hrow, hrs2, hxs⟩ := rows_succ hrs
        obtain ⟨hx0, hx1⟩ := drop_head hxs
        obtain ⟨dx', h1'⟩ := A'.obj
        have hlr : rvs.length ≤ 2 := by
          rw [DpAll.length hrv, List.length_map, List.length_take]
          omega
        refine ⟨_, rfl, .inl ⟨rfl, _, SqL.of hl'⟩, _, rfl, r, dx', _, rfl, h1', rfl, r, a, ns, i', x, s', rfl, A', hrow, hz, fun v H1 i2 o1 A1 hd2 hi2 hv => ?_⟩
        have hl1 := o1 _ _ hl' (notin1 lr)
        refine ⟨l, _, _, rfl, rfl, hl1, (by rw [List.length_append, iv_len, List.length_take]; omega), ?_⟩
        have o2 : Only [l] H1 (upd H1 l (.lst (iv ((ns.drop i).take nw) ++ rvs ++ [v]))) := Only.set (by simp)
        have c2 := chg1 hl1 (show Chg (some (.lst (iv ((ns.drop i).take nw) ++ rvs))) from True.intro)
        refine ⟨_, i2, rvs ++ [v], rfl, fun b ob hb nb => ?_, A1.only o2 c2 (notin1 lr.symm), by rw [upd_same, List.append_assoc], ?_, ?_, by omega⟩
        · rw [upd_ne (ne_of_none hb hl)]
          exact o1 _ _ (o _ _ hb nb) nb
        · rw [List.take_add_one, hx0, Option.toList_some, List.map_append]
          exact (DpAll.only o2 c2 (tupds_rows _) (DpAll.only o1 (chg1 h1' True.intro) (tupds_rows _) hrv)).append (.cons (Dp.only o2 c2 (tupd_ints x) hv) .nil)
        · rw [hd2, hx1, show nr - (j + 1) = nr - j - 1 by omega]
          exact hrs2
      · rintro σ H' ⟨v3, i', rvs, rfl, o, A', hl', hrv, hrs, hii⟩
        rw [Int.toNat_natCast] at hrv hrs
        rw [Nat.sub_self] at hrs
        obtain ⟨hx, ht⟩ := rows_zero hrs
        have hxt : xs.take nr = xs := by
          have := List.take_append_drop nr xs
          rw [hx, List.append_nil] at this
          exact this
        rw [hxt] at hrv
        refine ⟨_, rfl, l, _, rfl, .inl (SqL.of hl'), fun q H2 e2 hq => ?_⟩
        refine k _ H2 i' (o.trans (Only.of e2)) (A'.same e2) ht.symm hii (dp_tup.mpr ⟨q, _, rfl, hq, ?_⟩)
        exact (DpAll.ints.mpr rfl).append (DpAll.same e2 (tupds_rows xs) hrv)
end
end CP
namespace CP
open PySem PySem.Spec PyProof.Rows L2 CM
open Vanbkd (Doc Cell Text Edit State Call Answer ofNat nats markOf doEdit doHistory told refused)
theorem edit_more {s : State} {c : Call} (h : kindC c < 9) : (doEdit s c).2.more = [] := by
  rw [doEdit_eq h]
  unfold Vanbkd.edited
  split
  · rfl
  · split
    · rfl
    · split <;> rfl
theorem hist_more (s : State) (c : Call) : (doHistory s c).2.more = [] := by
  cases c with
  | begin =>
    show (if s.group.isSome = true then refused s (-11) else ({ s with group := some [] }, (⟨0, []⟩ : Answer))).2.more = []
    split <;> rfl
  | close =>
    cases q : s.group with
    | none =>
      have e : doHistory s .close = refused s (-12) := by
        unfold Vanbkd.doHistory
        rw [q]
      rw [e]
      rfl
    | some es =>
      rw [close_eq q]
  | cancel =>
    cases q : s.group with
    | none =>
      have e : doHistory s .cancel = refused s (-12) := by
        unfold Vanbkd.doHistory
        rw [q]
      rw [e]
      rfl
    | some es =>
      have e : doHistory s .cancel = ({ s with group := none }, ⟨ofNat es.length, []⟩) := by
        unfold Vanbkd.doHistory
        rw [q]
      rw [e]
  | undo =>
    rw [undo_eq]
    split <;> rfl
  | redo =>
    rw [redo_eq]
    split <;> rfl
  | to q =>
    rw [to_eq]
    split <;> rfl
  | strike q =>
    rw [strike_eq]
    split <;> rfl
  | _ => rfl
theorem lt9 {a b : Nat} (h : Nat.blt a b = true) : a < b := Nat.le_of_ble_eq_true h
theorem sorts (s : State) (c : Call) : (kindC c < 9 ∧ numC c = (kindC c : Int) ∧ Vanbkd.step s c = doEdit s c) ∨ (∃ j : Nat, j < 3 ∧ numC c = 9 + (j : Int) ∧ c = grpC j ∧ Vanbkd.step s c = doHistory s c) ∨
    (trvC c < 4 ∧ numC c = 12 + (trvC c : Int) ∧ Vanbkd.step s c = doHistory s c) ∨ (telC c < 8 ∧ numC c = 16 + (telC c : Int) ∧ Vanbkd.step s c = (s, told s c)) := by
  cases c with
  | new a t => exact .inl ⟨lt9 rfl, rfl, rfl⟩
  | write a t => exact .inl ⟨lt9 rfl, rfl, rfl⟩
  | move n a => exact .inl ⟨lt9 rfl, rfl, rfl⟩
  | drop n => exact .inl ⟨lt9 rfl, rfl, rfl⟩
  | hide n m => exact .inl ⟨lt9 rfl, rfl, rfl⟩
  | split n p => exact .inl ⟨lt9 rfl, rfl, rfl⟩
  | join n => exact .inl ⟨lt9 rfl, rfl, rfl⟩
  | swap a b => exact .inl ⟨lt9 rfl, rfl, rfl⟩
  | replace x y => exact .inl ⟨lt9 rfl, rfl, rfl⟩
  | begin => exact .inr (.inl ⟨0, by decide, rfl, rfl, rfl⟩)
  | close => exact .inr (.inl ⟨1, by decide, rfl, rfl, rfl⟩)
  | cancel => exact .inr (.inl ⟨2, by decide, rfl, rfl, rfl⟩)
  | undo => exact .inr (.inr (.inl ⟨lt9 rfl, rfl, rfl⟩))
  | redo => exact .inr (.inr (.inl ⟨lt9 rfl, rfl, rfl⟩))
  | to q => exact .inr (.inr (.inl ⟨lt9 rfl, rfl, rfl⟩))
  | strike q => exact .inr (.inr (.inl ⟨lt9 rfl, rfl, rfl⟩))
  | whole => exact .inr (.inr (.inr ⟨lt9 rfl, rfl, rfl⟩))
  | text n => exact .inr (.inr (.inr ⟨lt9 rfl, rfl, rfl⟩))
  | at_ q => exact .inr (.inr (.inr ⟨lt9 rfl, rfl, rfl⟩))
  | state => exact .inr (.inr (.inr ⟨lt9 rfl, rfl, rfl⟩))
  | step q => exact .inr (.inr (.inr ⟨lt9 rfl, rfl, rfl⟩))
  | changed a b => exact .inr (.inr (.inr ⟨lt9 rfl, rfl, rfl⟩))
  | blame n => exact .inr (.inr (.inr ⟨lt9 rfl, rfl, rfl⟩))
  | find x => exact .inr (.inr (.inr ⟨lt9 rfl, rfl, rfl⟩))
end CP
namespace CP
open PySem PySem.Spec PyProof.Rows L2 CM
open Vanbkd (Doc Cell Text Edit State Call Answer ofNat nats markOf doEdit doHistory told refused)
def spCall (K : PySem.W.Frag) (CP CH : Addr) : Sp := fun vs H Q _ => ∃ (p : Addr) (s : State) (F : List Addr) (c : Call) (u : V), vs = [.ref p, .int (numC c), u] ∧ PadAt K CP CH H p s F ∧ Good s ∧ Dp K H u (eArgs (whC c) (rowC c)) ∧ (∀ r ∈ rowC c, r.length ≤ 400) ∧
  ∀ H' F' l, Stp F F' H H' → (∀ b ∉ F, H b ≠ none → b ≠ l) → l ∉ F' → H' l = some (.lst (iv (VanbkdNeutral.encode (Vanbkd.step s c).2))) → PadAt K CP CH H' p (Vanbkd.step s c).1 F' → Q (.ref l) H'
structure CallOk (P : Program) (w : World) (K : PySem.W.Frag) (mg : Str → Option Value) (base : Heap) (CP CH : Addr) : Prop where
  edit : FnAt P w K mg base "answer_edit" 6 ["pad", "kind", "arguments"] (spAnsEdit K CP CH)
  grouping : FnAt P w K mg base "answer_grouping" 5 ["pad", "which"] (spGrouping K CP CH)
  travel : FnAt P w K mg base "answer_travel" 10 ["pad", "which", "arguments"] (spTravel K CP CH)
  telling : FnAt P w K mg base "answer_telling" 6 ["pad", "which", "arguments"] (spTelling K CP CH)
section
variable {P : Program} {w : World} {K : PySem.W.Frag} {mg : Str → Option Value} {base : Heap} {CP CH CR : Addr}
theorem sc_answer_call : FnScope ["pad", "call", "arguments"] ["pad", "call", "arguments"] (defScope s_answer_call) := scM
theorem one_ans {H H1 : Hp} {F F1 : List Addr} {p : Addr} {s1 : State} {Q : VK} {n : Int} {a : Answer} (hn : a.number = n) (hm : a.more = []) (st : Stp F F1 H H1) (A1 : PadAt K CP CH H1 p s1 F1)
    (k : ∀ H' F' l, Stp F F' H H' → (∀ b ∉ F, H b ≠ none → b ≠ l) → l ∉ F' → H' l = some (.lst (iv (VanbkdNeutral.encode a))) → PadAt K CP CH H' p s1 F' → Q (.ref l) H') :
    1 ≤ sizeLine ∧ ∀ l, H1 l = none → Q (.ref l) (upd H1 l (.lst [V.int n])) := by
  refine ⟨by decide, fun l hl => ?_⟩
  have s2 := Same.upd (o := .lst [V.int n]) hl
  refine k _ F1 l (st.trans (Stp.of s2)) (fun b hb hH z => ?_) (fun z => ?_) ?_ (A1.same s2)
  · cases q : H b with
    | none => exact hH q
    | some o =>
      have := st.1 _ _ q hb
      rw [z, hl] at this
      cases this
  · have := A1.chg l z
    rw [hl] at this
    exact this
  · rw [upd_same]
    unfold VanbkdNeutral.encode
    rw [hn, hm]
    rfl
theorem ok_answer_call (N : Nums mg) (O : CallOk P w K mg base CP CH) (F : Top K mg "answer_call" s_answer_call) : FnAt P w K mg base "answer_call" 11 ["pad", "call", "arguments"] (spCall K CP CH) := by
  refine F.at_ ub3 fun f fd F => F.ok (k := 10) sc_answer_call (fun vs H Q E h => ?_) (fun cdv A outer s H vs Q E hr h => ?_)
  · obtain ⟨p, s, F, c, u, rfl, _⟩ := h
    rfl
  · obtain ⟨p, s, F, c, u, rfl, A0, G, hu, hl, k⟩ := h
    have F_answer_edit := O.edit
    have F_answer_grouping := O.grouping
    have F_answer_travel := O.travel
    have F_answer_telling := O.telling
    refine ⟨_, (pss_cons (ps_if (pt_cmpR op_lt (pv 1) (pe_gint rfl N.c_FIRST_GROUPING) (nomark _)) (pss_one (ps_ret (pe_lst (pa_cons (pe_fn F_answer_edit (hr.mono (by decide)) rfl (pa_cons (pv 0) (pa_cons (pv 1) (pa_cons (pv 2) pa_nil)))) pa_nil)))) pss_nil)
      (pss_cons (ps_if (pt_cmpR op_lt (pv 1) (pe_gint rfl N.c_FIRST_TRAVEL) (nomark _)) (pss_one (ps_ret (pe_lst (pa_cons (pe_fn F_answer_grouping (hr.mono (by decide)) rfl (pa_cons (pv 0) (pa_cons (pe_op op_sub (pv 1) (pe_gint rfl N.c_FIRST_GROUPING)) pa_nil))) pa_nil)))) pss_nil)
      (pss_cons (ps_if (pt_cmpR op_lt (pv 1) (pe_gint rfl N.c_FIRST_TELLING) (nomark _)) (pss_one (ps_ret (pe_lst (pa_cons (pe_fn F_answer_travel (hr.mono (by decide)) rfl (pa_cons (pv 0) (pa_cons (pe_op op_sub (pv 1) (pe_gint rfl N.c_FIRST_TRAVEL)) (pa_cons (pv 2) pa_nil)))) pa_nil)))) pss_nil)
      (pss_one (ps_ret (pe_fn F_answer_telling (hr.mono (by decide)) rfl (pa_cons (pv 0) (pa_cons (pe_op op_sub (pv 1) (pe_gint rfl N.c_FIRST_TELLING)) (pa_cons (pv 2) pa_nil))))))))), ?_⟩
    refine ⟨_, rfl, _, _, rfl, rfl, _, rfl, ?_⟩
    rcases sorts s c with ⟨h9, hn, hs⟩ | ⟨j, hj, hn, rfl, hs⟩ | ⟨h4, hn, hs⟩ | ⟨h8, hn, hs⟩
    · rw [hs] at k
      rw [decide_eq_true (show numC c < 9 by omega)]
      refine iteT ?_
      refine ⟨_, rfl, _, rfl, _, rfl, p, s, F, c, u, (by rw [hn]; rfl), h9, A0, G, hu, hl, fun H1 F1 st A1 => ?_⟩
      exact one_ans rfl (edit_more h9) st A1 k
    · rw [hs] at k
      rw [decide_eq_false (show ¬ numC (grpC j) < 9 by omega)]
      refine iteF ⟨_, rfl, _, _, rfl, rfl, _, rfl, ?_⟩
      rw [decide_eq_true (show numC (grpC j) < 12 by omega)]
      refine iteT ?_
      refine ⟨_, rfl, _, rfl, _, _, rfl, rfl, p, s, F, j, (by show [V.ref p, V.int (numC (grpC j) - 9)] = _; rw [hn, show (9 : Int) + (j : Int) - 9 = (j : Int) by omega]), hj, A0, G, fun H1 F1 st A1 => ?_⟩
      exact one_ans rfl (hist_more _ _) st A1 k
    · rw [hs] at k
      rw [decide_eq_false (show ¬ numC c < 9 by omega)]
      refine iteF ⟨_, rfl, _, _, rfl, rfl, _, rfl, ?_⟩
      rw [decide_eq_false (show ¬ numC c < 12 by omega)]
      refine iteF ⟨_, rfl, _, _, rfl, rfl, _, rfl, ?_⟩
      rw [decide_eq_true (show numC c < 16 by omega)]
      refine iteT ?_
      refine ⟨_, rfl, _, rfl, _, _, rfl, rfl, _, rfl, p, s, F, c, u, (by show [V.ref p, V.int (numC c - 12), u] = _; rw [hn, show (12 : Int) + (trvC c : Int) - 12 = (trvC c : Int) by omega]), h4, A0, G, hu, fun H1 F1 st A1 => ?_⟩
      exact one_ans rfl (hist_more _ _) st A1 k
    · rw [hs] at k
      rw [decide_eq_false (show ¬ numC c < 9 by omega)]
      refine iteF ⟨_, rfl, _, _, rfl, rfl, _, rfl, ?_⟩
      rw [decide_eq_false (show ¬ numC c < 12 by omega)]
      refine iteF ⟨_, rfl, _, _, rfl, rfl, _, rfl, ?_⟩
      rw [decide_eq_false (show ¬ numC c < 16 by omega)]
      refine iteF ?_
      refine ⟨_, rfl, _, rfl, _, _, rfl, rfl, _, rfl, p, s, F, c, u, (by show [V.ref p, V.int (numC c - 16), u] = _; rw [hn, show (16 : Int) + (telC c : Int) - 16 = (telC c : Int) by omega]), h8, A0, G, hu, hl, fun l H1 e1 hl1 h1 => ?_⟩
      refine k H1 F l (Stp.of e1) (fun b _ hH z => hH (z ▸ hl1)) (fun z => ?_) h1 (A0.same e1)
      have := A0.chg l z
      rw [hl1] at this
      exact this
end
end CP
namespace CP
open PySem PySem.Spec PyProof.Rows L2 CM
open Vanbkd (Doc Cell Text Edit State Call Answer ofNat nats markOf doEdit doHistory told refused)
def spAnswers (K : PySem.W.Frag) : Sp := fun vs H Q _ => ∃ (a : Addr) (ns : List Int), vs = [.ref a] ∧ Fz K H a (iv ns) ∧ ns.length ≤ 100000 ∧ PyVanbkd.answers_asked ns = true ∧ ∀ H' l, H' l = some (.lst (iv (PyVanbkd.answers ns))) → Q (.ref l) H'
theorem shape_tab (k : Call) : ∃ p nw nr : Nat, numC k = (p : Int) ∧ PyVanbkd.shape (numC k) = some (nw, nr) ∧ WHOLES[p]? = some (nw : Int) ∧ ROWS[p]? = some (nr : Int) ∧ nw ≤ 2 ∧ nr ≤ 2 := by
  cases k with
  | new a t => exact ⟨0, 1, 1, rfl, rfl, rfl, rfl, by decide, by decide⟩
  | write a t => exact ⟨1, 1, 1, rfl, rfl, rfl, rfl, by decide, by decide⟩
  | move n a => exact ⟨2, 2, 0, rfl, rfl, rfl, rfl, by decide, by decide⟩
  | drop n => exact ⟨3, 1, 0, rfl, rfl, rfl, rfl, by decide, by decide⟩
  | hide n m => exact ⟨4, 2, 0, rfl, rfl, rfl, rfl, by decide, by decide⟩
  | split n p => exact ⟨5, 2, 0, rfl, rfl, rfl, rfl, by decide, by decide⟩
  | join n => exact ⟨6, 1, 0, rfl, rfl, rfl, rfl, by decide, by decide⟩
  | swap a b => exact ⟨7, 2, 0, rfl, rfl, rfl, rfl, by decide, by decide⟩
  | replace x y => exact ⟨8, 0, 2, rfl, rfl, rfl, rfl, by decide, by decide⟩
  | begin => exact ⟨9, 0, 0, rfl, rfl, rfl, rfl, by decide, by decide⟩
  | close => exact ⟨10, 0, 0, rfl, rfl, rfl, rfl, by decide, by decide⟩
  | cancel => exact ⟨11, 0, 0, rfl, rfl, rfl, rfl, by decide, by decide⟩
  | undo => exact ⟨12, 0, 0, rfl, rfl, rfl, rfl, by decide, by decide⟩
  | redo => exact ⟨13, 0, 0, rfl, rfl, rfl, rfl, by decide, by decide⟩
  | to q => exact ⟨14, 1, 0, rfl, rfl, rfl, rfl, by decide, by decide⟩
  | strike q => exact ⟨15, 1, 0, rfl, rfl, rfl, rfl, by decide, by decide⟩
  | whole => exact ⟨16, 0, 0, rfl, rfl, rfl, rfl, by decide, by decide⟩
  | text n => exact ⟨17, 1, 0, rfl, rfl, rfl, rfl, by decide, by decide⟩
  | at_ q => exact ⟨18, 1, 0, rfl, rfl, rfl, rfl, by decide, by decide⟩
  | state => exact ⟨19, 0, 0, rfl, rfl, rfl, rfl, by decide, by decide⟩
  | step q => exact ⟨20, 1, 0, rfl, rfl, rfl, rfl, by decide, by decide⟩
  | changed a b => exact ⟨21, 2, 0, rfl, rfl, rfl, rfl, by decide, by decide⟩
  | blame n => exact ⟨22, 1, 0, rfl, rfl, rfl, rfl, by decide, by decide⟩
  | find x => exact ⟨23, 0, 1, rfl, rfl, rfl, rfl, by decide, by decide⟩
structure Left (ns : List Int) (i : Nat) (cs : List (List (List Int))) : Prop where
  calls : ∃ f, PyFlat.calls PyVanbkd.shape f (ns.drop i) = some cs
  asked : ∀ c ∈ cs, VanbkdNeutral.asked1 (PyVanbkd.whole c) = true
theorem Left.nil {ns : List Int} {i : Nat} {cs : List (List (List Int))} (h : Left ns i cs) (hi : ns.length ≤ i) : cs = [] := by
  obtain ⟨f, hf⟩ := h.calls
  rw [List.drop_of_length_le hi] at hf
  exact calls_nil hf
theorem Left.next {ns : List Int} {i : Nat} {cs : List (List (List Int))} (h : Left ns i cs) (hi : ¬ ns.length ≤ i) : ∃ (k : Call) (p nw nr : Nat) (t : List Int) (cs' : List (List (List Int))), ns[i]? = some (numC k) ∧ numC k = (p : Int) ∧ WHOLES[p]? = some (nw : Int) ∧ ROWS[p]? = some (nr : Int) ∧ nw ≤ 2 ∧ nr ≤ 2 ∧
    nw ≤ (ns.drop (i + 1)).length ∧ PyFlat.rows nr ((ns.drop (i + 1)).drop nw) = some (rowC k, t) ∧ (ns.drop (i + 1)).take nw = whC k ∧ (∀ r ∈ rowC k, r.length ≤ 400) ∧ VanbkdNeutral.callOf (encC k) = some k ∧ PyVanbkd.whole (encC k) = encC k ∧ cs = encC k :: cs' ∧ ∀ i', ns.drop i' = t → Left ns i' cs' := by
  obtain ⟨f, hf⟩ := h.calls
  cases hd : ns.drop i with
  | nil =>
    have := congrArg List.length hd
    rw [List.length_drop] at this
    simp at this
    omega
  | cons n r' =>
    obtain ⟨hn, hd1⟩ := drop_head hd
    rw [hd] at hf
    obtain ⟨c, t, cs', hc, ⟨f', hf'⟩, rfl⟩ := calls_cons hf
    obtain ⟨nw, nr, xs, hsh, hl, hrows, hce⟩ := call_some hc
    obtain ⟨k, hke⟩ := shaped_call hsh (List.length_take_of_le hl) (rows_len hrows)
    obtain ⟨sw, sc, sr⟩ := shaped_k k
    have hk1 : c = encC k := hce.trans hke
    have ha := h.asked c (by simp)
    rw [hk1, sw] at ha
    unfold encC at hke
    injection hke with h1 h2
    injection h1 with h3 h4
    obtain ⟨p, nw', nr', hp, hsh', hw, hro, w2, r2⟩ := shape_tab k
    rw [h3, hsh'] at hsh
    cases hsh
    rw [h3] at hn
    subst h2
    refine ⟨k, p, nw, nr, t, cs', hn, hp, hw, hro, w2, r2, by rw [hd1]; exact hl, by rw [hd1]; exact hrows, by rw [hd1]; exact h4, sr ha, sc, sw, by rw [hk1], fun i' hi' => ⟨⟨f', by rw [hi']; exact hf'⟩, fun c' hc' => h.asked c' (by simp [hc'])⟩⟩
structure RMeths (P : Program) (w : World) (K : PySem.W.Frag) (mg : Str → Option Value) (base : Heap) (CR : Addr) : Prop where
  make : MakeAt P w K mg base CR "Reader" 1 ["self", "numbers"] (spRInit K CR)
  is_behind : MethAt P w K mg base CR "is_behind" 1 ["self"] (spBehind K CR)
  take_whole : MethAt P w K mg base CR "take_whole" 1 ["self"] (spWhole K CR)
  take_arguments : MethAt P w K mg base CR "take_arguments" 3 ["self", "call"] (spArgs K CR)
section
variable {P : Program} {w : World} {K : PySem.W.Frag} {mg : Str → Option Value} {base : Heap} {CP CH CR : Addr}
theorem sc_answers : FnScope ["calls", "pad", "reader", "given", "call", "answer"] ["calls"] (defScope s_answers) := scM
theorem ok_answers (T : Txt mg) (RC : ReadCls K CR) (M_Pad : MakeAt P w K mg base CP "Pad" 3 ["self"] (spPInit K CP CH)) (R : RMeths P w K mg base CR) (F_answer_call : FnAt P w K mg base "answer_call" 11 ["pad", "call", "arguments"] (spCall K CP CH)) {f : Addr} {fd : FuncData} (F : Fun K "answers" "answers" s_answers f fd) :
    FnOk P w K mg base CX0 12 f fd ["calls"] (spAnswers K) := by
  refine F.ok (k := 11) sc_answers (fun vs H Q E h => ?_) (fun cdv A outer s H vs Q E hr h => ?_)
  · obtain ⟨a, ns, rfl, _⟩ := h
    rfl
  · obtain ⟨a, ns, rfl, hfz, hz, hask, k⟩ := h
    have M_Reader := R.make
    have SC := sc_answers
    have big : (2000000 : Nat) < sizeLine := by decide
    obtain ⟨cs0, hcs0, h200, hall⟩ : ∃ cs0, PyFlat.calls PyVanbkd.shape ns.length ns = some cs0 ∧ cs0.length ≤ 200 ∧ ∀ c ∈ cs0, VanbkdNeutral.asked1 (PyVanbkd.whole c) = true := by
      unfold PyVanbkd.answers_asked at hask
      rw [calls_eq] at hask
      cases q : PyFlat.calls PyVanbkd.shape ns.length ns with
      | none => rw [q] at hask; cases hask
      | some cs =>
        rw [q] at hask
        have hask : (PyFlat.atMost 200 (cs.map PyVanbkd.whole) && VanbkdNeutral.asked (cs.map PyVanbkd.whole)) = true := hask
        rw [Bool.and_eq_true] at hask
        have h2 := of_decide_eq_true hask.1
        rw [List.length_map] at h2
        refine ⟨cs, rfl, h2, fun c hc => ?_⟩
        have := hask.2
        unfold VanbkdNeutral.asked at this
        rw [Bool.and_eq_true] at this
        exact List.all_eq_true.mp this.1 _ (List.mem_map_of_mem hc)
    have hans : PyVanbkd.answers ns = PyFlat.told (PyFlat.played VanbkdNeutral.step VanbkdNeutral.start (cs0.map PyVanbkd.whole)) := by
      unfold PyVanbkd.answers
      rw [calls_eq, hcs0]
      rfl
    refine ⟨_, (pss_cons (ps_set (i := 1) SC.nd rfl (Or.inl rfl) (pe_mk0 M_Pad (hr.mono (by decide)) rfl))
      (pss_cons (ps_set (i := 2) SC.nd rfl (Or.inl rfl) (pe_mk M_Reader (hr.mono (by decide)) rfl (pa_cons (pv 0) pa_nil)))
      (pss_cons (ps_set (i := 3) SC.nd rfl (Or.inl rfl) (pe_lst pa_nil))
      (pss_cons (ps_while PassesOwn.never (pt_not (pt_val (pe_mt0 (pv 2) RC.cl R.is_behind (hr.mono (by decide))))) (pss_cons (ps_set (i := 4) SC.nd rfl (Or.inl rfl) (pe_mt0 (pv 2) RC.cl R.take_whole (hr.mono (by decide))))
      (pss_cons (ps_set (i := 5) SC.nd rfl (Or.inl rfl) (pe_fn F_answer_call (hr.mono (by decide)) rfl (pa_cons (pv 1) (pa_cons (pv 4) (pa_cons (pe_mt (pv 2) RC.cl R.take_arguments (hr.mono (by decide)) (pa_cons (pv 4) pa_nil)) pa_nil)))))
      (pss_cons (ps_expr (pe_bm PySem.F.plainAttrs_list PySem.F.slot_list_append PySem.F.type_list_append mt_append (pv 3) (pa_cons (pe_callB call_len_seq (by rfl) T.b_len PySem.boot_len (pa_cons (pv 5) pa_nil)) pa_nil)))
      (pss_one (ps_expr (pe_bm PySem.F.plainAttrs_list PySem.F.slot_list_extend PySem.F.type_list_extend mt_extend (pv 3) (pa_cons (pv 5) pa_nil))))))))
      (pss_one (ps_ret (pv 3))))))), ?_⟩
    intro x dx nx ndx nne
    refine ⟨x, dx, rfl, upd_same, fun H1 F1 o1 hF1 A1 => ⟨rfl, ?_⟩⟩
    have s0 : Same H (upd (upd H dx (.own x)) x (.ins CP dx [])) := fun b o hb => by
      rw [upd_ne (ne_of_none hb nx), upd_ne (ne_of_none hb ndx)]
      exact hb
    have fz1 : Fz K H1 a (iv ns) := (hfz.keep s0.keep).keep (o1.keep (chg1 upd_same True.intro))
    refine ⟨_, rfl, fun y dy ny ndy nne2 => ⟨y, dy, a, ns, rfl, upd_same, ?_, fun H2 o2 R2 => ⟨rfl, ?_⟩⟩⟩
    · exact fz1.keep (Same.keep fun b o hb => by
        rw [upd_ne (ne_of_none hb ny), upd_ne (ne_of_none hb ndy)]
        exact hb)
    have s1 : Same H1 (upd (upd H1 dy (.own y)) y (.ins CR dy [])) := fun b o hb => by
      rw [upd_ne (ne_of_none hb ny), upd_ne (ne_of_none hb ndy)]
      exact hb
    have yF : y ∉ F1 := fun z => by
      have := A1.chg y z
      rw [ny] at this
      exact this
    have A2 : PadAt K CP CH H2 x Vanbkd.start F1 := (A1.same s1).only o2 (chg1 upd_same True.intro) (fun b hb z => yF (by
      have : b = y := by simpa using z
      rw [← this]
      exact hb))
    refine ⟨Nat.zero_le _, fun g hg => ?_⟩
    have s3 := Same.upd (o := .lst []) hg
    have gF : g ∉ F1 := fun z => by
      have := A2.chg g z
      rw [hg] at this
      exact this
    refine ⟨fun m σ H' => ∃ (v4 v5 : Option V) (i : Nat) (s : State) (F : List Addr) (cs : List (List (List Int))) (acc : List Int), σ = [some (.ref a), some (.ref x), some (.ref y), some (.ref g), v4, v5] ∧ PadAt K CP CH H' x s F ∧ Good s ∧ ReadAt K CR H' y a ns i ∧ H' g = some (.lst (iv acc)) ∧ y ∉ F ∧ g ∉ F ∧ Left ns i cs ∧ m = cs.length ∧
        acc ++ PyFlat.told (PyFlat.played VanbkdNeutral.step s (cs.map PyVanbkd.whole)) = PyVanbkd.answers ns ∧ acc.length + 5001 * cs.length ≤ 1100000,
      ⟨cs0.length, none, none, 0, Vanbkd.start, F1, cs0, [], rfl, A2.same s3, good_start, R2.same s3, upd_same, yF, gF, ⟨⟨ns.length, by rw [List.drop_zero]; exact hcs0⟩, hall⟩, rfl, by rw [hans]; rfl, by simp; omega⟩, ?_⟩
    rintro m σ H' ⟨v4, v5, i, s, F, cs, acc, rfl, AP, G, AR, hg', yF', gF', L, rfl, hacc, hlen⟩
    obtain ⟨dy', hy⟩ := AR.obj
    have gy : g ≠ y := ne_of hg' hy (fun z => nomatch z)
    refine ⟨_, rfl, y, dy', _, rfl, hy, rfl, y, a, ns, i, rfl, AR, _, rfl, ?_⟩
    refine ite2 (fun hb => ?_) (fun hb => ?_)
    · have hb' : ¬ ns.length ≤ i := of_decide_eq_false (not_tt hb)
      obtain ⟨c, p, nw, nr, t, cs', hn, hp, hw, hro, w2, r2, hnw, hrows, hwh, hrl, hcall, hwh2, rfl, hnext⟩ := L.next hb'
      refine ⟨fun σ' Hx => ∃ m', m' < (encC c :: cs').length ∧ _, fun σ' Hx hx => hx, ?_⟩
      refine ⟨_, rfl, y, dy', _, rfl, hy, rfl, y, a, ns, i, numC c, rfl, AR, hn, fun H3 o3 R3 => ?_⟩
      obtain ⟨dy3, hy3⟩ := R3.obj
      have P3 : PadAt K CP CH H3 x s F := AP.only o3 (chg1 hy True.intro) (fun b hb z => yF' (by
        have : b = y := by simpa using z
        rw [← this]
        exact hb))
      refine ⟨_, rfl, _, rfl, _, rfl, y, dy3, _, rfl, hy3, rfl, _, rfl, y, a, ns, i + 1, p, nw, nr, rowC c, t, (by rw [← hp]; rfl), R3, hw, hro, w2, r2, hnw, hrows, hz, fun u H4 i4 o4 R4 hd4 hi4 hu => ?_⟩
      rw [hwh] at hu
      have P4 : PadAt K CP CH H4 x s F := P3.only o4 (chg1 hy3 True.intro) (fun b hb z => yF' (by
        have : b = y := by simpa using z
        rw [← this]
        exact hb))
      have hg4 : H4 g = some (.lst (iv acc)) := o4 _ _ (o3 _ _ hg' (notin1 gy)) (notin1 gy)
      obtain ⟨dy4, hy4⟩ := R4.obj
      refine ⟨x, s, F, c, u, rfl, P4, G, hu, hrl, fun H5 F5 l st5 hfr hlF h5 P5 => ?_⟩
      have gl : g ≠ l := hfr g gF' (by rw [hg4]; exact fun z => nomatch z)
      have hg5 := st5.1 _ _ hg4 gF'
      have R5 := R4.only st5.1 P4.chg yF'
      obtain ⟨dy5, hy5⟩ := R5.obj
      have yF5 : y ∉ F5 := fun z => by
        rcases st5.2 y z with q | q
        · exact yF' q
        · rw [hy4] at q; cases q
      have gF5 : g ∉ F5 := fun z => by
        rcases st5.2 g z with q | q
        · exact gF' q
        · rw [hg4] at q; cases q
      have sl := step_len G c
      have hl1 : acc.length + 5001 * (cs'.length + 1) ≤ 1100000 := hlen
      refine ⟨_, rfl, .inl ⟨rfl, _, SqL.of hg5⟩, _, rfl, l, _, rfl, .inl (SqL.of h5), g, _, _, rfl, rfl, hg5, (by rw [iv_len]; omega), ?_⟩
      rw [iv_len]
      refine ⟨_, rfl, .inl ⟨rfl, _, SqL.of upd_same⟩, _, rfl, g, l, _, _, rfl, rfl, upd_same, (by rw [upd_ne (Ne.symm gl)]; exact h5), ?_, ?_⟩
      · rw [List.length_append, iv_len, iv_len]
        show _ + 1 + _ ≤ _
        omega
      rw [upd_upd]
      have o6 : ∀ o, Only [g] H5 (upd H5 g o) := fun o => Only.set (by simp)
      have c6 := chg1 hg5 (show Chg (some (.lst (iv acc))) from True.intro)
      refine ⟨cs'.length, Nat.lt_succ_self _, _, _, i4, (Vanbkd.step s c).1, F5, cs', acc ++ ((VanbkdNeutral.encode (Vanbkd.step s c).2).length : Int) :: VanbkdNeutral.encode (Vanbkd.step s c).2, rfl, P5.only (o6 _) c6 (fun b hb z => gF5 (by
        have : b = g := by simpa using z
        rw [← this]
        exact hb)), step_good G c, R5.only (o6 _) c6 (notin1 gy.symm), ?_, yF5, gF5, hnext i4 hd4, rfl, ?_, ?_⟩
      · rw [upd_same, show [V.int ((VanbkdNeutral.encode (Vanbkd.step s c).2).length : Int)] = iv [((VanbkdNeutral.encode (Vanbkd.step s c).2).length : Int)] from rfl, iv_app, iv_app, List.append_assoc]
        rfl
      · rw [← hacc]
        show _ = acc ++ PyFlat.told ((VanbkdNeutral.step s (PyVanbkd.whole (encC c))).2 :: PyFlat.played VanbkdNeutral.step (VanbkdNeutral.step s (PyVanbkd.whole (encC c))).1 (cs'.map PyVanbkd.whole))
        rw [hwh2]
        have es : VanbkdNeutral.step s (encC c) = ((Vanbkd.step s c).1, VanbkdNeutral.encode (Vanbkd.step s c).2) := by
          unfold VanbkdNeutral.step
          rw [hcall]
        rw [es, told_cons, List.append_assoc]
      · rw [List.length_append, List.length_cons]
        omega
    · have hb' : ns.length ≤ i := of_decide_eq_true (not_ff hb)
      have hcs := L.nil hb'
      subst hcs
      have hacc' : acc = PyVanbkd.answers ns := by
        rw [← hacc]
        show acc = acc ++ []
        rw [List.append_nil]
      exact ⟨_, rfl, k H' g (by rw [hg', hacc'])⟩
end
end CP
namespace CP
open PySem PySem.Spec PyProof.Rows L2 CM
def TopK (K : PySem.W.Frag) (x : Str) (st : Stmt) : Prop := ∃ f fd, Fun K x x st f fd ∧ PySem.W.nsIn K mainGlobals x = some (some (.ref f))
theorem topK_mk {K : PySem.W.Frag} {x : Str} {st : Stmt} {f : Addr} {oc : Value} {od an : Option Addr} {osl : Array (Option Value)} {kV doc pm cdv ct : Value} (a : PySem.W.nsIn K mainGlobals x = some (some (.ref f)))
    (l : K.lookup f = some ⟨oc, od, .func (PySem.W.fnOf x x (defArgs st) (defBody st) (defScope st) .none kV doc pm an cdv ct), osl⟩) (c : PySem.W.codeIn K cdv x = true) (k : PySem.W.keepIn K (.ref f) = true) : TopK K x st := ⟨f, _, fun_mk l c k, a⟩
theorem TopK.top {K : PySem.W.Frag} {h : Heap} {mg : Str → Option Value} {x : Str} {st : Stmt} (T : TopK K x st) (X : K.In h) (G : h.Ns mainGlobals mg) : Top K mg x st := by
  obtain ⟨f, fd, F, a⟩ := T
  exact ⟨f, fd, F, PySem.W.mg_of X G a⟩
theorem mtop_mk {K : PySem.W.Frag} {C : Addr} {m qual : Str} {st : Stmt} {f : Addr} {oc : Value} {od an : Option Addr} {osl : Array (Option Value)} {kV doc pm cdv ct : Value} (a : PySem.W.findIn K (.ref C) m = some (some (.ref f))) (i : PySem.W.isFn K (.ref f) = true)
    (l : K.lookup f = some ⟨oc, od, .func (PySem.W.fnOf m qual (defArgs st) (defBody st) (defScope st) .none kV doc pm an cdv ct), osl⟩) (c : PySem.W.codeIn K cdv qual = true) (k : PySem.W.keepIn K (.ref f) = true) : MTop K C m qual st := ⟨f, _, fun_mk l c k, ⟨a, i, k⟩⟩
def InitK (K : PySem.W.Frag) (C : Addr) (qual : Str) (st : Stmt) : Prop := ∃ f fd, Fun K "__init__" qual st f fd ∧ Mk K C f
theorem initK_mk {K : PySem.W.Frag} {C : Addr} {qual : Str} {st : Stmt} {f : Addr} {oc : Value} {od an : Option Addr} {osl : Array (Option Value)} {kV doc pm cdv ct : Value} (a : PySem.W.findIn K (.ref C) "__init__" = some (some (.ref f))) (i : PySem.W.isFn K (.ref f) = true)
    (l : K.lookup f = some ⟨oc, od, .func (PySem.W.fnOf "__init__" qual (defArgs st) (defBody st) (defScope st) .none kV doc pm an cdv ct), osl⟩) (c : PySem.W.codeIn K cdv qual = true) (k : PySem.W.keepIn K (.ref f) = true) (mk : PySem.W.makesIn K C = true) (kc : PySem.W.keepIn K (.ref C) = true) : InitK K C qual st :=
  ⟨f, _, fun_mk l c k, ⟨mk, a, i, kc⟩⟩
def ClsK (K : PySem.W.Frag) (C : Addr) : Prop := PySem.W.plainGet K C Str.empty = true ∧ PySem.W.hasDictIn K C = true ∧ PySem.W.plainOver K C = true ∧ PySem.W.findIn K (.ref C) "__setattr__" = some (some (.builtin "object.__setattr__"))
theorem ClsK.cls {K : PySem.W.Frag} {C : Addr} (h : ClsK K C) : Cls K C := ⟨h.1, h.2.1, h.2.2.1, h.2.2.2⟩
def refsOf (us : List Value) : List Addr := us.filterMap fun u => match u with
  | .ref a => some a
  | _ => none
theorem vals_refs : ∀ as : List Addr, Vals (as.map V.ref) (as.map Value.ref)
  | [] => .nil
  | a :: r => .cons rfl (vals_refs r)
def TabK (K : PySem.W.Frag) (x : Str) (fs : List Str) : Prop := ∃ (a : Addr) (od : Option Addr) (its : Array Value) (n : Nat) (osl : Array (Option Value)), PySem.W.nsIn K mainGlobals x = some (some (.ref a)) ∧ K.lookup a = some ⟨.type "tuple", od, .seq its n, osl⟩ ∧ its.size ≤ sizeLine ∧
  its.toList = (refsOf its.toList).map Value.ref ∧ fs.map (fun y => PySem.W.nsIn K mainGlobals y) = (refsOf its.toList).map fun b => some (some (Value.ref b))
theorem TabK.tab {K : PySem.W.Frag} {h : Heap} {mg : Str → Option Value} {x : Str} {fs : List Str} (T : TabK K x fs) (X : K.In h) (G : h.Ns mainGlobals mg) : Table K mg x fs := by
  obtain ⟨a, od, its, n, osl, h1, h2, h3, h4, h5⟩ := T
  refine ⟨a, refsOf its.toList, PySem.W.mg_of X G h1, fun H => .inr ⟨_, its, n, h2, rfl, rfl, h3, ?_⟩, ?_⟩
  · have := vals_refs (refsOf its.toList)
    rw [← h4] at this
    exact this
  · have key : ∀ (l : List Str) (bs : List Addr), (l.map fun y => PySem.W.nsIn K mainGlobals y) = (bs.map fun b => some (some (Value.ref b))) → l.map mg = bs.map fun b => some (Value.ref b) := by
      intro l
      induction l with
      | nil => intro bs hb; cases bs with
        | nil => rfl
        | cons _ _ => cases hb
      | cons y r ih => intro bs hb; cases bs with
        | nil => cases hb
        | cons b bs =>
          rw [List.map_cons, List.map_cons] at hb ⊢
          injection hb with e1 e2
          rw [ih bs e2, PySem.W.mg_of X G e1]
    exact key _ _ h5
def intsOf (us : List Value) : List (Option Int) := us.map fun u => match u with
  | .int i _ => some i
  | _ => none
theorem vals_ints : ∀ (ns : List Int) (us : List Value), intsOf us = ns.map some → Vals (iv ns) us
  | [], [], _ => .nil
  | [], _ :: _, h => by cases h
  | _ :: _, [], h => by cases h
  | n :: ns, u :: us, h => by
    unfold intsOf at h
    rw [List.map_cons, List.map_cons] at h
    injection h with e1 e2
    refine .cons ?_ (vals_ints ns us e2)
    cases u <;> first | (cases e1; exact ⟨_, rfl⟩) | cases e1
def TabIK (K : PySem.W.Frag) (x : Str) (ns : List Int) : Prop := ∃ (a : Addr) (od : Option Addr) (its : Array Value) (n : Nat) (osl : Array (Option Value)), PySem.W.nsIn K mainGlobals x = some (some (.ref a)) ∧ K.lookup a = some ⟨.type "tuple", od, .seq its n, osl⟩ ∧ its.size ≤ sizeLine ∧ intsOf its.toList = ns.map some
theorem TabIK.tab {K : PySem.W.Frag} {h : Heap} {mg : Str → Option Value} {x : Str} {ns : List Int} (T : TabIK K x ns) (X : K.In h) (G : h.Ns mainGlobals mg) : TableI K mg x ns := by
  obtain ⟨a, od, its, n, osl, h1, h2, h3, h4⟩ := T
  exact ⟨a, PySem.W.mg_of X G h1, fun H => .inr ⟨_, its, n, h2, rfl, rfl, h3, vals_ints _ _ h4⟩⟩
theorem tabK_mk {K : PySem.W.Frag} {x : Str} {fs : List Str} {a : Addr} {od : Option Addr} {its : Array Value} {n : Nat} {osl : Array (Option Value)} (h1 : PySem.W.nsIn K mainGlobals x = some (some (.ref a))) (h2 : K.lookup a = some ⟨.type "tuple", od, .seq its n, osl⟩) (h3 : its.size ≤ sizeLine)
    (h4 : its.toList = (refsOf its.toList).map Value.ref) (h5 : fs.map (fun y => PySem.W.nsIn K mainGlobals y) = (refsOf its.toList).map fun b => some (some (Value.ref b))) : TabK K x fs := ⟨a, od, its, n, osl, h1, h2, h3, h4, h5⟩
theorem tabIK_mk {K : PySem.W.Frag} {x : Str} {ns : List Int} {a : Addr} {od : Option Addr} {its : Array Value} {n : Nat} {osl : Array (Option Value)} (h1 : PySem.W.nsIn K mainGlobals x = some (some (.ref a))) (h2 : K.lookup a = some ⟨.type "tuple", od, .seq its n, osl⟩) (h3 : its.size ≤ sizeLine)
    (h4 : intsOf its.toList = ns.map some) : TabIK K x ns := ⟨a, od, its, n, osl, h1, h2, h3, h4⟩
theorem ex_mk {α : Type} {p : α → Prop} {a : α} (h : p a) : ∃ a, p a := ⟨a, h⟩
structure TxtK (K : PySem.W.Frag) : Prop where
  b_len : PySem.W.nsIn K mainGlobals "len" = some none
  b_sum : PySem.W.nsIn K mainGlobals "sum" = some none
  b_any : PySem.W.nsIn K mainGlobals "any" = some none
  b_all : PySem.W.nsIn K mainGlobals "all" = some none
  b_max : PySem.W.nsIn K mainGlobals "max" = some none
  b_tuple : PySem.W.nsIn K mainGlobals "tuple" = some none
  b_list : PySem.W.nsIn K mainGlobals "list" = some none
  b_range : PySem.W.nsIn K mainGlobals "range" = some none
  b_enumerate : PySem.W.nsIn K mainGlobals "enumerate" = some none
  b_abs : PySem.W.nsIn K mainGlobals "abs" = some none
  b_isinstance : PySem.W.nsIn K mainGlobals "isinstance" = some none
structure NumsK (K : PySem.W.Frag) : Prop where
  c_MOST_CELLS : ∃ t, PySem.W.nsIn K mainGlobals "MOST_CELLS" = some (some (.int 12 t))
  c_LONGEST_TEXT : ∃ t, PySem.W.nsIn K mainGlobals "LONGEST_TEXT" = some (some (.int 200 t))
  c_GREATEST_BYTE : ∃ t, PySem.W.nsIn K mainGlobals "GREATEST_BYTE" = some (some (.int 255 t))
  c_MAKE : ∃ t, PySem.W.nsIn K mainGlobals "MAKE" = some (some (.int 0 t))
  c_SPLIT : ∃ t, PySem.W.nsIn K mainGlobals "SPLIT" = some (some (.int 5 t))
  c_JOIN : ∃ t, PySem.W.nsIn K mainGlobals "JOIN" = some (some (.int 6 t))
  c_REPLACE : ∃ t, PySem.W.nsIn K mainGlobals "REPLACE" = some (some (.int 8 t))
  c_NOT_REFUSED : ∃ t, PySem.W.nsIn K mainGlobals "NOT_REFUSED" = some (some (.int 0 t))
  c_NO_CELL : ∃ t, PySem.W.nsIn K mainGlobals "NO_CELL" = some (some (.int (-1) t))
  c_BAD_AFTER : ∃ t, PySem.W.nsIn K mainGlobals "BAD_AFTER" = some (some (.int (-2) t))
  c_OUT_OF_RANGE : ∃ t, PySem.W.nsIn K mainGlobals "OUT_OF_RANGE" = some (some (.int (-3) t))
  c_NO_BYTE : ∃ t, PySem.W.nsIn K mainGlobals "NO_BYTE" = some (some (.int (-4) t))
  c_TOO_LONG : ∃ t, PySem.W.nsIn K mainGlobals "TOO_LONG" = some (some (.int (-5) t))
  c_TOO_MANY_CELLS : ∃ t, PySem.W.nsIn K mainGlobals "TOO_MANY_CELLS" = some (some (.int (-6) t))
  c_NO_CHANGE : ∃ t, PySem.W.nsIn K mainGlobals "NO_CHANGE" = some (some (.int (-7) t))
  c_BAD_PLACE : ∃ t, PySem.W.nsIn K mainGlobals "BAD_PLACE" = some (some (.int (-8) t))
  c_NONE_BEHIND : ∃ t, PySem.W.nsIn K mainGlobals "NONE_BEHIND" = some (some (.int (-9) t))
  c_GROUP_FULL : ∃ t, PySem.W.nsIn K mainGlobals "GROUP_FULL" = some (some (.int (-10) t))
  c_GROUP_IS_OPEN : ∃ t, PySem.W.nsIn K mainGlobals "GROUP_IS_OPEN" = some (some (.int (-11) t))
  c_NO_GROUP : ∃ t, PySem.W.nsIn K mainGlobals "NO_GROUP" = some (some (.int (-12) t))
  c_NOTHING_DONE : ∃ t, PySem.W.nsIn K mainGlobals "NOTHING_DONE" = some (some (.int (-13) t))
  c_NOTHING_UNDONE : ∃ t, PySem.W.nsIn K mainGlobals "NOTHING_UNDONE" = some (some (.int (-14) t))
  c_NOT_STRUCK : ∃ t, PySem.W.nsIn K mainGlobals "NOT_STRUCK" = some (some (.int (-15) t))
  c_NUMBERS_USED_UP : ∃ t, PySem.W.nsIn K mainGlobals "NUMBERS_USED_UP" = some (some (.int (-16) t))
  c_EMPTY_TEXT : ∃ t, PySem.W.nsIn K mainGlobals "EMPTY_TEXT" = some (some (.int (-17) t))
  c_BAD_MARK : ∃ t, PySem.W.nsIn K mainGlobals "BAD_MARK" = some (some (.int (-18) t))
  c_GREATEST_NUMBER : ∃ t, PySem.W.nsIn K mainGlobals "GREATEST_NUMBER" = some (some (.int 99 t))
  c_MOST_DONE : ∃ t, PySem.W.nsIn K mainGlobals "MOST_DONE" = some (some (.int 20 t))
  c_MOST_EDITS : ∃ t, PySem.W.nsIn K mainGlobals "MOST_EDITS" = some (some (.int 10 t))
  c_NO_DIFFERENCE : ∃ t, PySem.W.nsIn K mainGlobals "NO_DIFFERENCE" = some (some (.int 0 t))
  c_AT_P_ALONE : ∃ t, PySem.W.nsIn K mainGlobals "AT_P_ALONE" = some (some (.int 1 t))
  c_AT_Q_ALONE : ∃ t, PySem.W.nsIn K mainGlobals "AT_Q_ALONE" = some (some (.int 2 t))
  c_OTHER_TEXT : ∃ t, PySem.W.nsIn K mainGlobals "OTHER_TEXT" = some (some (.int 3 t))
  c_OTHER_MARK : ∃ t, PySem.W.nsIn K mainGlobals "OTHER_MARK" = some (some (.int 4 t))
  c_OTHER_TEXT_AND_MARK : ∃ t, PySem.W.nsIn K mainGlobals "OTHER_TEXT_AND_MARK" = some (some (.int 5 t))
  c_FIRST_GROUPING : ∃ t, PySem.W.nsIn K mainGlobals "FIRST_GROUPING" = some (some (.int 9 t))
  c_FIRST_TRAVEL : ∃ t, PySem.W.nsIn K mainGlobals "FIRST_TRAVEL" = some (some (.int 12 t))
  c_FIRST_TELLING : ∃ t, PySem.W.nsIn K mainGlobals "FIRST_TELLING" = some (some (.int 16 t))
structure TopsK (K : PySem.W.Frag) : Prop where
  t_are_bytes : TopK K "are_bytes" s_are_bytes
  t_number_of : TopK K "number_of" s_number_of
  t_mark_of : TopK K "mark_of" s_mark_of
  t_text_of : TopK K "text_of" s_text_of
  t_index_of : TopK K "index_of" s_index_of
  t_has_cell : TopK K "has_cell" s_has_cell
  t_with_cells : TopK K "with_cells" s_with_cells
  t_put_behind : TopK K "put_behind" s_put_behind
  t_places_found : TopK K "places_found" s_places_found
  t_count_found : TopK K "count_found" s_count_found
  t_text_replaced : TopK K "text_replaced" s_text_replaced
  t_do_make : TopK K "do_make" s_do_make
  t_do_write : TopK K "do_write" s_do_write
  t_do_move : TopK K "do_move" s_do_move
  t_do_drop : TopK K "do_drop" s_do_drop
  t_do_hide : TopK K "do_hide" s_do_hide
  t_do_split : TopK K "do_split" s_do_split
  t_do_join : TopK K "do_join" s_do_join
  t_do_swap : TopK K "do_swap" s_do_swap
  t_do_replace : TopK K "do_replace" s_do_replace
  t_do_edit : TopK K "do_edit" s_do_edit
  t_do_edits : TopK K "do_edits" s_do_edits
  t_refuse_text : TopK K "refuse_text" s_refuse_text
  t_refuse_cell : TopK K "refuse_cell" s_refuse_cell
  t_refuse_one_more : TopK K "refuse_one_more" s_refuse_one_more
  t_refuse_new : TopK K "refuse_new" s_refuse_new
  t_refuse_write : TopK K "refuse_write" s_refuse_write
  t_refuse_move : TopK K "refuse_move" s_refuse_move
  t_refuse_drop : TopK K "refuse_drop" s_refuse_drop
  t_refuse_hide : TopK K "refuse_hide" s_refuse_hide
  t_refuse_split : TopK K "refuse_split" s_refuse_split
  t_refuse_join : TopK K "refuse_join" s_refuse_join
  t_refuse_swap : TopK K "refuse_swap" s_refuse_swap
  t_refuse_replace : TopK K "refuse_replace" s_refuse_replace
  t_makes_cell : TopK K "makes_cell" s_makes_cell
  t_edit_of : TopK K "edit_of" s_edit_of
  t_answer_of : TopK K "answer_of" s_answer_of
  t_answer_edit : TopK K "answer_edit" s_answer_edit
  t_answer_begin : TopK K "answer_begin" s_answer_begin
  t_answer_end : TopK K "answer_end" s_answer_end
  t_answer_cancel : TopK K "answer_cancel" s_answer_cancel
  t_answer_grouping : TopK K "answer_grouping" s_answer_grouping
  t_tell_text : TopK K "tell_text" s_tell_text
  t_tell_document : TopK K "tell_document" s_tell_document
  t_tell_edit : TopK K "tell_edit" s_tell_edit
  t_tell_pairs : TopK K "tell_pairs" s_tell_pairs
  t_text_in : TopK K "text_in" s_text_in
  t_answer_whole : TopK K "answer_whole" s_answer_whole
  t_answer_text : TopK K "answer_text" s_answer_text
  t_answer_at : TopK K "answer_at" s_answer_at
  t_answer_state : TopK K "answer_state" s_answer_state
  t_answer_step : TopK K "answer_step" s_answer_step
  t_difference : TopK K "difference" s_difference
  t_answer_changed : TopK K "answer_changed" s_answer_changed
  t_answer_blame : TopK K "answer_blame" s_answer_blame
  t_answer_find : TopK K "answer_find" s_answer_find
  t_answer_telling : TopK K "answer_telling" s_answer_telling
  t_answer_undo : TopK K "answer_undo" s_answer_undo
  t_answer_redo : TopK K "answer_redo" s_answer_redo
  t_answer_to : TopK K "answer_to" s_answer_to
  t_answer_strike : TopK K "answer_strike" s_answer_strike
  t_answer_travel : TopK K "answer_travel" s_answer_travel
  t_answer_call : TopK K "answer_call" s_answer_call
  t_answers : TopK K "answers" s_answers
structure HistoryK (K : PySem.W.Frag) (C : Addr) : Prop where
  aC : PySem.W.nsIn K mainGlobals "History" = some (some (.ref C))
  cl : ClsK K C
  n_steps : PySem.W.findIn K (.ref C) "steps" = some none
  n_documents : PySem.W.findIn K (.ref C) "documents" = some none
  n_position : PySem.W.findIn K (.ref C) "position" = some none
  n_forgotten : PySem.W.findIn K (.ref C) "forgotten" = some none
  init : InitK K C "History.__init__" s_History_init
  m_present : MTop K C "present" "History.present" s_History_present
  m_count_undone : MTop K C "count_undone" "History.count_undone" s_History_count_undone
  m_has_position : MTop K C "has_position" "History.has_position" s_History_has_position
  m_go_to : MTop K C "go_to" "History.go_to" s_History_go_to
  m_add_step : MTop K C "add_step" "History.add_step" s_History_add_step
  m_forget_step : MTop K C "forget_step" "History.forget_step" s_History_forget_step
  m_strike_step : MTop K C "strike_step" "History.strike_step" s_History_strike_step
structure PadK (K : PySem.W.Frag) (C : Addr) : Prop where
  aC : PySem.W.nsIn K mainGlobals "Pad" = some (some (.ref C))
  cl : ClsK K C
  n_document : PySem.W.findIn K (.ref C) "document" = some none
  n_next_number : PySem.W.findIn K (.ref C) "next_number" = some none
  n_history : PySem.W.findIn K (.ref C) "history" = some none
  n_group : PySem.W.findIn K (.ref C) "group" = some none
  init : InitK K C "Pad.__init__" s_Pad_init
  m_has_group : MTop K C "has_group" "Pad.has_group" s_Pad_has_group
  m_group_is_full : MTop K C "group_is_full" "Pad.group_is_full" s_Pad_group_is_full
  m_take_edit : MTop K C "take_edit" "Pad.take_edit" s_Pad_take_edit
  m_use_number : MTop K C "use_number" "Pad.use_number" s_Pad_use_number
  m_begin_group : MTop K C "begin_group" "Pad.begin_group" s_Pad_begin_group
  m_end_group : MTop K C "end_group" "Pad.end_group" s_Pad_end_group
  m_go_to : MTop K C "go_to" "Pad.go_to" s_Pad_go_to
  m_strike_step : MTop K C "strike_step" "Pad.strike_step" s_Pad_strike_step
  m_cancel_group : MTop K C "cancel_group" "Pad.cancel_group" s_Pad_cancel_group
structure ReaderK (K : PySem.W.Frag) (C : Addr) : Prop where
  aC : PySem.W.nsIn K mainGlobals "Reader" = some (some (.ref C))
  cl : ClsK K C
  n_numbers : PySem.W.findIn K (.ref C) "numbers" = some none
  n_place : PySem.W.findIn K (.ref C) "place" = some none
  init : InitK K C "Reader.__init__" s_Reader_init
  m_is_behind : MTop K C "is_behind" "Reader.is_behind" s_Reader_is_behind
  m_take_whole : MTop K C "take_whole" "Reader.take_whole" s_Reader_take_whole
  m_take_row : MTop K C "take_row" "Reader.take_row" s_Reader_take_row
  m_take_arguments : MTop K C "take_arguments" "Reader.take_arguments" s_Reader_take_arguments
structure TabsK (K : PySem.W.Frag) : Prop where
  d_DOINGS : TabK K "DOINGS" ["do_make", "do_write", "do_move", "do_drop", "do_hide", "do_split", "do_join", "do_swap", "do_replace"]
  d_REFUSERS : TabK K "REFUSERS" REFUSERS
  d_GROUPINGS : TabK K "GROUPINGS" GROUPINGS
  d_TRAVELS : TabK K "TRAVELS" TRAVELS
  d_TELLINGS : TabK K "TELLINGS" TELLINGS
theorem all_mk {P : Program} {w : World} {K : PySem.W.Frag} {h : Heap} {mg : Str → Option Value} {fa : Addr} (X : K.In h) (G : h.Ns mainGlobals mg) (hfa : mg "answers" = some (.ref fa)) (tx : TxtK K) (nu : NumsK K) (tp : TopsK K) (tb : TabsK K) (tw : TabIK K "WHOLES" WHOLES) (tr : TabIK K "ROWS" ROWS)
    (pad : ∃ C, PadK K C) (his : ∃ C, HistoryK K C) (rea : ∃ C, ReaderK K C) :
    ∃ fd : FuncData, (∀ (s : Shared) (us : List Value), us.length = (["calls"] : List Str).length → BindsTo s fd ⟨us, []⟩ ((["calls"] : List Str).zip us)) ∧ ∀ base : Heap, K.In base → base.Ns mainGlobals mg → FnOk P w K mg base CX0 12 fa fd ["calls"] (spAnswers K) := by
  obtain ⟨CP, pad⟩ := pad
  obtain ⟨CH, his⟩ := his
  obtain ⟨CR, rea⟩ := rea
  have T : Txt mg := ⟨PySem.W.mg_none_of X G tx.b_len, PySem.W.mg_none_of X G tx.b_sum, PySem.W.mg_none_of X G tx.b_any, PySem.W.mg_none_of X G tx.b_all, PySem.W.mg_none_of X G tx.b_max, PySem.W.mg_none_of X G tx.b_tuple, PySem.W.mg_none_of X G tx.b_list, PySem.W.mg_none_of X G tx.b_range, PySem.W.mg_none_of X G tx.b_enumerate, PySem.W.mg_none_of X G tx.b_abs, PySem.W.mg_none_of X G tx.b_isinstance⟩
  have nk : ∀ {x : Str} {i : Int}, (∃ t, PySem.W.nsIn K mainGlobals x = some (some (.int i t))) → ∃ t, mg x = some (.int i t) := fun ⟨t, e⟩ => ⟨t, PySem.W.mg_of X G e⟩
  have N : Nums mg := ⟨nk nu.c_MOST_CELLS, nk nu.c_LONGEST_TEXT, nk nu.c_GREATEST_BYTE, nk nu.c_MAKE, nk nu.c_SPLIT, nk nu.c_JOIN, nk nu.c_REPLACE, nk nu.c_NOT_REFUSED, nk nu.c_NO_CELL, nk nu.c_BAD_AFTER, nk nu.c_OUT_OF_RANGE, nk nu.c_NO_BYTE, nk nu.c_TOO_LONG, nk nu.c_TOO_MANY_CELLS, nk nu.c_NO_CHANGE, nk nu.c_BAD_PLACE, nk nu.c_NONE_BEHIND, nk nu.c_GROUP_FULL, nk nu.c_GROUP_IS_OPEN, nk nu.c_NO_GROUP, nk nu.c_NOTHING_DONE, nk nu.c_NOTHING_UNDONE, nk nu.c_NOT_STRUCK, nk nu.c_NUMBERS_USED_UP, nk nu.c_EMPTY_TEXT, nk nu.c_BAD_MARK, nk nu.c_GREATEST_NUMBER, nk nu.c_MOST_DONE, nk nu.c_MOST_EDITS, nk nu.c_NO_DIFFERENCE, nk nu.c_AT_P_ALONE, nk nu.c_AT_Q_ALONE, nk nu.c_OTHER_TEXT, nk nu.c_OTHER_MARK, nk nu.c_OTHER_TEXT_AND_MARK, nk nu.c_FIRST_GROUPING, nk nu.c_FIRST_TRAVEL, nk nu.c_FIRST_TELLING⟩
  have PC : PadC K CP := { cl := pad.cl.cls, n_document := pad.n_document, n_next_number := pad.n_next_number, n_history := pad.n_history, n_group := pad.n_group }
  have HC : HistCls K CH := ⟨his.cl.cls, his.n_steps, his.n_documents, his.n_position, his.n_forgotten⟩
  have RC : ReadCls K CR := ⟨rea.cl.cls, rea.n_numbers, rea.n_place⟩
  have iP : ITop K mg CP "Pad" "Pad.__init__" s_Pad_init := ⟨pad.init, PySem.W.mg_of X G pad.aC⟩
  have iH : ITop K mg CH "History" "History.__init__" s_History_init := ⟨his.init, PySem.W.mg_of X G his.aC⟩
  have iR : ITop K mg CR "Reader" "Reader.__init__" s_Reader_init := ⟨rea.init, PySem.W.mg_of X G rea.aC⟩
  have top : ∀ {x : Str} {st : Stmt}, TopK K x st → Top K mg x st := fun t => t.top X G
  obtain ⟨f, fd, F, e⟩ := tp.t_answers
  have ef := hfa.symm.trans (PySem.W.mg_of X G e)
  cases ef
  refine ⟨fd, fun s us hu => ?_, fun base _ _ => ?_⟩
  · obtain ⟨oc, od, kV, doc, pm, an, cdv, ct, osl, rfl, lk, hcd⟩ := F.ex
    exact match us, hu with | [_], _ => .of_eq rfl
  have number_of : FnAt P w K mg base "number_of" 1 ["cell"] (spNum K) := ok_number_of (top tp.t_number_of)
  have mark_of : FnAt P w K mg base "mark_of" 1 ["cell"] (spMark K) := ok_mark_of (top tp.t_mark_of)
  have text_of : FnAt P w K mg base "text_of" 1 ["cell"] (spText K) := ok_text_of (top tp.t_text_of)
  have index_of := ok_index_of T (top tp.t_index_of) number_of
  have has_cell := ok_has_cell (top tp.t_has_cell) index_of
  have with_cells : FnAt P w K mg base "with_cells" 1 ["document", "index", "count", "cells"] (spWith K) := ok_with_cells (top tp.t_with_cells)
  have put_behind := ok_put_behind (top tp.t_put_behind) index_of with_cells
  have places_found : FnAt P w K mg base "places_found" 1 ["text", "wanted"] (spPlaces K) := ok_places_found T (top tp.t_places_found)
  have count_found := ok_count_found T (top tp.t_count_found) places_found text_of
  have text_replaced := ok_text_replaced T N (top tp.t_text_replaced) places_found
  have C : CellsOk P w K mg base := ⟨number_of, mark_of, text_of, index_of, has_cell, with_cells, put_behind, places_found, count_found, text_replaced⟩
  have E : EditsOk P w K mg base := ⟨ok_do_make T N C (top tp.t_do_make), ok_do_write C (top tp.t_do_write), ok_do_move C (top tp.t_do_move), ok_do_drop C (top tp.t_do_drop), ok_do_hide C (top tp.t_do_hide), ok_do_split T N C (top tp.t_do_split), ok_do_join T N C (top tp.t_do_join), ok_do_swap T C (top tp.t_do_swap), ok_do_replace T N C (top tp.t_do_replace)⟩
  have do_edit := ok_do_edit (tb.d_DOINGS.tab X G) E (top tp.t_do_edit)
  have do_edits := ok_do_edits (top tp.t_do_edits) do_edit
  have are_bytes : FnAt P w K mg base "are_bytes" 1 ["numbers"] (spBytes K) := ok_are_bytes T N (top tp.t_are_bytes)
  have R : RefOk P w K mg base CP := ⟨are_bytes, ok_refuse_text T N N (top tp.t_refuse_text) are_bytes, ok_refuse_cell N PC.toPadCls (top tp.t_refuse_cell) has_cell, ok_refuse_one_more T N N PC.toPadCls (top tp.t_refuse_one_more)⟩
  have RS : RefsOk P w K mg base CP := ⟨ok_refuse_new N PC.toPadCls C R (top tp.t_refuse_new), ok_refuse_write N PC.toPadCls C R (top tp.t_refuse_write), ok_refuse_move N PC.toPadCls C R (top tp.t_refuse_move), ok_refuse_drop N PC.toPadCls C R (top tp.t_refuse_drop), ok_refuse_hide N PC.toPadCls C R (top tp.t_refuse_hide),
    ok_refuse_split T N PC.toPadCls C R (top tp.t_refuse_split), ok_refuse_join T N PC.toPadCls C R (top tp.t_refuse_join), ok_refuse_swap N PC.toPadCls C R (top tp.t_refuse_swap), ok_refuse_replace T N PC.toPadCls C R (top tp.t_refuse_replace)⟩
  have h_present : MethAt P w K mg base CH "present" 1 ["self"] (spPresent K CH) := ok_History_present HC his.m_present
  have h_add := ok_History_add_step (P := P) (w := w) (base := base) T N HC (ok_History_forget_step HC his.m_forget_step) his.m_add_step
  have h_go : MethAt P w K mg base CH "go_to" 1 ["self", "position"] (spHGo K CH) := ok_History_go_to HC his.m_go_to
  have h_strike := ok_History_strike_step T HC do_edits his.m_strike_step
  have p_has : MethAt P w K mg base CP "has_group" 1 ["self"] (spHasG CP) := ok_Pad_has_group PC pad.m_has_group
  have p_full : MethAt P w K mg base CP "group_is_full" 2 ["self"] (spFull K CP CH) := ok_Pad_group_is_full T N PC p_has pad.m_group_is_full
  have p_take := ok_Pad_take_edit PC HC p_has h_add pad.m_take_edit
  have p_use : MethAt P w K mg base CP "use_number" 1 ["self"] (spUse K CP CH) := ok_Pad_use_number PC pad.m_use_number
  have M : PMeths P w K mg base CP CH := ⟨p_has, ok_Pad_begin_group PC pad.m_begin_group, ok_Pad_end_group T PC HC h_add pad.m_end_group, ok_Pad_cancel_group T PC HC h_present pad.m_cancel_group, ok_Pad_go_to PC HC h_present h_go pad.m_go_to, ok_Pad_strike_step PC HC h_present h_strike pad.m_strike_step, ok_History_count_undone T HC his.m_count_undone, ok_History_has_position T HC his.m_has_position⟩
  have makes_cell : FnAt P w K mg base "makes_cell" 1 ["kind"] spMakes := ok_makes_cell N (top tp.t_makes_cell)
  have edit_of : FnAt P w K mg base "edit_of" 1 ["pad", "kind", "arguments"] (spEditOf K CP) := ok_edit_of N PC (top tp.t_edit_of)
  have answer_of := ok_answer_of N PC C makes_cell (top tp.t_answer_of)
  have a_edit := ok_answer_edit N PC RS (tb.d_REFUSERS.tab X G) p_full p_take p_use makes_cell edit_of answer_of do_edit (top tp.t_answer_edit)
  have a_grp := ok_answer_grouping (tb.d_GROUPINGS.tab X G) (ok_answer_begin N PC M (top tp.t_answer_begin)) (ok_answer_end N PC M (top tp.t_answer_end)) (ok_answer_cancel N PC M (top tp.t_answer_cancel)) (top tp.t_answer_grouping)
  have a_trv := ok_answer_travel (tb.d_TRAVELS.tab X G) (ok_answer_undo N PC HC M (top tp.t_answer_undo)) (ok_answer_redo N PC HC M (top tp.t_answer_redo)) (ok_answer_to T N PC HC M (top tp.t_answer_to)) (ok_answer_strike N PC HC M (top tp.t_answer_strike)) (top tp.t_answer_travel)
  have tell_text : FnAt P w K mg base "tell_text" 1 ["text"] (spTellText K) := ok_tell_text T (top tp.t_tell_text)
  have O : TellOk P w K mg base := ⟨tell_text, ok_tell_document T C tell_text (top tp.t_tell_document), ok_tell_edit T tell_text (top tp.t_tell_edit), ok_tell_pairs T (top tp.t_tell_pairs), ok_text_in C (top tp.t_text_in)⟩
  have AO : AnsOk P w K mg base CP CH := ⟨ok_answer_whole PC O (top tp.t_answer_whole), ok_answer_text N PC O (top tp.t_answer_text), ok_answer_at N PC HC M O (top tp.t_answer_at), ok_answer_state T PC HC M (top tp.t_answer_state), ok_answer_step T N PC HC O (top tp.t_answer_step),
    ok_answer_changed T N PC HC C M O (ok_difference N C (top tp.t_difference)) (top tp.t_answer_changed), ok_answer_blame T N PC HC C M O (top tp.t_answer_blame), ok_answer_find T N PC C R O (top tp.t_answer_find)⟩
  have a_tel := ok_answer_telling (tb.d_TELLINGS.tab X G) AO (top tp.t_answer_telling)
  have a_call := ok_answer_call N ⟨a_edit, a_grp, a_trv, a_tel⟩ (top tp.t_answer_call)
  have r_whole : MethAt P w K mg base CR "take_whole" 1 ["self"] (spWhole K CR) := ok_Reader_take_whole RC rea.m_take_whole
  have RM : RMeths P w K mg base CR := ⟨ok_Reader_init RC iR, ok_Reader_is_behind T RC rea.m_is_behind, r_whole, ok_Reader_take_arguments T RC (tw.tab X G) (tr.tab X G) r_whole (ok_Reader_take_row T RC r_whole rea.m_take_row) rea.m_take_arguments⟩
  exact ok_answers T RC (ok_Pad_init PC HC (ok_History_init HC iH) iP) RM a_call F
theorem fz_of {K : PySem.W.Frag} {H : Hp} {a : Addr} {xs : List V} (hO : OnlyF H) (h : SqL K H a xs) : Fz K H a xs := by
  rcases h with (h | ⟨o, h⟩) | h
  · rcases hO a with q | ⟨o, u, q⟩
    · rw [q] at h; cases h
    · rw [q] at h; cases h
  · exact .inl ⟨o, h⟩
  · exact .inr h
end CP
namespace PySem.W.Fast
theorem tw2388912560412291844:True:=⟨⟩
theorem tw4378852234570941372:True:=⟨⟩
theorem tw10619254730769790689:True:=⟨⟩
theorem tw1603478750478968822:True:=⟨⟩
theorem tw7496972655293564579:True:=⟨⟩
theorem tw3727898068975065078:True:=⟨⟩
theorem tw194575256401524496:True:=⟨⟩
theorem tw15958855180464306736:True:=⟨⟩
theorem tw11535306124846712772:True:=⟨⟩
theorem tw5835050565688698986:True:=⟨⟩
theorem tw10849186672991937182:True:=⟨⟩
theorem tw14201986388315565340:True:=⟨⟩
theorem tw5541879437862847783:True:=⟨⟩
theorem tw10991890430756605646:True:=⟨⟩
theorem tw6738827112232072816:True:=⟨⟩
theorem tw12849342624636226149:True:=⟨⟩
theorem tw16889934817066227877:True:=⟨⟩
theorem tw7490177407482739739:True:=⟨⟩
theorem tw8776814433495903531:True:=⟨⟩
theorem tw15982656156012613111:True:=⟨⟩
theorem tw9027321960647498414:True:=⟨⟩
theorem tw7959230455168613655:True:=⟨⟩
theorem tw11667606026722994700:True:=⟨⟩
theorem tw5190293318671270456:True:=⟨⟩
theorem tw3489616367229490693:True:=⟨⟩
theorem tw13032639296272290036:True:=⟨⟩
theorem tw17599839694718933051:True:=⟨⟩
theorem tw3729854352495636598:True:=⟨⟩
theorem tw9670038616916583747:True:=⟨⟩
theorem tw10372110665846840834:True:=⟨⟩
theorem tw687133119825847539:True:=⟨⟩
theorem tw8109128473592528958:True:=⟨⟩
theorem tw7549008595796729258:True:=⟨⟩
theorem tw15345981790749728612:True:=⟨⟩
theorem tw16572628686929080160:True:=⟨⟩
theorem tw12037509271570223306:True:=⟨⟩
theorem tw14258088522706631251:True:=⟨⟩
theorem tw10207301559702142341:True:=⟨⟩
theorem tw2528839444752049832:True:=⟨⟩
theorem tw14728784493907093814:True:=⟨⟩
theorem tw2796957921123688745:True:=⟨⟩
theorem tw14253950843028624299:True:=⟨⟩
theorem tw11009705914197056658:True:=⟨⟩
theorem tw17578144922458545861:True:=⟨⟩
theorem tw14809612079392122302:True:=⟨⟩
theorem tw7425433393713270941:True:=⟨⟩
theorem tw16355977932736220859:True:=⟨⟩
theorem tw1520155394952797981:True:=⟨⟩
theorem tw6746993278675981389:True:=⟨⟩
theorem tw1979577624764518900:True:=⟨⟩
theorem tw3304007031137003698:True:=⟨⟩
theorem tw200344395315253070:True:=⟨⟩
theorem tw14515651213477814410:True:=⟨⟩
theorem tw2254975905940826354:True:=⟨⟩
theorem tw5538066565403319663:True:=⟨⟩
theorem tw1129674849466810762:True:=⟨⟩
theorem tw11199923820987761689:True:=⟨⟩
theorem tw11391079064613779666:True:=⟨⟩
theorem tw11857374828638618862:True:=⟨⟩
theorem tw1671954370767490462:True:=⟨⟩
theorem tw2950681881673115403:True:=⟨⟩
theorem tw1244616860592203614:True:=⟨⟩
theorem tw14216348504607758158:True:=⟨⟩
theorem tw970046105994441491:True:=⟨⟩
theorem tw13042186357995799498:True:=⟨⟩
theorem tw4722686699711103952:True:=⟨⟩
theorem tw3462178777311918064:True:=⟨⟩
theorem tw1624432559842258826:True:=⟨⟩
theorem tw8002308258590464923:True:=⟨⟩
theorem tw8229683471983834877:True:=⟨⟩
theorem tw2005268164321525536:True:=⟨⟩
theorem tw9960272570269967842:True:=⟨⟩
theorem tw14336128707902928739:True:=⟨⟩
theorem tw15776962777176124175:True:=⟨⟩
theorem tw13751411684036619914:True:=⟨⟩
theorem tw9416129722368924599:True:=⟨⟩
theorem tw18050174951504652767:True:=⟨⟩
theorem tw640989855798462476:True:=⟨⟩
theorem tw8269056433806446987:True:=⟨⟩
theorem tw15551970995498204370:True:=⟨⟩
theorem tw11227262696842847239:True:=⟨⟩
theorem tw12561573246988964522:True:=⟨⟩
theorem tw7676876405366139743:True:=⟨⟩
theorem tw15128149889157520724:True:=⟨⟩
theorem tw3280597453438755189:True:=⟨⟩
theorem tw2617596293948238609:True:=⟨⟩
theorem tw8653324636992427183:True:=⟨⟩
theorem tw8086194747851274833:True:=⟨⟩
theorem tw4006313443414240560:True:=⟨⟩
theorem tw16606608754760594678:True:=⟨⟩
theorem tw11651887151540641282:True:=⟨⟩
theorem tw13604088179203077603:True:=⟨⟩
theorem tw16518534207979975920:True:=⟨⟩
theorem tw16076593500831591011:True:=⟨⟩
theorem tw14445179568963808852:True:=⟨⟩
theorem tw10644752358708589688:True:=⟨⟩
theorem tw10156974410516544201:True:=⟨⟩
theorem tw5239214892385415345:True:=⟨⟩
theorem tw2328884629205012694:True:=⟨⟩
theorem tw1619963291348865297:True:=⟨⟩
theorem tw5130859858517660368:True:=⟨⟩
theorem tw210419216468437695:True:=⟨⟩
theorem tw12263550531276884335:True:=⟨⟩
theorem tw11888970645852847835:True:=⟨⟩
theorem tw5816543958610997130:True:=⟨⟩
theorem tw2967772527557596411:True:=⟨⟩
theorem tw8936039095842186468:True:=⟨⟩
theorem tw12659957455120104785:True:=⟨⟩
theorem tw5598589606819842124:True:=⟨⟩
theorem tw13284076240696532020:True:=⟨⟩
theorem tw16249920321029679522:True:=⟨⟩
theorem tw14062074447442429061:True:=⟨⟩
theorem tw17373262309471674674:True:=⟨⟩
theorem tw8702771248511167566:True:=⟨⟩
theorem tw12494130468304815361:True:=⟨⟩
theorem tw5254273212855985205:True:=⟨⟩
theorem tw12262075806078847481:True:=⟨⟩
theorem tw10603058224844832309:True:=⟨⟩
theorem tw12568116043900738750:True:=⟨⟩
theorem tw1617277519750461397:True:=⟨⟩
theorem tw8148311746649693349:True:=⟨⟩
theorem tw4456372331534498554:True:=⟨⟩
theorem tw15106986918385347751:True:=⟨⟩
theorem tw15047823704291398236:True:=⟨⟩
theorem tw10977189058322275216:True:=⟨⟩
theorem tw5882800239342822689:True:=⟨⟩
theorem tw915523800849005464:True:=⟨⟩
theorem tw5405069021654967080:True:=⟨⟩
theorem tw12533016187063668681:True:=⟨⟩
theorem tw6212113471419359768:True:=⟨⟩
theorem tw2608296743782724763:True:=⟨⟩
theorem tw1392156681387429649:True:=⟨⟩
theorem tw9715054097092331365:True:=⟨⟩
theorem tw4178842902666928280:True:=⟨⟩
end PySem.W.Fast
open PySem PySem.W PyProof.Rows
set_option maxRecDepth 100000 in
set_option maxHeartbeats 0 in
theorem PySem.Challenge.cw_cellpad_s01_answers_holds : PySem.Challenge.rw_cellpad_s01_answers.Holds := by
  w_on; k_headS; (case hw => exact ⟨[.list [.int 19]], by decide +kernel, by decide +kernel⟩)
  k_fillS
  refine L2.walk_specK (r := PySem.Challenge.rw_cellpad_s01_answers) (k := 12) (CX := L2.CX0) (ps := ["calls"]) (sp := CP.spAnswers) (by decide +kernel) rfl rfl ⟨rfl, by decide, by decide⟩ (fun w h Y => PySem.W.kIn_of Y) ?F ?S (fun _ _ _ _ z => z)
  case F =>
    intro w mg fa h Y KX G hmg
    refine' CP.all_mk KX G hmg ?tx ?nu ?tp ?tb ?tw ?tr ?pad ?his ?rea
    case tx => refine' ⟨?_, ?_, ?_, ?_, ?_, ?_, ?_, ?_, ?_, ?_, ?_⟩ <;> k_is
    case nu => refine' ⟨?_, ?_, ?_, ?_, ?_, ?_, ?_, ?_, ?_, ?_, ?_, ?_, ?_, ?_, ?_, ?_, ?_, ?_, ?_, ?_, ?_, ?_, ?_, ?_, ?_, ?_, ?_, ?_, ?_, ?_, ?_, ?_, ?_, ?_, ?_, ?_, ?_, ?_⟩ <;> (refine' CP.ex_mk ?a; (case a => k_is))
    case tp => refine' ⟨?_, ?_, ?_, ?_, ?_, ?_, ?_, ?_, ?_, ?_, ?_, ?_, ?_, ?_, ?_, ?_, ?_, ?_, ?_, ?_, ?_, ?_, ?_, ?_, ?_, ?_, ?_, ?_, ?_, ?_, ?_, ?_, ?_, ?_, ?_, ?_, ?_, ?_, ?_, ?_, ?_, ?_, ?_, ?_, ?_, ?_, ?_, ?_, ?_, ?_, ?_, ?_, ?_, ?_, ?_, ?_, ?_, ?_, ?_, ?_, ?_, ?_, ?_, ?_⟩ <;> (refine' CP.topK_mk ?a ?l ?c ?k; (case a => k_is); (case l => k_is); (case c => k_is); (case k => k_is))
    case tb => refine' ⟨?_, ?_, ?_, ?_, ?_⟩ <;> (refine' CP.tabK_mk ?a ?l ?z ?r ?f; (case a => k_is); (case l => k_is); (case z => decide +kernel); (case r => kernel_rfl); (case f => kernel_rfl))
    case tw => refine' CP.tabIK_mk ?a ?l ?z ?r; (case a => k_is); (case l => k_is); (case z => decide +kernel); (case r => kernel_rfl)
    case tr => refine' CP.tabIK_mk ?a ?l ?z ?r; (case a => k_is); (case l => k_is); (case z => decide +kernel); (case r => kernel_rfl)
    case pad =>
      refine' CP.ex_mk ⟨?aC, ⟨?c1, ?c2, ?c3, ?c4⟩, ?n0, ?n1, ?n2, ?n3, ?ini, ?m0, ?m1, ?m2, ?m3, ?m4, ?m5, ?m6, ?m7, ?m8⟩
      (case aC => k_is); (case c1 => k_is); (case c2 => k_is); (case c3 => k_is); (case c4 => k_is); (case n0 => k_is); (case n1 => k_is); (case n2 => k_is); (case n3 => k_is)
      (case ini => refine' CP.initK_mk ?a ?i ?l ?c ?k ?mk ?kc; (case a => k_is); (case i => k_is); (case l => k_is); (case c => k_is); (case k => k_is); (case mk => k_is); (case kc => k_is))
      (case m0 => refine' CP.mtop_mk ?a ?i ?l ?c ?k; (case a => k_is); (case i => k_is); (case l => k_is); (case c => k_is); (case k => k_is))
      (case m1 => refine' CP.mtop_mk ?a ?i ?l ?c ?k; (case a => k_is); (case i => k_is); (case l => k_is); (case c => k_is); (case k => k_is))
      (case m2 => refine' CP.mtop_mk ?a ?i ?l ?c ?k; (case a => k_is); (case i => k_is); (case l => k_is); (case c => k_is); (case k => k_is))
      (case m3 => refine' CP.mtop_mk ?a ?i ?l ?c ?k; (case a => k_is); (case i => k_is); (case l => k_is); (case c => k_is); (case k => k_is))
      (case m4 => refine' CP.mtop_mk ?a ?i ?l ?c ?k; (case a => k_is); (case i => k_is); (case l => k_is); (case c => k_is); (case k => k_is))
      (case m5 => refine' CP.mtop_mk ?a ?i ?l ?c ?k; (case a => k_is); (case i => k_is); (case l => k_is); (case c => k_is); (case k => k_is))
      (case m6 => refine' CP.mtop_mk ?a ?i ?l ?c ?k; (case a => k_is); (case i => k_is); (case l => k_is); (case c => k_is); (case k => k_is))
      (case m7 => refine' CP.mtop_mk ?a ?i ?l ?c ?k; (case a => k_is); (case i => k_is); (case l => k_is); (case c => k_is); (case k => k_is))
      (case m8 => refine' CP.mtop_mk ?a ?i ?l ?c ?k; (case a => k_is); (case i => k_is); (case l => k_is); (case c => k_is); (case k => k_is))
    case his =>
      refine' CP.ex_mk ⟨?aC, ⟨?c1, ?c2, ?c3, ?c4⟩, ?n0, ?n1, ?n2, ?n3, ?ini, ?m0, ?m1, ?m2, ?m3, ?m4, ?m5, ?m6⟩
      (case aC => k_is); (case c1 => k_is); (case c2 => k_is); (case c3 => k_is); (case c4 => k_is); (case n0 => k_is); (case n1 => k_is); (case n2 => k_is); (case n3 => k_is)
      (case ini => refine' CP.initK_mk ?a ?i ?l ?c ?k ?mk ?kc; (case a => k_is); (case i => k_is); (case l => k_is); (case c => k_is); (case k => k_is); (case mk => k_is); (case kc => k_is))
      (case m0 => refine' CP.mtop_mk ?a ?i ?l ?c ?k; (case a => k_is); (case i => k_is); (case l => k_is); (case c => k_is); (case k => k_is))
      (case m1 => refine' CP.mtop_mk ?a ?i ?l ?c ?k; (case a => k_is); (case i => k_is); (case l => k_is); (case c => k_is); (case k => k_is))
      (case m2 => refine' CP.mtop_mk ?a ?i ?l ?c ?k; (case a => k_is); (case i => k_is); (case l => k_is); (case c => k_is); (case k => k_is))
      (case m3 => refine' CP.mtop_mk ?a ?i ?l ?c ?k; (case a => k_is); (case i => k_is); (case l => k_is); (case c => k_is); (case k => k_is))
      (case m4 => refine' CP.mtop_mk ?a ?i ?l ?c ?k; (case a => k_is); (case i => k_is); (case l => k_is); (case c => k_is); (case k => k_is))
      (case m5 => refine' CP.mtop_mk ?a ?i ?l ?c ?k; (case a => k_is); (case i => k_is); (case l => k_is); (case c => k_is); (case k => k_is))
      (case m6 => refine' CP.mtop_mk ?a ?i ?l ?c ?k; (case a => k_is); (case i => k_is); (case l => k_is); (case c => k_is); (case k => k_is))
    case rea =>
      refine' CP.ex_mk ⟨?aC, ⟨?c1, ?c2, ?c3, ?c4⟩, ?n0, ?n1, ?ini, ?m0, ?m1, ?m2, ?m3⟩
      (case aC => k_is); (case c1 => k_is); (case c2 => k_is); (case c3 => k_is); (case c4 => k_is); (case n0 => k_is); (case n1 => k_is)
      (case ini => refine' CP.initK_mk ?a ?i ?l ?c ?k ?mk ?kc; (case a => k_is); (case i => k_is); (case l => k_is); (case c => k_is); (case k => k_is); (case mk => k_is); (case kc => k_is))
      (case m0 => refine' CP.mtop_mk ?a ?i ?l ?c ?k; (case a => k_is); (case i => k_is); (case l => k_is); (case c => k_is); (case k => k_is))
      (case m1 => refine' CP.mtop_mk ?a ?i ?l ?c ?k; (case a => k_is); (case i => k_is); (case l => k_is); (case c => k_is); (case k => k_is))
      (case m2 => refine' CP.mtop_mk ?a ?i ?l ?c ?k; (case a => k_is); (case i => k_is); (case l => k_is); (case c => k_is); (case k => k_is))
      (case m3 => refine' CP.mtop_mk ?a ?i ?l ?c ?k; (case a => k_is); (case i => k_is); (case l => k_is); (case c => k_is); (case k => k_is))
  case S =>
    intro K H xs a hO hwi hask hx
    cases hx with
    | cons h1 h2 =>
      cases h2
      cases h1 with
      | lst hs ha =>
        have e := L2.ints_dw a.1 _ ha
        subst e
        have q : ((Codec.inLen 0 17000 a.1 && a.1.all (Codec.inInt (-1000000000000000000) 1000000000000000000)) && true) = true := hwi
        rw [Bool.and_eq_true, Bool.and_eq_true] at q
        exact ⟨_, a.1, rfl, CP.fz_of hO hs, Nat.le_trans (Codec.inNat_iff.mp q.1.1).2 (by decide), hask, fun H' p hp => .lst (L2.SqL.of hp) (L2.dw_ints _)⟩
