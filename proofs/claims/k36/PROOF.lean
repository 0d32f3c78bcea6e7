import PyProof.Rows.All
import Wide.All
import OpenK.AllK
import Wide.FinOn
import Lean
import PyProof.EqAt
import PyProof.EqKinds
import PyProof.TupleCall
import PyProof.NeData
import KE.KSortTup
import PyProof.Rows.FStr
import PySem.Challenge.RW_brimyard_k36_too_many
set_option Elab.async false
set_option linter.all false
set_option maxRecDepth 100000
namespace L2
open PySem PySem.Spec PyProof.Rows
abbrev Key := Sum Int Str
def keyIs : Key → Value → Bool
  | .inl k, v => Value.isInt k v
  | .inr x, v => Value.isStrOf x v
def keyH (w : World) : Key → Int
  | .inl k => hashInt k
  | .inr x => hashStr w x
theorem keyIs_shape : ∀ {k : Key} {v : Value}, keyIs k v = true → (∃ i t, k = Sum.inl i ∧ v = Value.int i t) ∨ (∃ x t, k = Sum.inr x ∧ v = Value.str x t)
  | .inl i, v, h => by
    obtain ⟨t, e⟩ := Value.isInt_shape (k := i) (v := v) h
    exact .inl ⟨i, t, rfl, e⟩
  | .inr x, v, h => by
    obtain ⟨t, e⟩ := Value.isStrOf_shape (x := x) (v := v) h
    exact .inr ⟨x, t, rfl, e⟩
theorem key_ll (a b : Int) : decide ((Sum.inl a : Key) = Sum.inl b) = (a == b) := by
  by_cases e : a = b
  · subst e; simp
  · have h : ¬ (Sum.inl a : Key) = Sum.inl b := fun q => e (Sum.inl.inj q)
    rw [decide_eq_false h]
    exact (beq_eq_false_iff_ne.mpr e).symm
theorem key_rr (a b : Str) : decide ((Sum.inr a : Key) = Sum.inr b) = decide (a = b) := by
  by_cases e : a = b
  · subst e; simp
  · have h : ¬ (Sum.inr a : Key) = Sum.inr b := fun q => e (Sum.inr.inj q)
    rw [decide_eq_false h, decide_eq_false e]
theorem key_lr (a : Int) (b : Str) : decide ((Sum.inl a : Key) = Sum.inr b) = false := decide_eq_false (fun q => nomatch q)
theorem key_rl (a : Str) (b : Int) : decide ((Sum.inr a : Key) = Sum.inl b) = false := decide_eq_false (fun q => nomatch q)
def mixKind (prog : Program) (w : World) : PySem.KeyKind prog w Key where
  is := keyIs
  hash := keyH w
  inj := fun v a b ha hb => by
    rcases keyIs_shape ha with ⟨i, t, rfl, rfl⟩ | ⟨x, t, rfl, rfl⟩
    · rcases keyIs_shape hb with ⟨j, u, rfl, e⟩ | ⟨y, u, rfl, e⟩
      · injection e with e1 _; rw [e1]
      · exact nomatch e
    · rcases keyIs_shape hb with ⟨j, u, rfl, e⟩ | ⟨y, u, rfl, e⟩
      · exact nomatch e
      · injection e with e1 _; rw [e1]
  byValue := fun k v h => by
    rcases keyIs_shape h with ⟨i, t, rfl, rfl⟩ | ⟨x, t, rfl, rfl⟩ <;> rfl
  pyHash := fun hv h => by
    rcases keyIs_shape hv with ⟨i, t, rfl, rfl⟩ | ⟨x, t, rfl, rfl⟩
    · exact wpAny_pyHash_int h
    · exact wpAny_pyHash_str h
  eqBool := fun hu hv h => by
    rcases keyIs_shape hu with ⟨i, t, rfl, rfl⟩ | ⟨x, t, rfl, rfl⟩
    · rcases keyIs_shape hv with ⟨j, u, rfl, rfl⟩ | ⟨y, u, rfl, rfl⟩
      · rw [key_ll] at h; exact wpAny_eqBool_int h
      · rw [key_lr] at h; exact SeqAt.EqAt.int_str i t y u _ _ _ _ h
    · rcases keyIs_shape hv with ⟨j, u, rfl, rfl⟩ | ⟨y, u, rfl, rfl⟩
      · rw [key_rl] at h; exact SeqAt.EqAt.str_int x t j u _ _ _ _ h
      · rw [key_rr] at h; exact wpAny_eqBool_str h
  «strs» := fun k x t v h => by
    rcases keyIs_shape h with ⟨i, u, rfl, e⟩ | ⟨y, u, rfl, e⟩
    · exact nomatch e
    · injection e with e1 _
      subst e1
      cases v <;> rfl
theorem mixKind_is (prog : Program) (w : World) (k : Key) (v : Value) : (mixKind prog w).is k v = keyIs k v := rfl
end L2
namespace L2
open PySem PySem.Spec PyProof.Rows
inductive V where
  | non | bl (b : Bool) | int (i : Int) | str (x : Str) | byt (b : Array UInt8) | flt (b : UInt64) | ref (a : Addr) | ty (n : String)
  deriving DecidableEq
def RelV : V → Value → Prop
  | .non, u => u = Value.none
  | .bl b, u => u = Value.bool b
  | .int i, u => ∃ t, u = Value.int i t
  | .str x, u => ∃ t, u = Value.str x t
  | .byt b, u => ∃ t, u = Value.bytes b t
  | .flt b, u => ∃ t, u = Value.float b t
  | .ref a, u => u = Value.ref a
  | .ty n, u => u = Value.type n
abbrev Vals : List V → List Value → Prop := Paired RelV
theorem Vals.length {xs : List V} {us : List Value} (r : Vals xs us) : xs.length = us.length := Paired.length r
theorem Vals.get : ∀ {xs : List V} {us : List Value} {i : Nat} {x : V}, Vals xs us → xs[i]? = some x → ∃ u, us[i]? = some u ∧ RelV x u
  | _, _, _, _, .nil, e => by simp at e
  | _, _, 0, _, .cons r _, e => by simp at e; subst e; exact ⟨_, rfl, r⟩
  | _, _, i + 1, x, .cons _ t, e => by
    obtain ⟨u, h1, h2⟩ := Vals.get (i := i) (x := x) t (by simpa using e)
    exact ⟨u, by simpa using h1, h2⟩
theorem Vals.set {x : V} {u : Value} (r : RelV x u) : ∀ {xs : List V} {us : List Value} (i : Nat), Vals xs us → Vals (xs.set i x) (us.set i u)
  | _, _, _, .nil => .nil
  | _, _, 0, .cons _ t => .cons r t
  | _, _, i + 1, .cons q t => .cons q (Vals.set r i t)
theorem Vals.append : ∀ {xs ys : List V} {us ws : List Value}, Vals xs us → Vals ys ws → Vals (xs ++ ys) (us ++ ws)
  | _, _, _, _, .nil, s => s
  | _, _, _, _, .cons r t, s => .cons r (Vals.append t s)
theorem Vals.take : ∀ {xs : List V} {us : List Value} (n : Nat), Vals xs us → Vals (xs.take n) (us.take n)
  | _, _, 0, _ => .nil
  | _, _, _ + 1, .nil => .nil
  | _, _, n + 1, .cons r t => .cons r (Vals.take n t)
theorem Vals.drop : ∀ {xs : List V} {us : List Value} (n : Nat), Vals xs us → Vals (xs.drop n) (us.drop n)
  | _, _, 0, r => r
  | _, _, _ + 1, .nil => .nil
  | _, _, n + 1, .cons _ t => Vals.drop n t
theorem Vals.none_of : ∀ {xs : List V} {us : List Value} {i : Nat}, Vals xs us → xs[i]? = none → us[i]? = none := fun {xs us i} r e => by
  have h1 := r.length
  have h2 : xs.length ≤ i := List.getElem?_eq_none_iff.mp e
  exact List.getElem?_eq_none_iff.mpr (by omega)
def RelO : Option V → Option Value → Prop
  | some v, some u => RelV v u
  | none, none => True
  | _, _ => False
def KV {κ : Type} : List (κ × V) → List (κ × Value) → Prop := Paired fun (p : κ × V) (q : κ × Value) => p.1 = q.1 ∧ RelV p.2 q.2
def kV : Key → V
  | .inl i => .int i
  | .inr x => .str x
inductive HO where
  | lst (xs : List V)
  | tup (xs : List V)
  | dK (kvs : List (Key × V)) | dT (kvs : List (List Key × V))
  | set (S : Int → Bool) (n : Nat)
  | ins (C dx : Addr) (fs : List (Str × V))
  | own (x : Addr)
  | xd (fs : List (Str × V))
  | met (f x : Addr)
  | rng (lo hi : Int)
  | frz (o : Obj) (u : HO)
  | tbl (ps : Array Value)
  | ext (φ : Heap → Prop)
abbrev Hp := Addr → Option HO
def upd (H : Hp) (a : Addr) (o : HO) : Hp := fun b => if b = a then some o else H b
theorem upd_same {H : Hp} {a : Addr} {o : HO} : upd H a o a = some o := by unfold upd; rw [if_pos rfl]
theorem upd_ne {H : Hp} {a b : Addr} {o : HO} (h : b ≠ a) : upd H a o b = H b := by unfold upd; rw [if_neg h]
theorem ne_of_none {H : Hp} {a b : Addr} {o : HO} (h : H a = some o) (h' : H b = none) : a ≠ b := by
  intro e; subst e; rw [h] at h'; cases h'
section
variable (P : Program) (w : World)
def ObjOk (H : Hp) (h : Heap) (a : Addr) : HO → Prop
  | .lst xs => xs.length ≤ sizeLine ∧ ∃ (its : List Value) (n : Nat), Vals xs its ∧ h.get? a = some { cls := .type "list", data := .seq its.toArray n }
  | .tup xs => xs.length ≤ sizeLine ∧ ∃ its : List Value, Vals xs its ∧ IsTup h a its.toArray
  | .dK kvs => kvs.length ≤ sizeLine ∧ (a == sysModules) = false ∧ ∃ vs, KV kvs vs ∧ h.DictOf (mixKind P w) a vs
  | .dT kvs => kvs.length ≤ sizeLine ∧ (a == sysModules) = false ∧ ∃ xs : List (List Key × Addr × Value),
      Paired (fun (p : List Key × V) (q : List Key × Addr × Value) => p.1 = q.1 ∧ H q.2.1 = some (.tup (p.1.map kV)) ∧ RelV p.2 q.2.2) kvs xs ∧
      ∃ o es ep, h.get? a = some o ∧ o.ExactDict ∧ o.data = .dict es ep ∧ es.toList = xs.map (entryOfKey (tupleKind (mixKind P w))) ∧ (xs.map (·.1)).Nodup
  | .set S n => h.SetOf (intKind P w) a S n
  | .ins C dx fs => H dx = some (.own a) ∧ fs.length ≤ 1000 ∧ dx ≠ a ∧ h.get? a = some (PySem.W.instObj C dx) ∧
      ∃ mA, h.Ns1 dx mA ∧ (∀ f, RelO (fs.lookup f) (mA f)) ∧ PySem.Within mA (fs.map (·.1))
  | .own _ => ∃ o, h.get? a = some o
  | .xd fs => ∃ mA, h.Ns1 a mA ∧ ∀ f, RelO (fs.lookup f) (mA f)
  | .rng lo hi => ∃ t u v, h.get? a = some { cls := .type "range", data := .fields #[.int lo t, .int hi u, .int 1 v] }
  | .frz o u => h.get? a = some o ∧ ObjOk H h a u
  | .tbl ps => h.get? a = some { cls := .none, data := .fields ps }
  | .met f x => h.get? a = some (PySem.W.methodObj (.ref f) (.ref x))
  | .ext φ => φ h ∧ (∃ o, h.get? a = some o) ∧ ∀ h1 h2 : Heap, φ h1 → (∀ o, h1.get? a = some o → h2.get? a = some o) → φ h2
def HOk (H : Hp) (h : Heap) : Prop := ∀ a o, H a = some o → ObjOk P w H h a o
end
section
variable {P : Program} {w : World} {H H' : Hp} {h h' : Heap} {a : Addr} {o : HO}
theorem ObjOk.lt (x : ObjOk P w H h a o) : a < h.objs.size := by
  cases o with
  | lst xs => obtain ⟨_, _, _, _, e⟩ := x; exact Heap.lt_size e
  | tup xs => obtain ⟨_, _, _, p⟩ := x; exact p.lt
  | dK kvs => obtain ⟨_, _, _, _, o, _, _, e, _⟩ := x; exact Heap.lt_size e
  | dT kvs => obtain ⟨_, _, _, _, o, _, _, e, _⟩ := x; exact Heap.lt_size e
  | set S n => obtain ⟨o, _, _, _, e, _⟩ := x; exact Heap.lt_size e
  | ins C dx fs => obtain ⟨_, _, _, e, _⟩ := x; exact Heap.lt_size e
  | own y => obtain ⟨_, e⟩ := x; exact Heap.lt_size e
  | xd fs => obtain ⟨_, ⟨_, _, _, e, _⟩, _⟩ := x; exact Heap.lt_size e
  | rng lo hi => obtain ⟨_, _, _, e⟩ := x; exact Heap.lt_size e
  | frz ob u => obtain ⟨e, _⟩ := x; exact Heap.lt_size e
  | tbl ps => exact Heap.lt_size (show h.get? a = some _ from x)
  | met f y => exact Heap.lt_size (show h.get? a = some _ from x)
  | ext φ => obtain ⟨_, ⟨_, e⟩, _⟩ := x; exact Heap.lt_size e
theorem Paired.mapP {α β : Type} {F G : α → β → Prop} : ∀ {l₁ : List α} {l₂ : List β}, Paired F l₁ l₂ → (∀ a b, F a b → G a b) → Paired G l₁ l₂
  | _, _, .nil, _ => .nil
  | _, _, .cons r t, f => .cons (f _ _ r) (Paired.mapP t f)
theorem ObjOk.stay (x : ObjOk P w H h a o) (k : ∀ b u, (b = a ∨ H b = some (.own a)) → h.get? b = some u → h'.get? b = some u)
    (ho : ∀ b, H b = some (.own a) → H' b = some (.own a)) (ht : ∀ b xs, H b = some (.tup xs) → H' b = some (.tup xs)) : ObjOk P w H' h' a o := by
  induction o with
  | lst xs => obtain ⟨z, its, n, r, e⟩ := x; exact ⟨z, its, n, r, k _ _ (.inl rfl) e⟩
  | tup xs => obtain ⟨z, its, r, ob, e, c⟩ := x; exact ⟨z, its, r, ob, k _ _ (.inl rfl) e, c⟩
  | dK kvs => obtain ⟨z, y, vs, r, ob, es, ep, e, c⟩ := x; exact ⟨z, y, vs, r, ob, es, ep, k _ _ (.inl rfl) e, c⟩
  | dT kvs =>
    obtain ⟨z, y, xs, r, ob, es, ep, e, c⟩ := x
    exact ⟨z, y, xs, Paired.mapP r fun p q z => ⟨z.1, ht _ _ z.2.1, z.2.2⟩, ob, es, ep, k _ _ (.inl rfl) e, c⟩
  | set S n => obtain ⟨ob, es, ep, t, e, c⟩ := x; exact ⟨ob, es, ep, t, k _ _ (.inl rfl) e, c⟩
  | ins C dx fs =>
    obtain ⟨d, z, ne, e, mA, ⟨od, es, ep, e2, c⟩, r⟩ := x
    exact ⟨ho _ d, z, ne, k _ _ (.inl rfl) e, mA, ⟨od, es, ep, k _ _ (.inr d) e2, c⟩, r⟩
  | own y => obtain ⟨ob, e⟩ := x; exact ⟨ob, k _ _ (.inl rfl) e⟩
  | xd fs => obtain ⟨mA, ⟨od, es, ep, e, c⟩, r⟩ := x; exact ⟨mA, ⟨od, es, ep, k _ _ (.inl rfl) e, c⟩, r⟩
  | rng lo hi => obtain ⟨t, u, v, e⟩ := x; exact ⟨t, u, v, k _ _ (.inl rfl) e⟩
  | frz ob u ih => obtain ⟨e, q⟩ := x; exact ⟨k _ _ (.inl rfl) e, ih q⟩
  | tbl ps =>
    have e : h.get? a = some { cls := .none, data := .fields ps } := x
    show h'.get? a = some { cls := .none, data := .fields ps }
    exact k a _ (.inl rfl) e
  | met f y =>
    have e : h.get? a = some (PySem.W.methodObj (.ref f) (.ref y)) := x
    show h'.get? a = some (PySem.W.methodObj (.ref f) (.ref y))
    exact k a _ (.inl rfl) e
  | ext φ => obtain ⟨p, ⟨o, e⟩, st⟩ := x; exact ⟨st _ _ p fun o q => k _ _ (.inl rfl) q, ⟨o, k _ _ (.inl rfl) e⟩, st⟩
theorem HOk.lt (x : HOk P w H h) (e : H a = some o) : a < h.objs.size := (x a o e).lt
theorem HOk.fresh (x : HOk P w H h) (e : h.objs.size ≤ a) : H a = none := by
  cases q : H a with
  | none => rfl
  | some u => exact absurd (Nat.lt_of_lt_of_le (x.lt q) e) (Nat.lt_irrefl _)
theorem HOk.kept (x : HOk P w H h) (k : ∀ b u, h.get? b = some u → h'.get? b = some u) : HOk P w H h' := fun a o e =>
  (x a o e).stay (fun b u _ q => k b u q) (fun _ q => q) fun _ _ q => q
theorem HOk.laid (x : HOk P w H h) (k : ∀ b u, h.get? b = some u → h'.get? b = some u) (hp : h.objs.size ≤ a) (new : ObjOk P w (upd H a o) h' a o) : HOk P w (upd H a o) h' := fun b u e => by
  have hn := x.fresh hp
  by_cases hb : b = a
  · subst hb; rw [upd_same] at e; cases e; exact new
  · rw [upd_ne hb] at e
    exact (x b u e).stay (fun c v _ q => k c v q) (fun c q => by rw [upd_ne (ne_of_none q hn)]; exact q) fun c xs q => by rw [upd_ne (ne_of_none q hn)]; exact q
end
def Rd (H : Hp) (a : Addr) (u : HO) : Prop := H a = some u ∨ ∃ o, H a = some (.frz o u)
theorem Rd.of {H : Hp} {a : Addr} {u : HO} (h : H a = some u) : Rd H a u := .inl h
theorem Rd.ok {P : Program} {w : World} {H : Hp} {h : Heap} {a : Addr} {u : HO} (r : Rd H a u) (x : HOk P w H h) : ObjOk P w H h a u := by
  rcases r with r | ⟨o, r⟩
  · exact x a u r
  · obtain ⟨_, q⟩ := x a _ r
    exact q
def Mut : Option HO → Prop
  | some (.lst _) => True
  | some (.dK _) => True
  | some (.dT _) => True
  | some (.set _ _) => True
  | some (.ins _ _ _) => True
  | some (.ext _) => True
  | _ => False
section
variable {P : Program} {w : World} {H : Hp} {h h' : Heap} {x e : Addr} {o' : HO}
theorem HOk.write (ok : HOk P w H h) (mu : Mut (H x)) (he : e = x ∨ H e = some (.own x)) (k : ∀ b u, b ≠ e → h.get? b = some u → h'.get? b = some u) (heo : ∃ u, h'.get? e = some u)
    (new : ObjOk P w (upd H x o') h' x o') : HOk P w (upd H x o') h' := fun b u q => by
  have nown : ∀ c y, H c = some (.own y) → c ≠ x := fun c y r z => by subst z; rw [r] at mu; exact mu
  have ntup : ∀ c xs, H c = some (.tup xs) → c ≠ x := fun c xs r z => by subst z; rw [r] at mu; exact mu
  by_cases hb : b = x
  · subst hb; rw [upd_same] at q; cases q; exact new
  · rw [upd_ne hb] at q
    by_cases hbe : b = e
    · have q' : H b = some (.own x) := by
        rcases he with z | z
        · exact absurd (hbe.trans z) hb
        · rw [hbe]; exact z
      rw [q] at q'; cases q'
      obtain ⟨v, hv⟩ := heo
      exact ⟨v, by rw [hbe]; exact hv⟩
    · refine (ok b u q).stay (fun c v hc r => k c v ?_ r) (fun c r => by rw [upd_ne (nown c b r)]; exact r) fun c xs r => by rw [upd_ne (ntup c xs r)]; exact r
      rcases hc with rfl | hc
      · exact hbe
      · rintro rfl
        rcases he with z | z
        · exact nown c b hc z
        · rw [hc] at z; cases z; exact hb rfl
end
structure Un (fs ex : List Addr) (H H' : Hp) (h h' : Heap) : Prop where
  keep : ∀ b o, h.get? b = some o → H b = none → b ∉ fs → b ∉ ex → h'.get? b = some o
  slot : ∀ b o, h.get? b = some o → H b = none → b ∈ fs → b ∉ ex → ∃ sl, h'.get? b = some { o with slots := sl }
  free : ∀ b o, h.get? b = some o → H b = none → b ∉ ex → H' b = none
  there : ∀ b o, h.get? b = some o → b ∉ ex → ∃ o', h'.get? b = some o'
  tups : ∀ b xs, H b = some (.tup xs) → H' b = some (.tup xs)
  frzs : ∀ b o u, H b = some (.frz o u) → H' b = some (.frz o u)
  tbls : ∀ b ps, H b = some (.tbl ps) → ∃ more, H' b = some (.tbl (ps ++ more))
section
variable {fs fs' ex ex' : List Addr} {H H1 H2 : Hp} {h h1 h2 h' : Heap} {a x e : Addr} {o : HO}
theorem Un.any (u : Un fs ex H H1 h h1) {b : Addr} {ob : Obj} (q : h.get? b = some ob) (n : H b = none) (hx : b ∉ ex) : ∃ sl, h1.get? b = some { ob with slots := sl } := by
  by_cases hb : b ∈ fs
  · exact u.slot b ob q n hb hx
  · exact ⟨ob.slots, u.keep b ob q n hb hx⟩
theorem Un.trans (a : Un fs ex H H1 h h1) (b : Un fs ex H1 H2 h1 h2) : Un fs ex H H2 h h2 where
  keep := fun c ob q n hc hx => b.keep c ob (a.keep c ob q n hc hx) (a.free c ob q n hx) hc hx
  slot := fun c ob q n hc hx => by
    obtain ⟨sl, e1⟩ := a.slot c ob q n hc hx
    obtain ⟨sl', e2⟩ := b.slot c _ e1 (a.free c ob q n hx) hc hx
    exact ⟨sl', e2⟩
  free := fun c ob q n hx => by
    obtain ⟨o', e1⟩ := a.there c ob q hx
    exact b.free c o' e1 (a.free c ob q n hx) hx
  there := fun c ob q hx => by
    obtain ⟨o', e1⟩ := a.there c ob q hx
    exact b.there c o' e1 hx
  tups := fun c xs q => b.tups c xs (a.tups c xs q)
  frzs := fun c ob xs q => b.frzs c ob xs (a.frzs c ob xs q)
  tbls := fun c ps q => by
    obtain ⟨m1, e1⟩ := a.tbls c ps q
    obtain ⟨m2, e2⟩ := b.tbls c _ e1
    exact ⟨m1 ++ m2, by rw [e2, Array.append_assoc]⟩
theorem Un.kept (k : ∀ b u, h.get? b = some u → h'.get? b = some u) : Un fs ex H H h h' :=
  ⟨fun b ob q _ _ _ => k b ob q, fun b ob q _ _ _ => ⟨ob.slots, k b ob q⟩, fun _ _ _ n _ => n, fun b ob q _ => ⟨ob, k b ob q⟩, fun _ _ q => q, fun _ _ _ q => q, fun _ ps q => ⟨#[], by rw [q]; simp⟩⟩
theorem Un.refl : Un fs ex H H h h := Un.kept fun _ _ q => q
theorem Un.laid (k : ∀ b u, h.get? b = some u → h'.get? b = some u) (hp : h.objs.size ≤ a) (hn : H a = none) : Un fs ex H (upd H a o) h h' where
  keep := fun b u q _ _ _ => k b u q
  slot := fun b u q _ _ _ => ⟨u.slots, k b u q⟩
  free := fun b u q n _ => by rw [upd_ne (Nat.ne_of_lt (Nat.lt_of_lt_of_le (Heap.lt_size q) hp))]; exact n
  there := fun b u q _ => ⟨u, k b u q⟩
  tups := fun b xs q => by rw [upd_ne (ne_of_none q hn)]; exact q
  frzs := fun b u xs q => by rw [upd_ne (ne_of_none q hn)]; exact q
  tbls := fun b ps q => ⟨#[], by rw [upd_ne (ne_of_none q hn), q]; simp⟩
theorem Un.write (mu : Mut (H x)) (he : e = x ∨ H e = some (.own x)) (k : ∀ b u, b ≠ e → h.get? b = some u → h'.get? b = some u) (heo : ∃ u, h'.get? e = some u) : Un fs ex H (upd H x o) h h' := by
  have hx : ∀ b, H b = none → b ≠ x := fun b n z => by subst z; rw [n] at mu; exact mu
  have hb : ∀ b, H b = none → b ≠ e := fun b n z => by
    subst z
    rcases he with r | r
    · exact hx b n r
    · rw [n] at r; cases r
  have hm : ∀ b u, H b = some u → ¬ Mut (some u) → b ≠ x := fun b u q nm z => by subst z; rw [q] at mu; exact nm mu
  refine ⟨fun b u q n _ _ => k b u (hb b n) q, fun b u q n _ _ => ⟨u.slots, k b u (hb b n) q⟩, fun b u q n _ => by rw [upd_ne (hx b n)]; exact n, fun b u q _ => ?_,
    fun b xs q => by rw [upd_ne (hm b _ q fun z => z)]; exact q, fun b u xs q => by rw [upd_ne (hm b _ q fun z => z)]; exact q, fun b ps q => ⟨#[], by rw [upd_ne (hm b _ q fun z => z), q]; simp⟩⟩
  by_cases hbe : b = e
  · subst hbe; exact heo
  · exact ⟨u, k b u hbe q⟩
theorem Un.mono (u : Un fs ex H H1 h h1) (hs : ∀ b ∈ fs, b ∈ fs') (hx : ∀ b ∈ ex, b ∈ ex') : Un fs' ex' H H1 h h1 :=
  ⟨fun b ob q n hb he => u.keep b ob q n (fun z => hb (hs b z)) fun z => he (hx b z), fun _ _ q n _ he => u.any q n fun z => he (hx _ z), fun b ob q n he => u.free b ob q n fun z => he (hx b z), fun b ob q he => u.there b ob q fun z => he (hx b z), u.tups, u.frzs, u.tbls⟩
end
def trk (h : Heap) (H : Hp) : List Addr := (List.range h.objs.size).filter fun a => (H a).isSome
def hidT (h : Heap) (H : Hp) : Heap := PySem.W.hideAll h (trk h H)
theorem hidT_size (h : Heap) (H : Hp) : (hidT h H).objs.size = h.objs.size := PySem.W.hideAll_size _ _
theorem hidT_get {h : Heap} {H : Hp} {b : Addr} {o : Obj} (e : h.get? b = some o) (n : H b = none) : (hidT h H).get? b = some o :=
  PySem.W.hideAll_get _ e fun hm => by
    have q : (H b).isSome = true := (List.mem_filter.mp hm).2
    rw [n] at q; simp at q
theorem of_hidT {h : Heap} {H : Hp} {b : Addr} {o : Obj} (e : (hidT h H).get? b = some o) : h.get? b = some o ∧ H b = none := by
  have e' : h.get? b = some o := PySem.W.of_hideAll (trk h H) e
  refine ⟨e', ?_⟩
  cases q : H b with
  | none => rfl
  | some x =>
    have hm : b ∈ trk h H := List.mem_filter.mpr ⟨List.mem_range.mpr (Heap.lt_size e'), by simp [q]⟩
    have z : (hidT h H).get? b = none := PySem.W.hideAll_none (trk h H) hm
    rw [z] at e; cases e
def allNews (g h : Heap) (L : Addr) : List (Addr × Obj) := (List.range h.objs.size).filterMap fun a => if a = L ∨ (g.get? a).isSome = true then none else (h.get? a).map fun o => (a, o)
def rest (g h : Heap) (L d : Addr) : List (Addr × Obj) := (allNews g h L).filter fun p => decide (p.1 ≠ d)
end L2
namespace L2
open PySem PySem.Spec PyProof.Rows
structure Mod (K : PySem.W.Frag) (mg : Str → Option Value) (base : Heap) : Prop where
  kin : K.In base
  glob : base.Ns mainGlobals mg
  blt : ∃ mb, base.Ns builtinsNs mb ∧ ∀ x : Str, x ≠ "__name__" → mb x = bootBuiltins x
  nolimit : base.NoLimit
structure Cx where
  prog : Program
  w : World
  K : PySem.W.Frag
  mg : Str → Option Value
  base : Heap
  A : Around
  N : List Str
  s₀ : Shared
  H₀ : Hp
  env : Env
  outer : List Env
  stack : List Env
  ex : List Addr
  fn : Str → Bool
  calm : Bool
  pn : List (Addr × Obj)
  xe : Value → Shared → Prop
def frs (l : List Env) : List Addr := l.filterMap (·.frame)
abbrev Cx.fs (X : Cx) : List Addr := frs X.outer
def Vis (sc : Scope) (x : Str) : Prop := sc.names.lookup x = some .local ∨ sc.names.lookup x = some .cell ∨ sc.names.lookup x = some .free
def Loc (sc : Scope) (x : Str) : Prop := sc.names.lookup x = some .local ∨ sc.names.lookup x = some .cell
def Look (env : Env) (h : Heap) (m : Str → Option Value) (x : Str) (u : Value) : Prop :=
  (env.kindOf x = some .local ∧ m x = some u) ∨ ((env.kindOf x = some .cell ∨ env.kindOf x = some .free) ∧ ∃ c, env.cells.lookup x = some c ∧ h.IsCell c (some u))
structure Cx.Ok (X : Cx) : Prop where
  mod : Mod X.K X.mg X.base
  kind : X.env.scope.kind = .function
  glob : X.env.globals = mainGlobals
  blt : X.env.builtins = builtinsNs
  above : X.s₀.heap.objs.size ≤ X.env.locals
  inj : ∀ x y c, X.env.cells.lookup x = some c → X.env.cells.lookup y = some c → x = y
  has : ∀ x, (X.env.kindOf x = some .cell ∨ X.env.kindOf x = some .free) → ∃ c, X.env.cells.lookup x = some c
  cab : ∀ x c, X.fn x = true → X.env.cells.lookup x = some c → X.s₀.heap.objs.size ≤ c
  hd : X.calm = true → X.A.handled = none
  frames : X.A.frames = some X.stack
  stk : X.stack = X.outer ∨ (X.stack = X.env :: X.outer ∧ X.env.frame = some X.env.locals)
  exf : ∀ b ∈ X.ex, b ≠ X.env.locals ∧ ∀ x c, X.env.cells.lookup x = some c → c ≠ b
  bs : ∀ b o, X.base.get? b = some o → X.s₀.heap.get? b = some o ∧ X.H₀ b = none
  bsz : X.base.objs.size ≤ X.s₀.heap.objs.size
  noex : ∀ b o, X.base.get? b = some o → b ∉ X.ex
  exfs : ∀ b ∈ X.ex, b ∉ X.fs
  funs : X.s₀.heap.FunFrames X.base X.outer
  frf : ∀ b ∈ X.fs, X.H₀ b = none
structure Inv (X : Cx) (pins : List (Addr × Obj)) (σ : List (Option V)) (H : Hp) (s : Shared) : Prop where
  ok : X.Ok
  os : s.os = X.s₀.os
  bare : AllBare s.gens
  base : Un X.fs X.ex X.H₀ H X.s₀.heap s.heap
  loc : ∃ m, s.heap.Ns X.env.locals m ∧ ∀ (i : Nat) (x : Str) (v : V), X.N[i]? = some x → σ[i]? = some (some v) → Vis X.env.scope x → ∃ u, RelV v u ∧ Look X.env s.heap m x u
  cell : ∀ x c, X.env.cells.lookup x = some c → ∃ v, s.heap.IsCell c v
  free : H X.env.locals = none
  freeC : ∀ x c, X.env.cells.lookup x = some c → H c = none
  pin : ∀ p ∈ X.pn ++ pins, s.heap.get? p.1 = some p.2 ∧ H p.1 = none ∧ p.1 ≠ X.env.locals ∧ p.1 ∉ X.fs ∧ ∀ v, p.2.data ≠ .cell v
  hok : HOk X.prog X.w H s.heap
  len : σ.length = X.N.length
section
variable {X : Cx} {pins : List (Addr × Obj)} {σ : List (Option V)} {H H' : Hp} {s : Shared} {h' : Heap}
theorem Cx.Ok.nofr (ok : X.Ok) {b : Addr} {o : Obj} (e : X.base.get? b = some o) : b ∉ X.fs := fun hb => by
  have := (ok.funs.mem hb).1
  rw [e] at this; cases this
theorem Inv.bs (I : Inv X pins σ H s) : ∀ b o, X.base.get? b = some o → s.heap.get? b = some o ∧ H b = none := fun b o e =>
  ⟨I.base.keep b o (I.ok.bs b o e).1 (I.ok.bs b o e).2 (I.ok.nofr e) (I.ok.noex b o e), I.base.free b o (I.ok.bs b o e).1 (I.ok.bs b o e).2 (I.ok.noex b o e)⟩
theorem Inv.bk (I : Inv X pins σ H s) : ∀ b o, X.base.get? b = some o → s.heap.get? b = some o := fun b o e => (I.bs b o e).1
theorem Inv.mod (I : Inv X pins σ H s) : Mod X.K X.mg X.base := I.ok.mod
theorem Inv.kIn (I : Inv X pins σ H s) : X.K.In s.heap := I.ok.mod.kin.keeps I.bk
theorem Inv.nolimit (I : Inv X pins σ H s) : s.heap.NoLimit := I.ok.mod.nolimit.keeps I.bk
theorem Inv.fr (I : Inv X pins σ H s) : ∃ m, Fr X.base X.env.locals s.heap m :=
  let ⟨m, hn, _⟩ := I.loc
  ⟨m, hn, I.bk, Nat.le_trans I.ok.bsz I.ok.above⟩
theorem Inv.lt (I : Inv X pins σ H s) : X.env.locals < s.heap.objs.size := let ⟨_, hn, _⟩ := I.loc; hn.lt
theorem Inv.sz (I : Inv X pins σ H s) : X.s₀.heap.objs.size ≤ s.heap.objs.size := Nat.le_trans I.ok.above (Nat.le_of_lt I.lt)
theorem Inv.nofs (I : Inv X pins σ H s) {a : Addr} (h : s.heap.objs.size ≤ a) : a ∉ X.fs := fun hb => by
  obtain ⟨_, o, ho, _⟩ := I.ok.funs.mem hb
  exact absurd (Nat.lt_of_lt_of_le (Heap.lt_size ho) (Nat.le_trans I.sz h)) (Nat.lt_irrefl _)
theorem Inv.cne (I : Inv X pins σ H s) : ∀ x c, X.env.cells.lookup x = some c → c ≠ X.env.locals := fun x c e z => by
  obtain ⟨v, o, ho, hd⟩ := I.cell x c e
  obtain ⟨m, ⟨o', es, ep, ho', hd', _⟩, _⟩ := I.loc
  rw [z, ho'] at ho; cases ho; rw [hd'] at hd; cases hd
theorem Inv.funs (I : Inv X pins σ H s) : s.heap.FunFrames X.base X.outer := by
  have all : ∀ (l : List Env), (∀ b ∈ frs l, b ∈ X.fs) → X.s₀.heap.FunFrames X.base l → s.heap.FunFrames X.base l := by
    intro l
    induction l with
    | nil => intro _ _; trivial
    | cons env r ih =>
      intro hs hl
      obtain ⟨hk, ⟨L, o, hf, hn, ho, hd⟩, hr⟩ := hl
      have hL : L ∈ X.fs := hs L (by unfold frs; rw [List.filterMap_cons, hf]; exact List.mem_cons_self)
      obtain ⟨sl, e⟩ := I.base.slot L o ho (I.ok.frf L hL) hL fun z => I.ok.exfs L z hL
      exact ⟨hk, ⟨L, _, hf, hn, e, hd⟩, ih (fun b hb => hs b (by unfold frs; rw [List.filterMap_cons, hf]; exact List.mem_cons_of_mem _ hb)) hr⟩
  exact all X.outer (fun _ hb => hb) I.ok.funs
theorem Inv.stack (I : Inv X pins σ H s) : s.heap.FunFrames X.base X.stack := by
  rcases I.ok.stk with e | ⟨e, hf⟩
  · rw [e]; exact I.funs
  · rw [e]
    obtain ⟨m, hn, _⟩ := I.loc
    refine .cons (by rw [I.ok.kind]; decide) hf hn ?_ I.funs
    exact Heap.get?_none_of_le (Nat.le_trans I.ok.bsz I.ok.above)
theorem Inv.stkSub (I : Inv X pins σ H s) : ∀ b ∈ frs X.stack, b ∈ X.env.locals :: X.fs := fun b hb => by
  rcases I.ok.stk with e | ⟨e, hf⟩
  · rw [e] at hb; exact List.mem_cons_of_mem _ hb
  · rw [e] at hb
    unfold frs at hb
    rw [List.filterMap_cons, hf] at hb
    exact hb
theorem Inv.stkFree (I : Inv X pins σ H s) : ∀ b ∈ frs X.stack, H b = none := fun b hb => by
  rcases List.mem_cons.mp (I.stkSub b hb) with e | hb
  · rw [e]; exact I.free
  · obtain ⟨_, o, ho, _⟩ := I.ok.funs.mem hb
    exact I.base.free b o ho (I.ok.frf b hb) fun z => I.ok.exfs b z hb
theorem Inv.step {g' : Array GenState} {t' : Nat} {d' : Drawn} {ch : List Addr} (I : Inv X pins σ H s)
    (hch : ∀ b ∈ ch, (b ∈ X.ex ∨ X.s₀.heap.objs.size ≤ b) ∧ b ≠ X.env.locals ∧ (∀ x c, X.env.cells.lookup x = some c → c ≠ b) ∧ ∀ p ∈ X.pn ++ pins, p.1 ≠ b)
    (keep : ∀ b o, b ≠ X.env.locals → b ∉ X.fs → b ∉ ch → s.heap.get? b = some o → H b = none → h'.get? b = some o)
    (slot : ∀ b o, b ≠ X.env.locals → b ∈ X.fs → b ∉ ch → s.heap.get? b = some o → H b = none → ∃ sl, h'.get? b = some { o with slots := sl }) (free : ∀ b o, b ∉ ch → s.heap.get? b = some o → H b = none → H' b = none)
    (there : ∀ b o, b ∉ ch → s.heap.get? b = some o → ∃ o', h'.get? b = some o')
    (tups : ∀ b xs, H b = some (.tup xs) → H' b = some (.tup xs)) (frzs : ∀ b o u, H b = some (.frz o u) → H' b = some (.frz o u)) (tbls : ∀ b ps, H b = some (.tbl ps) → ∃ more, H' b = some (.tbl (ps ++ more)))
    (ns : ∀ m, s.heap.Ns X.env.locals m → h'.Ns X.env.locals m) (hok : HOk X.prog X.w H' h') (hg : AllBare g') :
    Inv X pins σ H' { s with heap := h', gens := g', drawn := d', toks := t' } := by
  have neL : ∀ b o, X.s₀.heap.get? b = some o → b ≠ X.env.locals := fun b o e => Nat.ne_of_lt (Nat.lt_of_lt_of_le (Heap.lt_size e) I.ok.above)
  have neC : ∀ b o, X.s₀.heap.get? b = some o → b ∉ X.ex → b ∉ ch := fun b o e hx hb => by
    rcases (hch b hb).1 with z | z
    · exact hx z
    · exact absurd (Nat.lt_of_lt_of_le (Heap.lt_size e) z) (Nat.lt_irrefl _)
  have cellK : ∀ x c, X.env.cells.lookup x = some c → ∀ v, s.heap.IsCell c v → h'.IsCell c v := fun x c e v ⟨o, ho, hd⟩ => by
    have nch : c ∉ ch := fun z => (hch c z).2.2.1 x c e rfl
    by_cases hc : c ∈ X.fs
    · obtain ⟨sl, q⟩ := slot c o (I.cne x c e) hc nch ho (I.freeC x c e)
      exact ⟨_, q, hd⟩
    · exact ⟨o, keep c o (I.cne x c e) hc nch ho (I.freeC x c e), hd⟩
  refine ⟨I.ok, I.os, hg, ⟨fun b o e n hb hx => ?_, fun b o e n hb hx => ?_, fun b o e n hx => ?_, fun b o e hx => ?_, fun b xs e => tups b xs (I.base.tups b xs e), fun b o xs e => frzs b o xs (I.base.frzs b o xs e), fun b ps e => ?_⟩, ?_, fun x c e => ?_, ?_, fun x c e => ?_, fun p hp => ?_, hok, I.len⟩
  · exact keep b o (neL b o e) hb (neC b o e hx) (I.base.keep b o e n hb hx) (I.base.free b o e n hx)
  · obtain ⟨sl, e1⟩ := I.base.slot b o e n hb hx
    obtain ⟨sl', e2⟩ := slot b _ (neL b o e) hb (neC b o e hx) e1 (I.base.free b o e n hx)
    exact ⟨sl', e2⟩
  · obtain ⟨o', e1⟩ := I.base.there b o e hx
    exact free b o' (neC b o e hx) e1 (I.base.free b o e n hx)
  · obtain ⟨o', e1⟩ := I.base.there b o e hx
    exact there b o' (neC b o e hx) e1
  · obtain ⟨m1, e1⟩ := I.base.tbls b ps e
    obtain ⟨m2, e2⟩ := tbls b _ e1
    exact ⟨m1 ++ m2, by rw [e2, Array.append_assoc]⟩
  · obtain ⟨m, hn, hl⟩ := I.loc
    refine ⟨m, ns m hn, fun i x v e1 e2 e3 => ?_⟩
    obtain ⟨u, r, l⟩ := hl i x v e1 e2 e3
    refine ⟨u, r, ?_⟩
    rcases l with l | ⟨k, c, e, z⟩
    · exact .inl l
    · exact .inr ⟨k, c, e, cellK x c e _ z⟩
  · obtain ⟨v, z⟩ := I.cell x c e
    exact ⟨v, cellK x c e v z⟩
  · obtain ⟨m, ⟨o, _, _, ho, _⟩, _⟩ := I.loc
    exact free _ o (fun z => (hch _ z).2.1 rfl) ho I.free
  · obtain ⟨v, o, ho, hd⟩ := I.cell x c e
    exact free c o (fun z => (hch c z).2.2.1 x c e rfl) ho (I.freeC x c e)
  · obtain ⟨e, n, ne, nf, d⟩ := I.pin p hp
    have nch : p.1 ∉ ch := fun z => (hch p.1 z).2.2.2 p hp rfl
    exact ⟨keep p.1 p.2 ne nf nch e n, free p.1 p.2 nch e n, ne, nf, d⟩
theorem Inv.un {t' : Nat} (I : Inv X pins σ H s) (u : Un X.fs [] H H' s.heap h') (hok : HOk X.prog X.w H' h') : Inv X pins σ H' { s with heap := h', toks := t' } := by
  obtain ⟨m, ⟨o, es, ep, ho, r⟩, _⟩ := id I.loc
  obtain ⟨sl, hL⟩ := u.any ho I.free (by simp)
  exact I.step (g' := s.gens) (d' := s.drawn) (ch := []) (fun _ z => nomatch z) (fun b o _ hb _ e n => u.keep b o e n hb (by simp)) (fun b o _ hb _ e n => u.slot b o e n hb (by simp)) (fun b o _ e n => u.free b o e n (by simp)) (fun b o _ e => u.there b o e (by simp)) u.tups u.frzs u.tbls (fun m' hm => by
    obtain ⟨o', es', ep', ho', r'⟩ := hm
    rw [ho] at ho'; cases ho'
    exact ⟨_, es', ep', hL, r'⟩) hok I.bare
theorem Inv.call {g' : Array GenState} {t' : Nat} {d' : Drawn} {ch : List Addr} (I : Inv X pins σ H s) (u : Un (frs X.stack) ch H H' s.heap h') (hok : HOk X.prog X.w H' h') (hg : AllBare g')
    (hch : ∀ b ∈ ch, (b ∈ X.ex ∨ X.s₀.heap.objs.size ≤ b) ∧ b ≠ X.env.locals ∧ (∀ x c, X.env.cells.lookup x = some c → c ≠ b) ∧ ∀ p ∈ X.pn ++ pins, p.1 ≠ b) :
    Inv X pins σ H' { s with heap := h', gens := g', drawn := d', toks := t' } := by
  obtain ⟨m, ⟨o, es, ep, ho, r⟩, _⟩ := id I.loc
  obtain ⟨sl, hL⟩ := u.any ho I.free fun z => (hch _ z).2.1 rfl
  exact I.step (ch := ch) hch (fun b o hL hb hc e n => u.keep b o e n (fun z => (List.mem_cons.mp (I.stkSub b z)).elim hL hb) hc) (fun b o _ _ hc e n => u.any e n hc) (fun b o hc e n => u.free b o e n hc) (fun b o hc e => u.there b o e hc) u.tups u.frzs u.tbls (fun m' hm => by
    obtain ⟨o', es', ep', ho', r'⟩ := hm
    rw [ho] at ho'; cases ho'
    exact ⟨_, es', ep', hL, r'⟩) hok hg
theorem Inv.turned {t' : Nat} {it : Addr} (I : Inv X pins σ H s) (k : ∀ b o, b ≠ it → s.heap.get? b = some o → h'.get? b = some o) (hn : H it = none) (hL : it ≠ X.env.locals)
    (h1 : it ∈ X.ex ∨ X.s₀.heap.objs.size ≤ it) (h2 : ∀ x c, X.env.cells.lookup x = some c → c ≠ it) (h3 : ∀ p ∈ X.pn ++ pins, p.1 ≠ it) : Inv X pins σ H { s with heap := h', toks := t' } := by
  have nit : ∀ b u, H b = some u → b ≠ it := fun b u e z => by rw [z, hn] at e; cases e
  refine I.step (g' := s.gens) (d' := s.drawn) (ch := [it]) (fun b hb => ?_) (fun b o _ _ hc e _ => k b o (fun z => hc (by simp [z])) e) (fun b o _ _ hc e _ => ⟨o.slots, k b o (fun z => hc (by simp [z])) e⟩) (fun _ _ _ _ n => n)
    (fun b o hc e => ⟨o, k b o (fun z => hc (by simp [z])) e⟩) (fun _ _ e => e) (fun _ _ _ e => e) (fun b ps e => ⟨#[], by rw [e]; simp⟩) (fun m hm => ?_) (fun b u e => ?_) I.bare
  · have e : b = it := by simpa using hb
    subst e
    exact ⟨h1, hL, h2, h3⟩
  · obtain ⟨o, es, ep, ho, r⟩ := hm
    exact ⟨o, es, ep, k _ o (Ne.symm hL) ho, r⟩
  · refine (I.hok b u e).stay (fun c v hc q => k c v ?_ q) (fun _ q => q) fun _ _ q => q
    rcases hc with z | z
    · rw [z]; exact nit b u e
    · exact nit c _ z
theorem Inv.tok (I : Inv X pins σ H s) (t : Nat) : Inv X pins σ H { s with toks := t } := I.un (h' := s.heap) (t' := t) Un.refl I.hok
theorem Inv.kept {t' : Nat} (I : Inv X pins σ H s) (k : ∀ b u, s.heap.get? b = some u → h'.get? b = some u) : Inv X pins σ H { s with heap := h', toks := t' } := I.un (Un.kept k) (I.hok.kept k)
theorem Inv.laid {a : Addr} {o : HO} {t' : Nat} (I : Inv X pins σ H s) (k : ∀ b u, s.heap.get? b = some u → h'.get? b = some u) (hp : s.heap.objs.size ≤ a) (new : ObjOk X.prog X.w (upd H a o) h' a o) :
    Inv X pins σ (upd H a o) { s with heap := h', toks := t' } := I.un (Un.laid k hp (I.hok.fresh hp)) (I.hok.laid k hp new)
theorem Inv.write {x e : Addr} {o : HO} {t' : Nat} (I : Inv X pins σ H s) (mu : Mut (H x)) (he : e = x ∨ H e = some (.own x)) (k : ∀ b u, b ≠ e → s.heap.get? b = some u → h'.get? b = some u) (heo : ∃ u, h'.get? e = some u)
    (new : ObjOk X.prog X.w (upd H x o) h' x o) : Inv X pins σ (upd H x o) { s with heap := h', toks := t' } := I.un (Un.write mu he k heo) (I.hok.write mu he k heo new)
theorem Inv.pins_of {pins' : List (Addr × Obj)} (I : Inv X pins σ H s) (h : ∀ p ∈ pins', s.heap.get? p.1 = some p.2 ∧ H p.1 = none ∧ p.1 ≠ X.env.locals ∧ p.1 ∉ X.fs ∧ ∀ v, p.2.data ≠ .cell v) : Inv X pins' σ H s :=
  ⟨I.ok, I.os, I.bare, I.base, I.loc, I.cell, I.free, I.freeC, fun p hp => (List.mem_append.mp hp).elim (fun z => I.pin p (List.mem_append_left _ z)) (h p), I.hok, I.len⟩
theorem nodup_ix {N : List Str} (hN : N.Nodup) {i j : Nat} {x : Str} (a : N[i]? = some x) (b : N[j]? = some x) : i = j := by
  obtain ⟨h1, e1⟩ := List.getElem?_eq_some_iff.mp a
  obtain ⟨h2, e2⟩ := List.getElem?_eq_some_iff.mp b
  exact (List.getElem_inj hN).mp (e1.trans e2.symm)
theorem store_ok2 {M : Model} {A : Around} {E : Value → Shared → Prop} {i : Nat} {x : Str} {v : V} {u : Value} {Q : Unit → Shared → Prop} (I : Inv X pins σ H s) (hN : X.N.Nodup) (hi : X.N[i]? = some x) (hx : Loc X.env.scope x) (r : RelV v u)
    (h : ∀ s', Inv X pins (σ.set i (some v)) H s' → (∃ a, Heap.SameBut a s.heap s'.heap ∧ (a = X.env.locals ∨ X.env.cells.lookup x = some a)) → Q () s') (hf : X.fn x = true ∨ X.env.scope.names.lookup x = some .local := by first | exact .inl rfl | exact .inr rfl | assumption) : wpAny M A (storeName X.env x u) Q E s := by
  obtain ⟨m, hn, hl⟩ := id I.loc
  have hcls : (X.env.scope.kind == .class || (X.env.scope.kind == .module && X.env.locals != X.env.globals)) = false := by rw [I.ok.kind]; rfl
  have hiσ : i < σ.length := by rw [I.len]; exact (List.getElem?_eq_some_iff.mp hi).1
  have cne := I.cne
  have tracked : ∀ {a : Addr} {h' : Heap}, (∃ o, s.heap.get? a = some o ∧ H a = none) → Heap.SameBut a s.heap h' → HOk X.prog X.w H h' := fun {a h'} ha hs b ob e => by
    obtain ⟨_, _, hfree⟩ := ha
    refine (I.hok b ob e).stay (fun c w' hc q => (hs.2 c ?_).trans q) (fun _ q => q) fun _ _ q => q
    rintro rfl
    rcases hc with rfl | hc
    · rw [hfree] at e; cases e
    · rw [hfree] at hc; cases hc
  rcases hx with hk | hk
  · refine wpAny_storeName_local hk hn (fun h' hn' hs => ?_) hcls
    obtain ⟨oL, _, _, hoL, _⟩ := id hn
    refine h _ ⟨I.ok, I.os, I.bare, ⟨fun b o e n hb hx => ?_, fun b o e n hb hx => ?_, I.base.free, fun b o e hx => ?_, I.base.tups, I.base.frzs, I.base.tbls⟩, ⟨_, hn', fun j y v' e1 e2 e3 => ?_⟩, fun y c e => ?_, I.free, I.freeC, fun p hp => ?_, tracked ⟨oL, hoL, I.free⟩ hs, by simpa using I.len⟩ ⟨_, hs, .inl rfl⟩
    · exact (hs.2 b (Nat.ne_of_lt (Nat.lt_of_lt_of_le (Heap.lt_size e) I.ok.above))).trans (I.base.keep b o e n hb hx)
    · obtain ⟨sl, e1⟩ := I.base.slot b o e n hb hx
      exact ⟨sl, (hs.2 b (Nat.ne_of_lt (Nat.lt_of_lt_of_le (Heap.lt_size e) I.ok.above))).trans e1⟩
    · obtain ⟨o', e1⟩ := I.base.there b o e hx
      exact ⟨o', (hs.2 b (Nat.ne_of_lt (Nat.lt_of_lt_of_le (Heap.lt_size e) I.ok.above))).trans e1⟩
    · by_cases hj : j = i
      · subst hj
        rw [hi] at e1; cases e1
        rw [List.getElem?_set_self hiσ] at e2
        cases e2
        exact ⟨u, r, .inl ⟨hk, by simp⟩⟩
      · rw [List.getElem?_set_ne (Ne.symm hj)] at e2
        obtain ⟨u', r', q⟩ := hl j y v' e1 e2 e3
        refine ⟨u', r', ?_⟩
        rcases q with ⟨k, e⟩ | ⟨k, c, e, z⟩
        · refine .inl ⟨k, ?_⟩
          have : y ≠ x := fun e => hj (nodup_ix hN e1 (e ▸ hi))
          simp [this, e]
        · exact .inr ⟨k, c, e, z.sameBut hs (cne y c e)⟩
    · obtain ⟨w', z⟩ := I.cell y c e
      exact ⟨w', z.sameBut hs (cne y c e)⟩
    · obtain ⟨e, n, ne, nf, d⟩ := I.pin p hp
      exact ⟨(hs.2 p.1 ne).trans e, n, ne, nf, d⟩
  · have hfn : X.fn x = true := by
      rcases hf with z | z
      · exact z
      · rw [z] at hk; cases hk
    obtain ⟨c, hc⟩ := I.ok.has x (.inl hk)
    obtain ⟨w', z⟩ := I.cell x c hc
    refine wpAny_storeName_cell I.ok.kind hk hc z (fun h' hc' hs => ?_)
    obtain ⟨oc, hoc, hocd⟩ := id z
    refine h { s with heap := h' } ⟨I.ok, I.os, I.bare, ⟨fun b o e n hb hx => ?_, fun b o e n hb hx => ?_, I.base.free, fun b o e hx => ?_, I.base.tups, I.base.frzs, I.base.tbls⟩, ⟨m, hn.sameBut hs (Ne.symm (cne x c hc)), fun j y v' e1 e2 e3 => ?_⟩, fun y c' e => ?_, I.free, I.freeC, fun p hp => ?_, tracked ⟨oc, hoc, I.freeC x c hc⟩ hs, by simpa using I.len⟩ ⟨c, hs, .inr hc⟩
    · exact (hs.2 b (Nat.ne_of_lt (Nat.lt_of_lt_of_le (Heap.lt_size e) (I.ok.cab x c hfn hc)))).trans (I.base.keep b o e n hb hx)
    · obtain ⟨sl, e1⟩ := I.base.slot b o e n hb hx
      exact ⟨sl, (hs.2 b (Nat.ne_of_lt (Nat.lt_of_lt_of_le (Heap.lt_size e) (I.ok.cab x c hfn hc)))).trans e1⟩
    · obtain ⟨o', e1⟩ := I.base.there b o e hx
      exact ⟨o', (hs.2 b (Nat.ne_of_lt (Nat.lt_of_lt_of_le (Heap.lt_size e) (I.ok.cab x c hfn hc)))).trans e1⟩
    · by_cases hj : j = i
      · subst hj
        rw [hi] at e1; cases e1
        rw [List.getElem?_set_self hiσ] at e2
        cases e2
        exact ⟨u, r, .inr ⟨.inl hk, c, hc, hc'⟩⟩
      · rw [List.getElem?_set_ne (Ne.symm hj)] at e2
        obtain ⟨u', r', q⟩ := hl j y v' e1 e2 e3
        refine ⟨u', r', ?_⟩
        rcases q with q | ⟨k, c', e, z'⟩
        · exact .inl q
        · refine .inr ⟨k, c', e, z'.sameBut hs ?_⟩
          rintro rfl
          exact hj (nodup_ix hN e1 (I.ok.inj _ _ _ e hc ▸ hi))
    · by_cases hcc : c' = c
      · subst hcc; exact ⟨_, hc'⟩
      · obtain ⟨w2, z2⟩ := I.cell y c' e
        exact ⟨w2, z2.sameBut hs hcc⟩
    · obtain ⟨e, n, ne, nf, d⟩ := I.pin p hp
      refine ⟨(hs.2 p.1 ?_).trans e, n, ne, nf, d⟩
      intro q
      rw [q, hoc] at e
      have q' : oc = p.2 := Option.some.inj e
      exact d w' (by rw [← q']; exact hocd)
theorem store_ok {M : Model} {A : Around} {E : Value → Shared → Prop} {i : Nat} {x : Str} {v : V} {u : Value} {Q : Unit → Shared → Prop} (I : Inv X pins σ H s) (hN : X.N.Nodup) (hi : X.N[i]? = some x) (hx : Loc X.env.scope x) (r : RelV v u)
    (h : ∀ s', Inv X pins (σ.set i (some v)) H s' → Q () s') (hf : X.fn x = true ∨ X.env.scope.names.lookup x = some .local := by first | exact .inl rfl | exact .inr rfl | assumption) : wpAny M A (storeName X.env x u) Q E s :=
  store_ok2 I hN hi hx r (fun s' I' _ => h s' I') hf
theorem Inv.call' {s' : Shared} {ch : List Addr} (I : Inv X pins σ H s) (ho : s'.os = s.os) (u : Un (frs X.stack) ch H H' s.heap s'.heap) (hok : HOk X.prog X.w H' s'.heap) (hg : AllBare s'.gens)
    (hch : ∀ b ∈ ch, (b ∈ X.ex ∨ X.s₀.heap.objs.size ≤ b) ∧ b ≠ X.env.locals ∧ (∀ x c, X.env.cells.lookup x = some c → c ≠ b) ∧ ∀ p ∈ X.pn ++ pins, p.1 ≠ b) : Inv X pins σ H' s' := by
  obtain ⟨h', g', d', t', o'⟩ := s'
  have e : o' = s.os := ho
  subst e
  exact I.call (g' := g') (t' := t') (d' := d') u hok hg hch
end
abbrev XK := Value → Option Addr → Hp → Prop
abbrev St := List (Option V)
abbrev VK := V → Hp → Prop
abbrev TE := St → Hp → VK → Prop
abbrev TT := St → Hp → (Bool → Hp → Prop) → Prop
abbrev TA := St → Hp → (List V → Hp → Prop) → Prop
structure Ends where
  nx : St → Hp → Prop
  rt : VK
  bk : St → Hp → Prop := fun _ _ => False
  ct : St → Hp → Prop := fun _ _ => False
abbrev TS := Ends → St → Hp → Prop
def EP (X : Cx) (pins : List (Addr × Obj)) (σ : St) (Q : VK) (u : Value) (s' : Shared) : Prop := ∃ v H', Inv X pins σ H' s' ∧ RelV v u ∧ Q v H'
def TP (X : Cx) (pins : List (Addr × Obj)) (σ : St) (Q : Bool → Hp → Prop) (b : Bool) (s' : Shared) : Prop := ∃ H', Inv X pins σ H' s' ∧ Q b H'
def AP (X : Cx) (pins : List (Addr × Obj)) (σ : St) (Q : List V → Hp → Prop) (us : List Value) (s' : Shared) : Prop := ∃ vs H', Inv X pins σ H' s' ∧ Vals vs us ∧ Q vs H'
def SP (X : Cx) (pins : List (Addr × Obj)) (D : Ends) (f : Flow) (s' : Shared) : Prop :=
  match f with
  | .next => ∃ σ' H', Inv X pins σ' H' s' ∧ D.nx σ' H'
  | .brk => ∃ σ' H', Inv X pins σ' H' s' ∧ D.bk σ' H'
  | .cont => ∃ σ' H', Inv X pins σ' H' s' ∧ D.ct σ' H'
  | .ret u => ∃ v σ' H', Inv X pins σ' H' s' ∧ RelV v u ∧ D.rt v H'
def PE (X : Cx) (e : Expr) (t : TE) : Prop :=
  ∀ (pins : List (Addr × Obj)) (s : Shared) (σ : St) (H : Hp) (Q : VK), Inv X pins σ H s → t σ H Q → wpAny (model X.prog X.w) X.A (eval e X.env) (EP X pins σ Q) X.xe s
def PT (X : Cx) (e : Expr) (t : TT) : Prop :=
  ∀ (pins : List (Addr × Obj)) (s : Shared) (σ : St) (H : Hp) (Q : Bool → Hp → Prop), Inv X pins σ H s → t σ H Q → wpAny (model X.prog X.w) X.A (isTrue e X.env (eval e X.env)) (TP X pins σ Q) X.xe s
def PW (X : Cx) (e : Expr) (t : TT) : Prop :=
  ∀ (whole : Sem Value) (pins : List (Addr × Obj)) (s : Shared) (σ : St) (H : Hp) (Q : Bool → Hp → Prop), Inv X pins σ H s → t σ H Q → wpAny (model X.prog X.w) X.A (isTrue e X.env whole) (TP X pins σ Q) X.xe s
theorem PW.pt {X : Cx} {e : Expr} {t : TT} (h : PW X e t) : PT X e t := h _
def PA (X : Cx) (es : List Expr) (t : TA) : Prop :=
  ∀ (pos : Pos) (pins : List (Addr × Obj)) (s : Shared) (σ : St) (H : Hp) (Q : List V → Hp → Prop), Inv X pins σ H s → t σ H Q → wpAny (model X.prog X.w) X.A (spliced (backTo pos (starEach es X.env))) (AP X pins σ Q) X.xe s
def PS (X : Cx) (st : Stmt) (t : TS) : Prop :=
  ∀ (pins : List (Addr × Obj)) (s : Shared) (σ : St) (H : Hp) (D : Ends), Inv X pins σ H s → t D σ H → wpAny (model X.prog X.w) X.A (exec st X.env) (SP X pins D) X.xe s
def PSs (X : Cx) (st : List Stmt) (t : TS) : Prop :=
  ∀ (pins : List (Addr × Obj)) (s : Shared) (σ : St) (H : Hp) (D : Ends), Inv X pins σ H s → t D σ H → wpAny (model X.prog X.w) X.A (execs st X.env) (SP X pins D) X.xe s
theorem thn {α : Type} {t : Sem α} {Q Q' : α → Shared → Prop} {M : Model} {A : Around} {E : Value → Shared → Prop} {s : Shared} (h : wpAny M A t Q E s) (hQ : ∀ a s, Q a s → Q' a s) : wpAny M A t Q' E s := wpAny_mono h hQ fun _ _ x => x
end L2
namespace L2
open PySem PySem.Spec PyProof.Rows
section
variable {X : Cx}
theorem bin {a b : Expr} {ta tb : TE} (ha : PE X a ta) (hb : PE X b tb) {pins : List (Addr × Obj)} {s : Shared} {σ : St} {H : Hp} {R : V → V → Hp → Prop} (I : Inv X pins σ H s) (h : ta σ H fun x H1 => tb σ H1 fun y H2 => R x y H2)
    {α : Type} {Q : α → Shared → Prop} {f : Value → Value → Sem α}
    (hf : ∀ v u s2 x y H2, Inv X pins σ H2 s2 → RelV x v → RelV y u → R x y H2 → wpAny (model X.prog X.w) X.A (f v u) Q X.xe s2) :
    wpAny (model X.prog X.w) X.A (eval a X.env) (fun v s₁ => wpAny (model X.prog X.w) X.A (eval b X.env) (fun u s₂ => wpAny (model X.prog X.w) X.A (f v u) Q X.xe s₂) X.xe s₁) X.xe s := by
  refine thn (ha pins s σ H _ I h) fun v s1 ⟨x, H1, I1, r1, q1⟩ => ?_
  refine thn (hb pins s1 σ H1 _ I1 q1) fun u s2 ⟨y, H2, I2, r2, q2⟩ => ?_
  exact hf v u s2 x y H2 I2 r1 r2 q2
def tVar (i : Nat) : TE := fun σ H Q => ∃ v, σ[i]? = some (some v) ∧ Q v H
def tC (v : V) : TE := fun _ H Q => Q v H
theorem pe_var {i : Nat} {x : Str} {pos : Pos} (hN : X.N[i]? = some x) (hv : Vis X.env.scope x) (hd : (x == ("__debug__" : Str)) = false := by decide) (hcd : (x == ("__classdict__" : Str)) = false := by decide) : PE X (.Name x pos) (tVar i) := by
  intro pins s σ H Q I h
  obtain ⟨v, e, h⟩ := h
  obtain ⟨m, hn, hl⟩ := I.loc
  obtain ⟨u, r, l⟩ := hl i x v hN e hv
  have fin : EP X pins σ Q u s := ⟨v, H, I, r, h⟩
  rcases l with ⟨hk, hm⟩ | ⟨hk, c, hc, hcell⟩
  · exact wpAny_Name (wpAny_loadName_local I.ok.kind hk hn hm fin) hd
  · rcases hk with hk | hk
    · exact wpAny_Name (wpAny_loadName_cell I.ok.kind hk hc hcell fin) hd
    · exact wpAny_Name (wpAny_loadName_free I.ok.kind hk hc hcell fin hcd) hd
theorem pe_int {i j pos} : PE X (.Constant (.int i) j pos) (tC (.int i)) := fun _ _ _ H _ I h => wpAny_Constant_int ⟨.int i, H, I.tok _, ⟨_, rfl⟩, h⟩
theorem pe_bl {b j pos} : PE X (.Constant (.bool b) j pos) (tC (.bl b)) := fun _ _ _ H _ I h => Constant_bool ⟨.bl b, H, I, rfl, h⟩
theorem pe_str {x j pos} : PE X (.Constant (.str x) j pos) (tC (.str x)) := fun _ _ _ H _ I h => Calls.Constant_str ⟨.str x, H, I.tok _, ⟨_, rfl⟩, h⟩
def Gl (X : Cx) (x : Str) : Prop := X.env.kindOf x = some .globalImplicit
theorem ld_glob {E : Value → Shared → Prop} {pins : List (Addr × Obj)} {s : Shared} {σ : St} {H : Hp} {x : Str} {u : Value} {pos : Pos} {Q : Value → Shared → Prop} (I : Inv X pins σ H s) (hg : Gl X x) (hm : X.mg x = some u) (h : Q u s)
    (hd : (x == ("__debug__" : Str)) = false := by decide) : wpAny (model X.prog X.w) X.A (eval (.Name x pos) X.env) Q E s :=
  Calls.Name_function_global I.ok.kind hg (Calls.loadGlobal_global (by rw [I.ok.glob]; exact I.mod.glob.keeps I.bk) hm h) hd
theorem ld_blt {E : Value → Shared → Prop} {pins : List (Addr × Obj)} {s : Shared} {σ : St} {H : Hp} {x : Str} {u : Value} {pos : Pos} {Q : Value → Shared → Prop} (I : Inv X pins σ H s) (hg : Gl X x) (hm : X.mg x = none) (hv : bootBuiltins x = some u) (h : Q u s)
    (hn : x ≠ "__name__" := by decide) (hd : (x == ("__debug__" : Str)) = false := by decide) : wpAny (model X.prog X.w) X.A (eval (.Name x pos) X.env) Q E s := by
  obtain ⟨mb, h1, h2⟩ := I.mod.blt
  exact Calls.Name_function_global I.ok.kind hg (Calls.loadGlobal_builtin (by rw [I.ok.glob]; exact I.mod.glob.keeps I.bk) hm (by rw [I.ok.blt]; exact h1.keeps I.bk) ((h2 x hn).trans hv) h) hd
theorem pe_glob {x : Str} {v : V} {u : Value} {pos : Pos} (hg : Gl X x) (hm : X.mg x = some u) (r : RelV v u) (hd : (x == ("__debug__" : Str)) = false := by decide) : PE X (.Name x pos) (tC v) :=
  fun _ _ _ H _ I h => ld_glob I hg hm ⟨v, H, I, r, h⟩ hd
theorem pe_bltn {x : Str} {v : V} {u : Value} {pos : Pos} (hg : Gl X x) (hm : X.mg x = none) (hv : bootBuiltins x = some u) (r : RelV v u) (hn : x ≠ "__name__" := by decide) (hd : (x == ("__debug__" : Str)) = false := by decide) : PE X (.Name x pos) (tC v) :=
  fun _ _ _ H _ I h => ld_blt I hg hm hv ⟨v, H, I, r, h⟩ hn hd
variable {a b : Expr} {ta tb : TE} {pos : Pos}
def PC (X : Cx) (op : CmpOp) (a b : Expr) (t : TE) : Prop :=
  ∀ (pins : List (Addr × Obj)) (s : Shared) (σ : St) (H : Hp) (Q : VK), Inv X pins σ H s → t σ H Q →
    wpAny (model X.prog X.w) X.A (eval a X.env) (fun v s₁ => wpAny (model X.prog X.w) X.A (eval b X.env) (fun u s₂ => wpAny (model X.prog X.w) X.A (compareOp op v u) (EP X pins σ Q) X.xe s₂) X.xe s₁) X.xe s
theorem nobehind (b : Expr) {op : CmpOp} (h : op ≠ .In) (h2 : op ≠ .NotIn) : behindInMarks op b = false := by
  have e1 : (op == CmpOp.In) = false := by cases op <;> first | rfl | exact absurd rfl h
  have e2 : (op == CmpOp.NotIn) = false := by cases op <;> first | rfl | exact absurd rfl h2
  cases b <;> simp [behindInMarks, e1, e2]
def tB (t : TE) : TT := fun σ H Q => t σ H fun x H1 => ∃ c, x = .bl c ∧ Q c H1
theorem pt_cmp {op : CmpOp} {t : TE} (h : PC X op a b t) (h1 : behindInMarks op b = false := by first | exact nobehind _ (by decide) (by decide) | rfl) : PT X (.Compare a [op] [b] pos) (tB t) := by
  intro pins s σ H Q I hw
  refine wpAny_isTrue_Compare1 (thn (h pins s σ H _ I hw) fun v s1 h1 => thn h1 fun u s2 h2 => thn h2 fun c s3 ⟨x, H1, I1, r1, q1⟩ => ?_) h1
  obtain ⟨d, rfl, q⟩ := q1
  cases r1
  exact wpAny_truthy_bool ⟨H1, I1, q⟩
theorem pt_val {e : Expr} {t : TE} (h : PE X e t) (he : ∀ whole, isTrue e X.env whole = (do let v ← whole; standAt e.pos; holding [v] (truthy v)) := by intro _; rfl) : PT X e (tB t) := by
  intro pins s σ H Q I hw
  refine isTrue_plain (thn (h pins s σ H _ I hw) fun v s1 ⟨x, H1, I1, r1, q1⟩ => ?_) (he _)
  obtain ⟨d, rfl, q⟩ := q1
  cases r1
  exact wpAny_truthy_bool ⟨H1, I1, q⟩
variable {tA tB' : TT} {rest : List Expr}
def tOr (t u : TT) : TT := fun σ H Q => t σ H fun c H1 => if c = true then Q true H1 else u σ H1 Q
def tNot (t : TT) : TT := fun σ H Q => t σ H fun c H1 => Q (!c) H1
theorem pw_or1 (ha : PT X a tA) : PW X (.BoolOp .Or [a] pos) tA := by
  intro wh pins s σ H Q I h
  refine isTrue_or (thn (ha pins s σ H Q I h) fun c s1 e => ?_)
  cases c with
  | false => exact isTrue_or_nil e
  | true => exact e
theorem pw_or (ha : PT X a tA) (hb : PW X (.BoolOp .Or (b :: rest) pos) tB') : PW X (.BoolOp .Or (a :: b :: rest) pos) (tOr tA tB') := by
  intro wh pins s σ H Q I h
  refine isTrue_or (thn (ha pins s σ H _ I h) fun c s1 ⟨H1, I1, q1⟩ => ?_)
  cases c with
  | true => exact ⟨H1, I1, q1⟩
  | false => exact hb wh pins s1 σ H1 Q I1 q1
theorem pt_not (ha : PT X a tA) : PT X (.UnaryOp .Not a pos) (tNot tA) := by
  intro pins s σ H Q I h
  exact isTrue_not (ha pins s σ H (fun c H1 => Q (!c) H1) I h)
def tAndV (ta tb : TE) : TE := fun σ H Q => ta σ H fun x H1 => ∃ c, x = .bl c ∧ if c = true then tb σ H1 Q else Q (.bl false) H1
def tNotV (ta : TE) : TE := fun σ H Q => ta σ H fun x H1 => ∃ c, x = .bl c ∧ Q (.bl (!c)) H1
theorem pe_one {op} {t : TE} (h : PE X a t) : PE X (.BoolOp op [a] pos) t := fun pins s σ H Q I hw => BoolOp_one (h pins s σ H Q I hw)
theorem pe_and (ha : PE X a ta) (hb : PE X (.BoolOp .And (b :: rest) pos) tb) : PE X (.BoolOp .And (a :: b :: rest) pos) (tAndV ta tb) := by
  intro pins s σ H Q I h
  refine BoolOp_and (thn (ha pins s σ H _ I h) fun v s1 ⟨x, H1, I1, r1, q1⟩ => ?_)
  obtain ⟨c, rfl, q1⟩ := q1
  cases r1
  refine wpAny_truthy_bool ?_
  cases c with
  | true => exact hb pins s1 σ H1 Q I1 q1
  | false => exact ⟨.bl false, H1, I1, rfl, q1⟩
theorem pe_not (ha : PE X a ta) : PE X (.UnaryOp .Not a pos) (tNotV ta) := by
  intro pins s σ H Q I h
  refine UnaryOp_ (thn (ha pins s σ H _ I h) fun v s1 ⟨x, H1, I1, r1, q1⟩ => ?_)
  obtain ⟨c, rfl, q1⟩ := q1
  cases r1
  exact not_of (wpAny_truthy_bool ⟨.bl (!c), H1, I1, rfl, q1⟩)
end
end L2
namespace L2
open PySem PySem.Spec PyProof.Rows
def SqL (K : PySem.W.Frag) (H : Hp) (a : Addr) (xs : List V) : Prop :=
  Rd H a (.lst xs) ∨
    ∃ (o : Obj) (its : Array Value) (n : Nat), K.lookup a = some o ∧ o.cls = .type "list" ∧ o.dict = none ∧ o.data = .seq its n ∧ its.size ≤ sizeLine ∧ Vals xs its.toList
def SqT (K : PySem.W.Frag) (H : Hp) (a : Addr) (xs : List V) : Prop :=
  Rd H a (.tup xs) ∨
    ∃ (o : Obj) (its : Array Value) (n : Nat), K.lookup a = some o ∧ o.cls = .type "tuple" ∧ o.data = .seq its n ∧ its.size ≤ sizeLine ∧ Vals xs its.toList
def absV : Value → Option V
  | .none => some .non
  | .bool b => some (.bl b)
  | .int i _ => some (.int i)
  | .str x _ => some (.str x)
  | .bytes b _ => some (.byt b)
  | .float b _ => some (.flt b)
  | .ref a => some (.ref a)
  | .type n => some (.ty n)
  | _ => none
theorem RelV.abs {x : V} {u : Value} (r : RelV x u) : absV u = some x := by
  cases x with
  | non => cases r; rfl
  | bl _ => cases r; rfl
  | int _ => obtain ⟨t, rfl⟩ := r; rfl
  | str _ => obtain ⟨t, rfl⟩ := r; rfl
  | byt _ => obtain ⟨t, rfl⟩ := r; rfl
  | flt _ => obtain ⟨t, rfl⟩ := r; rfl
  | ref _ => cases r; rfl
  | ty _ => cases r; rfl
theorem RelV.inj {x y : V} {u : Value} (r : RelV x u) (q : RelV y u) : x = y := Option.some.inj (r.abs.symm.trans q.abs)
theorem Vals.inj : ∀ {xs ys : List V} {us : List Value}, Vals xs us → Vals ys us → xs = ys
  | _, _, _, .nil, .nil => rfl
  | _, _, _, .cons r t, .cons r' t' => by rw [r.inj r', Vals.inj t t']
section
variable {X : Cx} {pins : List (Addr × Obj)} {σ : St} {H : Hp} {s : Shared} {a : Addr} {xs ys : List V}
theorem SqL.of {K : PySem.W.Frag} (h : H a = some (.lst xs)) : SqL K H a xs := .inl (.inl h)
theorem SqT.of {K : PySem.W.Frag} (h : H a = some (.tup xs)) : SqT K H a xs := .inl (.inl h)
theorem Inv.list (I : Inv X pins σ H s) (h : SqL X.K H a xs) : ∃ its : List Value, Vals xs its ∧ PlainL s.heap a its.toArray ∧ xs.length ≤ sizeLine := by
  rcases h with h | ⟨o, its, n, hk, hc, hd, hs, hz, r⟩
  · obtain ⟨z, its, n, r, e⟩ := h.ok I.hok
    exact ⟨its, r, ⟨_, n, e, rfl, rfl, rfl⟩, z⟩
  · refine ⟨its.toList, r, ⟨o, n, I.kIn a o hk, hc, hd, by simpa using hs⟩, ?_⟩
    have e := r.length
    simp only [Array.length_toList] at e
    omega
theorem Inv.tuple (I : Inv X pins σ H s) (h : SqT X.K H a xs) : ∃ its : List Value, Vals xs its ∧ IsTup s.heap a its.toArray ∧ xs.length ≤ sizeLine := by
  rcases h with h | ⟨o, its, n, hk, hc, hs, hz, r⟩
  · obtain ⟨z, its, r, p⟩ := h.ok I.hok
    exact ⟨its, r, p, z⟩
  · refine ⟨its.toList, r, ⟨o, I.kIn a o hk, hc, n, by simpa using hs⟩, ?_⟩
    have e := r.length
    simp only [Array.length_toList] at e
    omega
theorem Inv.list_inj (I : Inv X pins σ H s) (h : SqL X.K H a xs) (h' : SqL X.K H a ys) : xs = ys := by
  obtain ⟨its, r, ⟨o, n, e, _, _, d⟩, _⟩ := I.list h
  obtain ⟨its', r', ⟨o', n', e', _, _, d'⟩, _⟩ := I.list h'
  rw [e] at e'; cases e'
  rw [d] at d'
  injection d' with d1 _
  have : its = its' := by simpa using congrArg Array.toList d1
  subst this
  exact r.inj r'
theorem Inv.tuple_inj (I : Inv X pins σ H s) (h : SqT X.K H a xs) (h' : SqT X.K H a ys) : xs = ys := by
  obtain ⟨its, r, ⟨o, e, _, n, d⟩, _⟩ := I.tuple h
  obtain ⟨its', r', ⟨o', e', _, n', d'⟩, _⟩ := I.tuple h'
  rw [e] at e'; cases e'
  rw [d] at d'
  injection d' with d1 _
  have : its = its' := by simpa using congrArg Array.toList d1
  subst this
  exact r.inj r'
end
abbrev Cx.wish (X : Cx) (E : Value → Shared → Prop) : Cx := { X with xe := E }
abbrev Cx.nox (X : Cx) : Cx := X.wish fun _ _ => False
theorem Cx.Ok.wish {X : Cx} (ok : X.Ok) (E : Value → Shared → Prop) : (X.wish E).Ok :=
  ⟨ok.mod, ok.kind, ok.glob, ok.blt, ok.above, ok.inj, ok.has, ok.cab, ok.hd, ok.frames, ok.stk, ok.exf, ok.bs, ok.bsz, ok.noex, ok.exfs, ok.funs, ok.frf⟩
theorem Cx.Ok.unwish {X : Cx} {E : Value → Shared → Prop} (ok : (X.wish E).Ok) : X.Ok :=
  ⟨ok.mod, ok.kind, ok.glob, ok.blt, ok.above, ok.inj, ok.has, ok.cab, ok.hd, ok.frames, ok.stk, ok.exf, ok.bs, ok.bsz, ok.noex, ok.exfs, ok.funs, ok.frf⟩
section
variable {X : Cx} {pins : List (Addr × Obj)} {σ : St} {H : Hp} {s : Shared} {E : Value → Shared → Prop}
theorem Inv.wish (I : Inv X pins σ H s) (E : Value → Shared → Prop) : Inv (X.wish E) pins σ H s := ⟨I.ok.wish E, I.os, I.bare, I.base, I.loc, I.cell, I.free, I.freeC, I.pin, I.hok, I.len⟩
theorem Inv.unwish (I : Inv (X.wish E) pins σ H s) : Inv X pins σ H s := ⟨I.ok.unwish, I.os, I.bare, I.base, I.loc, I.cell, I.free, I.freeC, I.pin, I.hok, I.len⟩
theorem SP.unwish {D : Ends} {f : Flow} {s' : Shared} (h : SP (X.wish E) pins D f s') : SP X pins D f s' := by
  cases f with
  | next => obtain ⟨σ', H', I, q⟩ := h; exact ⟨σ', H', I.unwish, q⟩
  | brk => obtain ⟨σ', H', I, q⟩ := h; exact ⟨σ', H', I.unwish, q⟩
  | cont => obtain ⟨σ', H', I, q⟩ := h; exact ⟨σ', H', I.unwish, q⟩
  | ret u => obtain ⟨v, σ', H', I, r, q⟩ := h; exact ⟨v, σ', H', I.unwish, r, q⟩
theorem PE.nox {e : Expr} {t : TE} (h : PE X.nox e t) : PE X e t := fun pins s σ H Q I hw =>
  wpAny_mono (h pins s σ H Q (I.wish _) hw) (fun _ _ ⟨v, H', I', r, q⟩ => ⟨v, H', I'.unwish, r, q⟩) fun _ _ z => False.elim z
theorem PT.nox {e : Expr} {t : TT} (h : PT X.nox e t) : PT X e t := fun pins s σ H Q I hw =>
  wpAny_mono (h pins s σ H Q (I.wish _) hw) (fun _ _ ⟨H', I', q⟩ => ⟨H', I'.unwish, q⟩) fun _ _ z => False.elim z
theorem PSs.nox {st : List Stmt} {t : TS} (h : PSs X.nox st t) : PSs X st t := fun pins s σ H D I hw =>
  wpAny_mono (h pins s σ H D (I.wish _) hw) (fun _ _ q => q.unwish) fun _ _ z => False.elim z
end
section
variable {X : Cx} {st : Stmt} {rest : List Stmt} {t u : TS} {e : Expr} {te : TE} {pos : Pos}
def tNext : TS := fun D σ H => D.nx σ H
def tSeq (t u : TS) : TS := fun D σ H => t { D with nx := u D } σ H
theorem pss_nil : PSs X [] tNext := fun _ _ σ H _ I h => wpAny_execs_nil ⟨σ, H, I, h⟩
theorem pss_cons (h1 : PS X st t) (h2 : PSs X rest u) : PSs X (st :: rest) (tSeq t u) := by
  intro pins s σ H D I h
  refine wpAny_execs_cons (thn (h1 pins s σ H { D with nx := u D } I h) fun f s1 q => ?_)
  cases f with
  | next =>
    obtain ⟨σ', H', I', q⟩ := q
    exact h2 pins s1 σ' H' D I' q
  | ret v => exact q
  | brk => exact q
  | cont => exact q
theorem Inv.quiet {pins : List (Addr × Obj)} {σ : St} {H : Hp} {s : Shared} (I : Inv X pins σ H s) : interactive X.env = false := by simp [interactive, I.ok.kind]
def tDrop (te : TE) : TS := fun D σ H => te σ H fun _ H1 => D.nx σ H1
theorem ps_expr (he : PE X e te) (hs : swapsWith e none pos.line X.env = pure false := by rfl) : PS X (.Expr e pos) (tDrop te) := by
  intro pins s σ H D I h
  exact wpAny_Expr_any (thn (he pins s σ H _ I h) fun v s1 ⟨x, H1, I1, r1, q1⟩ => ⟨σ, H1, I1, q1⟩) I.quiet hs
def tRet (te : TE) : TS := fun D σ H => te σ H D.rt
theorem ps_ret (he : PE X e te) : PS X (.Return (some e) pos) (tRet te) := by
  intro pins s σ H D I h
  exact wpAny_Return_some (thn (he pins s σ H _ I h) fun v s1 ⟨x, H1, I1, r1, q1⟩ => ⟨x, σ, H1, I1, r1, q1⟩)
def tIfS (c : TT) (t u : TS) : TS := fun D σ H => c σ H fun b H1 => if b = true then t D σ H1 else u D σ H1
theorem ps_if {c : Expr} {a b : List Stmt} {tc : TT} (hc : PT X c tc) (ha : PSs X a t) (hb : PSs X b u) : PS X (.If c a b pos) (tIfS tc t u) := by
  intro pins s σ H D I h
  refine wpAny_If (thn (hc pins s σ H _ I h) fun d s1 ⟨H1, I1, q1⟩ => ?_)
  cases d with
  | true => exact ha pins s1 σ H1 D I1 q1
  | false => exact hb pins s1 σ H1 D I1 q1
end
abbrev TG := V → St → Hp → (St → Hp → Prop) → Prop
abbrev TGs := List V → St → Hp → (St → Hp → Prop) → Prop
def PG (X : Cx) (target : Expr) (t : TG) : Prop :=
  ∀ (pins : List (Addr × Obj)) (s : Shared) (σ : St) (H : Hp) (v : V) (u : Value) (Q : St → Hp → Prop), Inv X pins σ H s → RelV v u → t v σ H Q →
    wpAny (model X.prog X.w) X.A (assign target X.env u) (fun _ s' => ∃ σ' H', Inv X pins σ' H' s' ∧ Q σ' H') X.xe s
def PGs (X : Cx) (ts : List Expr) (t : TGs) : Prop :=
  ∀ (pins : List (Addr × Obj)) (s : Shared) (σ : St) (H : Hp) (vs : List V) (us : List Value) (Q : St → Hp → Prop), Inv X pins σ H s → Vals vs us → t vs σ H Q →
    wpAny (model X.prog X.w) X.A (assignInOrder ((assignEach ts X.env).map (·.2)) us) (fun _ s' => ∃ σ' H', Inv X pins σ' H' s' ∧ Q σ' H') X.xe s
abbrev TSet := V → V → V → Hp → (Hp → Prop) → Prop
def PSet (X : Cx) (t : TSet) : Prop :=
  ∀ (pins : List (Addr × Obj)) (s : Shared) (σ : St) (H : Hp) (o i v : V) (ov iv u : Value) (Q : Hp → Prop), Inv X pins σ H s → RelV o ov → RelV i iv → RelV v u → t o i v H Q →
    wpAny (model X.prog X.w) X.A (setItem ov iv u) (fun _ s' => ∃ H', Inv X pins σ H' s' ∧ Q H') X.xe s
abbrev TIp := V → V → Hp → VK → Prop
def PIp (X : Cx) (op : Operator) (t : TIp) : Prop :=
  ∀ (pins : List (Addr × Obj)) (s : Shared) (σ : St) (H : Hp) (x y : V) (v u : Value) (Q : VK), Inv X pins σ H s → RelV x v → RelV y u → t x y H Q →
    wpAny (model X.prog X.w) X.A (inplaceOp op v u) (EP X pins σ Q) X.xe s
section
variable {X : Cx} {pos : Pos}
def gName (i : Nat) : TG := fun v σ H Q => Q (σ.set i (some v)) H
theorem pg_name {i : Nat} {x : Str} (hN : X.N.Nodup) (hi : X.N[i]? = some x) (hx : Loc X.env.scope x) (hf : X.fn x = true ∨ X.env.scope.names.lookup x = some .local := by first | exact .inl rfl | exact .inr rfl | assumption) : PG X (.Name x pos) (gName i) := by
  intro pins s σ H v u Q I r h
  exact wpAny_assign_Name (store_ok I hN hi hx r (fun s' I' => ⟨_, H, I', h⟩) hf)
def gNil : TGs := fun vs σ H Q => vs = [] ∧ Q σ H
def gCons (t : TG) (u : TGs) : TGs := fun vs σ H Q => ∃ v r, vs = v :: r ∧ t v σ H fun σ' H' => u r σ' H' Q
theorem pgs_nil : PGs X [] gNil := by
  intro pins s σ H vs us Q I r h
  obtain ⟨e, h⟩ := h
  subst e
  cases r
  exact assignInOrder_nil ⟨σ, H, I, h⟩
theorem pgs_cons {e : Expr} {es : List Expr} {t : TG} {u : TGs} (h1 : PG X e t) (h2 : PGs X es u)
    (hs : (assignEach (e :: es) X.env).map (·.2) = assign e X.env :: (assignEach es X.env).map (·.2) := by rfl) : PGs X (e :: es) (gCons t u) := by
  intro pins s σ H vs us Q I r h
  obtain ⟨v, vr, e1, h⟩ := h
  subst e1
  cases r with
  | cons r rr =>
    rw [hs]
    refine assignInOrder_cons (thn (h1 pins s σ H _ _ _ I r h) fun _ s1 ⟨σ1, H1, I1, q1⟩ => ?_)
    exact h2 pins s1 σ1 H1 _ _ Q I1 rr q1
def gTup (K : PySem.W.Frag) (n : Nat) (t : TGs) : TG := fun v σ H Q => ∃ a xs, v = .ref a ∧ SqT K H a xs ∧ xs.length = n ∧ t xs σ H Q
theorem pg_tup {es : List Expr} {k : Nat} {t : TGs} {n : Nat} (hc : X.calm = true) (h : PGs X es t)
    (hn : (assignEach es X.env).length = n := by rfl) (hst : (assignEach es X.env).findIdx? (·.1) = none := by rfl) : PG X (.Tuple es k pos) (gTup X.K n t) := by
  intro pins s σ H v u Q I r hw
  obtain ⟨a, xs, e1, hq, hl, hw⟩ := hw
  subst e1
  cases r
  obtain ⟨its, rv, ht, hz⟩ := I.tuple hq
  refine assign_Tuple_tuple (I.ok.hd hc) ht (by simp [hn, ← hl, rv.length]) hst fun h' hx => ?_
  have I1 : Inv X pins σ H { s with heap := h' } := I.kept (t' := s.toks) fun b o e => hx b o (Nat.ne_of_lt (Heap.lt_size e)) e
  exact h pins _ σ H xs _ Q I1 (by simpa using rv) hw
def gSub (to ti : TE) (t : TSet) : TG := fun v σ H Q => to σ H fun o H1 => ti σ H1 fun i H2 => t o i v H2 fun H3 => Q σ H3
theorem pg_sub {o i : Expr} {to ti : TE} {t : TSet} (ho : PE X o to) (hi : PE X i ti) (hs : PSet X t)
    (ha : ∀ v, assign (.Subscript o i pos) X.env v = (do
      let ov ← holding [v] (eval o X.env)
      let iv ← holding [v, ov] (eval i X.env)
      standAt pos
      holding [v, ov, iv] (setItem ov iv v)
      release [v, ov, iv] []) := by intro _; rfl) : PG X (.Subscript o i pos) (gSub to ti t) := by
  intro pins s σ H v u Q I r h
  rw [ha]
  refine wpAny_bind (wpAny_holding (thn (ho pins s σ H _ I h) fun ov s1 ⟨x, H1, I1, r1, q1⟩ => ?_))
  refine wpAny_bind (wpAny_holding (thn (hi pins s1 σ H1 _ I1 q1) fun iv s2 ⟨y, H2, I2, r2, q2⟩ => ?_))
  refine wpAny_bind (wpAny_standAt (wpAny_bind (wpAny_holding (thn (hs pins s2 σ H2 x y v ov iv u _ I2 r1 r2 r q2) fun _ s3 ⟨H3, I3, q3⟩ => ?_))))
  exact wpAny_release ⟨σ, H3, I3, q3⟩
def tAsg (te : TE) (g : TG) : TS := fun D σ H => te σ H fun x H1 => g x σ H1 D.nx
theorem ps_asg {tg e : Expr} {te : TE} {g : TG} (he : PE X e te) (hg : PG X tg g) (hs : swapsWithSole [tg] e pos.line X.env = pure false := by rfl) (hw : swappedStores [tg] e X.env = pure none := by rfl)
    (h1 : (assignEach [tg] X.env).map (·.2) = [assign tg X.env] := by rfl) : PS X (.Assign [tg] e pos) (tAsg te g) := by
  intro pins s σ H D I h
  refine wpAny_Assign_stores (thn (he pins s σ H _ I h) fun v s1 ⟨x, H1, I1, r1, q1⟩ => ?_) hs hw
  rw [h1]
  exact thn (hg pins s1 σ H1 x v _ I1 r1 q1) fun _ s2 q => q
theorem ps_set {i : Nat} {x : Str} {e : Expr} {te : TE} {pos' : Pos} (hN : X.N.Nodup) (hi : X.N[i]? = some x) (hx : Loc X.env.scope x) (he : PE X e te) (hs : swapsWith e (some (.Name x pos')) pos.line X.env = pure false := by rfl) (hf : X.fn x = true ∨ X.env.scope.names.lookup x = some .local := by first | exact .inl rfl | exact .inr rfl | assumption) :
    PS X (.Assign [.Name x pos'] e pos) (tAsg te (gName i)) := by
  intro pins s σ H D I h
  refine wpAny_Assign_Name (thn (he pins s σ H _ I h) fun v s1 ⟨y, H1, I1, r1, q1⟩ => ?_) hs
  exact store_ok I1 hN hi hx r1 (fun s2 I2 => ⟨_, H1, I2, q1⟩) hf
def tAug (i : Nat) (te : TE) (ti : TIp) : TS := fun D σ H => ∃ x, σ[i]? = some (some x) ∧ te σ H fun y H1 => ti x y H1 fun z H2 => D.nx (σ.set i (some z)) H2
theorem ps_aug {i : Nat} {x : Str} {e : Expr} {te : TE} {op : Operator} {ti : TIp} {pos' : Pos} (hN : X.N.Nodup) (hi : X.N[i]? = some x) (hx : Loc X.env.scope x) (he : PE X e te) (ho : PIp X op ti) (hf : X.fn x = true ∨ X.env.scope.names.lookup x = some .local := by first | exact .inl rfl | exact .inr rfl | assumption) :
    PS X (.AugAssign (.Name x pos') op e pos) (tAug i te ti) := by
  intro pins s σ H D I h
  obtain ⟨v, e1, h⟩ := h
  obtain ⟨m, hn, hl⟩ := I.loc
  have vis : Vis X.env.scope x := by rcases hx with k | k; exact .inl k; exact .inr (.inl k)
  obtain ⟨u, r, l⟩ := hl i x v hi e1 vis
  refine wpAny_AugAssign_Name ?_
  have go : wpAny (model X.prog X.w) X.A (eval e X.env) (fun w s₂ => wpAny (model X.prog X.w) X.A (inplaceOp op u w) (fun r s₃ => wpAny (model X.prog X.w) X.A (storeName X.env x r) (fun _ => SP X pins D .next) X.xe s₃) X.xe s₂) X.xe s := by
    refine thn (he pins s σ H _ I h) fun w s1 ⟨y, H1, I1, r1, q1⟩ => ?_
    refine thn (ho pins s1 σ H1 v y u w _ I1 r r1 q1) fun z s2 ⟨zv, H2, I2, r2, q2⟩ => ?_
    exact store_ok I2 hN hi hx r2 (fun s3 I3 => ⟨_, H2, I3, q2⟩) hf
  rcases l with ⟨hk, hm⟩ | ⟨hk, c, hc, hcell⟩
  · exact wpAny_loadName_local I.ok.kind hk hn hm go
  · rcases hk with hk | hk
    · exact wpAny_loadName_cell I.ok.kind hk hc hcell go
    · rcases hx with k | k
      · have : X.env.scope.names.lookup x = some .free := hk
        rw [k] at this; cases this
      · have : X.env.scope.names.lookup x = some .free := hk
        rw [k] at this; cases this
end
section
variable {X : Cx} {pos : Pos}
end
structure It where
  go : Nat → Hp → Prop
  yld : Nat → Hp → V → Hp → Prop
  stop : Nat → Hp → Prop
def FpOk (X : Cx) (pins : List (Addr × Obj)) (H : Hp) (b : Addr) : Prop :=
  H b = none ∧ b ≠ X.env.locals ∧ b ∉ X.fs ∧ (b ∈ X.ex ∨ X.s₀.heap.objs.size ≤ b) ∧ (∀ x c, X.env.cells.lookup x = some c → c ≠ b) ∧ ∀ p ∈ X.pn ++ pins, p.1 ≠ b
theorem Inv.fpOk {X : Cx} {pins : List (Addr × Obj)} {σ : St} {H H' : Hp} {s : Shared} {b : Addr} (I : Inv X pins σ H s) (hb : s.heap.objs.size ≤ b) (hn : H' b = none) : FpOk X pins H' b := by
  refine ⟨hn, Nat.ne_of_gt (Nat.lt_of_lt_of_le I.lt hb), I.nofs hb, .inr (Nat.le_trans I.sz hb), fun x c e z => ?_, fun p hp z => ?_⟩
  · obtain ⟨v, q⟩ := I.cell x c e
    exact absurd (Nat.lt_of_lt_of_le q.lt (by rw [z]; exact hb)) (Nat.lt_irrefl _)
  · exact absurd (Nat.lt_of_lt_of_le (Heap.lt_size (I.pin p hp).1) (by rw [z]; exact hb)) (Nat.lt_irrefl _)
structure Turn (P : Program) (w : World) (K : PySem.W.Frag) (tg : Expr) (J : It) (fp : List Addr) (it : Addr) (tn : Nat → Heap → Prop) : Prop where
  mem : it ∈ fp
  obj : ∀ i h, tn i h → ∀ b ∈ fp, ∃ o, h.get? b = some o ∧ ∀ v, o.data ≠ .cell v
  keep : ∀ i h h', tn i h → (∀ b ∈ fp, ∀ o, h.get? b = some o → h'.get? b = some o) → tn i h'
  item : ∀ (X : Cx), X.prog = P → X.w = w → X.K = K → X.calm = true → ∀ (i : Nat) (pins : List (Addr × Obj)) (s : Shared) (σ : St) (H : Hp) (E : Value → Shared → Prop), Inv X pins σ H s → (∀ b ∈ fp, FpOk X pins H b) → tn i s.heap → J.go i H →
    wpAny (model P w) X.A (pyNext (.ref it)) (fun r s1 => ∃ u, r = some u ∧
      wpAny (model P w) X.A (letOwnedTupleGo tg (.ref it) u) (fun _ s2 => ∃ x H', Inv X pins σ H' s2 ∧ RelV x u ∧ J.yld i H x H' ∧ tn (i + 1) s2.heap ∧ ∀ b ∈ fp, H' b = none) E s1) E s
  done : ∀ (X : Cx), X.prog = P → X.w = w → X.K = K → X.calm = true → ∀ (i : Nat) (pins : List (Addr × Obj)) (s : Shared) (σ : St) (H : Hp) (E : Value → Shared → Prop), Inv X pins σ H s → (∀ b ∈ fp, FpOk X pins H b) → tn i s.heap → J.stop i H →
    wpAny (model P w) X.A (pyNext (.ref it)) (fun r s1 => r = none ∧ Inv X pins σ H s1) E s
  self : ∀ (A : Around) (i : Nat) (s : Shared) (Q : Value → Shared → Prop) (E : Value → Shared → Prop), tn i s.heap → Q (.ref it) s → wpAny (model P w) A (pyIter (.ref it)) Q E s
abbrev TI := St → Hp → (It → Hp → Prop) → Prop
def PIE (X : Cx) (pins : List (Addr × Obj)) (σ : St) (tg : Expr) (R : It → Hp → Prop) (itv : Value) (s2 : Shared) : Prop :=
  ∃ (it : Addr) (fp : List Addr) (tn : Nat → Heap → Prop) (J : It) (H' : Hp), itv = .ref it ∧ Inv X pins σ H' s2 ∧ Turn X.prog X.w X.K tg J fp it tn ∧ tn 0 s2.heap ∧ (∀ b ∈ fp, FpOk X pins H' b) ∧ R J H'
def PI (X : Cx) (tg iter : Expr) (wi : TI) : Prop :=
  ∀ (pins : List (Addr × Obj)) (s : Shared) (σ : St) (H : Hp) (R : It → Hp → Prop), Inv X pins σ H s → wi σ H R →
    wpAny (model X.prog X.w) X.A (eval iter X.env) (fun v s1 => wpAny (model X.prog X.w) X.A (pyIter v) (PIE X pins σ tg R) X.xe s1) X.xe s
theorem go_of {M : Model} {A : Around} {E : Value → Shared → Prop} {s : Shared} {tg : Expr} {it : Addr} {u : Value} {o : Obj} {n : String} {vs : Array Value} {Q : Unit → Shared → Prop} (ho : s.heap.get? it = some o) (hc : o.cls = .type n) (hd : o.data = .fields vs)
    (hn : ["enumerate", "zip", "dict_itemiterator", "dict_reverseitemiterator", "odict_iterator", "itertools.zip_longest", "itertools.pairwise"].contains n = false) (hQ : Q () s) : wpAny M A (letOwnedTupleGo tg (.ref it) u) Q E s := by
  unfold letOwnedTupleGo
  cases tg <;> first
    | exact wpAny_pure hQ
    | (cases u <;> first
        | exact wpAny_pure hQ
        | (refine wpAny_bind (wpAny_load ho ?_)
           rw [hc, hd]
           show wpAny M A (if (["enumerate", "zip", "dict_itemiterator", "dict_reverseitemiterator", "odict_iterator", "itertools.zip_longest", "itertools.pairwise"].contains n && vs[0]? == some (rawInt _)) = true then _ else _) Q E s
           rw [if_neg (by intro h; rw [hn, Bool.false_and] at h; cases h)]
           exact wpAny_pure hQ))
def Itl (K : PySem.W.Frag) (a : Addr) : It :=
  ⟨fun i H => ∃ xs x, SqL K H a xs ∧ xs[i]? = some x, fun i H x H' => H' = H ∧ ∀ xs, SqL K H a xs → xs[i]? = some x, fun i H => ∃ xs, SqL K H a xs ∧ xs.length ≤ i⟩
def Itt (K : PySem.W.Frag) (a : Addr) : It :=
  ⟨fun i H => ∃ xs x, SqT K H a xs ∧ xs[i]? = some x, fun i H x H' => H' = H ∧ ∀ xs, SqT K H a xs → xs[i]? = some x, fun i H => ∃ xs, SqT K H a xs ∧ xs.length ≤ i⟩
def Itr (lo : Int) (n : Nat) : It := ⟨fun i _ => i < n, fun i H x H' => H' = H ∧ x = .int (lo + i), fun i _ => n ≤ i⟩
theorem turn_list {P : Program} {w : World} {K : PySem.W.Frag} {tg : Expr} (a it : Addr) : Turn P w K tg (Itl K a) [it] it (fun i h => h.IsListIter it a i) where
  mem := by simp
  obj := fun i h st b hb => by
    have e : b = it := by simpa using hb
    subst e
    obtain ⟨o, e, c, d⟩ := st
    exact ⟨o, e, fun v z => by rw [d] at z; cases z⟩
  keep := fun i h h' st k => st.at fun o e => k it (by simp) o e
  item := by
    intro X hP hw hK hc i pins s σ H E I hf st hg
    subst hP hw hK
    obtain ⟨xs, x, hq, hx⟩ := hg
    obtain ⟨its, rv, p, hz⟩ := I.list hq
    obtain ⟨u, hu, ru⟩ := rv.get hx
    obtain ⟨f0, f1, f2, f3, f4, f5⟩ := hf it (by simp)
    refine wpAny_pyNext_list_item st p.isList (x := u) (by simpa using hu) fun h' st' sb => ?_
    have I1 : Inv X pins σ H { s with heap := h' } := I.turned (t' := s.toks) (fun b o hb e => (sb.2 b hb).trans e) f0 f1 f3 f4 f5
    obtain ⟨o, e, c, d⟩ := id st'
    exact ⟨u, rfl, go_of (s := { s with heap := h' }) e c d (by decide) ⟨x, H, I1, ru, ⟨rfl, fun ys hy => by rw [I.list_inj hy hq]; exact hx⟩, st', fun b hb => (hf b hb).1⟩⟩
  done := by
    intro X hP hw hK hc i pins s σ H E I hf st hg
    subst hP hw hK
    obtain ⟨xs, hq, hx⟩ := hg
    obtain ⟨its, rv, p, hz⟩ := I.list hq
    obtain ⟨f0, f1, f2, f3, f4, f5⟩ := hf it (by simp)
    have hl := rv.length
    exact wpAny_pyNext_list_end (I.ok.hd hc) st p.isList (by simp; omega) fun h' eb => ⟨rfl, I.turned (t' := s.toks) (fun b o hb e => eb b o hb e) f0 f1 f3 f4 f5⟩
  self := fun _ _ _ _ _ st h => wpAny_pyIter_listiter st h
theorem turn_tuple {P : Program} {w : World} {K : PySem.W.Frag} {tg : Expr} (a it : Addr) : Turn P w K tg (Itt K a) [it] it (fun i h => h.IsTupleIter it a i) where
  mem := by simp
  obj := fun i h st b hb => by
    have e : b = it := by simpa using hb
    subst e
    obtain ⟨o, e, c, d⟩ := st
    exact ⟨o, e, fun v z => by rw [d] at z; cases z⟩
  keep := fun i h h' st k => st.at fun o e => k it (by simp) o e
  item := by
    intro X hP hw hK hc i pins s σ H E I hf st hg
    subst hP hw hK
    obtain ⟨xs, x, hq, hx⟩ := hg
    obtain ⟨its, rv, p, hz⟩ := I.tuple hq
    obtain ⟨u, hu, ru⟩ := rv.get hx
    obtain ⟨f0, f1, f2, f3, f4, f5⟩ := hf it (by simp)
    refine wpAny_pyNext_tuple_item st (show s.heap.IsTuple a its.toArray from p) (x := u) (by simpa using hu) fun h' st' sb => ?_
    have I1 : Inv X pins σ H { s with heap := h' } := I.turned (t' := s.toks) (fun b o hb e => (sb.2 b hb).trans e) f0 f1 f3 f4 f5
    obtain ⟨o, e, c, d⟩ := id st'
    exact ⟨u, rfl, go_of (s := { s with heap := h' }) e c d (by decide) ⟨x, H, I1, ru, ⟨rfl, fun ys hy => by rw [I.tuple_inj hy hq]; exact hx⟩, st', fun b hb => (hf b hb).1⟩⟩
  done := by
    intro X hP hw hK hc i pins s σ H E I hf st hg
    subst hP hw hK
    obtain ⟨xs, hq, hx⟩ := hg
    obtain ⟨its, rv, p, hz⟩ := I.tuple hq
    obtain ⟨f0, f1, f2, f3, f4, f5⟩ := hf it (by simp)
    have hl := rv.length
    exact wpAny_pyNext_tuple_end (I.ok.hd hc) st (show s.heap.IsTuple a its.toArray from p) (by simp; omega) fun h' eb => ⟨rfl, I.turned (t' := s.toks) (fun b o hb e => eb b o hb e) f0 f1 f3 f4 f5⟩
  self := fun _ _ _ _ _ st h => wpAny_pyIter_tupleiter st h
theorem turn_range {P : Program} {w : World} {K : PySem.W.Frag} {tg : Expr} (it : Addr) (lo : Int) (n : Nat) : Turn P w K tg (Itr lo n) [it] it (fun i h => IsRangeIter h it (lo + (i : Nat) * 1) ((n : Int) - (i : Nat)) 1) where
  mem := by simp
  obj := fun i h st b hb => by
    have e : b = it := by simpa using hb
    subst e
    exact ⟨_, st, fun v z => by
      have z' : Data.fields _ = Data.cell v := z
      cases z'⟩
  keep := fun i h h' st k => k it (by simp) _ st
  item := by
    intro X hP hw hK hc i pins s σ H E I hf st hg
    subst hP hw hK
    obtain ⟨f0, f1, f2, f3, f4, f5⟩ := hf it (by simp)
    have W := Walks.range (prog := X.prog) (w := X.w) (I.ok.hd hc) it lo 1 n
    refine W.item i s _ _ hg st fun v h' tk hv st' kk => ?_
    obtain ⟨t, rfl⟩ := hv
    have I1 : Inv X pins σ H { s with heap := h', toks := tk } := I.turned (fun b o hb e => kk b o (by simpa using hb) e) f0 f1 f3 f4 f5
    refine ⟨_, rfl, go_of (s := { s with heap := h', toks := tk }) (n := "range_iterator") st' rfl rfl (by decide) ⟨.int (lo + i), H, I1, ⟨t, ?_⟩, ⟨rfl, rfl⟩, st', fun b hb => (hf b hb).1⟩⟩
    rw [Int.mul_one]
  done := by
    intro X hP hw hK hc i pins s σ H E I hf st hg
    subst hP hw hK
    obtain ⟨f0, f1, f2, f3, f4, f5⟩ := hf it (by simp)
    exact wpAny_pyNext_range_end (I.ok.hd hc) st (by have : n ≤ i := hg; omega) fun h' eb => ⟨rfl, I.turned (t' := s.toks) (fun b o hb e => eb b o hb e) f0 f1 f3 f4 f5⟩
  self := fun _ _ _ _ _ st h => wpAny_pyIter_rangeiter st h
end L2
namespace L2
open PySem PySem.Spec PyProof.Rows
section
variable {X : Cx} {tg : Expr}
theorem range_it {pins : List (Addr × Obj)} {σ : St} {H : Hp} {s : Shared} {R : It → Hp → Prop} {E : Value → Shared → Prop} {lo hi : Int} {t u v : Tok} {tk : Nat} (I : Inv X pins σ H s) (h1 : -(2 ^ 62) ≤ lo) (h2 : lo < 2 ^ 62) (h3 : -(2 ^ 62) ≤ hi) (h4 : hi < 2 ^ 62)
    (q : R (Itr lo (hi - lo).toNat) H) : wpAny (model X.prog X.w) X.A (pyIter (.ref s.heap.objs.size)) (PIE X pins σ tg R) E { s with heap := s.heap.push { cls := .type "range", data := .fields #[.int lo t, .int hi u, .int 1 v] }, toks := tk } := by
  refine wpAny_pyIter_range (IsRange.new ..) (small_one h1 h2 h3 h4) ?_
  have I1 : Inv X pins σ H { s with heap := s.heap.push { cls := .type "range", data := .fields #[.int lo t, .int hi u, .int 1 v] }, toks := tk } := I.kept fun b o e => Heap.get?_push_of_some _ e
  refine ⟨(s.heap.push { cls := .type "range", data := .fields #[.int lo t, .int hi u, .int 1 v] }).objs.size, [(s.heap.push { cls := .type "range", data := .fields #[.int lo t, .int hi u, .int 1 v] }).objs.size], _, _, H, rfl,
    I1.kept (t' := tk) fun b o e => Heap.get?_push_of_some _ e, turn_range _ lo (hi - lo).toNat, ?_, fun b hb => ?_, q⟩
  · have e1 : lo + ((0 : Nat) : Int) * 1 = lo := by simp
    have e2 : (((hi - lo).toNat : Nat) : Int) - ((0 : Nat) : Int) = Builtin.Range.rangeSize lo hi 1 := by rw [rangeSize_one]; split <;> omega
    show IsRangeIter _ _ (lo + ((0 : Nat) : Int) * 1) ((((hi - lo).toNat : Nat) : Int) - ((0 : Nat) : Int)) 1
    rw [e1, e2]
    exact Heap.get?_push_size _ rfl
  · have e : b = (s.heap.push { cls := .type "range", data := .fields #[.int lo t, .int hi u, .int 1 v] }).objs.size := by simpa using hb
    subst e
    exact I1.fpOk (Nat.le_refl _) (I1.hok.fresh (Nat.le_refl _))
def iRng1 (ta : TA) : TI := fun σ H R => ta σ H fun vs H1 => ∃ j : Int, vs = [.int j] ∧ -(2 ^ 62) ≤ j ∧ j < 2 ^ 62 ∧ R (Itr 0 j.toNat) H1
theorem pi_range1 {a : Expr} {ta : TA} {p pos : Pos} (hg : Gl X "range") (hm : X.mg "range" = none) (ha : PA X [a] ta) (hs : starEach [a] X.env = [(false, eval a X.env)] := by rfl) : PI X tg (.Call (.Name "range" p) [a] [] pos) (iRng1 ta) := by
  intro pins s σ H R I h
  refine Call_ (ld_blt I hg hm boot_range (PyProof.Rows.callWith_type1 (thn (ha pos pins s σ H _ I h) fun us s1 ⟨vs, H1, I1, r1, q1⟩ => ?_) hs rfl))
  obtain ⟨j, e, q1, q2, q⟩ := q1
  subst e
  cases r1 with
  | cons r rr =>
    cases rr
    obtain ⟨t, rfl⟩ := r
    exact call_range_1 (range_it I1 (by omega) (by omega) q1 q2 (by simpa using q))
def tFor (wi : TI) (g : TG) (tb : TS) : TS := fun D σ H => wi σ H fun J H1 => ∃ W : Nat → Nat → St → Hp → Prop, (∃ m, W 0 m σ H1) ∧ ∀ i m σ H, W i m σ H →
  (J.stop i H ∧ D.nx σ H) ∨ (J.go i H ∧ ∃ N : St → Hp → Prop, (∀ σ' H', N σ' H' → ∃ m', m' < m ∧ W (i + 1) m' σ' H') ∧ ∀ x H', J.yld i H x H' → g x σ H' fun σ2 H2 => tb { D with nx := N, ct := N, bk := D.nx } σ2 H2)
def pinsAt (fp : List Addr) (h : Heap) : List (Addr × Obj) := fp.filterMap fun b => (h.get? b).map fun o => (b, o)
theorem mem_pinsAt {fp : List Addr} {h : Heap} {b : Addr} {o : Obj} (hb : b ∈ fp) (e : h.get? b = some o) : (b, o) ∈ pinsAt fp h := List.mem_filterMap.mpr ⟨b, hb, by rw [e]; rfl⟩
theorem of_pinsAt {fp : List Addr} {h : Heap} {p : Addr × Obj} (hp : p ∈ pinsAt fp h) : p.1 ∈ fp ∧ h.get? p.1 = some p.2 := by
  obtain ⟨b, hb, e⟩ := List.mem_filterMap.mp hp
  cases q : h.get? b with
  | none => rw [q] at e; cases e
  | some o =>
    rw [q] at e
    have e' : (b, o) = p := Option.some.inj e
    subst e'
    exact ⟨hb, q⟩
theorem Inv.pinned {pins : List (Addr × Obj)} {σ : St} {H : Hp} {s : Shared} {fp : List Addr} (I : Inv X pins σ H s) (hf : ∀ b ∈ fp, FpOk X pins H b) (ho : ∀ b ∈ fp, ∃ o, s.heap.get? b = some o ∧ ∀ v, o.data ≠ .cell v) : Inv X (pins ++ pinsAt fp s.heap) σ H s :=
  I.pins_of fun p hp => (List.mem_append.mp hp).elim (fun z => I.pin p (List.mem_append_right _ z)) fun z => by
    obtain ⟨hb, e⟩ := of_pinsAt z
    obtain ⟨f0, f1, f2, _⟩ := hf p.1 hb
    obtain ⟨o, e', d⟩ := ho p.1 hb
    rw [e] at e'; cases e'
    exact ⟨e, f0, f1, f2, d⟩
theorem Inv.unpinned {pins pl : List (Addr × Obj)} {σ : St} {H : Hp} {s : Shared} (I : Inv X (pins ++ pl) σ H s) : Inv X pins σ H s := I.pins_of fun p hp => I.pin p (List.mem_append_right _ (List.mem_append_left _ hp))
theorem ps_for {iter : Expr} {body : List Stmt} {wi : TI} {g : TG} {tb : TS} {pos : Pos} (hp : PassesOwn (model X.prog X.w) X.A X.env X.xe) (hc : X.calm = true) (hi : PI X tg iter wi) (hg : PG X tg g) (hb : PSs X body tb)
    (hs : ∀ x, foldedSetIterable iter X.env x = pure x := by intro _; rfl) : PS X (.For tg iter body [] pos) (tFor wi g tb) := by
  intro pins s σ H D I h
  refine wpAny_For (thn (hi pins s σ H _ I h) fun v s1 h1 => thn h1 fun itv s2 h2 => ?_) hs
  obtain ⟨it, fp, tn, J, H2, e, I2, T, st2, f2, W, ⟨m0, w0⟩, turn⟩ := h2
  subst e
  -- what stays true of the iterator's objects through the loop
  have stat : ∀ {H' : Hp}, (∀ b ∈ fp, H' b = none) → ∀ b ∈ fp, FpOk X pins H' b := fun hn b hb => ⟨hn b hb, (f2 b hb).2⟩
  refine codeAny_forLoop_any (fun n s' => ∃ i σ' H', Inv X pins σ' H' s' ∧ tn i s'.heap ∧ (∀ b ∈ fp, H' b = none) ∧ W i n σ' H') ?_ m0 ⟨0, σ, H2, I2, st2, fun b hb => (f2 b hb).1, w0⟩
  rintro n s3 ⟨i, σ3, H3, I3, st3, fr3, w3⟩
  rcases turn i n σ3 H3 w3 with ⟨stop, qn⟩ | ⟨go, N, hN, step⟩
  · refine wpAny_passesOwn hp (thn (T.done X rfl rfl rfl hc i pins s3 σ3 H3 X.xe I3 (stat fr3) st3 stop) fun r s4 ⟨hr, I4⟩ => ?_)
    subst hr
    exact wpAny_execs_nil ⟨σ3, H3, I4, qn⟩
  · refine wpAny_passesOwn hp (thn (T.item X rfl rfl rfl hc i pins s3 σ3 H3 X.xe I3 (stat fr3) st3 go) fun r s4 ⟨u, hr, h4⟩ => ?_)
    subst hr
    refine wpAny_passesOwn hp (thn h4 fun _ s5 ⟨x, H5, I5, r5, y5, st5, fr5⟩ => ?_)
    have I5' := I5.pinned (stat fr5) (T.obj _ _ st5)
    refine wpAny_passesOwn hp (thn (hg _ s5 σ3 H5 x u _ I5' r5 (step x H5 y5)) fun _ s6 ⟨σ6, H6, I6, q6⟩ => ?_)
    refine wpAny_passesOwn hp (thn (hb _ s6 σ6 H6 _ I6 q6) fun f s7 q7 => ?_)
    have again : ∀ {σ7 : St} {H7 : Hp}, Inv X (pins ++ pinsAt fp s5.heap) σ7 H7 s7 → N σ7 H7 → ∃ m, m < n ∧ ∃ i σ' H', Inv X pins σ' H' s7 ∧ tn i s7.heap ∧ (∀ b ∈ fp, H' b = none) ∧ W i m σ' H' := fun {σ7 H7} I7 n7 => by
      obtain ⟨m', hm, w7⟩ := hN σ7 H7 n7
      refine ⟨m', hm, i + 1, σ7, H7, I7.unpinned, T.keep _ _ _ st5 fun b hb o e => (I7.pin (b, o) (List.mem_append_right _ (List.mem_append_right _ (mem_pinsAt hb e)))).1, fun b hb => ?_, w7⟩
      obtain ⟨o, e, d⟩ := T.obj _ _ st5 b hb
      exact (I7.pin (b, o) (List.mem_append_right _ (List.mem_append_right _ (mem_pinsAt hb e)))).2.1
    cases f with
    | next => obtain ⟨σ7, H7, I7, n7⟩ := q7; exact again I7 n7
    | cont => obtain ⟨σ7, H7, I7, n7⟩ := q7; exact again I7 n7
    | brk => obtain ⟨σ7, H7, I7, q7⟩ := q7; exact ⟨σ7, H7, I7.unpinned, q7⟩
    | ret v => obtain ⟨x7, σ7, H7, I7, r7, q7⟩ := q7; exact ⟨x7, σ7, H7, I7.unpinned, r7, q7⟩
end
theorem for_list {K : PySem.W.Frag} {a : Addr} {xs : List V} {g : TG} {tb : TS} {D : Ends} {σ : St} {H : Hp} (Pv : Nat → St → Hp → Prop) (h0 : Pv 0 σ H) (hl : ∀ i σ H, i ≤ xs.length → Pv i σ H → SqL K H a xs)
    (hs : ∀ i x σ H, xs[i]? = some x → Pv i σ H → g x σ H fun σ2 H2 => tb { D with nx := Pv (i + 1), ct := Pv (i + 1), bk := D.nx } σ2 H2) (hd : ∀ σ H, Pv xs.length σ H → D.nx σ H) :
    ∃ W : Nat → Nat → St → Hp → Prop, (∃ m, W 0 m σ H) ∧ ∀ i m σ H, W i m σ H →
      ((Itl K a).stop i H ∧ D.nx σ H) ∨ ((Itl K a).go i H ∧ ∃ N : St → Hp → Prop, (∀ σ' H', N σ' H' → ∃ m', m' < m ∧ W (i + 1) m' σ' H') ∧ ∀ x H', (Itl K a).yld i H x H' → g x σ H' fun σ2 H2 => tb { D with nx := N, ct := N, bk := D.nx } σ2 H2) := by
  refine ⟨fun i m σ H => m = xs.length - i ∧ i ≤ xs.length ∧ Pv i σ H, ⟨xs.length, by simp, Nat.zero_le _, h0⟩, ?_⟩
  rintro i m σ H ⟨rfl, hi, p⟩
  have q := hl i σ H hi p
  by_cases hlt : i < xs.length
  · refine .inr ⟨⟨xs, xs[i], q, by simp [hlt]⟩, Pv (i + 1), fun σ' H' p' => ⟨xs.length - (i + 1), by omega, rfl, hlt, p'⟩, fun x H' y => ?_⟩
    obtain ⟨e, y⟩ := y
    subst e
    exact hs i x σ _ (y xs q) p
  · have e : i = xs.length := by omega
    subst e
    exact .inl ⟨⟨xs, q, Nat.le_refl _⟩, hd σ H p⟩
theorem for_tup {K : PySem.W.Frag} {a : Addr} {xs : List V} {g : TG} {tb : TS} {D : Ends} {σ : St} {H : Hp} (Pv : Nat → St → Hp → Prop) (h0 : Pv 0 σ H) (hl : ∀ i σ H, i ≤ xs.length → Pv i σ H → SqT K H a xs)
    (hs : ∀ i x σ H, xs[i]? = some x → Pv i σ H → g x σ H fun σ2 H2 => tb { D with nx := Pv (i + 1), ct := Pv (i + 1), bk := D.nx } σ2 H2) (hd : ∀ σ H, Pv xs.length σ H → D.nx σ H) :
    ∃ W : Nat → Nat → St → Hp → Prop, (∃ m, W 0 m σ H) ∧ ∀ i m σ H, W i m σ H →
      ((Itt K a).stop i H ∧ D.nx σ H) ∨ ((Itt K a).go i H ∧ ∃ N : St → Hp → Prop, (∀ σ' H', N σ' H' → ∃ m', m' < m ∧ W (i + 1) m' σ' H') ∧ ∀ x H', (Itt K a).yld i H x H' → g x σ H' fun σ2 H2 => tb { D with nx := N, ct := N, bk := D.nx } σ2 H2) := by
  refine ⟨fun i m σ H => m = xs.length - i ∧ i ≤ xs.length ∧ Pv i σ H, ⟨xs.length, by simp, Nat.zero_le _, h0⟩, ?_⟩
  rintro i m σ H ⟨rfl, hi, p⟩
  have q := hl i σ H hi p
  by_cases hlt : i < xs.length
  · refine .inr ⟨⟨xs, xs[i], q, by simp [hlt]⟩, Pv (i + 1), fun σ' H' p' => ⟨xs.length - (i + 1), by omega, rfl, hlt, p'⟩, fun x H' y => ?_⟩
    obtain ⟨e, y⟩ := y
    subst e
    exact hs i x σ _ (y xs q) p
  · have e : i = xs.length := by omega
    subst e
    exact .inl ⟨⟨xs, q, Nat.le_refl _⟩, hd σ H p⟩
theorem for_range {lo : Int} {n : Nat} {g : TG} {tb : TS} {D : Ends} {σ : St} {H : Hp} (Pv : Nat → St → Hp → Prop) (h0 : Pv 0 σ H)
    (hs : ∀ i σ H, i < n → Pv i σ H → g (.int (lo + i)) σ H fun σ2 H2 => tb { D with nx := Pv (i + 1), ct := Pv (i + 1), bk := D.nx } σ2 H2) (hd : ∀ σ H, Pv n σ H → D.nx σ H) :
    ∃ W : Nat → Nat → St → Hp → Prop, (∃ m, W 0 m σ H) ∧ ∀ i m σ H, W i m σ H →
      ((Itr lo n).stop i H ∧ D.nx σ H) ∨ ((Itr lo n).go i H ∧ ∃ N : St → Hp → Prop, (∀ σ' H', N σ' H' → ∃ m', m' < m ∧ W (i + 1) m' σ' H') ∧ ∀ x H', (Itr lo n).yld i H x H' → g x σ H' fun σ2 H2 => tb { D with nx := N, ct := N, bk := D.nx } σ2 H2) := by
  refine ⟨fun i m σ H => m = n - i ∧ i ≤ n ∧ Pv i σ H, ⟨n, by simp, Nat.zero_le _, h0⟩, ?_⟩
  rintro i m σ H ⟨rfl, hi, p⟩
  by_cases hlt : i < n
  · refine .inr ⟨hlt, Pv (i + 1), fun σ' H' p' => ⟨n - (i + 1), by omega, rfl, hlt, p'⟩, fun x H' y => ?_⟩
    obtain ⟨e, y⟩ := y
    subst e y
    exact hs i σ _ hlt p
  · have e : i = n := by omega
    subst e
    exact .inl ⟨Nat.le_refl _, hd σ H p⟩
end L2
namespace L2
open PySem PySem.Spec PyProof.Rows
abbrev R2 := V → V → Hp → VK → Prop
def OpR (X : Cx) (f : Value → Value → Sem Value) (r : R2) : Prop :=
  ∀ (pins : List (Addr × Obj)) (s : Shared) (σ : St) (H : Hp) (x y : V) (v u : Value) (Q : VK), Inv X pins σ H s → RelV x v → RelV y u → r x y H Q →
    wpAny (model X.prog X.w) X.A (f v u) (EP X pins σ Q) X.xe s
def UnR (X : Cx) (f : Value → Sem Value) (r : V → Hp → VK → Prop) : Prop :=
  ∀ (pins : List (Addr × Obj)) (s : Shared) (σ : St) (H : Hp) (x : V) (v : Value) (Q : VK), Inv X pins σ H s → RelV x v → r x H Q →
    wpAny (model X.prog X.w) X.A (f v) (EP X pins σ Q) X.xe s
def CallR (X : Cx) (f : Value) (r : List V → Hp → VK → Prop) : Prop :=
  ∀ (pins : List (Addr × Obj)) (s : Shared) (σ : St) (H : Hp) (xs : List V) (us : List Value) (Q : VK), Inv X pins σ H s → Vals xs us → r xs H Q →
    wpAny (model X.prog X.w) X.A (call f us) (EP X pins σ Q) X.xe s
def tOp (r : R2) (ta tb : TE) : TE := fun σ H Q => ta σ H fun x H1 => tb σ H1 fun y H2 => r x y H2 Q
def tUn (r : V → Hp → VK → Prop) (ta : TE) : TE := fun σ H Q => ta σ H fun x H1 => r x H1 Q
def rI (C : Int → Int → Prop) (g : Int → Int → V) : R2 := fun x y H Q => ∃ i j, x = .int i ∧ y = .int j ∧ C i j ∧ Q (g i j) H
def rI0 (g : Int → Int → V) : R2 := fun x y H Q => ∃ i j, x = .int i ∧ y = .int j ∧ Q (g i j) H
def rU (g : Int → V) : V → Hp → VK → Prop := fun x H Q => ∃ i, x = .int i ∧ Q (g i) H
section
variable {X : Cx} {a b c : Expr} {ta tb tc : TE} {pos : Pos}
theorem binT (ha : PE X a ta) (hb : PE X b tb) {pins : List (Addr × Obj)} {s : Shared} {σ : St} {H : Hp} {R : V → V → Hp → Prop} (I : Inv X pins σ H s)
    (h : ta σ H fun x H1 => tb σ H1 fun y H2 => R x y H2) {Q : Value → Shared → Prop} {f : Value → Value → Sem Value}
    (hf : ∀ v u s2 x y H2, Inv X pins σ H2 s2 → RelV x v → RelV y u → R x y H2 → wpAny (model X.prog X.w) X.A (f v u) Q X.xe s2) :
    wpAny (model X.prog X.w) X.A (eval a X.env) (fun v s₁ => wpAny (model X.prog X.w) X.A (eval b X.env) (fun u s₂ => wpAny (model X.prog X.w) X.A (f v u) Q X.xe s₂) X.xe s₁) X.xe s := by
  refine thn (ha pins s σ H _ I h) fun v s1 ⟨x, H1, I1, r1, q1⟩ => ?_
  refine thn (hb pins s1 σ H1 _ I1 q1) fun u s2 ⟨y, H2, I2, r2, q2⟩ => ?_
  exact hf v u s2 x y H2 I2 r1 r2 q2
theorem pe_op {op : Operator} {r : R2} (ho : OpR X (binaryOp op) r) (ha : PE X a ta) (hb : PE X b tb) : PE X (.BinOp a op b pos) (tOp r ta tb) := by
  intro pins s σ H Q I h
  exact wpAny_BinOp (binT ha hb I h fun v u s2 x y H2 I2 rx ry q => ho pins s2 σ H2 x y v u Q I2 rx ry q)
theorem pe_un {op : UnaryOp} {r : V → Hp → VK → Prop} (ho : UnR X (unaryOp op) r) (ha : PE X a ta) : PE X (.UnaryOp op a pos) (tUn r ta) := by
  intro pins s σ H Q I h
  exact UnaryOp_ (thn (ha pins s σ H _ I h) fun v s1 ⟨x, H1, I1, r1, q1⟩ => ho pins s1 σ H1 x v Q I1 r1 q1)
theorem opI {f : Value → Value → Sem Value} {C : Int → Int → Prop} {g : Int → Int → Int}
    (rule : ∀ (i j : Int) (t u : Tok) (s : Shared) (Q : Value → Shared → Prop) (E : Value → Shared → Prop), C i j → Q (.int (g i j) s.toks) { s with toks := s.toks + 1 } → wpAny (model X.prog X.w) X.A (f (.int i t) (.int j u)) Q E s) :
    OpR X f (rI C fun i j => .int (g i j)) := by
  intro pins s σ H x y v u Q I rx ry h
  obtain ⟨i, j, rfl, rfl, hc, q⟩ := h
  obtain ⟨t, rfl⟩ := rx
  obtain ⟨t', rfl⟩ := ry
  exact rule i j t t' s _ _ hc ⟨.int (g i j), H, I.tok _, ⟨_, rfl⟩, q⟩
theorem opI0 {f : Value → Value → Sem Value} {g : Int → Int → Int}
    (rule : ∀ (i j : Int) (t u : Tok) (s : Shared) (Q : Value → Shared → Prop) (E : Value → Shared → Prop), Q (.int (g i j) s.toks) { s with toks := s.toks + 1 } → wpAny (model X.prog X.w) X.A (f (.int i t) (.int j u)) Q E s) :
    OpR X f (rI0 fun i j => .int (g i j)) := by
  intro pins s σ H x y v u Q I rx ry h
  obtain ⟨i, j, rfl, rfl, q⟩ := h
  obtain ⟨t, rfl⟩ := rx
  obtain ⟨t', rfl⟩ := ry
  exact rule i j t t' s _ _ ⟨.int (g i j), H, I.tok _, ⟨_, rfl⟩, q⟩
theorem opB0 {f : Value → Value → Sem Value} {g : Int → Int → Bool}
    (rule : ∀ (i j : Int) (t u : Tok) (s : Shared) (Q : Value → Shared → Prop) (E : Value → Shared → Prop), Q (.bool (g i j)) s → wpAny (model X.prog X.w) X.A (f (.int i t) (.int j u)) Q E s) :
    OpR X f (rI0 fun i j => .bl (g i j)) := by
  intro pins s σ H x y v u Q I rx ry h
  obtain ⟨i, j, rfl, rfl, q⟩ := h
  obtain ⟨t, rfl⟩ := rx
  obtain ⟨t', rfl⟩ := ry
  exact rule i j t t' s _ _ ⟨.bl (g i j), H, I, rfl, q⟩
def CPow (i j : Int) : Prop := 0 ≤ j ∧ j ≤ 1000000 ∧ i.natAbs < 2 ^ 64
def CMul (i j : Int) : Prop := (-(2 ^ 64) < i ∧ i < 2 ^ 64) ∨ (-(2 ^ 64) < j ∧ j < 2 ^ 64)
theorem CMul.ok {i j : Int} (h : CMul i j) : IntMulOk i j := by
  rcases h with ⟨h1, h2⟩ | ⟨h1, h2⟩
  · exact .of_left (intBits_le_64 h1 h2)
  · exact .of_right (intBits_le_64 h1 h2)
theorem op_add : OpR X (binaryOp .Add) (rI0 fun i j => .int (i + j)) := opI0 fun _ _ _ _ _ _ _ q => add_int q
theorem op_sub : OpR X (binaryOp .Sub) (rI0 fun i j => .int (i - j)) := opI0 fun _ _ _ _ _ _ _ q => sub_int q
theorem op_mod : OpR X (binaryOp .Mod) (rI (fun _ j => 0 < j) fun i j => .int (i % j)) := opI fun i j _ _ _ _ _ hc q => by
  have h1 : (0 : Int) < j := hc
  exact mod_int' (by omega) (by rw [Int.fmod_eq_emod_of_nonneg i (by omega)]; exact q)
theorem op_pow : OpR X (binaryOp .Pow) (rI CPow fun i j => .int (i ^ j.toNat)) := opI fun _ _ _ _ _ _ _ hc q => pow_int_small hc.1 hc.2.1 hc.2.2 q
theorem unI {f : Value → Sem Value} {g : Int → Int}
    (rule : ∀ (i : Int) (t : Tok) (s : Shared) (Q : Value → Shared → Prop) (E : Value → Shared → Prop), Q (.int (g i) s.toks) { s with toks := s.toks + 1 } → wpAny (model X.prog X.w) X.A (f (.int i t)) Q E s) :
    UnR X f (rU fun i => .int (g i)) := by
  intro pins s σ H x v Q I rx h
  obtain ⟨i, rfl, q⟩ := h
  obtain ⟨t, rfl⟩ := rx
  exact rule i t s _ _ ⟨.int (g i), H, I.tok _, ⟨_, rfl⟩, q⟩
theorem un_neg : UnR X (unaryOp .USub) (rU fun i => .int (-i)) := unI fun _ _ _ _ _ q => neg_int q
end
def scal : V → V → Bool
  | .non, .non => true | .non, .int _ => true | .int _, .non => true | .non, .bl _ => true | .bl _, .non => true | .non, .str _ => true | .str _, .non => true
  | .int _, .int _ => true | .bl _, .bl _ => true | .str _, .str _ => true | .byt _, .byt _ => true
  | .int _, .str _ => true | .str _, .int _ => true | .bl _, .str _ => true | .str _, .bl _ => true
  | _, _ => false
def rEq : R2 := fun x y H Q => scal x y = true ∧ Q (.bl (decide (x = y))) H
def rNe : R2 := fun x y H Q => scal x y = true ∧ Q (.bl (!decide (x = y))) H
theorem dec_int {i j : Int} : decide (V.int i = V.int j) = (i == j) := by
  rw [Bool.eq_iff_iff]
  simp
theorem dec_bl {i j : Bool} : decide (V.bl i = V.bl j) = (i == j) := by
  rw [Bool.eq_iff_iff]
  simp
theorem dec_str {i j : Str} : decide (V.str i = V.str j) = (i == j) := by
  rw [Bool.eq_iff_iff]
  simp
theorem dec_byt {i j : Array UInt8} : decide (V.byt i = V.byt j) = (i.toList == j.toList) := by
  rw [Bool.eq_iff_iff]
  cases i
  cases j
  simp
section
variable {X : Cx} {a b c : Expr} {ta tb tc : TE} {pos : Pos}
theorem fin_bl {pins : List (Addr × Obj)} {σ : St} {H : Hp} {s : Shared} {Q : VK} {k k' : Bool} (I : Inv X pins σ H s) (q : Q (.bl k) H) (e : k = k') : EP X pins σ Q (.bool k') s := by
  subst e
  exact ⟨.bl k, H, I, rfl, q⟩
theorem op_eq : OpR X (compareOp .Eq) rEq := by
  intro pins s σ H x y v u Q I rx ry h
  obtain ⟨hs, q⟩ := h
  cases x with
  | non =>
    cases rx
    cases y with
    | non => cases ry; exact PySem.EqNone.eq_none_none (fin_bl I q (by simp))
    | bl j => cases ry; exact PySem.EqNone.eq_none_bool (fin_bl I q (by simp))
    | int j => obtain ⟨t', rfl⟩ := ry; exact PySem.EqNone.eq_none_int (fin_bl I q (by simp))
    | str j => obtain ⟨t', rfl⟩ := ry; exact PySem.EqNone.eq_none_str (fin_bl I q (by simp))
    | _ => exact absurd (show false = true from hs) Bool.false_ne_true
  | bl i =>
    cases rx
    cases y with
    | non => cases ry; exact PySem.EqNone.eq_bool_none (fin_bl I q (by simp))
    | bl j => cases ry; exact eq_bool (fin_bl I q dec_bl)
    | str j => obtain ⟨t', rfl⟩ := ry; exact PySem.EqMixed.eq_bool_str (fin_bl I q (by simp))
    | _ => exact absurd (show false = true from hs) Bool.false_ne_true
  | int i =>
    obtain ⟨t, rfl⟩ := rx
    cases y with
    | non => cases ry; exact PySem.EqNone.eq_int_none (fin_bl I q (by simp))
    | int j => obtain ⟨t', rfl⟩ := ry; exact eq_int (fin_bl I q dec_int)
    | str j => obtain ⟨t', rfl⟩ := ry; exact PySem.EqMixed.eq_int_str (fin_bl I q (by simp))
    | _ => exact absurd (show false = true from hs) Bool.false_ne_true
  | str i =>
    obtain ⟨t, rfl⟩ := rx
    cases y with
    | non => cases ry; exact PySem.EqNone.eq_str_none (fin_bl I q (by simp))
    | bl j => cases ry; exact PySem.EqMixed.eq_str_bool (fin_bl I q (by simp))
    | int j => obtain ⟨t', rfl⟩ := ry; exact PySem.EqMixed.eq_str_int (fin_bl I q (by simp))
    | str j => obtain ⟨t', rfl⟩ := ry; exact eq_str (fin_bl I q dec_str)
    | _ => exact absurd (show false = true from hs) Bool.false_ne_true
  | byt i =>
    obtain ⟨t, rfl⟩ := rx
    cases y with
    | byt j => obtain ⟨t', rfl⟩ := ry; exact PySem.W.eq_bytes (fin_bl I q dec_byt)
    | _ => exact absurd (show false = true from hs) Bool.false_ne_true
  | _ => cases y <;> exact absurd (show false = true from hs) Bool.false_ne_true
theorem op_ne : OpR X (compareOp .NotEq) rNe := by
  intro pins s σ H x y v u Q I rx ry h
  obtain ⟨hs, q⟩ := h
  cases x with
  | non =>
    cases rx
    cases y with
    | non => cases ry; exact PySem.EqNone.ne_none_none (fin_bl I q (by simp))
    | bl j => cases ry; exact PySem.EqNone.ne_none_bool (fin_bl I q (by simp))
    | int j => obtain ⟨t', rfl⟩ := ry; exact PySem.EqNone.ne_none_int (fin_bl I q (by simp))
    | str j => obtain ⟨t', rfl⟩ := ry; exact PySem.EqNone.ne_none_str (fin_bl I q (by simp))
    | _ => exact absurd (show false = true from hs) Bool.false_ne_true
  | bl i =>
    cases rx
    cases y with
    | non => cases ry; exact PySem.EqNone.ne_bool_none (fin_bl I q (by simp))
    | bl j => cases ry; exact ne_bool (fin_bl I q (congrArg not dec_bl))
    | str j => obtain ⟨t', rfl⟩ := ry; exact PySem.EqMixed.ne_bool_str (fin_bl I q (by simp))
    | _ => exact absurd (show false = true from hs) Bool.false_ne_true
  | int i =>
    obtain ⟨t, rfl⟩ := rx
    cases y with
    | non => cases ry; exact PySem.EqNone.ne_int_none (fin_bl I q (by simp))
    | int j => obtain ⟨t', rfl⟩ := ry; exact ne_int (fin_bl I q (congrArg not dec_int))
    | str j => obtain ⟨t', rfl⟩ := ry; exact PySem.EqMixed.ne_int_str (fin_bl I q (by simp))
    | _ => exact absurd (show false = true from hs) Bool.false_ne_true
  | str i =>
    obtain ⟨t, rfl⟩ := rx
    cases y with
    | non => cases ry; exact PySem.EqNone.ne_str_none (fin_bl I q (by simp))
    | bl j => cases ry; exact PySem.EqMixed.ne_str_bool (fin_bl I q (by simp))
    | int j => obtain ⟨t', rfl⟩ := ry; exact PySem.EqMixed.ne_str_int (fin_bl I q (by simp))
    | str j => obtain ⟨t', rfl⟩ := ry; exact ne_str (fin_bl I q (congrArg not dec_str))
    | _ => exact absurd (show false = true from hs) Bool.false_ne_true
  | byt i =>
    obtain ⟨t, rfl⟩ := rx
    cases y with
    | byt j => obtain ⟨t', rfl⟩ := ry; exact PySem.W.ne_bytes (fin_bl I q (congrArg not dec_byt))
    | _ => exact absurd (show false = true from hs) Bool.false_ne_true
  | _ => cases y <;> exact absurd (show false = true from hs) Bool.false_ne_true
theorem op_lt : OpR X (compareOp .Lt) (rI0 fun i j => .bl (decide (i < j))) := opB0 fun _ _ _ _ _ _ _ q => lt_int q
theorem op_le : OpR X (compareOp .LtE) (rI0 fun i j => .bl (decide (i ≤ j))) := opB0 fun _ _ _ _ _ _ _ q => le_int q
theorem op_gt : OpR X (compareOp .Gt) (rI0 fun i j => .bl (decide (j < i))) := opB0 fun _ _ _ _ _ _ _ q => gt_int q
theorem op_ge : OpR X (compareOp .GtE) (rI0 fun i j => .bl (decide (j ≤ i))) := opB0 fun _ _ _ _ _ _ _ q => ge_int q
def isObj : HO → Bool
  | .lst _ => true
  | .ins _ _ _ => true
  | _ => false
theorem OpR.or {f : Value → Value → Sem Value} {r r' : R2} (h : OpR X f r) (h' : OpR X f r') : OpR X f (fun x y H Q => r x y H Q ∨ r' x y H Q) := by
  intro pins s σ H x y v u Q I rx ry q
  rcases q with q | q
  · exact h pins s σ H x y v u Q I rx ry q
  · exact h' pins s σ H x y v u Q I rx ry q
theorem nomark (b : Expr) {op : CmpOp} (h : op ≠ .In := by decide) (h2 : op ≠ .NotIn := by decide) : behindInMarks op b = false := by
  have e1 : (op == CmpOp.In) = false := by cases op <;> first | rfl | exact absurd rfl h
  have e2 : (op == CmpOp.NotIn) = false := by cases op <;> first | rfl | exact absurd rfl h2
  cases b <;> simp [behindInMarks, e1, e2]
theorem pe_cmpR {op : CmpOp} {r : R2} (ho : OpR X (compareOp op) r) (ha : PE X a ta) (hb : PE X b tb) (hm : behindInMarks op b = false) : PE X (.Compare a [op] [b] pos) (tOp r ta tb) := by
  intro pins s σ H Q I h
  exact wpAny_Compare1 (binT ha hb I h fun v u s2 x y H2 I2 rx ry q => ho pins s2 σ H2 x y v u Q I2 rx ry q) hm
def tTest (t : TE) : TT := fun σ H Q => t σ H fun x H' => ∃ k, x = .bl k ∧ Q k H'
theorem pt_cmpR {op : CmpOp} {r : R2} (ho : OpR X (compareOp op) r) (ha : PE X a ta) (hb : PE X b tb) (hm : behindInMarks op b = false) : PT X (.Compare a [op] [b] pos) (tTest (tOp r ta tb)) := by
  intro pins s σ H Q I h
  refine wpAny_isTrue_Compare1 (thn (ha pins s σ H _ I h) fun v s1 ⟨x, H1, I1, r1, q1⟩ => thn (hb pins s1 σ H1 _ I1 q1) fun u s2 ⟨y, H2, I2, r2, q2⟩ =>
    thn (ho pins s2 σ H2 x y v u _ I2 r1 r2 q2) fun c s3 ⟨z, H3, I3, r3, k, e, q3⟩ => ?_) hm
  subst e
  cases r3
  exact wpAny_truthy_bool ⟨H3, I3, q3⟩
theorem line63 : (sizeLine : Nat) < 2 ^ 63 := by rw [sizeLine_eq]; decide
theorem vals1 {x : V} {us : List Value} (r : Vals [x] us) : ∃ u, us = [u] ∧ RelV x u := by
  cases r with
  | cons r1 r2 => cases r2; exact ⟨_, rfl, r1⟩
theorem vals2 {x y : V} {us : List Value} (r : Vals [x, y] us) : ∃ u w', us = [u, w'] ∧ RelV x u ∧ RelV y w' := by
  cases r with
  | cons r1 r2 =>
    cases r2 with
    | cons r3 r4 => cases r4; exact ⟨_, _, rfl, r1, r3⟩
theorem call_max2 (hc : X.calm = true) : CallR X (.builtin "max") (fun xs H Q => ∃ i j, xs = [.int i, .int j] ∧ Q (.int (if j > i then j else i)) H) := by
  intro pins s σ H xs us Q I r h
  obtain ⟨i, j, rfl, q⟩ := h
  obtain ⟨u, w', rfl, ⟨t, rfl⟩, ⟨t', rfl⟩⟩ := vals2 r
  refine max_two_ints (I.ok.hd hc) fun h' tk k => ⟨_, H, I.kept k, ?_, q⟩
  by_cases hj : j > i
  · rw [if_pos hj, if_pos hj]; exact ⟨_, rfl⟩
  · rw [if_neg hj, if_neg hj]; exact ⟨_, rfl⟩
theorem call_min2 (hc : X.calm = true) : CallR X (.builtin "min") (fun xs H Q => ∃ i j, xs = [.int i, .int j] ∧ Q (.int (if j < i then j else i)) H) := by
  intro pins s σ H xs us Q I r h
  obtain ⟨i, j, rfl, q⟩ := h
  obtain ⟨u, w', rfl, ⟨t, rfl⟩, ⟨t', rfl⟩⟩ := vals2 r
  refine min_two_ints (I.ok.hd hc) fun h' tk k => ⟨_, H, I.kept k, ?_, q⟩
  by_cases hj : j < i
  · rw [if_pos hj, if_pos hj]; exact ⟨_, rfl⟩
  · rw [if_neg hj, if_neg hj]; exact ⟨_, rfl⟩
end
end L2
namespace L2
open PySem PySem.Spec PyProof.Rows
structure ObjM (h : Heap) (x dx C : Addr) (mA : Str → Option Value) : Prop where
  obj : h.get? x = some (PySem.W.instObj C dx)
  ns : h.Ns1 dx mA
  ne : dx ≠ x
theorem lookIn_ns {h : Heap} {dx : Addr} {mA : Str → Option Value} (n : h.Ns1 dx mA) : ∃ od, h.get? dx = some od ∧ ∀ name, PySem.W.lookIn name od = some (mA name) := by
  obtain ⟨o, es, ep, ho, hd, hk, _, hm⟩ := n
  refine ⟨o, ho, fun name => ?_⟩
  have e := hm name
  unfold nsFind findBy at e
  rw [← Array.find?_toList] at e
  unfold PySem.W.lookIn
  rw [hd]
  dsimp only
  split
  · rename_i y q
    rw [q] at e
    exact congrArg some e
  · rename_i q
    rw [q] at e
    have a : es.toList.any (·.refKey) = false := by
      rw [List.any_eq_false]
      intro y hy
      obtain ⟨z, t, hkey⟩ := hk y (Array.mem_toList_iff.mp hy)
      simp [DictEntry.refKey, hkey]
    have a' : ¬ es.toList.any (·.refKey) = true := by rw [a]; exact Bool.false_ne_true
    rw [if_neg a']
    exact congrArg some e
theorem ObjM.look {h : Heap} {x dx C : Addr} {mA : Str → Option Value} (I : ObjM h x dx C mA) : ∃ od, PySem.W.InstAt h x (PySem.W.instObj C dx) C (some od) ∧ ∀ name, PySem.W.lookIn name od = some (mA name) :=
  let ⟨od, ho, hl⟩ := lookIn_ns I.ns
  ⟨od, ⟨I.obj, rfl, rfl, ho⟩, hl⟩
section
variable {prog : Program} {w : World} {A : Around} {E : Value → Shared → Prop} {s : Shared} {K : PySem.W.Frag} {x dx C f : Addr} {mA : Str → Option Value} {name : Str} {v : Value}
end
theorem RelO.none_of {o : Option Value} (r : RelO none o) : o = none := by
  cases o with
  | none => rfl
  | some u => exact (show False from r).elim
section
variable {P : Program} {w : World} {H H' : Hp} {h h' : Heap} {a C dx : Addr} {fs fs' : List (Str × V)}
theorem ins_get (hok : HOk P w H h) (e : H a = some (.ins C dx fs)) : ∃ mA, ObjM h a dx C mA ∧ (∀ f, RelO (fs.lookup f) (mA f)) ∧ PySem.Within mA (fs.map (·.1)) ∧ fs.length ≤ 1000 ∧ H dx = some (.own a) := by
  obtain ⟨d, z, ne, ob, mA, n, r, q⟩ := (show ObjOk P w H h a (.ins C dx fs) from hok a _ e)
  exact ⟨mA, ⟨ob, n, ne⟩, r, q, z, d⟩
end
structure Cls (K : PySem.W.Frag) (C : Addr) : Prop where
  pg : PySem.W.plainGet K C Str.empty = true
  hd : PySem.W.hasDictIn K C = true
  po : PySem.W.plainOver K C = true
  sa : PySem.W.findIn K (.ref C) "__setattr__" = some (some (.builtin "object.__setattr__"))
theorem Cls.get {K : PySem.W.Frag} {C : Addr} (c : Cls K C) (f : Str) : PySem.W.plainGet K C f = true := c.pg
structure Con (K : PySem.W.Frag) (C : Addr) (f : Str) (v : V) (u : Value) : Prop where
  at_ : PySem.W.findIn K (.ref C) f = some (some u)
  rel : RelV v u
  get : PySem.W.specialIn K u "__get__" = some none
  cp : PySem.W.copiedNames.contains f = false
structure Meth (K : PySem.W.Frag) (C : Addr) (m : Str) (f : Addr) : Prop where
  at_ : PySem.W.findIn K (.ref C) m = some (some (.ref f))
  fn : PySem.W.isFn K (.ref f) = true
  kp : PySem.W.keepIn K (.ref f) = true
section
variable {X : Cx} {pins : List (Addr × Obj)} {σ : St} {H : Hp} {s : Shared} {a C dx : Addr} {fs : List (Str × V)} {f : Str} {v : V} {A : Around} {E : Value → Shared → Prop}
theorem Inv.made (I : Inv X pins σ H s) : Inv X pins σ (upd (upd H s.heap.objs.size (.own (s.heap.objs.size + 1))) (s.heap.objs.size + 1) (.ins C s.heap.objs.size []))
    { s with heap := (s.heap.push PySem.W.emptyDict).push (PySem.W.instObj C s.heap.objs.size) } := by
  have e1 : (s.heap.push PySem.W.emptyDict).get? s.heap.objs.size = some PySem.W.emptyDict := Heap.get?_push_size s.heap rfl
  have e2 : ((s.heap.push PySem.W.emptyDict).push (PySem.W.instObj C s.heap.objs.size)).get? (s.heap.objs.size + 1) = some (PySem.W.instObj C s.heap.objs.size) := by
    have := Heap.get?_push_size (s.heap.push PySem.W.emptyDict) (o := PySem.W.instObj C s.heap.objs.size) rfl
    rwa [Heap.size_push] at this
  have e3 : (s.heap.push PySem.W.emptyDict).Ns s.heap.objs.size (fun _ => none) := ⟨PySem.W.emptyDict, #[], _, e1, rfl, (fun e he => absurd he (by simp)), fun _ => rfl⟩
  have I1 := I.laid (a := s.heap.objs.size) (o := .own (s.heap.objs.size + 1)) (h' := s.heap.push PySem.W.emptyDict) (t' := s.toks) (fun b u q => Heap.get?_push_of_some _ q) (Nat.le_refl _) ⟨_, e1⟩
  refine I1.laid (a := s.heap.objs.size + 1) (o := .ins C s.heap.objs.size []) (t' := s.toks) (fun b u q => Heap.get?_push_of_some _ q) (Nat.le_of_eq (Heap.size_push _ _)) ?_
  have ne : s.heap.objs.size ≠ s.heap.objs.size + 1 := Nat.ne_of_lt (Nat.lt_succ_self _)
  refine ⟨by rw [upd_ne ne, upd_same], Nat.zero_le _, ne, e2, fun _ => none, (Heap.Ns1.of_empty e3).at fun o q => Heap.get?_push_of_some _ q, fun _ => True.intro, fun y hy => absurd rfl hy⟩
end
section
variable {X : Cx} {o e value : Expr} {f : Str} {pos pos' tpos : Pos} {ta tv : TE}
end
section
variable {X : Cx} {pins : List (Addr × Obj)} {σ : St} {H : Hp} {s : Shared} {A : Around} {E : Value → Shared → Prop} {Q : Value → Shared → Prop} {c : Value} {b : Bool}
inductive TyOf (K : PySem.W.Frag) (H : Hp) : V → Value → Prop where
  | non : TyOf K H .non (.type "NoneType")
  | bl (x : Bool) : TyOf K H (.bl x) (.type "bool")
  | int (i : Int) : TyOf K H (.int i) (.type "int")
  | str (x : Str) : TyOf K H (.str x) (.type "str")
  | flt (x : UInt64) : TyOf K H (.flt x) (.type "float")
  | lst {a : Addr} {xs : List V} (e : H a = some (.lst xs)) : TyOf K H (.ref a) (.type "list")
  | frz {a : Addr} {o : Obj} {xs : List V} (e : H a = some (.frz o (.lst xs))) : TyOf K H (.ref a) (.type "list")
  | tup {a : Addr} {xs : List V} (e : H a = some (.tup xs)) : TyOf K H (.ref a) (.type "tuple")
  | dK {a : Addr} {kvs : List (Key × V)} (e : H a = some (.dK kvs)) : TyOf K H (.ref a) (.type "dict")
  | dT {a : Addr} {kvs : List (List Key × V)} (e : H a = some (.dT kvs)) : TyOf K H (.ref a) (.type "dict")
  | ins {a C dx : Addr} {fs : List (Str × V)} (e : H a = some (.ins C dx fs)) (cl : Cls K C) (ha : PySem.W.findIn K (.ref C) "__class__" = some (some (.builtin "object.__class__")))
      (hn : PySem.W.specialIn K (.builtin "object.__class__") "__get__" = some (some (.builtin "getset_descriptor.__get__"))) (htk : PySem.W.takesIn K (.builtin "object.__class__") = some true)
      (hm : PySem.W.mroIn K C (.type "object") = some true) : TyOf K H (.ref a) (.ref C)
theorem isinst_ok {x : V} {u t : Value} (I : Inv X pins σ H s) (rx : RelV x u) (ty : TyOf X.K H x t) (e : PySem.W.kitOne X.K t c = some b) (h : ∀ tk, Q (.bool b) { s with toks := tk }) :
    wpAny (model X.prog X.w) A (call (.builtin "isinstance") [u, c]) Q E s := by
  cases ty with
  | non => cases (show u = Value.none from rx); exact PySem.W.kia_one PySem.W.kitx_none I.kIn True.intro e (fun z => nomatch z) h
  | bl y => cases (show u = Value.bool y from rx); exact PySem.W.kia_one PySem.W.kitx_bool I.kIn True.intro e (fun z => nomatch z) h
  | int i => obtain ⟨t, q⟩ := (show ∃ t, u = Value.int i t from rx); cases q; exact PySem.W.kia_one PySem.W.kitx_int I.kIn True.intro e (fun z => nomatch z) h
  | str y => obtain ⟨t, q⟩ := (show ∃ t, u = Value.str y t from rx); cases q; exact PySem.W.kia_one PySem.W.kitx_str I.kIn True.intro e (fun z => nomatch z) h
  | flt y => obtain ⟨t, q⟩ := (show ∃ t, u = Value.float y t from rx); cases q; exact PySem.W.kia_one PySem.W.kitx_float I.kIn True.intro e (fun z => nomatch z) h
  | @lst a xs ea =>
    cases (show u = Value.ref a from rx)
    obtain ⟨_, _, n, _, h1⟩ := (show ObjOk X.prog X.w H s.heap a (.lst xs) from I.hok a _ ea)
    exact PySem.W.kia_one PySem.W.kitx_list I.kIn ⟨_, h1, rfl⟩ e (fun z => nomatch z) h
  | @frz a ob xs ea =>
    cases (show u = Value.ref a from rx)
    obtain ⟨_, _, _, n, _, h1⟩ := (show ObjOk X.prog X.w H s.heap a (.frz ob (.lst xs)) from I.hok a _ ea)
    exact PySem.W.kia_one PySem.W.kitx_list I.kIn ⟨_, h1, rfl⟩ e (fun z => nomatch z) h
  | @tup a xs ea =>
    cases (show u = Value.ref a from rx)
    obtain ⟨_, _, _, p⟩ := (show ObjOk X.prog X.w H s.heap a (.tup xs) from I.hok a _ ea)
    obtain ⟨o, h1, h2, _⟩ := p
    exact PySem.W.kia_one PySem.W.kitx_tuple I.kIn ⟨o, h1, h2⟩ e (fun z => nomatch z) h
  | @dK a kvs ea =>
    cases (show u = Value.ref a from rx)
    obtain ⟨_, _, vs, _, p⟩ := (show ObjOk X.prog X.w H s.heap a (.dK kvs) from I.hok a _ ea)
    obtain ⟨o, es, ep, h1, h2, _⟩ := p
    exact PySem.W.kia_one PySem.W.kitx_dict I.kIn ⟨o, h1, h2.1⟩ e (fun z => nomatch z) h
  | @dT a kvs ea =>
    cases (show u = Value.ref a from rx)
    obtain ⟨_, _, xs, _, o, es, ep, h1, h2, _⟩ := (show ObjOk X.prog X.w H s.heap a (.dT kvs) from I.hok a _ ea)
    exact PySem.W.kia_one PySem.W.kitx_dict I.kIn ⟨o, h1, h2.1⟩ e (fun z => nomatch z) h
  | @ins a C dx fs ea cl ha hn htk hm =>
    cases (show u = Value.ref a from rx)
    obtain ⟨mA, O, _⟩ := ins_get I.hok ea
    obtain ⟨od, J, _⟩ := O.look
    exact PySem.W.kia_one (PySem.W.kitx_own (cl.get _) cl.hd ha hn htk hm) I.kIn J e (fun z => nomatch z) h
end
end L2
namespace L2
open PySem PySem.Spec PyProof.Rows
structure Room (k : Nat) (A : Around) : Prop where
  hd : A.handled = none
  dp : A.depth + 3 * k + 5 < recursionLimit
  un : A.units + 16 * k + 200 < cLine
theorem Room.mono {j k : Nat} {A : Around} (r : Room k A) (h : j ≤ k) : Room j A := ⟨r.hd, by have := r.dp; omega, by have := r.un; omega⟩
theorem Room.deeper {k : Nat} {A : Around} (r : Room (k + 1) A) (env : Env) : Room k (A.deeper env) :=
  ⟨r.hd, by have := r.dp; show A.depth + 1 + 3 * k + 5 < _; omega, by have := r.un; show A.units + 3 + 16 * k + 200 < _; omega⟩
theorem Room.in1 {k : Nat} {A : Around} (r : Room (k + 1) A) : Room k A.in1 :=
  ⟨r.hd, by have := r.dp; show A.depth + 3 * k + 5 < _; omega, by have := r.un; show A.units + 1 + 16 * k + 200 < _; omega⟩
theorem Room.depth {k : Nat} {A : Around} (r : Room k A) : A.depth < recursionLimit := by have := r.dp; omega
theorem Room.units {k : Nat} {A : Around} (r : Room k A) : A.units + 64 < cLine := by have := r.un; omega
def tNil : TA := fun _ H Q => Q [] H
def tCons (ta : TE) (tr : TA) : TA := fun σ H Q => ta σ H fun x H1 => tr σ H1 fun xs H2 => Q (x :: xs) H2
section
variable {X : Cx} {e : Expr} {es : List Expr} {te : TE} {t : TA} {pos : Pos}
theorem pa_nil : PA X [] tNil := fun _ _ _ _ H Q I h => Calls.spliced_nil ⟨[], H, I, .nil, h⟩
theorem pa_cons (ha : PE X e te) (hr : PA X es t) (hs : starEach (e :: es) X.env = (false, eval e X.env) :: starEach es X.env := by rfl) : PA X (e :: es) (tCons te t) := by
  intro pos pins s σ H Q I h
  rw [hs]
  show wpAny _ _ (spliced ((false, eval e X.env) :: backTo pos (starEach es X.env))) _ _ s
  refine Calls.spliced_cons (thn (ha pins s σ H _ I h) fun u s1 ⟨x, H1, I1, r1, q1⟩ => ?_)
  exact thn (hr pos pins s1 σ H1 _ I1 q1) fun us s2 ⟨xs, H2, I2, r2, q2⟩ => ⟨x :: xs, H2, I2, .cons r1 r2, q2⟩
end
abbrev Sp := List V → Hp → VK → XK → Prop
abbrev CXT := List Env → Hp → Shared → XK → Value → Shared → Prop
structure Env0 (P : Program) (w : World) (K : PySem.W.Frag) (mg : Str → Option Value) (base : Heap) (A : Around) (outer : List Env) (s : Shared) (H : Hp) : Prop where
  frames : A.frames = some outer
  mod : Mod K mg base
  bs : ∀ b o, base.get? b = some o → s.heap.get? b = some o ∧ H b = none
  bsz : base.objs.size ≤ s.heap.objs.size
  funs : s.heap.FunFrames base outer
  frf : ∀ b ∈ frs outer, H b = none
  hok : HOk P w H s.heap
  bare : AllBare s.gens
def CE (outer : List Env) (P : Program) (w : World) (H : Hp) (s : Shared) (Q : VK) (u : Value) (s' : Shared) : Prop :=
  ∃ v H', s'.os = s.os ∧ AllBare s'.gens ∧ Un (frs outer) [] H H' s.heap s'.heap ∧ HOk P w H' s'.heap ∧ RelV v u ∧ Q v H'
def CR (CX : CXT) (outer : List Env) (P : Program) (w : World) (H : Hp) (s : Shared) (Q : VK) (E : XK) (r : Result) (s' : Shared) : Prop :=
  match r with
  | .ok (.ret u) => CE outer P w H s Q u s'
  | .ok _ => False
  | .error e => CX outer H s E e s'
structure FnOk (P : Program) (w : World) (K : PySem.W.Frag) (mg : Str → Option Value) (base : Heap) (CX : CXT) (k : Nat) (f : Addr) (fd : FuncData) (ps : List Str) (sp : Sp) : Prop where
  len : ∀ vs H Q E, sp vs H Q E → vs.length = ps.length
  run : ∀ (A : Around) (outer : List Env) (s : Shared) (H : Hp) (args : Args) (us : List Value) (vs : List V) (Q : VK) (E : XK), Room k A → Env0 P w K mg base A outer s H → BindsTo s fd args (ps.zip us) → Vals vs us → sp vs H Q E →
    codeAny (model P w) A (.call (.ref f) args) (CR CX outer P w H s Q E) s
theorem FnOk.mono {P : Program} {w : World} {K : PySem.W.Frag} {mg : Str → Option Value} {base : Heap} {CX : CXT} {j k : Nat} {f : Addr} {fd : FuncData} {ps : List Str} {sp : Sp} (F : FnOk P w K mg base CX j f fd ps sp) (h : j ≤ k) :
    FnOk P w K mg base CX k f fd ps sp := ⟨F.len, fun A outer s H args us vs Q E hr => F.run A outer s H args us vs Q E (hr.mono h)⟩
theorem Env0.in1 {P : Program} {w : World} {K : PySem.W.Frag} {mg : Str → Option Value} {base : Heap} {A : Around} {outer : List Env} {s : Shared} {H : Hp} (e : Env0 P w K mg base A outer s H) :
    Env0 P w K mg base A.in1 outer s H := ⟨e.frames, e.mod, e.bs, e.bsz, e.funs, e.frf, e.hok, e.bare⟩
section
variable {X : Cx} {pins : List (Addr × Obj)} {σ : St} {H : Hp} {s s' : Shared}
theorem Inv.env0 (I : Inv X pins σ H s) : Env0 X.prog X.w X.K X.mg X.base X.A X.stack s H :=
  ⟨I.ok.frames, I.ok.mod, I.bs, Nat.le_trans I.ok.bsz I.sz, I.stack, I.stkFree, I.hok, I.bare⟩
theorem Inv.after {Q : VK} {u : Value} (I : Inv X pins σ H s) (h : CE X.stack X.prog X.w H s Q u s') : EP X pins σ Q u s' := by
  obtain ⟨v, H', os, bare, un, hok, r, q⟩ := h
  obtain ⟨hh, g, d, t, os'⟩ := s'
  obtain rfl : os' = s.os := os
  exact ⟨v, H', I.call (h' := hh) (g' := g) (d' := d) (t' := t) (ch := []) un hok bare (fun b z => absurd z (by simp)), r, q⟩
end
def tCall (sp : Sp) (dvs : List V) (E : XK) (t : TA) : TE := fun σ H Q => t σ H fun vs H1 => sp (vs ++ dvs) H1 Q E
def Binds (K : PySem.W.Frag) (fd : FuncData) (ps : List Str) (ds : List Value) : Prop :=
  ∀ (s : Shared) (us : List Value), K.In s.heap → (us ++ ds).length = ps.length → BindsTo s fd ⟨us, []⟩ (ps.zip (us ++ ds))
theorem Binds.all {K : PySem.W.Frag} {fd : FuncData} {ps : List Str} (h : ∀ us : List Value, us.length = ps.length → bindArgs fd ⟨us, []⟩ = pure (ps.zip us)) : Binds K fd ps [] := fun s us _ hl => by
  rw [List.append_nil] at hl ⊢
  exact .of_eq (h us hl)
def Passes (CX : CXT) (X : Cx) (E : XK) : Prop := ∀ (pins : List (Addr × Obj)) (σ : St) (H : Hp) (s : Shared) (e : Value) (s' : Shared), Inv X pins σ H s → CX X.stack H s E e s' → X.xe e s'
section
variable {X : Cx} {CX : CXT} {k : Nat} {f C : Addr} {fd : FuncData} {ps : List Str} {sp : Sp} {dvs : List V} {ds : List Value} {E : XK} {x m : Str} {p pos apos : Pos} {e o : Expr} {es : List Expr} {ta : TE} {t : TA}
theorem run_fn {pins : List (Addr × Obj)} {σ : St} {H : Hp} {s : Shared} {Q : VK} {us : List Value} {vs : List V} (F : FnOk X.prog X.w X.K X.mg X.base CX k f fd ps sp) (hr : Room k X.A) (hb : Binds X.K fd ps ds) (hd : Vals dvs ds) (hx : Passes CX X E)
    (I : Inv X pins σ H s) (r : Vals vs us) (h : sp (vs ++ dvs) H Q E) : wpAny (model X.prog X.w) X.A (call (.ref f) us) (EP X pins σ Q) X.xe s := by
  have r2 : Vals (vs ++ dvs) (us ++ ds) := r.append hd
  have hl : (us ++ ds).length = ps.length := by rw [← r2.length]; exact F.len _ _ _ _ h
  refine wpAny_call (codeAny_mono (F.run X.A X.stack s H ⟨us, []⟩ (us ++ ds) (vs ++ dvs) Q E hr I.env0 (hb s us I.kIn hl) r2 h) fun r s' hq => ?_)
  cases r with
  | error e => exact hx pins σ H s e s' I hq
  | ok fl =>
    cases fl with
    | ret u => exact I.after hq
    | next => exact False.elim hq
    | brk => exact False.elim hq
    | cont => exact False.elim hq
theorem pe_call (F : FnOk X.prog X.w X.K X.mg X.base CX k f fd ps sp) (hr : Room k X.A) (hg : Gl X x) (hm : X.mg x = some (.ref f)) (hk : PySem.W.keepIn X.K (.ref f) = true) (hb : Binds X.K fd ps ds) (hd : Vals dvs ds) (hx : Passes CX X E)
    (ha : PA X (e :: es) t) (hdb : (x == ("__debug__" : Str)) = false := by decide) (he : starEach (e :: es) X.env = (false, eval e X.env) :: starEach es X.env := by rfl) (hpl : (backTo pos (starEach es X.env)).any (·.1) = false := by rfl) :
    PE X (.Call (.Name x p) (e :: es) [] pos) (tCall sp dvs E t) := by
  intro pins s σ H Q I h
  refine wpAny_Call_Name_kw (ld_glob I hg hm ?_ hdb)
  refine PySem.W.callWith_K (h₀ := X.base) I.ok.mod.kin hk (thn (ha pos pins s σ H _ I h) fun us s1 ⟨vs, H1, I1, r, q⟩ => ⟨I1.kIn, ?_⟩) he hpl
  exact run_fn F hr hb hd hx I1 r q
structure Mk (K : PySem.W.Frag) (C f : Addr) : Prop where
  makes : PySem.W.makesIn K C = true
  init : PySem.W.findIn K (.ref C) "__init__" = some (some (.ref f))
  fn : PySem.W.isFn K (.ref f) = true
  kp : PySem.W.keepIn K (.ref C) = true
end
section
variable {X : Cx} {CX : CXT} {k : Nat} {f C : Addr} {fd : FuncData} {ps ks : List Str} {sp : Sp} {E : XK} {x m : Str} {p pos apos kpos : Pos} {e o : Expr} {es : List Expr} {kws : List Keyword} {te ta : TE} {t tk : TA} {nm : Option Str}
structure KBinds (K : PySem.W.Frag) (fd : FuncData) (ps ks : List Str) (g : List Value → List Value → List Value) (gV : List V → List V → List V) : Prop where
  to : ∀ (s : Shared) (us ws : List Value), K.In s.heap → (g us ws).length = ps.length → BindsTo s fd ⟨us, ks.zip ws⟩ (ps.zip (g us ws))
  rel : ∀ {vs : List V} {us : List Value} {zs : List V} {ws : List Value}, Vals vs us → Vals zs ws → Vals (gV vs zs) (g us ws)
variable {g : List Value → List Value → List Value} {gV : List V → List V → List V}
end
structure FnScope (N P : List Str) (sc : Scope) : Prop where
  kind : sc.kind = .function
  co : sc.isCoroutine = false
  gen : sc.isGenerator = false
  nd : N.Nodup
  pre : N.take P.length = P
  par : ∀ x ∈ P, sc.names.lookup x = some .local ∨ sc.names.lookup x = some .cell
  nofree : ∀ y ∈ sc.names, y.2 ≠ .free
theorem bindL_out {kindOf : Str → Option NameKind} {x : Str} : ∀ {binds : List (Str × Value)} {m : Str → Option Value}, (∀ v, (x, v) ∉ binds) → bindL kindOf binds m x = m x
  | [], _, _ => rfl
  | (n, v) :: r, m, h => by
    unfold bindL
    rw [bindL_out fun w hw => h w (List.mem_cons_of_mem _ hw)]
    split
    · have : x ≠ n := by rintro rfl; exact h v List.mem_cons_self
      simp [this]
    · rfl
theorem bindC_out {kindOf : Str → Option NameKind} {x : Str} : ∀ {binds : List (Str × Value)} {m : Str → Option Value}, (∀ v, (x, v) ∉ binds) → bindC kindOf binds m x = m x
  | [], _, _ => rfl
  | (n, v) :: r, m, h => by
    unfold bindC
    rw [bindC_out fun w hw => h w (List.mem_cons_of_mem _ hw)]
    split
    · rfl
    · have : x ≠ n := by rintro rfl; exact h v List.mem_cons_self
      simp [this]
theorem bindL_get {kindOf : Str → Option NameKind} {x : Str} {v : Value} : ∀ {P : List Str} {vs : List Value} {i : Nat} {m : Str → Option Value}, P.Nodup → P[i]? = some x → vs[i]? = some v → kindOf x = some .local →
    bindL kindOf (P.zip vs) m x = some v
  | [], _, _, _, _, h, _, _ => by simp at h
  | _ :: _, [], _, _, _, _, h, _ => by simp at h
  | p :: P, w :: vs, 0, m, nd, h1, h2, hk => by
    simp at h1 h2; subst h1; subst h2
    show bindL kindOf ((p, w) :: P.zip vs) m p = _
    unfold bindL
    rw [bindL_out fun v hv => (List.nodup_cons.mp nd).1 (List.of_mem_zip hv).1, if_pos hk]
    simp
  | p :: P, w :: vs, i + 1, m, nd, h1, h2, hk => by
    show bindL kindOf ((p, w) :: P.zip vs) m x = _
    unfold bindL
    exact bindL_get (i := i) (List.nodup_cons.mp nd).2 (by simpa using h1) (by simpa using h2) hk
theorem bindC_get {kindOf : Str → Option NameKind} {x : Str} {v : Value} : ∀ {P : List Str} {vs : List Value} {i : Nat} {m : Str → Option Value}, P.Nodup → P[i]? = some x → vs[i]? = some v → kindOf x ≠ some .local →
    bindC kindOf (P.zip vs) m x = some v
  | [], _, _, _, _, h, _, _ => by simp at h
  | _ :: _, [], _, _, _, _, h, _ => by simp at h
  | p :: P, w :: vs, 0, m, nd, h1, h2, hk => by
    simp at h1 h2; subst h1; subst h2
    show bindC kindOf ((p, w) :: P.zip vs) m p = _
    unfold bindC
    rw [bindC_out fun v hv => (List.nodup_cons.mp nd).1 (List.of_mem_zip hv).1, if_neg hk]
    simp
  | p :: P, w :: vs, i + 1, m, nd, h1, h2, hk => by
    show bindC kindOf ((p, w) :: P.zip vs) m x = _
    unfold bindC
    exact bindC_get (i := i) (List.nodup_cons.mp nd).2 (by simpa using h1) (by simpa using h2) hk
def start (N : List Str) (vs : List V) : St := vs.map some ++ List.replicate (N.length - vs.length) none
def cxOf (CX : CXT) (P : Program) (w : World) (K : PySem.W.Frag) (mg : Str → Option Value) (base : Heap) (N : List Str) (qual : Str) (scope : Scope) (f : Addr) (cd : Value) (A : Around) (outer : List Env) (s : Shared) (H : Hp) (E : XK) : Cx where
  prog := P
  w := w
  K := K
  mg := mg
  base := base
  A := A.deeper (envOfC qual scope s.heap.objs.size f cd)
  N := N
  s₀ := s
  H₀ := H
  env := envOfC qual scope s.heap.objs.size f cd
  outer := outer
  stack := envOfC qual scope s.heap.objs.size f cd :: outer
  ex := []
  calm := true
  fn := fun _ => true
  pn := []
  xe := fun e s' => wpAny (model P w) (A.deeper (envOfC qual scope s.heap.objs.size f cd)) (leaving (envOfC qual scope s.heap.objs.size f cd) e) (fun _ s'' => CX outer H s E e s'') (fun e' s'' => CX outer H s E e' s'') s'
theorem cell_has {sc : Scope} {n : Nat} {x : Str} (h : sc.names.lookup x = some .cell) : ∃ c, (cellsFrom n sc.names []).lookup x = some c := by
  have q := PySem.W.cellsFrom_some sc.names n [] (.inl h)
  exact Option.isSome_iff_exists.mp q
theorem inv_start {CX : CXT} {P : Program} {w : World} {K : PySem.W.Frag} {mg : Str → Option Value} {base : Heap} {N ps : List Str} {qual : Str} {scope : Scope} {f : Addr} {cd : Value} {A : Around} {outer : List Env} {s s1 : Shared} {H : Hp} {E : XK} {us : List Value} {vs : List V}
    (S : FnScope N ps scope) (hd : A.handled = none) (e0 : Env0 P w K mg base A outer s H) (hl : vs.length = ps.length) (r : Vals vs us)
    (x : InCallC s s.heap.objs.size (bindL (envOfC qual scope s.heap.objs.size f cd).kindOf (ps.zip us) fun _ => none) (cellsFrom (s.heap.objs.size + 1) scope.names []) (bindC (envOfC qual scope s.heap.objs.size f cd).kindOf (ps.zip us) fun _ => none) s1) :
    Inv (cxOf CX P w K mg base N qual scope f cd A outer s H E) [] (start N vs) H s1 := by
  have hpl : ps.length ≤ N.length := by have := congrArg List.length S.pre; rw [List.length_take] at this; omega
  obtain ⟨h1, tk, rfl, hk⟩ := x.done
  have noA : ∀ b : Addr, b ∉ (cxOf CX P w K mg base N qual scope f cd A outer s H E).ex := fun b z => absurd (show b ∈ ([] : List Addr) from z) (by simp)
  refine ⟨⟨e0.mod, S.kind, rfl, rfl, Nat.le_refl _, fun y z c h1 h2 => ?_, fun y hy => ?_, fun y c _ h => ?_, fun _ => hd, Around.frames_deeper e0.frames, .inr ⟨rfl, rfl⟩, fun b z => absurd z (noA b), e0.bs, e0.bsz, fun b _ _ => noA b, fun b z => absurd z (noA b), e0.funs, e0.frf⟩,
    rfl, e0.bare, Un.kept hk, ⟨_, x.toInCall.ns, fun i y v h1 h2 h3 => ?_⟩, fun y c h => ⟨_, x.cell y c h⟩, e0.hok.fresh (Nat.le_refl _), fun y c h => ?_, fun p hp => absurd (show p ∈ ([] : List (Addr × Obj)) from hp) (by simp), e0.hok.kept hk, ?_⟩
  · exact name_of_addr x.apart (PySem.mem_of_lookup h1) (PySem.mem_of_lookup h2)
  · have hy : scope.names.lookup y = some .cell ∨ scope.names.lookup y = some .free := hy
    rcases hy with hy | hy
    · exact cell_has hy
    · exact absurd rfl (S.nofree _ (PySem.mem_of_lookup hy))
  · exact Nat.le_of_lt (x.above y c (PySem.mem_of_lookup h))
  · have hi : i < vs.length := by
      unfold start at h2
      by_cases hi : i < vs.length
      · exact hi
      · rw [List.getElem?_append_right (by simpa using hi)] at h2
        rw [List.getElem?_replicate] at h2
        split at h2 <;> cases h2
    have ha : vs[i]? = some v := by
      unfold start at h2
      rw [List.getElem?_append_left (by simpa using hi), List.getElem?_map] at h2
      cases e : vs[i]? with
      | none => rw [e] at h2; cases h2
      | some a => rw [e] at h2; cases h2; rfl
    obtain ⟨u, hu, rv⟩ := r.get ha
    have hp : ps[i]? = some y := by
      rw [← S.pre, List.getElem?_take_of_lt (by omega)]; exact h1
    have ndP : ps.Nodup := by rw [← S.pre]; exact S.nd.sublist (List.take_sublist _ _)
    refine ⟨u, rv, ?_⟩
    rcases S.par y (List.mem_of_getElem? hp) with k | k
    · exact .inl ⟨k, bindL_get ndP hp hu k⟩
    · obtain ⟨c, e⟩ := cell_has (n := s.heap.objs.size + 1) k
      refine .inr ⟨.inl k, c, e, ?_⟩
      have q := x.cell y c e
      rw [bindC_get ndP hp hu (by show scope.names.lookup y ≠ _; rw [k]; decide)] at q
      exact q
  · exact e0.hok.fresh (Nat.le_of_lt (x.above y c (PySem.mem_of_lookup h)))
  · unfold start
    show _ = N.length
    rw [List.length_append, List.length_map, List.length_replicate]
    omega
theorem fn_of {CX : CXT} {P : Program} {w : World} {K : PySem.W.Frag} {mg : Str → Option Value} {base : Heap} {k : Nat} {f : Addr} {name qual : Str} {params : Arguments} {body : List Stmt} {scope : Scope} {dV kV doc pm cdv ct oc : Value} {an od : Option Addr}
    {osl : Array (Option Value)} {N ps : List Str} {sp : Sp} (lk : K.lookup f = some ⟨oc, od, .func (PySem.W.fnOf name qual params body scope dV kV doc pm an cdv ct), osl⟩) (hcd : PySem.W.codeIn K cdv qual = true) (S : FnScope N ps scope)
    (len : ∀ vs H Q E, sp vs H Q E → vs.length = ps.length)
    (hbody : ∀ (A : Around) (outer : List Env) (s : Shared) (H : Hp) (vs : List V) (Q : VK) (E : XK), Room k (A.deeper (envOfC qual scope s.heap.objs.size f cdv)) → sp vs H Q E →
      ∃ t, PSs (cxOf CX P w K mg base N qual scope f cdv A outer s H E) body t ∧ t { nx := fun _ H' => Q .non H', rt := Q } (start N vs) H) :
    FnOk P w K mg base CX (k + 1) f (PySem.W.fnOf name qual params body scope dV kV doc pm an cdv ct) ps sp := by
  refine ⟨len, fun A outer s H args us vs Q E hr e0 hb r hsp => ?_⟩
  have hl := len _ _ _ _ hsp
  have KX : K.In s.heap := e0.mod.kin.keeps fun b o e => (e0.bs b o e).1
  have lim : s.heap.NoLimit := e0.mod.nolimit.keeps fun b o e => (e0.bs b o e).1
  have hkind : ∀ y ∈ ps.zip us, scope.names.lookup y.1 = some .local ∨ (scope.names.lookup y.1 = some .cell ∧ ((cellsFrom (s.heap.objs.size + 1) scope.names []).lookup y.1).isSome = true) := fun ⟨n, v⟩ hy => by
    rcases S.par n (List.of_mem_zip hy).1 with q | q
    · exact .inl q
    · exact .inr ⟨q, PySem.W.cellsFrom_some _ _ _ (.inl q)⟩
  refine codeAny_call_function hr.depth (KX _ _ lk) rfl S.co S.gen rfl (PySem.W.codeRec_of KX hcd) (hb _ _ _ _ ?_)
  refine wpAny_newFunctionEnv_cells S.kind hkind fun env he s1 x => ?_
  subst he
  refine ⟨lim.keeps x.toInCall.keep, codeAny_func ?_⟩
  obtain ⟨t, ht, hq⟩ := hbody A outer s H vs Q E (hr.deeper _) hsp
  have I : Inv (cxOf CX P w K mg base N qual scope f cdv A outer s H E) [] (start N vs) H s1 := inv_start S hr.hd e0 hl r x
  refine wpAny_mono (ht [] s1 (start N vs) H _ I hq) (fun fl s' hs => ?_) fun e s' hs => hs
  have fin : ∀ {σ' : St} {H' : Hp} {v : V} {u : Value}, Inv (cxOf CX P w K mg base N qual scope f cdv A outer s H E) [] σ' H' s' → RelV v u → Q v H' → CE outer P w H s Q u s' :=
    fun {σ' H' v u} J rv q => ⟨v, H', J.os, J.bare, J.base, J.hok, rv, q⟩
  cases fl with
  | ret u =>
    obtain ⟨v, σ', H', J, rv, q⟩ := hs
    exact fin J rv q
  | next =>
    obtain ⟨σ', H', J, q⟩ := hs
    exact fin (v := V.non) (u := Value.none) J rfl q
  | brk =>
    obtain ⟨_, _, _, q⟩ := hs
    exact False.elim q
  | cont =>
    obtain ⟨_, _, _, q⟩ := hs
    exact False.elim q
end L2
namespace L2
open PySem PySem.Spec PyProof.Rows
section
variable {X : Cx} {x : Str} {p pos : Pos} {e : Expr} {es : List Expr} {t : TA} {id T : String} {r : List V → Hp → VK → Prop}
def tCB (r : List V → Hp → VK → Prop) (t : TA) : TE := fun σ H Q => t σ H fun vs H1 => r vs H1 Q
theorem pe_callB (hc : CallR X (.builtin id) r) (hg : Gl X x) (hm : X.mg x = none) (hv : bootBuiltins x = some (.builtin id)) (ha : PA X (e :: es) t) (hn : x ≠ "__name__" := by decide) (hdb : (x == ("__debug__" : Str)) = false := by decide)
    (he : starEach (e :: es) X.env = (false, eval e X.env) :: starEach es X.env := by rfl) (hpl : (backTo pos (starEach es X.env)).any (·.1) = false := by rfl) : PE X (.Call (.Name x p) (e :: es) [] pos) (tCB r t) := by
  intro pins s σ H Q I h
  refine wpAny_Call_Name_kw (ld_blt I hg hm hv ?_ hn hdb)
  exact PyProof.Rows.callWith_builtin1 (thn (ha pos pins s σ H _ I h) fun us s1 ⟨vs, H1, I1, r1, q1⟩ => hc pins s1 σ H1 vs us Q I1 r1 q1) he hpl
theorem pe_callTy (hc : CallR X (.type T) r) (hg : Gl X x) (hm : X.mg x = none) (hv : bootBuiltins x = some (.type T)) (ha : PA X (e :: es) t) (hn : x ≠ "__name__" := by decide) (hdb : (x == ("__debug__" : Str)) = false := by decide)
    (he : starEach (e :: es) X.env = (false, eval e X.env) :: starEach es X.env := by rfl) (hpl : (backTo pos (starEach es X.env)).any (·.1) = false := by rfl) : PE X (.Call (.Name x p) (e :: es) [] pos) (tCB r t) := by
  intro pins s σ H Q I h
  refine wpAny_Call_Name_kw (ld_blt I hg hm hv ?_ hn hdb)
  exact PyProof.Rows.callWith_type1 (thn (ha pos pins s σ H _ I h) fun us s1 ⟨vs, H1, I1, r1, q1⟩ => hc pins s1 σ H1 vs us Q I1 r1 q1) he hpl
end
end L2
namespace HT
open PySem PyProof.Rows
def lexLt : List Int → List Int → Bool
  | [], [] => false
  | [], _ :: _ => true
  | _ :: _, [] => false
  | x :: xs, y :: ys => if x = y then lexLt xs ys else decide (x < y)
theorem lexLt_cons (x y : Int) (xs ys : List Int) : lexLt (x :: xs) (y :: ys) = if x = y then lexLt xs ys else decide (x < y) := rfl
theorem lexLt_nil_nil : lexLt [] [] = false := rfl
theorem lexLt_nil_cons (y : Int) (ys : List Int) : lexLt [] (y :: ys) = true := rfl
theorem lexLt_cons_nil (x : Int) (xs : List Int) : lexLt (x :: xs) [] = false := rfl
theorem eqAt_int (A : Around) (s : Shared) (a : Int) (t : Tok) (c : Int) (u : Tok) : ∃ e, SeqAt.EqAt A s (.int a t) (.int c u) e ∧ (e = true ↔ a = c) :=
  ⟨(a == c), SeqAt.EqAt.int_int a t c u, by simp⟩
section
open PySem.SeqAt
open PySem.AutoSeq1 (wpAny_loadPart')
open PySem.MeetsSeq PySem.MeetsSeq2 PySem.MeetsSeq3
end
section
variable {prog : Program} {w : World} {A : Around} {E : Value → Shared → Prop} {s : Shared}
theorem cat_tup {t b : Addr} {vs ws : List Value} {Q : Value → Shared → Prop} (ht : IsTup s.heap t vs.toArray) (hb : IsTup s.heap b ws.toArray) (hv : vs ≠ [])
    (h1 : ws = [] → Q (.ref t) s) (h2 : ws ≠ [] → Q (.ref s.heap.objs.size) { s with heap := s.heap.push { cls := .type "tuple", data := .seq (vs ++ ws).toArray } })
    (hsz : vs.length + ws.length ≤ sizeLine) : wpAny (model prog w) A (binaryOp .Add (.ref t) (.ref b)) Q E s := by
  obtain ⟨⟨cls, dd, data, sl⟩, ho, hc, n, hd⟩ := id ht
  obtain ⟨⟨cls2, dd2, data2, sl2⟩, ho2, hc2, n2, hd2⟩ := id hb
  simp only at hc hd hc2 hd2
  subst hc hd hc2 hd2
  have e : vs.toArray ++ ws.toArray = (vs ++ ws).toArray := by simp
  by_cases hw : ws = []
  · exact concat_meets ⟨_, ho, rfl⟩ ⟨_, ho2, rfl⟩ noFill_tuple_add seq_tuple_add PySem.F.slot_tuple_add PySem.F.entry_tuple_add (PySem.F.args_tuple_add_2 _ _)
      (tuple_addW1 t b vs.toArray ws.toArray n n2 dd dd2 sl sl2 (by simpa using hv) (by simp [hw])) ⟨ho, ho2, h1 hw⟩
  · refine concat_meets ⟨_, ho, rfl⟩ ⟨_, ho2, rfl⟩ noFill_tuple_add seq_tuple_add PySem.F.slot_tuple_add PySem.F.entry_tuple_add (PySem.F.args_tuple_add_2 _ _)
      (tuple_addW2 t b vs.toArray ws.toArray n n2 dd dd2 sl sl2 (by simpa using hv) (by simpa using hw) (by rw [List.size_toArray, List.size_toArray]; exact hsz)) ⟨ho, ho2, ?_⟩
    rw [e]
    exact h2 hw
def sIx (n d : Nat) : Option Int → Nat
  | none => d
  | some v => if v < 0 then (v + (n : Int)).toNat else min v.toNat n
theorem sIx_none (n d : Nat) : sIx n d none = d := rfl
theorem sIx_nat (n d k : Nat) : sIx n d (some (k : Int)) = min k n := by
  show (if (k : Int) < 0 then ((k : Int) + (n : Int)).toNat else min (k : Int).toNat n) = min k n
  rw [if_neg (by omega), Int.toNat_natCast]
theorem sIx_le (n d : Nat) (hd : d ≤ n) (o : Option Int) : sIx n d o ≤ n := by
  cases o with
  | none => exact hd
  | some v =>
    show (if v < 0 then (v + (n : Int)).toNat else min v.toNat n) ≤ n
    by_cases hv : v < 0
    · rw [if_pos hv]; omega
    · rw [if_neg hv]; exact Nat.min_le_right _ _
theorem clip_eq (v : Int) (n d : Nat) : (if v < 0 then max (v + (n : Int)) 0 else min v (n : Int)) = ((sIx n d (some v) : Nat) : Int) := by
  show (if v < 0 then max (v + (n : Int)) 0 else min v (n : Int)) = (((if v < 0 then (v + (n : Int)).toNat else min v.toNat n) : Nat) : Int)
  by_cases hv : v < 0
  · simp only [if_pos hv]; omega
  · simp only [if_neg hv]; omega
theorem adjust_gen (lo hi : Option Int) (n : Nat) : Builtin.Slice.sliceAdjust lo hi 1 (n : Int) = (((sIx n 0 lo : Nat) : Int), ((sIx n n hi : Nat) : Int)) := by
  have h1 : ¬ ((1 : Int) < 0) := by omega
  unfold Builtin.Slice.sliceAdjust
  simp only [h1, if_false]
  refine Prod.ext ?_ ?_
  · cases lo with
    | none => rfl
    | some v => exact clip_eq v n 0
  · cases hi with
    | none => rfl
    | some v => exact clip_eq v n n
theorem places_gen (i j : Nat) : Builtin.Slice.slicePlaces (i : Int) (j : Int) 1 = j - i := by
  unfold Builtin.Slice.slicePlaces
  have h1 : (1 : Int) > 0 := by omega
  simp only [h1, if_true, Int.ediv_one]
  split <;> omega
theorem slicePart_ {v : Value} {o : Option Int} {Q : Option Int → Shared → Prop} (p : IsPart v o) (h : Q o s) : wpAny (model prog w) A (Builtin.Slice.slicePartIndex v) Q E s := by
  cases p with
  | none => exact slicePart_none h
  | int i t => exact slicePart_int h
theorem sliceApplied_gen {sl : Addr} {vl vu : Value} {lo hi : Option Int} {n : Nat} {Q : Int × Int × Nat → Shared → Prop} (hs : s.heap.IsSliceOf sl vl vu .none) (pl : IsPart vl lo) (pu : IsPart vu hi)
    (h : Q (((sIx n 0 lo : Nat) : Int), 1, sIx n n hi - sIx n 0 lo) s) : wpAny (model prog w) A (Builtin.Slice.sliceApplied (.ref sl) (pure (n : Int))) Q E s := by
  obtain ⟨os, hos, hcs, hds⟩ := id hs
  unfold Builtin.Slice.sliceApplied Builtin.Slice.sliceFields
  refine wpAny_bind (wpAny_bind (wpAny_field hos hds (x := vl) rfl (wpAny_bind (wpAny_field hos hds (x := vu) rfl (wpAny_bind (wpAny_field hos hds (x := .none) rfl (wpAny_pure ?_)))))))
  refine wpAny_bind (slicePart_none ?_)
  show wpAny _ _ (if ((1 : Int) == 0) = true then _ else _) _ _ s
  rw [if_neg (by decide)]
  refine wpAny_bind (slicePart_ pl (wpAny_bind (slicePart_ pu (wpAny_bind (wpAny_pure ?_)))))
  show wpAny _ _ (match Builtin.Slice.sliceAdjust lo hi 1 (n : Int) with | (lo, hi) => pure (lo, (1 : Int), Builtin.Slice.slicePlaces lo hi 1)) _ _ s
  rw [adjust_gen lo hi n]
  show wpAny _ _ (pure (((sIx n 0 lo : Nat) : Int), (1 : Int), Builtin.Slice.slicePlaces ((sIx n 0 lo : Nat) : Int) ((sIx n n hi : Nat) : Int) 1)) _ _ s
  rw [places_gen]
  exact wpAny_pure h
theorem pick_gen (xs : Array Value) (i k : Nat) : ((List.range k).filterMap fun (m : Nat) => xs[((i : Int) + (m : Int) * 1).toNat]?).toArray = ((xs.toList.drop i).take k).toArray := by
  have e : (fun (m : Nat) => xs[((i : Int) + (m : Int) * 1).toNat]?) = fun m => xs[i + m]? := by
    funext m
    have : ((i : Int) + (m : Int) * 1).toNat = i + m := by omega
    rw [this]
  rw [e]
  have := pick_run xs i k
  rw [List.filterMap_map] at this
  have e2 : ((fun x => xs[x]?) ∘ fun x => i + x) = fun m => xs[i + m]? := rfl
  rw [e2] at this
  rw [this]
theorem getItem_tuple_cut {t sl : Addr} {items : Array Value} {vl vu : Value} {lo hi : Option Int} {Q : Value → Shared → Prop} (ht : IsTup s.heap t items) (hs : s.heap.IsSliceOf sl vl vu .none) (pl : IsPart vl lo) (pu : IsPart vu hi)
    (hw : ¬ (sIx items.size 0 lo = 0 ∧ sIx items.size items.size hi = items.size))
    (h : Q (.ref s.heap.objs.size) { s with heap := s.heap.push { cls := .type "tuple", data := .seq ((items.toList.drop (sIx items.size 0 lo)).take (sIx items.size items.size hi - sIx items.size 0 lo)).toArray } })
    (hsz : items.size ≤ sizeLine) : wpAny (model prog w) A (getItem (.ref t) (.ref sl)) Q E s := by
  have htake : sizeOk (.seq ((items.toList.drop (sIx items.size 0 lo)).take (sIx items.size items.size hi - sIx items.size 0 lo)).toArray) := by
    show ((items.toList.drop (sIx items.size 0 lo)).take (sIx items.size items.size hi - sIx items.size 0 lo)).toArray.size ≤ sizeLine
    rw [List.size_toArray, List.length_take, List.length_drop, Array.length_toList]
    omega
  have hj : sIx items.size items.size hi ≤ items.size := sIx_le _ _ (Nat.le_refl _) hi
  obtain ⟨os, hos, hcs, hds⟩ := id hs
  have hTs : s.TypeIs (.ref sl) "slice" := ⟨os, hos, hcs⟩
  unfold getItem
  try with_reducible refine wpAny_holding ?_
  first | refine wpAny_bind (wpAny_pure ?_) | skip
  refine wpAny_bind (wpAny_sequenceKey ht.typeIs (by decide) ?_)
  refine wpAny_bind (wpAny_callSpecial?_slot (name := Str.ofString "__getitem__") ht.typeIs PyProof.Rows.slot_tuple_getitem
    (wpAny_call_entry PyProof.Rows.slot_tuple_getitem ht.typeIs entry_tuple_getitem ?_ (args_tuple_getitem _ _)))
  show wpAny _ _ (Builtin.Tuple.tupleItemsOf (.ref t) >>= _) _ _ s
  refine wpAny_bind (tupleItemsOf_ ht ?_)
  refine wpAny_bind (wpAny_typeOf hTs ?_)
  rw [if_pos (by decide)]
  refine wpAny_bind (sliceApplied_gen hs pl pu ?_)
  have hno : ¬ ((((sIx items.size 0 lo : Nat) : Int) == 0 && (1 : Int) == 1 && (sIx items.size items.size hi - sIx items.size 0 lo) == items.size) = true) := by
    intro q
    rw [Bool.and_eq_true, Bool.and_eq_true] at q
    have q1 : ((sIx items.size 0 lo : Nat) : Int) = 0 := eq_of_beq q.1.1
    have q2 : sIx items.size items.size hi - sIx items.size 0 lo = items.size := eq_of_beq q.2
    exact hw ⟨by omega, by omega⟩
  show wpAny _ _ (if (((sIx items.size 0 lo : Nat) : Int) == 0 && (1 : Int) == 1 && (sIx items.size items.size hi - sIx items.size 0 lo) == items.size) = true then _ else _) _ _ s
  rw [if_neg hno, pick_gen]
  first
    | exact wpAny_bind (m := Builtin.Tuple.tupleExact _) (wpAny_newObj_type (wpAny_pure ⟨_, rfl, wpAny_pure h⟩) htake)
    | exact wpAny_bind (m := Builtin.Tuple.tupleExact _) (wpAny_newObj_type (wpAny_bind (wpAny_pure (wpAny_pure ⟨_, rfl, wpAny_pure h⟩))) htake)
    | exact wpAny_bind (wpAny_bind (m := Builtin.Tuple.tupleExact _) (wpAny_newObj_type (wpAny_pure (wpAny_pure ⟨_, rfl, wpAny_pure h⟩)) htake))
    | exact wpAny_bind (wpAny_bind (m := Builtin.Tuple.tupleExact _) (wpAny_newObj_type (wpAny_pure ⟨_, rfl, wpAny_pure h⟩) htake))
end
end HT
namespace L2
open PySem PySem.Spec PyProof.Rows
abbrev TO := St → Hp → (Option Int → Hp → Prop) → Prop
def PO (X : Cx) (e : Option Expr) (t : TO) : Prop :=
  ∀ (pins : List (Addr × Obj)) (s : Shared) (σ : St) (H : Hp) (Q : Option Int → Hp → Prop), Inv X pins σ H s → t σ H Q →
    wpAny (model X.prog X.w) X.A (evalPart e X.env) (fun u s' => ∃ o H', Inv X pins σ H' s' ∧ IsPart u o ∧ Q o H') X.xe s
def tNoPart : TO := fun _ H Q => Q none H
def tPart (t : TE) : TO := fun σ H Q => t σ H fun x H1 => ∃ i, x = .int i ∧ Q (some i) H1
theorem intsAre_of {ns : List Int} : ∀ {us : List Value}, Vals (ns.map V.int) us → IntsAre us ns := by
  induction ns with
  | nil => intro us r; rw [List.map_nil] at r; cases r; exact .nil
  | cons n ns ih =>
    intro us r
    rw [List.map_cons] at r
    cases r with
    | cons r1 r2 =>
      obtain ⟨t, e⟩ := r1
      subst e
      exact .cons n t (ih r2)
section
variable {X : Cx} {e : Expr} {te : TE} {lo hi : Option Expr} {tl th : TO} {pos p2 : Pos}
theorem po_none : PO X none tNoPart := by
  intro pins s σ H Q I h
  rw [evalPart_none]
  exact wpAny_pure ⟨none, H, I, .none, h⟩
theorem po_some (h : PE X e te) : PO X (some e) (tPart te) := by
  intro pins s σ H Q I hw
  rw [evalPart_some]
  refine thn (h pins s σ H _ I hw) fun u s1 ⟨x, H1, I1, r1, q1⟩ => ?_
  obtain ⟨i, rfl, q⟩ := q1
  obtain ⟨t, rfl⟩ := r1
  exact ⟨some i, H1, I1, .int i t, q⟩
def SlR (X : Cx) (r : V → Option Int → Option Int → Hp → VK → Prop) : Prop :=
  ∀ (pins : List (Addr × Obj)) (s : Shared) (σ : St) (H : Hp) (x : V) (v vl vu : Value) (lo hi : Option Int) (sl : Addr) (Q : VK), Inv X pins σ H s → RelV x v → s.heap.IsSliceOf sl vl vu .none → IsPart vl lo → IsPart vu hi → r x lo hi H Q →
    ∃ T id, typeLookup (.type T) "__getitem__" = pure (some (.builtin id)) ∧ s.TypeIs v T ∧ wpAny (model X.prog X.w) X.A (getItem v (.ref sl)) (EP X pins σ Q) X.xe s
theorem SlR.or {r r' : V → Option Int → Option Int → Hp → VK → Prop} (h : SlR X r) (h' : SlR X r') : SlR X (fun x lo hi H Q => r x lo hi H Q ∨ r' x lo hi H Q) := by
  intro pins s σ H x v vl vu lo hi sl Q I rx hs pl pu q
  rcases q with q | q
  · exact h pins s σ H x v vl vu lo hi sl Q I rx hs pl pu q
  · exact h' pins s σ H x v vl vu lo hi sl Q I rx hs pl pu q
def tSl (r : V → Option Int → Option Int → Hp → VK → Prop) (te : TE) (tl th : TO) : TE := fun σ H Q => te σ H fun x H1 => tl σ H1 fun l H2 => th σ H2 fun u H3 => r x l u H3 Q
theorem pe_slice {r : V → Option Int → Option Int → Hp → VK → Prop} (hr : SlR X r) (he : PE X e te) (hl : PO X lo tl) (hu : PO X hi th) : PE X (.Subscript e (.Slice lo hi none p2) pos) (tSl r te tl th) := by
  intro pins s σ H Q I h
  refine Subscript_ (thn (he pins s σ H _ I h) fun v s1 ⟨x, H1, I1, r1, q1⟩ => ?_)
  refine wpAny_Slice (thn (hl pins s1 σ H1 _ I1 q1) fun vl s2 ⟨l, H2, I2, pl, q2⟩ => thn (hu pins s2 σ H2 _ I2 q2) fun vu s3 ⟨u, H3, I3, pu, q3⟩ => ?_)
  rw [evalPart_none]
  refine wpAny_pure ?_
  have I4 : Inv X pins σ H3 { s3 with heap := s3.heap.push { cls := .type "slice", data := .fields #[vl, vu, .none] } } := I3.kept (t' := s3.toks) fun b ob q => Heap.get?_push_of_some _ q
  obtain ⟨T, id, hT, ht, hg⟩ := hr pins { s3 with heap := s3.heap.push { cls := .type "slice", data := .fields #[vl, vu, .none] } } σ H3 x v vl vu l u s3.heap.objs.size Q I4 r1 (Heap.IsSliceOf.new ..) pl pu q3
  show wpAny (model X.prog X.w) X.A (subscriptTail e (.Slice lo hi none p2) v (.ref s3.heap.objs.size)) (EP X pins σ Q) X.xe { s3 with heap := s3.heap.push { cls := .type "slice", data := .fields #[vl, vu, .none] } }
  exact tail_any (ops := [.ref s3.heap.objs.size, v]) ht hT hg (by with_unfolding_all rfl)
def cutV (xs : List V) (lo hi : Option Int) : List V := (xs.drop (HT.sIx xs.length 0 lo)).take (HT.sIx xs.length xs.length hi - HT.sIx xs.length 0 lo)
theorem cutV_length (xs : List V) (lo hi : Option Int) : (cutV xs lo hi).length ≤ xs.length := by
  unfold cutV
  rw [List.length_take, List.length_drop]
  omega
def rSlT (K : PySem.W.Frag) : V → Option Int → Option Int → Hp → VK → Prop := fun x lo hi H Q => ∃ a xs, x = .ref a ∧ SqT K H a xs ∧
  ¬ (HT.sIx xs.length 0 lo = 0 ∧ HT.sIx xs.length xs.length hi = xs.length) ∧ ∀ p, H p = none → Q (.ref p) (upd H p (.tup (cutV xs lo hi)))
theorem sl_tup : SlR X (rSlT X.K) := by
  intro pins s σ H x v vl vu lo hi sl Q I rx hs pl pu h
  obtain ⟨a, xs, rfl, hx, hw, q⟩ := h
  cases rx
  obtain ⟨its, r, ht, hz⟩ := I.tuple hx
  have hlen : its.toArray.size = xs.length := by rw [List.size_toArray]; exact r.length.symm
  refine ⟨"tuple", _, PyProof.Rows.slot_tuple_getitem.lookup, ht.typeIs, ?_⟩
  refine HT.getItem_tuple_cut ht hs pl pu (by rw [hlen]; exact hw) ?_ (by rw [hlen]; exact hz)
  rw [hlen]
  refine ⟨.ref s.heap.objs.size, _, I.laid (t' := s.toks) (o := .tup (cutV xs lo hi)) (fun b ob q => Heap.get?_push_of_some _ q) (Nat.le_refl _) ?_, rfl, q _ (I.hok.fresh (Nat.le_refl _))⟩
  exact ⟨Nat.le_trans (cutV_length xs lo hi) hz, _, (r.drop (HT.sIx xs.length 0 lo)).take (HT.sIx xs.length xs.length hi - HT.sIx xs.length 0 lo), IsTup.new _ _⟩
def rCatT (K : PySem.W.Frag) : R2 := fun x y H Q => ∃ a b xs ys, x = .ref a ∧ y = .ref b ∧ SqT K H a xs ∧ SqT K H b ys ∧ xs ≠ [] ∧ xs.length + ys.length ≤ sizeLine ∧
  (ys = [] → Q (.ref a) H) ∧ (ys ≠ [] → ∀ p, H p = none → Q (.ref p) (upd H p (.tup (xs ++ ys))))
theorem Vals.nil_iff {xs : List V} {us : List Value} (r : Vals xs us) : us = [] ↔ xs = [] := by
  cases r with
  | nil => simp
  | cons _ _ => simp
theorem op_catT : OpR X (binaryOp .Add) (rCatT X.K) := by
  intro pins s σ H x y v u Q I rx ry h
  obtain ⟨a, b, xs, ys, rfl, rfl, ha, hb, hx, hz, q1, q2⟩ := h
  cases rx
  cases ry
  obtain ⟨its, r1, p1, _⟩ := I.tuple ha
  obtain ⟨its2, r2, p2, _⟩ := I.tuple hb
  refine HT.cat_tup p1 p2 (fun z => hx (r1.nil_iff.mp z)) (fun z => ⟨.ref a, H, I, rfl, q1 (r2.nil_iff.mp z)⟩) (fun z => ?_) (by rw [← r1.length, ← r2.length]; exact hz)
  refine ⟨.ref s.heap.objs.size, _, I.laid (t' := s.toks) (o := .tup (xs ++ ys)) (fun b ob q => Heap.get?_push_of_some _ q) (Nat.le_refl _) ?_, rfl, q2 (fun w => z (r2.nil_iff.mpr w)) _ (I.hok.fresh (Nat.le_refl _))⟩
  exact ⟨by rw [List.length_append]; exact hz, _, r1.append r2, IsTup.new _ _⟩
end
end L2
namespace L2
open PySem PySem.Spec PyProof.Rows
def ixN (n : Nat) (i : Int) : Option Nat := if 0 ≤ i then (if i < n then some i.toNat else none) else if -(n : Int) ≤ i then some (i + n).toNat else none
def atI {α : Type} (xs : List α) (i : Int) : Option α := (ixN xs.length i).bind fun j => xs[j]?
theorem ixN_seq {n : Nat} {i : Int} {j : Nat} (h : ixN n i = some j) : seqIndex? i n = some j ∧ j < n ∧ -(n : Int) ≤ i ∧ i < n := by
  unfold ixN at h
  by_cases h0 : 0 ≤ i
  · rw [if_pos h0] at h
    by_cases h1 : i < n
    · rw [if_pos h1] at h
      have e : i.toNat = j := Option.some.inj h
      exact ⟨by rw [seqIndex_of h0 h1, e], by omega, by omega, h1⟩
    · rw [if_neg h1] at h; cases h
  · rw [if_neg h0] at h
    by_cases h1 : -(n : Int) ≤ i
    · rw [if_pos h1] at h
      have e : (i + n).toNat = j := Option.some.inj h
      exact ⟨by rw [seqIndex_neg (by omega) h1, e], by omega, h1, by omega⟩
    · rw [if_neg h1] at h; cases h
theorem atI_get {α : Type} {xs : List α} {i : Int} {v : α} (h : atI xs i = some v) : ∃ j, seqIndex? i xs.length = some j ∧ xs[j]? = some v ∧ j < xs.length ∧ -(xs.length : Int) ≤ i ∧ i < xs.length := by
  unfold atI at h
  cases e : ixN xs.length i with
  | none => rw [e] at h; cases h
  | some j =>
    rw [e] at h
    obtain ⟨h1, h2, h3, h4⟩ := ixN_seq e
    exact ⟨j, h1, h, h2, h3, h4⟩
theorem atI_nat {α : Type} {xs : List α} {j : Nat} {v : α} (h : xs[j]? = some v) : atI xs (j : Int) = some v := by
  have hj : j < xs.length := (List.getElem?_eq_some_iff.mp h).1
  have e : ixN xs.length (j : Int) = some j := by
    unfold ixN
    rw [if_pos (by omega), if_pos (by omega)]; simp
  unfold atI; rw [e]; exact h
def PlainIx (b : Expr) : Prop := ∀ o i, subscripted b false o i = operate [o, i] (getItem o i)
def IxR (X : Cx) (r : R2) : Prop :=
  ∀ (value slice : Expr) (pins : List (Addr × Obj)) (s : Shared) (σ : St) (H : Hp) (x y : V) (v u : Value) (Q : VK), Inv X pins σ H s → RelV x v → RelV y u → r x y H Q →
    subscripted slice false v u = operate [v, u] (getItem v u) → wpAny (model X.prog X.w) X.A (subscriptTail value slice v u) (EP X pins σ Q) X.xe s
def MtR (X : Cx) (id : String) (r : V → List V → Hp → VK → Prop) : Prop :=
  ∀ (pins : List (Addr × Obj)) (s : Shared) (σ : St) (H : Hp) (x : V) (xs : List V) (v : Value) (us : List Value) (Q : VK), Inv X pins σ H s → RelV x v → Vals xs us → r x xs H Q →
    wpAny (model X.prog X.w) X.A (call (.builtin id) (v :: us)) (EP X pins σ Q) X.xe s
section
variable {X : Cx} {a b : Expr} {ta tb : TE} {pos : Pos}
theorem IxR.or {r r' : R2} (h : IxR X r) (h' : IxR X r') : IxR X (fun x y H Q => r x y H Q ∨ r' x y H Q) := by
  intro value slice pins s σ H x y v u Q I rx ry q hs
  rcases q with q | q
  · exact h value slice pins s σ H x y v u Q I rx ry q hs
  · exact h' value slice pins s σ H x y v u Q I rx ry q hs
theorem MtR.or {id : String} {r r' : V → List V → Hp → VK → Prop} (h : MtR X id r) (h' : MtR X id r') : MtR X id (fun x xs H Q => r x xs H Q ∨ r' x xs H Q) := by
  intro pins s σ H x xs v us Q I rx rs q
  rcases q with q | q
  · exact h pins s σ H x xs v us Q I rx rs q
  · exact h' pins s σ H x xs v us Q I rx rs q
theorem pe_ix {r : R2} (hr : IxR X r) (ha : PE X a ta) (hb : PE X b tb) (hs : PlainIx b) : PE X (.Subscript a b pos) (tOp r ta tb) := by
  intro pins s σ H Q I h
  exact Subscript_ (binT ha hb I h fun v u s2 x y H2 I2 rx ry q => hr a b pins s2 σ H2 x y v u Q I2 rx ry q (hs _ _))
def rIxL (K : PySem.W.Frag) : R2 := fun x y H Q => ∃ p xs i v, x = .ref p ∧ y = .int i ∧ SqL K H p xs ∧ atI xs i = some v ∧ Q v H
def rIxT (K : PySem.W.Frag) : R2 := fun x y H Q => ∃ p xs i v, x = .ref p ∧ y = .int i ∧ SqT K H p xs ∧ atI xs i = some v ∧ Q v H
def rIxS : R2 := fun x y H Q => ∃ z i c, x = .str z ∧ y = .int i ∧ z.length ≤ sizeLine ∧ atI z.cps.toList i = some c ∧ Q (.str ⟨#[c]⟩) H
theorem ix_list : IxR X (rIxL X.K) := by
  intro value slice pins s σ H x y v u Q I rx ry h hs
  obtain ⟨p, xs, i, z, rfl, rfl, hq, he, q⟩ := h
  cases rx
  obtain ⟨t, rfl⟩ := ry
  obtain ⟨its, r, pl, hz⟩ := I.list hq
  obtain ⟨j, h1, h2, h3, h4, h5⟩ := atI_get he
  obtain ⟨w, ew, rw'⟩ := r.get h2
  have hl := r.length
  have hn := line63
  have fin : EP X pins σ Q w s := ⟨z, H, I, rw', q⟩
  by_cases h0 : 0 ≤ i
  · have hj : i.toNat = j := by
      rw [seqIndex_of h0 h5] at h1
      exact Option.some.inj h1
    exact item_listR pl.isList h0 (by omega) (by rw [hj]; simpa using ew) fin hs
  · have hj : (i + (its.toArray.size : Int)).toNat = j := by
      rw [seqIndex_neg (by omega) h4] at h1
      rw [List.size_toArray, ← hl]
      exact Option.some.inj h1
    exact subscriptTail_builtinR (x := w) pl.isList.typeIs slot_list_getitem.lookup
      (wpAny_getItem_list_neg (Q := fun r s' => r = w ∧ EP X pins σ Q r s') pl.isList (by omega) (by rw [List.size_toArray] <;> omega) (by omega) (by rw [hj]; simpa using ew) ⟨rfl, fin⟩) hs
theorem ix_tup : IxR X (rIxT X.K) := by
  intro value slice pins s σ H x y v u Q I rx ry h hs
  obtain ⟨p, xs, i, z, rfl, rfl, hq, he, q⟩ := h
  cases rx
  obtain ⟨t, rfl⟩ := ry
  obtain ⟨its, r, pl, hz⟩ := I.tuple hq
  obtain ⟨j, h1, h2, h3, h4, h5⟩ := atI_get he
  obtain ⟨w, ew, rw'⟩ := r.get h2
  have hl := r.length
  have hn := line63
  have fin : EP X pins σ Q w s := ⟨z, H, I, rw', q⟩
  exact subscriptTail_builtinR (x := w) pl.typeIs slot_tuple_getitem.lookup
    (getItem_tuple (j := j) (Q := fun r s' => r = w ∧ EP X pins σ Q r s') pl (by omega) (by omega) (by rw [List.size_toArray, ← hl]; exact h1) (by simpa using ew) ⟨rfl, fin⟩) hs
theorem ix_str : IxR X rIxS := by
  intro value slice pins s σ H x y v u Q I rx ry h hs
  obtain ⟨z, i, c, rfl, rfl, hz, he, q⟩ := h
  obtain ⟨t, rfl⟩ := rx
  obtain ⟨t', rfl⟩ := ry
  obtain ⟨j, h1, h2, h3, h4, h5⟩ := atI_get he
  have hl : z.cps.toList.length = z.length := by simp [Str.length]
  rw [hl] at h1 h4 h5
  have hn := line63
  exact tail_any (typeIs_str s z t) slot_str_getitem.lookup (getItem_str (c := c) (by
    have e1 : decide (i < -(2 ^ 63 : Int)) = false := decide_eq_false (by omega)
    have e2 : decide (i ≥ 2 ^ 63) = false := decide_eq_false (by omega)
    rw [e1, e2, Bool.or_false]) (by rw [h1]; simpa using h2) ⟨.str ⟨#[c]⟩, H, I.tok _, ⟨_, rfl⟩, q⟩) hs
def rIx (K : PySem.W.Frag) : R2 := fun x y H Q => rIxL K x y H Q ∨ rIxT K x y H Q ∨ rIxS x y H Q
theorem ix_seq : IxR X (rIx X.K) := ix_list.or (ix_tup.or ix_str)
theorem mapSeq_set (its : List Value) (n j : Nat) (u : Value) : Obj.mapSeq (·.setIfInBounds j u) { cls := .type "list", data := .seq its.toArray n } = { cls := .type "list", data := .seq (its.set j u).toArray n } := by
  simp [Obj.mapSeq]
theorem Inv.lst {pins : List (Addr × Obj)} {σ : St} {H : Hp} {s : Shared} {p : Addr} {xs : List V} (I : Inv X pins σ H s) (h : H p = some (.lst xs)) :
    ∃ (its : List Value) (n : Nat), Vals xs its ∧ s.heap.get? p = some { cls := .type "list", data := .seq its.toArray n } ∧ xs.length ≤ sizeLine := by
  obtain ⟨z, its, n, r, e⟩ := I.hok p _ h
  exact ⟨its, n, r, e, z⟩
theorem Inv.lstUpd {pins : List (Addr × Obj)} {σ : St} {H : Hp} {s : Shared} {p : Addr} {xs ys : List V} {its its' : List Value} {n n' : Nat} {f : Obj → Obj} (I : Inv X pins σ H s) (h : H p = some (.lst xs))
    (ho : s.heap.get? p = some { cls := .type "list", data := .seq its.toArray n }) (hf : f { cls := .type "list", data := .seq its.toArray n } = { cls := .type "list", data := .seq its'.toArray n' }) (r : Vals ys its') (hz : ys.length ≤ sizeLine) (t : Nat) :
    Inv X pins σ (upd H p (.lst ys)) { s with heap := s.heap.update p f, toks := t } := by
  have e : (s.heap.update p f).get? p = some { cls := .type "list", data := .seq its'.toArray n' } := by
    rw [Heap.get?_update_self f ho (by rw [hf] <;> rfl), hf]
  refine I.write (x := p) (e := p) (by rw [h]; trivial) (.inl rfl) (fun b u hb q => (Heap.get?_update_other _ _ (Ne.symm hb)).trans q) ⟨_, e⟩ ?_
  exact ⟨hz, its', n', r, e⟩
def rSetL : V → V → V → Hp → (Hp → Prop) → Prop := fun o i v H Q => ∃ p xs k j, o = .ref p ∧ i = .int k ∧ H p = some (.lst xs) ∧ ixN xs.length k = some j ∧ Q (upd H p (.lst (xs.set j v)))
theorem set_list : PSet X rSetL := by
  intro pins s σ H o i v ov iv u Q I ro ri rv h
  obtain ⟨p, xs, k, j, rfl, rfl, hp, hj, q⟩ := h
  cases ro
  obtain ⟨t, rfl⟩ := ri
  obtain ⟨its, n, r, ho, hz⟩ := I.lst hp
  obtain ⟨h1, h2, h3, h4⟩ := ixN_seq hj
  have hl := r.length
  have hn := line63
  have I' : Inv X pins σ (upd H p (.lst (xs.set j v))) { s with heap := s.heap.update p (Obj.mapSeq (·.setIfInBounds j u)) } :=
    I.lstUpd hp ho (mapSeq_set its n j u) (r.set rv j) (by rw [List.length_set]; exact hz) s.toks
  by_cases h0 : 0 ≤ k
  · have hk : k.toNat = j := by
      rw [seqIndex_of h0 h4] at h1
      exact Option.some.inj h1
    exact PySem.W.ki_setAt ho h0 (by omega) (by rw [List.size_toArray, ← hl]; exact h4) (by rw [hk]; exact ⟨_, I', q⟩)
  · have hk : (k + (its.toArray.size : Int)).toNat = j := by
      rw [seqIndex_neg (by omega) h3] at h1
      rw [List.size_toArray, ← hl]
      exact Option.some.inj h1
    exact PySem.W.ki_setBack ho (by omega) (by rw [List.size_toArray, ← hl]; exact h3) (by omega) (by rw [hk]; exact ⟨_, I', q⟩)
theorem slice_bounds (lo hi : Option Int) (n : Nat) : (sliceBounds lo hi none n).1 = ((HT.sIx n 0 lo : Nat) : Int) ∧ (sliceBounds lo hi none n).2.1 = ((HT.sIx n n hi : Nat) : Int) ∧ (sliceBounds lo hi none n).2.2 = 1 := by
  refine ⟨?_, ?_, rfl⟩
  · cases lo with
    | none => simp [sliceBounds, HT.sIx]
    | some i =>
      simp only [sliceBounds, HT.sIx, Option.getD_none, show (1 : Int) > 0 by decide, if_true]
      by_cases h : i < 0
      · simp only [h, if_true] <;> omega
      · simp only [h, if_false] <;> omega
  · cases hi with
    | none => simp [sliceBounds, HT.sIx]
    | some i =>
      simp only [sliceBounds, HT.sIx, Option.getD_none, show (1 : Int) > 0 by decide, if_true]
      by_cases h : i < 0
      · simp only [h, if_true] <;> omega
      · simp only [h, if_false] <;> omega
theorem slicePick_cut (its : List Value) (lo hi : Option Int) : slicePick its.toArray lo hi none = ((its.drop (HT.sIx its.length 0 lo)).take (HT.sIx its.length its.length hi - HT.sIx its.length 0 lo)).toArray := by
  obtain ⟨h1, h2, h3⟩ := slice_bounds lo hi its.toArray.size
  unfold slicePick
  rw [h1, h2, h3]
  simp only [sliceRange_one, pick_run, List.size_toArray] <;> rfl
def rSlL (K : PySem.W.Frag) : V → Option Int → Option Int → Hp → VK → Prop := fun x lo hi H Q => ∃ a xs, x = .ref a ∧ SqL K H a xs ∧ ∀ p, H p = none → Q (.ref p) (upd H p (.lst (cutV xs lo hi)))
theorem sl_list : SlR X (rSlL X.K) := by
  intro pins s σ H x v vl vu lo hi sl Q I rx hs pl pu h
  obtain ⟨a, xs, rfl, hx, q⟩ := h
  cases rx
  obtain ⟨its, r, ht, hz⟩ := I.list hx
  have hlen := r.length
  refine ⟨"list", _, slot_list_getitem.lookup, ht.isList.typeIs, ?_⟩
  refine wpAny_getItem_list_slice ht.isList hs pl pu .none (by simp) ?_ (by rw [List.size_toArray] <;> omega)
  rw [slicePick_cut, ← hlen]
  refine ⟨.ref s.heap.objs.size, _, I.laid (t' := s.toks) (o := .lst (cutV xs lo hi)) (fun b ob q => Heap.get?_push_of_some _ q) (Nat.le_refl _) ?_, rfl, q _ (I.hok.fresh (Nat.le_refl _))⟩
  exact ⟨Nat.le_trans (cutV_length xs lo hi) hz, _, 0, (r.drop (HT.sIx xs.length 0 lo)).take (HT.sIx xs.length xs.length hi - HT.sIx xs.length 0 lo), Heap.get?_push_size _ rfl⟩
theorem call_len_seq : CallR X (.builtin "len") (fun xs H Q => ∃ p ys, xs = [.ref p] ∧ (SqL X.K H p ys ∨ SqT X.K H p ys) ∧ Q (.int ys.length) H) := by
  intro pins s σ H xs us Q I r h
  obtain ⟨p, ys, rfl, hq, q⟩ := h
  obtain ⟨u, rfl, rx⟩ := vals1 r
  cases rx
  have hn := line63
  rcases hq with hq | hq
  · obtain ⟨its, r', pl, hz⟩ := I.list hq
    have hlen := r'.length
    exact Calls.call_len_list pl.isList (by simp only [List.size_toArray] <;> omega) ⟨.int ys.length, H, I.tok _, ⟨s.toks + 1, by rw [List.size_toArray, hlen]⟩, q⟩
  · obtain ⟨its, r', pl, hz⟩ := I.tuple hq
    have hlen := r'.length
    exact len_tuple pl (by simp only [List.size_toArray] <;> omega) ⟨.int ys.length, H, I.tok _, ⟨s.toks + 1, by rw [List.size_toArray, hlen]⟩, q⟩
theorem call_len_str : CallR X (.builtin "len") (fun xs H Q => ∃ z, xs = [.str z] ∧ z.length ≤ sizeLine ∧ Q (.int z.length) H) := by
  intro pins s σ H xs us Q I r h
  obtain ⟨z, rfl, hz, q⟩ := h
  obtain ⟨u, rfl, t, rfl⟩ := vals1 r
  have hn := line63
  exact len_str (by omega) ⟨.int z.length, H, I.tok _, ⟨_, rfl⟩, q⟩
theorem CallR.or {f : Value} {r r' : List V → Hp → VK → Prop} (h : CallR X f r) (h' : CallR X f r') : CallR X f (fun xs H Q => r xs H Q ∨ r' xs H Q) := by
  intro pins s σ H xs us Q I rs q
  rcases q with q | q
  · exact h pins s σ H xs us Q I rs q
  · exact h' pins s σ H xs us Q I rs q
theorem call_tuple_of : CallR X (.type "tuple") (fun xs H Q => ∃ p ys, xs = [.ref p] ∧ ((SqL X.K H p ys ∧ ∀ l, H l = none → Q (.ref l) (upd H l (.tup ys))) ∨ (SqT X.K H p ys ∧ Q (.ref p) H))) := by
  intro pins s σ H xs us Q I r h
  obtain ⟨p, ys, rfl, h⟩ := h
  obtain ⟨u, rfl, rx⟩ := vals1 r
  cases rx
  rcases h with ⟨hq, q⟩ | ⟨hq, q⟩
  · obtain ⟨its, r', pl, hz⟩ := I.list hq
    have hlen := r'.length
    refine call_tuple_list pl.isList (fun h' kp => ?_) (by simp only [List.size_toArray] <;> omega)
    have I1 : Inv X pins σ H { s with heap := h' } := I.kept (t' := s.toks) kp
    have I2 : Inv X pins σ (upd H h'.objs.size (.tup ys)) { s with heap := h'.push { cls := .type "tuple", data := .seq its.toArray } } :=
      I1.laid (t' := s.toks) (fun b o e => Heap.get?_push_of_some _ e) (Nat.le_refl _) (show ObjOk X.prog X.w _ _ _ (.tup ys) from ⟨hz, its, r', IsTup.new _ _⟩)
    exact ⟨.ref h'.objs.size, _, I2, rfl, q _ (I1.hok.fresh (Nat.le_refl _))⟩
  · obtain ⟨its, r', pl, hz⟩ := I.tuple hq
    exact call_tuple_same pl ⟨.ref p, H, I, rfl, q⟩
def tyV (K : PySem.W.Frag) (T : String) (x : V) (H : Hp) : Prop := match x with
  | .str _ => T = "str"
  | .int _ => T = "int"
  | .ref p => (T = "list" ∧ ∃ xs, SqL K H p xs) ∨ (T = "tuple" ∧ ∃ o, K.lookup p = some o ∧ o.cls = .type "tuple" ∧ o.dict = none) ∨
      (T = "dict" ∧ ((∃ kvs, H p = some (.dK kvs)) ∨ ∃ kvs, H p = some (.dT kvs))) ∨ (T = "set" ∧ ∃ S n, H p = some (.set S n))
  | _ => False
theorem tyV_is {pins : List (Addr × Obj)} {σ : St} {H : Hp} {s : Shared} {T : String} {x : V} {v : Value} (I : Inv X pins σ H s) (r : RelV x v) (ty : tyV X.K T x H) :
    s.TypeIs v T ∧ ∀ a, v = .ref a → ∃ ob, s.heap.get? a = some ob ∧ ob.dict = none := by
  cases x with
  | str z =>
    obtain ⟨t, rfl⟩ := r
    cases (show T = "str" from ty)
    exact ⟨typeIs_str s z t, fun _ e => nomatch e⟩
  | int i =>
    obtain ⟨t, rfl⟩ := r
    cases (show T = "int" from ty)
    exact ⟨typeIs_int s i t, fun _ e => nomatch e⟩
  | ref p =>
    cases r
    rcases ty with ⟨rfl, xs, hq⟩ | ⟨rfl, o, hk, hc, hd⟩ | ⟨rfl, hk⟩ | ⟨rfl, S, n, hk⟩
    · obtain ⟨its, _, pl, _⟩ := I.list hq
      refine ⟨pl.isList.typeIs, fun a e => ?_⟩
      cases e
      obtain ⟨o, n, e, c, hd, _⟩ := pl
      exact ⟨o, e, hd⟩
    · refine ⟨⟨o, I.kIn p o hk, hc⟩, fun a e => ?_⟩
      cases e
      exact ⟨o, I.kIn _ o hk, hd⟩
    · have z : ∃ o, s.heap.get? p = some o ∧ o.ExactDict := by
        rcases hk with ⟨kvs, hk⟩ | ⟨kvs, hk⟩
        · obtain ⟨_, _, _, _, o, _, _, e, ex, _⟩ := I.hok p _ hk
          exact ⟨o, e, ex⟩
        · obtain ⟨_, _, _, _, o, _, _, e, ex, _⟩ := I.hok p _ hk
          exact ⟨o, e, ex⟩
      obtain ⟨o, e, ex⟩ := z
      refine ⟨⟨o, e, ex.1⟩, fun a e2 => ?_⟩
      cases e2
      exact ⟨o, e, ex.2.1⟩
    · obtain ⟨o, _, _, _, e, ex, _⟩ := I.hok p _ hk
      refine ⟨⟨o, e, ex.1⟩, fun a e2 => ?_⟩
      cases e2
      exact ⟨o, e, ex.2.1⟩
  | _ => exact False.elim ty
def tBM (K : PySem.W.Frag) (T : String) (r : V → List V → Hp → VK → Prop) (to : TE) (t : TA) : TE := fun σ H Q => to σ H fun x H1 => tyV K T x H1 ∧ t σ H1 fun xs H2 => r x xs H2 Q
variable {o e : Expr} {es : List Expr} {to : TE} {t : TA} {name : Str} {apos cpos : Pos} {T id : String} {r : V → List V → Hp → VK → Prop}
theorem pe_bm (pa : PlainAttrs T) (slot : Slot T name id) (hty : typeOf (.builtin id) = pure (.type "method_descriptor")) (hm : MtR X id r) (ho : PE X o to) (ha : PA X (e :: es) t)
    (hbase : attributeBase o name X.env (eval o X.env) = eval o X.env := by rfl)
    (hfew : ((backTo cpos (starEach (e :: es) X.env)).all (fun x => !x.1) && (backToKw cpos (keywordEach [] X.env)).all (fun x => x.1.isSome)
      && decide ((e :: es).length + ([] : List Keyword).length + (if ([] : List Keyword).isEmpty then 0 else 1) < 30)) = true := by rfl)
    (hline : (apos.endLine == cpos.line) = true := by rfl) (hs : starEach (e :: es) X.env = (false, eval e X.env) :: starEach es X.env := by rfl) (hplain : (backTo cpos (starEach es X.env)).any (·.1) = false := by rfl) :
    PE X (.Call (.Attribute o name apos) (e :: es) [] cpos) (tBM X.K T r to t) := by
  intro pins s σ H Q I h
  refine wpAny_Call_method_late hbase hfew hline rfl (thn (ho pins s σ H _ I h) fun v s1 ⟨x, H1, I1, r1, ty, q1⟩ => ?_)
  obtain ⟨h1, h2⟩ := tyV_is I1 r1 ty
  refine ⟨T, id, pa, slot, hty, h1, h2, ?_⟩
  have hA := ha cpos pins s1 σ H1 _ I1 q1
  rw [hs] at hA ⊢
  refine Calls.callWith_builtin (by show (false || (backTo cpos (starEach es X.env)).any (·.1)) = false; rw [hplain] <;> rfl) (Calls.evalArgs_plain ?_)
  exact thn hA fun us s2 ⟨vs, H2, I2, r2, q2⟩ => hm pins s2 σ H2 x vs v us Q I2 r1 r2 q2
end
end L2
namespace L2
open PySem PySem.Spec PyProof.Rows
def MtM (X : Cx) (id : String) (r : V → List V → Hp → VK → Prop) : Prop :=
  ∀ (pins : List (Addr × Obj)) (s : Shared) (σ : St) (H : Hp) (x : V) (xs : List V) (v : Value) (us : List Value) (Q : VK), Inv X pins σ H s → RelV x v → Vals xs us → r x xs H Q →
    wpAny (model X.prog X.w) X.A (call (.builtin id) (v :: us)) (EP X pins σ Q) X.xe s
theorem Vals.one : ∀ {x : V} {us : List Value}, Vals [x] us → ∃ u, us = [u] ∧ RelV x u
  | _, _, .cons r .nil => ⟨_, rfl, r⟩
theorem Vals.zero : ∀ {us : List Value}, Vals [] us → us = []
  | _, .nil => rfl
theorem Vals.rep {xs : List V} {us : List Value} (h : Vals xs us) : ∀ k : Nat, Vals (List.replicate k xs).flatten (List.replicate k us).flatten
  | 0 => .nil
  | k + 1 => by
    rw [List.replicate_succ, List.replicate_succ, List.flatten_cons, List.flatten_cons]
    exact Vals.append h (Vals.rep h k)
theorem foldl_rep (its : List Value) : ∀ (k : Nat) (acc : List Value),
    List.foldl (fun x1 x2 => x1 ++ x2) acc.toArray (List.replicate k its.toArray) = (acc ++ (List.replicate k its).flatten).toArray
  | 0, acc => by simp
  | k + 1, acc => by
    have e : acc.toArray ++ its.toArray = (acc ++ its).toArray := by simp
    have e2 : (acc ++ its) ++ (List.replicate k its).flatten = acc ++ (List.replicate (k + 1) its).flatten := by
      rw [List.replicate_succ, List.flatten_cons, List.append_assoc]
    rw [← e2, ← foldl_rep its k (acc ++ its), ← e, List.replicate_succ, List.foldl_cons]
section
variable {X : Cx} {pins : List (Addr × Obj)} {σ : St} {H : Hp} {s : Shared} {l b : Addr} {xs ys zs : List V}
theorem Inv.lset {its its' : List Value} {n : Nat} {f : Array Value → Array Value} {t' : Nat} (I : Inv X pins σ H s) (hH : H l = some (.lst xs))
    (e : s.heap.get? l = some { cls := .type "list", data := .seq its.toArray n }) (hf : f its.toArray = its'.toArray) (hv : Vals ys its') (hz : ys.length ≤ sizeLine) :
    Inv X pins σ (upd H l (.lst ys)) { s with heap := s.heap.update l (Obj.mapSeq f), toks := t' } := by
  have q := PySem.IsL.update e f
  rw [hf] at q
  refine I.write (x := l) (e := l) (by rw [hH]; exact trivial) (.inl rfl) (fun b' u hb hu => (Heap.get?_update_other s.heap (Obj.mapSeq f) (Ne.symm hb)).trans hu) ⟨_, q⟩ ?_
  exact ⟨hz, its', _, hv, q⟩
theorem Inv.lnew {its : List Value} {t' : Nat} (I : Inv X pins σ H s) (hv : Vals ys its) (hz : ys.length ≤ sizeLine) :
    Inv X pins σ (upd H s.heap.objs.size (.lst ys)) { s with heap := s.heap.push { cls := .type "list", data := .seq its.toArray }, toks := t' } :=
  I.laid (fun _ _ q => Heap.get?_push_of_some _ q) (Nat.le_refl _) ⟨hz, its, 0, hv, Heap.get?_push_size _ rfl⟩
theorem Inv.fresh (I : Inv X pins σ H s) : H s.heap.objs.size = none := I.hok.fresh (Nat.le_refl _)
theorem Inv.lstM (I : Inv X pins σ H s) (hH : H l = some (.lst xs)) : xs.length ≤ sizeLine ∧ ∃ (its : List Value) (n : Nat), Vals xs its ∧ xs.length = its.length ∧ s.heap.get? l = some { cls := .type "list", data := .seq its.toArray n } := by
  obtain ⟨z, its, n, r, e⟩ := I.hok l _ hH
  exact ⟨z, its, n, r, r.length, e⟩
theorem notLongL {n : Nat} (h : n ≤ sizeLine) : Builtin.List.listTooLong n = false := by
  unfold Builtin.List.listTooLong
  exact decide_eq_false (by omega)
end
section
variable {X : Cx}
def rAppend : V → List V → Hp → VK → Prop := fun x vs H Q => ∃ l xs y, x = .ref l ∧ vs = [y] ∧ H l = some (.lst xs) ∧ xs.length < sizeLine ∧ Q .non (upd H l (.lst (xs ++ [y])))
theorem mt_append : MtM X "list.append" rAppend := by
  intro pins s σ H x vs v us Q I rx rv h
  obtain ⟨l, xs, y, rfl, rfl, hH, hz, q⟩ := h
  cases rx
  obtain ⟨u, rfl, ru⟩ := rv.one
  obtain ⟨z, its, n, r, hl, e⟩ := I.lstM hH
  refine call_meets F.slot_list_append ⟨_, e, rfl⟩ F.entry_list_append (F.args_list_append_2 _ _) (PySem.list_append l its.toArray n u (by rw [List.size_toArray]; omega)) ⟨e, ?_⟩
  refine ⟨.non, _, I.lset (its' := its ++ [u]) hH e (by simp) (r.append (.cons ru .nil)) ?_, rfl, q⟩
  rw [List.length_append, List.length_singleton]
  omega
def rExtend : V → List V → Hp → VK → Prop := fun x vs H Q => ∃ l b xs zs, x = .ref l ∧ vs = [.ref b] ∧ H l = some (.lst xs) ∧ H b = some (.lst zs) ∧ xs.length + zs.length ≤ sizeLine ∧ Q .non (upd H l (.lst (xs ++ zs)))
theorem mt_extend : MtM X "list.extend" rExtend := by
  intro pins s σ H x vs v us Q I rx rv h
  obtain ⟨l, b, xs, zs, rfl, rfl, hH, hB, hz, q⟩ := h
  cases rx
  obtain ⟨u, rfl, ru⟩ := rv.one
  cases ru
  obtain ⟨z, its, n, r, hl, e⟩ := I.lstM hH
  obtain ⟨z2, its2, n2, r2, hl2, e2⟩ := I.lstM hB
  have hsz : its.toArray.size + its2.toArray.size ≤ sizeLine := by rw [List.size_toArray, List.size_toArray]; omega
  have hlong : ¬ (!its.toArray.isEmpty && Builtin.List.listTooLong (its.toArray.size + its2.toArray.size)) = true := by
    rw [notLongL hsz, Bool.and_false]
    exact Bool.false_ne_true
  refine call_meets F.slot_list_extend ⟨_, e, rfl⟩ F.entry_list_extend (F.args_list_extend_2 _ _)
    (AutoSeq1.list_extend_list_list_0 l its.toArray n b its2.toArray n2 hlong (by rw [List.size_toArray]; omega) (by omega)) ⟨e, e2, ?_⟩
  refine ⟨.non, _, I.lset (its' := its ++ its2) hH e (by simp) (r.append r2) ?_, rfl, q⟩
  rw [List.length_append]
  omega
def rCat : R2 := fun x y H Q => ∃ l b xs zs, x = .ref l ∧ y = .ref b ∧ H l = some (.lst xs) ∧ H b = some (.lst zs) ∧ xs.length + zs.length ≤ sizeLine ∧ ∀ p, H p = none → Q (.ref p) (upd H p (.lst (xs ++ zs)))
theorem op_cat : OpR X (binaryOp .Add) rCat := by
  intro pins s σ H x y v u Q I rx ry h
  obtain ⟨l, b, xs, zs, rfl, rfl, hH, hB, hz, q⟩ := h
  cases rx
  cases ry
  obtain ⟨z, its, n, r, hl, e⟩ := I.lstM hH
  obtain ⟨z2, its2, n2, r2, hl2, e2⟩ := I.lstM hB
  refine PySem.P.add_list e e2 ?_ (by rw [List.size_toArray, List.size_toArray]; omega)
  have ea : its.toArray ++ its2.toArray = (its ++ its2).toArray := by simp
  rw [ea]
  exact ⟨.ref _, _, I.lnew (t' := s.toks) (r.append r2) (by rw [List.length_append]; omega), rfl, q _ I.fresh⟩
def rRep : R2 := fun x y H Q => ∃ l k xs, x = .ref l ∧ y = .int k ∧ H l = some (.lst xs) ∧ -(2 ^ 63) ≤ k ∧ k < 2 ^ 63 ∧ xs.length * k.toNat ≤ sizeLine ∧
  ∀ p, H p = none → Q (.ref p) (upd H p (.lst (List.replicate k.toNat xs).flatten))
theorem len_rep {α : Type} (xs : List α) (k : Nat) : (List.replicate k xs).flatten.length = k * xs.length := by
  induction k with
  | zero => simp
  | succ k ih => rw [List.replicate_succ, List.flatten_cons, List.length_append, ih, Nat.succ_mul, Nat.add_comm]
theorem op_rep : OpR X (binaryOp .Mult) rRep := by
  intro pins s σ H x y v u Q I rx ry h
  obtain ⟨l, k, xs, rfl, rfl, hH, h1, h2, hz, q⟩ := h
  cases rx
  obtain ⟨t, rfl⟩ := ry
  obtain ⟨z, its, n, r, hl, e⟩ := I.lstM hH
  have hlen : its.toArray.size * k.toNat ≤ sizeLine := by rw [List.size_toArray, ← hl]; exact hz
  have hcap : ¬ its.toArray.size * k.toNat > (2 ^ 63 - 1) / 8 := by
    have : (sizeLine : Nat) ≤ (2 ^ 63 - 1) / 8 := by decide
    omega
  have hfit : ¬ (!Builtin.List.listFitsIndex k) = true := by
    rw [fitsIndex_both h1 h2]
    exact Bool.false_ne_true
  have hlong : ¬ Builtin.List.listTooLong (its.toArray.size * k.toNat) = true := by
    rw [notLongL hlen]
    exact Bool.false_ne_true
  have hnew : List.foldl (fun x1 x2 => x1 ++ x2) #[] (List.replicate (if its.toArray.isEmpty = true then 0 else k.toNat) its.toArray) = (List.replicate k.toNat its).flatten.toArray := by
    have f0 : ∀ m : Nat, List.foldl (fun x1 x2 => x1 ++ x2) #[] (List.replicate m its.toArray) = (List.replicate m its).flatten.toArray := fun m => by
      have := foldl_rep its m []
      rw [List.nil_append] at this
      exact this
    rw [f0]
    cases its with
    | nil => simp
    | cons a r' => rw [if_neg (by simp)]
  refine wpAny_binaryOp_repeat_ref (T := "list") (U := "int") (by decide) ⟨_, e, rfl⟩ (fun s' => typeIs_int s' k t) noFill_list_mul F.fills_int_mul F.slot_int_rmul repeat_list F.slot_int_index.lookup
    (call_meets F.slot_int_rmul (typeIs_int s k t) F.entry_int_rmul (F.args_int_rmul_2 _ _) (int___rmul___int_list k t l its.toArray n)
      ⟨e, rfl, ⟨_, e, rfl⟩, call_meets F.slot_list_mul ⟨_, e, rfl⟩ F.entry_list_mul (F.args_list_mul_2 _ _) (AutoListH.list___mul___list_int_3 l its.toArray n k t hfit hcap hlong) ⟨e, ?_⟩⟩)
  rw [hnew]
  exact ⟨.ref _, _, I.lnew (t' := s.toks) (r.rep k.toNat) (by rw [len_rep, Nat.mul_comm]; exact hz), rfl, q _ I.fresh⟩
end
section
variable {prog : Program} {w : World} {A : Around} {E : Value → Shared → Prop} {s : Shared}
end
section
variable {X : Cx}
end
end L2
namespace Att
open PySem PySem.W PySem.Calls PyProof.Rows
theorem ints_of_wellAll {P : Params} {h : Heap} : ∀ (ns : List Int) (vs : List Value), WellAll P h vs (ns.map WData.int) → IntsAre vs ns := by
  intro ns
  induction ns with
  | nil =>
    intro vs w
    rw [List.map_nil] at w
    cases w
    exact .nil
  | cons n ns ih =>
    intro vs w
    rw [List.map_cons] at w
    cases w with
    | cons a b =>
      cases a
      exact .cons _ _ (ih _ b)
theorem script_of {l : OpenLaw} {n : Nat} (hn : l.most = some n) {P : Params} {h : Heap} {args : List WData} {vals : List Value}
    (hpre : l.row.toRowW.claim.pre args = true) (hwl : WellAll P h vals args) :
    ∃ a vs ns, vals = [Value.ref a] ∧ args = [WData.list (ns.map WData.int)] ∧ h.get? a = some { cls := .type "list", data := .seq vs.toArray } ∧ IntsAre vs ns ∧ ns.length ≤ n := by
  have hsh : WShape.hasAll [] args [.list .int] = true := (pre_splitW hpre).1
  have hc : l.pre.holds [] { args := args } = true := (pre_splitW hpre).2
  obtain ⟨d, r, rfl, h1, h2⟩ := hasAllW_cons hsh
  obtain rfl := hasAllW_nil h2
  obtain ⟨xs, rfl, h3⟩ := hasW_list h1
  obtain ⟨ns, rfl⟩ := items_int h3
  have hlen : ns.length ≤ n := by
    unfold OpenLaw.pre at hc
    have h4 : (WTm.not (.lt (.lit (.int (n : Int))) (.len (.arg 0)))).holds [] { args := [.list (ns.map .int)] } = true := by
      have h4 := (holds_andW hc).1
      rw [hn] at h4
      exact h4
    have h5 := condW_of h4 (w_not (w_lt w_lit (w_len_list (w_arg rfl))))
    rw [List.length_map] at h5
    refine Nat.le_of_not_lt fun q => ?_
    have q' : (n : Int) < ((ns.length : Nat) : Int) := by omega
    first
      | (rw [decide_eq_true q'] at h5; exact absurd h5 (by decide))
      | (simp at h5; omega)
  cases hwl with
  | cons w1 w2 =>
    cases w2
    cases w1 with
    | list ho hall => exact ⟨_, _, ns, rfl, rfl, ho, ints_of_wellAll ns _ hall, hlen⟩
theorem post_true (l : OpenLaw) (args : List WData) : l.row.toRowW.claim.post args (.bool true) args = true :=
  postW_of (r := l.row.toRowW) (X := (true == true))
    (show WShape.has [] (.bool true) .bool = true by first | rfl | decide | simp [WShape.has, WShape.arms, WShape.armsAll])
    (show (WTm.eq .res (.lit (.bool true))).value [] { args := args, res := some (.bool true), after := args } = some (.bool (true == true)) from w_eq_bool (w_res rfl) w_lit) rfl
theorem attach_call {l : OpenLaw} {n : Nat} {q : Program} {loose : List Str} {XP : (Str → Option Value) → Heap → Prop} {YP : World → Heap → Prop} {d : DefRec}
    (hn : l.most = some n) (hdf : d.params.defaults = [])
    (call : ∀ (w : World) (s₀ s₁ : Shared) (mg mb : Str → Option Value) (fa : Addr) (o : Obj) (pm cd doc : Value) (a : Addr) (vs : List Value) (ns : List Int),
      Ground q loose [] XP w s₀ mg mb s₁.heap → YP w s₁.heap →
      s₁.heap.get? fa = some o → o.data = .func (docDef d.name d.params d.body d.scope pm cd doc) → s₁.heap.CodeRec cd d.name → mg d.name = some (.ref fa) →
      s₁.heap.get? a = some { cls := .type "list", data := .seq vs.toArray } → IntsAre vs ns → ns.length ≤ n → s₁.gens = #[] →
      codeAny (model l.prog w) callerA (.call (.ref fa) ⟨[.ref a], []⟩) (fun r s' => r = .ok (.ret (.bool true)) ∧ OldK s₁.heap s'.heap ∧ s'.os = s₁.os ∧ AllBare s'.gens) s₁) :
    WalkO q loose XP YP l.row.toRowW d [] (fun f vs => PySem.call f vs) := by
  intro w s₀ s₁ mg mb G Y fa o pm cd doc dV kV ho hd hcd hD hmg hg args vals as hpre hlay hrd hwl hlo
  obtain rfl : dV = .none := Dflts.none hD hdf
  obtain rfl : kV = .none := Dflts.noKw hD
  obtain ⟨a, vs, ns, rfl, rfl, hobj, hints, hlen⟩ := script_of hn hpre hwl
  refine enter_call (codeAny_mono (call w s₀ s₁ mg mb fa o pm cd doc a vs ns G Y ho (fd_plain hd) hcd hmg hobj hints hlen hg) fun r s' hq => ?_)
  obtain ⟨rfl, h2, h3, h4⟩ := hq
  exact ⟨.inl ⟨.bool true, .bool true, [], rfl, fun _ => rfl, .bool true, post_true l _, fun _ => ⟨List.Pairwise.nil, fun _ hm => (nomatch hm)⟩⟩, h2, h3, h4⟩
section
variable {prog : Program} {w : World} {A : Around} {E : Value → Shared → Prop} {s : Shared} {K : Frag}
end
end Att
namespace L2
open PySem PySem.Spec PyProof.Rows
theorem vals_ints : ∀ {vs : List Value} {ns : List Int}, IntsAre vs ns → Vals (ns.map V.int) vs
  | _, _, .nil => .nil
  | _, _, .cons n t h => .cons ⟨t, rfl⟩ (vals_ints h)
def Only (H : Hp) : Prop := ∀ b, H b = none ∨ ∃ o xs, H b = some (.frz o (.lst xs))
theorem law_call {P : Program} {w : World} {K : PySem.W.Frag} {mg mb : Str → Option Value} {CX : CXT} {k : Nat} {fa a : Addr} {fd : FuncData} {x : Str} {sp : Sp} {s₁ : Shared} {vs : List Value} {ns : List Int}
    (KX : K.In s₁.heap) (hns : s₁.heap.Ns mainGlobals mg) (hb : s₁.heap.Ns builtinsNs mb) (hbb : ∀ x : Str, x ≠ "__name__" → mb x = bootBuiltins x) (hlim : s₁.heap.NoLimit) (hg : s₁.gens = #[])
    (ha : s₁.heap.get? a = some { cls := .type "list", data := .seq vs.toArray }) (hi : IntsAre vs ns) (hl : ns.length ≤ sizeLine) (hr : Room k callerA)
    (F : ∀ base : Heap, K.In base → base.Ns mainGlobals mg → FnOk P w K mg base CX k fa fd [x] sp) (hbind : ∀ (s : Shared) (u : Value), BindsTo s fd ⟨[u], []⟩ [(x, u)])
    (hsp : ∀ H : Hp, Only H → SqL K H a (ns.map V.int) → sp [.ref a] H (fun v _ => v = .bl true) fun _ _ _ => False)
    (hCX : ∀ H e s', CX [] H s₁ (fun _ _ _ => False) e s' → False) :
    codeAny (model P w) callerA (.call (.ref fa) ⟨[.ref a], []⟩) (fun r s' => r = .ok (.ret (.bool true)) ∧ OldK s₁.heap s'.heap ∧ s'.os = s₁.os ∧ AllBare s'.gens) s₁ := by
  have rv := vals_ints hi
  have lenV := hi.length
  -- from an abstract heap in which nothing but the script may be tracked
  have core : ∀ H : Hp, Only H → SqL K H a (ns.map V.int) → HOk P w H s₁.heap → (∀ b, H b ≠ none → b = a) → (H a ≠ none → K.lookup a = none) →
      codeAny (model P w) callerA (.call (.ref fa) ⟨[.ref a], []⟩) (fun r s' => r = .ok (.ret (.bool true)) ∧ OldK s₁.heap s'.heap ∧ s'.os = s₁.os ∧ AllBare s'.gens) s₁ := by
    intro H hO hS hok hA hK
    have base_of : ∀ {b : Addr} {o : Obj}, s₁.heap.get? b = some o → H b = none → (hidT s₁.heap H).get? b = some o := fun e n => hidT_get e n
    have noA : ∀ {b : Addr} {o : Obj} {es : Array DictEntry} {ep : Nat}, s₁.heap.get? b = some o → o.data = .dict es ep → H b = none := fun {b o es ep} e d => by
      cases q : H b with
      | none => rfl
      | some u =>
        have e' : b = a := hA b (by rw [q]; simp)
        subst e'
        rw [ha] at e; cases e
        have d' : Data.seq vs.toArray _ = Data.dict es ep := d
        cases d'
    have nsK : ∀ {b : Addr} {m : Str → Option Value}, s₁.heap.Ns b m → (hidT s₁.heap H).Ns b m := fun {b m} ⟨o, es, ep, e, d, r⟩ => ⟨o, es, ep, base_of e (noA e d), d, r⟩
    have hKb : K.In (hidT s₁.heap H) := fun b o e => base_of (KX b o e) (by
      cases q : H b with
      | none => rfl
      | some u =>
        have e' : b = a := hA b (by rw [q]; simp)
        subst e'
        rw [hK (by rw [q]; simp)] at e; cases e)
    have hM : Mod K mg (hidT s₁.heap H) := ⟨hKb, nsK hns, ⟨mb, nsK hb, hbb⟩, let ⟨mc, h1, h2⟩ := hlim; ⟨mc, nsK h1, h2⟩⟩
    have e0 : Env0 P w K mg (hidT s₁.heap H) callerA [] s₁ H := ⟨rfl, hM, fun b o e => of_hidT e, Nat.le_of_eq (hidT_size _ _), trivial, fun b hb => absurd (show b ∈ ([] : List Addr) from hb) (by simp), hok, .of_eq hg⟩
    refine codeAny_mono ((F _ hKb (nsK hns)).run callerA [] s₁ H ⟨[.ref a], []⟩ [.ref a] [.ref a] _ _ hr e0 (hbind s₁ (.ref a)) (.cons rfl .nil) (hsp H hO hS)) fun r s' h => ?_
    cases r with
    | error e => exact (hCX H e s' h).elim
    | ok fl =>
      cases fl with
      | next => exact False.elim h
      | brk => exact False.elim h
      | cont => exact False.elim h
      | ret u =>
        obtain ⟨v, H', os, bare, un, hok', r', q⟩ := h
        have q' : v = .bl true := q
        subst q'
        obtain rfl : u = Value.bool true := r'
        refine ⟨rfl, OldK.of_keep fun b o e => ?_, os, bare⟩
        cases q : H b with
        | none => exact un.keep b o e q (by intro z; exact absurd (show b ∈ ([] : List Addr) from z) (by simp)) (by simp)
        | some u =>
          rcases hO b with z | ⟨ob, xs, z⟩
          · rw [q] at z; cases z
          · have z2 := un.frzs b ob _ z
            obtain ⟨e1, _⟩ := hok b _ z
            obtain ⟨e2, _⟩ := hok' b _ z2
            rw [e] at e1; cases e1
            exact e2
  cases hk : K.lookup a with
  | some o =>
    -- the script is one of the module's own objects
    have e := KX a o hk
    rw [ha] at e
    cases e
    refine core (fun _ => none) (fun _ => .inl rfl) (.inr ⟨_, vs.toArray, _, hk, rfl, rfl, rfl, by rw [List.size_toArray, lenV]; exact hl, by simpa using rv⟩) (fun b u z => by have z' : (none : Option HO) = some u := z; cases z') (fun b z => absurd rfl z) fun z => absurd rfl z
  | none =>
    refine core (fun b => if b = a then some (.frz { cls := .type "list", data := .seq vs.toArray } (.lst (ns.map V.int))) else none) (fun b => ?_) (.inl (.inr ⟨{ cls := .type "list", data := .seq vs.toArray }, if_pos rfl⟩)) (fun b u z => ?_) (fun b z => ?_) fun _ => hk
    · by_cases hb : b = a
      · exact .inr ⟨_, _, if_pos hb⟩
      · exact .inl (if_neg hb)
    · by_cases hb : b = a
      · have z' := (if_pos hb).symm.trans z
        cases z'
        subst hb
        exact ⟨ha, by rw [List.length_map]; exact hl, vs, _, rv, ha⟩
      · have z' := (if_neg hb).symm.trans z
        cases z'
    · by_cases hb : b = a
      · exact hb
      · exact absurd (if_neg hb) z
end L2
namespace L2
open PySem PySem.Spec PyProof.Rows
theorem walk_of {l : PySem.W.OpenLaw} {n k : Nat} {q : Program} {loose : List Str} {XP : (Str → Option Value) → Heap → Prop} {YP : World → Heap → Prop} {d : DefRec} {K : Params → PySem.W.Frag} {CX : World → CXT} {sp : World → Sp} {x : Str}
    (hn : l.most = some n) (hn2 : n ≤ sizeLine) (hdf : d.params.defaults = []) (hr : Room k callerA)
    (hY : ∀ (w : World) (h : Heap), YP w h → (K w.params).In h)
    (F : ∀ (w : World) (mg : Str → Option Value) (fa : Addr) (h : Heap), (K w.params).In h → h.Ns mainGlobals mg → mg d.name = some (.ref fa) →
      ∃ fd : FuncData, (∀ (s : Shared) (u : Value), BindsTo s fd ⟨[u], []⟩ [(x, u)]) ∧
        ∀ base : Heap, (K w.params).In base → base.Ns mainGlobals mg → FnOk l.prog w (K w.params) mg base (CX w) k fa fd [x] (sp w))
    (hsp : ∀ (w : World) (H : Hp) (a : Addr) (ns : List Int), ns.length ≤ n → Only H → SqL (K w.params) H a (ns.map V.int) → sp w [.ref a] H (fun v _ => v = .bl true) fun _ _ _ => False)
    (hCX : ∀ (w : World) (H : Hp) (s : Shared) (e : Value) (s' : Shared), CX w [] H s (fun _ _ _ => False) e s' → False) :
    PySem.W.WalkO q loose XP YP l.row.toRowW d [] (fun f vs => PySem.call f vs) := by
  refine Att.attach_call hn hdf fun w s₀ s₁ mg mb fa o pm cd doc a vs ns G Y ho hd hcd hmg hobj hints hlen hg => ?_
  have KX := hY w _ Y
  obtain ⟨fd, hb, hF⟩ := F w mg fa _ KX G.T.g hmg
  exact law_call KX G.T.g G.T.b G.T.builtins G.T.nolimit hg hobj hints (Nat.le_trans hlen hn2) hr hF hb (fun H hO hS => hsp w H a ns hlen hO hS) fun H e s' => hCX w H s₁ e s'
end L2
namespace L2
open PySem PySem.Spec PyProof.Rows
def inClass (s : Stmt) (j : Nat) : Stmt := match s with
  | .ClassDef _ _ _ body _ _ _ _ _ _ _ => body.getD j (.Pass ⟨0, 0, 0, 0⟩)
  | _ => .Pass ⟨0, 0, 0, 0⟩
def defArgs (s : Stmt) : Arguments := match s with
  | .FunctionDef _ a _ _ _ _ _ _ _ _ => a
  | _ => { posonlyargs := [], args := [], vararg := none, kwonlyargs := [], kw_defaults := [], kwarg := none, defaults := [] }
def defBody (s : Stmt) : List Stmt := match s with
  | .FunctionDef _ _ b _ _ _ _ _ _ _ => b
  | _ => []
def defScope (s : Stmt) : Scope := match s with
  | .FunctionDef _ _ _ _ _ _ sc _ _ _ => sc
  | _ => { kind := .function, names := [], isGenerator := false, isCoroutine := false }
abbrev CX0 : CXT := fun _ _ _ _ _ _ => False
abbrev E0 : XK := fun _ _ _ => False
theorem pass0 {X : Cx} : Passes CX0 X E0 := fun _ _ _ _ _ _ _ h => h.elim
structure Fun (K : PySem.W.Frag) (x qual : Str) (st : Stmt) (f : Addr) (fd : FuncData) : Prop where
  ex : ∃ (oc : Value) (od : Option Addr) (kV doc pm : Value) (an : Option Addr) (cdv ct : Value) (osl : Array (Option Value)),
    fd = PySem.W.fnOf x qual (defArgs st) (defBody st) (defScope st) .none kV doc pm an cdv ct ∧ K.lookup f = some ⟨oc, od, .func fd, osl⟩ ∧ PySem.W.codeIn K cdv qual = true
  kp : PySem.W.keepIn K (.ref f) = true
section
variable {P : Program} {w : World} {K : PySem.W.Frag} {mg : Str → Option Value} {base : Heap}
theorem Fun.ok {x qual : Str} {st : Stmt} {f : Addr} {fd : FuncData} {N ps : List Str} {k : Nat} {sp : Sp} (F : Fun K x qual st f fd) (S : FnScope N ps (defScope st)) (len : ∀ vs H Q E, sp vs H Q E → vs.length = ps.length)
    (hbody : ∀ (cdv : Value) (A : Around) (outer : List Env) (s : Shared) (H : Hp) (vs : List V) (Q : VK) (E : XK), Room k (A.deeper (envOfC qual (defScope st) s.heap.objs.size f cdv)) → sp vs H Q E →
      ∃ t, PSs (cxOf CX0 P w K mg base N qual (defScope st) f cdv A outer s H E).nox (defBody st) t ∧ t { nx := fun _ H' => Q .non H', rt := Q } (start N vs) H) : FnOk P w K mg base CX0 (k + 1) f fd ps sp := by
  obtain ⟨oc, od, kV, doc, pm, an, cdv, ct, osl, rfl, lk, hcd⟩ := F.ex
  refine fn_of lk hcd S len fun A outer s H vs Q E hr hsp => ?_
  obtain ⟨t, h, q⟩ := hbody cdv A outer s H vs Q E hr hsp
  exact ⟨t, h.nox, q⟩
theorem Fun.binds {x qual : Str} {st : Stmt} {f : Addr} {fd : FuncData} {ps : List Str} (F : Fun K x qual st f fd)
    (h : ∀ (kV doc pm : Value) (an : Option Addr) (cdv ct : Value) (us : List Value), us.length = ps.length → bindArgs (PySem.W.fnOf x qual (defArgs st) (defBody st) (defScope st) .none kV doc pm an cdv ct) ⟨us, []⟩ = pure (ps.zip us)) : Binds K fd ps [] := by
  obtain ⟨oc, od, kV, doc, pm, an, cdv, ct, osl, rfl, lk, hcd⟩ := F.ex
  exact .all (h kV doc pm an cdv ct)
theorem fun_mk {x qual : Str} {st : Stmt} {f : Addr} {oc : Value} {od an : Option Addr} {osl : Array (Option Value)} {kV doc pm cdv ct : Value} (l : K.lookup f = some ⟨oc, od, .func (PySem.W.fnOf x qual (defArgs st) (defBody st) (defScope st) .none kV doc pm an cdv ct), osl⟩)
    (c : PySem.W.codeIn K cdv qual = true) (k : PySem.W.keepIn K (.ref f) = true) : Fun K x qual st f (PySem.W.fnOf x qual (defArgs st) (defBody st) (defScope st) .none kV doc pm an cdv ct) := ⟨⟨oc, od, kV, doc, pm, an, cdv, ct, osl, rfl, l, c⟩, k⟩
end
section
variable {X : Cx}
end
theorem iteF {A B : Prop} (h : B) : if false = true then A else B := by
  rw [if_neg Bool.false_ne_true]
  exact h
theorem iteT {A B : Prop} (h : A) : if true = true then A else B := by
  rw [if_pos rfl]
  exact h
theorem ite2 {c A B : Prop} [Decidable c] (h1 : c → A) (h2 : ¬ c → B) : if c then A else B := by
  by_cases h : c
  · rw [if_pos h]
    exact h1 h
  · rw [if_neg h]
    exact h2 h
def Same (H H' : Hp) : Prop := ∀ b o, H b = some o → H' b = some o
theorem Same.refl (H : Hp) : Same H H := fun _ _ h => h
theorem Same.trans {H H1 H2 : Hp} (a : Same H H1) (b : Same H1 H2) : Same H H2 := fun c o h => b c o (a c o h)
theorem Same.free {H H' : Hp} (e : Same H H') {l : Addr} (h : H' l = Option.none) : H l = Option.none := by
  cases q : H l with
  | none => rfl
  | some o =>
    rw [e l o q] at h
    cases h
theorem Same.seq {K : PySem.W.Frag} {H H' : Hp} {a : Addr} {xs : List V} (e : Same H H') (h : SqL K H a xs) : SqL K H' a xs := by
  rcases h with (h | ⟨o, h⟩) | h
  · exact .inl (.inl (e _ _ h))
  · exact .inl (.inr ⟨o, e _ _ h⟩)
  · exact .inr h
end L2
namespace L2
open PySem PySem.Spec PyProof.Rows
section
variable {κ : Type} [DecidableEq κ]
def valV (kvs : List (κ × V)) (k : κ) : Option V := (kvs.find? fun kv => decide (kv.1 = k)).map (·.2)
def putK (kvs : List (κ × V)) (k : κ) (v : V) : List (κ × V) :=
  if (kvs.any fun kv => decide (kv.1 = k)) = true then kvs.map (fun kv => if kv.1 = k then (kv.1, v) else kv) else kvs ++ [(k, v)]
def dropK (kvs : List (κ × V)) (k : κ) : List (κ × V) := kvs.filter fun kv => decide (kv.1 ≠ k)
theorem valV_nil {k : κ} : valV ([] : List (κ × V)) k = none := rfl
theorem valV_pos {p : κ × V} {r : List (κ × V)} {k : κ} (e : p.1 = k) : valV (p :: r) k = some p.2 := by simp [valV, List.find?_cons, e]
theorem valV_neg {p : κ × V} {r : List (κ × V)} {k : κ} (e : ¬ p.1 = k) : valV (p :: r) k = valV r k := by simp [valV, List.find?_cons, e]
theorem valV_any (k : κ) : ∀ kvs : List (κ × V), (kvs.any fun kv => decide (kv.1 = k)) = (valV kvs k).isSome
  | [] => rfl
  | p :: r => by
    rw [List.any_cons]
    by_cases e : p.1 = k
    · simp only [valV_pos e, decide_eq_true e, Bool.true_or, Option.isSome_some]
    · rw [valV_neg e, decide_eq_false e, Bool.false_or]; exact valV_any k r
theorem RelO.isSome_eq {o : Option V} {u : Option Value} (r : RelO o u) : o.isSome = u.isSome := by
  cases o with
  | none => cases u with
    | none => rfl
    | some _ => exact (show False from r).elim
  | some _ => cases u with
    | none => exact (show False from r).elim
    | some _ => rfl
theorem RelO.getD {o : Option V} {u : Option Value} {d : V} {d' : Value} (r : RelO o u) (rd : RelV d d') : RelV (o.getD d) (u.getD d') := by
  cases o with
  | none => cases u with
    | none => exact rd
    | some _ => exact (show False from r).elim
  | some _ => cases u with
    | none => exact (show False from r).elim
    | some _ => exact r
theorem KV.val {kvs : List (κ × V)} {vs : List (κ × Value)} (r : KV kvs vs) (k : κ) : RelO (valV kvs k) (valueAt vs k) := by
  unfold KV at r
  induction r with
  | nil => exact True.intro
  | @cons p q ps qs h t ih =>
    obtain ⟨h1, h2⟩ := h
    by_cases e : p.1 = k
    · have e' : q.1 = k := h1.symm.trans e
      have b : valueAt (q :: qs) k = some q.2 := by simp [valueAt, List.find?_cons, e']
      rw [valV_pos e, b]; exact h2
    · have e' : ¬ q.1 = k := fun z => e (h1.trans z)
      have b : valueAt (q :: qs) k = valueAt qs k := by simp [valueAt, List.find?_cons, e']
      rw [valV_neg e, b]; exact ih
theorem KV.any {kvs : List (κ × V)} {vs : List (κ × Value)} (r : KV kvs vs) (k : κ) : (kvs.any fun kv => decide (kv.1 = k)) = vs.any fun kv => decide (kv.1 = k) := by
  unfold KV at r
  induction r with
  | nil => rfl
  | cons h t ih => rw [List.any_cons, List.any_cons, ih, h.1]
theorem KV.repl {kvs : List (κ × V)} {vs : List (κ × Value)} (r : KV kvs vs) (k : κ) {y : V} {u : Value} (ry : RelV y u) :
    KV (kvs.map fun kv => if kv.1 = k then (kv.1, y) else kv) (vs.map fun kv => if kv.1 = k then (kv.1, u) else kv) := by
  unfold KV at r ⊢
  induction r with
  | nil => exact .nil
  | @cons p q ps qs h t ih =>
    rw [List.map_cons, List.map_cons]
    refine .cons ?_ ih
    obtain ⟨h1, h2⟩ := h
    by_cases e : p.1 = k
    · rw [if_pos e, if_pos (h1.symm.trans e)]; exact ⟨h1, ry⟩
    · rw [if_neg e, if_neg (fun z => e (h1.trans z))]; exact ⟨h1, h2⟩
theorem KV.put {kvs : List (κ × V)} {vs : List (κ × Value)} (r : KV kvs vs) (k : κ) {y : V} {u : Value} (ry : RelV y u) : KV (putK kvs k y) (stored vs k u) := by
  unfold putK stored
  rw [r.any k]
  by_cases e : (vs.any fun kv => decide (kv.1 = k)) = true
  · rw [if_pos e, if_pos e]; exact r.repl k ry
  · rw [if_neg e, if_neg e]; exact Paired.snoc r ⟨rfl, ry⟩
theorem KV.drop {kvs : List (κ × V)} {vs : List (κ × Value)} (r : KV kvs vs) (k : κ) : KV (dropK kvs k) (without vs k) := by
  unfold KV at r ⊢
  unfold dropK without
  induction r with
  | nil => exact .nil
  | @cons p q ps qs h t ih =>
    obtain ⟨h1, h2⟩ := h
    rw [List.filter_cons, List.filter_cons]
    by_cases e : p.1 = k
    · have a : ¬ decide (p.1 ≠ k) = true := by simp [e]
      have b : ¬ decide (q.1 ≠ k) = true := by simp [h1.symm.trans e]
      rw [if_neg a, if_neg b]; exact ih
    · have e' : ¬ q.1 = k := fun z => e (h1.trans z)
      have a : decide (p.1 ≠ k) = true := by simp [e]
      have b : decide (q.1 ≠ k) = true := by simp [e']
      rw [if_pos a, if_pos b]; exact .cons ⟨h1, h2⟩ ih
theorem KV.length {kvs : List (κ × V)} {vs : List (κ × Value)} (r : KV kvs vs) : kvs.length = vs.length := Paired.length r
end
abbrev KT (H : Hp) : List (List Key × V) → List (List Key × Addr × Value) → Prop := Paired fun p q => p.1 = q.1 ∧ H q.2.1 = some (.tup (p.1.map kV)) ∧ RelV p.2 q.2.2
theorem KT.val {H : Hp} {kvs : List (List Key × V)} {xs : List (List Key × Addr × Value)} (r : KT H kvs xs) (k : List Key) : RelO (valV kvs k) ((atKey xs k).map (·.2)) := by
  induction r with
  | nil => exact True.intro
  | @cons p q ps qs h t ih =>
    obtain ⟨h1, _, h2⟩ := h
    by_cases e : p.1 = k
    · have e' : q.1 = k := h1.symm.trans e
      have b : atKey (q :: qs) k = some q.2 := by simp [atKey, List.find?_cons, e']
      rw [valV_pos e, b]; exact h2
    · have e' : ¬ q.1 = k := fun z => e (h1.trans z)
      have b : atKey (q :: qs) k = atKey qs k := by simp [atKey, List.find?_cons, e']
      rw [valV_neg e, b]; exact ih
theorem KT.repl {H : Hp} {kvs : List (List Key × V)} {xs : List (List Key × Addr × Value)} (r : KT H kvs xs) (k : List Key) {y : V} {u : Value} (ry : RelV y u) :
    KT H (kvs.map fun kv => if kv.1 = k then (kv.1, y) else kv) (xs.map (putAt k u)) := by
  induction r with
  | nil => exact .nil
  | @cons p q ps qs h t ih =>
    rw [List.map_cons, List.map_cons]
    refine .cons ?_ ih
    obtain ⟨h1, h2, h3⟩ := h
    unfold putAt
    by_cases e : p.1 = k
    · rw [if_pos e, if_pos (h1.symm.trans e)]; exact ⟨h1, h2, ry⟩
    · rw [if_neg e, if_neg (fun z => e (h1.trans z))]; exact ⟨h1, h2, h3⟩
theorem KT.put {H : Hp} {kvs : List (List Key × V)} {xs : List (List Key × Addr × Value)} (r : KT H kvs xs) (k : List Key) {b : Addr} {y : V} {u : Value} (hb : H b = some (.tup (k.map kV))) (ry : RelV y u) :
    KT H (putK kvs k y) (storedH xs k b u) := by
  have e : (kvs.any fun kv => decide (kv.1 = k)) = (atKey xs k).isSome := by
    rw [valV_any, (r.val k).isSome_eq, Option.isSome_map]
  unfold putK storedH
  rw [e]
  by_cases q : (atKey xs k).isSome = true
  · rw [if_pos q, if_pos q]; exact r.repl k ry
  · rw [if_neg q, if_neg q]; exact Paired.snoc r ⟨rfl, hb, ry⟩
theorem KT.keeps {H H' : Hp} {kvs : List (List Key × V)} {xs : List (List Key × Addr × Value)} (r : KT H kvs xs) (ht : ∀ b ys, H b = some (.tup ys) → H' b = some (.tup ys)) : KT H' kvs xs :=
  Paired.mapP r fun _ _ z => ⟨z.1, ht _ _ z.2.1, z.2.2⟩
section
variable {P : Program} {w : World} {H : Hp} {h : Heap} {a : Addr}
end
def DGet (H : Hp) (a : Addr) (y : V) (r : Option V) : Prop :=
  (∃ kvs k, Rd H a (.dK kvs) ∧ y = kV k ∧ r = valV kvs k) ∨ ∃ kvs k b, Rd H a (.dT kvs) ∧ y = .ref b ∧ H b = some (.tup (k.map kV)) ∧ r = valV kvs k
def DPut (H : Hp) (a : Addr) (y v : V) (H' : Hp) : Prop :=
  (∃ kvs k, H a = some (.dK kvs) ∧ y = kV k ∧ kvs.length < sizeLine ∧ H' = upd H a (.dK (putK kvs k v))) ∨
  ∃ kvs k b, H a = some (.dT kvs) ∧ y = .ref b ∧ H b = some (.tup (k.map kV)) ∧ kvs.length < sizeLine ∧ H' = upd H a (.dT (putK kvs k v))
theorem DGet.k {H : Hp} {a : Addr} {kvs : List (Key × V)} {k : Key} (e : H a = some (.dK kvs)) : DGet H a (kV k) (valV kvs k) := .inl ⟨kvs, k, .inl e, rfl, rfl⟩
theorem DGet.t {H : Hp} {a b : Addr} {kvs : List (List Key × V)} {k : List Key} (e : H a = some (.dT kvs)) (eb : H b = some (.tup (k.map kV))) : DGet H a (.ref b) (valV kvs k) := .inr ⟨kvs, k, b, .inl e, rfl, eb, rfl⟩
theorem DPut.k {H : Hp} {a : Addr} {kvs : List (Key × V)} {k : Key} {v : V} (e : H a = some (.dK kvs)) (hl : kvs.length < sizeLine) : DPut H a (kV k) v (upd H a (.dK (putK kvs k v))) := .inl ⟨kvs, k, e, rfl, hl, rfl⟩
theorem DPut.t {H : Hp} {a b : Addr} {kvs : List (List Key × V)} {k : List Key} {v : V} (e : H a = some (.dT kvs)) (eb : H b = some (.tup (k.map kV))) (hl : kvs.length < sizeLine) :
    DPut H a (.ref b) v (upd H a (.dT (putK kvs k v))) := .inr ⟨kvs, k, b, e, rfl, eb, hl, rfl⟩
section
variable {X : Cx} {pins : List (Addr × Obj)} {σ : St} {H : Hp} {s : Shared} {a : Addr} {y v : V} {u r : Value} {o : Option V} {A : Around} {E : Value → Shared → Prop}
end
section
variable {X : Cx} {pins : List (Addr × Obj)} {σ : St} {H : Hp} {s : Shared} {a : Addr} {kvs : List (Key × V)} {k : Key} {u : Value} {A : Around} {E : Value → Shared → Prop}
end
section
variable {X : Cx} {o i e value : Expr} {pos pos' tpos : Pos} {td ty tv : TE}
end
section
variable {X : Cx} {pos : Pos}
end
structure M1 (X : Cx) (o : Expr) (m : Str) (apos : Pos) (e : Expr) (cpos : Pos) : Prop where
  base : attributeBase o m X.env (eval o X.env) = eval o X.env
  few : ((backTo cpos (starEach [e] X.env)).all (fun x => !x.1) && (backToKw cpos (keywordEach [] X.env)).all (fun x => x.1.isSome)
    && decide (([e] : List Expr).length + ([] : List Keyword).length + (if ([] : List Keyword).isEmpty then 0 else 1) < 30)) = true
  line : (apos.endLine == cpos.line) = true
  trees : backTo cpos (starEach [e] X.env) = [(false, eval e X.env)]
structure M2 (X : Cx) (o : Expr) (m : Str) (apos : Pos) (e f : Expr) (cpos : Pos) : Prop where
  base : attributeBase o m X.env (eval o X.env) = eval o X.env
  few : ((backTo cpos (starEach [e, f] X.env)).all (fun x => !x.1) && (backToKw cpos (keywordEach [] X.env)).all (fun x => x.1.isSome)
    && decide (([e, f] : List Expr).length + ([] : List Keyword).length + (if ([] : List Keyword).isEmpty then 0 else 1) < 30)) = true
  line : (apos.endLine == cpos.line) = true
  trees : backTo cpos (starEach [e, f] X.env) = [(false, eval e X.env), (false, eval f X.env)]
section
variable {X : Cx} {pins : List (Addr × Obj)} {σ : St} {H : Hp} {s : Shared} {a : Addr} {y d : V} {u r : Value} {o : Option V} {A : Around} {E : Value → Shared → Prop}
end
section
variable {X : Cx} {o e f : Expr} {apos cpos : Pos} {td ty tx : TE}
end
section
variable {X : Cx} {pins : List (Addr × Obj)} {σ : St} {H : Hp} {s : Shared} {a : Addr} {kvs : List (Key × V)} {A : Around} {E : Value → Shared → Prop}
end
section
variable {X : Cx} {pins : List (Addr × Obj)} {σ : St} {H : Hp} {s : Shared} {a : Addr} {y : V} {u : Value} {A : Around} {E : Value → Shared → Prop}
end
end L2
set_option maxHeartbeats 4000000
namespace Br
open PySem PySem.Spec PyProof.Rows L2
structure Callee (CX : CXT) (P : Program) (w : World) (K : PySem.W.Frag) (mg : Str → Option Value) (base : Heap) (x : Str) (k : Nat) (ps : List Str) (sp : Sp) : Prop where
  ex : ∃ f fd, FnOk P w K mg base CX k f fd ps sp ∧ mg x = some (.ref f) ∧ PySem.W.keepIn K (.ref f) = true ∧ Binds K fd ps []
section
variable {X : Cx} {CX : CXT} {k : Nat} {ps : List Str} {sp : Sp} {E : XK} {x : Str} {p pos : Pos} {e : Expr} {es : List Expr} {t : TA}
theorem pe_callS (c : Callee CX0 X.prog X.w X.K X.mg X.base x k ps sp) (hr : Room k X.A) (hg : Gl X x) (ha : PA X (e :: es) t) (hdb : (x == ("__debug__" : Str)) = false := by decide)
    (he : starEach (e :: es) X.env = (false, eval e X.env) :: starEach es X.env := by rfl) (hpl : (backTo pos (starEach es X.env)).any (·.1) = false := by rfl) :
    PE X (.Call (.Name x p) (e :: es) [] pos) (tCall sp [] E0 t) := by
  obtain ⟨f, fd, F, hm, hk, hb⟩ := c.ex
  exact pe_call F hr hg hm hk hb .nil pass0 ha hdb he hpl
end
section
variable {X : Cx} {a b : Expr} {ta tb : TE} {pos : Pos}
def CDivB (i j : Int) : Prop := 0 < j ∧ j < 2 ^ 8000
theorem log2_of {y : Int} (h0 : 0 < y) (h1 : y < 2 ^ 8000) : y.natAbs.log2 < 9000 := by
  have h : y.natAbs < 2 ^ 8000 := by
    have e : ((2 : Int) ^ 8000) = ((2 ^ 8000 : Nat) : Int) := by norm_cast
    rw [e] at h1
    omega
  have h2 : y.natAbs.log2 < 8000 := (Nat.log2_lt (by omega)).mpr h
  omega
theorem op_fdivB : OpR X (binaryOp .FloorDiv) (rI CDivB fun i j => .int (i / j)) := opI fun i j _ _ _ _ _ hc q => by
  have e : i / j = i.fdiv j := (Int.fdiv_eq_ediv_of_nonneg _ (Int.le_of_lt hc.1)).symm
  rw [e] at q
  exact floordiv_int (Int.ne_of_gt hc.1) q (.inl (PyProof.noPylong_of_log2 (log2_of hc.1 hc.2)))
def CMulB (i j : Int) : Prop := i.natAbs < 2 ^ 8000 ∧ j.natAbs < 2 ^ 8000
theorem bits_of {i : Int} (h : i.natAbs < 2 ^ 8000) : Builtin.Int.intBits i ≤ 2 ^ 20 := Nat.le_trans (intBits_le h) (by decide)
end
inductive At : List Str → Nat → Str → Prop where
  | here {x : Str} {l : List Str} : At (x :: l) 0 x
  | there {x y : Str} {l : List Str} {i : Nat} : At l i x → At (y :: l) (i + 1) x
theorem At.get : ∀ {l : List Str} {i : Nat} {x : Str}, At l i x → l[i]? = some x
  | _, _, _, .here => rfl
  | _, _, _, .there h => by simpa using h.get
section
variable {X : Cx} {a b c e o : Expr} {es rest : List Expr} {ta tb tc te to : TE} {tA tB' : TT} {t : TA} {pos p apos p2 : Pos} {x : Str} {i : Nat} {N : List Str}
theorem r_name (h : At X.N i x) (hk : X.env.scope.names.lookup x = some .local) (hd : (x == ("__debug__" : Str)) = false) (hcd : (x == ("__classdict__" : Str)) = false) : PE X (.Name x pos) (tVar i) := pe_var h.get (.inl hk) hd hcd
theorem r_bin {op : Operator} {r : R2} (ho : OpR X (binaryOp op) r) (ha : PE X a ta) (hb : PE X b tb) : PE X (.BinOp a op b pos) (tOp r ta tb) := pe_op ho ha hb
theorem r_cmp {op : CmpOp} {r : R2} (h1 : op ≠ .In) (h2 : op ≠ .NotIn) (ho : OpR X (compareOp op) r) (ha : PE X a ta) (hb : PE X b tb) : PE X (.Compare a [op] [b] pos) (tOp r ta tb) := pe_cmpR ho ha hb (nomark _ h1 h2)
theorem t_cmp {op : CmpOp} {r : R2} (h1 : op ≠ .In) (h2 : op ≠ .NotIn) (ho : OpR X (compareOp op) r) (ha : PE X a ta) (hb : PE X b tb) : PT X (.Compare a [op] [b] pos) (tTest (tOp r ta tb)) := pt_cmpR ho ha hb (nomark _ h1 h2)
theorem r_neg (ha : PE X a ta) : PE X (.UnaryOp .USub a pos) (tUn (rU fun i => .int (-i)) ta) := pe_un un_neg ha
theorem t_call {f : Expr} {ks : List Keyword} (h : PE X (.Call f es ks pos) te) : PT X (.Call f es ks pos) (tB te) := pt_val h (fun _ => rfl)
theorem r_ix (hs : PlainIx b) (ha : PE X a ta) (hb : PE X b tb) : PE X (.Subscript a b pos) (tOp (rIx X.K) ta tb) := pe_ix ix_seq ha hb hs
theorem r_acons (hs : starEach (e :: es) X.env = (false, eval e X.env) :: starEach es X.env) (ha : PE X e te) (hr : PA X es t) : PA X (e :: es) (tCons te t) := pa_cons ha hr hs
theorem r_call {k : Nat} {ps : List Str} {sp : Sp} (c : Callee CX0 X.prog X.w X.K X.mg X.base x k ps sp) (hr : Room k X.A) (hg : Gl X x) (hdb : (x == ("__debug__" : Str)) = false)
    (he : starEach (e :: es) X.env = (false, eval e X.env) :: starEach es X.env) (hpl : (backTo pos (starEach es X.env)).any (·.1) = false) (ha : PA X (e :: es) t) : PE X (.Call (.Name x p) (e :: es) [] pos) (tCall sp [] E0 t) := pe_callS c hr hg ha hdb he hpl
def rLen (K : PySem.W.Frag) : List V → Hp → VK → Prop := fun xs H Q => (∃ p ys, xs = [.ref p] ∧ (SqL K H p ys ∨ SqT K H p ys) ∧ Q (.int ys.length) H) ∨ ∃ z, xs = [.str z] ∧ z.length ≤ sizeLine ∧ Q (.int z.length) H
theorem call_lenA : CallR X (.builtin "len") (rLen X.K) := by
  intro pins s σ H xs us Q I r h
  rcases h with h | h
  · exact call_len_seq pins s σ H xs us Q I r h
  · exact call_len_str pins s σ H xs us Q I r h
section
variable (hg : Gl X x) (he : starEach (e :: es) X.env = (false, eval e X.env) :: starEach es X.env) (hpl : (backTo pos (starEach es X.env)).any (·.1) = false)
include hg he hpl
theorem r_len (hx : x = "len") (hm : X.mg x = none) (ha : PA X (e :: es) t) : PE X (.Call (.Name x p) (e :: es) [] pos) (tCB (rLen X.K) t) := by subst hx; exact pe_callB call_lenA hg hm PySem.boot_len ha (by decide) (by decide) he hpl
theorem r_max (hx : x = "max") (hc : X.calm = true) (hm : X.mg x = none) (ha : PA X (e :: es) t) : PE X (.Call (.Name x p) (e :: es) [] pos) (tCB (fun xs H Q => ∃ i j, xs = [.int i, .int j] ∧ Q (.int (if j > i then j else i)) H) t) := by subst hx; exact pe_callB (call_max2 hc) hg hm boot_max ha (by decide) (by decide) he hpl
theorem r_min (hx : x = "min") (hc : X.calm = true) (hm : X.mg x = none) (ha : PA X (e :: es) t) : PE X (.Call (.Name x p) (e :: es) [] pos) (tCB (fun xs H Q => ∃ i j, xs = [.int i, .int j] ∧ Q (.int (if j < i then j else i)) H) t) := by subst hx; exact pe_callB (call_min2 hc) hg hm boot_min ha (by decide) (by decide) he hpl
end
variable {st : Stmt} {sts : List Stmt} {t1 t2 : TS}
theorem r_ret (he : PE X e te) : PS X (.Return (some e) pos) (tRet te) := ps_ret he
theorem r_set (h : At X.N i x) (hN : X.N.Nodup) (hk : X.env.scope.names.lookup x = some .local) (hs : swapsWith e (some (.Name x p)) pos.line X.env = pure false) (he : PE X e te) : PS X (.Assign [.Name x p] e pos) (tAsg te (gName i)) :=
  ps_set hN h.get (.inl hk) he hs (.inr hk)
theorem r_expr (hs : swapsWith e none pos.line X.env = pure false) (he : PE X e te) : PS X (.Expr e pos) (tDrop te) := ps_expr he hs
theorem r_for {iter tg : Expr} {body : List Stmt} {wi : TI} {g : TG} {tb : TS} (hp : PassesOwn (model X.prog X.w) X.A X.env X.xe) (hc : X.calm = true) (hs : ∀ x, foldedSetIterable iter X.env x = pure x) (hi : PI X tg iter wi) (hg : PG X tg g) (hb : PSs X body tb) : PS X (.For tg iter body [] pos) (tFor wi g tb) := ps_for hp hc hi hg hb hs
theorem r_gname (h : At X.N i x) (hN : X.N.Nodup) (hk : X.env.scope.names.lookup x = some .local) : PG X (.Name x pos) (gName i) := pg_name hN h.get (.inl hk) (.inr hk)
theorem r_irange1 {tg : Expr} (hx : x = "range") (hg : Gl X x) (hm : X.mg x = none) (hs : starEach [a] X.env = [(false, eval a X.env)]) (ha : PA X [a] t) : PI X tg (.Call (.Name x p) [a] [] pos) (iRng1 t) := by subst hx; exact pi_range1 hg hm ha hs
theorem r_append {cpos : Pos} (hbase : attributeBase o "append" X.env (eval o X.env) = eval o X.env) (hfew : ((backTo cpos (starEach [e] X.env)).all (fun x => !x.1) && (backToKw cpos (keywordEach [] X.env)).all (fun x => x.1.isSome)
      && decide (([e] : List Expr).length + ([] : List Keyword).length + (if ([] : List Keyword).isEmpty then 0 else 1) < 30)) = true) (hline : (apos.endLine == cpos.line) = true) (hs : starEach [e] X.env = (false, eval e X.env) :: starEach [] X.env)
    (hpl : (backTo cpos (starEach [] X.env)).any (·.1) = false) (ho : PE X o to) (ha : PA X [e] t) : PE X (.Call (.Attribute o "append" apos) [e] [] cpos) (tBM X.K "list" rAppend to t) :=
  pe_bm PySem.F.plainAttrs_list PySem.F.slot_list_append PySem.F.type_list_append mt_append ho ha hbase hfew hline hs hpl
end
def tMid (t : TS) : TS := fun D σ H => ∃ M : L2.St → Hp → Prop, t { D with nx := M } σ H ∧ ∀ σ' H', M σ' H' → D.nx σ' H'
theorem ps_mid {X : Cx} {st : Stmt} {t : TS} (h : PS X st t) : PS X st (tMid t) := by
  intro pins s σ H D I hq
  obtain ⟨M, h1, h2⟩ := hq
  refine thn (h pins s σ H { D with nx := M } I h1) fun f s1 q => ?_
  cases f with
  | next =>
    obtain ⟨σ', H', I', q⟩ := q
    exact ⟨σ', H', I', h2 _ _ q⟩
  | ret v => exact q
  | brk => exact q
  | cont => exact q
theorem r_ifM {X : Cx} {c : Expr} {tA : TT} {t1 t2 : TS} {pos : Pos} {aa bb : List Stmt} (hc : PT X c tA) (ha : PSs X aa t1) (hb : PSs X bb t2) : PS X (.If c aa bb pos) (tMid (tIfS tA t1 t2)) := ps_mid (ps_if hc ha hb)
theorem atI_ints {zs : List Int} {i : Int} (h0 : 0 ≤ i) (h1 : i < zs.length) : ∃ z, z ∈ zs ∧ zs[i.toNat]? = some z ∧ atI (zs.map V.int) i = some (V.int z) := by
  have hl : i.toNat < zs.length := by omega
  have e : zs[i.toNat]? = some zs[i.toNat] := List.getElem?_eq_getElem hl
  have e1 : (zs.map V.int)[i.toNat]? = some (V.int zs[i.toNat]) := by rw [List.getElem?_map, e]; rfl
  have e2 := atI_nat e1
  rw [Int.toNat_of_nonneg h0] at e2
  exact ⟨_, List.getElem_mem hl, e, e2⟩
theorem Same.upd {H : Hp} {p : Addr} {o : HO} (h : H p = none) : L2.Same H (upd H p o) := fun b u e => by rw [upd_ne (ne_of_none e h)]; exact e
theorem Same.up {H H' : Hp} {p : Addr} {o : HO} (s : L2.Same H H') (h : H' p = none) : L2.Same H (L2.upd H' p o) := s.trans (Same.upd h)
theorem lenLe {n : Nat} {xs : List V} (h : xs.length = n) (h2 : n ≤ 1000) : xs.length ≤ sizeLine := by rw [h]; exact Nat.le_trans h2 (by decide)
theorem lt250 {n : Nat} (h : n < 2 ^ 250) : n < 2 ^ 8000 := Nat.lt_of_lt_of_le h (Nat.pow_le_pow_right (by decide) (by decide))
theorem ilt250 {n : Int} (h : n < 2 ^ 250) : n < 2 ^ 8000 := by
  have e : ((2 : Int) ^ 8000) = ((2 ^ 8000 : Nat) : Int) := by norm_cast
  have e2 : ((2 : Int) ^ 250) = ((2 ^ 250 : Nat) : Int) := by norm_cast
  rw [e2] at h
  rw [e]
  exact Int.lt_of_lt_of_le h (Int.ofNat_le.mpr (Nat.pow_le_pow_right (by decide) (by decide)))
theorem mulB {i j : Int} (h1 : i.natAbs < 2 ^ 250) (h2 : j.natAbs < 2 ^ 250) : CMulB i j := ⟨lt250 h1, lt250 h2⟩
theorem divB {i j : Int} (h1 : 0 < j) (h2 : j < 2 ^ 250) : CDivB i j := ⟨h1, ilt250 h2⟩
end Br
namespace Br
open PySem PySem.Spec PyProof.Rows L2
section
variable {X : Cx} {a b c e o : Expr} {es rest : List Expr} {ta tb tc te to : TE} {t : TA} {pos p apos p2 : Pos} {x : Str} {i j : Nat}
theorem op_isnotB : OpR X (compareOp .IsNot) (fun x y H Q => ∃ a b : Bool, x = .bl a ∧ y = .bl b ∧ Q (.bl (!decide (a = b))) H) := by
  intro pins s σ H x y v u Q I rx ry h
  obtain ⟨a, b, rfl, rfl, q⟩ := h
  cases rx
  cases ry
  exact wpAny_isNot_plain rfl (fin_bl I q (by cases a <;> cases b <;> rfl))
theorem r_unpack2 {y : Str} {px py pt : Pos} {kt : Nat} (hi : At X.N i x) (hj : At X.N j y) (hc : X.calm = true) (hN : X.N.Nodup) (hx : X.env.scope.names.lookup x = some .local) (hy : X.env.scope.names.lookup y = some .local)
    (h1 : (assignEach [.Name x px, .Name y py] X.env).map (·.2) = assign (.Name x px) X.env :: (assignEach [.Name y py] X.env).map (·.2))
    (h2 : (assignEach [.Name y py] X.env).map (·.2) = assign (.Name y py) X.env :: (assignEach [] X.env).map (·.2))
    (hn : (assignEach [.Name x px, .Name y py] X.env).length = 2) (hst : (assignEach [.Name x px, .Name y py] X.env).findIdx? (·.1) = none)
    (hs : swapsWithSole [.Tuple [.Name x px, .Name y py] kt pt] e pos.line X.env = pure false) (hw : swappedStores [.Tuple [.Name x px, .Name y py] kt pt] e X.env = pure none)
    (h3 : (assignEach [.Tuple [.Name x px, .Name y py] kt pt] X.env).map (·.2) = [assign (.Tuple [.Name x px, .Name y py] kt pt) X.env]) (he : PE X e te) :
    PS X (.Assign [.Tuple [.Name x px, .Name y py] kt pt] e pos) (tAsg te (gTup X.K 2 (gCons (gName i) (gCons (gName j) gNil)))) :=
  ps_asg he (pg_tup hc (pgs_cons (pg_name hN hi.get (.inl hx) (.inr hx)) (pgs_cons (pg_name hN hj.get (.inl hy) (.inr hy)) pgs_nil h2) h1) hn hst) hs hw h3
def tTupS (t : TA) : TE := fun σ H Q => t σ H fun xs H1 => xs.length ≤ sizeLine ∧ ∀ p H2, H1 p = none → L2.Same H1 H2 → H2 p = some (.tup xs) → Q (.ref p) H2
def tLstS (t : TA) : TE := fun σ H Q => t σ H fun xs H1 => xs.length ≤ sizeLine ∧ ∀ p H2, H1 p = none → L2.Same H1 H2 → H2 p = some (.lst xs) → Q (.ref p) H2
def rCatS : R2 := fun x y H Q => ∃ l b xs zs, x = .ref l ∧ y = .ref b ∧ H l = some (.lst xs) ∧ H b = some (.lst zs) ∧ xs.length + zs.length ≤ sizeLine ∧ ∀ p H2, H p = none → L2.Same H H2 → H2 p = some (.lst (xs ++ zs)) → Q (.ref p) H2
theorem r_tupS {k : Nat} (h : PA X es t) : PE X (.Tuple es k pos) (tTupS t) := fun pins s σ H Q I q => wpAny_Tuple_spliced (thn (h pos pins s σ H _ I q) fun us s1 ⟨xs, H1, I1, r, z, q⟩ => ⟨by rw [← r.length]; exact z, by
  have hf : H1 s1.heap.objs.size = none := I1.hok.fresh (Nat.le_refl _)
  refine ⟨.ref s1.heap.objs.size, upd H1 s1.heap.objs.size (.tup xs), I1.laid (t' := s1.toks) (fun b u e => Heap.get?_push_of_some _ e) (Nat.le_refl _) ?_, rfl, q _ _ hf (Br.Same.upd hf) upd_same⟩
  exact ⟨z, us, r, ⟨_, Heap.get?_push_size _ rfl, rfl, _, rfl⟩⟩⟩)
theorem r_lstS (h : PA X es t) : PE X (.List es pos) (tLstS t) := fun pins s σ H Q I q => wpAny_List_spliced (thn (h pos pins s σ H _ I q) fun us s1 ⟨xs, H1, I1, r, z, q⟩ => ⟨by rw [← r.length]; exact z, by
  have hf : H1 s1.heap.objs.size = none := I1.hok.fresh (Nat.le_refl _)
  refine ⟨.ref s1.heap.objs.size, upd H1 s1.heap.objs.size (.lst xs), I1.laid (t' := s1.toks) (fun b u e => Heap.get?_push_of_some _ e) (Nat.le_refl _) ?_, rfl, q _ _ hf (Br.Same.upd hf) upd_same⟩
  exact ⟨z, us, 0, r, Heap.get?_push_size _ rfl⟩⟩)
theorem op_catS : OpR X (binaryOp .Add) rCatS := fun pins s σ H x y v u Q I rx ry h => by
  obtain ⟨l, b, xs, zs, e1, e2, h1, h2, hz, q⟩ := h
  exact op_cat pins s σ H x y v u Q I rx ry ⟨l, b, xs, zs, e1, e2, h1, h2, hz, fun p hp => q p _ hp (Br.Same.upd hp) upd_same⟩
end
theorem TyOf.mono {K : PySem.W.Frag} {H H' : Hp} {v : V} {ty : Value} (s : L2.Same H H') (t : TyOf K H v ty) : TyOf K H' v ty := by
  cases t with
  | non => exact .non
  | bl b => exact .bl b
  | int i => exact .int i
  | str x => exact .str x
  | flt x => exact .flt x
  | lst e => exact .lst (s _ _ e)
  | frz e => exact .frz (s _ _ e)
  | tup e => exact .tup (s _ _ e)
  | dK e => exact .dK (s _ _ e)
  | dT e => exact .dT (s _ _ e)
  | ins e a b c d f => exact .ins (s _ _ e) a b c d f
end Br
namespace Br
open PySem PySem.Spec PySem.Calls PyProof.Rows L2 PySem.W PySem.Builtin.Getset_descriptor
structure ExcC (K : Frag) (C : Addr) : Prop where
  ga : findIn K (.ref C) "__getattribute__" = some (some (.builtin "BaseException.__getattribute__"))
  hk : findIn K (.ref C) "__getattr__" = some none
  ha : findIn K (.ref C) "__class__" = some (some (.builtin "object.__class__"))
  hn : specialIn K (.builtin "object.__class__") "__get__" = some (some (.builtin "getset_descriptor.__get__"))
  htk : takesIn K (.builtin "object.__class__") = some true
  hm : mroIn K C (.type "object") = some true
  hb : mroIn K C (.type "BaseException") = some true
def ExcAt (e C : Addr) (h : Heap) : Prop := ∃ o, h.get? e = some o ∧ o.cls = .ref C
theorem ExcAt.ty {M : Model} {e C : Addr} {h : Heap} (x : ExcAt e C h) : Looks M h (typeOf (.ref e)) (.ref C) := by
  obtain ⟨o, h1, h2⟩ := x
  rw [← h2]
  exact (Looks.ld h1).andThen .now
section
variable {prog : Program} {w : World} {A : Around} {E : Value → Shared → Prop} {s : Shared} {K : Frag} {x C : Addr}
theorem ExcC.finds {M : Model} {h : Heap} (T : ExcC K C) (X : K.In h) : Looks M h (Builtin.ObjectAttr.find (.ref x) (.ref C) "__class__") (.bind (.builtin "getset_descriptor.__get__") (.builtin "object.__class__")) := by
  have d : Looks M h (Builtin.ObjectAttr.dataDescriptor? (some (.builtin "object.__class__")) (some (.builtin "getset_descriptor.__get__"))) (some (.builtin "getset_descriptor.__get__", .builtin "object.__class__")) :=
    (looks_takesIn (M := M) X T.htk).andThen .now
  exact (looks_findIn (M := M) X T.ha).andThen (Looks.andThen (looks_specialIn (M := M) X T.hn) (d.andThen (Looks.tag .now)))
theorem exc_get {R : Result → Shared → Prop} {tp : Value} (X : K.In s.heap) (I : ExcAt x C s.heap) (hm : mroIn K C (.type "object") = some true) (h : R (.ok (.ret (.ref C))) s) :
    codeAny (model prog w) A (.call (.builtin "getset_descriptor.__get__") ⟨[.builtin "object.__class__", .ref x, tp], []⟩) R s := by
  have ob := fun {Q' : Value → Shared → Prop} {E' : Value → Shared → Prop} {A' : Around} => (fun q : Q' (.ref C) s => I.ty (M := model prog w) A' Q' E' s (fun _ _ e => e) q)
  have mr := fun {Q' : Bool → Shared → Prop} {E' : Value → Shared → Prop} {A' : Around} => (fun q : Q' true s => looks_mroIn (M := model prog w) X hm A' Q' E' s (fun _ _ e => e) q)
  apply codeAny_call_builtin KF.slot_gs.plain KF.entry_gs
  refine KF.slot_gs.check _ _ _ _ _ _ _ _ KF.type_class (KF.args_gs _ _ _) ?_
  wp_walk using ob, mr
  rw [show (".".intercalate ("object.__class__".cutAt '.').dropLast) = "object" from by decide +kernel]
  wp_walk using mr
  refine ⟨Code.quiet_builtin _ (by decide +kernel), codeAny_builtin KF.entry_class ?_⟩
  wp_walk using ob
  exact h
theorem exc_cls {Q : Option Value → Shared → Prop} (T : ExcC K C) (X : K.In s.heap) (I : ExcAt x C s.heap) (h : Q (some (.ref C)) { s with toks := s.toks + 1 }) : wpAny (model prog w) A (getAttr? (.ref x) "__class__") Q E s := by
  have L0 := I.ty (M := model prog w)
  have L1 := looks_findIn (M := model prog w) X T.ga
  have L2 := looks_findIn (M := model prog w) X T.hk
  have L3 := T.finds (M := model prog w) (x := x) X
  have L4 := looks_mroIn (M := model prog w) X T.hb
  obtain ⟨hh, g, d, t, os⟩ := s
  unfold getAttr? getAttrBy? getAttrBy
  refine wpAny_bind (wpAny_mkText (wpAny_bind (wpAny_attempt (wpAny_holding ?_))))
  refine wpAny_bind (L0.at (wpAny_bind (L1.at ?_)))
  show wpAny _ _ (getAttrByItsOwn _ _ _ _ _ _) _ _ _
  unfold getAttrByItsOwn hookBefore
  rw [if_pos (show onTheHeap (Value.ref C) = true from rfl)]
  refine wpAny_bind (L2.at (wpAny_bind (wpAny_attempt (wpAny_holding ?_))))
  show wpAny _ _ (boundAndCalled _ _ _) _ _ _
  unfold boundAndCalled
  rw [F.attr_ValueError.ga.bind]
  refine wpAny_bind (wpAny_pure ?_)
  show wpAny _ _ (call (.builtin "BaseException.__getattribute__") [.ref x, .str "__class__" t]) _ _ _
  have hsp : splitId "BaseException.__getattribute__" = some ("BaseException", "__getattribute__") := by decide +kernel
  have hkk : builtinKind "BaseException.__getattribute__" = some .slot := by decide +kernel
  have ha := F.args_bexc_ga (.ref x) (.str "__class__" t)
  refine wpAny_call (codeAny_call_builtin F.attr_ValueError.ga.plain F.entry_bexc_ga ?_)
  simp only [checkBuiltinCall, hkk, hsp]
  refine wpAny_bind ?_
  · unfold isInstance
    refine wpAny_bind (L0.at (L4.at ?_))
    simp only [Bool.not_true, Bool.false_eq_true, if_false]
    repeat (any_goals (first | assumption | wp_step))
    obtain ⟨oe, he, hce⟩ := id I
    refine wpAny_loadPart_at he ?_
    rw [hce]
    refine wpAny_pure (wpAny_bind (L3.at ?_))
    show wpAny _ _ (do ret (← holding [_] (call _ [_, _, _]))) _ _ _
    refine wpAny_bind (wpAny_holding (wpAny_call (exc_get X I T.hm (wpAny_pure ?_))))
    exact handed_on rfl (wpAny_pure h)
theorem ExcC.cls {h : Heap} (T : ExcC K C) (X : K.In h) : ∃ (c : Value) (d : Option Addr) (cd : ClassData) (sl : Array (Option Value)), h.get? C = some ⟨c, d, .cls cd, sl⟩ := by
  obtain ⟨cd, q, _⟩ := Option.bind_eq_some_iff.mp T.hm
  unfold clsIn at q
  split at q
  · rename_i ho
    exact ⟨_, _, _, _, X _ _ ho⟩
  · cases q
theorem ExcC.isType {M : Model} {h : Heap} (T : ExcC K C) (X : K.In h) : Looks M h (isType (.ref C)) true := fun A Q E s k z => by
  obtain ⟨c, d, cd, sl, ho⟩ := T.cls X
  unfold PySem.isType loadHead
  exact wpAny_bind (wpAny_loadPart (k _ _ ho) (wpAny_pure z))
theorem kitx_exc (T : ExcC K C) : KitX K (.ref x) (.ref C) (ExcAt x C) where
  ty := fun _ _ _ p => p.ty
  it := fun _ _ X _ => T.isType X
  ne := fun h tp dd its n sl X htp => by
    obtain ⟨c, d, cd, sl', hc⟩ := T.cls X
    refine Bool.eq_false_iff.mpr fun q => ?_
    rw [Value.ref.inj (beq_iff_eq.mp q), htp] at hc
    cases hc
  ca := fun X p k => exc_cls T X p k
end
end Br
namespace Br
open PySem PySem.Spec PySem.Calls PyProof.Rows L2
section
variable {P : Program} {w : World} {H H' : Hp} {h h' : Heap} {a : Addr} {o : HO}
theorem objGot (x : ObjOk P w H h a o) : ∃ ob, h.get? a = some ob := by
  cases o with
  | lst xs => obtain ⟨_, _, _, _, e⟩ := x; exact ⟨_, e⟩
  | tup xs => obtain ⟨_, _, _, ob, e, _⟩ := x; exact ⟨_, e⟩
  | dK kvs => obtain ⟨_, _, _, _, o, _, _, e, _⟩ := x; exact ⟨_, e⟩
  | dT kvs => obtain ⟨_, _, _, _, o, _, _, e, _⟩ := x; exact ⟨_, e⟩
  | set S n => obtain ⟨o, _, _, _, e, _⟩ := x; exact ⟨_, e⟩
  | ins C dx fs => obtain ⟨_, _, _, e, _⟩ := x; exact ⟨_, e⟩
  | own y => obtain ⟨_, e⟩ := x; exact ⟨_, e⟩
  | xd fs => obtain ⟨_, ⟨_, _, _, e, _⟩, _⟩ := x; exact ⟨_, e⟩
  | rng lo hi => obtain ⟨_, _, _, e⟩ := x; exact ⟨_, e⟩
  | frz ob u => obtain ⟨e, _⟩ := x; exact ⟨_, e⟩
  | tbl ps => exact ⟨_, (show h.get? a = some _ from x)⟩
  | met f y => exact ⟨_, (show h.get? a = some _ from x)⟩
  | ext φ => obtain ⟨_, ⟨_, e⟩, _⟩ := x; exact ⟨_, e⟩
theorem hokNone (x : HOk P w H h) (e : h.get? a = none) : H a = none := by
  cases q : H a with
  | none => rfl
  | some o =>
    obtain ⟨ob, z⟩ := objGot (x a o q)
    rw [e] at z; cases z
end
def FrOk (l : List Env) (h : Heap) : Prop := ∀ env ∈ l, env.scope.kind ≠ .module ∧ ∃ L o, env.frame = some L ∧ h.get? L = some o ∧ ∀ vs, o.data ≠ .fields vs
structure Fly (l : List Env) (e T : Addr) (cls : Value) (h : Heap) : Prop where
  fr : FrOk l h
  ne : T ≠ e
  at_ : ∃ oe vs oT ts a0, h.get? e = some oe ∧ oe.cls = cls ∧ oe.data = .fields vs ∧ vs[0]? = some a0 ∧ vs[1]? = some (.ref T) ∧ h.get? T = some oT ∧ oT.data = .fields ts ∧ ts[3]? = some .none
theorem funFr {l : List Env} {h B : Heap} : FrOk l h → (∀ b ∈ frs l, B.get? b = none) → h.FunFrames B l := by
  induction l with
  | nil => intro _ _; trivial
  | cons env r ih =>
    intro f hB
    obtain ⟨hk, L, o, hf, ho, hd⟩ := f env (.head _)
    refine ⟨hk, ⟨L, o, hf, hB L (List.mem_filterMap.mpr ⟨env, .head _, hf⟩), ho, hd⟩, ih (fun e he => f e (.tail _ he)) fun b hb => hB b ?_⟩
    obtain ⟨e, he, h2⟩ := List.mem_filterMap.mp hb
    exact List.mem_filterMap.mpr ⟨e, .tail _ he, h2⟩
theorem frOf {l : List Env} {h B : Heap} : h.FunFrames B l → FrOk l h := by
  induction l with
  | nil => intro _ _ z; cases z
  | cons env r ih =>
    rintro ⟨hk, ⟨L, o, hf, _, ho, hd⟩, hr⟩ e he
    rcases List.mem_cons.mp he with rfl | he
    · exact ⟨hk, L, o, hf, ho, hd⟩
    · exact ih hr e he
theorem FrOk.mem {l : List Env} {h : Heap} (f : FrOk l h) {b : Addr} (hb : b ∈ frs l) : ∃ o, h.get? b = some o ∧ ∀ vs, o.data ≠ .fields vs := by
  obtain ⟨e, he, h2⟩ := List.mem_filterMap.mp hb
  obtain ⟨_, L, o, hf, ho, hd⟩ := f e he
  rw [h2] at hf; cases hf
  exact ⟨o, ho, hd⟩
def grd (l : List Env) (e T : Addr) (h : Heap) : Heap := PySem.W.hideAll h (e :: T :: frs l)
theorem grd_of {l : List Env} {e T b : Addr} {h : Heap} {o : Obj} (q : (grd l e T h).get? b = some o) : h.get? b = some o := PySem.W.of_hideAll _ q
theorem grd_none {l : List Env} {e T b : Addr} {h : Heap} (q : b = e ∨ b = T ∨ b ∈ frs l) : (grd l e T h).get? b = none := by
  refine PySem.W.hideAll_none _ ?_
  rcases q with rfl | rfl | q
  · exact .head _
  · exact .tail _ (.head _)
  · exact .tail _ (.tail _ q)
theorem grd_get {l : List Env} {e T b : Addr} {h : Heap} {o : Obj} (q : h.get? b = some o) (h1 : b ≠ e) (h2 : b ≠ T) (h3 : b ∉ frs l) : (grd l e T h).get? b = some o := by
  refine PySem.W.hideAll_get _ q fun z => ?_
  rcases List.mem_cons.mp z with z | z
  · exact h1 z
  · rcases List.mem_cons.mp z with z | z
    · exact h2 z
    · exact h3 z
theorem Fly.flying {l : List Env} {e T : Addr} {cls : Value} {h : Heap} (f : Fly l e T cls h) : ∃ a0, Heap.FlyingW (grd l e T h) l e cls a0 h := by
  obtain ⟨oe, vs, oT, ts, a0, h1, h2, h3, h4, h5, h6, h7, h8⟩ := f.at_
  exact ⟨a0, fun b o q => grd_of q, grd_none (.inl rfl), funFr f.fr fun b hb => grd_none (.inr (.inr hb)), oe, vs, T, oT, ts, h1, ⟨h2, h4⟩, h3, h5, grd_none (.inr (.inl rfl)), f.ne, h6, h7, h8⟩
structure Past (l : List Env) (e T : Addr) (h h' : Heap) : Prop where
  keep : ∀ b o, h.get? b = some o → b ≠ e → b ≠ T → b ∉ frs l → h'.get? b = some o
  slot : ∀ b o, h.get? b = some o → b ∈ frs l → ∃ sl, h'.get? b = some { o with slots := sl }
  there : ∀ b o, h.get? b = some o → b ≠ T → ∃ o', h'.get? b = some o'
theorem Past.of {l l' : List Env} {e T : Addr} {cls a0 : Value} {h h2 : Heap} (f : FrOk l h) (hf : Heap.FlyingW (grd l e T h) l' e cls a0 h2) (u : h.UpToSlots h2) :
    ∃ T', Fly l' e T' cls h2 ∧ Past l e T h h2 ∧ (T' = T ∨ h.get? T' = none) := by
  obtain ⟨st, ne, ff, oe, vs, T', oT, ts, h1, ⟨h2', h4⟩, h3, h5, hb, hne, h6, h7, h8⟩ := hf
  have hs : ∀ b o, h.get? b = some o → b ∈ frs l → ∃ sl, h2.get? b = some { o with slots := sl } := fun b o q hb => by
    obtain ⟨o', q', hd⟩ := f.mem hb
    rw [q] at q'; cases q'
    exact u b o q hd
  refine ⟨T', ⟨frOf ff, hne, oe, vs, oT, ts, a0, h1, h2', h3, h4, h5, h6, h7, h8⟩, ⟨fun b o q n1 n2 n3 => st b o (grd_get q n1 n2 n3), hs, fun b o q n2 => ?_⟩, ?_⟩
  · by_cases n1 : b = e
    · subst n1; exact ⟨_, h1⟩
    · by_cases n3 : b ∈ frs l
      · obtain ⟨sl, z⟩ := hs b o q n3
        exact ⟨_, z⟩
      · exact ⟨o, st b o (grd_get q n1 n2 n3)⟩
  · cases q : h.get? T' with
    | none => exact .inr rfl
    | some o =>
      by_cases n2 : T' = T
      · exact .inl n2
      · by_cases n3 : T' ∈ frs l
        · obtain ⟨o', q', hd⟩ := f.mem n3
          obtain ⟨sl, z⟩ := hs T' o' q' n3
          rw [h6] at z; cases z
          exact absurd h7 (hd ts)
        · rw [grd_get q hne n2 n3] at hb; cases hb
section
variable {M : Model} {A : Around} {E : Value → Shared → Prop} {s : Shared} {env : Env} {outer : List Env} {e T : Addr} {cls : Value} {Q : Unit → Shared → Prop}
theorem fly_leave (hfr : A.frames = some (env :: outer)) (hf : env.frame.isSome = true) (f : Fly (env :: outer) e T cls s.heap)
    (k : ∀ h' T', Fly outer e T' cls h' → Past (env :: outer) e T s.heap h' → (T' = T ∨ s.heap.get? T' = none) → Q () { s with heap := h' }) : wpAny M A (leaving env (.ref e)) Q E s := by
  obtain ⟨L, hf⟩ := Option.isSome_iff_exists.mp hf
  obtain ⟨a0, F⟩ := f.flying
  refine wpAny_leaves_onW hfr hf F fun h' F' u => ?_
  obtain ⟨T', x, y, z⟩ := Past.of f.fr F' u
  exact k h' T' x y z
theorem fly_note (hfr : A.frames = some (env :: outer)) (hf : env.frame.isSome = true) (f : Fly (env :: outer) e T cls s.heap)
    (k : ∀ h' T', Fly (env :: outer) e T' cls h' → Past (env :: outer) e T s.heap h' → (T' = T ∨ s.heap.get? T' = none) → Q () { s with heap := h' }) :
    wpAny M A (noteFrame (.ref e) env) (fun _ s' => wpAny M A (setFlight (.ref e) none) Q E s') E s := by
  obtain ⟨L, hf⟩ := Option.isSome_iff_exists.mp hf
  obtain ⟨a0, F⟩ := f.flying
  refine wpAny_looks_onW hfr hf F fun h1 F1 u1 => wpAny_landsW F1 fun h2 F2 u2 => ?_
  obtain ⟨T', x, y, z⟩ := Past.of f.fr F2 (u1.trans u2)
  exact k h2 T' x y z
theorem fly_land (f : Fly outer e T cls s.heap) (k : ∀ h' T', Fly outer e T' cls h' → Past outer e T s.heap h' → (T' = T ∨ s.heap.get? T' = none) → Q () { s with heap := h' }) : wpAny M A (setFlight (.ref e) none) Q E s := by
  obtain ⟨a0, F⟩ := f.flying
  refine lands_againW F fun h1 F1 u1 => ?_
  obtain ⟨T', x, y, z⟩ := Past.of f.fr F1 u1
  exact k h1 T' x y z
theorem fly_begin {h : Heap} {args : List Value} (hfr : A.frames = some (env :: outer)) (hf : env.frame.isSome = true) (f : FrOk (env :: outer) h) (hx : Heap.MadeExcOf h s.heap e cls args)
    (k : ∀ h' T', Fly outer e T' cls h' → (∀ b o, h.get? b = some o → b ∉ frs (env :: outer) → h'.get? b = some o) → (∀ b o, h.get? b = some o → b ∈ frs (env :: outer) → ∃ sl, h'.get? b = some { o with slots := sl }) → h.get? T' = none → Q () { s with heap := h' }) :
    wpAny M A (leaving env (.ref e)) Q E s := by
  obtain ⟨L, hf⟩ := Option.isSome_iff_exists.mp hf
  have hb : ∀ b ∈ frs (env :: outer), (PySem.W.hideAll h (frs (env :: outer))).get? b = none := fun b hb => PySem.W.hideAll_none _ hb
  refine wpAny_leaves_madeW (base := PySem.W.hideAll h (frs (env :: outer))) hfr hf (fun b o q => PySem.W.of_hideAll _ q) (funFr f hb) hx fun h' t F _ _ u => ?_
  obtain ⟨st, ne, ff, oe, vs, T', oT, ts, h1, ⟨h2', h4⟩, h3, h5, hbT, hne, h6, h7, h8⟩ := F
  have hs : ∀ b o, h.get? b = some o → b ∈ frs (env :: outer) → ∃ sl, h'.get? b = some { o with slots := sl } := fun b o q hb => by
    obtain ⟨o', q', hd⟩ := f.mem hb
    rw [q] at q'; cases q'
    exact u b o (hx.keeps b o q) hd
  refine k h' T' ⟨frOf ff, hne, oe, vs, oT, ts, _, h1, h2', h3, h4, h5, h6, h7, h8⟩ (fun b o q n => st b o (PySem.W.hideAll_get _ q n)) hs ?_
  cases q : h.get? T' with
  | none => rfl
  | some o =>
    by_cases n3 : T' ∈ frs (env :: outer)
    · obtain ⟨o', q', hd⟩ := f.mem n3
      obtain ⟨sl, z⟩ := hs T' o' q' n3
      rw [h6] at z; cases z
      exact absurd h7 (hd ts)
    · rw [PySem.W.hideAll_get _ q n3] at hbT; cases hbT
end
def CXF (P : Program) (w : World) : CXT := fun outer H s E e s' => ∃ (ea T : Addr) (cls : Value) (H' : Hp), e = .ref ea ∧ s'.os = s.os ∧ AllBare s'.gens ∧ Un (frs outer) [] H H' s.heap s'.heap ∧ HOk P w H' s'.heap ∧
  s.heap.get? ea = none ∧ s.heap.get? T = none ∧ H' ea = none ∧ H' T = none ∧ Fly outer ea T cls s'.heap ∧ E cls none H'
section
variable {P : Program} {w : World} {H : Hp} {l : List Env} {e T : Addr} {h h' : Heap}
theorem Past.hok (p : Past l e T h h') (ok : HOk P w H h) (he : H e = none) (hT : H T = none) (hf : ∀ b ∈ frs l, H b = none) : HOk P w H h' := fun a o q => by
  refine (ok a o q).stay (fun b u hb z => p.keep b u z ?_ ?_ ?_) (fun _ z => z) fun _ _ z => z
  · rintro rfl
    rcases hb with rfl | hb
    · rw [he] at q; cases q
    · rw [he] at hb; cases hb
  · rintro rfl
    rcases hb with rfl | hb
    · rw [hT] at q; cases q
    · rw [hT] at hb; cases hb
  · intro hm
    rcases hb with rfl | hb
    · rw [hf _ hm] at q; cases q
    · rw [hf _ hm] at hb; cases hb
theorem Past.un {fs : List Addr} {h0 : Heap} {H0 : Hp} (p : Past l e T h h') (u : Un fs [] H0 H h0 h) (h1 : h0.get? e = none) (h2 : h0.get? T = none) (hl : ∀ b ∈ frs l, b ∈ fs ∨ h0.get? b = none) : Un fs [] H0 H h0 h' := by
  have n1 : ∀ {b o}, h0.get? b = some o → b ≠ e := fun q z => by rw [z, h1] at q; cases q
  have n2 : ∀ {b o}, h0.get? b = some o → b ≠ T := fun q z => by rw [z, h2] at q; cases q
  have n3 : ∀ {b o}, h0.get? b = some o → b ∈ frs l → b ∈ fs := fun {b o} q z => by
    rcases hl _ z with y | y
    · exact y
    · rw [y] at q; cases q
  refine ⟨fun b o q n hb _ => ?_, fun b o q n hb _ => ?_, u.free, fun b o q _ => ?_, u.tups, u.frzs, u.tbls⟩
  · exact p.keep b o (u.keep b o q n hb (by simp)) (n1 q) (n2 q) fun z => hb (n3 q z)
  · obtain ⟨sl, q1⟩ := u.slot b o q n hb (by simp)
    by_cases z : b ∈ frs l
    · obtain ⟨sl', q2⟩ := p.slot b _ q1 z
      exact ⟨sl', q2⟩
    · exact ⟨sl, p.keep b _ q1 (n1 q) (n2 q) z⟩
  · obtain ⟨o', q1⟩ := u.there b o q (by simp)
    exact p.there b o' q1 (n2 q)
end
end Br
namespace Br
open PySem PySem.Spec PySem.Calls PyProof.Rows L2
section
variable {P : Program} {w : World} {K : PySem.W.Frag} {mg : Str → Option Value} {base : Heap} {N : List Str} {qual : Str} {scope : Scope} {f : Addr} {cd : Value} {A : Around} {outer : List Env} {s : Shared} {H : Hp} {E : XK}
theorem passF : Passes (CXF P w) (cxOf (CXF P w) P w K mg base N qual scope f cd A outer s H E) E := by
  intro pins σ H1 s1 e s2 I h
  obtain ⟨ea, T, cls, H2, rfl, os, bare, un, hok, he, hT, he2, hT2, fly, hE⟩ := h
  have J := I.call' os un hok bare (fun _ z => nomatch z)
  have b0 : ∀ b o, s.heap.get? b = some o → ∃ o', s1.heap.get? b = some o' := fun b o q => I.base.there b o q (by show b ∉ ([] : List Addr); simp)
  have n0 : ∀ b, s1.heap.get? b = none → s.heap.get? b = none := fun b q => by
    cases z : s.heap.get? b with
    | none => rfl
    | some o => obtain ⟨o', y⟩ := b0 b o z; rw [q] at y; cases y
  refine fly_leave (env := envOfC qual scope s.heap.objs.size f cd) (outer := outer) I.ok.frames rfl fly fun h' T' f' p hT' => ?_
  have hT3 : s.heap.get? T' = none := by
    rcases hT' with rfl | z
    · exact n0 _ hT
    · cases y : s.heap.get? T' with
      | none => rfl
      | some o =>
        obtain ⟨o', x⟩ := J.base.there T' o y (by show T' ∉ ([] : List Addr); simp)
        rw [z] at x; cases x
  have hT4 : H2 T' = none := by
    rcases hT' with rfl | z
    · exact hT2
    · exact hokNone hok z
  refine ⟨ea, T', cls, H2, rfl, J.os, bare, p.un J.base (n0 _ he) (n0 _ hT) fun b hb => ?_, p.hok hok he2 hT2 J.stkFree, n0 _ he, hT3, he2, hT4, f', hE⟩
  have hb' : b ∈ s.heap.objs.size :: frs outer := J.stkSub b hb
  rcases List.mem_cons.mp hb' with z | z
  · exact .inr (by rw [z]; exact Heap.get?_none_of_le (Nat.le_refl _))
  · exact .inl z
def Throws (X : Cx) (E : XK) : Prop := ∀ (pins : List (Addr × Obj)) (σ : L2.St) (H : Hp) (s : Shared) (h' : Heap) (e : Addr) (cls : Value) (args : List Value), Inv X pins σ H s → Heap.MadeExcOf s.heap h' e cls args → E cls none H → X.xe (.ref e) { s with heap := h' }
theorem throwF : Throws (cxOf (CXF P w) P w K mg base N qual scope f cd A outer s H E) E := by
  intro pins σ H1 s1 h1 e cls args I hx hE
  have fr : FrOk (envOfC qual scope s.heap.objs.size f cd :: outer) s1.heap := frOf I.stack
  have hb0 : ∀ b, s1.heap.get? b = none → s.heap.get? b = none := fun b q => by
    cases z : s.heap.get? b with
    | none => rfl
    | some o => obtain ⟨o', y⟩ := I.base.there b o z (by show b ∉ ([] : List Addr); simp); rw [q] at y; cases y
  refine fly_begin (env := envOfC qual scope s.heap.objs.size f cd) (outer := outer) (h := s1.heap) I.ok.frames rfl fr hx fun h' T' f' keep slot hT => ?_
  have hl : ∀ b ∈ frs (envOfC qual scope s.heap.objs.size f cd :: outer), b ∈ frs outer ∨ s.heap.get? b = none := fun b hb => by
    have hb' : b ∈ s.heap.objs.size :: frs outer := I.stkSub b hb
    rcases List.mem_cons.mp hb' with z | z
    · exact .inr (by rw [z]; exact Heap.get?_none_of_le (Nat.le_refl _))
    · exact .inl z
  have hfree : ∀ b ∈ frs (envOfC qual scope s.heap.objs.size f cd :: outer), H1 b = none := I.stkFree
  have un : Un (frs outer) [] H H1 s.heap h' := by
    have u := I.base
    refine ⟨fun b o q n hb _ => ?_, fun b o q n hb _ => ?_, fun b o q n _ => u.free b o q n (by show b ∉ ([] : List Addr); simp), fun b o q _ => ?_, u.tups, u.frzs, u.tbls⟩
    · refine keep b o (u.keep b o q n hb (by show b ∉ ([] : List Addr); simp)) fun z => ?_
      rcases hl b z with y | y
      · exact hb y
      · rw [y] at q; cases q
    · obtain ⟨sl, q1⟩ := u.slot b o q n hb (by show b ∉ ([] : List Addr); simp)
      by_cases z : b ∈ frs (envOfC qual scope s.heap.objs.size f cd :: outer)
      · obtain ⟨sl', q2⟩ := slot b _ q1 z
        exact ⟨sl', q2⟩
      · exact ⟨sl, keep b _ q1 z⟩
    · obtain ⟨o', q1⟩ := u.there b o q (by show b ∉ ([] : List Addr); simp)
      by_cases z : b ∈ frs (envOfC qual scope s.heap.objs.size f cd :: outer)
      · obtain ⟨sl', q2⟩ := slot b _ q1 z
        exact ⟨_, q2⟩
      · exact ⟨_, keep b _ q1 z⟩
  have hok : HOk P w H1 h' := fun a o q => by
    refine (I.hok a o q).stay (fun b u hb z => keep b u z fun hm => ?_) (fun _ z => z) fun _ _ z => z
    rcases hb with rfl | hb
    · rw [hfree _ hm] at q; cases q
    · rw [hfree _ hm] at hb; cases hb
  exact ⟨e, T', cls, H1, rfl, I.os, I.bare, un, hok, hb0 e hx.new, hb0 T' hT, hokNone I.hok hx.new, hokNone I.hok hT, f', hE⟩
end
structure OwnE (K : PySem.W.Frag) (C : Addr) : Prop where
  q : PySem.W.excIn K C [.type "ValueError", .type "Exception", .type "BaseException", .type "object"] "ValueError.__new__" = true
theorem OwnE.obj {K : PySem.W.Frag} {C : Addr} {h : Heap} (O : OwnE K C) (X : K.In h) : ∃ bm N nm q bs hdct sn sub ab col dd k0 k1 k2 k3 k5 mN, h.get? C = some (excClassObj nm q C N bs bm hdct sn sub ab col dd k0 k1 k2 k3 k5 "ValueError.__new__") ∧ h.Ns N mN ∧ mN "__init__" = none ∧
    OwnTail h [.type "ValueError", .type "Exception", .type "BaseException", .type "object"] bm := by
  have q := O.q
  unfold PySem.W.excIn at q
  split at q
  · rename_i dd cl sl lk
    split at q
    · rename_i C1 bm a0 a1 a2 a3 n a5 em es
      simp only [Bool.and_eq_true, beq_iff_eq, Bool.not_eq_true'] at q
      obtain ⟨⟨⟨⟨⟨e1, e2⟩, e3⟩, e4⟩, e5⟩, e6⟩ := q
      subst e1; subst e2
      obtain ⟨c1, c2, c3, c4, c5, c6, c7, c8, c9, c10, c11⟩ := cl
      dsimp only at em e3 e5 e6
      subst em; subst e3
      have hsl : sl = #[a0, a1, a2, a3, some (.builtin "ValueError.__new__"), a5] := by
        cases sl with
        | mk l => simp only at es; rw [es]
      subst hsl
      exact ⟨bm, c4, c1, c5, c2, c6, c7, c8, c9, c10, dd, a0, a1, a2, a3, a5, _, X _ _ lk, .of_isNs (PySem.W.isNs_of_in X e5), PySem.W.nsMap_none_of_in X e5 e6, PySem.W.tail_of_in X e4⟩
    · cases q
  · cases q
section
variable {X : Cx} {x : Str} {C : Addr} {e0 : Expr} {te : TE} {np cpos pos : Pos} {E : XK}
def tRaise (C : Addr) (E : XK) (te : TE) : TS := fun _ σ H => te σ H fun _ H1 => E (.ref C) none H1
theorem ps_raise (O : OwnE X.K C) (hm : X.mg x = some (.ref C)) (hg : Gl X x) (hc : X.calm = true) (ht : Throws X E) (he : PE X e0 te) (hdb : (x == ("__debug__" : Str)) = false := by decide)
    (hst : starEach [e0] X.env = [(false, eval e0 X.env)] := by rfl) : PS X (.Raise (some (.Call (.Name x np) [e0] [] cpos)) none pos) (tRaise C E te) := by
  intro pins s σ H D I h
  obtain ⟨bm, N, nm, q, bs, hdct, sn, sub, ab, col, dd, k0, k1, k2, k3, k5, mN, hC, hN, hni, T⟩ := O.obj I.ok.mod.kin
  refine wpAny_Raise_call_subT (C := C) (nm := nm) (q := q) (N := N) (bs := bs) (bm := bm) (hdct := hdct) (sn := sn) (sub := sub) (ab := ab) (col := col) (dd := dd) (k0 := k0) (k1 := k1) (k2 := k2) (k3 := k3) (k5 := k5)
    F.excBase_ValueError (mN := mN) (T.hasType F.excBase_ValueError.hasBase) (I.ok.hd hc) (by rw [hst]; rfl) hni (ld_glob I hg hm ⟨rfl, ?_⟩ hdb)
  rw [hst]
  refine Calls.evalArgs_plain (Calls.spliced_cons (thn (he pins s σ H _ I h) fun u s1 ⟨v, H1, I1, r1, q1⟩ => Calls.spliced_nil ?_))
  exact ⟨rfl, by show 1 ≤ sizeLine; decide, I1.bk _ _ hC, hN.keeps I1.bk, T.keeps I1.bk, fun h' e hx => ht pins σ H1 s1 h' e _ _ I1 hx q1⟩
def ExcO (e C : Addr) : HO := .ext (ExcAt e C)
theorem excO_ok {P : Program} {w : World} {H : Hp} {h : Heap} {e C : Addr} (x : ExcAt e C h) : ObjOk P w H h e (ExcO e C) := by
  obtain ⟨o, h1, h2⟩ := id x
  exact ⟨x, ⟨o, h1⟩, fun a b ⟨o', q1, q2⟩ k => ⟨o', k o' q1, q2⟩⟩
inductive TyX (K : PySem.W.Frag) (H : Hp) : V → Value → Prop where
  | of {v : V} {t : Value} (h : TyOf K H v t) : TyX K H v t
  | exc {e C : Addr} (h : H e = some (ExcO e C)) (T : ExcC K C) : TyX K H (.ref e) (.ref C)
theorem isinstX {pins : List (Addr × Obj)} {σ : L2.St} {H : Hp} {s : Shared} {A : Around} {Eo : Value → Shared → Prop} {Q : Value → Shared → Prop} {c : Value} {b : Bool} {y : V} {u t : Value} (I : Inv X pins σ H s) (rx : RelV y u) (ty : TyX X.K H y t) (hk : PySem.W.kitOne X.K t c = some b)
    (h : ∀ tk, Q (.bool b) { s with toks := tk }) : wpAny (model X.prog X.w) A (call (.builtin "isinstance") [u, c]) Q Eo s := by
  cases ty with
  | of z => exact isinst_ok I rx z hk h
  | @exc e C z T =>
    cases (show u = Value.ref e from rx)
    obtain ⟨p, _⟩ := (show ObjOk X.prog X.w H s.heap e (ExcO e C) from I.hok e _ z)
    exact PySem.W.kia_one (kitx_exc T) I.kIn p hk (fun z => nomatch z) h
theorem isinstXs {pins : List (Addr × Obj)} {σ : L2.St} {H : Hp} {s : Shared} {A : Around} {Eo : Value → Shared → Prop} {Q : Value → Shared → Prop} {its : List Value} {tp : Addr} {b : Bool} {e C : Addr} {u : Value} (I : Inv X pins σ H s) (z : H e = some (ExcO e C)) (T : ExcC X.K C)
    (htp : IsTup s.heap tp its.toArray) (hk : PySem.W.kitAny X.K (.ref C) its = some b) (h : ∀ tk, Q (.bool b) { s with toks := tk }) : wpAny (model X.prog X.w) A (call (.builtin "isinstance") [.ref e, .ref tp]) Q Eo s := by
  obtain ⟨p, _⟩ := (show ObjOk X.prog X.w H s.heap e (ExcO e C) from I.hok e _ z)
  obtain ⟨⟨oc, od, odt, osl⟩, h1, h2, n, h3⟩ := htp
  have e1 : oc = .type "tuple" := h2
  have e2 : odt = .seq its.toArray n := h3
  subst e1; subst e2
  exact PySem.W.kia_tup (kitx_exc T) I.kIn p h1 hk (fun z => nomatch z) h
end
end Br
namespace Br
open PySem PySem.Spec PySem.Calls PyProof.Rows L2
section
variable {X : Cx} {pins : List (Addr × Obj)} {σ : L2.St} {H : Hp} {s : Shared} {h' : Heap} {ea T : Addr} {cls : Value}
theorem nsNe {h : Heap} {a b : Addr} {m : Str → Option Value} {o : Obj} {vs : Array Value} (n : h.Ns a m) (e : h.get? b = some o) (d : o.data = .fields vs) : a ≠ b := by
  rintro rfl
  obtain ⟨o', es, ep, h1, h2, _⟩ := n
  rw [e] at h1; cases h1
  rw [d] at h2; cases h2
theorem cellNe {h : Heap} {a b : Addr} {v : Option Value} {o : Obj} {vs : Array Value} (n : h.IsCell a v) (e : h.get? b = some o) (d : o.data = .fields vs) : a ≠ b := by
  rintro rfl
  obtain ⟨o', h1, h2⟩ := n
  rw [e] at h1; cases h1
  rw [d] at h2; cases h2
structure Apart (X : Cx) (pins : List (Addr × Obj)) (H : Hp) (ea T : Addr) : Prop where
  pin : ∀ p ∈ X.pn ++ pins, p.1 ≠ ea ∧ p.1 ≠ T
  s0 : X.s₀.heap.get? ea = none
  t0 : X.s₀.heap.get? T = none
  he : H ea = none
  hT : H T = none
theorem invPast (I : Inv X pins σ H s) (a : Apart X pins H ea T) (f : Fly X.stack ea T cls s.heap) (p : Past X.stack ea T s.heap h') : Inv X pins σ H { s with heap := h' } := by
  obtain ⟨oe, vs, oT, ts, a0, f1, f2, f3, f4, f5, f6, f7, f8⟩ := f.at_
  obtain ⟨m, hn, hl⟩ := I.loc
  have z0 : ∀ b o, X.s₀.heap.get? b = some o → b ≠ ea ∧ b ≠ T ∧ (b ∈ frs X.stack → b ∈ X.fs) := fun b o q => by
    refine ⟨fun z => (by rw [z, a.s0] at q; cases q), fun z => (by rw [z, a.t0] at q; cases q), fun z => ?_⟩
    rcases List.mem_cons.mp (I.stkSub b z) with y | y
    · exact absurd y (Nat.ne_of_lt (Nat.lt_of_lt_of_le (Heap.lt_size q) I.ok.above))
    · exact y
  have any : ∀ b o, s.heap.get? b = some o → b ≠ ea → b ≠ T → ∃ sl, h'.get? b = some { o with slots := sl } := fun b o q n1 n2 => by
    by_cases z : b ∈ frs X.stack
    · exact p.slot b o q z
    · exact ⟨o.slots, p.keep b o q n1 n2 z⟩
  have hn' : h'.Ns X.env.locals m := by
    obtain ⟨o, es, ep, h1, h2, r⟩ := id hn
    obtain ⟨sl, q⟩ := any _ o h1 (nsNe hn f1 f3) (nsNe hn f6 f7)
    exact ⟨_, es, ep, q, h2, r⟩
  have cel : ∀ x c v, X.env.cells.lookup x = some c → s.heap.IsCell c v → h'.IsCell c v := fun x c v e y => by
    obtain ⟨o, h1, h2⟩ := id y
    obtain ⟨sl, q⟩ := any c o h1 (cellNe y f1 f3) (cellNe y f6 f7)
    exact ⟨_, q, h2⟩
  refine ⟨I.ok, I.os, I.bare, ⟨fun b o q n hb hx => ?_, fun b o q n hb hx => ?_, I.base.free, fun b o q hx => ?_, I.base.tups, I.base.frzs, I.base.tbls⟩, ⟨m, hn', fun i x v e1 e2 e3 => ?_⟩, fun x c e => ?_, I.free, I.freeC, fun pp hp => ?_, p.hok I.hok a.he a.hT I.stkFree, I.len⟩
  · obtain ⟨n1, n2, n3⟩ := z0 b o q
    exact p.keep b o (I.base.keep b o q n hb hx) n1 n2 fun z => hb (n3 z)
  · obtain ⟨n1, n2, n3⟩ := z0 b o q
    obtain ⟨sl, q1⟩ := I.base.slot b o q n hb hx
    obtain ⟨sl', q2⟩ := any b _ q1 n1 n2
    exact ⟨sl', q2⟩
  · obtain ⟨n1, n2, n3⟩ := z0 b o q
    obtain ⟨o', q1⟩ := I.base.there b o q hx
    exact p.there b o' q1 n2
  · obtain ⟨u, r, l⟩ := hl i x v e1 e2 e3
    refine ⟨u, r, ?_⟩
    rcases l with l | ⟨k, c, e, y⟩
    · exact .inl l
    · exact .inr ⟨k, c, e, cel x c _ e y⟩
  · obtain ⟨v, y⟩ := I.cell x c e
    exact ⟨v, cel x c v e y⟩
  · obtain ⟨q, n, ne, nf, d⟩ := I.pin pp hp
    refine ⟨p.keep _ _ q (a.pin pp hp).1 (a.pin pp hp).2 fun z => ?_, n, ne, nf, d⟩
    rcases List.mem_cons.mp (I.stkSub _ z) with y | y
    · exact ne y
    · exact nf y
theorem invTrack {o : HO} (I : Inv X pins σ H s) (a : Apart X pins H ea T) (f : Fly X.stack ea T cls s.heap) (new : ObjOk X.prog X.w (upd H ea o) s.heap ea o) : Inv X pins σ (upd H ea o) s := by
  obtain ⟨oe, vs, oT, ts, a0, f1, f2, f3, f4, f5, f6, f7, f8⟩ := f.at_
  obtain ⟨m, hn, hl⟩ := I.loc
  have nt : ∀ b u, H b = some u → b ≠ ea := fun b u q z => by rw [z, a.he] at q; cases q
  refine ⟨I.ok, I.os, I.bare, ⟨I.base.keep, I.base.slot, fun b o' q n hx => ?_, I.base.there, fun b xs q => ?_, fun b u xs q => ?_, fun b ps q => ?_⟩, I.loc, I.cell, ?_, fun x c e => ?_, fun pp hp => ?_, fun b u q => ?_, I.len⟩
  · rw [upd_ne (fun z => by rw [z, a.s0] at q; cases q)]; exact I.base.free b o' q n hx
  · have := I.base.tups b xs q; rw [upd_ne (nt b _ this)]; exact this
  · have := I.base.frzs b u xs q; rw [upd_ne (nt b _ this)]; exact this
  · obtain ⟨more, q1⟩ := I.base.tbls b ps q; exact ⟨more, by rw [upd_ne (nt b _ q1)]; exact q1⟩
  · rw [upd_ne (nsNe hn f1 f3)]; exact I.free
  · obtain ⟨v, y⟩ := I.cell x c e
    rw [upd_ne (cellNe y f1 f3)]; exact I.freeC x c e
  · obtain ⟨q, n, ne, nf, d⟩ := I.pin pp hp
    exact ⟨q, by rw [upd_ne (a.pin pp hp).1]; exact n, ne, nf, d⟩
  · by_cases z : b = ea
    · subst z; rw [upd_same] at q; cases q; exact new
    · rw [upd_ne z] at q
      exact (I.hok b u q).stay (fun c v _ y => y) (fun c y => by rw [upd_ne (nt c _ y)]; exact y) fun c xs y => by rw [upd_ne (nt c _ y)]; exact y
theorem unbindOk {M : Model} {A : Around} {E : Value → Shared → Prop} {i : Nat} {x : Str} {pos : Pos} {Q : Unit → Shared → Prop} (I : Inv X pins σ H s) (hN : X.N.Nodup) (hi : X.N[i]? = some x) (hx : X.env.scope.names.lookup x = some .local)
    (h : ∀ s', Inv X pins (σ.set i none) H s' → Q () s') : wpAny M A (do bindName X.env x .none; unbindBehindTheSuite X.env x pos) Q E s := by
  obtain ⟨m, hn, hl⟩ := id I.loc
  have hiσ : i < σ.length := by rw [I.len]; exact (List.getElem?_eq_some_iff.mp hi).1
  refine wpAny_nameGoes_keeps hx hn (by rw [I.ok.kind]; rfl) fun h' v hn' hs => ?_
  obtain ⟨oL, _, _, hoL, _⟩ := id hn
  have lt : ∀ b o, X.s₀.heap.get? b = some o → b ≠ X.env.locals := fun b o e => Nat.ne_of_lt (Nat.lt_of_lt_of_le (Heap.lt_size e) I.ok.above)
  refine h _ ⟨I.ok, I.os, I.bare, ⟨fun b o e n hb hx => ?_, fun b o e n hb hx => ?_, I.base.free, fun b o e hx => ?_, I.base.tups, I.base.frzs, I.base.tbls⟩, ⟨_, hn', fun j y v' e1 e2 e3 => ?_⟩, fun y c e => ?_, I.free, I.freeC, fun p hp => ?_, fun b ob e => ?_, by simpa using I.len⟩
  · exact (hs.2 b (lt b o e)).trans (I.base.keep b o e n hb hx)
  · obtain ⟨sl, e1⟩ := I.base.slot b o e n hb hx
    exact ⟨sl, (hs.2 b (lt b o e)).trans e1⟩
  · obtain ⟨o', e1⟩ := I.base.there b o e hx
    exact ⟨o', (hs.2 b (lt b o e)).trans e1⟩
  · by_cases hj : j = i
    · subst hj; rw [List.getElem?_set_self hiσ] at e2; cases e2
    · rw [List.getElem?_set_ne (Ne.symm hj)] at e2
      obtain ⟨u', r', q⟩ := hl j y v' e1 e2 e3
      refine ⟨u', r', ?_⟩
      rcases q with ⟨k, e⟩ | ⟨k, c, e, z⟩
      · refine .inl ⟨k, ?_⟩
        have ne : y ≠ x := fun e => hj (nodup_ix hN e1 (e ▸ hi))
        simp [ne, e]
      · exact .inr ⟨k, c, e, z.sameBut hs (I.cne y c e)⟩
  · obtain ⟨w', z⟩ := I.cell y c e
    exact ⟨w', z.sameBut hs (I.cne y c e)⟩
  · obtain ⟨e, n, ne, nf, d⟩ := I.pin p hp
    exact ⟨(hs.2 p.1 ne).trans e, n, ne, nf, d⟩
  · refine (I.hok b ob e).stay (fun c w' hc q => (hs.2 c ?_).trans q) (fun _ q => q) fun _ _ q => q
    rintro rfl
    rcases hc with hc | hc
    · rw [← hc, I.free] at e; cases e
    · rw [I.free] at hc; cases hc
end
abbrev XS := Value → L2.St → Hp → Prop
abbrev TSx := Ends → XS → L2.St → Hp → Prop
abbrev TEx := L2.St → Hp → VK → XS → Prop
def XP (X : Cx) (pins : List (Addr × Obj)) (E : XS) (e : Value) (s' : Shared) : Prop := ∃ (ea T : Addr) (cls : Value) (σ' : L2.St) (H' : Hp), e = .ref ea ∧ Inv X pins σ' H' s' ∧ Apart X pins H' ea T ∧ Fly X.stack ea T cls s'.heap ∧ E cls σ' H'
def PEx (X : Cx) (e : Expr) (t : TEx) : Prop :=
  ∀ (pins : List (Addr × Obj)) (s : Shared) (σ : L2.St) (H : Hp) (Q : VK) (E : XS), Inv X pins σ H s → t σ H Q E → wpAny (model X.prog X.w) X.A (eval e X.env) (EP X pins σ Q) (XP X pins E) s
def PSx (X : Cx) (st : Stmt) (t : TSx) : Prop :=
  ∀ (pins : List (Addr × Obj)) (s : Shared) (σ : L2.St) (H : Hp) (D : Ends) (E : XS), Inv X pins σ H s → t D E σ H → wpAny (model X.prog X.w) X.A (exec st X.env) (SP X pins D) (XP X pins E) s
def PSsx (X : Cx) (st : List Stmt) (t : TSx) : Prop :=
  ∀ (pins : List (Addr × Obj)) (s : Shared) (σ : L2.St) (H : Hp) (D : Ends) (E : XS), Inv X pins σ H s → t D E σ H → wpAny (model X.prog X.w) X.A (execs st X.env) (SP X pins D) (XP X pins E) s
section
variable {X : Cx} {st : Stmt} {sts : List Stmt} {e : Expr} {es : List Expr} {pos p : Pos} {x : Str}
def tNextx : TSx := fun D _ σ H => D.nx σ H
def tSeqx (t u : TSx) : TSx := fun D E σ H => t { D with nx := fun σ' H' => u D E σ' H' } E σ H
theorem pssx_nil : PSsx X [] tNextx := fun _ _ σ H _ _ I h => wpAny_execs_nil ⟨σ, H, I, h⟩
theorem pssx_cons {t u : TSx} (h1 : PSx X st t) (h2 : PSsx X sts u) : PSsx X (st :: sts) (tSeqx t u) := by
  intro pins s σ H D E I h
  refine wpAny_execs_cons (thn (h1 pins s σ H { D with nx := fun σ' H' => u D E σ' H' } E I h) fun f s1 q => ?_)
  cases f with
  | next =>
    obtain ⟨σ', H', I', q⟩ := q
    exact h2 pins s1 σ' H' D E I' q
  | ret v => exact q
  | brk => exact q
  | cont => exact q
def tDropx (te : TEx) : TSx := fun D E σ H => te σ H (fun _ H1 => D.nx σ H1) E
theorem psx_expr {te : TEx} (he : PEx X e te) (hs : swapsWith e none pos.line X.env = pure false) : PSx X (.Expr e pos) (tDropx te) := by
  intro pins s σ H D E I h
  exact wpAny_Expr_any (thn (he pins s σ H _ E I h) fun v s1 ⟨x, H1, I1, r1, q1⟩ => ⟨σ, H1, I1, q1⟩) I.quiet hs
def tIfx (c : TT) (t u : TSx) : TSx := fun D E σ H => c σ H fun b H1 => if b = true then t D E σ H1 else u D E σ H1
theorem psx_if {c : Expr} {a b : List Stmt} {tc : TT} {t u : TSx} (hc : PT X.nox c tc) (ha : PSsx X a t) (hb : PSsx X b u) : PSx X (.If c a b pos) (tIfx tc t u) := by
  intro pins s σ H D E I h
  refine wpAny_If (wpAny_mono (hc pins s σ H _ (I.wish _) h) (fun d s1 ⟨H1, I1, q1⟩ => ?_) fun _ _ z => False.elim z)
  cases d with
  | true => exact ha pins s1 σ H1 D E I1.unwish q1
  | false => exact hb pins s1 σ H1 D E I1.unwish q1
def tCallx (sp : Sp) (t : TA) : TEx := fun σ H Q E => t σ H fun vs H1 => sp vs H1 Q fun cls _ H2 => E cls σ H2
theorem pex_call {k : Nat} {ps : List Str} {sp : Sp} {t : TA} (c : Callee (CXF X.prog X.w) X.prog X.w X.K X.mg X.base x k ps sp) (hr : Room k X.A) (hg : Gl X x) (hdb : (x == ("__debug__" : Str)) = false)
    (he : starEach (e :: es) X.env = (false, eval e X.env) :: starEach es X.env) (hpl : (backTo pos (starEach es X.env)).any (·.1) = false) (hex : X.ex = []) (ha : PA X.nox (e :: es) t) : PEx X (.Call (.Name x p) (e :: es) [] pos) (tCallx sp t) := by
  intro pins s σ H Q E I h
  obtain ⟨f, fd, F, hm, hk, hb⟩ := c.ex
  refine wpAny_Call_Name_kw (ld_glob I hg hm ?_ hdb)
  refine PySem.W.callWith_K (h₀ := X.base) I.ok.mod.kin hk (wpAny_mono (ha pos pins s σ H _ (I.wish _) h) (fun us s1 ⟨vs, H1, I0, r, q⟩ => ?_) fun _ _ z => False.elim z) he hpl
  have I1 := I0.unwish
  refine ⟨I1.kIn, ?_⟩
  have hl : (us ++ []).length = ps.length := by rw [List.append_nil, ← r.length]; exact F.len _ _ _ _ q
  have hb' := hb s1 us I1.kIn hl
  rw [List.append_nil] at hb'
  refine wpAny_call (codeAny_mono (F.run X.A X.stack s1 H1 ⟨us, []⟩ us vs Q _ hr I1.env0 hb' r q) fun rr s' hq => ?_)
  cases rr with
  | error ev =>
    obtain ⟨ea, T, cls, H2, rfl, os, bare, un, hok, he', hT, he2, hT2, fly, hE⟩ := hq
    have old : ∀ b, s1.heap.get? b = none → X.s₀.heap.get? b = none := fun b z => by
      cases y : X.s₀.heap.get? b with
      | none => rfl
      | some o =>
        obtain ⟨o', q'⟩ := I1.base.there b o y (by rw [hex]; simp)
        rw [z] at q'; cases q'
    exact ⟨ea, T, cls, σ, H2, rfl, I1.call' os un hok bare (fun _ z => nomatch z), ⟨fun pp hp => ⟨fun z => (by have := (I1.pin pp hp).1; rw [z, he'] at this; cases this), fun z => (by have := (I1.pin pp hp).1; rw [z, hT] at this; cases this)⟩, old _ he', old _ hT, he2, hT2⟩, fly, hE⟩
  | ok fl =>
    cases fl with
    | ret u => exact I1.after hq
    | next => exact False.elim hq
    | brk => exact False.elim hq
    | cont => exact False.elim hq
theorem Apart.next {pins : List (Addr × Obj)} {σ : L2.St} {H : Hp} {s : Shared} {ea T T' : Addr} (a : Apart X pins H ea T) (I : Inv X pins σ H s) (hex : X.ex = []) (h : T' = T ∨ s.heap.get? T' = none) : Apart X pins H ea T' := by
  rcases h with rfl | z
  · exact a
  · refine ⟨fun p hp => ⟨(a.pin p hp).1, fun y => (by have q := (I.pin p hp).1; rw [y, z] at q; cases q)⟩, a.s0, ?_, a.he, hokNone I.hok z⟩
    cases y : X.s₀.heap.get? T' with
    | none => rfl
    | some o =>
      obtain ⟨o', q⟩ := I.base.there T' o y (by rw [hex]; simp)
      rw [z] at q; cases q
abbrev mkd (X : Cx) (ea : Addr) : Cx := { X with A := X.A.mark (some (.ref ea)), calm := false, xe := fun _ _ => False }
theorem mkd_inv {pins : List (Addr × Obj)} {σ : L2.St} {H : Hp} {s : Shared} {ea : Addr} (I : Inv X pins σ H s) : Inv (mkd X ea) pins σ H s :=
  ⟨⟨I.ok.mod, I.ok.kind, I.ok.glob, I.ok.blt, I.ok.above, I.ok.inj, I.ok.has, I.ok.cab, fun z => (by cases z), I.ok.frames, I.ok.stk, I.ok.exf, I.ok.bs, I.ok.bsz, I.ok.noex, I.ok.exfs, I.ok.funs, I.ok.frf⟩, I.os, I.bare, I.base, I.loc, I.cell, I.free, I.freeC, I.pin, I.hok, I.len⟩
theorem unmkd {pins : List (Addr × Obj)} {σ σ' : L2.St} {H H' : Hp} {s s' : Shared} {ea : Addr} (I : Inv (mkd X ea) pins σ H s) (I0 : Inv X pins σ' H' s') : Inv X pins σ H s :=
  ⟨I0.ok, I.os, I.bare, I.base, I.loc, I.cell, I.free, I.freeC, I.pin, I.hok, I.len⟩
def tTryAs (K : PySem.W.Frag) (c : Value) (i : Nat) (tb : TSx) (ts : TS) : TS := fun D σ H => tb D (fun cls σ1 H1 => PySem.W.exmOne K cls c = some true ∧ ∃ C, cls = .ref C ∧ ∀ ea, H1 ea = none →
  ts { nx := fun σ2 H2 => D.nx (σ2.set i none) H2, rt := D.rt, bk := fun σ2 H2 => D.bk (σ2.set i none) H2, ct := fun σ2 H2 => D.ct (σ2.set i none) H2 } (σ1.set i (some (.ref ea))) (upd H1 ea (ExcO ea C))) σ H
theorem ps_tryAs {body : List Stmt} {b0 : Stmt} {suite : List Stmt} {n : Str} {np hpos : Pos} {c : Value} {i : Nat} {tb : TSx} {ts : TS} (hex : X.ex = []) (hstk : X.stack = X.env :: X.outer) (hfr : X.env.frame = some X.env.locals) (hN : X.N.Nodup) (hi : At X.N i n) (hn : X.env.scope.names.lookup n = some .local)
    (hg : Gl X x) (hm : X.mg x = some c) (hdb : (x == ("__debug__" : Str)) = false) (hb : PSsx X body tb) (hs : ∀ ea, PSs (mkd X ea) (b0 :: suite) ts) :
    PS X (.Try body [.ExceptHandler (some (.Name x np)) (some n) (b0 :: suite) hpos] [] [] pos) (tTryAs X.K c i tb ts) := by
  intro pins s σ H D I h
  refine wpAny_Try_except (wpAny_mono (hb pins s σ H D _ I h) (fun f s1 q => ?_) fun e s1 q => ?_)
  · cases f with
    | next => exact wpAny_execs_nil q
    | ret v => exact q
    | brk => exact q
    | cont => exact q
  · obtain ⟨ea, T, cls, σ1, H1, rfl, I1, ap, fly, hx, C, rfl, hk⟩ := q
    have fr' : X.A.frames = some (X.env :: X.outer) := by rw [← hstk]; exact I.ok.frames
    rw [hstk] at fly
    refine fly_note fr' (by rw [hfr]; rfl) fly fun h2 T2 fly2 p2 hT2 => ?_
    rw [← hstk] at fly fly2 p2
    have I2 := invPast I1 ap fly p2
    have ap2 := ap.next I1 hex hT2
    have hty : PySem.W.Looks (model X.prog X.w) h2 (typeOf (.ref ea)) (.ref C) := by
      obtain ⟨oe, vs, oT, ts', a0, f1, f2, _⟩ := fly2.at_
      exact ExcAt.ty ⟨oe, f1, f2⟩
    refine wpAny_handleBy_cons (codeAny_handlers_test ?_) (by intro q; cases q)
    refine ld_glob (mkd_inv (ea := ea) I2) hg hm ?_ hdb
    refine (PySem.W.exm_one I2.kIn hty hx).here ?_
    show codeAny _ _ _ _ _
    refine codeAny_handlers_suite_as ?_
    refine fly_land fly2 fun h3 T3 fly3 p3 hT3 => ?_
    have I3 := invPast I2 ap2 fly2 p3
    have ap3 := ap2.next I2 hex hT3
    have exc : ExcAt ea C h3 := by
      obtain ⟨oe, vs, oT, ts', a0, f1, f2, _⟩ := fly3.at_
      exact ⟨oe, f1, f2⟩
    have I4 := invTrack I3 ap3 fly3 (o := ExcO ea C) (excO_ok exc)
    refine store_ok I4 hN hi.get (.inl hn) (v := .ref ea) rfl (fun s5 I5 => ?_) (.inr hn)
    refine wpAny_mono (hs ea pins s5 _ _ _ (mkd_inv (ea := ea) I5) (hk ea ap.he)) (fun f s6 q => ?_) fun _ _ z => False.elim z
    cases f with
    | next =>
      obtain ⟨σ', H', I', q⟩ := q
      exact unbindOk (unmkd I' I) hN hi.get hn fun s7 I7 => ⟨_, H', I7, q⟩
    | ret v =>
      obtain ⟨v', σ', H', I', r', q⟩ := q
      exact unbindOk (unmkd I' I) hN hi.get hn fun s7 I7 => ⟨v', _, H', I7, r', q⟩
    | brk =>
      obtain ⟨σ', H', I', q⟩ := q
      exact unbindOk (unmkd I' I) hN hi.get hn fun s7 I7 => ⟨_, H', I7, q⟩
    | cont =>
      obtain ⟨σ', H', I', q⟩ := q
      exact unbindOk (unmkd I' I) hN hi.get hn fun s7 I7 => ⟨_, H', I7, q⟩
end
end Br
namespace Br
open PySem PySem.Spec PySem.Calls PyProof.Rows L2
def mroE (C B : Addr) : List Value := [.ref C, .ref B, .type "ValueError", .type "Exception", .type "BaseException", .type "object"]
def eclsIn (K : PySem.W.Frag) (C B : Addr) : Bool :=
  PySem.W.excIn K C [.type "ValueError", .type "Exception", .type "BaseException", .type "object"] "ValueError.__new__" &&
  (PySem.W.findIn K (.ref C) "__getattribute__" == some (some (.builtin "BaseException.__getattribute__"))) && (PySem.W.findIn K (.ref C) "__getattr__" == some none) &&
  (PySem.W.findIn K (.ref C) "__class__" == some (some (.builtin "object.__class__"))) && (PySem.W.specialIn K (.builtin "object.__class__") "__get__" == some (some (.builtin "getset_descriptor.__get__"))) &&
  (PySem.W.takesIn K (.builtin "object.__class__") == some true) && ((PySem.W.clsIn K C).map (·.mro) == some (mroE C B)) && (PySem.W.typeIn K (.ref C) == some (.type "type"))
structure ECls (K : PySem.W.Frag) (mg : Str → Option Value) (x : Str) (C B : Addr) : Prop where
  mgx : mg x = some (.ref C)
  inK : eclsIn K C B = true
section
variable {K : PySem.W.Frag} {mg : Str → Option Value} {x y : Str} {C D B : Addr}
theorem eclsIn_all (h : eclsIn K C B = true) : OwnE K C ∧ ExcC K C ∧ (∃ cd, PySem.W.clsIn K C = some cd ∧ cd.mro = mroE C B) ∧ PySem.W.typeIn K (.ref C) = some (.type "type") := by
  unfold eclsIn at h
  simp only [Bool.and_eq_true, beq_iff_eq] at h
  obtain ⟨⟨⟨⟨⟨⟨⟨h1, h2⟩, h3⟩, h4⟩, h5⟩, h6⟩, h7⟩, h8⟩ := h
  obtain ⟨cd, q1, q2⟩ := Option.map_eq_some_iff.mp h7
  have mro : ∀ b : Value, PySem.W.mroIn K C b = some ((mroE C B).contains b) := fun b => by
    unfold PySem.W.mroIn
    rw [q1, Option.bind_some, q2]
    rfl
  refine ⟨⟨h1⟩, ⟨h2, h3, h4, h5, h6, ?_, ?_⟩, ⟨cd, q1, q2⟩, h8⟩
  · rw [mro]; simp [mroE]
  · rw [mro]; simp [mroE]
theorem eclsMro (h : eclsIn K C B = true) (b : Value) : PySem.W.mroIn K C b = some ((mroE C B).contains b) := by
  obtain ⟨_, _, ⟨cd, q1, q2⟩, _⟩ := eclsIn_all h
  unfold PySem.W.mroIn
  rw [q1, Option.bind_some, q2]
  rfl
theorem ECls.own (e : ECls K mg x C B) : OwnE K C := (eclsIn_all e.inK).1
theorem ECls.exc (e : ECls K mg x C B) : ExcC K C := (eclsIn_all e.inK).2.1
theorem ECls.self (e : ECls K mg x C B) : PySem.W.kitOne K (.ref C) (.ref C) = some true := by
  unfold PySem.W.kitOne
  rw [if_pos (by simp)]
theorem ECls.other (e : ECls K mg x C B) (f : ECls K mg y D B) (h1 : C ≠ D) (h2 : B ≠ D) : PySem.W.kitOne K (.ref C) (.ref D) = some false := by
  obtain ⟨_, _, ⟨cd, q1, q2⟩, h8⟩ := eclsIn_all f.inK
  unfold PySem.W.kitOne
  rw [if_neg (by simp [h1])]
  unfold PySem.W.kitCls; dsimp only
  rw [if_pos (by rw [q1, h8]; rfl)]
  show PySem.W.mroIn K C (.ref D) = _
  rw [eclsMro e.inK]
  simp [mroE, Ne.symm h1, Ne.symm h2]
theorem ECls.value (e : ECls K mg x C B) : PySem.W.kitOne K (.ref C) (.type "ValueError") = some true := by
  unfold PySem.W.kitOne
  rw [if_neg (by simp)]
  unfold PySem.W.kitCls; dsimp only
  rw [if_pos (by decide +kernel)]
  show PySem.W.mroIn K C (.type "ValueError") = _
  rw [eclsMro e.inK]
  simp [mroE]
structure BCls (K : PySem.W.Frag) (mg : Str → Option Value) (x : Str) (B : Addr) : Prop where
  mgx : mg x = some (.ref B)
  cls : (PySem.W.clsIn K B).isSome = true
  ty : PySem.W.typeIn K (.ref B) = some (.type "type")
  exc : PySem.W.mroIn K B (.type "BaseException") = some true
theorem ECls.base (e : ECls K mg x C B) (b : BCls K mg y B) : PySem.W.kitOne K (.ref C) (.ref B) = some true := by
  unfold PySem.W.kitOne
  split
  · rfl
  · unfold PySem.W.kitCls; dsimp only
    rw [if_pos (by rw [b.cls, b.ty]; rfl)]
    show PySem.W.mroIn K C (.ref B) = _
    rw [eclsMro e.inK]
    simp [mroE]
theorem ECls.caught (e : ECls K mg x C B) (b : BCls K mg y B) : PySem.W.exmOne K (.ref C) (.ref B) = some true := by
  unfold PySem.W.exmOne
  rw [if_pos (by show (PySem.W.mroIn K B (.type "BaseException") == some true) = true; rw [b.exc]; rfl)]
  unfold PySem.W.kitCls; dsimp only
  rw [if_pos (by rw [b.cls, b.ty]; rfl)]
  show PySem.W.mroIn K C (.ref B) = _
  rw [eclsMro e.inK]
  simp [mroE]
end
section
variable {P : Program} {w : World} {K : PySem.W.Frag} {mg : Str → Option Value} {base : Heap}
theorem Fun.okX {x qual : Str} {st : Stmt} {f : Addr} {fd : FuncData} {N ps : List Str} {k : Nat} {sp : Sp} (F : Fun K x qual st f fd) (S : FnScope N ps (defScope st)) (len : ∀ vs H Q E, sp vs H Q E → vs.length = ps.length)
    (hbody : ∀ (cdv : Value) (A : Around) (outer : List Env) (s : Shared) (H : Hp) (vs : List V) (Q : VK) (E : XK), Room k (A.deeper (envOfC qual (defScope st) s.heap.objs.size f cdv)) → sp vs H Q E →
      ∃ t, PSs (cxOf (CXF P w) P w K mg base N qual (defScope st) f cdv A outer s H E) (defBody st) t ∧ t { nx := fun _ H' => Q .non H', rt := Q } (start N vs) H) : FnOk P w K mg base (CXF P w) (k + 1) f fd ps sp := by
  obtain ⟨oc, od, kV, doc, pm, an, cdv, ct, osl, rfl, lk, hcd⟩ := F.ex
  exact fn_of lk hcd S len fun A outer s H vs Q E hr hsp => hbody cdv A outer s H vs Q E hr hsp
end
section
variable {X : Cx} {x n : Str} {C B : Addr} {e e0 : Expr} {es : List Expr} {te : TE} {t : TA} {np cpos pos p hpos : Pos} {E : XK} {i : Nat}
theorem r_raise (ec : ECls X.K X.mg x C B) (hg : Gl X x) (hc : X.calm = true) (ht : Throws X E) (hdb : (x == ("__debug__" : Str)) = false) (hst : starEach [e0] X.env = [(false, eval e0 X.env)]) (he : PE X e0 te) :
    PS X (.Raise (some (.Call (.Name x np) [e0] [] cpos)) none pos) (tRaise C E te) := ps_raise ec.own ec.mgx hg hc ht he hdb hst
theorem r_cls (ec : ECls X.K X.mg x C B) (hg : Gl X x) (hdb : (x == ("__debug__" : Str)) = false) : PE X (.Name x pos) (tC (.ref C)) := pe_glob hg ec.mgx rfl hdb
theorem r_bty {T : String} (hg : Gl X x) (hm : X.mg x = none) (hv : bootBuiltins x = some (.type T)) (hn : x ≠ "__name__") (hdb : (x == ("__debug__" : Str)) = false) : PE X (.Name x pos) (tC (.ty T)) := pe_bltn hg hm hv rfl hn hdb
def rIsi (K : PySem.W.Frag) : List V → Hp → VK → Prop := fun xs H Q => (∃ z ty c b, xs = [z, .ty c] ∧ TyX K H z ty ∧ PySem.W.kitOne K ty (.type c) = some b ∧ Q (.bl b) H) ∨
  (∃ z ty C b, xs = [z, .ref C] ∧ TyX K H z ty ∧ PySem.W.kitOne K ty (.ref C) = some b ∧ Q (.bl b) H) ∨
  ∃ (e C tp : Addr) (Cs : List Addr) (b : Bool), xs = [.ref e, .ref tp] ∧ H e = some (ExcO e C) ∧ ExcC K C ∧ H tp = some (.tup (Cs.map V.ref)) ∧ PySem.W.kitAny K (.ref C) (Cs.map Value.ref) = some b ∧ Q (.bl b) H
theorem valsRef : ∀ {Cs : List Addr} {us : List Value}, Vals (Cs.map V.ref) us → us = Cs.map Value.ref
  | [], _, .nil => rfl
  | _ :: _, _, .cons r t => by rw [List.map_cons, ← valsRef t]; cases r; rfl
theorem call_isiX : CallR X (.builtin "isinstance") (rIsi X.K) := by
  intro pins s σ H xs us Q I r h
  rcases h with ⟨z, ty, c, b, rfl, ht, hk, q⟩ | ⟨z, ty, C, b, rfl, ht, hk, q⟩ | ⟨e, C, tp, Cs, b, rfl, he, T, htp, hk, q⟩
  · obtain ⟨u, w', rfl, r1, r2⟩ := vals2 r
    cases r2
    exact isinstX I r1 ht hk fun tk => ⟨.bl b, H, I.tok _, rfl, q⟩
  · obtain ⟨u, w', rfl, r1, r2⟩ := vals2 r
    cases r2
    exact isinstX I r1 ht hk fun tk => ⟨.bl b, H, I.tok _, rfl, q⟩
  · obtain ⟨u, w', rfl, r1, r2⟩ := vals2 r
    cases r1
    cases r2
    obtain ⟨its, rv, hT, _⟩ := I.tuple (SqT.of htp)
    rw [valsRef rv] at hT
    exact isinstXs (u := .none) I he T hT hk fun tk => ⟨.bl b, H, I.tok _, rfl, q⟩
theorem r_isiX (hx : x = "isinstance") (hg : Gl X x) (he : starEach (e :: es) X.env = (false, eval e X.env) :: starEach es X.env) (hpl : (backTo pos (starEach es X.env)).any (·.1) = false) (hm : X.mg x = none) (ha : PA X (e :: es) t) :
    PE X (.Call (.Name x p) (e :: es) [] pos) (tCB (rIsi X.K) t) := by subst hx; exact pe_callB call_isiX hg hm boot_isinstance ha (by decide) (by decide) he hpl
theorem r_tryAs {body : List Stmt} {b0 : Stmt} {suite : List Stmt} {tb : TSx} {ts : TS} (bc : BCls X.K X.mg x B) (hex : X.ex = []) (hstk : X.stack = X.env :: X.outer) (hfr : X.env.frame = some X.env.locals) (hN : X.N.Nodup) (hi : At X.N i n) (hn : X.env.scope.names.lookup n = some .local)
    (hg : Gl X x) (hdb : (x == ("__debug__" : Str)) = false) (hb : PSsx X body tb) (hs : ∀ ea, PSs (mkd X ea) (b0 :: suite) ts) : PS X (.Try body [.ExceptHandler (some (.Name x np)) (some n) (b0 :: suite) hpos] [] [] pos) (tTryAs X.K (.ref B) i tb ts) :=
  ps_tryAs hex hstk hfr hN hi hn hg bc.mgx hdb hb hs
theorem r_callX {k : Nat} {ps : List Str} {sp : Sp} (c : Callee (CXF X.prog X.w) X.prog X.w X.K X.mg X.base x k ps sp) (hx : Passes (CXF X.prog X.w) X E) (hr : Room k X.A) (hg : Gl X x) (hdb : (x == ("__debug__" : Str)) = false)
    (he : starEach (e :: es) X.env = (false, eval e X.env) :: starEach es X.env) (hpl : (backTo pos (starEach es X.env)).any (·.1) = false) (ha : PA X (e :: es) t) : PE X (.Call (.Name x p) (e :: es) [] pos) (tCall sp [] E t) := by
  obtain ⟨f, fd, F, hm, hk, hb⟩ := c.ex
  exact pe_call F hr hg hm hk hb .nil hx ha hdb he hpl
end
def Bd (n : Nat) (i : Int) : Prop := i.natAbs < 2 ^ n
theorem Bd.mono {m n : Nat} {i : Int} (h : Bd m i) (hm : m ≤ n) : Bd n i := Nat.lt_of_lt_of_le h (Nat.pow_le_pow_right (by decide) hm)
theorem Bd.mul {m n : Nat} {i j : Int} (h1 : Bd m i) (h2 : Bd n j) : Bd (m + n) (i * j) := by
  unfold Bd at *
  rw [Int.natAbs_mul, Nat.pow_add]
  exact Nat.mul_lt_mul'' h1 h2
theorem Bd.add {n : Nat} {i j : Int} (h1 : Bd n i) (h2 : Bd n j) : Bd (n + 1) (i + j) := by
  unfold Bd at *
  have := Int.natAbs_add_le i j
  rw [Nat.pow_succ]
  omega
theorem Bd.neg {n : Nat} {i : Int} (h : Bd n i) : Bd n (-i) := by unfold Bd at *; rw [Int.natAbs_neg]; exact h
theorem Bd.sub {n : Nat} {i j : Int} (h1 : Bd n i) (h2 : Bd n j) : Bd (n + 1) (i - j) := by rw [Int.sub_eq_add_neg]; exact h1.add h2.neg
theorem Bd.le {n : Nat} {i j : Int} (h : Bd n i) (hj : j.natAbs ≤ i.natAbs) : Bd n j := Nat.lt_of_le_of_lt hj h
theorem Bd.mulB {m n : Nat} {i j : Int} (h1 : Bd m i) (h2 : Bd n j) (hm : m ≤ 8000 := by decide) (hn : n ≤ 8000 := by decide) : CMulB i j := ⟨h1.mono hm, h2.mono hn⟩
theorem Bd.pos {n : Nat} {i : Int} (h : Bd n i) (hp : 0 < i) (hn : n ≤ 8000 := by decide) : CDivB 0 i := by
  refine ⟨hp, ?_⟩
  have q := h.mono hn
  unfold Bd at q
  have e : ((2 : Int) ^ 8000) = ((2 ^ 8000 : Nat) : Int) := by norm_cast
  rw [e]; omega
end Br
namespace Br
open PySem PySem.Spec PySem.Calls PyProof.Rows L2
structure JE (X : Cx) (e : Expr) (t : TE) : Prop where h : PE X e t
structure JT (X : Cx) (e : Expr) (t : TT) : Prop where h : PT X e t
structure JW (X : Cx) (e : Expr) (t : TT) : Prop where h : PW X e t
structure JA (X : Cx) (es : List Expr) (t : TA) : Prop where h : PA X es t
structure JO (X : Cx) (e : Option Expr) (t : TO) : Prop where h : PO X e t
structure JI (X : Cx) (tg it : Expr) (t : TI) : Prop where h : PI X tg it t
structure JG (X : Cx) (tg : Expr) (t : TG) : Prop where h : PG X tg t
structure JS (X : Cx) (st : Stmt) (t : TS) : Prop where h : PS X st t
structure JSs (X : Cx) (st : List Stmt) (t : TS) : Prop where h : PSs X st t
structure JEx (X : Cx) (e : Expr) (t : TEx) : Prop where h : PEx X e t
structure JSx (X : Cx) (st : Stmt) (t : TSx) : Prop where h : PSx X st t
structure JSsx (X : Cx) (st : List Stmt) (t : TSx) : Prop where h : PSsx X st t
structure JOp (X : Cx) (op : Operator) (r : R2) : Prop where h : OpR X (binaryOp op) r
structure JCop (X : Cx) (op : CmpOp) (r : R2) : Prop where h : OpR X (compareOp op) r
section
variable {X : Cx} {a b c e o e0 : Expr} {es rest : List Expr} {ta tb tc te to : TE} {tA tB' : TT} {t : TA} {pos p apos p2 cpos np hpos : Pos} {x n : Str} {i j : Nat} {N : List Str} {C B : Addr} {E : XK}
theorem j_int {k : Int} {q : Nat} : JE X (.Constant (.int k) q pos) (tC (.int k)) := ⟨pe_int⟩
theorem j_bl {k : Bool} {q : Nat} : JE X (.Constant (.bool k) q pos) (tC (.bl k)) := ⟨pe_bl⟩
theorem j_str {k : Str} {q : Nat} : JE X (.Constant (.str k) q pos) (tC (.str k)) := ⟨pe_str⟩
theorem j_name (h : At X.N i x) (hk : X.env.scope.names.lookup x = some .local) (hd : (x == ("__debug__" : Str)) = false) (hcd : (x == ("__classdict__" : Str)) = false) : JE X (.Name x pos) (tVar i) := ⟨r_name h hk hd hcd⟩
theorem j_bin {op : Operator} {r : R2} (ho : JOp X op r) (ha : JE X a ta) (hb : JE X b tb) : JE X (.BinOp a op b pos) (tOp r ta tb) := ⟨r_bin ho.h ha.h hb.h⟩
theorem o_sub : JOp X .Sub (rI0 fun i j => .int (i - j)) := ⟨op_sub⟩
theorem o_mod : JOp X .Mod (rI (fun _ j => 0 < j) fun i j => .int (i % j)) := ⟨op_mod⟩
theorem o_fdiv : JOp X .FloorDiv (rI CDivB fun i j => .int (i / j)) := ⟨op_fdivB⟩
theorem o_pow : JOp X .Pow (rI CPow fun i j => .int (i ^ j.toNat)) := ⟨op_pow⟩
theorem c_eq : JCop X .Eq rEq := ⟨op_eq⟩
theorem c_ne : JCop X .NotEq rNe := ⟨op_ne⟩
theorem c_lt : JCop X .Lt (rI0 fun i j => .bl (decide (i < j))) := ⟨op_lt⟩
theorem c_gt : JCop X .Gt (rI0 fun i j => .bl (decide (j < i))) := ⟨op_gt⟩
theorem c_ge : JCop X .GtE (rI0 fun i j => .bl (decide (j ≤ i))) := ⟨op_ge⟩
theorem c_isnot : JCop X .IsNot (fun x y H Q => ∃ a b : Bool, x = .bl a ∧ y = .bl b ∧ Q (.bl (!decide (a = b))) H) := ⟨op_isnotB⟩
theorem j_ix (hs : PlainIx b) (ha : JE X a ta) (hb : JE X b tb) : JE X (.Subscript a b pos) (tOp (rIx X.K) ta tb) := ⟨r_ix hs ha.h hb.h⟩
theorem j_onone : JO X none tNoPart := ⟨po_none⟩
theorem j_osome (h : JE X e te) : JO X (some e) (tPart te) := ⟨po_some h.h⟩
theorem j_tup {k : Nat} (h : JA X es t) : JE X (.Tuple es k pos) (tTupS t) := ⟨r_tupS h.h⟩
theorem j_lst (h : JA X es t) : JE X (.List es pos) (tLstS t) := ⟨r_lstS h.h⟩
theorem j_cmp {op : CmpOp} {r : R2} (h1 : op ≠ .In) (h2 : op ≠ .NotIn) (ho : JCop X op r) (ha : JE X a ta) (hb : JE X b tb) : JE X (.Compare a [op] [b] pos) (tOp r ta tb) := ⟨r_cmp h1 h2 ho.h ha.h hb.h⟩
theorem j_neg (ha : JE X a ta) : JE X (.UnaryOp .USub a pos) (tUn (rU fun i => .int (-i)) ta) := ⟨r_neg ha.h⟩
theorem j_not (ha : JE X a ta) : JE X (.UnaryOp .Not a pos) (tNotV ta) := ⟨pe_not ha.h⟩
theorem j_and (ha : JE X a ta) (hb : JE X (.BoolOp .And (b :: rest) pos) tb) : JE X (.BoolOp .And (a :: b :: rest) pos) (tAndV ta tb) := ⟨pe_and ha.h hb.h⟩
theorem j_one {op} (h : JE X a ta) : JE X (.BoolOp op [a] pos) ta := ⟨pe_one h.h⟩
theorem j_cls (ec : ECls X.K X.mg x C B) (hg : Gl X x) (hdb : (x == ("__debug__" : Str)) = false) : JE X (.Name x pos) (tC (.ref C)) := ⟨r_cls ec hg hdb⟩
theorem j_bty {T : String} (hg : Gl X x) (hm : X.mg x = none) (hv : bootBuiltins x = some (.type T)) (hn : x ≠ "__name__") (hdb : (x == ("__debug__" : Str)) = false) : JE X (.Name x pos) (tC (.ty T)) := ⟨r_bty hg hm hv hn hdb⟩
theorem j_append {cpos : Pos} (hbase : attributeBase o "append" X.env (eval o X.env) = eval o X.env) (hfew : ((backTo cpos (starEach [e] X.env)).all (fun x => !x.1) && (backToKw cpos (keywordEach [] X.env)).all (fun x => x.1.isSome)
      && decide (([e] : List Expr).length + ([] : List Keyword).length + (if ([] : List Keyword).isEmpty then 0 else 1) < 30)) = true) (hline : (apos.endLine == cpos.line) = true) (hs : starEach [e] X.env = (false, eval e X.env) :: starEach [] X.env)
    (hpl : (backTo cpos (starEach [] X.env)).any (·.1) = false) (ho : JE X o to) (ha : JA X [e] t) : JE X (.Call (.Attribute o "append" apos) [e] [] cpos) (tBM X.K "list" rAppend to t) := ⟨r_append hbase hfew hline hs hpl ho.h ha.h⟩
theorem j_call {k : Nat} {ps : List Str} {sp : Sp} (c : Callee CX0 X.prog X.w X.K X.mg X.base x k ps sp) (hr : Room k X.A) (hg : Gl X x) (hdb : (x == ("__debug__" : Str)) = false)
    (he : starEach (e :: es) X.env = (false, eval e X.env) :: starEach es X.env) (hpl : (backTo pos (starEach es X.env)).any (·.1) = false) (ha : JA X (e :: es) t) : JE X (.Call (.Name x p) (e :: es) [] pos) (tCall sp [] E0 t) := ⟨r_call c hr hg hdb he hpl ha.h⟩
theorem j_callX {k : Nat} {ps : List Str} {sp : Sp} (c : Callee (CXF X.prog X.w) X.prog X.w X.K X.mg X.base x k ps sp) (hx : Passes (CXF X.prog X.w) X E) (hr : Room k X.A) (hg : Gl X x) (hdb : (x == ("__debug__" : Str)) = false)
    (he : starEach (e :: es) X.env = (false, eval e X.env) :: starEach es X.env) (hpl : (backTo pos (starEach es X.env)).any (·.1) = false) (ha : JA X (e :: es) t) : JE X (.Call (.Name x p) (e :: es) [] pos) (tCall sp [] E t) := ⟨r_callX c hx hr hg hdb he hpl ha.h⟩
section
variable (hg : Gl X x) (he : starEach (e :: es) X.env = (false, eval e X.env) :: starEach es X.env) (hpl : (backTo pos (starEach es X.env)).any (·.1) = false)
include hg he hpl
theorem j_isi (hx : x = "isinstance") (hm : X.mg x = none) (ha : JA X (e :: es) t) : JE X (.Call (.Name x p) (e :: es) [] pos) (tCB (rIsi X.K) t) := ⟨r_isiX hx hg he hpl hm ha.h⟩
theorem j_len (hx : x = "len") (hm : X.mg x = none) (ha : JA X (e :: es) t) : JE X (.Call (.Name x p) (e :: es) [] pos) (tCB (rLen X.K) t) := ⟨r_len hg he hpl hx hm ha.h⟩
theorem j_max (hx : x = "max") (hc : X.calm = true) (hm : X.mg x = none) (ha : JA X (e :: es) t) : JE X (.Call (.Name x p) (e :: es) [] pos) (tCB (fun xs H Q => ∃ i j, xs = [.int i, .int j] ∧ Q (.int (if j > i then j else i)) H) t) := ⟨r_max hg he hpl hx hc hm ha.h⟩
theorem j_min (hx : x = "min") (hc : X.calm = true) (hm : X.mg x = none) (ha : JA X (e :: es) t) : JE X (.Call (.Name x p) (e :: es) [] pos) (tCB (fun xs H Q => ∃ i j, xs = [.int i, .int j] ∧ Q (.int (if j < i then j else i)) H) t) := ⟨r_min hg he hpl hx hc hm ha.h⟩
end
theorem j_nil : JA X [] tNil := ⟨pa_nil⟩
theorem j_cons (hs : starEach (e :: es) X.env = (false, eval e X.env) :: starEach es X.env) (ha : JE X e te) (hr : JA X es t) : JA X (e :: es) (tCons te t) := ⟨r_acons hs ha.h hr.h⟩
theorem u_cmp {op : CmpOp} {r : R2} (h1 : op ≠ .In) (h2 : op ≠ .NotIn) (ho : JCop X op r) (ha : JE X a ta) (hb : JE X b tb) : JT X (.Compare a [op] [b] pos) (tTest (tOp r ta tb)) := ⟨t_cmp h1 h2 ho.h ha.h hb.h⟩
theorem u_or (h : JW X (.BoolOp .Or es pos) tA) : JT X (.BoolOp .Or es pos) tA := ⟨h.h.pt⟩
theorem u_not (ha : JT X a tA) : JT X (.UnaryOp .Not a pos) (tNot tA) := ⟨pt_not ha.h⟩
theorem u_call {f : Expr} {ks : List Keyword} (h : JE X (.Call f es ks pos) te) : JT X (.Call f es ks pos) (tB te) := ⟨t_call h.h⟩
theorem w_or1 (ha : JT X a tA) : JW X (.BoolOp .Or [a] pos) tA := ⟨pw_or1 ha.h⟩
theorem w_or (ha : JT X a tA) (hb : JW X (.BoolOp .Or (b :: rest) pos) tB') : JW X (.BoolOp .Or (a :: b :: rest) pos) (tOr tA tB') := ⟨pw_or ha.h hb.h⟩
theorem i_range1 {tg : Expr} (hx : x = "range") (hg : Gl X x) (hm : X.mg x = none) (hs : starEach [a] X.env = [(false, eval a X.env)]) (ha : JA X [a] t) : JI X tg (.Call (.Name x p) [a] [] pos) (iRng1 t) := ⟨r_irange1 hx hg hm hs ha.h⟩
theorem g_name (h : At X.N i x) (hN : X.N.Nodup) (hk : X.env.scope.names.lookup x = some .local) : JG X (.Name x pos) (gName i) := ⟨r_gname h hN hk⟩
variable {st : Stmt} {sts : List Stmt} {t1 t2 : TS}
theorem s_ret (he : JE X e te) : JS X (.Return (some e) pos) (tRet te) := ⟨r_ret he.h⟩
theorem s_set (h : At X.N i x) (hN : X.N.Nodup) (hk : X.env.scope.names.lookup x = some .local) (hs : swapsWith e (some (.Name x p)) pos.line X.env = pure false) (he : JE X e te) : JS X (.Assign [.Name x p] e pos) (tAsg te (gName i)) := ⟨r_set h hN hk hs he.h⟩
theorem s_expr (hs : swapsWith e none pos.line X.env = pure false) (he : JE X e te) : JS X (.Expr e pos) (tDrop te) := ⟨r_expr hs he.h⟩
theorem s_if {aa bb : List Stmt} (hc : JT X c tA) (ha : JSs X aa t1) (hb : JSs X bb t2) : JS X (.If c aa bb pos) (tMid (tIfS tA t1 t2)) := ⟨r_ifM hc.h ha.h hb.h⟩
theorem s_for {iter tg : Expr} {body : List Stmt} {wi : TI} {g : TG} {tb : TS} (hp : PassesOwn (model X.prog X.w) X.A X.env X.xe) (hc : X.calm = true) (hs : ∀ x, foldedSetIterable iter X.env x = pure x) (hi : JI X tg iter wi) (hg : JG X tg g) (hb : JSs X body tb) : JS X (.For tg iter body [] pos) (tFor wi g tb) := ⟨r_for hp hc hs hi.h hg.h hb.h⟩
theorem s_unpack2 {y : Str} {px py pt : Pos} {kt : Nat} (hi : At X.N i x) (hj : At X.N j y) (hc : X.calm = true) (hN : X.N.Nodup) (hx : X.env.scope.names.lookup x = some .local) (hy : X.env.scope.names.lookup y = some .local)
    (h1 : (assignEach [.Name x px, .Name y py] X.env).map (·.2) = assign (.Name x px) X.env :: (assignEach [.Name y py] X.env).map (·.2))
    (h2 : (assignEach [.Name y py] X.env).map (·.2) = assign (.Name y py) X.env :: (assignEach [] X.env).map (·.2))
    (hn : (assignEach [.Name x px, .Name y py] X.env).length = 2) (hst : (assignEach [.Name x px, .Name y py] X.env).findIdx? (·.1) = none)
    (hs : swapsWithSole [.Tuple [.Name x px, .Name y py] kt pt] e pos.line X.env = pure false) (hw : swappedStores [.Tuple [.Name x px, .Name y py] kt pt] e X.env = pure none)
    (h3 : (assignEach [.Tuple [.Name x px, .Name y py] kt pt] X.env).map (·.2) = [assign (.Tuple [.Name x px, .Name y py] kt pt) X.env]) (he : JE X e te) :
    JS X (.Assign [.Tuple [.Name x px, .Name y py] kt pt] e pos) (tAsg te (gTup X.K 2 (gCons (gName i) (gCons (gName j) gNil)))) := ⟨r_unpack2 hi hj hc hN hx hy h1 h2 hn hst hs hw h3 he.h⟩
theorem s_raise (ec : ECls X.K X.mg x C B) (hg : Gl X x) (hc : X.calm = true) (ht : Throws X E) (hdb : (x == ("__debug__" : Str)) = false) (hst : starEach [e0] X.env = [(false, eval e0 X.env)]) (he : JE X e0 te) :
    JS X (.Raise (some (.Call (.Name x np) [e0] [] cpos)) none pos) (tRaise C E te) := ⟨r_raise ec hg hc ht hdb hst he.h⟩
theorem s_try {body : List Stmt} {b0 : Stmt} {suite : List Stmt} {tb : TSx} {ts : TS} (bc : BCls X.K X.mg x B) (hex : X.ex = []) (hstk : X.stack = X.env :: X.outer) (hfr : X.env.frame = some X.env.locals) (hN : X.N.Nodup) (hi : At X.N i n) (hn : X.env.scope.names.lookup n = some .local)
    (hg : Gl X x) (hdb : (x == ("__debug__" : Str)) = false) (hb : JSsx X body tb) (hs : ∀ ea, JSs (mkd X ea) (b0 :: suite) ts) : JS X (.Try body [.ExceptHandler (some (.Name x np)) (some n) (b0 :: suite) hpos] [] [] pos) (tTryAs X.K (.ref B) i tb ts) :=
  ⟨r_tryAs bc hex hstk hfr hN hi hn hg hdb hb.h fun ea => (hs ea).h⟩
theorem ss_nil : JSs X [] tNext := ⟨pss_nil⟩
theorem ss_cons (h1 : JS X st t1) (h2 : JSs X sts t2) : JSs X (st :: sts) (tSeq t1 t2) := ⟨pss_cons h1.h h2.h⟩
theorem x_call {k : Nat} {ps : List Str} {sp : Sp} (c : Callee (CXF X.prog X.w) X.prog X.w X.K X.mg X.base x k ps sp) (hr : Room k X.A) (hg : Gl X x) (hdb : (x == ("__debug__" : Str)) = false)
    (he : starEach (e :: es) X.env = (false, eval e X.env) :: starEach es X.env) (hpl : (backTo pos (starEach es X.env)).any (·.1) = false) (hex : X.ex = []) (ha : JA X.nox (e :: es) t) : JEx X (.Call (.Name x p) (e :: es) [] pos) (tCallx sp t) := ⟨pex_call c hr hg hdb he hpl hex ha.h⟩
theorem x_expr {tx : TEx} (hs : swapsWith e none pos.line X.env = pure false) (he : JEx X e tx) : JSx X (.Expr e pos) (tDropx tx) := ⟨psx_expr he.h hs⟩
theorem x_if {aa bb : List Stmt} {u1 u2 : TSx} (hc : JT X.nox c tA) (ha : JSsx X aa u1) (hb : JSsx X bb u2) : JSx X (.If c aa bb pos) (tIfx tA u1 u2) := ⟨psx_if hc.h ha.h hb.h⟩
theorem xx_nil : JSsx X [] tNextx := ⟨pssx_nil⟩
theorem xx_cons {u1 u2 : TSx} (h1 : JSx X st u1) (h2 : JSsx X sts u2) : JSsx X (st :: sts) (tSeqx u1 u2) := ⟨pssx_cons h1.h h2.h⟩
end
section
variable {P : Program} {w : World} {K : PySem.W.Frag} {mg : Str → Option Value} {base : Heap} {x qual : Str} {st : Stmt} {f : Addr} {fd : FuncData} {N ps : List Str} {k : Nat} {sp : Sp}
theorem Fun.j (F : Fun K x qual st f fd) (S : FnScope N ps (defScope st)) (len : ∀ vs H Q E, sp vs H Q E → vs.length = ps.length)
    (hbody : ∀ (cdv : Value) (A : Around) (outer : List Env) (s : Shared) (H : Hp) (vs : List V) (Q : VK) (E : XK), Room k (A.deeper (envOfC qual (defScope st) s.heap.objs.size f cdv)) → sp vs H Q E →
      ∃ t, JSs (cxOf CX0 P w K mg base N qual (defScope st) f cdv A outer s H E).nox (defBody st) t ∧ t { nx := fun _ H' => Q .non H', rt := Q } (start N vs) H) : FnOk P w K mg base CX0 (k + 1) f fd ps sp :=
  L2.Fun.ok F S len fun cdv A outer s H vs Q E hr h => let ⟨t, a, b⟩ := hbody cdv A outer s H vs Q E hr h; ⟨t, a.h, b⟩
theorem Fun.jX (F : Fun K x qual st f fd) (S : FnScope N ps (defScope st)) (len : ∀ vs H Q E, sp vs H Q E → vs.length = ps.length)
    (hbody : ∀ (cdv : Value) (A : Around) (outer : List Env) (s : Shared) (H : Hp) (vs : List V) (Q : VK) (E : XK), Room k (A.deeper (envOfC qual (defScope st) s.heap.objs.size f cdv)) → sp vs H Q E →
      ∃ t, JSs (cxOf (CXF P w) P w K mg base N qual (defScope st) f cdv A outer s H E) (defBody st) t ∧ t { nx := fun _ H' => Q .non H', rt := Q } (start N vs) H) : FnOk P w K mg base (CXF P w) (k + 1) f fd ps sp :=
  Br.Fun.okX F S len fun cdv A outer s H vs Q E hr h => let ⟨t, a, b⟩ := hbody cdv A outer s H vs Q E hr h; ⟨t, a.h, b⟩
end
end Br
namespace Br
end Br
namespace Br
open PySem PySem.Spec PySem.Calls PyProof.Rows L2
mutual
inductive Rep (H : Hp) : V → PyData → Prop
  | non : Rep H .non .none
  | bl (b : Bool) : Rep H (.bl b) (.bool b)
  | int (i : Int) : Rep H (.int i) (.int i)
  | str (x : Str) : Rep H (.str x) (.str x)
  | tup {a : Addr} {xs : List V} {ds : List PyData} (h : H a = some (.tup xs)) (r : Reps H xs ds) : Rep H (.ref a) (.tuple ds)
  | lst {a : Addr} {xs : List V} {ds : List PyData} (h : H a = some (.lst xs)) (r : Reps H xs ds) : Rep H (.ref a) (.list ds)
inductive Reps (H : Hp) : List V → List PyData → Prop
  | nil : Reps H [] []
  | cons {x : V} {xs : List V} {d : PyData} {ds : List PyData} (h : Rep H x d) (r : Reps H xs ds) : Reps H (x :: xs) (d :: ds)
end
mutual
theorem Rep.mono {H H' : Hp} (s : L2.Same H H') : ∀ {v : V} {d : PyData}, Rep H v d → Rep H' v d
  | _, _, .non => .non
  | _, _, .bl b => .bl b
  | _, _, .int i => .int i
  | _, _, .str x => .str x
  | _, _, .tup h r => .tup (s _ _ h) (r.mono s)
  | _, _, .lst h r => .lst (s _ _ h) (r.mono s)
theorem Reps.mono {H H' : Hp} (s : L2.Same H H') : ∀ {vs : List V} {ds : List PyData}, Reps H vs ds → Reps H' vs ds
  | _, _, .nil => .nil
  | _, _, .cons h r => .cons (h.mono s) (r.mono s)
end
theorem Reps.length {H : Hp} : ∀ {vs : List V} {ds : List PyData}, Reps H vs ds → vs.length = ds.length
  | _, _, .nil => rfl
  | _, _, .cons _ r => by simp [r.length]
theorem Reps.append {H : Hp} : ∀ {vs us : List V} {ds es : List PyData}, Reps H vs ds → Reps H us es → Reps H (vs ++ us) (ds ++ es)
  | _, _, _, _, .nil, r => r
  | _, _, _, _, .cons h r, q => .cons h (r.append q)
theorem Reps.get {H : Hp} : ∀ {vs : List V} {ds : List PyData} {i : Nat} {v : V}, Reps H vs ds → vs[i]? = some v → ∃ d, ds[i]? = some d ∧ Rep H v d
  | _, _, 0, _, .cons h _, e => by simp at e; subst e; exact ⟨_, rfl, h⟩
  | _, _, i + 1, _, .cons _ r, e => by
    obtain ⟨d, h1, h2⟩ := r.get (i := i) (by simpa using e)
    exact ⟨d, by simpa using h1, h2⟩
section
variable {P : Program} {w : World} {H : Hp} {h : Heap}
end
section
variable {X : Cx} {k : Nat}
end
end Br
namespace Br
open PySem PySem.Spec PySem.Calls PyProof.Rows L2
section
variable {prog : Program} {w : World} {A : Around} {R : Result → Shared → Prop} {s : Shared}
abbrev testsOf (ifs : List Expr) (env : Env) : Sem Bool := forIn ifs true fun c r => if r = true then do let ok ← isTrue c env (eval c env); pure (ForInStep.yield ok) else pure (ForInStep.yield r)
theorem compLoop_go {elt target iter : Expr} {ifs : List Expr} {scope : Scope} {pos : Pos} {it acc : Value} {env : Env} (I : Nat → Shared → Prop)
    (turn : ∀ n s, I n s → wpAny (model prog w) A (pyNext it) (fun r s₁ => match r with
      | none => R (.ok .next) s₁
      | some v => wpAny (model prog w) A (letOwnedTupleGo target it v) (fun _ s₁ => wpAny (model prog w) A (assign target env v) (fun _ s₂ =>
          wpAny (model prog w) A (testsOf ifs env) (fun ok s₃ =>
            if ok = true then wpAny (model prog w) A (eval elt env) (fun x s₄ =>
              wpAny (model prog w) A (call (.builtin "list.append") [acc, x]) (fun _ s₅ => ∃ m, m < n ∧ I m s₅) (fun _ _ => False) s₄) (fun _ _ => False) s₃
            else ∃ m, m < n ∧ I m s₃) (fun _ _ => False) s₂) (fun _ _ => False) s₁) (fun _ _ => False) s₁) (fun _ _ => False) s)
    (n : Nat) (h : I n s) :
    codeAny (model prog w) A (.compLoop (.ListComp elt [⟨target, iter, ifs, 0⟩] scope pos) 0 it acc env) R s := by
  refine codeAny_loop rfl I (fun n s hI => ?_) n h
  show wpAny _ A ((compTurn (.ListComp elt [⟨target, iter, ifs, 0⟩] scope pos) 0 it acc env).onRaise (fun x => do noteFrame x env; theTreesLotGoes x)) _ _ s
  refine wpAny_noted (wpAny_mono (E := fun _ _ => False) ?_ (fun _ _ q => q) fun _ _ f => f.elim)
  rw [compTurn_list]
  refine wpAny_bind (wpAny_standAt (wpAny_bind (thn (turn n s hI) fun r s₁ h₁ => ?_)))
  cases r with
  | none => exact wpAny_pure h₁
  | some v =>
    refine wpAny_bind (thn h₁ fun _ s₁ h₁ => wpAny_bind (thn h₁ fun _ s₂ h₂ => wpAny_bind (thn h₂ fun ok s₃ h₃ => ?_)))
    cases ok with
    | false => exact wpAny_pure ⟨rfl, h₃⟩
    | true => exact wpAny_bind (wpAny_bind (thn h₃ fun x s₄ h₄ => wpAny_bind (thn h₄ fun _ s₅ h₅ => wpAny_pure (wpAny_pure ⟨rfl, h₅⟩))))
end
def clOf (scope : Scope) (env : Env) : List (Str × Addr) := (scope.names.filter fun x => x.2 == NameKind.free).reverse.map fun x => (x.1, (env.cells.lookup x.1).getD 0)
theorem closure_go {env : Env} : ∀ (l : List (Str × NameKind)) (cs : List (Str × Addr)), (∀ y ∈ l, y.2 = .free → ∃ c, env.cells.lookup y.1 = some c) →
    (forIn l cs fun (x : Str × NameKind) cs => (do
      if x.2 == .free then do let c ← cellOf env x.1; pure (ForInStep.yield ((x.1, c) :: cs)) else pure (ForInStep.yield cs) : Sem _)) =
      pure (((l.filter fun x => x.2 == NameKind.free).reverse.map fun x => (x.1, (env.cells.lookup x.1).getD 0)) ++ cs)
  | [], cs, _ => rfl
  | (n, k) :: r, cs, h => by
    have ih := fun cs => closure_go r cs fun y hy => h y (.tail _ hy)
    rw [List.forIn_cons]
    by_cases hk : k = .free
    · subst hk
      obtain ⟨c, hc⟩ := h (n, .free) (.head _) rfl
      have e1 : cellOf env n = pure c := by unfold cellOf; rw [show env.cells.lookup n = some c from hc]
      show ((do let c ← cellOf env n; pure (ForInStep.yield ((n, c) :: cs)) : Sem _) >>= _) = _
      rw [e1]
      show (forIn r ((n, c) :: cs) _ : Sem _) = _
      rw [ih]
      simp [hc, show env.cells.lookup n = some c from hc]
    · have e : (k == NameKind.free) = false := by cases k <;> first | rfl | exact absurd rfl hk
      show ((if (k == NameKind.free) = true then _ else pure (ForInStep.yield cs) : Sem _) >>= _) = _
      rw [e]
      show (forIn r cs _ : Sem _) = _
      rw [ih]
      simp [e]
theorem closure_of {scope : Scope} {env : Env} (h : ∀ y ∈ scope.names, y.2 = .free → ∃ c, env.cells.lookup y.1 = some c) : closureFor scope env = pure (clOf scope env) := by
  have q := closure_go (env := env) scope.names [] h
  rw [List.append_nil] at q
  exact (congrArg (fun t : Sem (List (Str × Addr)) => t >>= fun a => pure a) q).trans rfl
theorem clOf_sub {scope : Scope} {env : Env} (h : ∀ y ∈ scope.names, y.2 = .free → ∃ c, env.cells.lookup y.1 = some c) {x : Str} {c : Addr} (e : (clOf scope env).lookup x = some c) : env.cells.lookup x = some c ∧ (x, NameKind.free) ∈ scope.names := by
  have hm := PySem.mem_of_lookup e
  unfold clOf at hm
  obtain ⟨⟨n, k⟩, hy, e2⟩ := List.mem_map.mp hm
  have hf := List.mem_filter.mp (List.mem_reverse.mp hy)
  have hk : k = .free := by have := hf.2; cases k <;> first | rfl | (cases this)
  subst hk
  obtain ⟨c', hc⟩ := h (n, .free) hf.1 rfl
  injection e2 with e3 e4
  have e3 : n = x := e3
  subst e3
  have hc : env.cells.lookup n = some c' := hc
  have e4 : (env.cells.lookup n).getD 0 = c := e4
  rw [hc] at e4
  exact ⟨by rw [hc, ← e4]; rfl, hf.1⟩
theorem lookup_some_of_mem {l : List (Str × Addr)} {x : Str} {c : Addr} (h : (x, c) ∈ l) : ∃ c', l.lookup x = some c' := by
  induction l with
  | nil => cases h
  | cons a r ih =>
    obtain ⟨n, d⟩ := a
    rw [List.lookup_cons]
    cases e : x == n with
    | true => exact ⟨d, rfl⟩
    | false =>
      rcases List.mem_cons.mp h with z | z
      · injection z with z1 z2
        rw [z1] at e; simp at e
      · exact ih z
theorem clOf_has {scope : Scope} {env : Env} (h : ∀ y ∈ scope.names, y.2 = .free → ∃ c, env.cells.lookup y.1 = some c) {x : Str} (hx : (x, NameKind.free) ∈ scope.names) : ∃ c, (clOf scope env).lookup x = some c :=
  lookup_some_of_mem (c := (env.cells.lookup x).getD 0) (List.mem_map.mpr ⟨(x, .free), List.mem_reverse.mpr (List.mem_filter.mpr ⟨hx, rfl⟩), rfl⟩)
theorem relabel_mem {env : Env} : ∀ {names : List (Str × NameKind)} {x : Str} {k : NameKind}, (names.map fun (n, k) => if (k == NameKind.free && env.scope.kind == .function && env.kindOf n == some .cell) then (n, NameKind.cell) else (n, k)).lookup x = some k →
    ∃ k0, names.lookup x = some k0 ∧ (k0 = k ∨ (k0 = .free ∧ k = .cell))
  | [], _, _, h => by simp at h
  | (n, k0) :: r, x, k, h => by
    have ih := @relabel_mem env r x k
    rw [List.map_cons] at h
    have h : List.lookup x ((if (k0 == NameKind.free && env.scope.kind == .function && env.kindOf n == some .cell) = true then (n, NameKind.cell) else (n, k0)) :: _) = _ := h
    rw [List.lookup_cons]
    by_cases hc : (k0 == NameKind.free && env.scope.kind == .function && env.kindOf n == some .cell) = true
    · rw [if_pos hc, List.lookup_cons] at h
      cases e : x == n with
      | true =>
        rw [e] at h
        cases h
        refine ⟨k0, rfl, .inr ⟨?_, rfl⟩⟩
        revert hc
        cases k0 <;> first | (intro _; rfl) | (intro hc; exact absurd hc (by simp))
      | false => rw [e] at h; exact ih h
    · rw [if_neg hc, List.lookup_cons] at h
      cases e : x == n with
      | true => rw [e] at h; cases h; exact ⟨k0, rfl, .inl rfl⟩
      | false => rw [e] at h; exact ih h
def hid (scope : Scope) (y : Str) : Str := match scope.names.lookup y with
  | some .local => "."
  | _ => y
theorem hid_cases (scope : Scope) (y : Str) : (scope.names.lookup y = some .local ∧ hid scope y = (("." : Str))) ∨ (scope.names.lookup y ≠ some .local ∧ hid scope y = y) := by
  unfold hid
  split
  · rename_i e; exact .inl ⟨e, rfl⟩
  · rename_i e; exact .inr ⟨fun z => e z, rfl⟩
def cxC (X : Cx) (Nc : List Str) (scope : Scope) (C : Addr) (s : Shared) (H : Hp) (fp : List Addr) : Cx :=
  { X with N := Nc ++ X.N.map (hid scope), s₀ := s, H₀ := H, env := compEnvC scope (clOf scope X.env) C X.env, outer := X.stack, ex := fp, fn := fun _ => false, pn := [], xe := fun _ _ => False }
structure CompS (X : Cx) (scope : Scope) : Prop where
  kind : scope.kind = .function
  nocell : ∀ y ∈ scope.names, y.2 ≠ .cell
  names : ∀ y ∈ scope.names, y.2 = .local → scope.names.lookup y.1 = some .local
  free : ∀ y ∈ scope.names, y.2 = .free → X.env.kindOf y.1 = some .cell ∨ X.env.kindOf y.1 = some .free
  dot : scope.names.lookup ("." : Str) = none
  nd : (X.N.map (hid scope)).Nodup
def PIfs (X : Cx) (ifs : List Expr) (t : TT) : Prop :=
  ∀ (pins : List (Addr × Obj)) (s : Shared) (σ : L2.St) (H : Hp) (Q : Bool → Hp → Prop), Inv X pins σ H s → t σ H Q → wpAny (model X.prog X.w) X.A (testsOf ifs X.env) (TP X pins σ Q) X.xe s
def tYes : TT := fun _ H Q => Q true H
section
variable {X : Cx} {tt : TT} {c : Expr}
theorem pifs_nil : PIfs X [] tYes := fun pins s σ H Q I h => wpAny_tests_nil ⟨H, I, h⟩
theorem pifs_one (h : PT X c tt) : PIfs X [c] tt := fun pins s σ H Q I q => wpAny_tests_one (h pins s σ H Q I q)
end
section
variable {X : Cx} {pins : List (Addr × Obj)} {σ : L2.St} {H : Hp} {s : Shared}
def Cmp (J : It) (g : TG) (tt : TT) (te : TE) (σ0 : L2.St) (H0 : Hp) (Z : List V → Hp → Prop) : Prop :=
  ∃ W : Nat → Nat → List V → L2.St → Hp → Prop, (∃ m, W 0 m [] σ0 H0) ∧ ∀ i m ys σ' H', W i m ys σ' H' → ys.length ≤ sizeLine ∧
    ((J.stop i H' ∧ Z ys H') ∨
     (J.go i H' ∧ ∀ x H2, J.yld i H' x H2 → g x σ' H2 fun σ3 H3 => tt σ3 H3 fun b H4 => if b = true then te σ3 H4 fun y H5 => ∃ m', m' < m ∧ W (i + 1) m' (ys ++ [y]) σ3 H5 else ∃ m', m' < m ∧ W (i + 1) m' ys σ3 H4))
theorem inv_block {Nc : List Str} {scope : Scope} {fp : List Addr} {h1 : Heap} {D C : Addr} {t' : Nat} (I : Inv X pins σ H s) (S : CompS X scope) (hf : ∀ b ∈ fp, FpOk X pins H b) (hob : ∀ b ∈ fp, ∃ o, s.heap.get? b = some o)
    (hC : s.heap.objs.size ≤ C) (old : ∀ b o, s.heap.get? b = some o → h1.get? b = some o) (hn : h1.Ns C fun _ => none) :
    Inv (cxC X Nc scope C s H fp) [] (List.replicate Nc.length none ++ σ) H { s with heap := h1, toks := t' } := by
  have hcells : ∀ y ∈ scope.names, y.2 = .free → ∃ c, X.env.cells.lookup y.1 = some c := fun y hy e => I.ok.has y.1 (S.free y hy e)
  have hsub : ∀ {x : Str} {c : Addr}, (clOf scope X.env).lookup x = some c → X.env.cells.lookup x = some c := fun e => (clOf_sub hcells e).1
  have hlt : ∀ x c, X.env.cells.lookup x = some c → c < s.heap.objs.size := fun x c e => let ⟨v, q⟩ := I.cell x c e; q.lt
  refine ⟨⟨I.ok.mod, S.kind, I.ok.glob, I.ok.blt, hC, fun x y c e1 e2 => I.ok.inj x y c (hsub e1) (hsub e2), fun x hx => ?_, fun x c z _ => ?_, I.ok.hd, I.ok.frames, .inl rfl, fun b hb => ⟨?_, fun x c e => (hf b hb).2.2.2.2.1 x c (hsub e)⟩, I.bs, ?_, ?_, ?_, I.stack, I.stkFree⟩,
    rfl, I.bare, Un.kept old, ⟨_, hn, fun i x v e1 e2 e3 => ?_⟩, fun x c e => ?_, I.hok.fresh hC, fun x c e => I.freeC x c (hsub e), fun p hp => absurd (show p ∈ ([] : List (Addr × Obj)) from hp) (by simp), I.hok.kept old, ?_⟩
  · have hx : (relabel scope X.env).names.lookup x = some .cell ∨ (relabel scope X.env).names.lookup x = some .free := hx
    have go : ∀ k, (k = .cell ∨ k = .free) → (relabel scope X.env).names.lookup x = some k → ∃ c, (clOf scope X.env).lookup x = some c := fun k hk e => by
      obtain ⟨k0, e0, h0⟩ := relabel_mem (env := X.env) (names := scope.names) e
      have hm := PySem.mem_of_lookup e0
      have : k0 = .free := by
        rcases h0 with h0 | h0
        · subst h0
          rcases hk with hk | hk
          · exact absurd hk (S.nocell _ hm)
          · exact hk
        · exact h0.1
      subst this
      exact clOf_has hcells hm
    rcases hx with e | e
    · exact go _ (.inl rfl) e
    · exact go _ (.inr rfl) e
  · have z : false = true := z
    cases z
  · obtain ⟨o, e⟩ := hob b hb
    exact Nat.ne_of_lt (Nat.lt_of_lt_of_le (Heap.lt_size e) hC)
  · exact Nat.le_trans I.ok.bsz I.sz
  · intro b o e hb
    rcases (hf b hb).2.2.2.1 with z | z
    · exact I.ok.noex b o e z
    · exact absurd (Nat.lt_of_lt_of_le (Heap.lt_size e) (Nat.le_trans I.ok.bsz z)) (Nat.lt_irrefl _)
  · intro b hb hm
    rcases List.mem_cons.mp (I.stkSub b hm) with z | z
    · exact (hf b hb).2.1 z
    · exact (hf b hb).2.2.1 z
  · have e1 : (Nc ++ X.N.map (hid scope))[i]? = some x := e1
    have e3 : Vis (relabel scope X.env) x := e3
    have hi : Nc.length ≤ i := by
      refine Nat.not_lt.mp fun z => ?_
      rw [List.getElem?_append_left (by simpa using z), List.getElem?_replicate] at e2
      split at e2 <;> cases e2
    rw [List.getElem?_append_right hi] at e1
    rw [List.getElem?_append_right (by simpa using hi), List.length_replicate] at e2
    rw [List.getElem?_map] at e1
    obtain ⟨x0, ex0, hx0⟩ := Option.map_eq_some_iff.mp e1
    have dotn : ∀ k, (relabel scope X.env).names.lookup ("." : Str) ≠ some k := fun k e => by
      obtain ⟨k0, e0, _⟩ := relabel_mem (env := X.env) (names := scope.names) e
      rw [S.dot] at e0; cases e0
    have hxx : x0 = x ∧ scope.names.lookup x ≠ some .local := by
      rcases hid_cases scope x0 with ⟨_, h2⟩ | ⟨h1, h2⟩
      · rw [h2] at hx0
        subst hx0
        rcases e3 with e | e | e <;> exact absurd e (dotn _)
      · rw [h2] at hx0
        subst hx0
        exact ⟨rfl, h1⟩
    obtain ⟨hx1, hnl⟩ := hxx
    rw [hx1] at ex0
    have e1 := ex0
    have hfree : (x, NameKind.free) ∈ scope.names ∧ (relabel scope X.env).names.lookup x ≠ some .local := by
      have go : ∀ k, (relabel scope X.env).names.lookup x = some k → (k = .local ∨ k = .cell ∨ k = .free) → (x, NameKind.free) ∈ scope.names ∧ k ≠ .local := fun k e hk => by
        obtain ⟨k0, e0, h0⟩ := relabel_mem (env := X.env) (names := scope.names) e
        have hm := PySem.mem_of_lookup e0
        rcases h0 with h0 | h0
        · subst h0
          rcases hk with hk | hk | hk
          · subst hk; exact absurd e0 hnl
          · exact absurd hk (S.nocell _ hm)
          · subst hk; exact ⟨hm, by decide⟩
        · obtain ⟨a, b⟩ := h0
          subst a; subst b
          exact ⟨hm, by decide⟩
      rcases e3 with e | e | e
      · exact absurd rfl (go _ e (.inl rfl)).2
      · exact ⟨(go _ e (.inr (.inl rfl))).1, by rw [e]; decide⟩
      · exact ⟨(go _ e (.inr (.inr rfl))).1, by rw [e]; decide⟩
    have hk := S.free _ hfree.1 rfl
    obtain ⟨m, hm, hl⟩ := I.loc
    obtain ⟨u, r, l⟩ := hl (i - Nc.length) x v e1 e2 (.inr hk)
    refine ⟨u, r, ?_⟩
    rcases l with ⟨z, _⟩ | ⟨_, c, hc, z⟩
    · have z : X.env.kindOf x = some .local := z
      rcases hk with hk | hk
      · have hk : X.env.kindOf x = some .cell := hk
        rw [hk] at z; cases z
      · have hk : X.env.kindOf x = some .free := hk
        rw [hk] at z; cases z
    · obtain ⟨c', hc'⟩ := clOf_has hcells hfree.1
      have q := hsub hc'
      rw [hc] at q; cases q
      obtain ⟨o, ho, hd⟩ := z
      refine .inr ⟨?_, c, hc', o, old _ _ ho, hd⟩
      rcases e3 with e | e | e
      · exact absurd e hfree.2
      · exact .inl e
      · exact .inr e
  · obtain ⟨v, o, ho, hd⟩ := I.cell x c (hsub e)
    exact ⟨v, o, old _ _ ho, hd⟩
  · show (List.replicate Nc.length none ++ σ).length = (Nc ++ X.N.map (hid scope)).length
    rw [List.length_append, List.length_append, List.length_replicate, List.length_map, I.len]
end
end Br
namespace Br
open PySem PySem.Spec PySem.Calls PyProof.Rows L2
section
variable {X : Cx} {pins : List (Addr × Obj)} {σ : L2.St} {H2 : Hp} {s2 : Shared} {tg iter elt : Expr} {ifs : List Expr} {scope : Scope} {pos : Pos} {Nc : List Str} {g : TG} {tt : TT} {te : TE}
theorem comp_block {it : Addr} {fp : List Addr} {tn : Nat → Heap → Prop} {J : It} {Z : List V → Hp → Prop} {E : Value → Shared → Prop} {RR : Value → Addr → Result → Shared → Prop}
    (hc : X.calm = true) (S : CompS X scope) (I2 : Inv X pins σ H2 s2) (T : Turn X.prog X.w X.K tg J fp it tn) (st2 : tn 0 s2.heap) (f2 : ∀ b ∈ fp, FpOk X pins H2 b)
    (hg : ∀ C s H fp, PG (cxC X Nc scope C s H fp) tg g) (ht : ∀ C s H fp, PIfs (cxC X Nc scope C s H fp) ifs tt) (he : ∀ C s H fp, PE (cxC X Nc scope C s H fp) elt te)
    (h : Cmp J g tt te (List.replicate Nc.length none ++ σ) H2 Z)
    (hRR : ∀ D C s' H3 ys, Inv X pins σ (upd H3 D (.lst ys)) s' → H3 D = none → Z ys H3 → (∃ m, s'.heap.Ns C m) → FpOk X pins (upd H3 D (.lst ys)) C → RR (.ref D) C (.ok .next) s') :
    wpAny (model X.prog X.w) X.A (newList []) (fun acc s₃ => wpAny (model X.prog X.w) X.A (newFunctionEnv scope X.env.globals (clOf scope X.env) [] X.env.qual none .none (some X.env)) (fun cenv s₄ =>
      codeAny (model X.prog X.w) X.A (.compStart (.ListComp elt [⟨tg, iter, ifs, 0⟩] scope pos) 0 (.ref it) acc { cenv with scope := relabel scope X.env }) (RR acc cenv.locals) s₄) E s₃) E s2 := by
  refine wpAny_newObj_type (wpAny_newFunctionEnv S.nocell (by intro y hy; simp at hy) (fun h₁ hns₁ hsb₁ => ?_) S.kind)
  dsimp only at hns₁ hsb₁ ⊢
  generalize hH2 : s2.heap.push { cls := .type "list", dict := none, data := .seq ([] : List Value).toArray } = G at hns₁ hsb₁ ⊢
  have hC : G.objs.size = s2.heap.objs.size + 1 := by rw [← hH2, Heap.size_push]
  generalize hD0 : s2.heap.objs.size = D at *
  generalize hC0 : G.objs.size = C at *
  have hDC : D ≠ C := by omega
  have below : ∀ (b : Nat) o, s2.heap.get? b = some o → b < D := fun b o e => hD0 ▸ Heap.lt_size e
  have belC : ∀ (b : Nat) o, s2.heap.get? b = some o → b ≠ C := fun b o e => by have := below b o e; omega
  have belD : ∀ (b : Nat) o, s2.heap.get? b = some o → b ≠ D := fun b o e => by have := below b o e; omega
  have old : ∀ b o, s2.heap.get? b = some o → h₁.get? b = some o := fun b o e => hsb₁.extBut b o (belC b o e) (by
    have q := Heap.get?_push_of_some { cls := .type (if (some X.env).isSome then "dict" else "frame"), data := .dict #[] } (hH2 ▸ Heap.get?_push_of_some _ e : G.get? b = some o)
    exact q)
  have hacc : h₁.PlainList D #[] := ⟨_, hsb₁.extBut _ _ hDC (Heap.get?_push_of_some _ (by rw [← hH2, ← hD0]; exact Heap.get?_push_size _ rfl))⟩
  obtain ⟨W, ⟨m0, w0⟩, turn⟩ := h
  have hob : ∀ b ∈ fp, ∃ o, s2.heap.get? b = some o := fun b hb => let ⟨o, e, _⟩ := T.obj _ _ st2 b hb; ⟨o, e⟩
  have hfpD : ∀ b : Nat, b ∈ fp → b < D := fun b hb => let ⟨o, e⟩ := hob b hb; below b o e
  have hfpN : ∀ b : Nat, b ∈ fp → b ≠ D := fun b hb => Nat.ne_of_lt (hfpD b hb)
  have hcells : ∀ y ∈ scope.names, y.2 = .free → ∃ c, X.env.cells.lookup y.1 = some c := fun y hy e => I2.ok.has y.1 (S.free y hy e)
  have hsub : ∀ {x : Str} {c : Addr}, (clOf scope X.env).lookup x = some c → X.env.cells.lookup x = some c := fun e => (clOf_sub hcells e).1
  have hclt : ∀ x c, (clOf scope X.env).lookup x = some c → c < D := fun x c e => let ⟨v, q⟩ := I2.cell x c (hsub e); hD0 ▸ q.lt
  have hn0 : h₁.Ns C fun _ => none := hns₁
  have IB : Inv (cxC X Nc scope C s2 H2 fp) [] (List.replicate Nc.length none ++ σ) H2 { s2 with heap := h₁, toks := s2.toks + ([] : List (Str × Value)).length } :=
    inv_block (D := D) I2 S f2 hob (by omega) old hn0
  have hfs : ∀ b : Nat, D ≤ b → b ∉ (cxC X Nc scope C s2 H2 fp).fs := fun b hb hm => by
    obtain ⟨_, o, ho, _⟩ := IB.ok.funs.mem hm
    exact absurd (Nat.lt_of_lt_of_le (below b o ho) hb) (Nat.lt_irrefl _)
  have stat : ∀ {H' : Hp} {ps : List (Addr × Obj)}, (∀ p ∈ ps, Nat.le D p.1) → (∀ b ∈ fp, H' b = none) → ∀ b ∈ fp, FpOk (cxC X Nc scope C s2 H2 fp) ps H' b := fun {H' ps} hps hn b hb =>
    ⟨hn b hb, (let ⟨o, e⟩ := hob b hb; belC b o e), IB.ok.exfs b hb, .inl hb, fun x c e => (f2 b hb).2.2.2.2.1 x c (hsub e), fun p hp => Nat.ne_of_gt (Nat.lt_of_lt_of_le (hfpD b hb) (hps p hp))⟩
  have loop : ∀ s₃ : Shared, s₃ = { s2 with heap := h₁, toks := s2.toks + ([] : List (Str × Value)).length } →
      codeAny (model X.prog X.w) X.A (.compLoop (.ListComp elt [⟨tg, iter, ifs, 0⟩] scope pos) 0 (.ref it) (.ref D) (compEnvC scope (clOf scope X.env) C X.env)) (RR (.ref D) C) s₃ := by
    rintro s₃ rfl
    refine compLoop_go (fun n s' => ∃ i ys σ' H' us k, Inv (cxC X Nc scope C s2 H2 fp) [(D, { cls := .type "list", data := .seq (us : List Value).toArray k })] σ' H' s' ∧ Vals ys us ∧ tn i s'.heap ∧ (∀ b ∈ fp, H' b = none) ∧ W i n ys σ' H') ?_ m0 ?_
    · rintro n s3 ⟨i, ys, σ3, H3, us, k, I3, rv, st3, fr3, w3⟩
      obtain ⟨hz, tu⟩ := turn i n ys σ3 H3 w3
      have hps : ∀ p ∈ [((D : Addr), ({ cls := .type "list", data := .seq (us : List Value).toArray k } : Obj))], Nat.le D p.1 := fun p hp => by
        rcases List.mem_singleton.mp hp with rfl
        exact Nat.le_refl _
      rcases tu with ⟨stop, z⟩ | ⟨go, step⟩
      · refine thn (T.done (cxC X Nc scope C s2 H2 fp) rfl rfl rfl hc i _ s3 σ3 H3 (fun _ _ => False) I3 (stat hps fr3) st3 stop) fun r s4 ⟨hr, I4⟩ => ?_
        subst hr
        obtain ⟨eD, nD, _, _, _⟩ := I4.pin (D, { cls := .type "list", data := .seq (us : List Value).toArray k }) (List.mem_append_right _ (List.mem_singleton.mpr rfl))
        have eD : s4.heap.get? D = _ := eD
        have nD : H3 D = none := nD
        have u4 : Un (frs X.stack) fp H2 H3 s2.heap s4.heap := I4.base
        have hH2D : H2 D = none := I2.hok.fresh (by omega)
        have u5 : Un (frs X.stack) fp H2 (upd H3 D (.lst ys)) s2.heap s4.heap :=
          ⟨u4.keep, u4.slot, fun b o e n x => by rw [upd_ne (belD b o e)]; exact u4.free b o e n x, u4.there, fun b xs e => by rw [upd_ne (ne_of_none e hH2D)]; exact u4.tups b xs e,
            fun b o u e => by rw [upd_ne (ne_of_none e hH2D)]; exact u4.frzs b o u e, fun b ps e => by rw [upd_ne (ne_of_none e hH2D)]; exact u4.tbls b ps e⟩
        have hok : HOk X.prog X.w (upd H3 D (.lst ys)) s4.heap := fun b o e => by
          by_cases hb : b = D
          · subst hb; rw [upd_same] at e; cases e
            exact ⟨hz, us, k, rv, eD⟩
          · rw [upd_ne hb] at e
            exact (I4.hok b o e).stay (fun _ _ _ q => q) (fun c q => by rw [upd_ne (ne_of_none q nD)]; exact q) fun c xs q => by rw [upd_ne (ne_of_none q nD)]; exact q
        have I5 : Inv X pins σ (upd H3 D (.lst ys)) s4 := I2.call' (ch := fp) I4.os u5 hok I4.bare fun b hb => let ⟨a0, a1, a2, a3, a4, a5⟩ := f2 b hb; ⟨a3, a1, a4, a5⟩
        obtain ⟨m, hm, _⟩ := I4.loc
        refine hRR D C s4 H3 ys I5 nD z ⟨m, hm⟩ (I2.fpOk (by omega) ?_)
        rw [upd_ne (Ne.symm hDC)]; exact I4.free
      · refine thn (T.item (cxC X Nc scope C s2 H2 fp) rfl rfl rfl hc i _ s3 σ3 H3 (fun _ _ => False) I3 (stat hps fr3) st3 go) fun r s4 ⟨u, hr, h4⟩ => ?_
        subst hr
        refine thn h4 fun _ s5 ⟨x, H5, I5, r5, y5, st5, fr5⟩ => ?_
        have I5' := I5.pinned (stat hps fr5) (T.obj _ _ st5)
        refine thn (hg C s2 H2 fp _ s5 σ3 H5 x u _ I5' r5 (step x H5 y5)) fun _ s6 ⟨σ6, H6, I6, q6⟩ => ?_
        refine thn (ht C s2 H2 fp _ s6 σ6 H6 _ I6 q6) fun ok s7 ⟨H7, I7, q7⟩ => ?_
        have tnK : ∀ {σ' : L2.St} {H' : Hp} {s' : Shared}, Inv (cxC X Nc scope C s2 H2 fp) ([(D, { cls := .type "list", data := .seq (us : List Value).toArray k })] ++ pinsAt fp s5.heap) σ' H' s' → tn (i + 1) s'.heap ∧ (∀ b ∈ fp, H' b = none) ∧ (∀ b ∈ fp, ∀ o, s5.heap.get? b = some o → s'.heap.get? b = some o) := fun {σ' H' s'} I' =>
          ⟨T.keep _ _ _ st5 fun b hb o e => (I'.pin (b, o) (List.mem_append_right _ (List.mem_append_right _ (mem_pinsAt hb e)))).1, fun b hb => by
            obtain ⟨o, e, d⟩ := T.obj _ _ st5 b hb
            exact (I'.pin (b, o) (List.mem_append_right _ (List.mem_append_right _ (mem_pinsAt hb e)))).2.1, fun b hb o e => (I'.pin (b, o) (List.mem_append_right _ (List.mem_append_right _ (mem_pinsAt hb e)))).1⟩
        cases ok with
        | false =>
          have q7 : ∃ m', m' < n ∧ W (i + 1) m' ys σ6 H7 := q7
          obtain ⟨m', hm, w7⟩ := q7
          obtain ⟨k1, k2, _⟩ := tnK I7
          exact ⟨m', hm, i + 1, ys, σ6, H7, us, k, I7.unpinned, rv, k1, k2, w7⟩
        | true =>
          have q7 : te σ6 H7 fun y H5 => ∃ m', m' < n ∧ W (i + 1) m' (ys ++ [y]) σ6 H5 := q7
          refine thn (he C s2 H2 fp _ s7 σ6 H7 _ I7 q7) fun y s8 ⟨yv, H8, I8, r8, m', hm, w8⟩ => ?_
          obtain ⟨k1, k2, k3⟩ := tnK I8
          obtain ⟨eD, nD, _, nfD, _⟩ := I8.pin (D, { cls := .type "list", data := .seq (us : List Value).toArray k }) (List.mem_append_right _ (List.mem_append_left _ (List.mem_singleton.mpr rfl)))
          have eD : s8.heap.get? D = _ := eD
          have pl : s8.heap.PlainList D us.toArray := ⟨k, eD⟩
          refine wpAny_list_append_plain (hsz := by have := rv.length; simp; omega) pl fun h₉ hl₉ hs₉ => ?_
          obtain ⟨k9, e9⟩ := hl₉
          have I9 : Inv (cxC X Nc scope C s2 H2 fp) [] σ6 H8 { s8 with heap := h₉ } := (I8.pins_of (pins' := []) (fun p hp => nomatch hp)).turned (t' := s8.toks) (it := D) (fun b o hb e => (hs₉.2 b hb).trans e) nD hDC (.inr (by show s2.heap.objs.size ≤ D; omega))
            (fun x c e => Nat.ne_of_lt (hclt x c e)) (fun p hp => absurd (show p ∈ ([] : List (Addr × Obj)) from hp) (by simp))
          refine ⟨m', hm, i + 1, ys ++ [yv], σ6, H8, us ++ [y], k9, I9.pins_of fun p hp => ?_, rv.append (.cons r8 .nil), T.keep _ _ _ k1 fun b hb o e => (hs₉.2 b (hfpN b hb)).trans e, k2, w8⟩
          rcases List.mem_singleton.mp hp with rfl
          refine ⟨?_, nD, hDC, nfD, fun v z => by cases z⟩
          show h₉.get? D = _
          rw [e9]; simp
    · obtain ⟨k, e⟩ := hacc
      refine ⟨0, [], _, H2, [], k, IB.pins_of fun p hp => ?_, .nil, T.keep _ _ _ st2 fun b hb o e => old b o e, fun b hb => (f2 b hb).1, w0⟩
      rcases List.mem_singleton.mp hp with rfl
      exact ⟨e, I2.hok.fresh (by omega), hDC, hfs D (Nat.le_refl _), fun v z => by cases z⟩
  exact codeAny_compStart_list (loop _ rfl) (T.self _ 0 _ _ _ (T.keep _ _ _ st2 fun b hb o e => old b o e) (loop _ rfl))
def tComp (n : Nat) (wi : TI) (g : TG) (tt : TT) (te : TE) : TE := fun σ H Q => wi σ H fun J H1 => Cmp J g tt te (List.replicate n none ++ σ) H1 fun ys H' => ∀ p H2, H' p = none → L2.Same H' H2 → H2 p = some (.lst ys) → Q (.ref p) H2
theorem pe_comp {wi : TI} (hc : X.calm = true) (S : CompS X scope) (hs : ∀ x, foldedSetIterable iter X.env x = pure x) (hi : PI X tg iter wi)
    (hg : ∀ C s H fp, PG (cxC X Nc scope C s H fp) tg g) (ht : ∀ C s H fp, PIfs (cxC X Nc scope C s H fp) ifs tt) (he : ∀ C s H fp, PE (cxC X Nc scope C s H fp) elt te) :
    PE X (.ListComp elt [⟨tg, iter, ifs, 0⟩] scope pos) (tComp Nc.length wi g tt te) := by
  intro pins s σ H Q I h
  rw [eval_ListComp]
  have hcells : ∀ y ∈ scope.names, y.2 = .free → ∃ c, X.env.cells.lookup y.1 = some c := fun y hy e => I.ok.has y.1 (S.free y hy e)
  refine wpAny_comprehension_free (use := none) rfl hs (closure_of hcells) S.kind S.names (thn (hi pins s σ H _ I h) fun v s1 h1 => thn h1 fun itv s2 h2 => ?_)
  obtain ⟨it, fp, tn, J, H2, e, I2, T, st2, f2, z⟩ := h2
  subst e
  refine comp_block (RR := fun acc C => compPost (model X.prog X.w) X.A X.xe none (EP X pins σ Q) acc C) hc S I2 T st2 f2 hg ht he z fun D C s' H3 ys I' hD hz hm hf => ?_
  obtain ⟨m, hm⟩ := hm
  exact ⟨m, hm, fun h' sb => ⟨.ref D, _, I'.turned (t' := s'.toks) (it := C) (fun b o hb e => (sb.2 b hb).trans e) hf.1 hf.2.1 hf.2.2.2.1 hf.2.2.2.2.1 hf.2.2.2.2.2, rfl, hz D _ hD (Br.Same.upd hD) upd_same⟩⟩
end
end Br
namespace Br
open PySem PySem.Spec PySem.Calls PyProof.Rows L2
section
variable {X : Cx}
theorem vals_bl : ∀ {bs : List Bool} {its : List Value} {i : Nat} {v : Value}, Vals (bs.map V.bl) its → its[i]? = some v → ∃ b, bs[i]? = some b ∧ v = .bool b
  | [], _, i, v, r, e => by cases r; simp at e
  | b :: bs, _, i, v, r, e => by
    cases r with
    | cons r rr =>
      cases i with
      | zero => simp at e; subst e; exact ⟨b, rfl, r⟩
      | succ i =>
        obtain ⟨b', h1, h2⟩ := vals_bl (i := i) rr (by simpa using e)
        exact ⟨b', by simpa using h1, h2⟩
theorem range_all {bs : List Bool} : ((List.range bs.length).all fun i => bs.getD i false) = bs.all id := by
  rw [Bool.eq_iff_iff]
  simp only [List.all_eq_true, List.mem_range, id]
  constructor
  · intro h b hb
    obtain ⟨i, hi, e⟩ := List.getElem_of_mem hb
    have q := h i hi
    rw [List.getD_eq_getElem?_getD, List.getElem?_eq_getElem hi, e] at q
    simpa using q
  · intro h i hi
    rw [List.getD_eq_getElem?_getD, List.getElem?_eq_getElem hi]
    exact h _ (List.getElem_mem hi)
def rAll (K : PySem.W.Frag) (f : List Bool → Bool) : List V → Hp → VK → Prop := fun xs H Q => ∃ p bs, xs = [.ref p] ∧ SqL K H p (bs.map V.bl) ∧ Q (.bl (f bs)) H
theorem truth_bl {prog : Program} {w : World} {A : Around} {bs : List Bool} {its : List Value} (r : Vals (bs.map V.bl) its) : TruthOf prog w A (fun i v => its.toArray[i]? = some v) fun i => bs.getD i false := by
  intro i v s Q E e q
  obtain ⟨b, hb, rfl⟩ := vals_bl r (by simpa using e)
  have q : Q (bs.getD i false) s := q
  rw [List.getD_eq_getElem?_getD, hb] at q
  exact wpAny_truthy_bool q
theorem call_all (hc : X.calm = true) : CallR X (.builtin "all") (rAll X.K fun bs => bs.all id) := by
  intro pins s σ H xs us Q I r h
  obtain ⟨p, bs, rfl, hq, q⟩ := h
  obtain ⟨u, rfl, rx⟩ := vals1 r
  cases rx
  obtain ⟨its, r', pl, hz⟩ := I.list hq
  have hp : p < s.heap.objs.size := by obtain ⟨_, _, e, _⟩ := pl; exact Heap.lt_size e
  have hl : its.length = bs.length := by rw [← r'.length, List.length_map]
  refine call_all_walk (wpAny_pyIter_list pl.isList ⟨s.heap.objs.size, _, _, _, _, _, fun i => bs.getD i false, rfl, Walks.list (A := X.A.in1) (I.ok.hd hc) s.heap.objs.size p (Nat.ne_of_lt hp) its.toArray, ⟨⟨_, Heap.get?_push_size _ rfl, rfl, rfl⟩, pl.isList.at fun o e => Heap.get?_push_of_some _ e⟩, truth_bl r', fun h' tk hk => ?_⟩)
  rw [List.size_toArray, hl, range_all]
  exact ⟨.bl _, H, I.kept fun b o e => hk b o (fun z => absurd (Heap.lt_size e) (by rw [List.mem_singleton.mp z]; exact Nat.lt_irrefl _)) (Heap.get?_push_of_some _ e), rfl, q⟩
theorem boot_all : bootBuiltins "all" = some (.builtin "all") := by decide +kernel
end
structure JIfs (X : Cx) (es : List Expr) (t : TT) : Prop where h : PIfs X es t
def nodupB : List Str → Bool
  | [] => true
  | x :: r => !(r.any fun y => x == y) && nodupB r
theorem nodupB_of : ∀ {l : List Str}, nodupB l = true → l.Nodup
  | [], _ => List.nodup_nil
  | x :: r, h => by
    unfold nodupB at h
    simp only [Bool.and_eq_true, Bool.not_eq_true', List.any_eq_false] at h
    refine List.nodup_cons.mpr ⟨fun hm => ?_, nodupB_of h.2⟩
    have := h.1 x hm
    simp at this
def compB (names0 : List (Str × NameKind)) (N : List Str) (scope : Scope) : Bool :=
  scope.kind == .function && scope.names.all (fun y => y.2 != .cell) && scope.names.all (fun y => y.2 != .local || scope.names.lookup y.1 == some .local) && scope.names.all (fun y => y.2 != .free || names0.lookup y.1 == some .cell || names0.lookup y.1 == some .free) && (scope.names.lookup ("." : Str)).isNone && nodupB (N.map (hid scope))
theorem kind_eq {a b : NameKind} (h : (a == b) = true) : a = b := by cases a <;> cases b <;> first | rfl | cases h
theorem okind_eq {a b : Option NameKind} (h : (a == b) = true) : a = b := by
  cases a <;> cases b
  · rfl
  · cases h
  · cases h
  · exact congrArg some (kind_eq h)
theorem CompS.of {X : Cx} {scope : Scope} (h : compB X.env.scope.names X.N scope = true) : CompS X scope := by
  unfold compB at h
  simp only [Bool.and_eq_true, List.all_eq_true, Bool.or_eq_true] at h
  obtain ⟨⟨⟨⟨⟨h1, h2⟩, h3⟩, h4⟩, h5⟩, h6⟩ := h
  refine ⟨?_, fun y hy z => ?_, fun y hy z => ?_, fun y hy z => ?_, ?_, nodupB_of h6⟩
  · revert h1; cases scope.kind <;> intro h1 <;> first | rfl | cases h1
  · have q := h2 y hy; rw [z] at q; cases q
  · rcases h3 y hy with q | q
    · rw [z] at q; cases q
    · exact okind_eq q
  · rcases h4 y hy with (q | q) | q
    · rw [z] at q; cases q
    · exact .inl (okind_eq q)
    · exact .inr (okind_eq q)
  · revert h5; cases scope.names.lookup ("." : Str) <;> intro h5 <;> first | rfl | cases h5
section
variable {X : Cx} {a b c e o elt iter tg : Expr} {es ifs : List Expr} {ta tb te : TE} {tt : TT} {t : TA} {wi : TI} {g : TG} {pos p spos : Pos} {x : Str} {i : Nat} {Nc : List Str} {scope : Scope}
theorem f_nil : JIfs X [] tYes := ⟨pifs_nil⟩
theorem f_one (h : JT X c tt) : JIfs X [c] tt := ⟨pifs_one h.h⟩
theorem j_cell (h : At X.N i x) (hk : X.env.scope.names.lookup x = some .cell) (hd : (x == ("__debug__" : Str)) = false) (hcd : (x == ("__classdict__" : Str)) = false) : JE X (.Name x pos) (tVar i) := ⟨pe_var h.get (.inr (.inl hk)) hd hcd⟩
theorem s_setC (h : At X.N i x) (hN : X.N.Nodup) (hk : X.env.scope.names.lookup x = some .cell) (hf : X.fn x = true) (hs : swapsWith e (some (.Name x p)) pos.line X.env = pure false) (he : JE X e te) : JS X (.Assign [.Name x p] e pos) (tAsg te (gName i)) := ⟨ps_set hN h.get (.inr hk) he.h hs (.inl hf)⟩
section
variable (hg : Gl X x) (he : starEach (e :: es) X.env = (false, eval e X.env) :: starEach es X.env) (hpl : (backTo pos (starEach es X.env)).any (·.1) = false)
include hg he hpl
theorem j_all (hx : x = "all") (hc : X.calm = true) (hm : X.mg x = none) (ha : JA X (e :: es) t) : JE X (.Call (.Name x p) (e :: es) [] pos) (tCB (rAll X.K fun bs => bs.all id) t) := ⟨by subst hx; exact pe_callB (call_all hc) hg hm boot_all ha.h (by decide) (by decide) he hpl⟩
end
end
section
variable {K : PySem.W.Frag} {a : Addr} {xs : List V} {g : TG} {tt : TT} {te : TE} {σ0 : L2.St} {H0 : Hp} {Z : List V → Hp → Prop}
theorem cmp_list (Pv : Nat → List V → L2.St → Hp → Prop) (h0 : Pv 0 [] σ0 H0) (hz : xs.length ≤ sizeLine) (hl : ∀ i ys σ H, i ≤ xs.length → Pv i ys σ H → SqL K H a xs ∧ ys.length ≤ i)
    (hs : ∀ i x ys σ H (N : List V → L2.St → Hp → Prop), xs[i]? = some x → Pv i ys σ H → (∀ ys' σ' H', Pv (i + 1) ys' σ' H' → N ys' σ' H') →
      g x σ H fun σ3 H3 => tt σ3 H3 fun b H4 => if b = true then te σ3 H4 fun y H5 => N (ys ++ [y]) σ3 H5 else N ys σ3 H4)
    (hd : ∀ ys σ H, Pv xs.length ys σ H → Z ys H) : Cmp (Itl K a) g tt te σ0 H0 Z := by
  refine ⟨fun i m ys σ H => m = xs.length - i ∧ i ≤ xs.length ∧ Pv i ys σ H, ⟨xs.length, by simp, Nat.zero_le _, h0⟩, ?_⟩
  rintro i m ys σ H ⟨rfl, hi, p⟩
  obtain ⟨q, hy⟩ := hl i ys σ H hi p
  refine ⟨by omega, ?_⟩
  by_cases hlt : i < xs.length
  · refine .inr ⟨⟨xs, xs[i], q, by simp [hlt]⟩, fun x H' y => ?_⟩
    obtain ⟨e, y⟩ := y
    subst e
    exact hs i x ys σ _ (fun ys' σ' H' => ∃ m', m' < xs.length - i ∧ m' = xs.length - (i + 1) ∧ i + 1 ≤ xs.length ∧ Pv (i + 1) ys' σ' H') (y xs q) p fun ys' σ' H' p' => ⟨xs.length - (i + 1), by omega, rfl, hlt, p'⟩
  · have e : i = xs.length := by omega
    subst e
    exact .inl ⟨⟨xs, q, Nat.le_refl _⟩, hd ys σ H p⟩
end
end Br
namespace Br
open PySem PySem.Spec PySem.Calls PyProof.Rows L2
section
variable {X : Cx} {elt iter : Expr} {ifs : List Expr} {te : TE} {tt : TT} {wi : TI} {pos p px py pt spos : Pos} {x y z : Str} {i k : Nat} {scope : Scope}
theorem loc_C {C : Addr} {s : Shared} {H : Hp} {fp : List Addr} {Nc : List Str} (hk : scope.names.lookup x = some .local) : (cxC X Nc scope C s H fp).env.scope.names.lookup x = some .local := lookup_relabel_local hk
theorem not_mem_of (S : CompS X scope) (hk : scope.names.lookup x = some .local) : x ∉ X.N.map (hid scope) := fun h => by
  obtain ⟨y, _, e⟩ := List.mem_map.mp h
  rcases hid_cases scope y with ⟨_, h2⟩ | ⟨h1, h2⟩
  · rw [h2] at e; rw [← e, S.dot] at hk; cases hk
  · rw [h2] at e; exact h1 (e ▸ hk)
theorem g_C1 (S : CompS X scope) (hN : X.N.Nodup) (hk : scope.names.lookup x = some .local) (C : Addr) (s : Shared) (H : Hp) (fp : List Addr) : PG (cxC X [x] scope C s H fp) (.Name x px) (gName 0) :=
  pg_name (X := cxC X [x] scope C s H fp) (List.nodup_cons.mpr ⟨not_mem_of S hk, S.nd⟩) rfl (.inl (loc_C hk)) (.inr (loc_C hk))
theorem g_C2 (hc : X.calm = true) (S : CompS X scope) (hN : X.N.Nodup) (hxy : x ≠ y) (hx : scope.names.lookup x = some .local) (hy : scope.names.lookup y = some .local) (C : Addr) (s : Shared) (H : Hp) (fp : List Addr) :
    PG (cxC X [x, y] scope C s H fp) (.Tuple [.Name x px, .Name y py] k pt) (gTup X.K 2 (gCons (gName 0) (gCons (gName 1) gNil))) := by
  have nd : (cxC X [x, y] scope C s H fp).N.Nodup := List.nodup_cons.mpr ⟨fun h => by
    rcases List.mem_cons.mp h with h | h
    · exact hxy h
    · exact not_mem_of S hx h, List.nodup_cons.mpr ⟨not_mem_of S hy, S.nd⟩⟩
  exact pg_tup (X := cxC X [x, y] scope C s H fp) hc (pgs_cons (pg_name nd rfl (.inl (loc_C hx)) (.inr (loc_C hx))) (pgs_cons (pg_name nd rfl (.inl (loc_C hy)) (.inr (loc_C hy))) pgs_nil))
theorem j_comp1 (hc : X.calm = true) (S : compB X.env.scope.names X.N scope = true) (hs : ∀ x, foldedSetIterable iter X.env x = pure x) (hN : X.N.Nodup) (hk : scope.names.lookup x = some .local) (hi : JI X (.Name x px) iter wi)
    (ht : ∀ C s H fp, JIfs (cxC X [x] scope C s H fp) ifs tt) (he : ∀ C s H fp, JE (cxC X [x] scope C s H fp) elt te) : JE X (.ListComp elt [⟨.Name x px, iter, ifs, 0⟩] scope pos) (tComp 1 wi (gName 0) tt te) :=
  ⟨pe_comp (Nc := [x]) hc (.of S) hs hi.h (g_C1 (.of S) hN hk) (fun C s H fp => (ht C s H fp).h) fun C s H fp => (he C s H fp).h⟩
theorem j_comp2 (hc : X.calm = true) (S : compB X.env.scope.names X.N scope = true) (hs : ∀ x, foldedSetIterable iter X.env x = pure x) (hN : X.N.Nodup) (hxy : x ≠ y) (hx : scope.names.lookup x = some .local) (hy : scope.names.lookup y = some .local)
    (hi : JI X (.Tuple [.Name x px, .Name y py] k pt) iter wi) (ht : ∀ C s H fp, JIfs (cxC X [x, y] scope C s H fp) ifs tt) (he : ∀ C s H fp, JE (cxC X [x, y] scope C s H fp) elt te) :
    JE X (.ListComp elt [⟨.Tuple [.Name x px, .Name y py] k pt, iter, ifs, 0⟩] scope pos) (tComp 2 wi (gTup X.K 2 (gCons (gName 0) (gCons (gName 1) gNil))) tt te) :=
  ⟨pe_comp (Nc := [x, y]) hc (.of S) hs hi.h (g_C2 hc (.of S) hN hxy hx hy) (fun C s H fp => (ht C s H fp).h) fun C s H fp => (he C s H fp).h⟩
end
end Br
namespace Br
open PySem PySem.Spec PySem.Calls PyProof.Rows L2
section
variable {X : Cx} {o e : Expr} {to : TE} {t : TA} {apos cpos : Pos}
end
end Br
namespace Br
open PySem PySem.Spec PySem.Calls PyProof.Rows L2
theorem cxC_K {X : Cx} {Nc : List Str} {scope : Scope} {C : Addr} {s : Shared} {H : Hp} {fp : List Addr} : (cxC X Nc scope C s H fp).K = X.K := rfl
section
variable {X : Cx} {K : PySem.W.Frag} (hK : X.K = K) {a b c e o elt iter : Expr} {es ifs : List Expr} {ta tb te to : TE} {tt : TT} {t : TA} {wi : TI} {pos p px py pt spos apos cpos p2 : Pos} {x y z : Str} {i k : Nat} {scope : Scope}
include hK
theorem k_ix (hs : PlainIx b) (ha : JE X a ta) (hb : JE X b tb) : JE X (.Subscript a b pos) (tOp (rIx K) ta tb) := hK ▸ j_ix hs ha hb
theorem k_append {cpos : Pos} (hbase : attributeBase o "append" X.env (eval o X.env) = eval o X.env) (hfew : ((backTo cpos (starEach [e] X.env)).all (fun x => !x.1) && (backToKw cpos (keywordEach [] X.env)).all (fun x => x.1.isSome)
      && decide (([e] : List Expr).length + ([] : List Keyword).length + (if ([] : List Keyword).isEmpty then 0 else 1) < 30)) = true) (hline : (apos.endLine == cpos.line) = true) (hs : starEach [e] X.env = (false, eval e X.env) :: starEach [] X.env)
    (hpl : (backTo cpos (starEach [] X.env)).any (·.1) = false) (ho : JE X o to) (ha : JA X [e] t) : JE X (.Call (.Attribute o "append" apos) [e] [] cpos) (tBM K "list" rAppend to t) := hK ▸ j_append hbase hfew hline hs hpl ho ha
theorem k_comp2 (hc : X.calm = true) (S : compB X.env.scope.names X.N scope = true) (hs : ∀ x, foldedSetIterable iter X.env x = pure x) (hN : X.N.Nodup) (hxy : x ≠ y) (hx : scope.names.lookup x = some .local) (hy : scope.names.lookup y = some .local)
    (hi : JI X (.Tuple [.Name x px, .Name y py] k pt) iter wi) (ht : ∀ C s H fp, JIfs (cxC X [x, y] scope C s H fp) ifs tt) (he : ∀ C s H fp, JE (cxC X [x, y] scope C s H fp) elt te) :
    JE X (.ListComp elt [⟨.Tuple [.Name x px, .Name y py] k pt, iter, ifs, 0⟩] scope pos) (tComp 2 wi (gTup K 2 (gCons (gName 0) (gCons (gName 1) gNil))) tt te) := hK ▸ j_comp2 hc S hs hN hxy hx hy hi ht he
section
variable (hg : Gl X x) (he : starEach (e :: es) X.env = (false, eval e X.env) :: starEach es X.env) (hpl : (backTo pos (starEach es X.env)).any (·.1) = false)
include hg he hpl
theorem k_isi (hx : x = "isinstance") (hm : X.mg x = none) (ha : JA X (e :: es) t) : JE X (.Call (.Name x p) (e :: es) [] pos) (tCB (rIsi K) t) := hK ▸ j_isi hg he hpl hx hm ha
theorem k_len (hx : x = "len") (hm : X.mg x = none) (ha : JA X (e :: es) t) : JE X (.Call (.Name x p) (e :: es) [] pos) (tCB (rLen K) t) := hK ▸ j_len hg he hpl hx hm ha
theorem k_all (hx : x = "all") (hc : X.calm = true) (hm : X.mg x = none) (ha : JA X (e :: es) t) : JE X (.Call (.Name x p) (e :: es) [] pos) (tCB (rAll K fun bs => bs.all id) t) := hK ▸ j_all hg he hpl hx hc hm ha
end
end
end Br
namespace Br
open PySem PySem.Spec PySem.Calls PyProof.Rows L2
section
variable {X : Cx}
def iSeq (K : PySem.W.Frag) (tl : TE) : TI := fun σ H R => tl σ H fun x H1 => ∃ a, x = .ref a ∧ (((∃ xs, SqL K H1 a xs) ∧ R (Itl K a) H1) ∨ ((∃ xs, SqT K H1 a xs) ∧ R (Itt K a) H1))
theorem pi_seq {tg l : Expr} {tl : TE} (hl : PE X l tl) : PI X tg l (iSeq X.K tl) := by
  intro pins s σ H R I h
  refine thn (hl pins s σ H _ I h) fun v s1 ⟨x, H1, I1, r1, q1⟩ => ?_
  obtain ⟨a, e, q1⟩ := q1
  subst e
  cases r1
  rcases q1 with ⟨⟨xs, hq⟩, q⟩ | ⟨⟨xs, hq⟩, q⟩
  · obtain ⟨its, rv, p, hz⟩ := I1.list hq
    refine wpAny_pyIter_list p.isList ?_
    refine ⟨s1.heap.objs.size, [s1.heap.objs.size], _, _, H1, rfl, I1.kept (t' := s1.toks) fun b o e => Heap.get?_push_of_some _ e, turn_list a _, ⟨_, Heap.get?_push_size _ rfl, rfl, rfl⟩, fun b hb => ?_, q⟩
    have e : b = s1.heap.objs.size := by simpa using hb
    subst e
    exact I1.fpOk (Nat.le_refl _) (I1.hok.fresh (Nat.le_refl _))
  · obtain ⟨its, rv, p, hz⟩ := I1.tuple hq
    refine wpAny_pyIter_tuple (show s1.heap.IsTuple a its.toArray from p) ?_
    refine ⟨s1.heap.objs.size, [s1.heap.objs.size], _, _, H1, rfl, I1.kept (t' := s1.toks) fun b o e => Heap.get?_push_of_some _ e, turn_tuple a _, ⟨_, Heap.get?_push_size _ rfl, rfl, rfl⟩, fun b hb => ?_, q⟩
    have e : b = s1.heap.objs.size := by simpa using hb
    subst e
    exact I1.fpOk (Nat.le_refl _) (I1.hok.fresh (Nat.le_refl _))
def rSlS (K : PySem.W.Frag) : V → Option Int → Option Int → Hp → VK → Prop := fun x lo hi H Q => ∃ a xs, x = .ref a ∧ ((SqL K H a xs ∧ ∀ p H2, H p = none → L2.Same H H2 → H2 p = some (.lst (cutV xs lo hi)) → Q (.ref p) H2) ∨
  (SqT K H a xs ∧ ¬ (HT.sIx xs.length 0 lo = 0 ∧ HT.sIx xs.length xs.length hi = xs.length) ∧ ∀ p H2, H p = none → L2.Same H H2 → H2 p = some (.tup (cutV xs lo hi)) → Q (.ref p) H2))
theorem sl_S : SlR X (rSlS X.K) := by
  intro pins s σ H x v vl vu lo hi sl Q I rx hs pl pu h
  obtain ⟨a, xs, rfl, h⟩ := h
  rcases h with ⟨hx, q⟩ | ⟨hx, hn, q⟩
  · exact sl_list pins s σ H _ v vl vu lo hi sl Q I rx hs pl pu ⟨a, xs, rfl, hx, fun p hp => q p _ hp (Br.Same.upd hp) upd_same⟩
  · exact sl_tup pins s σ H _ v vl vu lo hi sl Q I rx hs pl pu ⟨a, xs, rfl, hx, hn, fun p hp => q p _ hp (Br.Same.upd hp) upd_same⟩
def rCatTS (K : PySem.W.Frag) : R2 := fun x y H Q => ∃ a b xs ys, x = .ref a ∧ y = .ref b ∧ SqT K H a xs ∧ SqT K H b ys ∧ xs ≠ [] ∧ xs.length + ys.length ≤ sizeLine ∧ ∀ p H2, L2.Same H H2 → SqT K H2 p (xs ++ ys) → Q (.ref p) H2
theorem op_catTS : OpR X (binaryOp .Add) (rCatTS X.K) := fun pins s σ H x y v u Q I rx ry h => by
  obtain ⟨a, b, xs, ys, e1, e2, h1, h2, hx, hz, q⟩ := h
  refine op_catT pins s σ H x y v u Q I rx ry ⟨a, b, xs, ys, e1, e2, h1, h2, hx, hz, fun e => ?_, fun _ p hp => q p _ (Br.Same.upd hp) (SqT.of upd_same)⟩
  subst e
  exact q a H (L2.Same.refl _) (by rw [List.append_nil]; exact h1)
def rTupOf (K : PySem.W.Frag) : List V → Hp → VK → Prop := fun xs H Q => ∃ p ys, xs = [.ref p] ∧ SqL K H p ys ∧ ∀ l H2, H l = none → L2.Same H H2 → H2 l = some (.tup ys) → Q (.ref l) H2
theorem call_tupS : CallR X (.type "tuple") (rTupOf X.K) := fun pins s σ H xs us Q I r h => by
  obtain ⟨p, ys, e, hq, q⟩ := h
  exact call_tuple_of pins s σ H xs us Q I r ⟨p, ys, e, .inl ⟨hq, fun l hl => q l _ hl (Br.Same.upd hl) upd_same⟩⟩
theorem op_mulI : OpR X (binaryOp .Mult) (rI IntMulOk fun i j => .int (i * j)) := opI fun _ _ _ _ _ _ _ hc q => mul_int q hc
theorem CMulB.ok {i j : Int} (h : CMulB i j) : IntMulOk i j := IntMulOk.of_bits (bits_of h.1) (bits_of h.2)
theorem boot_tuple' : bootBuiltins "tuple" = some (.type "tuple") := by decide +kernel
end
section
variable {X : Cx} {K : PySem.W.Frag} (hK : X.K = K) {a b c e o d value elt iter : Expr} {es ifs : List Expr} {ta tb te to td ty tv : TE} {tt : TT} {t : TA} {wi : TI} {pos p px py pt spos apos cpos p2 pos' : Pos} {x y z : Str} {i j k : Nat} {scope : Scope}
theorem o_mulI : JOp X .Mult (rI IntMulOk fun i j => .int (i * j)) := ⟨op_mulI⟩
theorem k_seq (hK : X.K = K) {tg l : Expr} {tl : TE} (hl : JE X l tl) : JI X tg l (iSeq K tl) := hK ▸ ⟨pi_seq hl.h⟩
theorem k_slS (hK : X.K = K) {lo hi : Option Expr} {tl th : TO} (he : JE X e te) (hl : JO X lo tl) (hu : JO X hi th) : JE X (.Subscript e (.Slice lo hi none p2) pos) (tSl (rSlS K) te tl th) := hK ▸ ⟨pe_slice sl_S he.h hl.h hu.h⟩
theorem s_ixset (hs : swapsWithSole [.Subscript o b pos'] value pos.line X.env = pure false) (hw : swappedStores [.Subscript o b pos'] value X.env = pure none) (h1 : (assignEach [.Subscript o b pos'] X.env).map (·.2) = [assign (.Subscript o b pos') X.env])
    (ha : ∀ v, assign (.Subscript o b pos') X.env v = (do
      let ov ← holding [v] (eval o X.env)
      let iv ← holding [v, ov] (eval b X.env)
      standAt pos'
      holding [v, ov, iv] (setItem ov iv v)
      release [v, ov, iv] [])) (ho : JE X o to) (hi : JE X b tb) (hv : JE X value tv) : JS X (.Assign [.Subscript o b pos'] value pos) (tAsg tv (gSub to tb rSetL)) := ⟨ps_asg hv.h (pg_sub ho.h hi.h set_list ha) hs hw h1⟩
section
variable (hg : Gl X x) (he : starEach (e :: es) X.env = (false, eval e X.env) :: starEach es X.env) (hpl : (backTo pos (starEach es X.env)).any (·.1) = false)
include hg he hpl
theorem k_tuple (hK : X.K = K) (hx : x = "tuple") (hm : X.mg x = none) (ha : JA X (e :: es) t) : JE X (.Call (.Name x p) (e :: es) [] pos) (tCB (rTupOf K) t) := hK ▸ ⟨by subst hx; exact pe_callTy call_tupS hg hm boot_tuple' ha.h (by decide) (by decide) he hpl⟩
end
end
section
variable {K : PySem.W.Frag} {a : Addr} {xs : List V} {g : TG} {tt : TT} {te : TE} {σ0 : L2.St} {H0 : Hp} {Z : List V → Hp → Prop}
theorem cmp_tup (Pv : Nat → List V → L2.St → Hp → Prop) (h0 : Pv 0 [] σ0 H0) (hz : xs.length ≤ sizeLine) (hl : ∀ i ys σ H, i ≤ xs.length → Pv i ys σ H → SqT K H a xs ∧ ys.length ≤ i)
    (hs : ∀ i x ys σ H (N : List V → L2.St → Hp → Prop), xs[i]? = some x → Pv i ys σ H → (∀ ys' σ' H', Pv (i + 1) ys' σ' H' → N ys' σ' H') →
      g x σ H fun σ3 H3 => tt σ3 H3 fun b H4 => if b = true then te σ3 H4 fun y H5 => N (ys ++ [y]) σ3 H5 else N ys σ3 H4)
    (hd : ∀ ys σ H, Pv xs.length ys σ H → Z ys H) : Cmp (Itt K a) g tt te σ0 H0 Z := by
  refine ⟨fun i m ys σ H => m = xs.length - i ∧ i ≤ xs.length ∧ Pv i ys σ H, ⟨xs.length, by simp, Nat.zero_le _, h0⟩, ?_⟩
  rintro i m ys σ H ⟨rfl, hi, p⟩
  obtain ⟨q, hy⟩ := hl i ys σ H hi p
  refine ⟨by omega, ?_⟩
  by_cases hlt : i < xs.length
  · refine .inr ⟨⟨xs, xs[i], q, by simp [hlt]⟩, fun x H' y => ?_⟩
    obtain ⟨e, y⟩ := y
    subst e
    exact hs i x ys σ _ (fun ys' σ' H' => ∃ m', m' < xs.length - i ∧ m' = xs.length - (i + 1) ∧ i + 1 ≤ xs.length ∧ Pv (i + 1) ys' σ' H') (y xs q) p fun ys' σ' H' p' => ⟨xs.length - (i + 1), by omega, rfl, hlt, p'⟩
  · have e : i = xs.length := by omega
    subst e
    exact .inl ⟨⟨xs, q, Nat.le_refl _⟩, hd ys σ H p⟩
end
end Br
namespace Br
open PySem PySem.Spec PySem.Calls PyProof.Rows L2
section
variable {prog : Program} {w : World} {A : Around} {E : Value → Shared → Prop} {s : Shared}
theorem tsetAt {c : Addr} {o : Obj} {fs : Array Value} {i : Nat} {x : Value} {Q : Unit → Shared → Prop} (e1 : s.heap.get? c = some o) (e2 : o.data = .fields fs) (hi : i < fs.size)
    (go : ∀ g o', g.get? c = some o' → o'.cls = o.cls → o'.data = .fields (fs.set! i x) → Heap.SameBut c s.heap g → Q () { s with heap := g }) : wpAny (model prog w) A (setField (.ref c) i x) Q E s := by
  refine wpAny_setField e1 e2 hi ?_
  have f : (o.mapFields fun a => a.set! i x).data = .fields (fs.set! i x) := Obj.data_mapFields e2 _
  exact go _ _ (Heap.get?_update_self _ e1 (Obj.isFreed_of_fields f)) (Obj.cls_mapFields ..) f (Heap.SameBut.update ..)
theorem zdraw {z u o c1 c2 : Addr} {x y : Value} {J1 J2 : Heap → Prop} {Q : Value → Shared → Prop} (ne : [z, u, o, c1, c2].Nodup) (hz : IsZip s.heap z u o .none) (hu : IsPair s.heap u (.ref c1) (.ref c2)) (ho : ∃ a b, IsPair s.heap o a b)
    (s1 : ∀ g, Heap.SameBut z s.heap g → ∀ {R : Value → Shared → Prop} {E' : Value → Shared → Prop}, (∀ g', J1 g' → Heap.SameBut c1 g g' → R x { s with heap := g' }) → wpAny (model prog w) A (Builtin.SmallTypes.nextOf (.ref c1)) R E' { s with heap := g })
    (s2 : ∀ g, (∀ q ob, q ≠ z → q ≠ c1 → q ≠ o → s.heap.get? q = some ob → g.get? q = some ob) → ∀ {R : Value → Shared → Prop} {E' : Value → Shared → Prop}, (∀ g', J2 g' → Heap.SameBut c2 g g' → R y { s with heap := g' }) → wpAny (model prog w) A (Builtin.SmallTypes.nextOf (.ref c2)) R E' { s with heap := g })
    (m1 : ∀ g g', J1 g → (∀ ob, g.get? c1 = some ob → g'.get? c1 = some ob) → J1 g') (m2 : ∀ g g', J2 g → (∀ ob, g.get? c2 = some ob → g'.get? c2 = some ob) → J2 g')
    (go : ∀ g, IsZip g z u o (rawInt s.heap.objs.size) → IsPair g o x y → J1 g → J2 g → IsPair g s.heap.objs.size x y → g.objs.size = s.heap.objs.size + 1 →
      (∀ b ob, b ≠ z → b ≠ o → b ≠ c1 → b ≠ c2 → s.heap.get? b = some ob → g.get? b = some ob) → Q (.ref s.heap.objs.size) { s with heap := g }) :
    wpAny (model prog w) A (Builtin.«zip.__next__» ⟨[.ref z], []⟩) (fun fin s' => ∃ v, fin = .done (.ret v) ∧ Q v s') E s := by
  simp only [List.nodup_cons, List.mem_cons, List.mem_nil_iff, or_false, not_or] at ne
  obtain ⟨⟨n1, n2, n3, n4⟩, ⟨n5, n6, n7⟩, ⟨n8, n9⟩, n10, _⟩ := ne
  obtain ⟨a, b, hO⟩ := ho
  have w0 := fun {R : Unit → Shared → Prop} => wpAny_setField_rec (prog := prog) (w := w) (A := A) (E := E) (k := 0) (x := .ellipsis) (Q := R) hz (by simp)
  wp_walk using wpAny_field hz rfl (x := .bool false) rfl, wpAny_field hz rfl (x := .ref u) rfl, wpAny_field hz rfl (x := .none) rfl, wpAny_field hz rfl (x := .ref o) rfl, wpAny_seqItems hu rfl, w0
  intro g1 zz k1
  have z1 : IsZip g1 z u o .ellipsis := zz
  simp only [List.zipIdx_cons, List.zipIdx_nil, List.forIn_cons, List.forIn_nil]
  refine wpAny_bind (wpAny_bind (wpAny_bind (wpAny_onRaise ?_)))
  have d1 := fun {E' : Value → Shared → Prop} {R : Value → Shared → Prop} => s1 g1 k1 (R := R) (E' := E')
  wp_walk using d1
  intro g2 j2 k2
  have b2 : ∀ q ob, q ≠ z → q ≠ c1 → s.heap.get? q = some ob → g2.get? q = some ob := fun q ob m1 m2 e => k2.extBut _ _ m2 (k1.extBut _ _ m1 e)
  have o2 : IsPair g2 o a b := b2 _ _ (Ne.symm n2) n8 hO
  have up1 := fun {R : Unit → Shared → Prop} => wpAny_updateSeq_pair (prog := prog) (w := w) (A := A) (E := E) (s := { s with heap := g2 }) (k := 0) (x := x) (Q := R) o2
  wp_walk using wpAny_seqItems o2 rfl, up1, wpAny_letGo
  intro g3 zo k3
  have o3 : IsPair g3 o x b := zo
  have b3 : ∀ q ob, q ≠ z → q ≠ c1 → q ≠ o → s.heap.get? q = some ob → g3.get? q = some ob := fun q ob m1 m2 m3 e => k3.extBut _ _ m3 (b2 q ob m1 m2 e)
  have d2 := fun {E' : Value → Shared → Prop} {R : Value → Shared → Prop} => s2 g3 b3 (R := R) (E' := E')
  refine wpAny_bind (wpAny_letGo (wpAny_pure (wpAny_bind (wpAny_bind (wpAny_onRaise ?_)))))
  wp_walk using d2
  intro g4 j4 k4
  have o4 : IsPair g4 o x b := k4.extBut _ _ n9 o3
  have up2 := fun {R : Unit → Shared → Prop} => wpAny_updateSeq_pair (prog := prog) (w := w) (A := A) (E := E) (s := { s with heap := g4 }) (k := 1) (x := y) (Q := R) o4
  wp_walk using wpAny_seqItems o4 rfl, up2, wpAny_letGo
  intro g5 zo5 k5
  have o5 : IsPair g5 o x y := zo5
  have z5 : IsZip g5 z u o .ellipsis := k5.extBut _ _ n2 (k4.extBut _ _ n4 (k3.extBut _ _ n2 (k2.extBut _ _ n3 z1)))
  have len5 : g5.objs.size = s.heap.objs.size := by rw [k5.1, k4.1, k3.1, k2.1, k1.1]
  have zlt : z < g5.objs.size := Heap.lt_size z5
  have z6 : IsZip (g5.push { cls := .type "tuple", data := .seq #[x, y] }) z u o .ellipsis := Heap.get?_push_of_some _ z5
  have w6 := fun {R : Unit → Shared → Prop} => wpAny_setField_rec (prog := prog) (w := w) (A := A) (E := E) (s := { s with heap := g5.push { cls := .type "tuple", data := .seq #[x, y] } }) (k := 0) (x := rawInt g5.objs.size) (Q := R) z6 (by simp)
  wp_walk using wpAny_letGo, wpAny_seqItems o5 rfl, w6
  intro g7 zz7 k7
  have z7 : IsZip g7 z u o (rawInt g5.objs.size) := zz7
  have w7 := fun {R : Unit → Shared → Prop} => wpAny_setField_rec (prog := prog) (w := w) (A := A) (E := E) (s := { s with heap := g7 }) (k := 1) (x := .bool false) (Q := R) z7 (by simp)
  wp_walk using w7
  intro g8 zz8 k8
  have z8 : IsZip g8 z u o (rawInt g5.objs.size) := zz8
  have on : ∀ q ob, q ≠ z → g5.get? q = some ob → g8.get? q = some ob := fun q ob m e => k8.extBut _ _ m (k7.extBut _ _ m (Heap.get?_push_of_some _ e))
  have p8 : IsPair g8 g5.objs.size x y := k8.extBut _ _ (Nat.ne_of_gt zlt) (k7.extBut _ _ (Nat.ne_of_gt zlt) (Heap.get?_push_size _ rfl))
  have len8 : g8.objs.size = g5.objs.size + 1 := by rw [k8.1, k7.1, Heap.size_push]
  rw [len5] at z8 p8 len8
  wp_walk
  refine ⟨_, rfl, ?_⟩
  rw [len5]
  exact go g8 z8 (on _ _ (Ne.symm n2) o5) (m1 _ _ j2 fun ob q => on _ ob (Ne.symm n3) (k5.extBut _ _ (Ne.symm n8) (k4.extBut _ _ n10 (k3.extBut _ _ (Ne.symm n8) q)))) (m2 _ _ j4 fun ob q => on _ ob (Ne.symm n4) (k5.extBut _ _ (Ne.symm n9) q))
    p8 len8 fun q ob m1 m2 m3 m4 e => on q ob m1 (k5.extBut _ _ m2 (k4.extBut _ _ m4 (b3 q ob m1 m3 m2 e)))
theorem zdrawNo {z u o c1 c2 : Addr} {Q : PySem.Fin → Shared → Prop} (ne : [z, u, o, c1, c2].Nodup) (hz : IsZip s.heap z u o .none) (hu : IsPair s.heap u (.ref c1) (.ref c2)) (ho : ∃ a b, IsPair s.heap o a b)
    (src : (∀ g, Heap.SameBut z s.heap g → ∀ {R : Value → Shared → Prop} {E' : Value → Shared → Prop}, (∀ g' f, Heap.ExtBut c1 g g' → (∃ ob, g'.get? f = some ob ∧ ob.cls = .type "StopIteration") → E' (.ref f) { s with heap := g' }) → wpAny (model prog w) A (Builtin.SmallTypes.nextOf (.ref c1)) R E' { s with heap := g }) ∨
      ∃ x, (∀ g, Heap.SameBut z s.heap g → ∀ {R : Value → Shared → Prop} {E' : Value → Shared → Prop}, (∀ g', Heap.SameBut c1 g g' → R x { s with heap := g' }) → wpAny (model prog w) A (Builtin.SmallTypes.nextOf (.ref c1)) R E' { s with heap := g }) ∧
        ∀ g, (∀ q ob, q ≠ z → q ≠ c1 → q ≠ o → s.heap.get? q = some ob → g.get? q = some ob) → ∀ {R : Value → Shared → Prop} {E' : Value → Shared → Prop}, (∀ g' f, Heap.ExtBut c2 g g' → (∃ ob, g'.get? f = some ob ∧ ob.cls = .type "StopIteration") → E' (.ref f) { s with heap := g' }) → wpAny (model prog w) A (Builtin.SmallTypes.nextOf (.ref c2)) R E' { s with heap := g })
    (go : ∀ g x, (∀ b ob, b ≠ z → b ≠ o → b ≠ c1 → b ≠ c2 → s.heap.get? b = some ob → g.get? b = some ob) → (∃ ob, g.get? x = some ob ∧ ob.cls = .type "StopIteration") → E (.ref x) { s with heap := g }) :
    wpAny (model prog w) A (Builtin.«zip.__next__» ⟨[.ref z], []⟩) Q E s := by
  simp only [List.nodup_cons, List.mem_cons, List.mem_nil_iff, or_false, not_or] at ne
  obtain ⟨⟨n1, n2, n3, n4⟩, ⟨n5, n6, n7⟩, ⟨n8, n9⟩, n10, _⟩ := ne
  obtain ⟨a, b, hO⟩ := ho
  have w0 := fun {R : Unit → Shared → Prop} => wpAny_setField_rec (prog := prog) (w := w) (A := A) (E := E) (k := 0) (x := .ellipsis) (Q := R) hz (by simp)
  wp_walk using wpAny_field hz rfl (x := .bool false) rfl, wpAny_field hz rfl (x := .ref u) rfl, wpAny_field hz rfl (x := .none) rfl, wpAny_field hz rfl (x := .ref o) rfl, wpAny_seqItems hu rfl, w0
  intro g1 zz k1
  have z1 : IsZip g1 z u o .ellipsis := zz
  have off : ∀ (g : Heap) (f : Addr), IsZip g z u o .ellipsis → (∃ ob, g.get? f = some ob ∧ ob.cls = .type "StopIteration") → (∀ q ob, q ≠ z → q ≠ o → q ≠ c1 → q ≠ c2 → s.heap.get? q = some ob → g.get? q = some ob) →
      wpAny (model prog w) A (setField (.ref z) 0 .none) (fun _ s' => E (.ref f) s') E { s with heap := g } := fun g f zg ⟨ob, e1, e2⟩ al => by
    have fz : f ≠ z := fun q => by
      rw [q, zg] at e1; cases e1; simp at e2
    exact wpAny_setField_rec zg (by simp) fun g' _ kk => go g' f (fun q oq m1 m2 m3 m4 e => kk.extBut _ _ m1 (al q oq m1 m2 m3 m4 e)) ⟨ob, kk.extBut _ _ fz e1, e2⟩
  simp only [List.zipIdx_cons, List.zipIdx_nil, List.forIn_cons, List.forIn_nil]
  refine wpAny_bind (wpAny_bind (wpAny_bind (wpAny_onRaise ?_)))
  rcases src with s1 | ⟨x1, s1, s2⟩
  · have d1 := fun {E' : Value → Shared → Prop} {R : Value → Shared → Prop} => s1 g1 k1 (R := R) (E' := E')
    wp_walk using d1
    intro g2 f kk st
    exact off g2 f (kk _ _ n3 z1) st fun q ob m1 _ m3 _ e => kk _ _ m3 (k1.extBut _ _ m1 e)
  · have d1 := fun {E' : Value → Shared → Prop} {R : Value → Shared → Prop} => s1 g1 k1 (R := R) (E' := E')
    wp_walk using d1
    intro g2 k2
    have o2 : IsPair g2 o a b := k2.extBut _ _ n8 (k1.extBut _ _ (Ne.symm n2) hO)
    have up1 := fun {R : Unit → Shared → Prop} => wpAny_updateSeq_pair (prog := prog) (w := w) (A := A) (E := E) (s := { s with heap := g2 }) (k := 0) (x := x1) (Q := R) o2
    wp_walk using wpAny_seqItems o2 rfl, up1, wpAny_letGo
    intro g3 zo k3
    have b3 : ∀ q ob, q ≠ z → q ≠ c1 → q ≠ o → s.heap.get? q = some ob → g3.get? q = some ob := fun q ob m1 m2 m3 e => k3.extBut _ _ m3 (k2.extBut _ _ m2 (k1.extBut _ _ m1 e))
    refine wpAny_bind (wpAny_letGo (wpAny_pure (wpAny_bind (wpAny_bind (wpAny_onRaise ?_)))))
    have d2 := fun {E' : Value → Shared → Prop} {R : Value → Shared → Prop} => s2 g3 b3 (R := R) (E' := E')
    wp_walk using d2
    intro g4 f kk st
    exact off g4 f (kk _ _ n4 (k3.extBut _ _ n2 (k2.extBut _ _ n3 z1))) st fun q ob m1 m2 m3 m4 e => kk _ _ m4 (b3 q ob m1 m3 m2 e)
end
end Br
namespace Br
open PySem PySem.Spec PySem.Calls PyProof.Rows L2
section
variable {prog : Program} {w : World} {A : Around} {E : Value → Shared → Prop} {s : Shared}
theorem tstep {c d : Addr} {k : Nat} {zs : Array Value} {v : Value} {Q : Value → Shared → Prop} (hI : s.heap.IsTupleIter c d k) (hT : s.heap.IsTuple d zs) (hv : zs[k]? = some v)
    (go : ∀ g, g.IsTupleIter c d (k + 1) → Heap.SameBut c s.heap g → Q v { s with heap := g }) : wpAny (model prog w) A (Builtin.«tuple_iterator.__next__» ⟨[.ref c], []⟩) (fun fin s' => ∃ u, fin = .done (.ret u) ∧ Q u s') E s := by
  have hI' := hI
  obtain ⟨oc, q1, q2, q3⟩ := hI'
  have hT' := hT
  obtain ⟨od, p1, _, nd, p3⟩ := hT'
  have at_ : zs[((k : Nat) : Int).toNat]? = some v := by simpa using hv
  wp_walk using wpAny_field q1 q3 (x := .ref d) rfl, wpAny_field q1 q3 (x := .int k 0) rfl, wpAny_seqItems p1 p3
  rw [at_]
  refine wpAny_bind (tsetAt q1 q3 (by simp) fun g o' a1 a2 a3 sb => ?_)
  wp_walk
  exact ⟨_, rfl, go g ⟨o', a1, a2.trans q2, by rw [a3]; simp [rawInt]⟩ sb⟩
theorem tstop {c d : Addr} {k : Nat} {zs : Array Value} {Q : PySem.Fin → Shared → Prop} (hh : A.handled = none) (hI : s.heap.IsTupleIter c d k) (hT : s.heap.IsTuple d zs) (hv : zs[k]? = none)
    (go : ∀ g e, Heap.ExtBut c s.heap g → (∃ o, g.get? e = some o ∧ o.cls = .type "StopIteration") → E (.ref e) { s with heap := g }) : wpAny (model prog w) A (Builtin.«tuple_iterator.__next__» ⟨[.ref c], []⟩) Q E s := by
  have hI' := hI
  obtain ⟨oc, q1, q2, q3⟩ := hI'
  have hT' := hT
  obtain ⟨od, p1, _, nd, p3⟩ := hT'
  have at_ : zs[((k : Nat) : Int).toNat]? = none := by simpa using hv
  wp_walk using wpAny_field q1 q3 (x := .ref d) rfl, wpAny_field q1 q3 (x := .int k 0) rfl, wpAny_seqItems p1 p3
  rw [at_]
  refine wpAny_bind (wpAny_rule (wpAny_bind (tsetAt q1 q3 (by simp) fun g o' a1 a2 a3 sb => ?_)))
  wp_walk
  unfold raiseNew
  wp_walk using wpAny_handled
  rw [hh]
  wp_walk
  exact go _ _ ((sb.extBut.push _).push _) ⟨_, Heap.get?_push_size _ rfl, rfl⟩
theorem tnext {c d : Addr} {k : Nat} {zs : Array Value} {v : Value} {Q : Value → Shared → Prop} (hI : s.heap.IsTupleIter c d k) (hT : s.heap.IsTuple d zs) (hv : zs[k]? = some v)
    (go : ∀ g, g.IsTupleIter c d (k + 1) → Heap.SameBut c s.heap g → Q v { s with heap := g }) : wpAny (model prog w) A (Builtin.SmallTypes.nextOf (.ref c)) Q E s := by
  have sl := F.slot_tuple_iterator_next
  unfold Builtin.SmallTypes.nextOf
  refine wpAny_bind (wpAny_callSpecial?_slot (name := Str.ofString "__next__") hI.typeIs sl (wpAny_call_entry sl hI.typeIs F.entry_tuple_iterator_next ?_ (F.args_tuple_iterator_next_1 _)))
  exact wpAny_mono (tstep (Q := fun u s' => u = v ∧ Q v s') hI hT hv fun g a b => ⟨rfl, go g a b⟩) (fun fin s' ⟨u, e, e2, q⟩ => ⟨u, e, wpAny_pure (e2 ▸ q)⟩) fun _ _ z => z
theorem tnone {c d : Addr} {k : Nat} {zs : Array Value} {Q : Value → Shared → Prop} (hh : A.handled = none) (hI : s.heap.IsTupleIter c d k) (hT : s.heap.IsTuple d zs) (hv : zs[k]? = none)
    (go : ∀ g e, Heap.ExtBut c s.heap g → (∃ o, g.get? e = some o ∧ o.cls = .type "StopIteration") → E (.ref e) { s with heap := g }) : wpAny (model prog w) A (Builtin.SmallTypes.nextOf (.ref c)) Q E s := by
  have sl := F.slot_tuple_iterator_next
  unfold Builtin.SmallTypes.nextOf
  refine wpAny_bind (wpAny_callSpecial?_slot (name := Str.ofString "__next__") hI.typeIs sl (wpAny_call_entry sl hI.typeIs F.entry_tuple_iterator_next ?_ (F.args_tuple_iterator_next_1 _)))
  exact tstop hh hI hT hv go
structure Zp (h : Heap) (z u o c1 c2 d e : Addr) (xs ys : Array Value) (k : Nat) : Prop where
  zip : IsZip h z u o .none
  its : IsPair h u (.ref c1) (.ref c2)
  own : ∃ a b, IsPair h o a b
  i1 : h.IsTupleIter c1 d k
  i2 : h.IsTupleIter c2 e k
  t1 : h.IsTuple d xs
  t2 : h.IsTuple e ys
structure Ap (z u o c1 c2 d e : Addr) : Prop where
  ne : [z, u, o, c1, c2].Nodup
  nd : ∀ b ∈ [z, u, o, c1, c2], d ≠ b ∧ e ≠ b
theorem Ap.all {z u o c1 c2 d e : Addr} (P : Ap z u o c1 c2 d e) : z ≠ u ∧ z ≠ o ∧ z ≠ c1 ∧ z ≠ c2 ∧ u ≠ o ∧ u ≠ c1 ∧ u ≠ c2 ∧ o ≠ c1 ∧ o ≠ c2 ∧ c1 ≠ c2 := by
  have h := P.ne
  simp only [List.nodup_cons, List.mem_cons, List.mem_nil_iff, or_false, not_or] at h
  exact ⟨h.1.1, h.1.2.1, h.1.2.2.1, h.1.2.2.2, h.2.1.1, h.2.1.2.1, h.2.1.2.2, h.2.2.1.1, h.2.2.1.2, h.2.2.2.1⟩
theorem zitem {z u o c1 c2 d e : Addr} {xs ys : Array Value} {k : Nat} {x y : Value} {Q : Value → Shared → Prop} (P : Ap z u o c1 c2 d e) (Z : Zp s.heap z u o c1 c2 d e xs ys k) (hx : xs[k]? = some x) (hy : ys[k]? = some y)
    (go : ∀ g, IsZip g z u o (rawInt s.heap.objs.size) → IsPair g o x y → g.IsTupleIter c1 d (k + 1) → g.IsTupleIter c2 e (k + 1) → IsPair g s.heap.objs.size x y → g.objs.size = s.heap.objs.size + 1 →
      (∀ b ob, b ≠ z → b ≠ o → b ≠ c1 → b ≠ c2 → s.heap.get? b = some ob → g.get? b = some ob) → Q (.ref s.heap.objs.size) { s with heap := g }) :
    wpAny (model prog w) A (Builtin.«zip.__next__» ⟨[.ref z], []⟩) (fun fin s' => ∃ v, fin = .done (.ret v) ∧ Q v s') E s := by
  obtain ⟨n1, n2, n3, n4, n5, n6, n7, n8, n9, n10⟩ := P.all
  obtain ⟨dz, ez⟩ := P.nd z (by simp)
  obtain ⟨do', eo⟩ := P.nd o (by simp)
  obtain ⟨dc1, ec1⟩ := P.nd c1 (by simp)
  exact zdraw P.ne Z.zip Z.its Z.own
    (fun g q _ _ r => Br.tnext (s := { s with heap := g }) (Z.i1.at fun ob a => q.extBut _ ob (Ne.symm n3) a) (let ⟨ob, a, b⟩ := Z.t1; ⟨ob, q.extBut _ _ dz a, b⟩) hx r)
    (fun g q _ _ r => Br.tnext (s := { s with heap := g }) (Z.i2.at fun ob a => q _ ob (Ne.symm n4) (Ne.symm n10) (Ne.symm n9) a) (let ⟨ob, a, b⟩ := Z.t2; ⟨ob, q _ _ ez ec1 eo a, b⟩) hy r)
    (fun _ _ j q => j.at q) (fun _ _ j q => j.at q) go
theorem znone {z u o c1 c2 d e : Addr} {xs ys : Array Value} {k : Nat} {Q : PySem.Fin → Shared → Prop} (hh : A.handled = none) (P : Ap z u o c1 c2 d e) (Z : Zp s.heap z u o c1 c2 d e xs ys k) (hv : xs[k]? = none ∨ ys[k]? = none)
    (go : ∀ g x, (∀ b ob, b ≠ z → b ≠ o → b ≠ c1 → b ≠ c2 → s.heap.get? b = some ob → g.get? b = some ob) → (∃ ob, g.get? x = some ob ∧ ob.cls = .type "StopIteration") → E (.ref x) { s with heap := g }) :
    wpAny (model prog w) A (Builtin.«zip.__next__» ⟨[.ref z], []⟩) Q E s := by
  obtain ⟨n1, n2, n3, n4, n5, n6, n7, n8, n9, n10⟩ := P.all
  obtain ⟨dz, ez⟩ := P.nd z (by simp)
  obtain ⟨do', eo⟩ := P.nd o (by simp)
  obtain ⟨dc1, ec1⟩ := P.nd c1 (by simp)
  cases hx : xs[k]? with
  | none =>
    exact zdrawNo P.ne Z.zip Z.its Z.own (.inl fun g q _ _ r => Br.tnone (s := { s with heap := g }) hh (Z.i1.at fun ob a => q.extBut _ ob (Ne.symm n3) a) (let ⟨ob, a, b⟩ := Z.t1; ⟨ob, q.extBut _ _ dz a, b⟩) hx r) go
  | some x1 =>
    have hy : ys[k]? = none := hv.resolve_left (by rw [hx]; simp)
    exact zdrawNo P.ne Z.zip Z.its Z.own (.inr ⟨x1, fun g q _ _ r => Br.tnext (s := { s with heap := g }) (Z.i1.at fun ob a => q.extBut _ ob (Ne.symm n3) a) (let ⟨ob, a, b⟩ := Z.t1; ⟨ob, q.extBut _ _ dz a, b⟩) hx fun g' _ e => r g' e,
      fun g q _ _ r => Br.tnone (s := { s with heap := g }) hh (Z.i2.at fun ob a => q _ ob (Ne.symm n4) (Ne.symm n10) (Ne.symm n9) a) (let ⟨ob, a, b⟩ := Z.t2; ⟨ob, q _ _ ez ec1 eo a, b⟩) hy r⟩) go
end
end Br
namespace Br
open PySem PySem.Spec PySem.Calls PyProof.Rows L2
section
variable {prog : Program} {w : World} {A : Around} {E : Value → Shared → Prop} {s : Shared}
theorem znext {z u o c1 c2 d e : Addr} {xs ys : Array Value} {k : Nat} {x y : Value} {Q : Option Value → Shared → Prop} (P : Ap z u o c1 c2 d e) (Z : Zp s.heap z u o c1 c2 d e xs ys k) (hx : xs[k]? = some x) (hy : ys[k]? = some y)
    (go : ∀ g, IsZip g z u o (rawInt s.heap.objs.size) → IsPair g o x y → g.IsTupleIter c1 d (k + 1) → g.IsTupleIter c2 e (k + 1) → IsPair g s.heap.objs.size x y → g.objs.size = s.heap.objs.size + 1 →
      (∀ b ob, b ≠ z → b ≠ o → b ≠ c1 → b ≠ c2 → s.heap.get? b = some ob → g.get? b = some ob) → Q (some (.ref s.heap.objs.size)) { s with heap := g }) : wpAny (model prog w) A (pyNext (.ref z)) Q E s := by
  have hT : s.TypeIs (.ref z) "zip" := ⟨_, Z.zip, rfl⟩
  unfold pyNext
  exact wpAny_bind (wpAny_attempt (wpAny_callSpecial?_slot (name := Str.ofString "__next__") hT F.slot_zip_next (wpAny_call_entry F.slot_zip_next hT F.entry_zip_next (zitem P Z hx hy fun g a1 a2 a3 a4 a5 a6 a7 => wpAny_pure (go g a1 a2 a3 a4 a5 a6 a7)) (F.args_zip_next_1 _))))
theorem zstop {z u o c1 c2 d e : Addr} {xs ys : Array Value} {k : Nat} {Q : Option Value → Shared → Prop} (hh : A.handled = none) (P : Ap z u o c1 c2 d e) (Z : Zp s.heap z u o c1 c2 d e xs ys k) (hv : xs[k]? = none ∨ ys[k]? = none)
    (go : ∀ g, (∀ b ob, b ≠ z → b ≠ o → b ≠ c1 → b ≠ c2 → s.heap.get? b = some ob → g.get? b = some ob) → Q none { s with heap := g }) : wpAny (model prog w) A (pyNext (.ref z)) Q E s := by
  have hT : s.TypeIs (.ref z) "zip" := ⟨_, Z.zip, rfl⟩
  unfold pyNext
  refine wpAny_bind (wpAny_attempt (wpAny_callSpecial?_slot (name := Str.ofString "__next__") hT F.slot_zip_next (wpAny_call_entry F.slot_zip_next hT F.entry_zip_next (znone hh P Z hv fun g x hk he => ?_) (F.args_zip_next_1 _))))
  obtain ⟨ob, hob, hcb⟩ := he
  exact wpAny_bind (wpAny_isInstance (T := "StopIteration") (b := true) ⟨ob, hob, hcb⟩ isSubtype_stop (wpAny_pure (go _ hk)))
abbrev zh1 (h : Heap) (d : Addr) : Heap := h.push { cls := .type "tuple_iterator", data := .fields #[.ref d, .int 0 0] }
abbrev zh2 (h : Heap) (d e : Addr) : Heap := (zh1 h d).push { cls := .type "tuple_iterator", data := .fields #[.ref e, .int 0 0] }
abbrev zh3 (h : Heap) (d e : Addr) : Heap := (zh2 h d e).push { cls := .type "tuple", data := .seq #[.ref h.objs.size, .ref (zh1 h d).objs.size] }
abbrev zh4 (h : Heap) (d e : Addr) : Heap := (zh3 h d e).push { cls := .type "tuple", data := .seq #[.none, .none] }
abbrev zh5 (h : Heap) (d e : Addr) : Heap := (zh4 h d e).push { cls := .type "zip", data := .fields #[.none, .bool false, .bool false, .ref (zh2 h d e).objs.size, .ref (zh3 h d e).objs.size] }
theorem zmeets (d e : Addr) (xs ys : Array Value) : Meets (Builtin.«zip.__new__» ⟨[.type "zip", .ref d, .ref e], []⟩) (fun _ R s => s.heap.IsTuple d xs ∧ s.heap.IsTuple e ys ∧ R (.ok (.ret (.ref (zh4 s.heap d e).objs.size))) { s with heap := zh5 s.heap d e }) :=
  .of_wp fun prog w A R s h => by
    obtain ⟨hp, g, dr, tk, os⟩ := s
    obtain ⟨h1, h2, h⟩ := h
    have hsub := sub_zip
    have q1 : Heap.IsTuple (Shared.heap ⟨hp, g, dr, tk, os⟩) d xs := h1
    have q2 : Heap.IsTuple (Shared.heap ⟨hp.push { cls := .type "tuple_iterator", data := .fields #[.ref d, .int 0 0] }, g, dr, tk, os⟩) e ys := Heap.IsTuple.push h2 _
    wp_walk using wpAny_pyIter_tuple q1, wpAny_pyIter_tuple q2
    exact ⟨_, rfl, h⟩
theorem zmake {d e : Addr} {xs ys : Array Value} {Q : Value → Shared → Prop} (h1 : s.heap.IsTuple d xs) (h2 : s.heap.IsTuple e ys)
    (go : ∀ g, Zp g (s.heap.objs.size + 4) (s.heap.objs.size + 2) (s.heap.objs.size + 3) s.heap.objs.size (s.heap.objs.size + 1) d e xs ys 0 → (∀ b ob, s.heap.get? b = some ob → g.get? b = some ob) → Q (.ref (s.heap.objs.size + 4)) { s with heap := g }) :
    wpAny (model prog w) A (call (.type "zip") [.ref d, .ref e]) Q E s := by
  refine callType_new F.called_zip (by decide) (F.typeCall_zip_2 _ _) (F.newCall_zip_2 _ _) (fun obj => F.args_object_init_3 obj _ _) F.entry_zip_new (zmeets d e xs ys) ⟨h1, h2, ?_⟩
  have s1 : (zh1 s.heap d).objs.size = s.heap.objs.size + 1 := Heap.size_push ..
  have s2 : (zh2 s.heap d e).objs.size = s.heap.objs.size + 2 := by rw [Heap.size_push, s1]
  have s3 : (zh3 s.heap d e).objs.size = s.heap.objs.size + 3 := by rw [Heap.size_push, s2]
  have s4 : (zh4 s.heap d e).objs.size = s.heap.objs.size + 4 := by rw [Heap.size_push, s3]
  have g5 : (zh5 s.heap d e).get? (zh4 s.heap d e).objs.size = some _ := Heap.get?_push_size _ rfl
  have g4 : (zh5 s.heap d e).get? (zh3 s.heap d e).objs.size = some _ := Heap.get?_push_of_some _ (Heap.get?_push_size _ rfl)
  have g3 : (zh5 s.heap d e).get? (zh2 s.heap d e).objs.size = some _ := Heap.get?_push_of_some _ (Heap.get?_push_of_some _ (Heap.get?_push_size _ rfl))
  have g2 : (zh5 s.heap d e).get? (zh1 s.heap d).objs.size = some _ := Heap.get?_push_of_some _ (Heap.get?_push_of_some _ (Heap.get?_push_of_some _ (Heap.get?_push_size _ rfl)))
  have g1 : (zh5 s.heap d e).get? s.heap.objs.size = some _ := Heap.get?_push_of_some _ (Heap.get?_push_of_some _ (Heap.get?_push_of_some _ (Heap.get?_push_of_some _ (Heap.get?_push_size _ rfl))))
  have old : ∀ b ob, s.heap.get? b = some ob → (zh5 s.heap d e).get? b = some ob := fun b ob q => Heap.get?_push_of_some _ (Heap.get?_push_of_some _ (Heap.get?_push_of_some _ (Heap.get?_push_of_some _ (Heap.get?_push_of_some _ q))))
  rw [s4] at g5
  rw [s3] at g4
  rw [s2] at g3
  rw [s1] at g2
  rw [s1] at g3
  rw [s2, s3] at g5
  have gz := go (zh5 s.heap d e) ⟨g5, g3, ⟨_, _, g4⟩, ⟨_, g1, rfl, rfl⟩, ⟨_, g2, rfl, rfl⟩, let ⟨ob, q, r⟩ := h1; ⟨ob, old _ _ q, r⟩, let ⟨ob, q, r⟩ := h2; ⟨ob, old _ _ q, r⟩⟩ old
  rw [s4]
  exact ⟨⟨_, g5, rfl⟩, gz⟩
end
end Br
namespace Br
open PySem PySem.Spec PySem.Calls PyProof.Rows L2
def Itz (K : PySem.W.Frag) (a b : Addr) : It :=
  ⟨fun i H => ∃ xs ys x y, SqT K H a xs ∧ SqT K H b ys ∧ xs[i]? = some x ∧ ys[i]? = some y,
   fun i H v H' => ∃ (x y : V) (T : Addr), v = .ref T ∧ H T = none ∧ H' = upd H T (.tup [x, y]) ∧ ∀ xs ys, SqT K H a xs → SqT K H b ys → xs[i]? = some x ∧ ys[i]? = some y,
   fun i H => ∃ xs ys, SqT K H a xs ∧ SqT K H b ys ∧ (xs.length ≤ i ∨ ys.length ≤ i)⟩
theorem sqT_apart {X : Cx} {pins : List (Addr × Obj)} {σ : L2.St} {H : Hp} {s : Shared} {d b : Addr} {xs : List V} (I : Inv X pins σ H s) (h : SqT X.K H d xs) (f : FpOk X pins H b) : d ≠ b := fun z => by
  subst z
  rcases h with h | ⟨o, its, n, hk, _⟩
  · rcases h with h | ⟨o, h⟩
    · rw [f.1] at h; cases h
    · rw [f.1] at h; cases h
  · have e := I.ok.mod.kin d o hk
    rcases f.2.2.2.1 with z | z
    · exact I.ok.noex d o e z
    · exact absurd (Nat.lt_of_lt_of_le (Heap.lt_size e) (Nat.le_trans I.ok.bsz z)) (Nat.lt_irrefl _)
theorem turn_zip {P : Program} {w : World} {K : PySem.W.Frag} {es : List Expr} {kt : Nat} {pt : Pos} {z u o c1 c2 a b : Addr} (ne : [z, u, o, c1, c2].Nodup) :
    Turn P w K (.Tuple es kt pt) (Itz K a b) [z, u, o, c1, c2] z (fun i h => IsZip h z u o .none ∧ IsPair h u (.ref c1) (.ref c2) ∧ (∃ x y, IsPair h o x y) ∧ h.IsTupleIter c1 a i ∧ h.IsTupleIter c2 b i) where
  mem := by simp
  obj := fun i h st c hc => by
    obtain ⟨h1, h2, ⟨x, y, h3⟩, ⟨o4, h4, _, d4⟩, ⟨o5, h5, _, d5⟩⟩ := st
    simp only [List.mem_cons, List.mem_nil_iff, or_false] at hc
    rcases hc with rfl | rfl | rfl | rfl | rfl
    · exact ⟨_, h1, fun v q => by cases q⟩
    · exact ⟨_, h2, fun v q => by cases q⟩
    · exact ⟨_, h3, fun v q => by cases q⟩
    · exact ⟨_, h4, fun v q => by rw [d4] at q; cases q⟩
    · exact ⟨_, h5, fun v q => by rw [d5] at q; cases q⟩
  keep := fun i h h' st k => by
    obtain ⟨h1, h2, ⟨x, y, h3⟩, h4, h5⟩ := st
    exact ⟨k _ (by simp) _ h1, k _ (by simp) _ h2, ⟨x, y, k _ (by simp) _ h3⟩, h4.at fun ob q => k _ (by simp) ob q, h5.at fun ob q => k _ (by simp) ob q⟩
  item := by
    intro X hP hw hK hc i pins s σ H E I hf st hg
    subst hP hw hK
    obtain ⟨h1, h2, h3, h4, h5⟩ := st
    obtain ⟨xs, ys, x, y, q1, q2, hx, hy⟩ := hg
    obtain ⟨t1, r1, p1, l1⟩ := I.tuple q1
    obtain ⟨t2, r2, p2, l2⟩ := I.tuple q2
    obtain ⟨x', hx', rx⟩ := r1.get hx
    obtain ⟨y', hy', ry⟩ := r2.get hy
    have ap : Ap z u o c1 c2 a b := ⟨ne, fun c hc => ⟨sqT_apart I q1 (hf c hc), sqT_apart I q2 (hf c hc)⟩⟩
    obtain ⟨n1, n2, n3, n4, n5, n6, n7, n8, n9, n10⟩ := ap.all
    refine znext ap ⟨h1, h2, h3, h4, h5, p1, p2⟩ (x := x') (y := y') (by simpa using hx') (by simpa using hy') fun g z1 o1 i1 i2 T1 sz kp => ?_
    refine ⟨_, rfl, wpAny_letOwnedTupleGo_zip z1 fun g' z2 k2 => ?_⟩
    have hfr : H s.heap.objs.size = none := I.hok.fresh (Nat.le_refl _)
    have lt : ∀ c ∈ [z, u, o, c1, c2], c < s.heap.objs.size := fun c hc => by
      simp only [List.mem_cons, List.mem_nil_iff, or_false] at hc
      rcases hc with rfl | rfl | rfl | rfl | rfl
      · exact Heap.lt_size h1
      · exact Heap.lt_size h2
      · obtain ⟨_, _, h3⟩ := h3; exact Heap.lt_size h3
      · obtain ⟨_, h4, _⟩ := h4; exact Heap.lt_size h4
      · obtain ⟨_, h5, _⟩ := h5; exact Heap.lt_size h5
    have all : ∀ c ob, c ∉ [z, u, o, c1, c2] → s.heap.get? c = some ob → g'.get? c = some ob := fun c ob hc q => by
      simp only [List.mem_cons, List.mem_nil_iff, or_false, not_or] at hc
      exact k2.extBut _ _ hc.1 (kp c ob hc.1 hc.2.2.1 hc.2.2.2.1 hc.2.2.2.2 q)
    have zl : z < s.heap.objs.size := lt z (by simp)
    have u' : IsPair g' u (.ref c1) (.ref c2) := k2.extBut _ _ (Ne.symm n1) (kp _ _ (Ne.symm n1) n5 n6 n7 h2)
    have o' : IsPair g' o x' y' := k2.extBut _ _ (Ne.symm n2) o1
    have i1' := i1.extBut k2.extBut (Ne.symm n3)
    have i2' := i2.extBut k2.extBut (Ne.symm n4)
    have T' : IsPair g' s.heap.objs.size x' y' := k2.extBut _ _ (Nat.ne_of_gt zl) T1
    have trk : ∀ c v, H c = some v → c ∉ [z, u, o, c1, c2] := fun c v q hc => by rw [(hf c hc).1] at q; cases q
    have I1 : Inv X pins σ (upd H s.heap.objs.size (.tup [x, y])) { s with heap := g' } := by
      refine I.step (g' := s.gens) (d' := s.drawn) (t' := s.toks) (ch := [z, u, o, c1, c2]) (fun c hc => ?_) (fun c ob _ _ hc q _ => all c ob hc q) (fun c ob _ _ hc q _ => ⟨ob.slots, all c ob hc q⟩) (fun c ob hc q n => ?_) (fun c ob hc q => ⟨ob, all c ob hc q⟩)
        (fun c v q => ?_) (fun c v v' q => ?_) (fun c v q => ⟨#[], ?_⟩) (fun m hm => ?_) (fun c v q => ?_) I.bare
      · obtain ⟨f0, f1, f2, f3, f4, f5⟩ := hf c hc
        exact ⟨f3, f1, f4, f5⟩
      · rw [upd_ne (Nat.ne_of_lt (Heap.lt_size q))]; exact n
      · rw [upd_ne (ne_of_none q hfr)]; exact q
      · rw [upd_ne (ne_of_none q hfr)]; exact q
      · rw [upd_ne (ne_of_none q hfr), q]; simp
      · obtain ⟨ob, es, ep, ho, r⟩ := hm
        exact ⟨ob, es, ep, all _ ob (fun hc => (hf _ hc).2.1 rfl) ho, r⟩
      · by_cases hcT : c = s.heap.objs.size
        · subst hcT
          rw [upd_same] at q; cases q
          exact ⟨by show 2 ≤ sizeLine; decide, [x', y'], .cons rx (.cons ry .nil), ⟨_, T', rfl, _, rfl⟩⟩
        · rw [upd_ne hcT] at q
          refine (I.hok c v q).stay (fun c' ob hc' q' => all c' ob ?_ q') (fun c' q' => by rw [upd_ne (ne_of_none q' hfr)]; exact q') fun c' vs q' => by rw [upd_ne (ne_of_none q' hfr)]; exact q'
          rcases hc' with e | e
          · rw [e]; exact trk c v q
          · exact trk c' _ e
    refine ⟨.ref s.heap.objs.size, _, I1, rfl, ⟨x, y, _, rfl, hfr, rfl, fun xs' ys' e1 e2 => ?_⟩, ⟨z2, u', ⟨_, _, o'⟩, i1', i2'⟩, fun c hc => ?_⟩
    · rw [I.tuple_inj e1 q1, I.tuple_inj e2 q2]; exact ⟨hx, hy⟩
    · rw [upd_ne (Nat.ne_of_lt (lt c hc))]; exact (hf c hc).1
  done := by
    intro X hP hw hK hc i pins s σ H E I hf st hg
    subst hP hw hK
    obtain ⟨h1, h2, h3, h4, h5⟩ := st
    obtain ⟨xs, ys, q1, q2, hend⟩ := hg
    obtain ⟨t1, r1, p1, l1⟩ := I.tuple q1
    obtain ⟨t2, r2, p2, l2⟩ := I.tuple q2
    have ap : Ap z u o c1 c2 a b := ⟨ne, fun c hc => ⟨sqT_apart I q1 (hf c hc), sqT_apart I q2 (hf c hc)⟩⟩
    have e1 := r1.length
    have e2 := r2.length
    refine zstop (I.ok.hd hc) ap ⟨h1, h2, h3, h4, h5, p1, p2⟩ (by
      rcases hend with q | q
      · exact .inl (by simp; omega)
      · exact .inr (by simp; omega)) fun g kp => ⟨rfl, ?_⟩
    have all : ∀ c ob, c ∉ [z, u, o, c1, c2] → s.heap.get? c = some ob → g.get? c = some ob := fun c ob hc q => by
      simp only [List.mem_cons, List.mem_nil_iff, or_false, not_or] at hc
      exact kp c ob hc.1 hc.2.2.1 hc.2.2.2.1 hc.2.2.2.2 q
    have trk : ∀ c v, H c = some v → c ∉ [z, u, o, c1, c2] := fun c v q hc => by rw [(hf c hc).1] at q; cases q
    refine I.step (g' := s.gens) (d' := s.drawn) (t' := s.toks) (ch := [z, u, o, c1, c2]) (fun c hc => ?_) (fun c ob _ _ hc q _ => all c ob hc q) (fun c ob _ _ hc q _ => ⟨ob.slots, all c ob hc q⟩) (fun c ob hc q n => n) (fun c ob hc q => ⟨ob, all c ob hc q⟩)
      (fun c v q => q) (fun c v v' q => q) (fun c v q => ⟨#[], by rw [q]; simp⟩) (fun m hm => ?_) (fun c v q => ?_) I.bare
    · obtain ⟨f0, f1, f2, f3, f4, f5⟩ := hf c hc
      exact ⟨f3, f1, f4, f5⟩
    · obtain ⟨ob, es, ep, ho, r⟩ := hm
      exact ⟨ob, es, ep, all _ ob (fun hc => (hf _ hc).2.1 rfl) ho, r⟩
    · refine (I.hok c v q).stay (fun c' ob hc' q' => all c' ob ?_ q') (fun c' q' => q') fun c' vs q' => q'
      rcases hc' with e | e
      · rw [e]; exact trk c v q
      · exact trk c' _ e
  self := fun _ _ _ _ _ st h => wpAny_pyIter_zip st.1 h
theorem boot_zip : bootBuiltins "zip" = some (.type "zip") := by decide +kernel
def iZip (K : PySem.W.Frag) (ta : TA) : TI := fun σ H R => ta σ H fun vs H1 => ∃ a b xs ys, vs = [.ref a, .ref b] ∧ SqT K H1 a xs ∧ SqT K H1 b ys ∧ R (Itz K a b) H1
theorem pi_zip {X : Cx} {es : List Expr} {kt : Nat} {pt : Pos} {a b : Expr} {ta : TA} {p pos : Pos} (hg : Gl X "zip") (hm : X.mg "zip" = none) (ha : PA X [a, b] ta) (hs : starEach [a, b] X.env = [(false, eval a X.env), (false, eval b X.env)]) (hs2 : starEach [b] X.env = [(false, eval b X.env)]) :
    PI X (.Tuple es kt pt) (.Call (.Name "zip" p) [a, b] [] pos) (iZip X.K ta) := by
  intro pins s σ H R I h
  refine Call_ (ld_blt I hg hm boot_zip (PyProof.Rows.callWith_type1 (thn (ha pos pins s σ H _ I h) fun us s1 ⟨vs, H1, I1, r1, q1⟩ => ?_) (by rw [hs, hs2]) (by rw [hs2]; rfl)))
  obtain ⟨a, b, xs, ys, e, q1, q2, q⟩ := q1
  subst e
  cases r1 with
  | cons r rr =>
    cases rr with
    | cons r' rr =>
      cases rr
      cases r
      cases r'
      obtain ⟨t1, rv1, p1, l1⟩ := I1.tuple q1
      obtain ⟨t2, rv2, p2, l2⟩ := I1.tuple q2
      refine zmake p1 p2 fun g Z old => ?_
      have I2 : Inv X pins σ H1 { s1 with heap := g } := I1.kept (t' := s1.toks) old
      refine wpAny_pyIter_zip Z.zip ?_
      refine ⟨s1.heap.objs.size + 4, [s1.heap.objs.size + 4, s1.heap.objs.size + 2, s1.heap.objs.size + 3, s1.heap.objs.size, s1.heap.objs.size + 1], _, _, H1, rfl, I2, turn_zip ?_, ⟨Z.zip, Z.its, Z.own, Z.i1, Z.i2⟩, fun c hc => ?_, q⟩
      · simp only [List.nodup_cons, List.mem_cons, List.mem_nil_iff, or_false, not_or, List.nodup_nil, and_true, not_false_eq_true]
        refine ⟨⟨?_, ?_, ?_, ?_⟩, ⟨?_, ?_, ?_⟩, ⟨?_, ?_⟩, ?_⟩ <;> (intro z; have z : (_ : Nat) = _ := z; omega)
      · have hb : s1.heap.objs.size ≤ c := by
          simp only [List.mem_cons, List.mem_nil_iff, or_false] at hc
          rcases hc with rfl | rfl | rfl | rfl | rfl
          · exact Nat.le_add_right _ _
          · exact Nat.le_add_right _ _
          · exact Nat.le_add_right _ _
          · exact Nat.le_refl _
          · exact Nat.le_add_right _ _
        exact I1.fpOk hb (I1.hok.fresh hb)
theorem k_zip {X : Cx} {K : PySem.W.Frag} (hK : X.K = K) {x : Str} {es : List Expr} {kt : Nat} {pt : Pos} {a b : Expr} {ta : TA} {p pos : Pos} (hx : x = "zip") (hg : Gl X x) (hm : X.mg x = none) (hs : starEach [a, b] X.env = [(false, eval a X.env), (false, eval b X.env)]) (hs2 : starEach [b] X.env = [(false, eval b X.env)]) (ha : JA X [a, b] ta) :
    JI X (.Tuple es kt pt) (.Call (.Name x p) [a, b] [] pos) (iZip K ta) := hK ▸ ⟨by subst hx; exact pi_zip hg hm ha.h hs hs2⟩
end Br
namespace Br
open PySem PySem.Spec PySem.Calls PyProof.Rows L2
theorem preSum_take (ns : List Int) : ∀ n, n ≤ ns.length → preSum (fun i => ns.getD i 0) n = (ns.take n).sum
  | 0, _ => rfl
  | n + 1, h => by
    show preSum _ n + ns.getD n 0 = _
    rw [preSum_take ns n (by omega), List.take_add_one, List.sum_append, List.getD_eq_getElem?_getD, List.getElem?_eq_getElem (by omega)]
    simp
theorem vals_int : ∀ {ns : List Int} {its : List Value} {i : Nat} {v : Value}, Vals (ns.map V.int) its → its[i]? = some v → ∃ n t, ns[i]? = some n ∧ v = .int n t
  | [], _, i, v, r, e => by cases r; simp at e
  | n :: ns, _, i, v, r, e => by
    cases r with
    | cons r rr =>
      cases i with
      | zero => simp at e; subst e; obtain ⟨t, rfl⟩ := r; exact ⟨n, t, rfl, rfl⟩
      | succ i =>
        obtain ⟨n', t, h1, h2⟩ := vals_int (i := i) rr (by simpa using e)
        exact ⟨n', t, by simpa using h1, h2⟩
theorem boot_sum' : bootBuiltins "sum" = some (.builtin "sum") := by decide +kernel
section
variable {X : Cx} {K : PySem.W.Frag} {e elt iter : Expr} {es ifs : List Expr} {te : TE} {tt : TT} {t : TA} {wi : TI} {pos p px py pz pt pt2 spos : Pos} {x y z : Str} {i j k : Nat} {kt kt2 : Nat} {scope : Scope}
theorem g_tup2 (hi : At X.N i x) (hj : At X.N j y) (hc : X.calm = true) (hN : X.N.Nodup) (hx : X.env.scope.names.lookup x = some .local) (hy : X.env.scope.names.lookup y = some .local)
    (h1 : (assignEach [.Name x px, .Name y py] X.env).map (·.2) = assign (.Name x px) X.env :: (assignEach [.Name y py] X.env).map (·.2))
    (h2 : (assignEach [.Name y py] X.env).map (·.2) = assign (.Name y py) X.env :: (assignEach [] X.env).map (·.2))
    (hn : (assignEach [.Name x px, .Name y py] X.env).length = 2) (hst : (assignEach [.Name x px, .Name y py] X.env).findIdx? (·.1) = none) : JG X (.Tuple [.Name x px, .Name y py] kt pt) (gTup X.K 2 (gCons (gName i) (gCons (gName j) gNil))) :=
  ⟨pg_tup hc (pgs_cons (pg_name hN hi.get (.inl hx) (.inr hx)) (pgs_cons (pg_name hN hj.get (.inl hy) (.inr hy)) pgs_nil h2) h1) hn hst⟩
theorem s_unpack3 (hi : At X.N i x) (hj : At X.N j y) (hk : At X.N k z) (hc : X.calm = true) (hN : X.N.Nodup) (hx : X.env.scope.names.lookup x = some .local) (hy : X.env.scope.names.lookup y = some .local) (hz : X.env.scope.names.lookup z = some .local)
    (h1 : (assignEach [.Name x px, .Name y py, .Name z pz] X.env).map (·.2) = assign (.Name x px) X.env :: (assignEach [.Name y py, .Name z pz] X.env).map (·.2))
    (h2 : (assignEach [.Name y py, .Name z pz] X.env).map (·.2) = assign (.Name y py) X.env :: (assignEach [.Name z pz] X.env).map (·.2))
    (h3 : (assignEach [.Name z pz] X.env).map (·.2) = assign (.Name z pz) X.env :: (assignEach [] X.env).map (·.2))
    (hn : (assignEach [.Name x px, .Name y py, .Name z pz] X.env).length = 3) (hst : (assignEach [.Name x px, .Name y py, .Name z pz] X.env).findIdx? (·.1) = none)
    (hs : swapsWithSole [.Tuple [.Name x px, .Name y py, .Name z pz] kt pt] e pos.line X.env = pure false) (hw : swappedStores [.Tuple [.Name x px, .Name y py, .Name z pz] kt pt] e X.env = pure none)
    (h4 : (assignEach [.Tuple [.Name x px, .Name y py, .Name z pz] kt pt] X.env).map (·.2) = [assign (.Tuple [.Name x px, .Name y py, .Name z pz] kt pt) X.env]) (he : JE X e te) :
    JS X (.Assign [.Tuple [.Name x px, .Name y py, .Name z pz] kt pt] e pos) (tAsg te (gTup X.K 3 (gCons (gName i) (gCons (gName j) (gCons (gName k) gNil))))) :=
  ⟨ps_asg he.h (pg_tup hc (pgs_cons (pg_name hN hi.get (.inl hx) (.inr hx)) (pgs_cons (pg_name hN hj.get (.inl hy) (.inr hy)) (pgs_cons (pg_name hN hk.get (.inl hz) (.inr hz)) pgs_nil h3) h2) h1) hn hst) hs hw h4⟩
end
end Br
namespace Br
open PySem PySem.Spec PySem.Calls PyProof.Rows L2
section
variable {prog : Program} {w : World} {A : Around} {E : Value → Shared → Prop} {R : Result → Shared → Prop} {I S : Addr} {fp wr : List Addr} {n : Nat} {T : Nat → Value → Prop} {St : Nat → Heap → Prop} {Ok : Heap → Prop} {bt : Nat → Nat → Bool}
structure Cq (prog : Program) (w : World) (A : Around) (T : Nat → Value → Prop) (bt : Nat → Nat → Bool) (Ok : Heap → Prop) (wr : List Addr) : Prop where
  stay : ∀ h h', Ok h → (∀ b o, b ∉ wr → h.get? b = some o → h'.get? b = some o) → Ok h'
  lt : ∀ i j vi vj (s : Shared) (Q : Value → Shared → Prop) (E : Value → Shared → Prop), Ok s.heap → T i vi → T j vj → Q (.bool (bt i j)) s → wpAny (model prog w) A (richCompare .Lt vi vj) Q E s
end
end Br
namespace Br
open PySem PySem.Spec PySem.Calls PyProof.Rows L2
section
variable {prog : Program} {w : World} {A : Around} {E : Value → Shared → Prop} {R : Result → Shared → Prop} {I : Addr} {fp wr : List Addr} {n : Nat} {T : Nat → Value → Prop} {St : Nat → Heap → Prop} {Ok : Heap → Prop} {bt : Nat → Nat → Bool}
end
end Br
namespace Br
open PySem PySem.Spec PySem.Calls PyProof.Rows L2
structure GInt (mg : Str → Option Value) (x : Str) (n : Int) : Prop where
  is : ∃ t, mg x = some (.int n t)
section
variable {X : Cx} {K : PySem.W.Frag} {o e : Expr} {to : TE} {t : TA} {apos cpos pos p : Pos} {x : Str} {n : Int} {k : Nat}
theorem j_const (g : GInt X.mg x n) (hg : Gl X x) (hd : (x == ("__debug__" : Str)) = false) : JE X (.Name x pos) (tC (.int n)) := ⟨let ⟨t, h⟩ := g.is; pe_glob hg h ⟨t, rfl⟩ hd⟩
end
end Br
namespace Br
inductive Lot (ks : List (Int × Nat)) : Nat → Int → Prop where
  | nil : Lot ks 0 0
  | more {n : Nat} {v : Int} {k : Int × Nat} : Lot ks n v → k ∈ ks → Lot ks (n + k.2) (v + k.1)
def Top (ks : List (Int × Nat)) (n : Nat) (v : Int) : Prop := (∃ m, m ≤ n ∧ Lot ks m v) ∧ ∀ m u, m ≤ n → Lot ks m u → u ≤ v
theorem Top.inj {ks : List (Int × Nat)} {n : Nat} {u v : Int} (a : Top ks n u) (b : Top ks n v) : u = v := by
  obtain ⟨⟨m1, h1, l1⟩, t1⟩ := a
  obtain ⟨⟨m2, h2, l2⟩, t2⟩ := b
  exact Int.le_antisymm (t2 _ _ h1 l1) (t1 _ _ h2 l2)
theorem Top.mono {ks : List (Int × Nat)} {m n : Nat} {u v : Int} (a : Top ks m u) (b : Top ks n v) (h : m ≤ n) : u ≤ v := by
  obtain ⟨⟨m1, h1, l1⟩, _⟩ := a
  exact b.2 _ _ (Nat.le_trans h1 h) l1
theorem Lot.sub {ks js : List (Int × Nat)} (h : ∀ k ∈ ks, k ∈ js) {n : Nat} {v : Int} (l : Lot ks n v) : Lot js n v := by
  induction l with
  | nil => exact .nil
  | more _ hk ih => exact .more ih (h _ hk)
end Br
namespace Br
open PySem PySem.Spec PySem.Calls PyProof.Rows L2
section
variable {X : Cx} {K : PySem.W.Frag} {e : Expr} {t : TA} {pos p : Pos} {x : Str}
end
end Br
namespace Br
open PySem PySem.Spec PySem.Calls PyProof.Rows L2
structure CqX (prog : Program) (w : World) (A : Around) (T : Nat → Value → Prop) (bt : Nat → Nat → Bool) (Ok : Heap → Prop) (wr : List Addr) : Prop where
  stay : ∀ h h', Ok h → (∀ b o, b ∉ wr → h.get? b = some o → h'.get? b = some o) → Ok h'
  lt : ∀ i j vi vj (s : Shared) (Q : Value → Shared → Prop) (E : Value → Shared → Prop), Ok s.heap → T i vi → T j vj → Q (.bool (bt i j)) s → wpAny (model prog w) A (richCompare .Gt vi vj) Q E s
section
variable {prog : Program} {w : World} {A : Around} {E : Value → Shared → Prop} {R : Result → Shared → Prop} {I S : Addr} {fp wr : List Addr} {n : Nat} {T : Nat → Value → Prop} {St : Nat → Heap → Prop} {Ok : Heap → Prop} {bt : Nat → Nat → Bool} {kw : List (Str × Value)}
end
section
variable {prog : Program} {w : World} {A : Around} {E : Value → Shared → Prop} {R : Result → Shared → Prop} {I S : Addr} {fp wr : List Addr} {n : Nat} {T : Nat → Value → Prop} {St : Nat → Heap → Prop} {Ok : Heap → Prop} {bt : Nat → Nat → Bool} {kw : List (Str × Value)}
end
end Br
namespace Br
open PySem PySem.Spec PySem.Calls PyProof.Rows L2
section
variable {X : Cx} {K : PySem.W.Frag} {r : List V → V → Hp → VK → Prop} {e dv : Expr} {es : List Expr} {t : TA} {td : TE} {pos p kp : Pos} {x nm : Str} {id : String}
theorem vals_ints : ∀ {ns : List Int} {vs : List Value}, Vals (ns.map V.int) vs → IntsAre vs ns
  | [], _, r => by cases r; exact .nil
  | n :: ns, _, r => by
    cases r with
    | cons r rr =>
      obtain ⟨t, rfl⟩ := r
      exact .cons n t (vals_ints rr)
section
variable (hg : Gl X x) (he : starEach (e :: es) X.env = (false, eval e X.env) :: starEach es X.env) (hpl : (backTo pos (starEach es X.env)).any (·.1) = false)
include hg he hpl
end
section
variable (hg : Gl X x) (he : starEach (e :: es) X.env = (false, eval e X.env) :: starEach es X.env) (hpl : (backTo pos (starEach es X.env)).any (·.1) = false)
include hg he hpl
end
end
section
variable {X : Cx} {K : PySem.W.Frag} {o b e : Expr} {to tb te : TE} {pos py pt pos' : Pos} {y : Str} {j kt : Nat}
end
end Br
namespace Br
open PySem PySem.Spec PySem.Calls PyProof.Rows L2
section
variable {X : Cx} {K : PySem.W.Frag}
theorem iter_seq {pins : List (Addr × Obj)} {s : Shared} {σ : L2.St} {H : Hp} {p : Addr} {ns : List Int} (hc : X.calm = true) (I : Inv X pins σ H s) (hq : SqL X.K H p (ns.map V.int) ∨ SqT X.K H p (ns.map V.int)) {Q : Value → Shared → Prop} {E : Value → Shared → Prop}
    (h : ∀ (T : String) (its : List Value) (St : Nat → Heap → Prop), its.length = ns.length → (∀ (i : Nat) (v : Value), its.toArray[i]? = some v → ∃ t, v = Value.int (ns.getD i 0) t) →
      Walks X.prog X.w X.A.in1 s.heap.objs.size [s.heap.objs.size, p] [s.heap.objs.size] its.toArray.size (fun i v => its.toArray[i]? = some v) St → St 0 (s.heap.push { cls := .type T, data := .fields #[.ref p, .int 0 0] }) → p < s.heap.objs.size →
      Q (.ref s.heap.objs.size) { s with heap := s.heap.push { cls := .type T, data := .fields #[.ref p, .int 0 0] } }) : wpAny (model X.prog X.w) X.A.in1 (pyIter (.ref p)) Q E s := by
  rcases hq with hq | hq
  · obtain ⟨its, r', pl, hz⟩ := I.list hq
    have hp : p < s.heap.objs.size := by obtain ⟨_, _, e, _⟩ := pl; exact Heap.lt_size e
    have hl : its.length = ns.length := by rw [← r'.length, List.length_map]
    exact wpAny_pyIter_list pl.isList (h "list_iterator" its _ hl (fun i v e => by
      obtain ⟨n, t, h1, h2⟩ := vals_int r' (by simpa using e)
      exact ⟨t, by rw [h2, List.getD_eq_getElem?_getD, h1]; rfl⟩) (Walks.list (A := X.A.in1) (I.ok.hd hc) s.heap.objs.size p (Nat.ne_of_lt hp) its.toArray) ⟨⟨_, Heap.get?_push_size _ rfl, rfl, rfl⟩, pl.isList.at fun o e => Heap.get?_push_of_some _ e⟩ hp)
  · obtain ⟨its, r', pl, hz⟩ := I.tuple hq
    have pl' : s.heap.IsTuple p its.toArray := pl
    have hp : p < s.heap.objs.size := by obtain ⟨_, e, _⟩ := pl; exact Heap.lt_size e
    have hl : its.length = ns.length := by rw [← r'.length, List.length_map]
    exact wpAny_pyIter_tuple pl' (h "tuple_iterator" its _ hl (fun i v e => by
      obtain ⟨n, t, h1, h2⟩ := vals_int r' (by simpa using e)
      exact ⟨t, by rw [h2, List.getD_eq_getElem?_getD, h1]; rfl⟩) (Walks.tuple (A := X.A.in1) (I.ok.hd hc) s.heap.objs.size p (Nat.ne_of_lt hp) its.toArray) ⟨⟨_, Heap.get?_push_size _ rfl, rfl, rfl⟩, pl'.at fun o e => Heap.get?_push_of_some _ e⟩ hp)
theorem fp_lt {s : Shared} {p : Addr} {o : Obj} (hp : p < s.heap.objs.size) : ∀ b ∈ [s.heap.objs.size, p], b < (s.heap.push o).objs.size := fun b hb => by
  rw [Heap.size_push]
  rcases List.mem_cons.mp hb with e | hb
  · rw [e]; exact Nat.lt_succ_self _
  · rw [List.mem_singleton.mp hb]; exact Nat.lt_succ_of_lt hp
def rSumS (K : PySem.W.Frag) : List V → Hp → VK → Prop := fun xs H Q => ∃ (p : Addr) (ns : List Int), xs = [.ref p] ∧ (SqL K H p (ns.map V.int) ∨ SqT K H p (ns.map V.int)) ∧ Q (.int ns.sum) H
theorem call_sumS (hc : X.calm = true) : CallR X (.builtin "sum") (rSumS X.K) := by
  intro pins s σ H xs us Q I r h
  obtain ⟨p, ns, rfl, hq, q⟩ := h
  obtain ⟨u, rfl, rx⟩ := vals1 r
  cases rx
  refine call_sum_walkAnyS (iter_seq hc I hq fun T its St hl hval W st hp => ⟨s.heap.objs.size, _, _, _, _, _, _, fun i => ns.getD i 0, rfl, W.toS, st, fp_lt hp, fun i v e => hval i v e, fun s' t' hm => ?_⟩)
  rw [List.size_toArray, hl, preSum_take ns _ (Nat.le_refl _), List.take_length]
  have hk : ∀ b o, s.heap.get? b = some o → s'.heap.get? b = some o := fun b o e => hm.heap b o (fun hI => absurd (Heap.lt_size e) (by rw [List.mem_singleton.mp hI]; exact Nat.lt_irrefl _)) (Heap.get?_push_of_some _ e)
  rw [Moved.eq_with hm]
  exact ⟨.int ns.sum, H, I.kept hk, ⟨t', rfl⟩, q⟩
def rCatTA (K : PySem.W.Frag) : R2 := fun x y H Q => ∃ a b xs ys, x = .ref a ∧ y = .ref b ∧ SqT K H a xs ∧ SqT K H b ys ∧ xs.length + ys.length ≤ sizeLine ∧ ∀ p H2, L2.Same H H2 → SqT K H2 p (xs ++ ys) → Q (.ref p) H2
theorem op_catTA : OpR X (binaryOp .Add) (rCatTA X.K) := fun pins s σ H x y v u Q I rx ry h => by
  obtain ⟨a, b, xs, ys, e1, e2, h1, h2, hz, q⟩ := h
  by_cases hx : xs = []
  · subst e1; subst e2; subst hx
    cases rx; cases ry
    obtain ⟨its, r1, p1, _⟩ := I.tuple h1
    obtain ⟨its2, r2, p2, _⟩ := I.tuple h2
    have hv : its = [] := r1.nil_iff.mpr rfl
    obtain ⟨⟨cls, dd, data, sl⟩, ho, hc, n, hd⟩ := id p1
    obtain ⟨⟨cls2, dd2, data2, sl2⟩, ho2, hc2, n2, hd2⟩ := id p2
    simp only at hc hd hc2 hd2
    subst hc hd hc2 hd2
    exact concat_meets ⟨_, ho, rfl⟩ ⟨_, ho2, rfl⟩ noFill_tuple_add seq_tuple_add PySem.F.slot_tuple_add PySem.F.entry_tuple_add (PySem.F.args_tuple_add_2 _ _)
      (tuple_addW0 a b its.toArray its2.toArray n n2 dd dd2 sl sl2 (by simp [hv])) ⟨ho, ho2, ⟨.ref b, H, I, rfl, q b H (L2.Same.refl _) h2⟩⟩
  · exact op_catTS pins s σ H x y v u Q I rx ry ⟨a, b, xs, ys, e1, e2, h1, h2, hx, hz, q⟩
end
section
variable {X : Cx} {K : PySem.W.Frag} {a b c e o : Expr} {es : List Expr} {ta tb tc te to : TE} {t : TA} {pos p apos cpos : Pos} {x : Str} {k : Nat} {op op' : CmpOp} {r r' : R2}
theorem k_addA (hK : X.K = K) : JOp X .Add (fun x y H Q => rI0 (fun i j => .int (i + j)) x y H Q ∨ rCatS x y H Q ∨ rCatTA K x y H Q) := hK ▸ ⟨op_add.or (op_catS.or op_catTA)⟩
section
variable (hg : Gl X x) (he : starEach (e :: es) X.env = (false, eval e X.env) :: starEach es X.env) (hpl : (backTo pos (starEach es X.env)).any (·.1) = false)
include hg he hpl
theorem k_sumS (hK : X.K = K) (hx : x = "sum") (hc : X.calm = true) (hm : X.mg x = none) (ha : JA X (e :: es) t) : JE X (.Call (.Name x p) (e :: es) [] pos) (tCB (rSumS K) t) := hK ▸ ⟨by subst hx; exact pe_callB (call_sumS hc) hg hm boot_sum' ha.h (by decide) (by decide) he hpl⟩
end
def rRepS : R2 := fun x y H Q => ∃ l k xs, x = .ref l ∧ y = .int k ∧ H l = some (.lst xs) ∧ -(2 ^ 63) ≤ k ∧ k < 2 ^ 63 ∧ xs.length * k.toNat ≤ sizeLine ∧ ∀ p H2, H p = none → L2.Same H H2 → H2 p = some (.lst (List.replicate k.toNat xs).flatten) → Q (.ref p) H2
theorem op_repS : OpR X (binaryOp .Mult) rRepS := fun pins s σ H x y v u Q I rx ry h => by
  obtain ⟨l, k, xs, e1, e2, h1, h2, h3, h4, q⟩ := h
  exact op_rep pins s σ H x y v u Q I rx ry ⟨l, k, xs, e1, e2, h1, h2, h3, h4, fun p hp => q p _ hp (Br.Same.upd hp) upd_same⟩
theorem j_repL (ha : JE X (.List es p) ta) (hb : JE X b tb) : JE X (.BinOp (.List es p) .Mult b pos) (tOp rRepS ta tb) := ⟨r_bin op_repS ha.h hb.h⟩
theorem k_extend (hK : X.K = K) (hbase : attributeBase o "extend" X.env (eval o X.env) = eval o X.env) (hfew : ((backTo cpos (starEach [e] X.env)).all (fun x => !x.1) && (backToKw cpos (keywordEach [] X.env)).all (fun x => x.1.isSome)
      && decide (([e] : List Expr).length + ([] : List Keyword).length + (if ([] : List Keyword).isEmpty then 0 else 1) < 30)) = true) (hline : (apos.endLine == cpos.line) = true) (hs : starEach [e] X.env = (false, eval e X.env) :: starEach [] X.env)
    (hpl : (backTo cpos (starEach [] X.env)).any (·.1) = false) (ho : JE X o to) (ha : JA X [e] t) : JE X (.Call (.Attribute o "extend" apos) [e] [] cpos) (tBM K "list" rExtend to t) :=
  hK ▸ ⟨pe_bm PySem.F.plainAttrs_list PySem.F.slot_list_extend PySem.F.type_list_extend mt_extend ho.h ha.h hbase hfew hline hs hpl⟩
end
end Br
namespace Br
open PySem PySem.Spec PySem.Calls PyProof.Rows L2
structure RoomH (k : Nat) (A : Around) : Prop where
  dp : A.depth + 3 * k + 5 < recursionLimit
  un : A.units + 16 * k + 200 < cLine
theorem RoomH.depth {k : Nat} {A : Around} (r : RoomH k A) : A.depth < recursionLimit := by have := r.dp; omega
theorem RoomH.deeper {k : Nat} {A : Around} (r : RoomH (k + 1) A) (env : Env) : RoomH k (A.deeper env) :=
  ⟨by have := r.dp; show A.depth + 1 + 3 * k + 5 < _; omega, by have := r.un; show A.units + 3 + 16 * k + 200 < _; omega⟩
theorem RoomH.of {k j : Nat} {A : Around} (r : Room k A) (h : j ≤ k) : RoomH j A := ⟨by have := r.dp; omega, by have := r.un; omega⟩
theorem RoomH.mark {k j : Nat} {A : Around} {v : Option Value} (r : Room k A) (h : j ≤ k) : RoomH j (A.mark v) := ⟨by have := r.dp; show A.depth + 3 * j + 5 < _; omega, by have := r.un; show A.units + 16 * j + 200 < _; omega⟩
theorem RoomH.mono {j k : Nat} {A : Around} (r : RoomH k A) (h : j ≤ k) : RoomH j A := ⟨by have := r.dp; omega, by have := r.un; omega⟩
structure FnOkH (P : Program) (w : World) (K : PySem.W.Frag) (mg : Str → Option Value) (base : Heap) (CX : CXT) (k : Nat) (f : Addr) (fd : FuncData) (ps : List Str) (sp : Sp) : Prop where
  len : ∀ vs H Q E, sp vs H Q E → vs.length = ps.length
  run : ∀ (A : Around) (outer : List Env) (s : Shared) (H : Hp) (args : Args) (us : List Value) (vs : List V) (Q : VK) (E : XK), RoomH k A → Env0 P w K mg base A outer s H → BindsTo s fd args (ps.zip us) → Vals vs us → sp vs H Q E →
    codeAny (model P w) A (.call (.ref f) args) (CR CX outer P w H s Q E) s
theorem FnOkH.ok {P : Program} {w : World} {K : PySem.W.Frag} {mg : Str → Option Value} {base : Heap} {CX : CXT} {k : Nat} {f : Addr} {fd : FuncData} {ps : List Str} {sp : Sp} (F : FnOkH P w K mg base CX k f fd ps sp) : FnOk P w K mg base CX k f fd ps sp :=
  ⟨F.len, fun A outer s H args us vs Q E hr => F.run A outer s H args us vs Q E (.of hr (Nat.le_refl _))⟩
section
variable {P : Program} {w : World} {K : PySem.W.Frag} {mg : Str → Option Value} {base : Heap} {x qual : Str} {st : Stmt} {f : Addr} {fd : FuncData} {N ps : List Str} {k : Nat} {sp : Sp}
end
structure CalleeH (CX : CXT) (P : Program) (w : World) (K : PySem.W.Frag) (mg : Str → Option Value) (base : Heap) (x : Str) (k : Nat) (ps : List Str) (sp : Sp) : Prop where
  ex : ∃ f fd, FnOkH P w K mg base CX k f fd ps sp ∧ mg x = some (.ref f) ∧ PySem.W.keepIn K (.ref f) = true ∧ Binds K fd ps []
theorem CalleeH.ok {CX : CXT} {P : Program} {w : World} {K : PySem.W.Frag} {mg : Str → Option Value} {base : Heap} {x : Str} {k : Nat} {ps : List Str} {sp : Sp} (c : CalleeH CX P w K mg base x k ps sp) : Callee CX P w K mg base x k ps sp :=
  let ⟨f, fd, F, a, b, d⟩ := c.ex; ⟨f, fd, F.ok, a, b, d⟩
section
variable {X : Cx} {CX : CXT} {k : Nat} {ps : List Str} {sp : Sp} {E : XK} {x : Str} {p pos : Pos} {e : Expr} {es : List Expr} {t : TA}
end
end Br
namespace Br
open PySem PySem.Spec PySem.Calls PyProof.Rows L2
structure CalleeM (P : Program) (w : World) (K : PySem.W.Frag) (mg : Str → Option Value) (base : Heap) (C : Addr) (m : Str) (k : Nat) (ps : List Str) (sp : Sp) : Prop where
  ex : ∃ f fd, FnOk P w K mg base CX0 k f fd ps sp ∧ Meth K C m f ∧ Binds K fd ps [] ∧ Cls K C
structure CalleeC (P : Program) (w : World) (K : PySem.W.Frag) (mg : Str → Option Value) (base : Heap) (x : Str) (C : Addr) (k : Nat) (ps : List Str) (sp : Sp) : Prop where
  ex : ∃ f fd, FnOk P w K mg base CX0 k f fd ps sp ∧ Mk K C f ∧ mg x = some (.ref C) ∧ Binds K fd ps []
section
variable {X : Cx} {K : PySem.W.Frag} {C : Addr} {k : Nat} {ps : List Str} {sp : Sp} {x m f : Str} {p pos pos' apos : Pos} {e o value : Expr} {es : List Expr} {ta tv : TE} {t : TA} {pl : Sem Bool}
end
section
variable {X : Cx} {op : CmpOp}
end
end Br
namespace Br
open PySem PySem.Spec PySem.Calls PyProof.Rows L2
theorem fillT : fillsNumberSlot (.type "tuple") "mul" = pure false := PySem.fillsNumberSlot_seq (id := "tuple.__mul__") (r := some (.builtin "tuple.__rmul__")) PySem.F.slot_tuple_mul.lookup (by decide +kernel) PySem.F.slot_tuple_rmul.lookup (by decide +kernel)
theorem repT : seqRepeat? (.type "tuple") = pure (some (.builtin "tuple.__mul__")) := by
  unfold seqRepeat?
  rw [PySem.seqSlot_of (T := "tuple") (name := "__mul__") (id := "tuple.__mul__") PySem.F.slot_tuple_mul.lookup (by decide +kernel), PySem.seqSlot_of (T := "tuple") (name := "__rmul__") (id := "tuple.__rmul__") PySem.F.slot_tuple_rmul.lookup (by decide +kernel)]
  rfl
theorem rmulT (k : Int) (t : Tok) (a : Addr) (its : Array Value) (c : Nat) (dd : Option Addr) (sl : Array (Option Value)) :
    Meets (Builtin.«int.__rmul__» ⟨[.int k t, .ref a], []⟩) (fun _ R s => s.heap.get? a = some { cls := .type "tuple", dict := dd, data := .seq its c, slots := sl } ∧ R (.ok (.ret Value.notImplemented)) s) :=
  .of_wp fun pr ww Ar Rr st hy => by
    obtain ⟨h1, h2, h3, h4, h5⟩ := st
    obtain ⟨q1, q2⟩ := hy
    wp_walk
    exact ⟨_, rfl, q2⟩
theorem mulT1 (t : Tok) (a : Addr) (its : Array Value) (c : Nat) (dd : Option Addr) (sl : Array (Option Value)) :
    Meets (Builtin.«tuple.__mul__» ⟨[.ref a, .int 1 t], []⟩) (fun _ R s => s.heap.get? a = some { cls := .type "tuple", dict := dd, data := .seq its c, slots := sl } ∧ R (.ok (.ret (.ref a))) s) :=
  .of_wp fun pr ww Ar Rr st hy => by
    obtain ⟨h1, h2, h3, h4, h5⟩ := st
    obtain ⟨q1, q2⟩ := hy
    have f1 := AutoSeq1.idx_int
    wp_walk using wpAny_loadPart' q1
    exact ⟨_, rfl, q2⟩
theorem joinT (vs : List Value) (m : Nat) : List.foldl (fun x1 x2 => x1 ++ x2) #[] (List.replicate m vs.toArray) = (List.replicate m vs).flatten.toArray := by
  have := foldl_rep vs m []
  rw [List.nil_append] at this
  exact this
theorem mulTn (k : Int) (t : Tok) (a : Addr) (vs : List Value) (c : Nat) (dd : Option Addr) (sl : Array (Option Value)) (h1 : 2 ≤ k) (h2 : k < 2 ^ 63) (h0 : vs ≠ []) (hz : vs.length * k.toNat ≤ sizeLine) :
    Meets (Builtin.«tuple.__mul__» ⟨[.ref a, .int k t], []⟩) (fun _ R s => s.heap.get? a = some { cls := .type "tuple", dict := dd, data := .seq vs.toArray c, slots := sl } ∧ R (.ok (.ret (.ref s.heap.objs.size))) { s with heap := s.heap.push { cls := .type "tuple", data := .seq (List.replicate k.toNat vs).flatten.toArray } }) :=
  .of_wp fun pr ww Ar Rr st hy => by
    obtain ⟨g1, g2, g3, g4, g5⟩ := st
    obtain ⟨q1, q2⟩ := hy
    have f1 := AutoSeq1.idx_int
    have e0 : vs.toArray.isEmpty = false := by cases vs with
      | nil => exact absurd rfl h0
      | cons _ _ => rfl
    have hs : (sizeLine : Nat) = 16777216 := sizeLine_eq
    have hzi : (vs.toArray.size : Int) * k ≤ 16777216 := by
      rw [List.size_toArray]
      have : ((vs.length * k.toNat : Nat) : Int) ≤ 16777216 := by omega
      rw [Int.natCast_mul, Int.toNat_of_nonneg (by omega)] at this
      exact this
    have c1 : ¬ (k < -(2 ^ 63) || k ≥ 2 ^ 63) = true := by simp; omega
    have c2 : ¬ (vs.toArray.isEmpty || k == 1) = true := by rw [e0]; simp; omega
    have c3 : ¬ (decide (k ≤ 0) || vs.toArray.isEmpty) = true := by rw [e0]; simp; omega
    have c4 : ¬ (vs.toArray.size : Int) * k > (2 ^ 63 - 1) / 8 := by omega
    have c5 : ¬ Builtin.Tuple.tupleTooMany ((vs.toArray.size : Int) * k) = true := by unfold Builtin.Tuple.tupleTooMany; rw [hs]; simp only [decide_eq_true_eq]; omega
    have c6 : ¬ (List.replicate k.toNat vs).flatten.toArray.size > sizeLine := by rw [List.size_toArray, len_rep, Nat.mul_comm]; omega
    wp_walk using wpAny_loadPart' q1
    rw [if_neg c1]
    wp_walk using wpAny_loadPart' q1
    rw [if_neg c2]
    rw [if_neg c3]
    rw [if_neg c4]
    rw [if_neg c5]
    rw [joinT]
    wp_walk using wpAny_loadPart' q1
    rw [if_neg c6]
    wp_walk using wpAny_loadPart' q1
    exact ⟨_, rfl, q2⟩
section
variable {X : Cx}
def rRepT (K : PySem.W.Frag) : R2 := fun x y H Q => ∃ a k xs, x = .ref a ∧ y = .int k ∧ H a = some (.tup xs) ∧ xs ≠ [] ∧ 1 ≤ k ∧ k < 2 ^ 63 ∧ xs.length * k.toNat ≤ sizeLine ∧ ∀ p H2, L2.Same H H2 → H2 p = some (.tup (List.replicate k.toNat xs).flatten) → Q (.ref p) H2
theorem op_repT : OpR X (binaryOp .Mult) (rRepT X.K) := by
  intro pins s σ H x y v u Q I rx ry h
  obtain ⟨a, k, xs, rfl, rfl, hH, hne, h1, h2, hz, q⟩ := h
  cases rx
  obtain ⟨t, rfl⟩ := ry
  obtain ⟨its, r, pt, _⟩ := I.tuple (SqT.of (K := X.K) hH)
  have hl := r.length
  obtain ⟨⟨cls, dd, data, sl⟩, ho, hc, n, hd⟩ := id pt
  simp only at hc hd
  subst hc hd
  have hits : its ≠ [] := fun z => hne (r.nil_iff.mp z)
  refine wpAny_binaryOp_repeat_ref (T := "tuple") (U := "int") (by decide) ⟨_, ho, rfl⟩ (fun s' => typeIs_int s' k t) fillT F.fills_int_mul F.slot_int_rmul repT F.slot_int_index.lookup
    (call_meets F.slot_int_rmul (typeIs_int s k t) F.entry_int_rmul (F.args_int_rmul_2 _ _) (rmulT k t a its.toArray n dd sl) ⟨ho, rfl, ⟨_, ho, rfl⟩, ?_⟩)
  by_cases k1 : k = 1
  · subst k1
    refine call_meets PySem.F.slot_tuple_mul ⟨_, ho, rfl⟩ PySem.F.entry_tuple_mul (PySem.F.args_tuple_mul_2 _ _) (mulT1 t a its.toArray n dd sl) ⟨ho, ?_⟩
    refine ⟨.ref a, H, I, rfl, q a H (L2.Same.refl _) ?_⟩
    have : (List.replicate (1 : Int).toNat xs).flatten = xs := by simp
    rw [this]; exact hH
  · refine call_meets PySem.F.slot_tuple_mul ⟨_, ho, rfl⟩ PySem.F.entry_tuple_mul (PySem.F.args_tuple_mul_2 _ _) (mulTn k t a its n dd sl (by omega) h2 hits (by rw [← hl]; exact hz)) ⟨ho, ?_⟩
    have hn : H s.heap.objs.size = none := I.hok.fresh (Nat.le_refl _)
    refine ⟨.ref s.heap.objs.size, _, I.laid (t' := s.toks) (o := .tup (List.replicate k.toNat xs).flatten) (fun b ob e => Heap.get?_push_of_some _ e) (Nat.le_refl _) ?_, rfl, q _ _ (Br.Same.upd hn) upd_same⟩
    exact ⟨by rw [len_rep, Nat.mul_comm]; exact hz, _, r.rep k.toNat, IsTup.new _ _⟩
end
section
variable {X : Cx} {K : PySem.W.Frag} {es : List Expr} {b : Expr} {ta tb : TE} {pos p : Pos} {kk : Nat}
theorem k_repT (hK : X.K = K) (ha : JE X (.Tuple es kk p) ta) (hb : JE X b tb) : JE X (.BinOp (.Tuple es kk p) .Mult b pos) (tOp (rRepT K) ta tb) := hK ▸ ⟨r_bin op_repT ha.h hb.h⟩
end
end Br
namespace Br
open PySem PySem.Spec PySem.Calls PyProof.Rows L2
section
variable {prog : Program} {w : World} {A : Around} {E : Value → Shared → Prop} {s : Shared} {kz : Array Keyed}
end
section
variable {X : Cx}
end
section
variable {X : Cx} {K : PySem.W.Frag} {e : Expr} {es : List Expr} {t : TA} {pos p : Pos} {x : Str} (hg : Gl X x) (he : starEach (e :: es) X.env = (false, eval e X.env) :: starEach es X.env) (hpl : (backTo pos (starEach es X.env)).any (·.1) = false)
include hg he hpl
end
end Br
namespace Br
section
open PySem PyProof.Rows HT
section
open PySem.SeqAt
open PySem.AutoSeq1 (wpAny_loadPart')
open PySem.MeetsSeq PySem.MeetsSeq2 PySem.MeetsSeq3
end
section
variable {prog : Program} {w : World} {A : Around} {E : Value → Shared → Prop} {s : Shared}
end
end
open PySem PySem.Spec PySem.Calls PyProof.Rows L2
section
variable {prog : Program} {w : World} {A : Around} {E : Value → Shared → Prop} {R : Result → Shared → Prop} {I S : Addr} {fp wr : List Addr} {n : Nat} {T : Nat → Value → Prop} {St : Nat → Heap → Prop} {Ok : Heap → Prop} {bt : Nat → Nat → Bool}
structure Cg (prog : Program) (w : World) (A : Around) (T : Nat → Value → Prop) (bt : Nat → Nat → Bool) (Ok : Heap → Prop) (wr : List Addr) : Prop where
  stay : ∀ h h', Ok h → (∀ b o, b ∉ wr → h.get? b = some o → h'.get? b = some o) → Ok h'
  lt : ∀ i j vi vj (s : Shared) (Q : Value → Shared → Prop) (E : Value → Shared → Prop), Ok s.heap → T i vi → T j vj → Q (.bool (bt i j)) s → wpAny (model prog w) A (richCompare .Gt vi vj) Q E s
end
section
variable {prog : Program} {w : World} {A : Around} {E : Value → Shared → Prop} {R : Result → Shared → Prop} {I : Addr} {fp wr : List Addr} {n : Nat} {T : Nat → Value → Prop} {St : Nat → Heap → Prop} {Ok : Heap → Prop} {bt : Nat → Nat → Bool}
end
section
variable {X : Cx} {K : PySem.W.Frag} {e : Expr} {t : TA} {pos p : Pos} {x : Str} {k : Nat}
end
end Br
namespace Br
open PySem PySem.Spec PySem.Calls PyProof.Rows L2
section
variable {X : Cx} {pos px py pz pt : Pos} {x y z : Str} {i j k : Nat} {kt : Nat}
end
end Br
namespace Br
namespace ZL
open PySem PySem.Spec PySem.Calls PyProof.Rows L2
theorem entry_li : entryFor table "list_iterator.__next__" = some Builtin.«list_iterator.__next__» := by rfl
theorem args_li (a : Value) : argsOk "list_iterator.__next__" { pos := [a] } := by first | rfl | decide +kernel | exact ⟨rfl⟩ | (constructor <;> rfl)
theorem slot_li : Slot "list_iterator" (Str.ofString "__next__") "list_iterator.__next__" := Slot.of (by rw [typeLookup_type, builtinLookup_eq_fast]; rfl) (by rfl) (by rfl) (by rfl) (.inl (by rfl)) (by rw [isSubtype_type]; rfl)
section
variable {prog : Program} {w : World} {A : Around} {E : Value → Shared → Prop} {s : Shared}
theorem tstep {c d : Addr} {k : Nat} {zs : Array Value} {v : Value} {Q : Value → Shared → Prop} (hI : s.heap.IsListIter c d k) (hT : s.heap.IsList d zs) (hv : zs[k]? = some v)
    (go : ∀ g, g.IsListIter c d (k + 1) → Heap.SameBut c s.heap g → Q v { s with heap := g }) : wpAny (model prog w) A (Builtin.«list_iterator.__next__» ⟨[.ref c], []⟩) (fun fin s' => ∃ u, fin = .done (.ret u) ∧ Q u s') E s := by
  have hI' := hI
  obtain ⟨oc, q1, q2, q3⟩ := hI'
  have hT' := hT
  obtain ⟨od, p1, _, nd, p3⟩ := hT'
  have at_ : zs[((k : Nat) : Int).toNat]? = some v := by simpa using hv
  wp_walk using wpAny_field q1 q3 (x := .ref d) rfl, wpAny_field q1 q3 (x := .int k 0) rfl, wpAny_seqItems p1 p3
  rw [at_]
  refine wpAny_bind (tsetAt q1 q3 (by simp) fun g o' a1 a2 a3 sb => ?_)
  wp_walk
  exact ⟨_, rfl, go g ⟨o', a1, a2.trans q2, by rw [a3]; simp [rawInt]⟩ sb⟩
theorem tstop {c d : Addr} {k : Nat} {zs : Array Value} {Q : PySem.Fin → Shared → Prop} (hh : A.handled = none) (hI : s.heap.IsListIter c d k) (hT : s.heap.IsList d zs) (hv : zs[k]? = none)
    (go : ∀ g e, Heap.ExtBut c s.heap g → (∃ o, g.get? e = some o ∧ o.cls = .type "StopIteration") → E (.ref e) { s with heap := g }) : wpAny (model prog w) A (Builtin.«list_iterator.__next__» ⟨[.ref c], []⟩) Q E s := by
  have hI' := hI
  obtain ⟨oc, q1, q2, q3⟩ := hI'
  have hT' := hT
  obtain ⟨od, p1, _, nd, p3⟩ := hT'
  have at_ : zs[((k : Nat) : Int).toNat]? = none := by simpa using hv
  wp_walk using wpAny_field q1 q3 (x := .ref d) rfl, wpAny_field q1 q3 (x := .int k 0) rfl, wpAny_seqItems p1 p3
  rw [at_]
  refine wpAny_bind (wpAny_rule (wpAny_bind (tsetAt q1 q3 (by simp) fun g o' a1 a2 a3 sb => ?_)))
  wp_walk
  unfold raiseNew
  wp_walk using wpAny_handled
  rw [hh]
  wp_walk
  exact go _ _ ((sb.extBut.push _).push _) ⟨_, Heap.get?_push_size _ rfl, rfl⟩
theorem tnext {c d : Addr} {k : Nat} {zs : Array Value} {v : Value} {Q : Value → Shared → Prop} (hI : s.heap.IsListIter c d k) (hT : s.heap.IsList d zs) (hv : zs[k]? = some v)
    (go : ∀ g, g.IsListIter c d (k + 1) → Heap.SameBut c s.heap g → Q v { s with heap := g }) : wpAny (model prog w) A (Builtin.SmallTypes.nextOf (.ref c)) Q E s := by
  have sl := slot_li
  unfold Builtin.SmallTypes.nextOf
  refine wpAny_bind (wpAny_callSpecial?_slot (name := Str.ofString "__next__") hI.typeIs sl (wpAny_call_entry sl hI.typeIs entry_li ?_ (args_li _)))
  exact wpAny_mono (tstep (Q := fun u s' => u = v ∧ Q v s') hI hT hv fun g a b => ⟨rfl, go g a b⟩) (fun fin s' ⟨u, e, e2, q⟩ => ⟨u, e, wpAny_pure (e2 ▸ q)⟩) fun _ _ z => z
theorem tnone {c d : Addr} {k : Nat} {zs : Array Value} {Q : Value → Shared → Prop} (hh : A.handled = none) (hI : s.heap.IsListIter c d k) (hT : s.heap.IsList d zs) (hv : zs[k]? = none)
    (go : ∀ g e, Heap.ExtBut c s.heap g → (∃ o, g.get? e = some o ∧ o.cls = .type "StopIteration") → E (.ref e) { s with heap := g }) : wpAny (model prog w) A (Builtin.SmallTypes.nextOf (.ref c)) Q E s := by
  have sl := slot_li
  unfold Builtin.SmallTypes.nextOf
  refine wpAny_bind (wpAny_callSpecial?_slot (name := Str.ofString "__next__") hI.typeIs sl (wpAny_call_entry sl hI.typeIs entry_li ?_ (args_li _)))
  exact tstop hh hI hT hv go
structure Zp (h : Heap) (z u o c1 c2 d e : Addr) (xs ys : Array Value) (k : Nat) : Prop where
  zip : IsZip h z u o .none
  its : IsPair h u (.ref c1) (.ref c2)
  own : ∃ a b, IsPair h o a b
  i1 : h.IsListIter c1 d k
  i2 : h.IsListIter c2 e k
  t1 : h.IsList d xs
  t2 : h.IsList e ys
structure Ap (z u o c1 c2 d e : Addr) : Prop where
  ne : [z, u, o, c1, c2].Nodup
  nd : ∀ b ∈ [z, u, o, c1, c2], d ≠ b ∧ e ≠ b
theorem Ap.all {z u o c1 c2 d e : Addr} (P : Ap z u o c1 c2 d e) : z ≠ u ∧ z ≠ o ∧ z ≠ c1 ∧ z ≠ c2 ∧ u ≠ o ∧ u ≠ c1 ∧ u ≠ c2 ∧ o ≠ c1 ∧ o ≠ c2 ∧ c1 ≠ c2 := by
  have h := P.ne
  simp only [List.nodup_cons, List.mem_cons, List.mem_nil_iff, or_false, not_or] at h
  exact ⟨h.1.1, h.1.2.1, h.1.2.2.1, h.1.2.2.2, h.2.1.1, h.2.1.2.1, h.2.1.2.2, h.2.2.1.1, h.2.2.1.2, h.2.2.2.1⟩
theorem zitem {z u o c1 c2 d e : Addr} {xs ys : Array Value} {k : Nat} {x y : Value} {Q : Value → Shared → Prop} (P : Ap z u o c1 c2 d e) (Z : Zp s.heap z u o c1 c2 d e xs ys k) (hx : xs[k]? = some x) (hy : ys[k]? = some y)
    (go : ∀ g, IsZip g z u o (rawInt s.heap.objs.size) → IsPair g o x y → g.IsListIter c1 d (k + 1) → g.IsListIter c2 e (k + 1) → IsPair g s.heap.objs.size x y → g.objs.size = s.heap.objs.size + 1 →
      (∀ b ob, b ≠ z → b ≠ o → b ≠ c1 → b ≠ c2 → s.heap.get? b = some ob → g.get? b = some ob) → Q (.ref s.heap.objs.size) { s with heap := g }) :
    wpAny (model prog w) A (Builtin.«zip.__next__» ⟨[.ref z], []⟩) (fun fin s' => ∃ v, fin = .done (.ret v) ∧ Q v s') E s := by
  obtain ⟨n1, n2, n3, n4, n5, n6, n7, n8, n9, n10⟩ := P.all
  obtain ⟨dz, ez⟩ := P.nd z (by simp)
  obtain ⟨do', eo⟩ := P.nd o (by simp)
  obtain ⟨dc1, ec1⟩ := P.nd c1 (by simp)
  exact zdraw P.ne Z.zip Z.its Z.own
    (fun g q _ _ r => ZL.tnext (s := { s with heap := g }) (Z.i1.at fun ob a => q.extBut _ ob (Ne.symm n3) a) (let ⟨ob, a, b⟩ := Z.t1; ⟨ob, q.extBut _ _ dz a, b⟩) hx r)
    (fun g q _ _ r => ZL.tnext (s := { s with heap := g }) (Z.i2.at fun ob a => q _ ob (Ne.symm n4) (Ne.symm n10) (Ne.symm n9) a) (let ⟨ob, a, b⟩ := Z.t2; ⟨ob, q _ _ ez ec1 eo a, b⟩) hy r)
    (fun _ _ j q => j.at q) (fun _ _ j q => j.at q) go
theorem znone {z u o c1 c2 d e : Addr} {xs ys : Array Value} {k : Nat} {Q : PySem.Fin → Shared → Prop} (hh : A.handled = none) (P : Ap z u o c1 c2 d e) (Z : Zp s.heap z u o c1 c2 d e xs ys k) (hv : xs[k]? = none ∨ ys[k]? = none)
    (go : ∀ g x, (∀ b ob, b ≠ z → b ≠ o → b ≠ c1 → b ≠ c2 → s.heap.get? b = some ob → g.get? b = some ob) → (∃ ob, g.get? x = some ob ∧ ob.cls = .type "StopIteration") → E (.ref x) { s with heap := g }) :
    wpAny (model prog w) A (Builtin.«zip.__next__» ⟨[.ref z], []⟩) Q E s := by
  obtain ⟨n1, n2, n3, n4, n5, n6, n7, n8, n9, n10⟩ := P.all
  obtain ⟨dz, ez⟩ := P.nd z (by simp)
  obtain ⟨do', eo⟩ := P.nd o (by simp)
  obtain ⟨dc1, ec1⟩ := P.nd c1 (by simp)
  cases hx : xs[k]? with
  | none =>
    exact zdrawNo P.ne Z.zip Z.its Z.own (.inl fun g q _ _ r => ZL.tnone (s := { s with heap := g }) hh (Z.i1.at fun ob a => q.extBut _ ob (Ne.symm n3) a) (let ⟨ob, a, b⟩ := Z.t1; ⟨ob, q.extBut _ _ dz a, b⟩) hx r) go
  | some x1 =>
    have hy : ys[k]? = none := hv.resolve_left (by rw [hx]; simp)
    exact zdrawNo P.ne Z.zip Z.its Z.own (.inr ⟨x1, fun g q _ _ r => ZL.tnext (s := { s with heap := g }) (Z.i1.at fun ob a => q.extBut _ ob (Ne.symm n3) a) (let ⟨ob, a, b⟩ := Z.t1; ⟨ob, q.extBut _ _ dz a, b⟩) hx fun g' _ e => r g' e,
      fun g q _ _ r => ZL.tnone (s := { s with heap := g }) hh (Z.i2.at fun ob a => q _ ob (Ne.symm n4) (Ne.symm n10) (Ne.symm n9) a) (let ⟨ob, a, b⟩ := Z.t2; ⟨ob, q _ _ ez ec1 eo a, b⟩) hy r⟩) go
end
section
variable {prog : Program} {w : World} {A : Around} {E : Value → Shared → Prop} {s : Shared}
theorem znext {z u o c1 c2 d e : Addr} {xs ys : Array Value} {k : Nat} {x y : Value} {Q : Option Value → Shared → Prop} (P : Ap z u o c1 c2 d e) (Z : Zp s.heap z u o c1 c2 d e xs ys k) (hx : xs[k]? = some x) (hy : ys[k]? = some y)
    (go : ∀ g, IsZip g z u o (rawInt s.heap.objs.size) → IsPair g o x y → g.IsListIter c1 d (k + 1) → g.IsListIter c2 e (k + 1) → IsPair g s.heap.objs.size x y → g.objs.size = s.heap.objs.size + 1 →
      (∀ b ob, b ≠ z → b ≠ o → b ≠ c1 → b ≠ c2 → s.heap.get? b = some ob → g.get? b = some ob) → Q (some (.ref s.heap.objs.size)) { s with heap := g }) : wpAny (model prog w) A (pyNext (.ref z)) Q E s := by
  have hT : s.TypeIs (.ref z) "zip" := ⟨_, Z.zip, rfl⟩
  unfold pyNext
  exact wpAny_bind (wpAny_attempt (wpAny_callSpecial?_slot (name := Str.ofString "__next__") hT F.slot_zip_next (wpAny_call_entry F.slot_zip_next hT F.entry_zip_next (zitem P Z hx hy fun g a1 a2 a3 a4 a5 a6 a7 => wpAny_pure (go g a1 a2 a3 a4 a5 a6 a7)) (F.args_zip_next_1 _))))
theorem zstop {z u o c1 c2 d e : Addr} {xs ys : Array Value} {k : Nat} {Q : Option Value → Shared → Prop} (hh : A.handled = none) (P : Ap z u o c1 c2 d e) (Z : Zp s.heap z u o c1 c2 d e xs ys k) (hv : xs[k]? = none ∨ ys[k]? = none)
    (go : ∀ g, (∀ b ob, b ≠ z → b ≠ o → b ≠ c1 → b ≠ c2 → s.heap.get? b = some ob → g.get? b = some ob) → Q none { s with heap := g }) : wpAny (model prog w) A (pyNext (.ref z)) Q E s := by
  have hT : s.TypeIs (.ref z) "zip" := ⟨_, Z.zip, rfl⟩
  unfold pyNext
  refine wpAny_bind (wpAny_attempt (wpAny_callSpecial?_slot (name := Str.ofString "__next__") hT F.slot_zip_next (wpAny_call_entry F.slot_zip_next hT F.entry_zip_next (znone hh P Z hv fun g x hk he => ?_) (F.args_zip_next_1 _))))
  obtain ⟨ob, hob, hcb⟩ := he
  exact wpAny_bind (wpAny_isInstance (T := "StopIteration") (b := true) ⟨ob, hob, hcb⟩ isSubtype_stop (wpAny_pure (go _ hk)))
abbrev zh1 (h : Heap) (d : Addr) : Heap := h.push { cls := .type "list_iterator", data := .fields #[.ref d, .int 0 0] }
abbrev zh2 (h : Heap) (d e : Addr) : Heap := (zh1 h d).push { cls := .type "list_iterator", data := .fields #[.ref e, .int 0 0] }
abbrev zh3 (h : Heap) (d e : Addr) : Heap := (zh2 h d e).push { cls := .type "tuple", data := .seq #[.ref h.objs.size, .ref (zh1 h d).objs.size] }
abbrev zh4 (h : Heap) (d e : Addr) : Heap := (zh3 h d e).push { cls := .type "tuple", data := .seq #[.none, .none] }
abbrev zh5 (h : Heap) (d e : Addr) : Heap := (zh4 h d e).push { cls := .type "zip", data := .fields #[.none, .bool false, .bool false, .ref (zh2 h d e).objs.size, .ref (zh3 h d e).objs.size] }
theorem zmeets (d e : Addr) (xs ys : Array Value) : Meets (Builtin.«zip.__new__» ⟨[.type "zip", .ref d, .ref e], []⟩) (fun _ R s => s.heap.IsList d xs ∧ s.heap.IsList e ys ∧ R (.ok (.ret (.ref (zh4 s.heap d e).objs.size))) { s with heap := zh5 s.heap d e }) :=
  .of_wp fun prog w A R s h => by
    obtain ⟨hp, g, dr, tk, os⟩ := s
    obtain ⟨h1, h2, h⟩ := h
    have hsub := sub_zip
    have q1 : Heap.IsList (Shared.heap ⟨hp, g, dr, tk, os⟩) d xs := h1
    have q2 : Heap.IsList (Shared.heap ⟨hp.push { cls := .type "list_iterator", data := .fields #[.ref d, .int 0 0] }, g, dr, tk, os⟩) e ys := Heap.IsList.push h2 _
    wp_walk using wpAny_pyIter_list q1, wpAny_pyIter_list q2
    exact ⟨_, rfl, h⟩
theorem zmake {d e : Addr} {xs ys : Array Value} {Q : Value → Shared → Prop} (h1 : s.heap.IsList d xs) (h2 : s.heap.IsList e ys)
    (go : ∀ g, Zp g (s.heap.objs.size + 4) (s.heap.objs.size + 2) (s.heap.objs.size + 3) s.heap.objs.size (s.heap.objs.size + 1) d e xs ys 0 → (∀ b ob, s.heap.get? b = some ob → g.get? b = some ob) → Q (.ref (s.heap.objs.size + 4)) { s with heap := g }) :
    wpAny (model prog w) A (call (.type "zip") [.ref d, .ref e]) Q E s := by
  refine callType_new F.called_zip (by decide) (F.typeCall_zip_2 _ _) (F.newCall_zip_2 _ _) (fun obj => F.args_object_init_3 obj _ _) F.entry_zip_new (zmeets d e xs ys) ⟨h1, h2, ?_⟩
  have s1 : (zh1 s.heap d).objs.size = s.heap.objs.size + 1 := Heap.size_push ..
  have s2 : (zh2 s.heap d e).objs.size = s.heap.objs.size + 2 := by rw [Heap.size_push, s1]
  have s3 : (zh3 s.heap d e).objs.size = s.heap.objs.size + 3 := by rw [Heap.size_push, s2]
  have s4 : (zh4 s.heap d e).objs.size = s.heap.objs.size + 4 := by rw [Heap.size_push, s3]
  have g5 : (zh5 s.heap d e).get? (zh4 s.heap d e).objs.size = some _ := Heap.get?_push_size _ rfl
  have g4 : (zh5 s.heap d e).get? (zh3 s.heap d e).objs.size = some _ := Heap.get?_push_of_some _ (Heap.get?_push_size _ rfl)
  have g3 : (zh5 s.heap d e).get? (zh2 s.heap d e).objs.size = some _ := Heap.get?_push_of_some _ (Heap.get?_push_of_some _ (Heap.get?_push_size _ rfl))
  have g2 : (zh5 s.heap d e).get? (zh1 s.heap d).objs.size = some _ := Heap.get?_push_of_some _ (Heap.get?_push_of_some _ (Heap.get?_push_of_some _ (Heap.get?_push_size _ rfl)))
  have g1 : (zh5 s.heap d e).get? s.heap.objs.size = some _ := Heap.get?_push_of_some _ (Heap.get?_push_of_some _ (Heap.get?_push_of_some _ (Heap.get?_push_of_some _ (Heap.get?_push_size _ rfl))))
  have old : ∀ b ob, s.heap.get? b = some ob → (zh5 s.heap d e).get? b = some ob := fun b ob q => Heap.get?_push_of_some _ (Heap.get?_push_of_some _ (Heap.get?_push_of_some _ (Heap.get?_push_of_some _ (Heap.get?_push_of_some _ q))))
  rw [s4] at g5
  rw [s3] at g4
  rw [s2] at g3
  rw [s1] at g2
  rw [s1] at g3
  rw [s2, s3] at g5
  have gz := go (zh5 s.heap d e) ⟨g5, g3, ⟨_, _, g4⟩, ⟨_, g1, rfl, rfl⟩, ⟨_, g2, rfl, rfl⟩, let ⟨ob, q, r⟩ := h1; ⟨ob, old _ _ q, r⟩, let ⟨ob, q, r⟩ := h2; ⟨ob, old _ _ q, r⟩⟩ old
  rw [s4]
  exact ⟨⟨_, g5, rfl⟩, gz⟩
end
def Itz (K : PySem.W.Frag) (a b : Addr) : It :=
  ⟨fun i H => ∃ xs ys x y, SqL K H a xs ∧ SqL K H b ys ∧ xs[i]? = some x ∧ ys[i]? = some y,
   fun i H v H' => ∃ (x y : V) (T : Addr), v = .ref T ∧ H T = none ∧ H' = upd H T (.tup [x, y]) ∧ ∀ xs ys, SqL K H a xs → SqL K H b ys → xs[i]? = some x ∧ ys[i]? = some y,
   fun i H => ∃ xs ys, SqL K H a xs ∧ SqL K H b ys ∧ (xs.length ≤ i ∨ ys.length ≤ i)⟩
theorem sqL_apart {X : Cx} {pins : List (Addr × Obj)} {σ : L2.St} {H : Hp} {s : Shared} {d b : Addr} {xs : List V} (I : Inv X pins σ H s) (h : SqL X.K H d xs) (f : FpOk X pins H b) : d ≠ b := fun z => by
  subst z
  rcases h with h | ⟨o, its, n, hk, _⟩
  · rcases h with h | ⟨o, h⟩
    · rw [f.1] at h; cases h
    · rw [f.1] at h; cases h
  · have e := I.ok.mod.kin d o hk
    rcases f.2.2.2.1 with z | z
    · exact I.ok.noex d o e z
    · exact absurd (Nat.lt_of_lt_of_le (Heap.lt_size e) (Nat.le_trans I.ok.bsz z)) (Nat.lt_irrefl _)
theorem turn_zip {P : Program} {w : World} {K : PySem.W.Frag} {es : List Expr} {kt : Nat} {pt : Pos} {z u o c1 c2 a b : Addr} (ne : [z, u, o, c1, c2].Nodup) :
    Turn P w K (.Tuple es kt pt) (Itz K a b) [z, u, o, c1, c2] z (fun i h => IsZip h z u o .none ∧ IsPair h u (.ref c1) (.ref c2) ∧ (∃ x y, IsPair h o x y) ∧ h.IsListIter c1 a i ∧ h.IsListIter c2 b i) where
  mem := by simp
  obj := fun i h st c hc => by
    obtain ⟨h1, h2, ⟨x, y, h3⟩, ⟨o4, h4, _, d4⟩, ⟨o5, h5, _, d5⟩⟩ := st
    simp only [List.mem_cons, List.mem_nil_iff, or_false] at hc
    rcases hc with rfl | rfl | rfl | rfl | rfl
    · exact ⟨_, h1, fun v q => by cases q⟩
    · exact ⟨_, h2, fun v q => by cases q⟩
    · exact ⟨_, h3, fun v q => by cases q⟩
    · exact ⟨_, h4, fun v q => by rw [d4] at q; cases q⟩
    · exact ⟨_, h5, fun v q => by rw [d5] at q; cases q⟩
  keep := fun i h h' st k => by
    obtain ⟨h1, h2, ⟨x, y, h3⟩, h4, h5⟩ := st
    exact ⟨k _ (by simp) _ h1, k _ (by simp) _ h2, ⟨x, y, k _ (by simp) _ h3⟩, h4.at fun ob q => k _ (by simp) ob q, h5.at fun ob q => k _ (by simp) ob q⟩
  item := by
    intro X hP hw hK hc i pins s σ H E I hf st hg
    subst hP hw hK
    obtain ⟨h1, h2, h3, h4, h5⟩ := st
    obtain ⟨xs, ys, x, y, q1, q2, hx, hy⟩ := hg
    obtain ⟨t1, r1, p1, l1⟩ := I.list q1
    have p1 := p1.isList
    obtain ⟨t2, r2, p2, l2⟩ := I.list q2
    have p2 := p2.isList
    obtain ⟨x', hx', rx⟩ := r1.get hx
    obtain ⟨y', hy', ry⟩ := r2.get hy
    have ap : Ap z u o c1 c2 a b := ⟨ne, fun c hc => ⟨sqL_apart I q1 (hf c hc), sqL_apart I q2 (hf c hc)⟩⟩
    obtain ⟨n1, n2, n3, n4, n5, n6, n7, n8, n9, n10⟩ := ap.all
    refine znext ap ⟨h1, h2, h3, h4, h5, p1, p2⟩ (x := x') (y := y') (by simpa using hx') (by simpa using hy') fun g z1 o1 i1 i2 T1 sz kp => ?_
    refine ⟨_, rfl, wpAny_letOwnedTupleGo_zip z1 fun g' z2 k2 => ?_⟩
    have hfr : H s.heap.objs.size = none := I.hok.fresh (Nat.le_refl _)
    have lt : ∀ c ∈ [z, u, o, c1, c2], c < s.heap.objs.size := fun c hc => by
      simp only [List.mem_cons, List.mem_nil_iff, or_false] at hc
      rcases hc with rfl | rfl | rfl | rfl | rfl
      · exact Heap.lt_size h1
      · exact Heap.lt_size h2
      · obtain ⟨_, _, h3⟩ := h3; exact Heap.lt_size h3
      · obtain ⟨_, h4, _⟩ := h4; exact Heap.lt_size h4
      · obtain ⟨_, h5, _⟩ := h5; exact Heap.lt_size h5
    have all : ∀ c ob, c ∉ [z, u, o, c1, c2] → s.heap.get? c = some ob → g'.get? c = some ob := fun c ob hc q => by
      simp only [List.mem_cons, List.mem_nil_iff, or_false, not_or] at hc
      exact k2.extBut _ _ hc.1 (kp c ob hc.1 hc.2.2.1 hc.2.2.2.1 hc.2.2.2.2 q)
    have zl : z < s.heap.objs.size := lt z (by simp)
    have u' : IsPair g' u (.ref c1) (.ref c2) := k2.extBut _ _ (Ne.symm n1) (kp _ _ (Ne.symm n1) n5 n6 n7 h2)
    have o' : IsPair g' o x' y' := k2.extBut _ _ (Ne.symm n2) o1
    have i1' := i1.extBut k2.extBut (Ne.symm n3)
    have i2' := i2.extBut k2.extBut (Ne.symm n4)
    have T' : IsPair g' s.heap.objs.size x' y' := k2.extBut _ _ (Nat.ne_of_gt zl) T1
    have trk : ∀ c v, H c = some v → c ∉ [z, u, o, c1, c2] := fun c v q hc => by rw [(hf c hc).1] at q; cases q
    have I1 : Inv X pins σ (upd H s.heap.objs.size (.tup [x, y])) { s with heap := g' } := by
      refine I.step (g' := s.gens) (d' := s.drawn) (t' := s.toks) (ch := [z, u, o, c1, c2]) (fun c hc => ?_) (fun c ob _ _ hc q _ => all c ob hc q) (fun c ob _ _ hc q _ => ⟨ob.slots, all c ob hc q⟩) (fun c ob hc q n => ?_) (fun c ob hc q => ⟨ob, all c ob hc q⟩)
        (fun c v q => ?_) (fun c v v' q => ?_) (fun c v q => ⟨#[], ?_⟩) (fun m hm => ?_) (fun c v q => ?_) I.bare
      · obtain ⟨f0, f1, f2, f3, f4, f5⟩ := hf c hc
        exact ⟨f3, f1, f4, f5⟩
      · rw [upd_ne (Nat.ne_of_lt (Heap.lt_size q))]; exact n
      · rw [upd_ne (ne_of_none q hfr)]; exact q
      · rw [upd_ne (ne_of_none q hfr)]; exact q
      · rw [upd_ne (ne_of_none q hfr), q]; simp
      · obtain ⟨ob, es, ep, ho, r⟩ := hm
        exact ⟨ob, es, ep, all _ ob (fun hc => (hf _ hc).2.1 rfl) ho, r⟩
      · by_cases hcT : c = s.heap.objs.size
        · subst hcT
          rw [upd_same] at q; cases q
          exact ⟨by show 2 ≤ sizeLine; decide, [x', y'], .cons rx (.cons ry .nil), ⟨_, T', rfl, _, rfl⟩⟩
        · rw [upd_ne hcT] at q
          refine (I.hok c v q).stay (fun c' ob hc' q' => all c' ob ?_ q') (fun c' q' => by rw [upd_ne (ne_of_none q' hfr)]; exact q') fun c' vs q' => by rw [upd_ne (ne_of_none q' hfr)]; exact q'
          rcases hc' with e | e
          · rw [e]; exact trk c v q
          · exact trk c' _ e
    refine ⟨.ref s.heap.objs.size, _, I1, rfl, ⟨x, y, _, rfl, hfr, rfl, fun xs' ys' e1 e2 => ?_⟩, ⟨z2, u', ⟨_, _, o'⟩, i1', i2'⟩, fun c hc => ?_⟩
    · rw [I.list_inj e1 q1, I.list_inj e2 q2]; exact ⟨hx, hy⟩
    · rw [upd_ne (Nat.ne_of_lt (lt c hc))]; exact (hf c hc).1
  done := by
    intro X hP hw hK hc i pins s σ H E I hf st hg
    subst hP hw hK
    obtain ⟨h1, h2, h3, h4, h5⟩ := st
    obtain ⟨xs, ys, q1, q2, hend⟩ := hg
    obtain ⟨t1, r1, p1, l1⟩ := I.list q1
    have p1 := p1.isList
    obtain ⟨t2, r2, p2, l2⟩ := I.list q2
    have p2 := p2.isList
    have ap : Ap z u o c1 c2 a b := ⟨ne, fun c hc => ⟨sqL_apart I q1 (hf c hc), sqL_apart I q2 (hf c hc)⟩⟩
    have e1 := r1.length
    have e2 := r2.length
    refine zstop (I.ok.hd hc) ap ⟨h1, h2, h3, h4, h5, p1, p2⟩ (by
      rcases hend with q | q
      · exact .inl (by simp; omega)
      · exact .inr (by simp; omega)) fun g kp => ⟨rfl, ?_⟩
    have all : ∀ c ob, c ∉ [z, u, o, c1, c2] → s.heap.get? c = some ob → g.get? c = some ob := fun c ob hc q => by
      simp only [List.mem_cons, List.mem_nil_iff, or_false, not_or] at hc
      exact kp c ob hc.1 hc.2.2.1 hc.2.2.2.1 hc.2.2.2.2 q
    have trk : ∀ c v, H c = some v → c ∉ [z, u, o, c1, c2] := fun c v q hc => by rw [(hf c hc).1] at q; cases q
    refine I.step (g' := s.gens) (d' := s.drawn) (t' := s.toks) (ch := [z, u, o, c1, c2]) (fun c hc => ?_) (fun c ob _ _ hc q _ => all c ob hc q) (fun c ob _ _ hc q _ => ⟨ob.slots, all c ob hc q⟩) (fun c ob hc q n => n) (fun c ob hc q => ⟨ob, all c ob hc q⟩)
      (fun c v q => q) (fun c v v' q => q) (fun c v q => ⟨#[], by rw [q]; simp⟩) (fun m hm => ?_) (fun c v q => ?_) I.bare
    · obtain ⟨f0, f1, f2, f3, f4, f5⟩ := hf c hc
      exact ⟨f3, f1, f4, f5⟩
    · obtain ⟨ob, es, ep, ho, r⟩ := hm
      exact ⟨ob, es, ep, all _ ob (fun hc => (hf _ hc).2.1 rfl) ho, r⟩
    · refine (I.hok c v q).stay (fun c' ob hc' q' => all c' ob ?_ q') (fun c' q' => q') fun c' vs q' => q'
      rcases hc' with e | e
      · rw [e]; exact trk c v q
      · exact trk c' _ e
  self := fun _ _ _ _ _ st h => wpAny_pyIter_zip st.1 h
theorem boot_zip : bootBuiltins "zip" = some (.type "zip") := by decide +kernel
def iZip (K : PySem.W.Frag) (ta : TA) : TI := fun σ H R => ta σ H fun vs H1 => ∃ a b xs ys, vs = [.ref a, .ref b] ∧ SqL K H1 a xs ∧ SqL K H1 b ys ∧ R (Itz K a b) H1
theorem pi_zip {X : Cx} {es : List Expr} {kt : Nat} {pt : Pos} {a b : Expr} {ta : TA} {p pos : Pos} (hg : Gl X "zip") (hm : X.mg "zip" = none) (ha : PA X [a, b] ta) (hs : starEach [a, b] X.env = [(false, eval a X.env), (false, eval b X.env)]) (hs2 : starEach [b] X.env = [(false, eval b X.env)]) :
    PI X (.Tuple es kt pt) (.Call (.Name "zip" p) [a, b] [] pos) (iZip X.K ta) := by
  intro pins s σ H R I h
  refine Call_ (ld_blt I hg hm boot_zip (PyProof.Rows.callWith_type1 (thn (ha pos pins s σ H _ I h) fun us s1 ⟨vs, H1, I1, r1, q1⟩ => ?_) (by rw [hs, hs2]) (by rw [hs2]; rfl)))
  obtain ⟨a, b, xs, ys, e, q1, q2, q⟩ := q1
  subst e
  cases r1 with
  | cons r rr =>
    cases rr with
    | cons r' rr =>
      cases rr
      cases r
      cases r'
      obtain ⟨t1, rv1, p1, l1⟩ := I1.list q1
      have p1 := p1.isList
      obtain ⟨t2, rv2, p2, l2⟩ := I1.list q2
      have p2 := p2.isList
      refine zmake p1 p2 fun g Z old => ?_
      have I2 : Inv X pins σ H1 { s1 with heap := g } := I1.kept (t' := s1.toks) old
      refine wpAny_pyIter_zip Z.zip ?_
      refine ⟨s1.heap.objs.size + 4, [s1.heap.objs.size + 4, s1.heap.objs.size + 2, s1.heap.objs.size + 3, s1.heap.objs.size, s1.heap.objs.size + 1], _, _, H1, rfl, I2, turn_zip ?_, ⟨Z.zip, Z.its, Z.own, Z.i1, Z.i2⟩, fun c hc => ?_, q⟩
      · simp only [List.nodup_cons, List.mem_cons, List.mem_nil_iff, or_false, not_or, List.nodup_nil, and_true, not_false_eq_true]
        refine ⟨⟨?_, ?_, ?_, ?_⟩, ⟨?_, ?_, ?_⟩, ⟨?_, ?_⟩, ?_⟩ <;> (intro z; have z : (_ : Nat) = _ := z; omega)
      · have hb : s1.heap.objs.size ≤ c := by
          simp only [List.mem_cons, List.mem_nil_iff, or_false] at hc
          rcases hc with rfl | rfl | rfl | rfl | rfl
          · exact Nat.le_add_right _ _
          · exact Nat.le_add_right _ _
          · exact Nat.le_add_right _ _
          · exact Nat.le_refl _
          · exact Nat.le_add_right _ _
        exact I1.fpOk hb (I1.hok.fresh hb)
theorem k_zip {X : Cx} {K : PySem.W.Frag} (hK : X.K = K) {x : Str} {es : List Expr} {kt : Nat} {pt : Pos} {a b : Expr} {ta : TA} {p pos : Pos} (hx : x = "zip") (hg : Gl X x) (hm : X.mg x = none) (hs : starEach [a, b] X.env = [(false, eval a X.env), (false, eval b X.env)]) (hs2 : starEach [b] X.env = [(false, eval b X.env)]) (ha : JA X [a, b] ta) :
    JI X (.Tuple es kt pt) (.Call (.Name x p) [a, b] [] pos) (iZip K ta) := hK ▸ ⟨by subst hx; exact pi_zip hg hm ha.h hs hs2⟩
end ZL
end Br
namespace Br
open PySem PySem.Spec PySem.Calls PyProof.Rows L2
section
variable {prog : Program} {w : World} {A : Around} {E : Value → Shared → Prop} {s : Shared}
theorem drawsT (hh : A.handled = none) (c d : Addr) (hdc : d ≠ c) (xs : Array Value) :
    Draws prog w A c [c, d] xs.size (fun i x => xs[i]? = some x) (fun i h => h.IsTupleIter c d i ∧ h.IsTuple d xs) where
  live := fun i h st => let ⟨o, e, _⟩ := st.1; ⟨o, e⟩
  frame := fun i h h' st k => ⟨st.1.at fun ob q => k _ (by simp) ob q, let ⟨ob, q, r⟩ := st.2; ⟨ob, k _ (by simp) ob q, r⟩⟩
  item := fun i s Q E hi st go => by
    have hx : xs[i]? = some xs[i] := by simp [hi]
    exact tnext st.1 st.2 hx fun g j k => go _ g s.toks hx ⟨j, st.2.extBut k.extBut hdc⟩ k
  done := fun s Q E st go => tnone hh st.1 st.2 (by simp) fun g e k he => go g e k he
theorem enone {e c d : Addr} {xs : Array Value} {k : Nat} {old : Value} {Q : PySem.Fin → Shared → Prop} (hh : A.handled = none) (h1 : IsEnum s.heap e c k old) (h2 : s.heap.IsTupleIter c d k) (h3 : s.heap.IsTuple d xs) (hv : xs[k]? = none)
    (go : ∀ g x, Heap.ExtBut c s.heap g → (∃ ob, g.get? x = some ob ∧ ob.cls = .type "StopIteration") → E (.ref x) { s with heap := g }) :
    wpAny (model prog w) A (Builtin.«enumerate.__next__» ⟨[.ref e], []⟩) Q E s := by
  show wpAny _ _ (field (.ref e) 2 >>= _) _ _ _
  refine wpAny_bind (wpAny_field h1 rfl (x := .ref c) rfl ?_)
  exact wpAny_bind (tnone hh h2 h3 hv go)
theorem enext {e c d : Addr} {xs : Array Value} {k : Nat} {x old : Value} {Q : Option Value → Shared → Prop} (hh : A.handled = none) (n1 : e ≠ c) (n2 : d ≠ e) (n3 : d ≠ c) (h1 : IsEnum s.heap e c k old) (h2 : s.heap.IsTupleIter c d k) (h3 : s.heap.IsTuple d xs) (hx : xs[k]? = some x)
    (go : ∀ g tk, IsEnumOut g e c (k + 1) x s.heap.objs.size → g.IsTupleIter c d (k + 1) → IsPair g s.heap.objs.size (.int k tk) x → g.objs.size = s.heap.objs.size + 1 →
      (∀ b ob, b ≠ e → b ≠ c → s.heap.get? b = some ob → g.get? b = some ob) → Q (some (.ref s.heap.objs.size)) { s with heap := g, toks := tk + 1 }) : wpAny (model prog w) A (pyNext (.ref e)) Q E s := by
  have hT : s.TypeIs (.ref e) "enumerate" := ⟨_, h1, rfl⟩
  have hk : k < xs.size := by
    rcases Nat.lt_or_ge k xs.size with h | h
    · exact h
    · rw [Array.getElem?_eq_none h] at hx; cases hx
  unfold pyNext
  refine wpAny_bind (wpAny_attempt (wpAny_callSpecial?_slot (name := Str.ofString "__next__") hT F.slot_enumerate_next (wpAny_call_entry F.slot_enumerate_next hT F.entry_enumerate_next ?_ (F.args_enumerate_next_1 _))))
  refine enumerate_next_itemD (drawsT (A := A.in1) (show A.in1.handled = none from hh) c d n3 xs) h1 ⟨h2, h3⟩ hk n1 (by simp [n1, Ne.symm n2]) fun x' g tk px a1 a2 a3 a4 a5 => wpAny_pure ?_
  have : x' = x := by rw [px] at hx; exact Option.some.inj hx
  subst this
  exact go g tk a1 a2.1 a3 a4 a5
theorem estop {e c d : Addr} {xs : Array Value} {k : Nat} {old : Value} {Q : Option Value → Shared → Prop} (hh : A.handled = none) (h1 : IsEnum s.heap e c k old) (h2 : s.heap.IsTupleIter c d k) (h3 : s.heap.IsTuple d xs) (hv : xs[k]? = none)
    (go : ∀ g, Heap.ExtBut c s.heap g → Q none { s with heap := g }) : wpAny (model prog w) A (pyNext (.ref e)) Q E s := by
  have hT : s.TypeIs (.ref e) "enumerate" := ⟨_, h1, rfl⟩
  unfold pyNext
  refine wpAny_bind (wpAny_attempt (wpAny_callSpecial?_slot (name := Str.ofString "__next__") hT F.slot_enumerate_next (wpAny_call_entry F.slot_enumerate_next hT F.entry_enumerate_next (enone hh h1 h2 h3 hv fun g x hk he => ?_) (F.args_enumerate_next_1 _))))
  obtain ⟨ob, hob, hcb⟩ := he
  exact wpAny_bind (wpAny_isInstance (T := "StopIteration") (b := true) ⟨ob, hob, hcb⟩ isSubtype_stop (wpAny_pure (go _ hk)))
theorem wpAny_pureB {M : Model} {b : Bool} {Q : Bool → Shared → Prop} (h : ∀ b, Q b s) : wpAny M A (pure b) Q E s := wpAny_pure (h b)
theorem emeets (d : Addr) (xs : Array Value) : Meets (Builtin.«enumerate.__new__» ⟨[.type "enumerate", .ref d], []⟩) (fun _ R s => s.heap.IsTuple d xs ∧
    R (.ok (.ret (.ref (zh1 s.heap d).objs.size))) { s with heap := (zh1 s.heap d).push { cls := .type "enumerate", data := .fields #[.none, .bool false, .ref s.heap.objs.size, rawInt 0, .none, .none] } }) :=
  .of_wp fun prog w A R s h => by
    obtain ⟨hp, g, dr, tk, os⟩ := s
    obtain ⟨h1, h⟩ := h
    have hsub := sub_enumerate
    have q1 : Heap.IsTuple (Shared.heap ⟨hp, g, dr, tk, os⟩) d xs := h1
    wp_walk using wpAny_pyIter_tuple q1
    refine wpAny_stack_any fun st => wpAny_pureB fun bb => ?_
    cases bb
    · wp_walk using wpAny_pyIter_tuple q1
      exact ⟨_, rfl, h⟩
    · wp_walk using wpAny_pyIter_tuple q1
      exact ⟨_, rfl, h⟩
theorem emake {d : Addr} {xs : Array Value} {Q : Value → Shared → Prop} (h1 : s.heap.IsTuple d xs)
    (go : ∀ g, IsEnum g (s.heap.objs.size + 1) s.heap.objs.size 0 .none → g.IsTupleIter s.heap.objs.size d 0 → (∀ b ob, s.heap.get? b = some ob → g.get? b = some ob) → Q (.ref (s.heap.objs.size + 1)) { s with heap := g }) :
    wpAny (model prog w) A (call (.type "enumerate") [.ref d]) Q E s := by
  refine callType_new F.called_enumerate (by decide) (F.typeCall_enumerate_1 _) (F.newCall_enumerate_1 _) (fun obj => F.args_object_init_2 obj _) F.entry_enumerate_new (emeets d xs) ⟨h1, ?_⟩
  have s1 : (zh1 s.heap d).objs.size = s.heap.objs.size + 1 := Heap.size_push ..
  have g2 : ((zh1 s.heap d).push { cls := .type "enumerate", data := .fields #[.none, .bool false, .ref s.heap.objs.size, rawInt 0, .none, .none] }).get? (zh1 s.heap d).objs.size = some _ := Heap.get?_push_size _ rfl
  have g1 : ((zh1 s.heap d).push { cls := .type "enumerate", data := .fields #[.none, .bool false, .ref s.heap.objs.size, rawInt 0, .none, .none] }).get? s.heap.objs.size = some _ := Heap.get?_push_of_some _ (Heap.get?_push_size _ rfl)
  have old : ∀ b ob, s.heap.get? b = some ob → ((zh1 s.heap d).push { cls := .type "enumerate", data := .fields #[.none, .bool false, .ref s.heap.objs.size, rawInt 0, .none, .none] }).get? b = some ob := fun b ob q => Heap.get?_push_of_some _ (Heap.get?_push_of_some _ q)
  rw [s1] at g2
  have gz := go _ g2 ⟨_, g1, rfl, rfl⟩ old
  rw [s1]
  exact ⟨⟨_, g2, rfl⟩, gz⟩
end
def Ite (K : PySem.W.Frag) (a : Addr) : It :=
  ⟨fun i H => ∃ xs x, SqT K H a xs ∧ xs[i]? = some x,
   fun i H v H' => ∃ (x : V) (T : Addr), v = .ref T ∧ H T = none ∧ H' = upd H T (.tup [.int i, x]) ∧ ∀ xs, SqT K H a xs → xs[i]? = some x,
   fun i H => ∃ xs, SqT K H a xs ∧ xs.length ≤ i⟩
theorem turn_enum {P : Program} {w : World} {K : PySem.W.Frag} {es : List Expr} {kt : Nat} {pt : Pos} {e c a : Addr} (ne : e ≠ c) :
    Turn P w K (.Tuple es kt pt) (Ite K a) [e, c] e (fun i h => (∃ old, IsEnum h e c i old) ∧ h.IsTupleIter c a i) where
  mem := by simp
  obj := fun i h st b hb => by
    obtain ⟨⟨old, h1⟩, ⟨o4, h4, _, d4⟩⟩ := st
    simp only [List.mem_cons, List.mem_nil_iff, or_false] at hb
    rcases hb with rfl | rfl
    · exact ⟨_, h1, fun v q => by cases q⟩
    · exact ⟨_, h4, fun v q => by rw [d4] at q; cases q⟩
  keep := fun i h h' st k => by
    obtain ⟨⟨old, h1⟩, h4⟩ := st
    exact ⟨⟨old, k _ (by simp) _ h1⟩, h4.at fun ob q => k _ (by simp) ob q⟩
  item := by
    intro X hP hw hK hc i pins s σ H E I hf st hg
    subst hP hw hK
    obtain ⟨⟨old, h1⟩, h4⟩ := st
    obtain ⟨xs, x, q1, hx⟩ := hg
    obtain ⟨t1, r1, p1, l1⟩ := I.tuple q1
    obtain ⟨x', hx', rx⟩ := r1.get hx
    have ae : a ≠ e := sqT_apart I q1 (hf e (by simp))
    have ac : a ≠ c := sqT_apart I q1 (hf c (by simp))
    refine enext (I.ok.hd hc) ne ae ac h1 h4 p1 (x := x') (by simpa using hx') fun g tk z1 i1 T1 sz kp => ?_
    refine ⟨_, rfl, wpAny_letOwnedTupleGo_enum z1 fun g' z2 k2 => ?_⟩
    have hfr : H s.heap.objs.size = none := I.hok.fresh (Nat.le_refl _)
    have lt : ∀ b ∈ [e, c], b < s.heap.objs.size := fun b hb => by
      simp only [List.mem_cons, List.mem_nil_iff, or_false] at hb
      rcases hb with rfl | rfl
      · exact Heap.lt_size h1
      · obtain ⟨_, h4, _⟩ := h4; exact Heap.lt_size h4
    have all : ∀ b ob, b ∉ [e, c] → s.heap.get? b = some ob → g'.get? b = some ob := fun b ob hb q => by
      simp only [List.mem_cons, List.mem_nil_iff, or_false, not_or] at hb
      exact k2.extBut _ _ hb.1 (kp b ob hb.1 hb.2 q)
    have zl : e < s.heap.objs.size := lt e (by simp)
    have i1' := i1.extBut k2.extBut (Ne.symm ne)
    have T' : IsPair g' s.heap.objs.size (.int i tk) x' := k2.extBut _ _ (Nat.ne_of_gt zl) T1
    have trk : ∀ b v, H b = some v → b ∉ [e, c] := fun b v q hb => by rw [(hf b hb).1] at q; cases q
    have I1 : Inv X pins σ (upd H s.heap.objs.size (.tup [.int i, x])) { s with heap := g', toks := tk + 1 } := by
      refine I.step (g' := s.gens) (d' := s.drawn) (t' := tk + 1) (ch := [e, c]) (fun b hb => ?_) (fun b ob _ _ hb q _ => all b ob hb q) (fun b ob _ _ hb q _ => ⟨ob.slots, all b ob hb q⟩) (fun b ob hb q n => ?_) (fun b ob hb q => ⟨ob, all b ob hb q⟩)
        (fun b v q => ?_) (fun b v v' q => ?_) (fun b v q => ⟨#[], ?_⟩) (fun m hm => ?_) (fun b v q => ?_) I.bare
      · obtain ⟨f0, f1, f2, f3, f4, f5⟩ := hf b hb
        exact ⟨f3, f1, f4, f5⟩
      · rw [upd_ne (Nat.ne_of_lt (Heap.lt_size q))]; exact n
      · rw [upd_ne (ne_of_none q hfr)]; exact q
      · rw [upd_ne (ne_of_none q hfr)]; exact q
      · rw [upd_ne (ne_of_none q hfr), q]; simp
      · obtain ⟨ob, es, ep, ho, r⟩ := hm
        exact ⟨ob, es, ep, all _ ob (fun hb => (hf _ hb).2.1 rfl) ho, r⟩
      · by_cases hcT : b = s.heap.objs.size
        · subst hcT
          rw [upd_same] at q; cases q
          exact ⟨by show 2 ≤ sizeLine; decide, [.int i tk, x'], .cons ⟨tk, rfl⟩ (.cons rx .nil), ⟨_, T', rfl, _, rfl⟩⟩
        · rw [upd_ne hcT] at q
          refine (I.hok b v q).stay (fun c' ob hc' q' => all c' ob ?_ q') (fun c' q' => by rw [upd_ne (ne_of_none q' hfr)]; exact q') fun c' vs q' => by rw [upd_ne (ne_of_none q' hfr)]; exact q'
          rcases hc' with z | z
          · rw [z]; exact trk b v q
          · exact trk c' _ z
    refine ⟨.ref s.heap.objs.size, _, I1, rfl, ⟨x, _, rfl, hfr, rfl, fun xs' e1 => ?_⟩, ⟨⟨_, z2⟩, i1'⟩, fun b hb => ?_⟩
    · rw [I.tuple_inj e1 q1]; exact hx
    · rw [upd_ne (Nat.ne_of_lt (lt b hb))]; exact (hf b hb).1
  done := by
    intro X hP hw hK hc i pins s σ H E I hf st hg
    subst hP hw hK
    obtain ⟨⟨old, h1⟩, h4⟩ := st
    obtain ⟨xs, q1, hend⟩ := hg
    obtain ⟨t1, r1, p1, l1⟩ := I.tuple q1
    have e1 := r1.length
    refine estop (I.ok.hd hc) h1 h4 p1 (by simp; omega) fun g kp => ⟨rfl, ?_⟩
    have all : ∀ b ob, b ∉ [e, c] → s.heap.get? b = some ob → g.get? b = some ob := fun b ob hb q => by
      simp only [List.mem_cons, List.mem_nil_iff, or_false, not_or] at hb
      exact kp b ob hb.2 q
    have trk : ∀ b v, H b = some v → b ∉ [e, c] := fun b v q hb => by rw [(hf b hb).1] at q; cases q
    refine I.step (g' := s.gens) (d' := s.drawn) (t' := s.toks) (ch := [e, c]) (fun b hb => ?_) (fun b ob _ _ hb q _ => all b ob hb q) (fun b ob _ _ hb q _ => ⟨ob.slots, all b ob hb q⟩) (fun b ob hb q n => n) (fun b ob hb q => ⟨ob, all b ob hb q⟩)
      (fun b v q => q) (fun b v v' q => q) (fun b v q => ⟨#[], by rw [q]; simp⟩) (fun m hm => ?_) (fun b v q => ?_) I.bare
    · obtain ⟨f0, f1, f2, f3, f4, f5⟩ := hf b hb
      exact ⟨f3, f1, f4, f5⟩
    · obtain ⟨ob, es, ep, ho, r⟩ := hm
      exact ⟨ob, es, ep, all _ ob (fun hb => (hf _ hb).2.1 rfl) ho, r⟩
    · refine (I.hok b v q).stay (fun c' ob hc' q' => all c' ob ?_ q') (fun c' q' => q') fun c' vs q' => q'
      rcases hc' with z | z
      · rw [z]; exact trk b v q
      · exact trk c' _ z
  self := fun _ _ _ _ _ st h => by obtain ⟨⟨old, h1⟩, _⟩ := st; exact wpAny_pyIter_enum h1 h
theorem boot_enum : bootBuiltins "enumerate" = some (.type "enumerate") := by decide +kernel
def iEnum (K : PySem.W.Frag) (ta : TA) : TI := fun σ H R => ta σ H fun vs H1 => ∃ a xs, vs = [.ref a] ∧ SqT K H1 a xs ∧ R (Ite K a) H1
theorem pi_enum {X : Cx} {es : List Expr} {kt : Nat} {pt : Pos} {a : Expr} {ta : TA} {p pos : Pos} (hg : Gl X "enumerate") (hm : X.mg "enumerate" = none) (ha : PA X [a] ta) (hs : starEach [a] X.env = [(false, eval a X.env)]) :
    PI X (.Tuple es kt pt) (.Call (.Name "enumerate" p) [a] [] pos) (iEnum X.K ta) := by
  intro pins s σ H R I h
  refine Call_ (ld_blt I hg hm boot_enum (PyProof.Rows.callWith_type1 (thn (ha pos pins s σ H _ I h) fun us s1 ⟨vs, H1, I1, r1, q1⟩ => ?_) (by rw [hs]; rfl) rfl))
  obtain ⟨a, xs, e, q1, q⟩ := q1
  subst e
  cases r1 with
  | cons r rr =>
    cases rr
    cases r
    obtain ⟨t1, rv1, p1, l1⟩ := I1.tuple q1
    refine emake p1 fun g h1 h2 old => ?_
    have I2 : Inv X pins σ H1 { s1 with heap := g } := I1.kept (t' := s1.toks) old
    refine wpAny_pyIter_enum h1 ?_
    refine ⟨s1.heap.objs.size + 1, [s1.heap.objs.size + 1, s1.heap.objs.size], _, _, H1, rfl, I2, turn_enum ?_, ⟨⟨_, h1⟩, h2⟩, fun c hc => ?_, q⟩
    · intro z; have z : (_ : Nat) = _ := z; omega
    · have hb : s1.heap.objs.size ≤ c := by
        simp only [List.mem_cons, List.mem_nil_iff, or_false] at hc
        rcases hc with rfl | rfl
        · exact Nat.le_add_right _ _
        · exact Nat.le_refl _
      exact I1.fpOk hb (I1.hok.fresh hb)
theorem k_enum {X : Cx} {K : PySem.W.Frag} (hK : X.K = K) {x : Str} {es : List Expr} {kt : Nat} {pt : Pos} {a : Expr} {ta : TA} {p pos : Pos} (hx : x = "enumerate") (hg : Gl X x) (hm : X.mg x = none) (hs : starEach [a] X.env = [(false, eval a X.env)]) (ha : JA X [a] ta) :
    JI X (.Tuple es kt pt) (.Call (.Name x p) [a] [] pos) (iEnum K ta) := hK ▸ ⟨by subst hx; exact pi_enum hg hm ha.h hs⟩
section
variable {K : PySem.W.Frag} {a : Addr} {xs : List V} {g : TG} {tt : TT} {te : TE} {σ0 : L2.St} {H0 : Hp} {Z : List V → Hp → Prop}
theorem cmp_enum {n : Nat} (hx : xs.length = n) (hn : n ≤ 1000) (Pv : Nat → List V → L2.St → Hp → Prop) (h0 : Pv 0 [] σ0 H0) (hl : ∀ i ys σ H, i ≤ n → Pv i ys σ H → SqT K H a xs ∧ ys.length ≤ i)
    (hs : ∀ i x ys σ H (T : Addr) (N : List V → L2.St → Hp → Prop), xs[i]? = some x → Pv i ys σ H → H T = none → (∀ ys' σ' H', Pv (i + 1) ys' σ' H' → N ys' σ' H') →
      g (.ref T) σ (upd H T (.tup [.int i, x])) fun σ3 H3 => tt σ3 H3 fun b H4 => if b = true then te σ3 H4 fun y H5 => N (ys ++ [y]) σ3 H5 else N ys σ3 H4)
    (hd : ∀ ys σ H, Pv n ys σ H → Z ys H) : Cmp (Ite K a) g tt te σ0 H0 Z := by
  have hsz : (sizeLine : Nat) = 16777216 := sizeLine_eq
  refine ⟨fun i m ys σ H => m = n - i ∧ i ≤ n ∧ Pv i ys σ H, ⟨n, by simp, Nat.zero_le _, h0⟩, ?_⟩
  rintro i m ys σ H ⟨rfl, hi, p⟩
  obtain ⟨q1, hy⟩ := hl i ys σ H hi p
  refine ⟨by omega, ?_⟩
  by_cases hlt : i < n
  · have e1 : xs[i]? = some xs[i] := List.getElem?_eq_getElem (by omega)
    refine .inr ⟨⟨xs, _, q1, e1⟩, fun v H' yl => ?_⟩
    obtain ⟨x, T, rfl, hT, rfl, hxz⟩ := yl
    have e3 := hxz xs q1
    exact hs i x ys σ _ T (fun ys' σ' H' => ∃ m', m' < n - i ∧ m' = n - (i + 1) ∧ i + 1 ≤ n ∧ Pv (i + 1) ys' σ' H') e3 p hT fun ys' σ' H' p' => ⟨n - (i + 1), by omega, rfl, hlt, p'⟩
  · have e : i = n := by omega
    subst e
    exact .inl ⟨⟨xs, q1, by omega⟩, hd ys σ H p⟩
end
end Br
namespace Br
open PySem PySem.Spec PySem.Calls PyProof.Rows L2
section
variable {X : Cx} {b value : Expr} {td ty tv : TE} {pos p pos' : Pos} {k : Nat}
end
end Br
namespace Br
open PySem PySem.Spec PySem.Calls PyProof.Rows L2
end Br
namespace Br
open PySem PySem.Spec PySem.Calls PyProof.Rows L2
theorem entry_dul : entryFor table "dict.update.loop" = some Builtin.«dict.update.loop» := by rfl
section
variable {prog : Program} {w : World} {A : Around} {E : Value → Shared → Prop} {R : Result → Shared → Prop}
structure Prs (h : Heap) (t : Addr) (ps : List (Addr × Value × Key × Value)) : Prop where
  tup : h.IsTuple t (ps.map fun p => Value.ref p.1).toArray
  each : ∀ p ∈ ps, h.IsTuple p.1 #[p.2.1, p.2.2.2]
theorem Prs.stay {h h' : Heap} {t : Addr} {ps : List (Addr × Value × Key × Value)} (P : Prs h t ps) {d c : Addr} (ntd : t ≠ d) (ntc : t ≠ c) (hpn : ∀ p ∈ ps, p.1 ≠ d ∧ p.1 ≠ c) (k : ∀ b o, b ≠ d → b ≠ c → h.get? b = some o → h'.get? b = some o) : Prs h' t ps :=
  ⟨let ⟨o, a, b⟩ := P.tup; ⟨o, k _ _ ntd ntc a, b⟩, fun p hp => let ⟨o, a, b⟩ := P.each p hp; ⟨o, k _ _ (hpn p hp).1 (hpn p hp).2 a, b⟩⟩
end
section
variable {X : Cx} {pins : List (Addr × Obj)} {σ : L2.St} {H : Hp} {s : Shared}
end
section
variable {X : Cx} {e : Expr} {es : List Expr} {t : TA} {pos p : Pos} {x : Str}
end
end Br
namespace Br
open PySem PySem.Spec PySem.Calls PyProof.Rows L2
structure M0 (X : Cx) (o : Expr) (m : Str) (apos : Pos) (cpos : Pos) : Prop where
  base : attributeBase o m X.env (eval o X.env) = eval o X.env
  few : ((backTo cpos (starEach [] X.env)).all (fun x => !x.1) && (backToKw cpos (keywordEach [] X.env)).all (fun x => x.1.isSome)
    && decide (([] : List Expr).length + ([] : List Keyword).length + (if ([] : List Keyword).isEmpty then 0 else 1) < 30)) = true
  line : (apos.endLine == cpos.line) = true
  trees : backTo cpos (starEach [] X.env) = []
section
variable {a : Addr} {ob : Obj} {kvs : List (Key × V)} {g : TG} {tt : TT} {te : TE} {σ0 : L2.St} {H0 : Hp} {Z : List V → Hp → Prop}
end
end Br
namespace Br
open PySem PySem.Spec PySem.Calls PyProof.Rows L2
section
variable {prog : Program} {w : World} {A : Around} {E : Value → Shared → Prop} {R : Result → Shared → Prop}
end
section
variable {X : Cx} {K : PySem.W.Frag} {e f : Expr} {t : TA} {pos p : Pos} {x : Str} {k : Nat}
end
def rCatTB : R2 := fun x y H Q => ∃ a b xs ys, x = .ref a ∧ y = .ref b ∧ H a = some (.tup xs) ∧ H b = some (.tup ys) ∧ xs.length + ys.length ≤ sizeLine ∧ ∀ p H2, L2.Same H H2 → H2 p = some (.tup (xs ++ ys)) → Q (.ref p) H2
section
variable {X : Cx} {K : PySem.W.Frag}
theorem op_catTB : OpR X (binaryOp .Add) rCatTB := fun pins s σ H x y v u Q I rx ry h => by
  obtain ⟨a, b, xs, ys, e1, e2, t1, t2, hz, q⟩ := h
  have h1 : SqT X.K H a xs := SqT.of t1
  have h2 : SqT X.K H b ys := SqT.of t2
  by_cases hx : xs = []
  · subst e1; subst e2; subst hx
    cases rx; cases ry
    obtain ⟨its, r1, p1, _⟩ := I.tuple h1
    obtain ⟨its2, r2, p2, _⟩ := I.tuple h2
    have hv : its = [] := r1.nil_iff.mpr rfl
    obtain ⟨⟨cls, dd, data, sl⟩, ho, hc, n, hd⟩ := id p1
    obtain ⟨⟨cls2, dd2, data2, sl2⟩, ho2, hc2, n2, hd2⟩ := id p2
    simp only at hc hd hc2 hd2
    subst hc hd hc2 hd2
    exact concat_meets ⟨_, ho, rfl⟩ ⟨_, ho2, rfl⟩ noFill_tuple_add seq_tuple_add PySem.F.slot_tuple_add PySem.F.entry_tuple_add (PySem.F.args_tuple_add_2 _ _)
      (tuple_addW0 a b its.toArray its2.toArray n n2 dd dd2 sl sl2 (by simp [hv])) ⟨ho, ho2, ⟨.ref b, H, I, rfl, q b H (L2.Same.refl _) t2⟩⟩
  · refine op_catT pins s σ H x y v u Q I rx ry ⟨a, b, xs, ys, e1, e2, h1, h2, hx, hz, fun e => ?_, fun _ p hp => q p _ (Br.Same.upd hp) upd_same⟩
    exact q a H (L2.Same.refl _) (by rw [t1, e, List.append_nil])
theorem o_addB : JOp X .Add (fun x y H Q => rI0 (fun i j => .int (i + j)) x y H Q ∨ rCatTB x y H Q) := ⟨op_add.or op_catTB⟩
variable {b value : Expr} {td ty tv : TE} {pos p pos' : Pos} {k : Nat}
end
end Br
namespace Br
open PySem PySem.Spec PySem.Calls PyProof.Rows L2
section
variable {a : Addr} {ob : Obj} {kvs : List (Key × V)} {g : TG} {tt : TT} {te : TE} {σ0 : L2.St} {H0 : Hp} {Z : List V → Hp → Prop}
end
end Br
namespace Br
open PySem PySem.Spec PySem.Calls PyProof.Rows L2
theorem s_dead {X : Cx} {st : Stmt} : JS X st (fun _ _ _ => False) := ⟨fun pins s σ H D I h => h.elim⟩
def ipM : TIp := fun x y H Q => ∃ i j, x = .int i ∧ y = .int j ∧ IntMulOk i j ∧ Q (.int (i * j)) H
theorem ip_mul {X : Cx} : PIp X .Mult ipM := by
  intro pins s σ H x y v u Q I r1 r2 h
  obtain ⟨i, j, e1, e2, hm, q⟩ := h
  subst e1; subst e2
  obtain ⟨t, rfl⟩ := r1
  obtain ⟨t', rfl⟩ := r2
  exact imul_int ⟨.int _, H, I.tok _, ⟨_, rfl⟩, q⟩ hm
theorem s_augM {X : Cx} {i : Nat} {x : Str} {e : Expr} {te : TE} {pos pos' : Pos} (hi : At X.N i x) (hN : X.N.Nodup) (hx : Loc X.env.scope x) (hf : X.fn x = true) (he : JE X e te) : JS X (.AugAssign (.Name x pos') .Mult e pos) (tAug i te ipM) :=
  ⟨ps_aug hN hi.get hx he.h ip_mul (.inl hf)⟩
end Br
namespace Br
open PySem PySem.Spec PySem.Calls PyProof.Rows L2
section
variable {prog : Program} {w : World} {A : Around} {R : Result → Shared → Prop} {s : Shared}
theorem compTurn_two0 (elt t1 i1 t2 i2 : Expr) (f1 f2 : List Expr) (scope : Scope) (pos : Pos) (it acc : Value) (env : Env) :
    compTurn (.ListComp elt [⟨t1, i1, f1, 0⟩, ⟨t2, i2, f2, 0⟩] scope pos) 0 it acc env = (do
      standAt i1.pos
      match ← pyNext it with
      | none => pure (.done .next)
      | some v =>
        letOwnedTupleGo t1 it v
        assign t1 env v
        let mut ok := true
        for c in f1 do
          if ok then ok ← isTrue c env (eval c env)
        if ok then
          let x ← eval i2 env
          standAt i2.pos
          let x ← foldedSetIterable i2 env x
          let _ ← runOwn (.compStart (.ListComp elt [⟨t1, i1, f1, 0⟩, ⟨t2, i2, f2, 0⟩] scope pos) 1 (← holding [x] (pyIter x)) acc env) env
        again (.compLoop (.ListComp elt [⟨t1, i1, f1, 0⟩, ⟨t2, i2, f2, 0⟩] scope pos) 0 it acc env)) := by rfl
theorem compTurn_two1 (elt t1 i1 t2 i2 : Expr) (f1 f2 : List Expr) (scope : Scope) (pos : Pos) (it acc : Value) (env : Env) :
    compTurn (.ListComp elt [⟨t1, i1, f1, 0⟩, ⟨t2, i2, f2, 0⟩] scope pos) 1 it acc env = (do
      standAt i2.pos
      match ← pyNext it with
      | none => pure (.done .next)
      | some v =>
        letOwnedTupleGo t2 it v
        assign t2 env v
        let mut ok := true
        for c in f2 do
          if ok then ok ← isTrue c env (eval c env)
        if ok then
          (do let _ ← call (.builtin "list.append") [acc, ← eval elt env])
        again (.compLoop (.ListComp elt [⟨t1, i1, f1, 0⟩, ⟨t2, i2, f2, 0⟩] scope pos) 1 it acc env)) := by rfl
theorem compLoop_in {elt t1 i1 t2 i2 : Expr} {f1 f2 : List Expr} {scope : Scope} {pos : Pos} {it acc : Value} {env : Env} (I : Nat → Shared → Prop)
    (turn : ∀ n s, I n s → wpAny (model prog w) A (pyNext it) (fun r s₁ => match r with
      | none => R (.ok .next) s₁
      | some v => wpAny (model prog w) A (letOwnedTupleGo t2 it v) (fun _ s₁ => wpAny (model prog w) A (assign t2 env v) (fun _ s₂ =>
          wpAny (model prog w) A (testsOf f2 env) (fun ok s₃ =>
            if ok = true then wpAny (model prog w) A (eval elt env) (fun x s₄ =>
              wpAny (model prog w) A (call (.builtin "list.append") [acc, x]) (fun _ s₅ => ∃ m, m < n ∧ I m s₅) (fun _ _ => False) s₄) (fun _ _ => False) s₃
            else ∃ m, m < n ∧ I m s₃) (fun _ _ => False) s₂) (fun _ _ => False) s₁) (fun _ _ => False) s₁) (fun _ _ => False) s)
    (n : Nat) (h : I n s) :
    codeAny (model prog w) A (.compLoop (.ListComp elt [⟨t1, i1, f1, 0⟩, ⟨t2, i2, f2, 0⟩] scope pos) 1 it acc env) R s := by
  refine codeAny_loop rfl I (fun n s hI => ?_) n h
  show wpAny _ A ((compTurn (.ListComp elt [⟨t1, i1, f1, 0⟩, ⟨t2, i2, f2, 0⟩] scope pos) 1 it acc env).onRaise (fun x => do noteFrame x env; theTreesLotGoes x)) _ _ s
  refine wpAny_noted (wpAny_mono (E := fun _ _ => False) ?_ (fun _ _ q => q) fun _ _ f => f.elim)
  rw [compTurn_two1]
  refine wpAny_bind (wpAny_standAt (wpAny_bind (thn (turn n s hI) fun r s₁ h₁ => ?_)))
  cases r with
  | none => exact wpAny_pure h₁
  | some v =>
    refine wpAny_bind (thn h₁ fun _ s₁ h₁ => wpAny_bind (thn h₁ fun _ s₂ h₂ => wpAny_bind (thn h₂ fun ok s₃ h₃ => ?_)))
    cases ok with
    | false => exact wpAny_pure ⟨rfl, h₃⟩
    | true => exact wpAny_bind (wpAny_bind (thn h₃ fun x s₄ h₄ => wpAny_bind (thn h₄ fun _ s₅ h₅ => wpAny_pure (wpAny_pure ⟨rfl, h₅⟩))))
theorem compLoop_out {elt t1 i1 t2 i2 : Expr} {f1 f2 : List Expr} {scope : Scope} {pos : Pos} {it acc : Value} {env : Env} (I : Nat → Shared → Prop) (hs : ∀ x, foldedSetIterable i2 env x = pure x)
    (turn : ∀ n s, I n s → wpAny (model prog w) A (pyNext it) (fun r s₁ => match r with
      | none => R (.ok .next) s₁
      | some v => wpAny (model prog w) A (letOwnedTupleGo t1 it v) (fun _ s₁ => wpAny (model prog w) A (assign t1 env v) (fun _ s₂ =>
          wpAny (model prog w) A (testsOf f1 env) (fun ok s₃ =>
            if ok = true then wpAny (model prog w) A (eval i2 env) (fun x s₄ =>
              wpAny (model prog w) A (pyIter x) (fun itv s₅ => codeAny (model prog w) A (.compStart (.ListComp elt [⟨t1, i1, f1, 0⟩, ⟨t2, i2, f2, 0⟩] scope pos) 1 itv acc env) (fun r s₆ => match r with
                | .ok _ => ∃ m, m < n ∧ I m s₆
                | .error _ => False) s₅) (fun _ _ => False) s₄) (fun _ _ => False) s₃
            else ∃ m, m < n ∧ I m s₃) (fun _ _ => False) s₂) (fun _ _ => False) s₁) (fun _ _ => False) s₁) (fun _ _ => False) s)
    (n : Nat) (h : I n s) :
    codeAny (model prog w) A (.compLoop (.ListComp elt [⟨t1, i1, f1, 0⟩, ⟨t2, i2, f2, 0⟩] scope pos) 0 it acc env) R s := by
  refine codeAny_loop rfl I (fun n s hI => ?_) n h
  show wpAny _ A ((compTurn (.ListComp elt [⟨t1, i1, f1, 0⟩, ⟨t2, i2, f2, 0⟩] scope pos) 0 it acc env).onRaise (fun x => do noteFrame x env; theTreesLotGoes x)) _ _ s
  refine wpAny_noted (wpAny_mono (E := fun _ _ => False) ?_ (fun _ _ q => q) fun _ _ f => f.elim)
  rw [compTurn_two0]
  refine wpAny_bind (wpAny_standAt (wpAny_bind (thn (turn n s hI) fun r s₁ h₁ => ?_)))
  cases r with
  | none => exact wpAny_pure h₁
  | some v =>
    refine wpAny_bind (thn h₁ fun _ s₁ h₁ => wpAny_bind (thn h₁ fun _ s₂ h₂ => wpAny_bind (thn h₂ fun ok s₃ h₃ => ?_)))
    cases ok with
    | false => exact wpAny_pure ⟨rfl, h₃⟩
    | true =>
      refine wpAny_bind (thn h₃ fun x s₄ h₄ => wpAny_bind (wpAny_standAt (wpAny_bind ?_)))
      rw [hs]
      refine wpAny_pure (wpAny_bind (wpAny_holding (thn h₄ fun itv s₅ h₅ => wpAny_bind (wpAny_runOwn (codeAny_mono h₅ fun r s₆ h₆ => ?_)))))
      cases r with
      | ok f => exact wpAny_pure ⟨rfl, h₆⟩
      | error e => exact h₆.elim
theorem compStart_in {elt t1 i1 t2 i2 : Expr} {f1 f2 : List Expr} {scope : Scope} {pos : Pos} {it acc : Value} {env : Env}
    (h0 : codeAny (model prog w) A (.compLoop (.ListComp elt [⟨t1, i1, f1, 0⟩, ⟨t2, i2, f2, 0⟩] scope pos) 1 it acc env) R s)
    (h : wpAny (model prog w) A (pyIter it) (fun it' s' => codeAny (model prog w) A (.compLoop (.ListComp elt [⟨t1, i1, f1, 0⟩, ⟨t2, i2, f2, 0⟩] scope pos) 1 it' acc env) R s')
      (notedBy (model prog w) A env fun x s' => R (.error x) s') s) :
    codeAny (model prog w) A (.compStart (.ListComp elt [⟨t1, i1, f1, 0⟩, ⟨t2, i2, f2, 0⟩] scope pos) 1 it acc env) R s := by
  refine codeAny_of_tree ?_
  show wpAny _ _ ((compStart (.ListComp elt [⟨t1, i1, f1, 0⟩, ⟨t2, i2, f2, 0⟩] scope pos) 1 it acc env).onRaise (fun x => do noteFrame x env; standAt theWindowsPlace)) _ _ s
  refine wpAny_notedAt ?_
  unfold compStart
  show wpAny _ _ (ask >>= _) _ _ s
  refine wpAny_bind (wpAny_askSetting (wpAny_ite ?_))
  split
  · first
      | exact wpAny_bind (wpAny_pure (wpAny_pure (And.intro rfl h0)))
      | exact wpAny_pure (And.intro rfl h0)
  · first
      | exact wpAny_bind (wpAny_rule (wpAny_bind (wpAny_standAt (wpAny_bind (wpAny_mono h (fun it' s' h' => wpAny_pure (And.intro rfl h')) fun _ _ x => x)))))
      | (refine wpAny_bind (wpAny_rule ?_); show wpAny _ _ (standAt i2.pos >>= _) _ _ s; exact wpAny_bind (wpAny_standAt (wpAny_bind (wpAny_mono h (fun it' s' h' => wpAny_pure (And.intro rfl h')) fun _ _ x => x))))
end
end Br
namespace Br
open PySem PySem.Spec PySem.Calls PyProof.Rows L2
def lobj (us : List Value) (k : Nat) : Obj := { cls := .type "list", data := .seq us.toArray k }
def CmpIn (J : It) (g : TG) (tt : TT) (te : TE) (ys0 : List V) (σ0 : L2.St) (H0 : Hp) (Z : List V → L2.St → Hp → Prop) : Prop :=
  ∃ W : Nat → Nat → List V → L2.St → Hp → Prop, (∃ m, W 0 m ys0 σ0 H0) ∧ ∀ i m ys σ' H', W i m ys σ' H' → ys.length ≤ sizeLine ∧
    ((J.stop i H' ∧ Z ys σ' H') ∨
     (J.go i H' ∧ ∀ x H2, J.yld i H' x H2 → g x σ' H2 fun σ3 H3 => tt σ3 H3 fun b H4 => if b = true then te σ3 H4 fun y H5 => ∃ m', m' < m ∧ W (i + 1) m' (ys ++ [y]) σ3 H5 else ∃ m', m' < m ∧ W (i + 1) m' ys σ3 H4))
def Cmp2 (J : It) (g : TG) (tt : TT) (wi2 : TI) (g2 : TG) (tt2 : TT) (te : TE) (σ0 : L2.St) (H0 : Hp) (Z : List V → Hp → Prop) : Prop :=
  ∃ W : Nat → Nat → List V → L2.St → Hp → Prop, (∃ m, W 0 m [] σ0 H0) ∧ ∀ i m ys σ' H', W i m ys σ' H' → ys.length ≤ sizeLine ∧
    ((J.stop i H' ∧ Z ys H') ∨
     (J.go i H' ∧ ∀ x H2, J.yld i H' x H2 → g x σ' H2 fun σ3 H3 => tt σ3 H3 fun b H4 =>
        if b = true then wi2 σ3 H4 fun J2 H5 => CmpIn J2 g2 tt2 te ys σ3 H5 fun ys' σ5 H6 => ∃ m', m' < m ∧ W (i + 1) m' ys' σ5 H6 else ∃ m', m' < m ∧ W (i + 1) m' ys σ3 H4))
section
variable {Y : Cx} {pl : List (Addr × Obj)} {σ : L2.St} {H : Hp} {s : Shared} {t1 i1 t2 i2 elt : Expr} {f1 f2 : List Expr} {scope : Scope} {pos : Pos} {g : TG} {tt : TT} {te : TE} {D : Addr} {us : List Value} {k : Nat} {ys : List V}
theorem comp_in {it : Addr} {fp : List Addr} {tn : Nat → Heap → Prop} {J : It} {Z : List V → L2.St → Hp → Prop} {R : Result → Shared → Prop}
    (hc : Y.calm = true) (hxe : Y.xe = fun _ _ => False) (hpn : Y.pn = []) (hDl : D ≠ Y.env.locals) (hDn : Y.s₀.heap.objs.size ≤ D) (hDc : ∀ x c, Y.env.cells.lookup x = some c → c ≠ D) (hpl : ∀ p ∈ pl, p.1 ≠ D)
    (T : Turn Y.prog Y.w Y.K t2 J fp it tn) (hg : PG Y t2 g) (ht : PIfs Y f2 tt) (he : PE Y elt te)
    (I : Inv Y ((D, lobj us k) :: pl) σ H s) (rv : Vals ys us) (st : tn 0 s.heap) (f : ∀ b ∈ fp, FpOk Y ((D, lobj us k) :: pl) H b) (h : CmpIn J g tt te ys σ H Z)
    (hR : ∀ s' σ' H' ys us k, Inv Y ((D, lobj us k) :: pl) σ' H' s' → Vals ys us → Z ys σ' H' → R (.ok .next) s') :
    codeAny (model Y.prog Y.w) Y.A (.compLoop (.ListComp elt [⟨t1, i1, f1, 0⟩, ⟨t2, i2, f2, 0⟩] scope pos) 1 (.ref it) (.ref D) Y.env) R s := by
  obtain ⟨W, ⟨m0, w0⟩, turn⟩ := h
  have stat : ∀ {H' : Hp} {us' : List Value} {k' : Nat}, (∀ b ∈ fp, H' b = none) → ∀ b ∈ fp, FpOk Y ((D, lobj us' k') :: pl) H' b := fun {H' us' k'} hn b hb => by
    obtain ⟨a0, a1, a2, a3, a4, a5⟩ := f b hb
    refine ⟨hn b hb, a1, a2, a3, a4, fun p hp => ?_⟩
    rw [hpn] at hp a5
    rcases List.mem_cons.mp (show p ∈ (D, lobj us' k') :: pl from hp) with z | z
    · subst z; exact a5 (D, lobj us k) (List.mem_cons_self ..)
    · exact a5 p (List.mem_cons_of_mem _ z)
  have hfpD : ∀ b ∈ fp, b ≠ D := fun b hb z => (f b hb).2.2.2.2.2 (D, lobj us k) (by rw [hpn]; exact List.mem_cons_self ..) z.symm
  refine compLoop_in (fun n s' => ∃ i ys σ' H' us k, Inv Y ((D, lobj us k) :: pl) σ' H' s' ∧ Vals ys us ∧ tn i s'.heap ∧ (∀ b ∈ fp, H' b = none) ∧ W i n ys σ' H') ?_ m0 ⟨0, ys, σ, H, us, k, I, rv, st, fun b hb => (f b hb).1, w0⟩
  rintro n s3 ⟨i, ys, σ3, H3, us, k, I3, rv, st3, fr3, w3⟩
  obtain ⟨hz, tu⟩ := turn i n ys σ3 H3 w3
  rcases tu with ⟨stop, z⟩ | ⟨go, step⟩
  · refine thn (T.done Y rfl rfl rfl hc i _ s3 σ3 H3 (fun _ _ => False) I3 (stat fr3) st3 stop) fun r s4 ⟨hr, I4⟩ => ?_
    subst hr
    exact hR s4 σ3 H3 ys us k I4 rv z
  · refine thn (T.item Y rfl rfl rfl hc i _ s3 σ3 H3 (fun _ _ => False) I3 (stat fr3) st3 go) fun r s4 ⟨u, hr, h4⟩ => ?_
    subst hr
    refine thn h4 fun _ s5 ⟨x, H5, I5, r5, y5, st5, fr5⟩ => ?_
    have I5' := I5.pinned (stat fr5) (T.obj _ _ st5)
    have e1 := hg _ s5 σ3 H5 x u _ I5' r5 (step x H5 y5)
    rw [hxe] at e1
    refine thn e1 fun _ s6 ⟨σ6, H6, I6, q6⟩ => ?_
    have e2 := ht _ s6 σ6 H6 _ I6 q6
    rw [hxe] at e2
    refine thn e2 fun ok s7 ⟨H7, I7, q7⟩ => ?_
    have tnK : ∀ {σ' : L2.St} {H' : Hp} {s' : Shared}, Inv Y (((D, lobj us k) :: pl) ++ pinsAt fp s5.heap) σ' H' s' → tn (i + 1) s'.heap ∧ (∀ b ∈ fp, H' b = none) ∧ (∀ b ∈ fp, ∀ o, s5.heap.get? b = some o → s'.heap.get? b = some o) := fun {σ' H' s'} I' =>
      ⟨T.keep _ _ _ st5 fun b hb o e => (I'.pin (b, o) (List.mem_append_right _ (List.mem_append_right _ (mem_pinsAt hb e)))).1, fun b hb => by
        obtain ⟨o, e, d⟩ := T.obj _ _ st5 b hb
        exact (I'.pin (b, o) (List.mem_append_right _ (List.mem_append_right _ (mem_pinsAt hb e)))).2.1, fun b hb o e => (I'.pin (b, o) (List.mem_append_right _ (List.mem_append_right _ (mem_pinsAt hb e)))).1⟩
    cases ok with
    | false =>
      have q7 : ∃ m', m' < n ∧ W (i + 1) m' ys σ6 H7 := q7
      obtain ⟨m', hm, w7⟩ := q7
      obtain ⟨k1, k2, _⟩ := tnK I7
      exact ⟨m', hm, i + 1, ys, σ6, H7, us, k, I7.unpinned, rv, k1, k2, w7⟩
    | true =>
      have q7 : te σ6 H7 fun y H5 => ∃ m', m' < n ∧ W (i + 1) m' (ys ++ [y]) σ6 H5 := q7
      have e3 := he _ s7 σ6 H7 _ I7 q7
      rw [hxe] at e3
      refine thn e3 fun y s8 ⟨yv, H8, I8, r8, m', hm, w8⟩ => ?_
      obtain ⟨k1, k2, k3⟩ := tnK I8
      obtain ⟨eD, nD, _, nfD, _⟩ := I8.pin (D, lobj us k) (List.mem_append_right _ (List.mem_append_left _ (List.mem_cons_self ..)))
      have eD : s8.heap.get? D = _ := eD
      have pl8 : s8.heap.PlainList D us.toArray := ⟨k, eD⟩
      refine wpAny_list_append_plain (hsz := by have := rv.length; simp; omega) pl8 fun h₉ hl₉ hs₉ => ?_
      obtain ⟨k9, e9⟩ := hl₉
      have Ip : Inv Y pl σ6 H8 s8 := I8.pins_of fun p hp => I8.pin p (List.mem_append_right _ (List.mem_append_left _ (List.mem_cons_of_mem _ hp)))
      have I9 : Inv Y pl σ6 H8 { s8 with heap := h₉ } := Ip.turned (t' := s8.toks) (it := D) (fun b o hb e => (hs₉.2 b hb).trans e) nD hDl (.inr hDn) hDc (fun p hp => by rw [hpn] at hp; exact hpl p hp)
      refine ⟨m', hm, i + 1, ys ++ [yv], σ6, H8, us ++ [y], k9, I9.pins_of fun p hp => ?_, rv.append (.cons r8 .nil), T.keep _ _ _ k1 fun b hb o e => (hs₉.2 b (hfpD b hb)).trans e, k2, w8⟩
      rcases List.mem_cons.mp hp with z | z
      · subst z
        refine ⟨?_, nD, hDl, nfD, fun v z => by cases z⟩
        show h₉.get? D = _
        rw [e9]; simp [lobj]
      · exact I9.pin p (List.mem_append_right _ z)
end
section
variable {X : Cx} {pins : List (Addr × Obj)} {σ : L2.St} {H2 : Hp} {s2 : Shared} {t1 i1 t2 i2 elt : Expr} {f1 f2 : List Expr} {scope : Scope} {pos : Pos} {Nc : List Str} {g g2 : TG} {tt tt2 : TT} {te : TE} {wi2 : TI}
theorem comp_block2 {it : Addr} {fp : List Addr} {tn : Nat → Heap → Prop} {J : It} {Z : List V → Hp → Prop} {E : Value → Shared → Prop} {RR : Value → Addr → Result → Shared → Prop}
    (hc : X.calm = true) (S : CompS X scope) (I2 : Inv X pins σ H2 s2) (T : Turn X.prog X.w X.K t1 J fp it tn) (st2 : tn 0 s2.heap) (f2' : ∀ b ∈ fp, FpOk X pins H2 b)
    (hg : ∀ C s H fp, PG (cxC X Nc scope C s H fp) t1 g) (ht : ∀ C s H fp, PIfs (cxC X Nc scope C s H fp) f1 tt) (hi2 : ∀ C s H fp, PI (cxC X Nc scope C s H fp) t2 i2 wi2) (hs2 : ∀ C x, foldedSetIterable i2 (compEnvC scope (clOf scope X.env) C X.env) x = pure x)
    (hg2 : ∀ C s H fp, PG (cxC X Nc scope C s H fp) t2 g2) (ht2 : ∀ C s H fp, PIfs (cxC X Nc scope C s H fp) f2 tt2) (he : ∀ C s H fp, PE (cxC X Nc scope C s H fp) elt te)
    (h : Cmp2 J g tt wi2 g2 tt2 te (List.replicate Nc.length none ++ σ) H2 Z)
    (hRR : ∀ D C s' H3 ys, Inv X pins σ (upd H3 D (.lst ys)) s' → H3 D = none → Z ys H3 → (∃ m, s'.heap.Ns C m) → FpOk X pins (upd H3 D (.lst ys)) C → RR (.ref D) C (.ok .next) s') :
    wpAny (model X.prog X.w) X.A (newList []) (fun acc s₃ => wpAny (model X.prog X.w) X.A (newFunctionEnv scope X.env.globals (clOf scope X.env) [] X.env.qual none .none (some X.env)) (fun cenv s₄ =>
      codeAny (model X.prog X.w) X.A (.compStart (.ListComp elt [⟨t1, i1, f1, 0⟩, ⟨t2, i2, f2, 0⟩] scope pos) 0 (.ref it) acc { cenv with scope := relabel scope X.env }) (RR acc cenv.locals) s₄) E s₃) E s2 := by
  refine wpAny_newObj_type (wpAny_newFunctionEnv S.nocell (by intro y hy; simp at hy) (fun h₁ hns₁ hsb₁ => ?_) S.kind)
  dsimp only at hns₁ hsb₁ ⊢
  generalize hH2 : s2.heap.push { cls := .type "list", dict := none, data := .seq ([] : List Value).toArray } = G at hns₁ hsb₁ ⊢
  have hC : G.objs.size = s2.heap.objs.size + 1 := by rw [← hH2, Heap.size_push]
  generalize hD0 : s2.heap.objs.size = D at *
  generalize hC0 : G.objs.size = C at *
  have hDC : D ≠ C := by omega
  have below : ∀ (b : Nat) o, s2.heap.get? b = some o → b < D := fun b o e => hD0 ▸ Heap.lt_size e
  have belC : ∀ (b : Nat) o, s2.heap.get? b = some o → b ≠ C := fun b o e => by have := below b o e; omega
  have belD : ∀ (b : Nat) o, s2.heap.get? b = some o → b ≠ D := fun b o e => by have := below b o e; omega
  have old : ∀ b o, s2.heap.get? b = some o → h₁.get? b = some o := fun b o e => hsb₁.extBut b o (belC b o e) (by
    have q := Heap.get?_push_of_some { cls := .type (if (some X.env).isSome then "dict" else "frame"), data := .dict #[] } (hH2 ▸ Heap.get?_push_of_some _ e : G.get? b = some o)
    exact q)
  have hacc : h₁.PlainList D #[] := ⟨_, hsb₁.extBut _ _ hDC (Heap.get?_push_of_some _ (by rw [← hH2, ← hD0]; exact Heap.get?_push_size _ rfl))⟩
  obtain ⟨W, ⟨m0, w0⟩, turn⟩ := h
  have hob : ∀ b ∈ fp, ∃ o, s2.heap.get? b = some o := fun b hb => let ⟨o, e, _⟩ := T.obj _ _ st2 b hb; ⟨o, e⟩
  have hfpD : ∀ b : Nat, b ∈ fp → b < D := fun b hb => let ⟨o, e⟩ := hob b hb; below b o e
  have hfpN : ∀ b : Nat, b ∈ fp → b ≠ D := fun b hb => Nat.ne_of_lt (hfpD b hb)
  have hcells : ∀ y ∈ scope.names, y.2 = .free → ∃ c, X.env.cells.lookup y.1 = some c := fun y hy e => I2.ok.has y.1 (S.free y hy e)
  have hsub : ∀ {x : Str} {c : Addr}, (clOf scope X.env).lookup x = some c → X.env.cells.lookup x = some c := fun e => (clOf_sub hcells e).1
  have hclt : ∀ x c, (clOf scope X.env).lookup x = some c → c < D := fun x c e => let ⟨v, q⟩ := I2.cell x c (hsub e); hD0 ▸ q.lt
  have hn0 : h₁.Ns C fun _ => none := hns₁
  have IB : Inv (cxC X Nc scope C s2 H2 fp) [] (List.replicate Nc.length none ++ σ) H2 { s2 with heap := h₁, toks := s2.toks + ([] : List (Str × Value)).length } :=
    inv_block (D := D) I2 S f2' hob (by omega) old hn0
  have hfs : ∀ b : Nat, D ≤ b → b ∉ (cxC X Nc scope C s2 H2 fp).fs := fun b hb hm => by
    obtain ⟨_, o, ho, _⟩ := IB.ok.funs.mem hm
    exact absurd (Nat.lt_of_lt_of_le (below b o ho) hb) (Nat.lt_irrefl _)
  have stat : ∀ {H' : Hp} {ps : List (Addr × Obj)}, (∀ p ∈ ps, Nat.le D p.1) → (∀ b ∈ fp, H' b = none) → ∀ b ∈ fp, FpOk (cxC X Nc scope C s2 H2 fp) ps H' b := fun {H' ps} hps hn b hb =>
    ⟨hn b hb, (let ⟨o, e⟩ := hob b hb; belC b o e), IB.ok.exfs b hb, .inl hb, fun x c e => (f2' b hb).2.2.2.2.1 x c (hsub e), fun p hp => Nat.ne_of_gt (Nat.lt_of_lt_of_le (hfpD b hb) (hps p hp))⟩
  have loop : ∀ s₃ : Shared, s₃ = { s2 with heap := h₁, toks := s2.toks + ([] : List (Str × Value)).length } →
      codeAny (model X.prog X.w) X.A (.compLoop (.ListComp elt [⟨t1, i1, f1, 0⟩, ⟨t2, i2, f2, 0⟩] scope pos) 0 (.ref it) (.ref D) (compEnvC scope (clOf scope X.env) C X.env)) (RR (.ref D) C) s₃ := by
    rintro s₃ rfl
    refine compLoop_out (fun n s' => ∃ i ys σ' H' us k, Inv (cxC X Nc scope C s2 H2 fp) [(D, lobj us k)] σ' H' s' ∧ Vals ys us ∧ tn i s'.heap ∧ (∀ b ∈ fp, H' b = none) ∧ W i n ys σ' H') (hs2 C) ?_ m0 ?_
    · rintro n s3 ⟨i, ys, σ3, H3, us, k, I3, rv, st3, fr3, w3⟩
      obtain ⟨hz, tu⟩ := turn i n ys σ3 H3 w3
      have hps : ∀ p ∈ [((D : Addr), lobj us k)], Nat.le D p.1 := fun p hp => by
        rcases List.mem_singleton.mp hp with rfl
        exact Nat.le_refl _
      rcases tu with ⟨stop, z⟩ | ⟨go, step⟩
      · refine thn (T.done (cxC X Nc scope C s2 H2 fp) rfl rfl rfl hc i _ s3 σ3 H3 (fun _ _ => False) I3 (stat hps fr3) st3 stop) fun r s4 ⟨hr, I4⟩ => ?_
        subst hr
        obtain ⟨eD, nD, _, _, _⟩ := I4.pin (D, lobj us k) (List.mem_append_right _ (List.mem_singleton.mpr rfl))
        have eD : s4.heap.get? D = _ := eD
        have nD : H3 D = none := nD
        have u4 : Un (frs X.stack) fp H2 H3 s2.heap s4.heap := I4.base
        have hH2D : H2 D = none := I2.hok.fresh (by omega)
        have u5 : Un (frs X.stack) fp H2 (upd H3 D (.lst ys)) s2.heap s4.heap :=
          ⟨u4.keep, u4.slot, fun b o e n x => by rw [upd_ne (belD b o e)]; exact u4.free b o e n x, u4.there, fun b xs e => by rw [upd_ne (ne_of_none e hH2D)]; exact u4.tups b xs e,
            fun b o u e => by rw [upd_ne (ne_of_none e hH2D)]; exact u4.frzs b o u e, fun b ps e => by rw [upd_ne (ne_of_none e hH2D)]; exact u4.tbls b ps e⟩
        have hok : HOk X.prog X.w (upd H3 D (.lst ys)) s4.heap := fun b o e => by
          by_cases hb : b = D
          · subst hb; rw [upd_same] at e; cases e
            exact ⟨hz, us, k, rv, eD⟩
          · rw [upd_ne hb] at e
            exact (I4.hok b o e).stay (fun _ _ _ q => q) (fun c q => by rw [upd_ne (ne_of_none q nD)]; exact q) fun c xs q => by rw [upd_ne (ne_of_none q nD)]; exact q
        have I5 : Inv X pins σ (upd H3 D (.lst ys)) s4 := I2.call' (ch := fp) I4.os u5 hok I4.bare fun b hb => let ⟨a0, a1, a2, a3, a4, a5⟩ := f2' b hb; ⟨a3, a1, a4, a5⟩
        obtain ⟨m, hm, _⟩ := I4.loc
        refine hRR D C s4 H3 ys I5 nD z ⟨m, hm⟩ (I2.fpOk (by omega) ?_)
        rw [upd_ne (Ne.symm hDC)]; exact I4.free
      · refine thn (T.item (cxC X Nc scope C s2 H2 fp) rfl rfl rfl hc i _ s3 σ3 H3 (fun _ _ => False) I3 (stat hps fr3) st3 go) fun r s4 ⟨u, hr, h4⟩ => ?_
        subst hr
        refine thn h4 fun _ s5 ⟨x, H5, I5, r5, y5, st5, fr5⟩ => ?_
        have I5' := I5.pinned (stat hps fr5) (T.obj _ _ st5)
        refine thn (hg C s2 H2 fp _ s5 σ3 H5 x u _ I5' r5 (step x H5 y5)) fun _ s6 ⟨σ6, H6, I6, q6⟩ => ?_
        refine thn (ht C s2 H2 fp _ s6 σ6 H6 _ I6 q6) fun ok s7 ⟨H7, I7, q7⟩ => ?_
        have tnK : ∀ {σ' : L2.St} {H' : Hp} {s' : Shared} {us' : List Value} {k' : Nat}, Inv (cxC X Nc scope C s2 H2 fp) ((D, lobj us' k') :: pinsAt fp s5.heap) σ' H' s' → tn (i + 1) s'.heap ∧ (∀ b ∈ fp, H' b = none) := fun {σ' H' s' us' k'} I' =>
          ⟨T.keep _ _ _ st5 fun b hb o e => (I'.pin (b, o) (List.mem_append_right _ (List.mem_cons_of_mem _ (mem_pinsAt hb e)))).1, fun b hb => by
            obtain ⟨o, e, d⟩ := T.obj _ _ st5 b hb
            exact (I'.pin (b, o) (List.mem_append_right _ (List.mem_cons_of_mem _ (mem_pinsAt hb e)))).2.1⟩
        cases ok with
        | false =>
          have q7 : ∃ m', m' < n ∧ W (i + 1) m' ys σ6 H7 := q7
          obtain ⟨m', hm, w7⟩ := q7
          obtain ⟨k1, k2⟩ := tnK (us' := us) (k' := k) I7
          exact ⟨m', hm, i + 1, ys, σ6, H7, us, k, I7.unpinned, rv, k1, k2, w7⟩
        | true =>
          have q7 : wi2 σ6 H7 fun J2 H5 => CmpIn J2 g2 tt2 te ys σ6 H5 fun ys' σ5 H6 => ∃ m', m' < n ∧ W (i + 1) m' ys' σ5 H6 := q7
          refine thn (hi2 C s2 H2 fp _ s7 σ6 H7 _ I7 q7) fun v s8 h8 => thn h8 fun itv s9 h9 => ?_
          obtain ⟨it2, fp2, tn2, J2, H9, e, I9, T2, st9, f9, z9⟩ := h9
          subst e
          have loop2 : codeAny (model X.prog X.w) X.A (.compLoop (.ListComp elt [⟨t1, i1, f1, 0⟩, ⟨t2, i2, f2, 0⟩] scope pos) 1 (.ref it2) (.ref D) (compEnvC scope (clOf scope X.env) C X.env)) (fun r s₆ => match r with
                | .ok _ => ∃ m, m < n ∧ ∃ i ys σ' H' us k, Inv (cxC X Nc scope C s2 H2 fp) [(D, lobj us k)] σ' H' s₆ ∧ Vals ys us ∧ tn i s₆.heap ∧ (∀ b ∈ fp, H' b = none) ∧ W i m ys σ' H'
                | .error _ => False) s9 :=
            comp_in (Y := cxC X Nc scope C s2 H2 fp) (pl := pinsAt fp s5.heap) hc rfl rfl hDC (by show s2.heap.objs.size ≤ D; omega) (fun x c e => Nat.ne_of_lt (hclt x c e)) (fun p hp => hfpN _ (of_pinsAt hp).1)
              T2 (hg2 C s2 H2 fp) (ht2 C s2 H2 fp) (he C s2 H2 fp) I9 rv st9 f9 z9 fun s' σ' H' ys' us' k' I' rv' ⟨m', hm, w'⟩ => by
                obtain ⟨k1, k2⟩ := tnK I'
                exact ⟨m', hm, i + 1, ys', σ', H', us', k', I'.pins_of (fun p hp => by
                  rcases List.mem_singleton.mp hp with rfl
                  exact I'.pin _ (List.mem_append_right _ (List.mem_cons_self ..))), rv', k1, k2, w'⟩
          exact compStart_in loop2 (T2.self _ 0 _ _ _ st9 loop2)
    · obtain ⟨k, e⟩ := hacc
      refine ⟨0, [], _, H2, [], k, IB.pins_of fun p hp => ?_, .nil, T.keep _ _ _ st2 fun b hb o e => old b o e, fun b hb => (f2' b hb).1, w0⟩
      rcases List.mem_singleton.mp hp with rfl
      exact ⟨e, I2.hok.fresh (by omega), hDC, hfs D (Nat.le_refl _), fun v z => by cases z⟩
  exact codeAny_compStart_list (loop _ rfl) (T.self _ 0 _ _ _ (T.keep _ _ _ st2 fun b hb o e => old b o e) (loop _ rfl))
def tCompT (n : Nat) (wi : TI) (g : TG) (tt : TT) (wi2 : TI) (g2 : TG) (tt2 : TT) (te : TE) : TE := fun σ H Q => wi σ H fun J H1 => Cmp2 J g tt wi2 g2 tt2 te (List.replicate n none ++ σ) H1 fun ys H' => ∀ p H2, H' p = none → L2.Same H' H2 → H2 p = some (.lst ys) → Q (.ref p) H2
theorem ps_setCompT {wi : TI} {i : Nat} {y : Str} {py spos : Pos} (hc : X.calm = true) (S : CompS X scope) (hs : ∀ x, foldedSetIterable i1 X.env x = pure x) (hN : X.N.Nodup) (hy : X.N[i]? = some y) (hl : Loc X.env.scope y) (hf : X.fn y = true ∨ X.env.scope.names.lookup y = some .local)
    (hsw : swapsWith (.ListComp elt [⟨t1, i1, f1, 0⟩, ⟨t2, i2, f2, 0⟩] scope pos) (some (.Name y py)) spos.line X.env = pure true) (hi : PI X t1 i1 wi)
    (hg : ∀ C s H fp, PG (cxC X Nc scope C s H fp) t1 g) (ht : ∀ C s H fp, PIfs (cxC X Nc scope C s H fp) f1 tt) (hi2 : ∀ C s H fp, PI (cxC X Nc scope C s H fp) t2 i2 wi2) (hs2 : ∀ C x, foldedSetIterable i2 (compEnvC scope (clOf scope X.env) C X.env) x = pure x)
    (hg2 : ∀ C s H fp, PG (cxC X Nc scope C s H fp) t2 g2) (ht2 : ∀ C s H fp, PIfs (cxC X Nc scope C s H fp) f2 tt2) (he : ∀ C s H fp, PE (cxC X Nc scope C s H fp) elt te) :
    PS X (.Assign [.Name y py] (.ListComp elt [⟨t1, i1, f1, 0⟩, ⟨t2, i2, f2, 0⟩] scope pos) spos) (tAsg (tCompT Nc.length wi g tt wi2 g2 tt2 te) (gName i)) := by
  intro pins s σ H D I h
  have hcells : ∀ y ∈ scope.names, y.2 = .free → ∃ c, X.env.cells.lookup y.1 = some c := fun y hy e => I.ok.has y.1 (S.free y hy e)
  rw [exec_Assign_Name_used _ _ _ _ hsw]
  refine wpAny_bind (wpAny_standAt (wpAny_bind ?_))
  show wpAny _ X.A (do let _ ← comprehension (.ListComp elt [⟨t1, i1, f1, 0⟩, ⟨t2, i2, f2, 0⟩] scope pos) scope X.env _ (newList []) false (eval i1 X.env) (some (assign (.Name y py) X.env))) _ _ s
  refine wpAny_bind (wpAny_mono (wpAny_comprehension_free (use := some (assign (.Name y py) X.env)) (Q := fun _ s' => SP X pins D .next s') rfl hs (closure_of hcells) S.kind S.names
    (thn (hi pins s σ H _ I h) fun v s1 h1 => thn h1 fun itv s2 h2 => ?_)) (fun _ s' hq => wpAny_pure (wpAny_pure hq)) fun _ _ e => e)
  obtain ⟨it, fp, tn, J, H2, e, I2, T, st2, f2, z⟩ := h2
  subst e
  refine comp_block2 (RR := fun acc C => compPost (model X.prog X.w) X.A X.xe (some (assign (.Name y py) X.env)) (fun _ s' => SP X pins D .next s') acc C) hc S I2 T st2 f2 hg ht hi2 hs2 hg2 ht2 he z fun Dd C s' H3 ys I' hD hz hm hf' => ?_
  obtain ⟨m, hm⟩ := hm
  show wpAny _ X.A (assign (.Name y py) X.env (.ref Dd)) _ _ _
  refine wpAny_assign_Name (store_ok2 (v := .ref Dd) I' hN hy hl rfl (fun s'' I'' ch => ?_) hf)
  obtain ⟨a, sb, ha⟩ := ch
  have hCa : C ≠ a := by
    rcases ha with rfl | ha
    · exact hf'.2.1
    · exact fun z => hf'.2.2.2.2.1 _ _ ha z.symm
  refine ⟨m, hm.sameBut sb hCa, fun h' sb' => ?_⟩
  exact ⟨_, _, I''.turned (t' := s''.toks) (it := C) (fun b o hb e => (sb'.2 b hb).trans e) hf'.1 hf'.2.1 hf'.2.2.2.1 hf'.2.2.2.2.1 hf'.2.2.2.2.2, hz Dd _ hD (Br.Same.upd hD) upd_same⟩
end
end Br
namespace Br
open PySem PySem.Spec PySem.Calls PyProof.Rows L2
section
variable {prog : Program} {w : World} {A : Around} {E : Value → Shared → Prop} {s : Shared}
end
end Br
namespace Br
open PySem PySem.Spec PySem.Calls PyProof.Rows L2
section
variable {prog : Program} {w : World} {A : Around} {E : Value → Shared → Prop} {s : Shared}
end
section
variable {X : Cx}
end
section
variable {X : Cx} {K : PySem.W.Frag} {e : Expr} {es : List Expr} {t : TA} {pos p : Pos} {x : Str} (hg : Gl X x) (he : starEach (e :: es) X.env = (false, eval e X.env) :: starEach es X.env) (hpl : (backTo pos (starEach es X.env)).any (·.1) = false)
include hg he hpl
end
end Br
namespace Br
open PySem PySem.Spec PySem.Calls PyProof.Rows L2
section
variable {X : Cx} {elt i1 i2 : Expr} {f1 f2 : List Expr} {te : TE} {tt tt2 : TT} {wi wi2 : TI} {pos p px py pt spos : Pos} {x y z : Str} {i k : Nat} {scope : Scope}
theorem g_CT (S : CompS X scope) (hxy : x ≠ y) (hx : scope.names.lookup x = some .local) (hy : scope.names.lookup y = some .local) (C : Addr) (s : Shared) (H : Hp) (fp : List Addr) :
    PG (cxC X [x, y] scope C s H fp) (.Name x px) (gName 0) ∧ PG (cxC X [x, y] scope C s H fp) (.Name y py) (gName 1) := by
  have nd : (cxC X [x, y] scope C s H fp).N.Nodup := List.nodup_cons.mpr ⟨fun h => by
    rcases List.mem_cons.mp h with h | h
    · exact hxy h
    · exact not_mem_of S hx h, List.nodup_cons.mpr ⟨not_mem_of S hy, S.nd⟩⟩
  exact ⟨pg_name nd rfl (.inl (loc_C hx)) (.inr (loc_C hx)), pg_name nd rfl (.inl (loc_C hy)) (.inr (loc_C hy))⟩
theorem s_compT (hc : X.calm = true) (S : compB X.env.scope.names X.N scope = true) (hs : ∀ x, foldedSetIterable i1 X.env x = pure x) (hN : X.N.Nodup) (hxy : x ≠ y) (hx : scope.names.lookup x = some .local) (hy : scope.names.lookup y = some .local)
    (hs2 : ∀ C x, foldedSetIterable i2 (compEnvC scope (clOf scope X.env) C X.env) x = pure x) (h : At X.N i z) (hz : X.env.scope.names.lookup z = some .local)
    (hsw : swapsWith (.ListComp elt [⟨.Name x px, i1, f1, 0⟩, ⟨.Name y py, i2, f2, 0⟩] scope pos) (some (.Name z p)) spos.line X.env = pure true)
    (hi : JI X (.Name x px) i1 wi) (ht : ∀ C s H fp, JIfs (cxC X [x, y] scope C s H fp) f1 tt) (hi2 : ∀ C s H fp, JI (cxC X [x, y] scope C s H fp) (.Name y py) i2 wi2)
    (ht2 : ∀ C s H fp, JIfs (cxC X [x, y] scope C s H fp) f2 tt2) (he : ∀ C s H fp, JE (cxC X [x, y] scope C s H fp) elt te) :
    JS X (.Assign [.Name z p] (.ListComp elt [⟨.Name x px, i1, f1, 0⟩, ⟨.Name y py, i2, f2, 0⟩] scope pos) spos) (tAsg (tCompT 2 wi (gName 0) tt wi2 (gName 1) tt2 te) (gName i)) :=
  ⟨ps_setCompT (Nc := [x, y]) hc (.of S) hs hN h.get (.inl hz) (.inr hz) hsw hi.h (fun C s H fp => (g_CT (px := px) (py := py) (.of S) hxy hx hy C s H fp).1) (fun C s H fp => (ht C s H fp).h) (fun C s H fp => (hi2 C s H fp).h) hs2 (fun C s H fp => (g_CT (px := px) (py := py) (.of S) hxy hx hy C s H fp).2) (fun C s H fp => (ht2 C s H fp).h) fun C s H fp => (he C s H fp).h⟩
end
section
variable {X : Cx} {x y : Str} {i j kt : Nat} {px py pt : Pos}
theorem g_tup2C (hi : At X.N i x) (hj : At X.N j y) (hc : X.calm = true) (hN : X.N.Nodup) (hx : Loc X.env.scope x) (hy : Loc X.env.scope y) (hfx : X.fn x = true) (hfy : X.fn y = true)
    (h1 : (assignEach [.Name x px, .Name y py] X.env).map (·.2) = assign (.Name x px) X.env :: (assignEach [.Name y py] X.env).map (·.2))
    (h2 : (assignEach [.Name y py] X.env).map (·.2) = assign (.Name y py) X.env :: (assignEach [] X.env).map (·.2))
    (hn : (assignEach [.Name x px, .Name y py] X.env).length = 2) (hst : (assignEach [.Name x px, .Name y py] X.env).findIdx? (·.1) = none) : JG X (.Tuple [.Name x px, .Name y py] kt pt) (gTup X.K 2 (gCons (gName i) (gCons (gName j) gNil))) :=
  ⟨pg_tup hc (pgs_cons (pg_name hN hi.get hx (.inl hfx)) (pgs_cons (pg_name hN hj.get hy (.inl hfy)) pgs_nil h2) h1) hn hst⟩
end
section
variable {K : PySem.W.Frag} {a : Addr} {xs ys0 : List V} {g g2 : TG} {tt tt2 : TT} {te : TE} {wi2 : TI} {σ0 : L2.St} {H0 : Hp}
theorem cmpIn_range {lo : Int} {n : Nat} {Z : List V → L2.St → Hp → Prop} (Pv : Nat → List V → L2.St → Hp → Prop) (h0 : Pv 0 ys0 σ0 H0) (hl : ∀ i ys σ H, i ≤ n → Pv i ys σ H → ys.length ≤ sizeLine)
    (hs : ∀ i ys σ H (N : List V → L2.St → Hp → Prop), i < n → Pv i ys σ H → (∀ ys' σ' H', Pv (i + 1) ys' σ' H' → N ys' σ' H') →
      g (.int (lo + i)) σ H fun σ3 H3 => tt σ3 H3 fun b H4 => if b = true then te σ3 H4 fun y H5 => N (ys ++ [y]) σ3 H5 else N ys σ3 H4)
    (hd : ∀ ys σ H, Pv n ys σ H → Z ys σ H) : CmpIn (Itr lo n) g tt te ys0 σ0 H0 Z := by
  refine ⟨fun i m ys σ H => m = n - i ∧ i ≤ n ∧ Pv i ys σ H, ⟨n, by simp, Nat.zero_le _, h0⟩, ?_⟩
  rintro i m ys σ H ⟨rfl, hi, p⟩
  have hy := hl i ys σ H hi p
  refine ⟨hy, ?_⟩
  by_cases hlt : i < n
  · refine .inr ⟨hlt, fun x H' y => ?_⟩
    obtain ⟨e, y⟩ := y
    subst e; subst y
    exact hs i ys σ _ (fun ys' σ' H' => ∃ m', m' < n - i ∧ m' = n - (i + 1) ∧ i + 1 ≤ n ∧ Pv (i + 1) ys' σ' H') hlt p fun ys' σ' H' p' => ⟨n - (i + 1), by omega, rfl, hlt, p'⟩
  · have e : i = n := by omega
    subst e
    exact .inl ⟨Nat.le_refl _, hd ys σ H p⟩
theorem cmp2_list {Z : List V → Hp → Prop} (Pv : Nat → List V → L2.St → Hp → Prop) (h0 : Pv 0 [] σ0 H0) (hl : ∀ i ys σ H, i ≤ xs.length → Pv i ys σ H → SqL K H a xs ∧ ys.length ≤ sizeLine)
    (hs : ∀ i x ys σ H (N : List V → L2.St → Hp → Prop), xs[i]? = some x → Pv i ys σ H → (∀ ys' σ' H', Pv (i + 1) ys' σ' H' → N ys' σ' H') →
      g x σ H fun σ3 H3 => tt σ3 H3 fun b H4 => if b = true then wi2 σ3 H4 fun J2 H5 => CmpIn J2 g2 tt2 te ys σ3 H5 N else N ys σ3 H4)
    (hd : ∀ ys σ H, Pv xs.length ys σ H → Z ys H) : Cmp2 (Itl K a) g tt wi2 g2 tt2 te σ0 H0 Z := by
  refine ⟨fun i m ys σ H => m = xs.length - i ∧ i ≤ xs.length ∧ Pv i ys σ H, ⟨xs.length, by simp, Nat.zero_le _, h0⟩, ?_⟩
  rintro i m ys σ H ⟨rfl, hi, p⟩
  obtain ⟨q, hy⟩ := hl i ys σ H hi p
  refine ⟨hy, ?_⟩
  by_cases hlt : i < xs.length
  · refine .inr ⟨⟨xs, xs[i], q, by simp [hlt]⟩, fun x H' y => ?_⟩
    obtain ⟨e, y⟩ := y
    subst e
    exact hs i x ys σ _ (fun ys' σ' H' => ∃ m', m' < xs.length - i ∧ m' = xs.length - (i + 1) ∧ i + 1 ≤ xs.length ∧ Pv (i + 1) ys' σ' H') (y xs q) p fun ys' σ' H' p' => ⟨xs.length - (i + 1), by omega, rfl, hlt, p'⟩
  · have e : i = xs.length := by omega
    subst e
    exact .inl ⟨⟨xs, q, Nat.le_refl _⟩, hd ys σ H p⟩
end
end Br
namespace Br
namespace ZT
open PySem PySem.Spec PySem.Calls PyProof.Rows L2
section
variable {prog : Program} {w : World} {A : Around} {E : Value → Shared → Prop} {s : Shared}
structure Zp (h : Heap) (z u o c1 c2 d e : Addr) (xs ys : Array Value) (k : Nat) : Prop where
  zip : IsZip h z u o .none
  its : IsPair h u (.ref c1) (.ref c2)
  own : ∃ a b, IsPair h o a b
  i1 : h.IsTupleIter c1 d k
  i2 : h.IsListIter c2 e k
  t1 : h.IsTuple d xs
  t2 : h.IsList e ys
structure Ap (z u o c1 c2 d e : Addr) : Prop where
  ne : [z, u, o, c1, c2].Nodup
  nd : ∀ b ∈ [z, u, o, c1, c2], d ≠ b ∧ e ≠ b
theorem Ap.all {z u o c1 c2 d e : Addr} (P : Ap z u o c1 c2 d e) : z ≠ u ∧ z ≠ o ∧ z ≠ c1 ∧ z ≠ c2 ∧ u ≠ o ∧ u ≠ c1 ∧ u ≠ c2 ∧ o ≠ c1 ∧ o ≠ c2 ∧ c1 ≠ c2 := by
  have h := P.ne
  simp only [List.nodup_cons, List.mem_cons, List.mem_nil_iff, or_false, not_or] at h
  exact ⟨h.1.1, h.1.2.1, h.1.2.2.1, h.1.2.2.2, h.2.1.1, h.2.1.2.1, h.2.1.2.2, h.2.2.1.1, h.2.2.1.2, h.2.2.2.1⟩
theorem zitem {z u o c1 c2 d e : Addr} {xs ys : Array Value} {k : Nat} {x y : Value} {Q : Value → Shared → Prop} (P : Ap z u o c1 c2 d e) (Z : Zp s.heap z u o c1 c2 d e xs ys k) (hx : xs[k]? = some x) (hy : ys[k]? = some y)
    (go : ∀ g, IsZip g z u o (rawInt s.heap.objs.size) → IsPair g o x y → g.IsTupleIter c1 d (k + 1) → g.IsListIter c2 e (k + 1) → IsPair g s.heap.objs.size x y → g.objs.size = s.heap.objs.size + 1 →
      (∀ b ob, b ≠ z → b ≠ o → b ≠ c1 → b ≠ c2 → s.heap.get? b = some ob → g.get? b = some ob) → Q (.ref s.heap.objs.size) { s with heap := g }) :
    wpAny (model prog w) A (Builtin.«zip.__next__» ⟨[.ref z], []⟩) (fun fin s' => ∃ v, fin = .done (.ret v) ∧ Q v s') E s := by
  obtain ⟨n1, n2, n3, n4, n5, n6, n7, n8, n9, n10⟩ := P.all
  obtain ⟨dz, ez⟩ := P.nd z (by simp)
  obtain ⟨do', eo⟩ := P.nd o (by simp)
  obtain ⟨dc1, ec1⟩ := P.nd c1 (by simp)
  exact zdraw P.ne Z.zip Z.its Z.own
    (fun g q _ _ r => Br.tnext (s := { s with heap := g }) (Z.i1.at fun ob a => q.extBut _ ob (Ne.symm n3) a) (let ⟨ob, a, b⟩ := Z.t1; ⟨ob, q.extBut _ _ dz a, b⟩) hx r)
    (fun g q _ _ r => ZL.tnext (s := { s with heap := g }) (Z.i2.at fun ob a => q _ ob (Ne.symm n4) (Ne.symm n10) (Ne.symm n9) a) (let ⟨ob, a, b⟩ := Z.t2; ⟨ob, q _ _ ez ec1 eo a, b⟩) hy r)
    (fun _ _ j q => j.at q) (fun _ _ j q => j.at q) go
theorem znone {z u o c1 c2 d e : Addr} {xs ys : Array Value} {k : Nat} {Q : PySem.Fin → Shared → Prop} (hh : A.handled = none) (P : Ap z u o c1 c2 d e) (Z : Zp s.heap z u o c1 c2 d e xs ys k) (hv : xs[k]? = none ∨ ys[k]? = none)
    (go : ∀ g x, (∀ b ob, b ≠ z → b ≠ o → b ≠ c1 → b ≠ c2 → s.heap.get? b = some ob → g.get? b = some ob) → (∃ ob, g.get? x = some ob ∧ ob.cls = .type "StopIteration") → E (.ref x) { s with heap := g }) :
    wpAny (model prog w) A (Builtin.«zip.__next__» ⟨[.ref z], []⟩) Q E s := by
  obtain ⟨n1, n2, n3, n4, n5, n6, n7, n8, n9, n10⟩ := P.all
  obtain ⟨dz, ez⟩ := P.nd z (by simp)
  obtain ⟨do', eo⟩ := P.nd o (by simp)
  obtain ⟨dc1, ec1⟩ := P.nd c1 (by simp)
  cases hx : xs[k]? with
  | none =>
    exact zdrawNo P.ne Z.zip Z.its Z.own (.inl fun g q _ _ r => Br.tnone (s := { s with heap := g }) hh (Z.i1.at fun ob a => q.extBut _ ob (Ne.symm n3) a) (let ⟨ob, a, b⟩ := Z.t1; ⟨ob, q.extBut _ _ dz a, b⟩) hx r) go
  | some x1 =>
    have hy : ys[k]? = none := hv.resolve_left (by rw [hx]; simp)
    exact zdrawNo P.ne Z.zip Z.its Z.own (.inr ⟨x1, fun g q _ _ r => Br.tnext (s := { s with heap := g }) (Z.i1.at fun ob a => q.extBut _ ob (Ne.symm n3) a) (let ⟨ob, a, b⟩ := Z.t1; ⟨ob, q.extBut _ _ dz a, b⟩) hx fun g' _ e => r g' e,
      fun g q _ _ r => ZL.tnone (s := { s with heap := g }) hh (Z.i2.at fun ob a => q _ ob (Ne.symm n4) (Ne.symm n10) (Ne.symm n9) a) (let ⟨ob, a, b⟩ := Z.t2; ⟨ob, q _ _ ez ec1 eo a, b⟩) hy r⟩) go
end
section
variable {prog : Program} {w : World} {A : Around} {E : Value → Shared → Prop} {s : Shared}
theorem znext {z u o c1 c2 d e : Addr} {xs ys : Array Value} {k : Nat} {x y : Value} {Q : Option Value → Shared → Prop} (P : Ap z u o c1 c2 d e) (Z : Zp s.heap z u o c1 c2 d e xs ys k) (hx : xs[k]? = some x) (hy : ys[k]? = some y)
    (go : ∀ g, IsZip g z u o (rawInt s.heap.objs.size) → IsPair g o x y → g.IsTupleIter c1 d (k + 1) → g.IsListIter c2 e (k + 1) → IsPair g s.heap.objs.size x y → g.objs.size = s.heap.objs.size + 1 →
      (∀ b ob, b ≠ z → b ≠ o → b ≠ c1 → b ≠ c2 → s.heap.get? b = some ob → g.get? b = some ob) → Q (some (.ref s.heap.objs.size)) { s with heap := g }) : wpAny (model prog w) A (pyNext (.ref z)) Q E s := by
  have hT : s.TypeIs (.ref z) "zip" := ⟨_, Z.zip, rfl⟩
  unfold pyNext
  exact wpAny_bind (wpAny_attempt (wpAny_callSpecial?_slot (name := Str.ofString "__next__") hT F.slot_zip_next (wpAny_call_entry F.slot_zip_next hT F.entry_zip_next (zitem P Z hx hy fun g a1 a2 a3 a4 a5 a6 a7 => wpAny_pure (go g a1 a2 a3 a4 a5 a6 a7)) (F.args_zip_next_1 _))))
theorem zstop {z u o c1 c2 d e : Addr} {xs ys : Array Value} {k : Nat} {Q : Option Value → Shared → Prop} (hh : A.handled = none) (P : Ap z u o c1 c2 d e) (Z : Zp s.heap z u o c1 c2 d e xs ys k) (hv : xs[k]? = none ∨ ys[k]? = none)
    (go : ∀ g, (∀ b ob, b ≠ z → b ≠ o → b ≠ c1 → b ≠ c2 → s.heap.get? b = some ob → g.get? b = some ob) → Q none { s with heap := g }) : wpAny (model prog w) A (pyNext (.ref z)) Q E s := by
  have hT : s.TypeIs (.ref z) "zip" := ⟨_, Z.zip, rfl⟩
  unfold pyNext
  refine wpAny_bind (wpAny_attempt (wpAny_callSpecial?_slot (name := Str.ofString "__next__") hT F.slot_zip_next (wpAny_call_entry F.slot_zip_next hT F.entry_zip_next (znone hh P Z hv fun g x hk he => ?_) (F.args_zip_next_1 _))))
  obtain ⟨ob, hob, hcb⟩ := he
  exact wpAny_bind (wpAny_isInstance (T := "StopIteration") (b := true) ⟨ob, hob, hcb⟩ isSubtype_stop (wpAny_pure (go _ hk)))
abbrev zh1 (h : Heap) (d : Addr) : Heap := h.push { cls := .type "tuple_iterator", data := .fields #[.ref d, .int 0 0] }
abbrev zh2 (h : Heap) (d e : Addr) : Heap := (zh1 h d).push { cls := .type "list_iterator", data := .fields #[.ref e, .int 0 0] }
abbrev zh3 (h : Heap) (d e : Addr) : Heap := (zh2 h d e).push { cls := .type "tuple", data := .seq #[.ref h.objs.size, .ref (zh1 h d).objs.size] }
abbrev zh4 (h : Heap) (d e : Addr) : Heap := (zh3 h d e).push { cls := .type "tuple", data := .seq #[.none, .none] }
abbrev zh5 (h : Heap) (d e : Addr) : Heap := (zh4 h d e).push { cls := .type "zip", data := .fields #[.none, .bool false, .bool false, .ref (zh2 h d e).objs.size, .ref (zh3 h d e).objs.size] }
theorem zmeets (d e : Addr) (xs ys : Array Value) : Meets (Builtin.«zip.__new__» ⟨[.type "zip", .ref d, .ref e], []⟩) (fun _ R s => s.heap.IsTuple d xs ∧ s.heap.IsList e ys ∧ R (.ok (.ret (.ref (zh4 s.heap d e).objs.size))) { s with heap := zh5 s.heap d e }) :=
  .of_wp fun prog w A R s h => by
    obtain ⟨hp, g, dr, tk, os⟩ := s
    obtain ⟨h1, h2, h⟩ := h
    have hsub := sub_zip
    have q1 : Heap.IsTuple (Shared.heap ⟨hp, g, dr, tk, os⟩) d xs := h1
    have q2 : Heap.IsList (Shared.heap ⟨hp.push { cls := .type "tuple_iterator", data := .fields #[.ref d, .int 0 0] }, g, dr, tk, os⟩) e ys := Heap.IsList.push h2 _
    wp_walk using wpAny_pyIter_tuple q1, wpAny_pyIter_list q2
    exact ⟨_, rfl, h⟩
theorem zmake {d e : Addr} {xs ys : Array Value} {Q : Value → Shared → Prop} (h1 : s.heap.IsTuple d xs) (h2 : s.heap.IsList e ys)
    (go : ∀ g, Zp g (s.heap.objs.size + 4) (s.heap.objs.size + 2) (s.heap.objs.size + 3) s.heap.objs.size (s.heap.objs.size + 1) d e xs ys 0 → (∀ b ob, s.heap.get? b = some ob → g.get? b = some ob) → Q (.ref (s.heap.objs.size + 4)) { s with heap := g }) :
    wpAny (model prog w) A (call (.type "zip") [.ref d, .ref e]) Q E s := by
  refine callType_new F.called_zip (by decide) (F.typeCall_zip_2 _ _) (F.newCall_zip_2 _ _) (fun obj => F.args_object_init_3 obj _ _) F.entry_zip_new (zmeets d e xs ys) ⟨h1, h2, ?_⟩
  have s1 : (zh1 s.heap d).objs.size = s.heap.objs.size + 1 := Heap.size_push ..
  have s2 : (zh2 s.heap d e).objs.size = s.heap.objs.size + 2 := by rw [Heap.size_push, s1]
  have s3 : (zh3 s.heap d e).objs.size = s.heap.objs.size + 3 := by rw [Heap.size_push, s2]
  have s4 : (zh4 s.heap d e).objs.size = s.heap.objs.size + 4 := by rw [Heap.size_push, s3]
  have g5 : (zh5 s.heap d e).get? (zh4 s.heap d e).objs.size = some _ := Heap.get?_push_size _ rfl
  have g4 : (zh5 s.heap d e).get? (zh3 s.heap d e).objs.size = some _ := Heap.get?_push_of_some _ (Heap.get?_push_size _ rfl)
  have g3 : (zh5 s.heap d e).get? (zh2 s.heap d e).objs.size = some _ := Heap.get?_push_of_some _ (Heap.get?_push_of_some _ (Heap.get?_push_size _ rfl))
  have g2 : (zh5 s.heap d e).get? (zh1 s.heap d).objs.size = some _ := Heap.get?_push_of_some _ (Heap.get?_push_of_some _ (Heap.get?_push_of_some _ (Heap.get?_push_size _ rfl)))
  have g1 : (zh5 s.heap d e).get? s.heap.objs.size = some _ := Heap.get?_push_of_some _ (Heap.get?_push_of_some _ (Heap.get?_push_of_some _ (Heap.get?_push_of_some _ (Heap.get?_push_size _ rfl))))
  have old : ∀ b ob, s.heap.get? b = some ob → (zh5 s.heap d e).get? b = some ob := fun b ob q => Heap.get?_push_of_some _ (Heap.get?_push_of_some _ (Heap.get?_push_of_some _ (Heap.get?_push_of_some _ (Heap.get?_push_of_some _ q))))
  rw [s4] at g5
  rw [s3] at g4
  rw [s2] at g3
  rw [s1] at g2
  rw [s1] at g3
  rw [s2, s3] at g5
  have gz := go (zh5 s.heap d e) ⟨g5, g3, ⟨_, _, g4⟩, ⟨_, g1, rfl, rfl⟩, ⟨_, g2, rfl, rfl⟩, let ⟨ob, q, r⟩ := h1; ⟨ob, old _ _ q, r⟩, let ⟨ob, q, r⟩ := h2; ⟨ob, old _ _ q, r⟩⟩ old
  rw [s4]
  exact ⟨⟨_, g5, rfl⟩, gz⟩
end
def Itz (K : PySem.W.Frag) (a b : Addr) : It :=
  ⟨fun i H => ∃ xs ys x y, SqT K H a xs ∧ SqL K H b ys ∧ xs[i]? = some x ∧ ys[i]? = some y,
   fun i H v H' => ∃ (x y : V) (T : Addr), v = .ref T ∧ H T = none ∧ H' = upd H T (.tup [x, y]) ∧ ∀ xs ys, SqT K H a xs → SqL K H b ys → xs[i]? = some x ∧ ys[i]? = some y,
   fun i H => ∃ xs ys, SqT K H a xs ∧ SqL K H b ys ∧ (xs.length ≤ i ∨ ys.length ≤ i)⟩
theorem turn_zip {P : Program} {w : World} {K : PySem.W.Frag} {es : List Expr} {kt : Nat} {pt : Pos} {z u o c1 c2 a b : Addr} (ne : [z, u, o, c1, c2].Nodup) :
    Turn P w K (.Tuple es kt pt) (Itz K a b) [z, u, o, c1, c2] z (fun i h => IsZip h z u o .none ∧ IsPair h u (.ref c1) (.ref c2) ∧ (∃ x y, IsPair h o x y) ∧ h.IsTupleIter c1 a i ∧ h.IsListIter c2 b i) where
  mem := by simp
  obj := fun i h st c hc => by
    obtain ⟨h1, h2, ⟨x, y, h3⟩, ⟨o4, h4, _, d4⟩, ⟨o5, h5, _, d5⟩⟩ := st
    simp only [List.mem_cons, List.mem_nil_iff, or_false] at hc
    rcases hc with rfl | rfl | rfl | rfl | rfl
    · exact ⟨_, h1, fun v q => by cases q⟩
    · exact ⟨_, h2, fun v q => by cases q⟩
    · exact ⟨_, h3, fun v q => by cases q⟩
    · exact ⟨_, h4, fun v q => by rw [d4] at q; cases q⟩
    · exact ⟨_, h5, fun v q => by rw [d5] at q; cases q⟩
  keep := fun i h h' st k => by
    obtain ⟨h1, h2, ⟨x, y, h3⟩, h4, h5⟩ := st
    exact ⟨k _ (by simp) _ h1, k _ (by simp) _ h2, ⟨x, y, k _ (by simp) _ h3⟩, h4.at fun ob q => k _ (by simp) ob q, h5.at fun ob q => k _ (by simp) ob q⟩
  item := by
    intro X hP hw hK hc i pins s σ H E I hf st hg
    subst hP hw hK
    obtain ⟨h1, h2, h3, h4, h5⟩ := st
    obtain ⟨xs, ys, x, y, q1, q2, hx, hy⟩ := hg
    obtain ⟨t1, r1, p1, l1⟩ := I.tuple q1
    obtain ⟨t2, r2, p2, l2⟩ := I.list q2
    have p2 := p2.isList
    obtain ⟨x', hx', rx⟩ := r1.get hx
    obtain ⟨y', hy', ry⟩ := r2.get hy
    have ap : Ap z u o c1 c2 a b := ⟨ne, fun c hc => ⟨Br.sqT_apart I q1 (hf c hc), ZL.sqL_apart I q2 (hf c hc)⟩⟩
    obtain ⟨n1, n2, n3, n4, n5, n6, n7, n8, n9, n10⟩ := ap.all
    refine znext ap ⟨h1, h2, h3, h4, h5, p1, p2⟩ (x := x') (y := y') (by simpa using hx') (by simpa using hy') fun g z1 o1 i1 i2 T1 sz kp => ?_
    refine ⟨_, rfl, wpAny_letOwnedTupleGo_zip z1 fun g' z2 k2 => ?_⟩
    have hfr : H s.heap.objs.size = none := I.hok.fresh (Nat.le_refl _)
    have lt : ∀ c ∈ [z, u, o, c1, c2], c < s.heap.objs.size := fun c hc => by
      simp only [List.mem_cons, List.mem_nil_iff, or_false] at hc
      rcases hc with rfl | rfl | rfl | rfl | rfl
      · exact Heap.lt_size h1
      · exact Heap.lt_size h2
      · obtain ⟨_, _, h3⟩ := h3; exact Heap.lt_size h3
      · obtain ⟨_, h4, _⟩ := h4; exact Heap.lt_size h4
      · obtain ⟨_, h5, _⟩ := h5; exact Heap.lt_size h5
    have all : ∀ c ob, c ∉ [z, u, o, c1, c2] → s.heap.get? c = some ob → g'.get? c = some ob := fun c ob hc q => by
      simp only [List.mem_cons, List.mem_nil_iff, or_false, not_or] at hc
      exact k2.extBut _ _ hc.1 (kp c ob hc.1 hc.2.2.1 hc.2.2.2.1 hc.2.2.2.2 q)
    have zl : z < s.heap.objs.size := lt z (by simp)
    have u' : IsPair g' u (.ref c1) (.ref c2) := k2.extBut _ _ (Ne.symm n1) (kp _ _ (Ne.symm n1) n5 n6 n7 h2)
    have o' : IsPair g' o x' y' := k2.extBut _ _ (Ne.symm n2) o1
    have i1' := i1.extBut k2.extBut (Ne.symm n3)
    have i2' := i2.extBut k2.extBut (Ne.symm n4)
    have T' : IsPair g' s.heap.objs.size x' y' := k2.extBut _ _ (Nat.ne_of_gt zl) T1
    have trk : ∀ c v, H c = some v → c ∉ [z, u, o, c1, c2] := fun c v q hc => by rw [(hf c hc).1] at q; cases q
    have I1 : Inv X pins σ (upd H s.heap.objs.size (.tup [x, y])) { s with heap := g' } := by
      refine I.step (g' := s.gens) (d' := s.drawn) (t' := s.toks) (ch := [z, u, o, c1, c2]) (fun c hc => ?_) (fun c ob _ _ hc q _ => all c ob hc q) (fun c ob _ _ hc q _ => ⟨ob.slots, all c ob hc q⟩) (fun c ob hc q n => ?_) (fun c ob hc q => ⟨ob, all c ob hc q⟩)
        (fun c v q => ?_) (fun c v v' q => ?_) (fun c v q => ⟨#[], ?_⟩) (fun m hm => ?_) (fun c v q => ?_) I.bare
      · obtain ⟨f0, f1, f2, f3, f4, f5⟩ := hf c hc
        exact ⟨f3, f1, f4, f5⟩
      · rw [upd_ne (Nat.ne_of_lt (Heap.lt_size q))]; exact n
      · rw [upd_ne (ne_of_none q hfr)]; exact q
      · rw [upd_ne (ne_of_none q hfr)]; exact q
      · rw [upd_ne (ne_of_none q hfr), q]; simp
      · obtain ⟨ob, es, ep, ho, r⟩ := hm
        exact ⟨ob, es, ep, all _ ob (fun hc => (hf _ hc).2.1 rfl) ho, r⟩
      · by_cases hcT : c = s.heap.objs.size
        · subst hcT
          rw [upd_same] at q; cases q
          exact ⟨by show 2 ≤ sizeLine; decide, [x', y'], .cons rx (.cons ry .nil), ⟨_, T', rfl, _, rfl⟩⟩
        · rw [upd_ne hcT] at q
          refine (I.hok c v q).stay (fun c' ob hc' q' => all c' ob ?_ q') (fun c' q' => by rw [upd_ne (ne_of_none q' hfr)]; exact q') fun c' vs q' => by rw [upd_ne (ne_of_none q' hfr)]; exact q'
          rcases hc' with e | e
          · rw [e]; exact trk c v q
          · exact trk c' _ e
    refine ⟨.ref s.heap.objs.size, _, I1, rfl, ⟨x, y, _, rfl, hfr, rfl, fun xs' ys' e1 e2 => ?_⟩, ⟨z2, u', ⟨_, _, o'⟩, i1', i2'⟩, fun c hc => ?_⟩
    · rw [I.tuple_inj e1 q1, I.list_inj e2 q2]; exact ⟨hx, hy⟩
    · rw [upd_ne (Nat.ne_of_lt (lt c hc))]; exact (hf c hc).1
  done := by
    intro X hP hw hK hc i pins s σ H E I hf st hg
    subst hP hw hK
    obtain ⟨h1, h2, h3, h4, h5⟩ := st
    obtain ⟨xs, ys, q1, q2, hend⟩ := hg
    obtain ⟨t1, r1, p1, l1⟩ := I.tuple q1
    obtain ⟨t2, r2, p2, l2⟩ := I.list q2
    have p2 := p2.isList
    have ap : Ap z u o c1 c2 a b := ⟨ne, fun c hc => ⟨Br.sqT_apart I q1 (hf c hc), ZL.sqL_apart I q2 (hf c hc)⟩⟩
    have e1 := r1.length
    have e2 := r2.length
    refine zstop (I.ok.hd hc) ap ⟨h1, h2, h3, h4, h5, p1, p2⟩ (by
      rcases hend with q | q
      · exact .inl (by simp; omega)
      · exact .inr (by simp; omega)) fun g kp => ⟨rfl, ?_⟩
    have all : ∀ c ob, c ∉ [z, u, o, c1, c2] → s.heap.get? c = some ob → g.get? c = some ob := fun c ob hc q => by
      simp only [List.mem_cons, List.mem_nil_iff, or_false, not_or] at hc
      exact kp c ob hc.1 hc.2.2.1 hc.2.2.2.1 hc.2.2.2.2 q
    have trk : ∀ c v, H c = some v → c ∉ [z, u, o, c1, c2] := fun c v q hc => by rw [(hf c hc).1] at q; cases q
    refine I.step (g' := s.gens) (d' := s.drawn) (t' := s.toks) (ch := [z, u, o, c1, c2]) (fun c hc => ?_) (fun c ob _ _ hc q _ => all c ob hc q) (fun c ob _ _ hc q _ => ⟨ob.slots, all c ob hc q⟩) (fun c ob hc q n => n) (fun c ob hc q => ⟨ob, all c ob hc q⟩)
      (fun c v q => q) (fun c v v' q => q) (fun c v q => ⟨#[], by rw [q]; simp⟩) (fun m hm => ?_) (fun c v q => ?_) I.bare
    · obtain ⟨f0, f1, f2, f3, f4, f5⟩ := hf c hc
      exact ⟨f3, f1, f4, f5⟩
    · obtain ⟨ob, es, ep, ho, r⟩ := hm
      exact ⟨ob, es, ep, all _ ob (fun hc => (hf _ hc).2.1 rfl) ho, r⟩
    · refine (I.hok c v q).stay (fun c' ob hc' q' => all c' ob ?_ q') (fun c' q' => q') fun c' vs q' => q'
      rcases hc' with e | e
      · rw [e]; exact trk c v q
      · exact trk c' _ e
  self := fun _ _ _ _ _ st h => wpAny_pyIter_zip st.1 h
theorem boot_zip : bootBuiltins "zip" = some (.type "zip") := by decide +kernel
def iZip (K : PySem.W.Frag) (ta : TA) : TI := fun σ H R => ta σ H fun vs H1 => ∃ a b xs ys, vs = [.ref a, .ref b] ∧ SqT K H1 a xs ∧ SqL K H1 b ys ∧ R (Itz K a b) H1
theorem pi_zip {X : Cx} {es : List Expr} {kt : Nat} {pt : Pos} {a b : Expr} {ta : TA} {p pos : Pos} (hg : Gl X "zip") (hm : X.mg "zip" = none) (ha : PA X [a, b] ta) (hs : starEach [a, b] X.env = [(false, eval a X.env), (false, eval b X.env)]) (hs2 : starEach [b] X.env = [(false, eval b X.env)]) :
    PI X (.Tuple es kt pt) (.Call (.Name "zip" p) [a, b] [] pos) (iZip X.K ta) := by
  intro pins s σ H R I h
  refine Call_ (ld_blt I hg hm boot_zip (PyProof.Rows.callWith_type1 (thn (ha pos pins s σ H _ I h) fun us s1 ⟨vs, H1, I1, r1, q1⟩ => ?_) (by rw [hs, hs2]) (by rw [hs2]; rfl)))
  obtain ⟨a, b, xs, ys, e, q1, q2, q⟩ := q1
  subst e
  cases r1 with
  | cons r rr =>
    cases rr with
    | cons r' rr =>
      cases rr
      cases r
      cases r'
      obtain ⟨t1, rv1, p1, l1⟩ := I1.tuple q1
      obtain ⟨t2, rv2, p2, l2⟩ := I1.list q2
      have p2 := p2.isList
      refine zmake p1 p2 fun g Z old => ?_
      have I2 : Inv X pins σ H1 { s1 with heap := g } := I1.kept (t' := s1.toks) old
      refine wpAny_pyIter_zip Z.zip ?_
      refine ⟨s1.heap.objs.size + 4, [s1.heap.objs.size + 4, s1.heap.objs.size + 2, s1.heap.objs.size + 3, s1.heap.objs.size, s1.heap.objs.size + 1], _, _, H1, rfl, I2, turn_zip ?_, ⟨Z.zip, Z.its, Z.own, Z.i1, Z.i2⟩, fun c hc => ?_, q⟩
      · simp only [List.nodup_cons, List.mem_cons, List.mem_nil_iff, or_false, not_or, List.nodup_nil, and_true, not_false_eq_true]
        refine ⟨⟨?_, ?_, ?_, ?_⟩, ⟨?_, ?_, ?_⟩, ⟨?_, ?_⟩, ?_⟩ <;> (intro z; have z : (_ : Nat) = _ := z; omega)
      · have hb : s1.heap.objs.size ≤ c := by
          simp only [List.mem_cons, List.mem_nil_iff, or_false] at hc
          rcases hc with rfl | rfl | rfl | rfl | rfl
          · exact Nat.le_add_right _ _
          · exact Nat.le_add_right _ _
          · exact Nat.le_add_right _ _
          · exact Nat.le_refl _
          · exact Nat.le_add_right _ _
        exact I1.fpOk hb (I1.hok.fresh hb)
theorem k_zip {X : Cx} {K : PySem.W.Frag} (hK : X.K = K) {x : Str} {es : List Expr} {kt : Nat} {pt : Pos} {a b : Expr} {ta : TA} {p pos : Pos} (hx : x = "zip") (hg : Gl X x) (hm : X.mg x = none) (hs : starEach [a, b] X.env = [(false, eval a X.env), (false, eval b X.env)]) (hs2 : starEach [b] X.env = [(false, eval b X.env)]) (ha : JA X [a, b] ta) :
    JI X (.Tuple es kt pt) (.Call (.Name x p) [a, b] [] pos) (iZip K ta) := hK ▸ ⟨by subst hx; exact pi_zip hg hm ha.h hs hs2⟩
section
variable {K : PySem.W.Frag} {a b : Addr} {xs ys : List V} {g : TG} {tt : TT} {te : TE} {σ0 : L2.St} {H0 : Hp} {Z : List V → Hp → Prop}
theorem cmp_zip {n : Nat} (hx : xs.length = n) (hy : ys.length = n) (hn : n ≤ 1000) (Pv : Nat → List V → L2.St → Hp → Prop) (h0 : Pv 0 [] σ0 H0) (hl : ∀ i zs σ H, i ≤ n → Pv i zs σ H → SqT K H a xs ∧ SqL K H b ys ∧ zs.length ≤ i)
    (hs : ∀ i x y zs σ H (T : Addr) (N : List V → L2.St → Hp → Prop), xs[i]? = some x → ys[i]? = some y → Pv i zs σ H → H T = none → (∀ zs' σ' H', Pv (i + 1) zs' σ' H' → N zs' σ' H') →
      g (.ref T) σ (upd H T (.tup [x, y])) fun σ3 H3 => tt σ3 H3 fun b H4 => if b = true then te σ3 H4 fun y H5 => N (zs ++ [y]) σ3 H5 else N zs σ3 H4)
    (hd : ∀ zs σ H, Pv n zs σ H → Z zs H) : Cmp (Itz K a b) g tt te σ0 H0 Z := by
  have hsz : (sizeLine : Nat) = 16777216 := sizeLine_eq
  refine ⟨fun i m zs σ H => m = n - i ∧ i ≤ n ∧ Pv i zs σ H, ⟨n, by simp, Nat.zero_le _, h0⟩, ?_⟩
  rintro i m zs σ H ⟨rfl, hi, p⟩
  obtain ⟨q1, q2, hy'⟩ := hl i zs σ H hi p
  refine ⟨by omega, ?_⟩
  by_cases hlt : i < n
  · have e1 : xs[i]? = some xs[i] := List.getElem?_eq_getElem (by omega)
    have e2 : ys[i]? = some ys[i] := List.getElem?_eq_getElem (by omega)
    refine .inr ⟨⟨xs, ys, _, _, q1, q2, e1, e2⟩, fun v H' yl => ?_⟩
    obtain ⟨x, y, T, rfl, hT, rfl, hxz⟩ := yl
    obtain ⟨e3, e4⟩ := hxz xs ys q1 q2
    exact hs i x y zs σ _ T (fun ys' σ' H' => ∃ m', m' < n - i ∧ m' = n - (i + 1) ∧ i + 1 ≤ n ∧ Pv (i + 1) ys' σ' H') e3 e4 p hT fun ys' σ' H' p' => ⟨n - (i + 1), by omega, rfl, hlt, p'⟩
  · have e : i = n := by omega
    subst e
    exact .inl ⟨⟨xs, ys, q1, q2, .inl (by omega)⟩, hd zs σ H p⟩
end
end ZT
end Br
namespace Br
namespace EL
open PySem PySem.Spec PySem.Calls PyProof.Rows L2
section
variable {prog : Program} {w : World} {A : Around} {E : Value → Shared → Prop} {s : Shared}
theorem drawsT (hh : A.handled = none) (c d : Addr) (hdc : d ≠ c) (xs : Array Value) :
    Draws prog w A c [c, d] xs.size (fun i x => xs[i]? = some x) (fun i h => h.IsListIter c d i ∧ h.IsList d xs) where
  live := fun i h st => let ⟨o, e, _⟩ := st.1; ⟨o, e⟩
  frame := fun i h h' st k => ⟨st.1.at fun ob q => k _ (by simp) ob q, let ⟨ob, q, r⟩ := st.2; ⟨ob, k _ (by simp) ob q, r⟩⟩
  item := fun i s Q E hi st go => by
    have hx : xs[i]? = some xs[i] := by simp [hi]
    exact ZL.tnext st.1 st.2 hx fun g j k => go _ g s.toks hx ⟨j, st.2.extBut k.extBut hdc⟩ k
  done := fun s Q E st go => ZL.tnone hh st.1 st.2 (by simp) fun g e k he => go g e k he
theorem enone {e c d : Addr} {xs : Array Value} {k : Nat} {old : Value} {Q : PySem.Fin → Shared → Prop} (hh : A.handled = none) (h1 : IsEnum s.heap e c k old) (h2 : s.heap.IsListIter c d k) (h3 : s.heap.IsList d xs) (hv : xs[k]? = none)
    (go : ∀ g x, Heap.ExtBut c s.heap g → (∃ ob, g.get? x = some ob ∧ ob.cls = .type "StopIteration") → E (.ref x) { s with heap := g }) :
    wpAny (model prog w) A (Builtin.«enumerate.__next__» ⟨[.ref e], []⟩) Q E s := by
  show wpAny _ _ (field (.ref e) 2 >>= _) _ _ _
  refine wpAny_bind (wpAny_field h1 rfl (x := .ref c) rfl ?_)
  exact wpAny_bind (ZL.tnone hh h2 h3 hv go)
theorem enext {e c d : Addr} {xs : Array Value} {k : Nat} {x old : Value} {Q : Option Value → Shared → Prop} (hh : A.handled = none) (n1 : e ≠ c) (n2 : d ≠ e) (n3 : d ≠ c) (h1 : IsEnum s.heap e c k old) (h2 : s.heap.IsListIter c d k) (h3 : s.heap.IsList d xs) (hx : xs[k]? = some x)
    (go : ∀ g tk, IsEnumOut g e c (k + 1) x s.heap.objs.size → g.IsListIter c d (k + 1) → IsPair g s.heap.objs.size (.int k tk) x → g.objs.size = s.heap.objs.size + 1 →
      (∀ b ob, b ≠ e → b ≠ c → s.heap.get? b = some ob → g.get? b = some ob) → Q (some (.ref s.heap.objs.size)) { s with heap := g, toks := tk + 1 }) : wpAny (model prog w) A (pyNext (.ref e)) Q E s := by
  have hT : s.TypeIs (.ref e) "enumerate" := ⟨_, h1, rfl⟩
  have hk : k < xs.size := by
    rcases Nat.lt_or_ge k xs.size with h | h
    · exact h
    · rw [Array.getElem?_eq_none h] at hx; cases hx
  unfold pyNext
  refine wpAny_bind (wpAny_attempt (wpAny_callSpecial?_slot (name := Str.ofString "__next__") hT F.slot_enumerate_next (wpAny_call_entry F.slot_enumerate_next hT F.entry_enumerate_next ?_ (F.args_enumerate_next_1 _))))
  refine enumerate_next_itemD (drawsT (A := A.in1) (show A.in1.handled = none from hh) c d n3 xs) h1 ⟨h2, h3⟩ hk n1 (by simp [n1, Ne.symm n2]) fun x' g tk px a1 a2 a3 a4 a5 => wpAny_pure ?_
  have : x' = x := by rw [px] at hx; exact Option.some.inj hx
  subst this
  exact go g tk a1 a2.1 a3 a4 a5
theorem estop {e c d : Addr} {xs : Array Value} {k : Nat} {old : Value} {Q : Option Value → Shared → Prop} (hh : A.handled = none) (h1 : IsEnum s.heap e c k old) (h2 : s.heap.IsListIter c d k) (h3 : s.heap.IsList d xs) (hv : xs[k]? = none)
    (go : ∀ g, Heap.ExtBut c s.heap g → Q none { s with heap := g }) : wpAny (model prog w) A (pyNext (.ref e)) Q E s := by
  have hT : s.TypeIs (.ref e) "enumerate" := ⟨_, h1, rfl⟩
  unfold pyNext
  refine wpAny_bind (wpAny_attempt (wpAny_callSpecial?_slot (name := Str.ofString "__next__") hT F.slot_enumerate_next (wpAny_call_entry F.slot_enumerate_next hT F.entry_enumerate_next (enone hh h1 h2 h3 hv fun g x hk he => ?_) (F.args_enumerate_next_1 _))))
  obtain ⟨ob, hob, hcb⟩ := he
  exact wpAny_bind (wpAny_isInstance (T := "StopIteration") (b := true) ⟨ob, hob, hcb⟩ isSubtype_stop (wpAny_pure (go _ hk)))
theorem wpAny_pureB {M : Model} {b : Bool} {Q : Bool → Shared → Prop} (h : ∀ b, Q b s) : wpAny M A (pure b) Q E s := wpAny_pure (h b)
theorem emeets (d : Addr) (xs : Array Value) : Meets (Builtin.«enumerate.__new__» ⟨[.type "enumerate", .ref d], []⟩) (fun _ R s => s.heap.IsList d xs ∧
    R (.ok (.ret (.ref (ZL.zh1 s.heap d).objs.size))) { s with heap := (ZL.zh1 s.heap d).push { cls := .type "enumerate", data := .fields #[.none, .bool false, .ref s.heap.objs.size, rawInt 0, .none, .none] } }) :=
  .of_wp fun prog w A R s h => by
    obtain ⟨hp, g, dr, tk, os⟩ := s
    obtain ⟨h1, h⟩ := h
    have hsub := sub_enumerate
    have q1 : Heap.IsList (Shared.heap ⟨hp, g, dr, tk, os⟩) d xs := h1
    wp_walk using wpAny_pyIter_list q1
    refine wpAny_stack_any fun st => wpAny_pureB fun bb => ?_
    cases bb
    · wp_walk using wpAny_pyIter_list q1
      exact ⟨_, rfl, h⟩
    · wp_walk using wpAny_pyIter_list q1
      exact ⟨_, rfl, h⟩
theorem emake {d : Addr} {xs : Array Value} {Q : Value → Shared → Prop} (h1 : s.heap.IsList d xs)
    (go : ∀ g, IsEnum g (s.heap.objs.size + 1) s.heap.objs.size 0 .none → g.IsListIter s.heap.objs.size d 0 → (∀ b ob, s.heap.get? b = some ob → g.get? b = some ob) → Q (.ref (s.heap.objs.size + 1)) { s with heap := g }) :
    wpAny (model prog w) A (call (.type "enumerate") [.ref d]) Q E s := by
  refine callType_new F.called_enumerate (by decide) (F.typeCall_enumerate_1 _) (F.newCall_enumerate_1 _) (fun obj => F.args_object_init_2 obj _) F.entry_enumerate_new (emeets d xs) ⟨h1, ?_⟩
  have s1 : (ZL.zh1 s.heap d).objs.size = s.heap.objs.size + 1 := Heap.size_push ..
  have g2 : ((ZL.zh1 s.heap d).push { cls := .type "enumerate", data := .fields #[.none, .bool false, .ref s.heap.objs.size, rawInt 0, .none, .none] }).get? (ZL.zh1 s.heap d).objs.size = some _ := Heap.get?_push_size _ rfl
  have g1 : ((ZL.zh1 s.heap d).push { cls := .type "enumerate", data := .fields #[.none, .bool false, .ref s.heap.objs.size, rawInt 0, .none, .none] }).get? s.heap.objs.size = some _ := Heap.get?_push_of_some _ (Heap.get?_push_size _ rfl)
  have old : ∀ b ob, s.heap.get? b = some ob → ((ZL.zh1 s.heap d).push { cls := .type "enumerate", data := .fields #[.none, .bool false, .ref s.heap.objs.size, rawInt 0, .none, .none] }).get? b = some ob := fun b ob q => Heap.get?_push_of_some _ (Heap.get?_push_of_some _ q)
  rw [s1] at g2
  have gz := go _ g2 ⟨_, g1, rfl, rfl⟩ old
  rw [s1]
  exact ⟨⟨_, g2, rfl⟩, gz⟩
end
def Ite (K : PySem.W.Frag) (a : Addr) : It :=
  ⟨fun i H => ∃ xs x, SqL K H a xs ∧ xs[i]? = some x,
   fun i H v H' => ∃ (x : V) (T : Addr), v = .ref T ∧ H T = none ∧ H' = upd H T (.tup [.int i, x]) ∧ ∀ xs, SqL K H a xs → xs[i]? = some x,
   fun i H => ∃ xs, SqL K H a xs ∧ xs.length ≤ i⟩
theorem turn_enum {P : Program} {w : World} {K : PySem.W.Frag} {es : List Expr} {kt : Nat} {pt : Pos} {e c a : Addr} (ne : e ≠ c) :
    Turn P w K (.Tuple es kt pt) (Ite K a) [e, c] e (fun i h => (∃ old, IsEnum h e c i old) ∧ h.IsListIter c a i) where
  mem := by simp
  obj := fun i h st b hb => by
    obtain ⟨⟨old, h1⟩, ⟨o4, h4, _, d4⟩⟩ := st
    simp only [List.mem_cons, List.mem_nil_iff, or_false] at hb
    rcases hb with rfl | rfl
    · exact ⟨_, h1, fun v q => by cases q⟩
    · exact ⟨_, h4, fun v q => by rw [d4] at q; cases q⟩
  keep := fun i h h' st k => by
    obtain ⟨⟨old, h1⟩, h4⟩ := st
    exact ⟨⟨old, k _ (by simp) _ h1⟩, h4.at fun ob q => k _ (by simp) ob q⟩
  item := by
    intro X hP hw hK hc i pins s σ H E I hf st hg
    subst hP hw hK
    obtain ⟨⟨old, h1⟩, h4⟩ := st
    obtain ⟨xs, x, q1, hx⟩ := hg
    obtain ⟨t1, r1, p1, l1⟩ := I.list q1
    have p1 := p1.isList
    obtain ⟨x', hx', rx⟩ := r1.get hx
    have ae : a ≠ e := ZL.sqL_apart I q1 (hf e (by simp))
    have ac : a ≠ c := ZL.sqL_apart I q1 (hf c (by simp))
    refine enext (I.ok.hd hc) ne ae ac h1 h4 p1 (x := x') (by simpa using hx') fun g tk z1 i1 T1 sz kp => ?_
    refine ⟨_, rfl, wpAny_letOwnedTupleGo_enum z1 fun g' z2 k2 => ?_⟩
    have hfr : H s.heap.objs.size = none := I.hok.fresh (Nat.le_refl _)
    have lt : ∀ b ∈ [e, c], b < s.heap.objs.size := fun b hb => by
      simp only [List.mem_cons, List.mem_nil_iff, or_false] at hb
      rcases hb with rfl | rfl
      · exact Heap.lt_size h1
      · obtain ⟨_, h4, _⟩ := h4; exact Heap.lt_size h4
    have all : ∀ b ob, b ∉ [e, c] → s.heap.get? b = some ob → g'.get? b = some ob := fun b ob hb q => by
      simp only [List.mem_cons, List.mem_nil_iff, or_false, not_or] at hb
      exact k2.extBut _ _ hb.1 (kp b ob hb.1 hb.2 q)
    have zl : e < s.heap.objs.size := lt e (by simp)
    have i1' := i1.extBut k2.extBut (Ne.symm ne)
    have T' : IsPair g' s.heap.objs.size (.int i tk) x' := k2.extBut _ _ (Nat.ne_of_gt zl) T1
    have trk : ∀ b v, H b = some v → b ∉ [e, c] := fun b v q hb => by rw [(hf b hb).1] at q; cases q
    have I1 : Inv X pins σ (upd H s.heap.objs.size (.tup [.int i, x])) { s with heap := g', toks := tk + 1 } := by
      refine I.step (g' := s.gens) (d' := s.drawn) (t' := tk + 1) (ch := [e, c]) (fun b hb => ?_) (fun b ob _ _ hb q _ => all b ob hb q) (fun b ob _ _ hb q _ => ⟨ob.slots, all b ob hb q⟩) (fun b ob hb q n => ?_) (fun b ob hb q => ⟨ob, all b ob hb q⟩)
        (fun b v q => ?_) (fun b v v' q => ?_) (fun b v q => ⟨#[], ?_⟩) (fun m hm => ?_) (fun b v q => ?_) I.bare
      · obtain ⟨f0, f1, f2, f3, f4, f5⟩ := hf b hb
        exact ⟨f3, f1, f4, f5⟩
      · rw [upd_ne (Nat.ne_of_lt (Heap.lt_size q))]; exact n
      · rw [upd_ne (ne_of_none q hfr)]; exact q
      · rw [upd_ne (ne_of_none q hfr)]; exact q
      · rw [upd_ne (ne_of_none q hfr), q]; simp
      · obtain ⟨ob, es, ep, ho, r⟩ := hm
        exact ⟨ob, es, ep, all _ ob (fun hb => (hf _ hb).2.1 rfl) ho, r⟩
      · by_cases hcT : b = s.heap.objs.size
        · subst hcT
          rw [upd_same] at q; cases q
          exact ⟨by show 2 ≤ sizeLine; decide, [.int i tk, x'], .cons ⟨tk, rfl⟩ (.cons rx .nil), ⟨_, T', rfl, _, rfl⟩⟩
        · rw [upd_ne hcT] at q
          refine (I.hok b v q).stay (fun c' ob hc' q' => all c' ob ?_ q') (fun c' q' => by rw [upd_ne (ne_of_none q' hfr)]; exact q') fun c' vs q' => by rw [upd_ne (ne_of_none q' hfr)]; exact q'
          rcases hc' with z | z
          · rw [z]; exact trk b v q
          · exact trk c' _ z
    refine ⟨.ref s.heap.objs.size, _, I1, rfl, ⟨x, _, rfl, hfr, rfl, fun xs' e1 => ?_⟩, ⟨⟨_, z2⟩, i1'⟩, fun b hb => ?_⟩
    · rw [I.list_inj e1 q1]; exact hx
    · rw [upd_ne (Nat.ne_of_lt (lt b hb))]; exact (hf b hb).1
  done := by
    intro X hP hw hK hc i pins s σ H E I hf st hg
    subst hP hw hK
    obtain ⟨⟨old, h1⟩, h4⟩ := st
    obtain ⟨xs, q1, hend⟩ := hg
    obtain ⟨t1, r1, p1, l1⟩ := I.list q1
    have p1 := p1.isList
    have e1 := r1.length
    refine estop (I.ok.hd hc) h1 h4 p1 (by simp; omega) fun g kp => ⟨rfl, ?_⟩
    have all : ∀ b ob, b ∉ [e, c] → s.heap.get? b = some ob → g.get? b = some ob := fun b ob hb q => by
      simp only [List.mem_cons, List.mem_nil_iff, or_false, not_or] at hb
      exact kp b ob hb.2 q
    have trk : ∀ b v, H b = some v → b ∉ [e, c] := fun b v q hb => by rw [(hf b hb).1] at q; cases q
    refine I.step (g' := s.gens) (d' := s.drawn) (t' := s.toks) (ch := [e, c]) (fun b hb => ?_) (fun b ob _ _ hb q _ => all b ob hb q) (fun b ob _ _ hb q _ => ⟨ob.slots, all b ob hb q⟩) (fun b ob hb q n => n) (fun b ob hb q => ⟨ob, all b ob hb q⟩)
      (fun b v q => q) (fun b v v' q => q) (fun b v q => ⟨#[], by rw [q]; simp⟩) (fun m hm => ?_) (fun b v q => ?_) I.bare
    · obtain ⟨f0, f1, f2, f3, f4, f5⟩ := hf b hb
      exact ⟨f3, f1, f4, f5⟩
    · obtain ⟨ob, es, ep, ho, r⟩ := hm
      exact ⟨ob, es, ep, all _ ob (fun hb => (hf _ hb).2.1 rfl) ho, r⟩
    · refine (I.hok b v q).stay (fun c' ob hc' q' => all c' ob ?_ q') (fun c' q' => q') fun c' vs q' => q'
      rcases hc' with z | z
      · rw [z]; exact trk b v q
      · exact trk c' _ z
  self := fun _ _ _ _ _ st h => by obtain ⟨⟨old, h1⟩, _⟩ := st; exact wpAny_pyIter_enum h1 h
theorem boot_enum : bootBuiltins "enumerate" = some (.type "enumerate") := by decide +kernel
def iEnum (K : PySem.W.Frag) (ta : TA) : TI := fun σ H R => ta σ H fun vs H1 => ∃ a xs, vs = [.ref a] ∧ SqL K H1 a xs ∧ R (Ite K a) H1
theorem pi_enum {X : Cx} {es : List Expr} {kt : Nat} {pt : Pos} {a : Expr} {ta : TA} {p pos : Pos} (hg : Gl X "enumerate") (hm : X.mg "enumerate" = none) (ha : PA X [a] ta) (hs : starEach [a] X.env = [(false, eval a X.env)]) :
    PI X (.Tuple es kt pt) (.Call (.Name "enumerate" p) [a] [] pos) (iEnum X.K ta) := by
  intro pins s σ H R I h
  refine Call_ (ld_blt I hg hm boot_enum (PyProof.Rows.callWith_type1 (thn (ha pos pins s σ H _ I h) fun us s1 ⟨vs, H1, I1, r1, q1⟩ => ?_) (by rw [hs]; rfl) rfl))
  obtain ⟨a, xs, e, q1, q⟩ := q1
  subst e
  cases r1 with
  | cons r rr =>
    cases rr
    cases r
    obtain ⟨t1, rv1, p1, l1⟩ := I1.list q1
    have p1 := p1.isList
    refine emake p1 fun g h1 h2 old => ?_
    have I2 : Inv X pins σ H1 { s1 with heap := g } := I1.kept (t' := s1.toks) old
    refine wpAny_pyIter_enum h1 ?_
    refine ⟨s1.heap.objs.size + 1, [s1.heap.objs.size + 1, s1.heap.objs.size], _, _, H1, rfl, I2, turn_enum ?_, ⟨⟨_, h1⟩, h2⟩, fun c hc => ?_, q⟩
    · intro z; have z : (_ : Nat) = _ := z; omega
    · have hb : s1.heap.objs.size ≤ c := by
        simp only [List.mem_cons, List.mem_nil_iff, or_false] at hc
        rcases hc with rfl | rfl
        · exact Nat.le_add_right _ _
        · exact Nat.le_refl _
      exact I1.fpOk hb (I1.hok.fresh hb)
theorem k_enum {X : Cx} {K : PySem.W.Frag} (hK : X.K = K) {x : Str} {es : List Expr} {kt : Nat} {pt : Pos} {a : Expr} {ta : TA} {p pos : Pos} (hx : x = "enumerate") (hg : Gl X x) (hm : X.mg x = none) (hs : starEach [a] X.env = [(false, eval a X.env)]) (ha : JA X [a] ta) :
    JI X (.Tuple es kt pt) (.Call (.Name x p) [a] [] pos) (iEnum K ta) := hK ▸ ⟨by subst hx; exact pi_enum hg hm ha.h hs⟩
section
variable {K : PySem.W.Frag} {a : Addr} {xs : List V} {g : TG} {tt : TT} {te : TE} {σ0 : L2.St} {H0 : Hp} {Z : List V → Hp → Prop}
theorem cmp_enum {n : Nat} (hx : xs.length = n) (hn : n ≤ 10000) (Pv : Nat → List V → L2.St → Hp → Prop) (h0 : Pv 0 [] σ0 H0) (hl : ∀ i ys σ H, i ≤ n → Pv i ys σ H → SqL K H a xs ∧ ys.length ≤ i)
    (hs : ∀ i x ys σ H (T : Addr) (N : List V → L2.St → Hp → Prop), xs[i]? = some x → Pv i ys σ H → H T = none → (∀ ys' σ' H', Pv (i + 1) ys' σ' H' → N ys' σ' H') →
      g (.ref T) σ (upd H T (.tup [.int i, x])) fun σ3 H3 => tt σ3 H3 fun b H4 => if b = true then te σ3 H4 fun y H5 => N (ys ++ [y]) σ3 H5 else N ys σ3 H4)
    (hd : ∀ ys σ H, Pv n ys σ H → Z ys H) : Cmp (Ite K a) g tt te σ0 H0 Z := by
  have hsz : (sizeLine : Nat) = 16777216 := sizeLine_eq
  refine ⟨fun i m ys σ H => m = n - i ∧ i ≤ n ∧ Pv i ys σ H, ⟨n, by simp, Nat.zero_le _, h0⟩, ?_⟩
  rintro i m ys σ H ⟨rfl, hi, p⟩
  obtain ⟨q1, hy⟩ := hl i ys σ H hi p
  refine ⟨by omega, ?_⟩
  by_cases hlt : i < n
  · have e1 : xs[i]? = some xs[i] := List.getElem?_eq_getElem (by omega)
    refine .inr ⟨⟨xs, _, q1, e1⟩, fun v H' yl => ?_⟩
    obtain ⟨x, T, rfl, hT, rfl, hxz⟩ := yl
    have e3 := hxz xs q1
    exact hs i x ys σ _ T (fun ys' σ' H' => ∃ m', m' < n - i ∧ m' = n - (i + 1) ∧ i + 1 ≤ n ∧ Pv (i + 1) ys' σ' H') e3 p hT fun ys' σ' H' p' => ⟨n - (i + 1), by omega, rfl, hlt, p'⟩
  · have e : i = n := by omega
    subst e
    exact .inl ⟨⟨xs, q1, by omega⟩, hd ys σ H p⟩
end
section
variable {K : PySem.W.Frag} {a : Addr} {xs : List V} {g : TG} {tb : TS} {D : Ends} {σ0 : L2.St} {H0 : Hp}
theorem for_enum (Pv : Nat → L2.St → Hp → Prop) (h0 : Pv 0 σ0 H0) (hl : ∀ i σ H, i ≤ xs.length → Pv i σ H → SqL K H a xs)
    (hs : ∀ i x σ H (T : Addr), xs[i]? = some x → Pv i σ H → H T = none → g (.ref T) σ (upd H T (.tup [.int i, x])) fun σ2 H2 => tb { D with nx := Pv (i + 1), ct := Pv (i + 1), bk := D.nx } σ2 H2)
    (hd : ∀ σ H, Pv xs.length σ H → D.nx σ H) :
    ∃ W : Nat → Nat → L2.St → Hp → Prop, (∃ m, W 0 m σ0 H0) ∧ ∀ i m σ H, W i m σ H →
      ((Ite K a).stop i H ∧ D.nx σ H) ∨ ((Ite K a).go i H ∧ ∃ N : L2.St → Hp → Prop, (∀ σ' H', N σ' H' → ∃ m', m' < m ∧ W (i + 1) m' σ' H') ∧ ∀ x H', (Ite K a).yld i H x H' → g x σ H' fun σ2 H2 => tb { D with nx := N, ct := N, bk := D.nx } σ2 H2) := by
  refine ⟨fun i m σ H => m = xs.length - i ∧ i ≤ xs.length ∧ Pv i σ H, ⟨xs.length, by simp, Nat.zero_le _, h0⟩, ?_⟩
  rintro i m σ H ⟨rfl, hi, p⟩
  have q := hl i σ H hi p
  by_cases hlt : i < xs.length
  · refine .inr ⟨⟨xs, xs[i], q, by simp [hlt]⟩, Pv (i + 1), fun σ' H' p' => ⟨xs.length - (i + 1), by omega, rfl, hlt, p'⟩, fun x H' y => ?_⟩
    obtain ⟨x, T, rfl, hT, rfl, hxz⟩ := y
    exact hs i x σ _ T (hxz xs q) p hT
  · have e : i = xs.length := by omega
    subst e
    exact .inl ⟨⟨xs, q, Nat.le_refl _⟩, hd σ H p⟩
end
end EL
end Br
namespace Br
open PySem PySem.Spec PySem.Calls PyProof.Rows L2
section
variable {X : Cx} {K : PySem.W.Frag} {e dv b value : Expr} {es : List Expr} {t : TA} {td ty tv : TE} {pos p kp pos' : Pos} {x nm : Str} {k : Nat}
end
section
variable {X : Cx} {K : PySem.W.Frag} {elt iter : Expr} {ifs : List Expr} {te : TE} {tt : TT} {wi : TI} {pos px py pz pt pt2 : Pos} {x y z : Str} {kt kt2 : Nat} {scope : Scope}
theorem k_comp12 (hK : X.K = K) (hc : X.calm = true) (S : compB X.env.scope.names X.N scope = true) (hs : ∀ x, foldedSetIterable iter X.env x = pure x) (hxy : [x, y, z].Nodup) (hx : scope.names.lookup x = some .local) (hy : scope.names.lookup y = some .local) (hz : scope.names.lookup z = some .local)
    (hi : JI X (.Tuple [.Name x px, .Tuple [.Name y py, .Name z pz] kt2 pt2] kt pt) iter wi) (ht : ∀ C s H fp, JIfs (cxC X [x, y, z] scope C s H fp) ifs tt) (he : ∀ C s H fp, JE (cxC X [x, y, z] scope C s H fp) elt te) :
    JE X (.ListComp elt [⟨.Tuple [.Name x px, .Tuple [.Name y py, .Name z pz] kt2 pt2] kt pt, iter, ifs, 0⟩] scope pos) (tComp 3 wi (gTup K 2 (gCons (gName 0) (gCons (gTup K 2 (gCons (gName 1) (gCons (gName 2) gNil))) gNil))) tt te) := by
  subst hK
  refine ⟨pe_comp (Nc := [x, y, z]) hc (.of S) hs hi.h (fun C s H fp => ?_) (fun C s H fp => (ht C s H fp).h) fun C s H fp => (he C s H fp).h⟩
  have nd : (cxC X [x, y, z] scope C s H fp).N.Nodup := by
    show ([x, y, z] ++ X.N.map (hid scope)).Nodup
    refine List.nodup_append.mpr ⟨hxy, (CompS.of S).nd, fun a ha b hb e => ?_⟩
    subst e
    simp only [List.mem_cons, List.mem_nil_iff, or_false] at ha
    rcases ha with rfl | rfl | rfl
    · exact not_mem_of (CompS.of S) hx hb
    · exact not_mem_of (CompS.of S) hy hb
    · exact not_mem_of (CompS.of S) hz hb
  exact pg_tup (X := cxC X [x, y, z] scope C s H fp) hc (pgs_cons (pg_name nd rfl (.inl (loc_C hx)) (.inr (loc_C hx))) (pgs_cons (pg_tup (X := cxC X [x, y, z] scope C s H fp) hc (pgs_cons (pg_name nd rfl (.inl (loc_C hy)) (.inr (loc_C hy))) (pgs_cons (pg_name nd rfl (.inl (loc_C hz)) (.inr (loc_C hz))) pgs_nil))) pgs_nil))
end
end Br
namespace Br
section
open PySem PyProof.Rows HT
theorem notlt (a c : Int) : (!decide (c < a)) = decide (a ≤ c) := by
  by_cases h : c < a
  · rw [decide_eq_true h, decide_eq_false (by omega)]; rfl
  · rw [decide_eq_false h, decide_eq_true (by omega)]; rfl
theorem rcLe_int (A : Around) (s : Shared) (a : Int) (t : Tok) (c : Int) (u : Tok) (prog : Program) (w : World) (E : Value → Shared → Prop) (Q : Value → Shared → Prop) (h : Q (.bool (decide (a ≤ c))) s) :
    wpAny (model prog w) A (richCompare .LtE (.int a t) (.int c u)) Q E s :=
  (PyProof.Rows.le_int h : wpAny (model prog w) A (compareOp .LtE (.int a t) (.int c u)) Q E s)
section
open PySem.SeqAt
open PySem.AutoSeq1 (wpAny_loadPart')
open PySem.MeetsSeq PySem.MeetsSeq2 PySem.MeetsSeq3
theorem tuple_le_ints (l b : Addr) (items items2 : Array Value) (n n2 : Nat) (dd dd2 : Option Addr) (sl sl2 : Array (Option Value)) (ns ms : List Int) (hi : IntsAre items.toList ns) (hj : IntsAre items2.toList ms) :
    Meets (Builtin.«tuple.__le__» ⟨[.ref l, .ref b], []⟩)
      (fun _ R s => s.heap.get? l = some { cls := .type "tuple", dict := dd, data := .seq items n, slots := sl } ∧ s.heap.get? b = some { cls := .type "tuple", dict := dd2, data := .seq items2 n2, slots := sl2 } ∧
        R (.ok (.ret (.bool (!lexLt ms ns)))) s) :=
  .of_wp fun prog w A R s h => by
    obtain ⟨hp, g, d, tk, os⟩ := s; obtain ⟨hl, hb, h⟩ := h
    have f2 := AutoSeq1.sub_tuple_tuple
    have z1 : items.size = ns.length := by rw [← hi.length]; simp
    have z2 : items2.size = ms.length := by rw [← hj.length]; simp
    wp_walk using wpAny_loadPart' hl, wpAny_loadPart' hb, wpAny_forIn_list _ (fun rest b s' => b.1 = none ∧ s' = ⟨hp, g, d, tk, os⟩ ∧ ∃ (vs ws : List Value) (ns' ms' : List Int), rest = vs.zip ws ∧
      IntsAre vs ns' ∧ IntsAre ws ms' ∧ ns'.length + items2.size = ms'.length + items.size ∧ R (.ok (.ret (.bool (!lexLt ms' ns')))) ⟨hp, g, d, tk, os⟩) _
    case turn =>
      rintro ⟨y, x⟩ rest b s' ⟨hb', rfl, vs, ws, ns', ms', hz, hvi, hwi, hlen, hR⟩
      cases hvi with
      | nil => rw [List.zip_nil_left] at hz; cases hz
      | cons a t hvi' =>
        cases hwi with
        | nil => rw [List.zip_nil_right] at hz; cases hz
        | cons c u hwi' =>
          rw [List.zip_cons_cons] at hz
          injection hz with hyx hrest
          injection hyx with hy hx
          subst hy hx
          rw [lexLt_cons] at hR
          simp only [List.length_cons] at hlen
          obtain ⟨e, he, hiff⟩ := eqAt_int A.in1 ⟨hp, g, d, tk, os⟩ a t c u
          refine wpAny_bind (he prog w _ _ ?_)
          cases e with
          | true =>
            rw [if_pos (hiff.mp rfl).symm] at hR
            wp_walk
            exact ⟨rfl, rfl, _, _, _, _, hrest, hvi', hwi', by omega, hR⟩
          | false =>
            rw [if_neg (fun q => absurd (hiff.mpr q.symm) Bool.false_ne_true), notlt] at hR
            have hri := rcLe_int A.in1 ⟨hp, g, d, tk, os⟩ a t c u prog w
            wp_walk using hri
            exact ⟨_, rfl, by simpa using hR⟩
    case fin =>
      rintro ⟨b1, b2⟩ s' ⟨hb', rfl, vs, ws, ns', ms', hz, hvi, hwi, hlen, hR⟩
      simp only at hb'
      subst hb'
      have hv : (!lexLt ms' ns') = decide (items.size ≤ items2.size) := by
        cases hvi with
        | nil =>
          cases hwi with
          | nil =>
            simp only [List.length_nil] at hlen
            rw [lexLt_nil_nil]
            exact (decide_eq_true (by omega)).symm
          | cons c u hw =>
            simp only [List.length_nil, List.length_cons] at hlen
            rw [lexLt_cons_nil]
            exact (decide_eq_true (by omega)).symm
        | cons a t hv =>
          cases hwi with
          | nil =>
            simp only [List.length_nil, List.length_cons] at hlen
            rw [lexLt_nil_cons]
            exact (decide_eq_false (by omega)).symm
          | cons c u hw =>
            rw [List.zip_cons_cons] at hz
            cases hz
      rw [hv] at hR
      wp_walk
      exact ⟨_, rfl, by simpa [Builtin.Tuple.tupleCompareSizes] using hR⟩
    case h =>
      exact ⟨rfl, rfl, items.toList, items2.toList, ns, ms, rfl, hi, hj, by omega, h⟩
end
section
variable {prog : Program} {w : World} {A : Around} {E : Value → Shared → Prop} {s : Shared}
theorem le_tupInts {l b : Addr} {items items2 : Array Value} {ns ms : List Int} {Q : Value → Shared → Prop} (hl : IsTup s.heap l items) (hb : IsTup s.heap b items2) (hi : IntsAre items.toList ns) (hj : IntsAre items2.toList ms)
    (hu : A.units < cLine) (h : Q (.bool (!lexLt ms ns)) s) : wpAny (model prog w) A (compareOp .LtE (.ref l) (.ref b)) Q E s := by
  obtain ⟨⟨cls, dd, data, sl⟩, ho, hc, n, hd⟩ := id hl
  obtain ⟨⟨cls2, dd2, data2, sl2⟩, ho2, hc2, n2, hd2⟩ := id hb
  simp only at hc hd hc2 hd2
  subst hc hd hc2 hd2
  exact richCompare_meets_room (op := .LtE) ⟨_, ho, rfl⟩ ⟨_, ho2, rfl⟩ PySem.F.slot_tuple_le PySem.F.entry_tuple_le (PySem.F.args_tuple_le_2 _ _) (tuple_le_ints l b items items2 n n2 dd dd2 sl sl2 ns ms hi hj)
    ⟨ho, ho2, show Value.bool (!lexLt ms ns) ≠ Value.notImplemented ∧ Q (.bool (!lexLt ms ns)) s from ⟨(fun x => nomatch x), h⟩⟩ hu
end
end
open PySem PySem.Spec PySem.Calls PyProof.Rows L2
def rLeT (K : PySem.W.Frag) : R2 := fun x y H Q => ∃ a b ns ms, x = .ref a ∧ y = .ref b ∧ SqT K H a (ns.map V.int) ∧ SqT K H b (ms.map V.int) ∧ Q (.bl (!HT.lexLt ms ns)) H
section
variable {X : Cx} {K : PySem.W.Frag} {k : Nat}
theorem op_leT (hr : Room k X.A) : OpR X (compareOp .LtE) (rLeT X.K) := fun pins s σ H x y v u Q I rx ry h => by
  obtain ⟨a, b, ns, ms, rfl, rfl, h1, h2, q⟩ := h
  cases rx; cases ry
  obtain ⟨its, r1, p1, _⟩ := I.tuple h1
  obtain ⟨its2, r2, p2, _⟩ := I.tuple h2
  have hu : X.A.units < cLine := by have := hr.un; omega
  exact le_tupInts p1 p2 (intsAre_of r1) (intsAre_of r2) hu ⟨.bl _, H, I, rfl, q⟩
theorem c_leT (hK : X.K = K) (hr : Room k X.A) : JCop X .LtE (fun x y H Q => rI0 (fun i j => .bl (decide (i ≤ j))) x y H Q ∨ rLeT K x y H Q) := hK ▸ ⟨op_le.or (op_leT hr)⟩
end
def tFs3 (a c : Str) (te : TE) : TE := fun σ H Q => te σ H fun v H1 => ∃ i : Int, v = .int i ∧ i.natAbs.log2 < 1920 ∧ (Str.empty ++ a).length ≤ sizeLine ∧ (Str.empty ++ a ++ toString i).length ≤ sizeLine ∧ (Str.empty ++ a ++ toString i ++ c).length ≤ sizeLine ∧ Q (.str (Str.empty ++ a ++ toString i ++ c)) H1
section
variable {X : Cx} {e : Expr} {te : TE} {pos p1 p2 p3 : Pos} {a c : Str} {q1 q3 : Nat}
theorem pe_fs3 (he : PE X e te) (hz : (Str.empty ++ a).length ≤ sizeLine) : PE X (.JoinedStr [.Constant (.str a) q1 p1, .FormattedValue e (-1) none p2, .Constant (.str c) q3 p3] pos) (tFs3 a c te) := fun pins s σ H Q I h => by
  refine JoinedStr_many ?_
  refine joinParts_cons (Calls.Constant_str ⟨hz, ?_⟩)
  refine joinParts_cons ?_
  refine FormattedValue_plain (thn (he pins _ σ H _ (I.tok _) h) fun v s1 ⟨x, H1, I1, r1, qq⟩ => ?_)
  obtain ⟨i, rfl, hd, _, z1, z2, qq⟩ := qq
  obtain ⟨t, rfl⟩ := r1
  exact formatField_int_small hd ⟨z1, joinParts_cons (Calls.Constant_str ⟨z2, joinParts_nil ⟨.str _, H1, ((I1.tok _).tok _).tok _, ⟨_, rfl⟩, qq⟩ z2⟩)⟩
theorem j_fs3 (hz : (Str.empty ++ a).length ≤ sizeLine) (he : JE X e te) : JE X (.JoinedStr [.Constant (.str a) q1 p1, .FormattedValue e (-1) none p2, .Constant (.str c) q3 p3] pos) (tFs3 a c te) := ⟨pe_fs3 he.h hz⟩
end
end Br
open PySem PySem.Spec PyProof.Rows L2 Br
local macro_rules | `(tactic| wtm_at "at") => `(tactic| first | exact At.here | (apply At.there; wtm_at "at") | fail)
local macro_rules | `(tactic| wtm_at "K") => `(tactic| first | exact cxC_K | exact cxC_K.trans cxC_K | rfl | fail)
local macro_rules | `(tactic| wtm_at "op") => `(tactic| first | (apply k_addA; wtm_at "K") | apply o_sub | apply o_mulI | apply o_mod | apply o_fdiv | apply o_pow | fail)
local macro_rules | `(tactic| wtm_at "cop") => `(tactic| first | apply c_eq | apply c_ne | apply c_lt | apply c_le | apply c_gt | apply c_ge | apply c_isnotN | apply c_is | (apply k_in; wtm_at "K") | (apply k_notin; wtm_at "K") | fail)
local macro_rules | `(tactic| wtm_at "pe") => `(tactic| first
  | apply j_int
  | (apply j_name; (wtm_at "at"); (rfl); (decide +kernel); (decide +kernel))
  | (apply j_cell; (wtm_at "at"); (rfl); (decide +kernel); (decide +kernel))
  | (apply j_repL; (wtm_at "pe"); (wtm_at "pe"))
  | (apply k_repT; (wtm_at "K"); (wtm_at "pe"); (wtm_at "pe"))
  | (apply j_bin; (wtm_at "op"); (wtm_at "pe"); (wtm_at "pe"))
  | (apply k_ix; (wtm_at "K"); (exact fun _ _ => rfl); (wtm_at "pe"); (wtm_at "pe"))
  | wtm_at "call"
  | (apply j_tup; (wtm_at "pa"))
  | (apply j_lst; (wtm_at "pa"))
  | (apply j_cmp; (decide); (decide); (wtm_at "cop"); (wtm_at "pe"); (wtm_at "pe"))
  | apply j_bl | apply j_non | apply j_str
  | (apply j_neg; (wtm_at "pe"))
  | (apply k_slS; (wtm_at "K"); (wtm_at "pe"); (wtm_at "po"); (wtm_at "po"))
  | (apply j_not; (wtm_at "pe"))
  | (apply j_one; (wtm_at "pe"))
  | (apply j_and; (wtm_at "pe"); (wtm_at "pe"))
  | (apply j_comp1; (rfl); (rfl); (intro _; rfl); (wtm_at "nd"); (rfl); (wtm_at "pi"); (intro cC cs cH cfp; wtm_at "pf"); (intro cC cs cH cfp; wtm_at "pe"))
  | (apply k_comp2; (wtm_at "K"); (rfl); (rfl); (intro _; rfl); (wtm_at "nd"); (decide +kernel); (rfl); (rfl); (wtm_at "pi"); (intro cC cs cH cfp; wtm_at "pf"); (intro cC cs cH cfp; wtm_at "pe"))
  | (apply j_const; (assumption); (rfl); (decide +kernel))
  | (apply j_cls; (assumption); (rfl); (decide +kernel))
  | (apply j_bty (T := "int"); (rfl); (assumption); (decide +kernel); (decide +kernel); (decide +kernel))
  | (apply j_bty (T := "bool"); (rfl); (assumption); (decide +kernel); (decide +kernel); (decide +kernel))
  | (apply j_bty (T := "tuple"); (rfl); (assumption); (decide +kernel); (decide +kernel); (decide +kernel))
  | (apply j_bty (T := "list"); (rfl); (assumption); (decide +kernel); (decide +kernel); (decide +kernel))
  | (apply j_bty (T := "ValueError"); (rfl); (assumption); (decide +kernel); (decide +kernel); (decide +kernel))
  | fail)
local macro_rules | `(tactic| wtm_at "call") => `(tactic| first
  | (apply k_extend; (wtm_at "K"); (rfl); (rfl); (rfl); (rfl); (rfl); (wtm_at "pe"); (wtm_at "pa"))
  | (apply k_append; (wtm_at "K"); (rfl); (rfl); (rfl); (rfl); (rfl); (wtm_at "pe"); (wtm_at "pa"))
  | (apply j_call; (assumption); (wtm_at "room"); (rfl); (decide +kernel); (rfl); (rfl); (wtm_at "pa"))
  | (apply k_isi; (wtm_at "K"); (rfl); (rfl); (rfl); (with_reducible rfl); (assumption); (wtm_at "pa"))
  | (apply k_len; (wtm_at "K"); (rfl); (rfl); (rfl); (with_reducible rfl); (assumption); (wtm_at "pa"))
  | (apply j_max; (rfl); (rfl); (rfl); (with_reducible rfl); (rfl); (assumption); (wtm_at "pa"))
  | (apply j_min; (rfl); (rfl); (rfl); (with_reducible rfl); (rfl); (assumption); (wtm_at "pa"))
  | (apply k_tuple; (rfl); (rfl); (rfl); (wtm_at "K"); (with_reducible rfl); (assumption); (wtm_at "pa"))
  | (apply k_sumS; (rfl); (rfl); (rfl); (wtm_at "K"); (with_reducible rfl); (rfl); (assumption); (wtm_at "pa"))
  | (apply k_all; (wtm_at "K"); (rfl); (rfl); (rfl); (with_reducible rfl); (rfl); (assumption); (wtm_at "pa"))
  | (apply j_callX; (assumption); (first | exact passF | exact passF0); (wtm_at "room"); (rfl); (decide +kernel); (rfl); (rfl); (wtm_at "pa"))
  | fail)
local macro_rules | `(tactic| wtm_at "roomH") => `(tactic| first | assumption | exact RoomH.mark (by assumption) (by decide) | exact RoomH.of (by assumption) (by decide) | exact RoomH.mono (by assumption) (by decide) | fail)
local macro_rules | `(tactic| wtm_at "room") => `(tactic| first | assumption | exact Room.mono (by assumption) (by decide) | fail)
local macro_rules | `(tactic| wtm_at "pa") => `(tactic| first | apply j_nil | (apply j_cons; (rfl); (wtm_at "pe"); (wtm_at "pa")) | fail)
local macro_rules | `(tactic| wtm_at "po") => `(tactic| first | apply j_onone | (apply j_osome; (wtm_at "pe")) | fail)
local macro_rules | `(tactic| wtm_at "pt") => `(tactic| first
  | (apply u_cmp; (decide); (decide); (wtm_at "cop"); (wtm_at "pe"); (wtm_at "pe"))
  | (apply u_or; (wtm_at "pw"))
  | (apply u_not; (wtm_at "pt"))
  | (apply u_call; (wtm_at "pe"))
  | fail)
local macro_rules | `(tactic| wtm_at "pw") => `(tactic| first
  | (apply w_or1; (wtm_at "pt"))
  | (apply w_or; (wtm_at "pt"); (wtm_at "pw"))
  | fail)
local macro_rules | `(tactic| wtm_at "pi") => `(tactic| first
  | (apply i_range1; (with_reducible rfl); (rfl); (assumption); (rfl); (wtm_at "pa"))
  | (apply k_zip; (wtm_at "K"); (with_reducible rfl); (rfl); (assumption); (rfl); (rfl); (wtm_at "pa"))
  | (apply k_seq; (wtm_at "K"); (wtm_at "pe"))
  | fail)
local macro_rules | `(tactic| wtm_at "pg") => `(tactic| first
  | (apply g_name; (wtm_at "at"); (assumption); (rfl))
  | (apply g_tup2; (wtm_at "at"); (wtm_at "at"); (rfl); (assumption); (rfl); (rfl); (rfl); (rfl); (rfl); (rfl))
  | (apply g_tup2C; (wtm_at "at"); (wtm_at "at"); (rfl); (assumption); (first | exact .inl rfl | exact .inr rfl); (first | exact .inl rfl | exact .inr rfl); (rfl); (rfl); (rfl); (rfl); (rfl); (rfl))
  | fail)
local macro_rules | `(tactic| wtm_at "ps") => `(tactic| first
  | (apply s_set; (wtm_at "at"); (assumption); (rfl); (rfl); (wtm_at "pe"))
  | (apply s_setC; (wtm_at "at"); (assumption); (rfl); (rfl); (rfl); (wtm_at "pe"))
  | (apply s_if; (wtm_at "pt"); (wtm_at "pss"); (wtm_at "pss"))
  | (apply s_ret; (wtm_at "pe"))
  | (apply s_for; (exact PassesOwn.never); (rfl); (intro _; rfl); (wtm_at "pi"); (wtm_at "pg"); (wtm_at "pss"))
  | (apply s_expr; (rfl); (wtm_at "pe"))
  | (apply s_compT; (rfl); (rfl); (intro _; rfl); (assumption); (decide +kernel); (rfl); (rfl); (intro _ _; rfl); (wtm_at "at"); (rfl); (rfl); (wtm_at "pi"); (intro cC cs cH cfp; wtm_at "pf"); (intro cC cs cH cfp; wtm_at "pi"); (intro cC cs cH cfp; wtm_at "pf"); (intro cC cs cH cfp; wtm_at "pe"))
  | (apply s_unpack2; (wtm_at "at"); (wtm_at "at"); (rfl); (assumption); (rfl); (rfl); (rfl); (rfl); (rfl); (rfl); (rfl); (rfl); (rfl); (wtm_at "pe"))
  | (apply s_ixset; (rfl); (rfl); (rfl); (intro _; rfl); (wtm_at "pe"); (wtm_at "pe"); (wtm_at "pe"))
  | (apply s_unpack3; (wtm_at "at"); (wtm_at "at"); (wtm_at "at"); (rfl); (assumption); (rfl); (rfl); (rfl); (rfl); (rfl); (rfl); (rfl); (rfl); (rfl); (rfl); (rfl); (wtm_at "pe"))
  | (apply s_raise; (assumption); (rfl); (rfl); (exact throwF); (decide +kernel); (rfl); (wtm_at "pe"))
  | (apply s_try; (assumption); (rfl); (rfl); (rfl); (assumption); (wtm_at "at"); (rfl); (rfl); (decide +kernel); (wtm_at "pssx"); (intro ea; wtm_at "pss"))
  | fail)
local macro_rules | `(tactic| wtm_at "nd") => `(tactic| first | assumption | decide +kernel | fail)
local macro_rules | `(tactic| wtm_at "pf") => `(tactic| first | apply f_nil | (apply f_one; (wtm_at "pt")) | fail)
local macro_rules | `(tactic| wtm_at "pss") => `(tactic| first
  | (apply ss_cons; (wtm_at "ps"); (wtm_at "pss"))
  | apply ss_nil
  | fail)
local macro_rules | `(tactic| wtm_at "pex") => `(tactic| first
  | (apply x_call; (assumption); (wtm_at "room"); (rfl); (decide +kernel); (rfl); (rfl); (rfl); (wtm_at "pa"))
  | fail)
local macro_rules | `(tactic| wtm_at "psx") => `(tactic| first
  | (apply x_expr; (rfl); (wtm_at "pex"))
  | (apply x_if; (wtm_at "pt"); (wtm_at "pssx"); (wtm_at "pssx"))
  | fail)
local macro_rules | `(tactic| wtm_at "pssx") => `(tactic| first
  | (apply xx_cons; (wtm_at "psx"); (wtm_at "pssx"))
  | apply xx_nil
  | fail)
local macro_rules | `(tactic| wtm_at "body") => `(tactic| (refine' ss_cons ?a ?b; (case a => wtm_at "ps"); (case b => wtm_at "pss")))
local macro_rules | `(tactic| wtm_at "side") => `(tactic| first
  | (with_reducible exact IntMulOk.of_right (by decide))
  | (with_reducible exact IntMulOk.of_left (by decide))
  | (with_reducible refine CMulB.ok (mulB ?_ ?_) <;> omega)
  | (with_reducible refine mulB ?_ ?_ <;> omega)
  | (with_reducible refine divB ?_ ?_ <;> omega)
  | (show (0 : Int) < _; omega)
  | (show (0 : Int) < _; decide)
  | (exact ⟨by omega, by omega, by omega⟩)
  | fail)
local macro_rules | `(tactic| wtm_at "rd1") => `(tactic| first
  | refine ⟨_, rfl, ?_⟩
  | (refine ⟨_, _, rfl, rfl, ?c, ?_⟩; (case c => wtm_at "side"))
  | refine ⟨_, _, rfl, rfl, ?_⟩
  | refine .inl ⟨_, _, rfl, rfl, ?_⟩
  | refine ⟨_, _, rfl, ?_⟩
  | fail)
local macro_rules | `(tactic| wtm_at "rd") => `(tactic| repeat wtm_at "rd1")
namespace K36
def top (i : Nat) : Stmt := PySem.Challenge.pw_brimyard_k36_too_many.main.body.getD i (.Pass ⟨0, 0, 0, 0⟩)
abbrev sPool : Stmt := top 57
abbrev sTake : Stmt := top 58
def Mo (ps : List Addr) (H H' : Hp) : Prop := ∀ b o, b ∉ ps → H b = some o → H' b = some o
theorem Mo.refl {ps : List Addr} {H : Hp} : Mo ps H H := fun _ _ _ e => e
theorem Mo.trans {ps : List Addr} {H H' H'' : Hp} (a : Mo ps H H') (b : Mo ps H' H'') : Mo ps H H'' := fun c o n e => b c o n (a c o n e)
theorem Mo.of {ps : List Addr} {H H' : Hp} (s : L2.Same H H') : Mo ps H H' := fun b o _ e => s b o e
theorem Mo.put {ps : List Addr} {H : Hp} {p : Addr} {o : HO} (hp : p ∈ ps) : Mo ps H (L2.upd H p o) := fun b u n e => by rw [upd_ne (fun z => n (by rw [z]; exact hp))]; exact e
theorem Mo.more {ps qs : List Addr} {H H' : Hp} (h : Mo ps H H') (s : ∀ b ∈ ps, b ∈ qs) : Mo qs H H' := fun b o n e => h b o (fun z => n (s b z)) e
def Pool (H : Hp) (p : Addr) : Prop := ∃ x : Int, H p = some (.lst [.int x]) ∧ 0 ≤ x
theorem Pool.same {H H' : Hp} {p : Addr} (h : Pool H p) (s : L2.Same H H') : Pool H' p := let ⟨x, e, a⟩ := h; ⟨x, s _ _ e, a⟩
section
variable {P : Program} {w : World} {K : PySem.W.Frag} {mg : Str → Option Value} {base : Heap}
theorem scTake : FnScope ["pool", "many", "digit"] ["pool", "many"] (defScope sTake) := ⟨rfl, rfl, rfl, by decide +kernel, rfl, by decide +kernel, by decide +kernel⟩
def spTake : Sp := fun vs H Q _ => ∃ (p : Addr) (m : Int), vs = [.ref p, .int m] ∧ Pool H p ∧ 0 < m ∧ m ≤ 10 ^ 13 ∧ ∀ (r : Int) (H' : Hp), Mo [p] H H' → Pool H' p → 0 ≤ r → r < m → Q (.int r) H'
theorem ok_take {f : Addr} {fd : FuncData} (F : Fun K "_law_take" "_law_take" sTake f fd) : FnOk P w K mg base CX0 1 f fd ["pool", "many"] spTake := by
  refine Br.Fun.j F scTake (fun vs H Q E h => ?_) (fun cdv A outer s H vs Q E hr h => ?_)
  · obtain ⟨_, _, rfl, _⟩ := h; rfl
  · obtain ⟨p, m, rfl, ⟨x, hp, hx⟩, hm, hm2, h⟩ := h
    have nd := scTake.nd
    refine' ⟨_, ?d, ?r⟩
    case d => wtm_at "body"
    case r =>
      refine ⟨_, rfl, .inl ⟨p, _, 0, _, rfl, rfl, SqL.of hp, (show atI [V.int x] 0 = some (.int x) from rfl), ?_⟩⟩
      wtm_at "rd"
      refine .inl ⟨p, _, 0, _, rfl, rfl, SqL.of hp, (show atI [V.int x] 0 = some (.int x) from rfl), ?_⟩
      refine ⟨_, rfl, _, _, rfl, rfl, divB hm (by omega), ?_⟩
      refine ⟨_, rfl, p, _, _, 0, rfl, rfl, hp, rfl, ?_⟩
      exact ⟨_, rfl, h _ _ (Mo.put (by simp)) ⟨x / m, upd_same, Int.ediv_nonneg hx (by omega)⟩ (Int.emod_nonneg _ (by omega)) (Int.emod_lt_of_pos _ hm)⟩
end
end K36
namespace K36
section
variable {P : Program} {w : World} {K : PySem.W.Frag} {mg : Str → Option Value} {base : Heap}
theorem scPool : FnScope ["script", "k", "cell", "number", "found", "turn"] ["script", "k"] (defScope sPool) := ⟨rfl, rfl, rfl, by decide +kernel, rfl, by decide +kernel, by decide +kernel⟩
def spPool (K : PySem.W.Frag) : Sp := fun vs H Q _ => ∃ (a : Addr) (ns : List Int) (k : Int), vs = [.ref a, .int k] ∧ SqL K H a (ns.map V.int) ∧ 0 ≤ k ∧ k < 1000 ∧ ∀ (p : Addr) (H' : Hp), H p = none → L2.Same H H' → Pool H' p → Q (.ref p) H'
theorem ok_pool {f : Addr} {fd : FuncData} (F : Fun K "_law_pool" "_law_pool" sPool f fd) (mR : mg "range" = none) (mL : mg "len" = none) : FnOk P w K mg base CX0 1 f fd ["script", "k"] (spPool K) := by
  refine Br.Fun.j F scPool (fun vs H Q E h => ?_) (fun cdv A outer s H vs Q E hr h => ?_)
  · obtain ⟨_, _, _, rfl, _⟩ := h; rfl
  · obtain ⟨a, ns, k, rfl, hS, hk, hk2, h⟩ := h
    have nd := scPool.nd
    refine' ⟨_, ?d, ?r⟩
    case d => wtm_at "body"
    case r =>
      refine ⟨fun σ' G => G = H ∧ ∃ c : Int, σ' = [some (.ref a), some (.int k), some (.int c), none, none, none], ?_, ?_⟩
      · refine ⟨_, rfl, _, rfl, .inl ⟨a, _, rfl, .inl hS, ?_⟩⟩
        wtm_at "rd"
        refine ite2 (fun hc => ?_) (fun hc => ?_)
        · have hc := of_decide_eq_true hc
          rw [List.length_map] at hc
          obtain ⟨z, _, _, ez⟩ := atI_ints (zs := ns) (i := k) hk hc
          wtm_at "rd"
          exact .inl ⟨a, _, _, _, rfl, rfl, hS, ez, rfl, z, rfl⟩
        · exact ⟨rfl, 0, rfl⟩
      · rintro σ' G ⟨eG, c, rfl⟩
        rw [eG]
        refine ⟨_, ?_, fun _ _ h => h⟩
        wtm_at "rd"
        refine ite2 (fun hc => ?_) (fun hc => ?_)
        · wtm_at "rd"
          refine ⟨by unfold IntMulOk; decide +kernel, ?_⟩
          have cp : CPow 10 60 := by wtm_at "side"
          refine ⟨_, _, rfl, rfl, cp, _, _, rfl, rfl, by unfold IntMulOk; decide +kernel, ?_⟩
          refine ⟨_, _, rfl, rfl, cp, _, _, rfl, rfl, by unfold IntMulOk; decide +kernel, ?_⟩
          refine ⟨_, _, rfl, rfl, cp, _, _, rfl, rfl, by unfold IntMulOk; decide +kernel, ?_⟩
          refine ⟨_, _, rfl, rfl, (show (0 : Int) < 10 ^ Int.toNat 60 * 10 ^ Int.toNat 60 * 10 ^ Int.toNat 60 * 10 ^ Int.toNat 60 * 10 ^ Int.toNat 60 by decide +kernel), ?_⟩
          exact ⟨lenLe (n := 1) rfl (by decide), fun p H' hp s' e' => h p H' hp s' ⟨_, e', Int.emod_nonneg _ (by decide +kernel)⟩⟩
        · wtm_at "rd"
          refine ⟨by decide, by decide, for_range (fun i σ G => G = H ∧ ∃ (nu fo : Int) (x : Option V), 0 ≤ nu ∧ 0 ≤ fo ∧ σ = [some (.ref a), some (.int k), some (.int c), some (.int nu), some (.int fo), x]) ⟨rfl, _, 0, none, Int.emod_nonneg _ (by decide), by decide, rfl⟩ ?_ ?_⟩
          · rintro i σ G hi ⟨eG, nu, fo, x, hnu, hfo, rfl⟩
            rw [eG]
            have hi30 : i < 30 := hi
            wtm_at "rd"
            refine ⟨rfl, _, _, _, Int.emod_nonneg _ (by decide), ?_, rfl⟩
            omega
          · rintro σ G ⟨eG, nu, fo, x, hnu, hfo, rfl⟩
            rw [eG]
            wtm_at "rd"
            exact ⟨lenLe (n := 1) rfl (by decide), fun p H' hp s' e' => h p H' hp s' ⟨_, e', hfo⟩⟩
end
end K36
namespace K36
def Kind (H : Hp) (v : V) (q : Int × Int) : Prop := ∃ r : Addr, v = .ref r ∧ H r = some (.tup [.int q.1, .int q.2])
def Kinds (H : Hp) (vs : List V) (qs : List (Int × Int)) : Prop := vs.length = qs.length ∧ ∀ (i : Nat) (v : V), vs[i]? = some v → ∃ q, qs[i]? = some q ∧ Kind H v q
def HeapAt (H : Hp) (h : Addr) (need : Int) (qs : List (Int × Int)) : Prop := ∃ (t : Addr) (vs : List V), H h = some (.tup [.int need, .ref t]) ∧ H t = some (.tup vs) ∧ Kinds H vs qs ∧ qs.length ≤ 8 ∧ 1 ≤ need ∧ need ≤ 10 ^ 12 ∧ ∀ q ∈ qs, 1 ≤ q.1 ∧ q.1 ≤ 10 ^ 12 ∧ 1 ≤ q.2 ∧ q.2 ≤ 10 ^ 12
theorem Kinds.mo {ps : List Addr} {H H' : Hp} {vs : List V} {qs : List (Int × Int)} (k : Kinds H vs qs) (m : ∀ b o, H b = some o → (∃ xs, o = .tup xs) → H' b = some o) : Kinds H' vs qs :=
  ⟨k.1, fun i v e => let ⟨q, h1, r, h2, h3⟩ := k.2 i v e; ⟨q, h1, r, h2, m _ _ h3 ⟨_, rfl⟩⟩⟩
def Tu (H H' : Hp) : Prop := ∀ b o, H b = some o → (∃ xs, o = .tup xs) → H' b = some o
theorem Tu.of {H H' : Hp} (s : L2.Same H H') : Tu H H' := fun b o e _ => s b o e
theorem Tu.trans {H H' H'' : Hp} (a : Tu H H') (b : Tu H' H'') : Tu H H'' := fun c o e x => b c o (a c o e x) x
theorem Tu.mo {p : Addr} {H H' : Hp} (hp : Pool H p) (m : Mo [p] H H') : Tu H H' := fun b o e x => by
  refine m b o (fun z => ?_) e
  rw [List.mem_singleton.mp z] at e
  obtain ⟨_, e2, _⟩ := hp
  obtain ⟨xs, rfl⟩ := x
  rw [e2] at e; cases e
theorem HeapAt.tu {H H' : Hp} {h : Addr} {need : Int} {qs : List (Int × Int)} (x : HeapAt H h need qs) (m : Tu H H') : HeapAt H' h need qs :=
  let ⟨t, vs, a, b, c, d⟩ := x; ⟨t, vs, m _ _ a ⟨_, rfl⟩, m _ _ b ⟨_, rfl⟩, c.mo (ps := []) m, d⟩
def prodc : List (Int × Int) → Int
  | [] => 1
  | q :: ks => (q.2 + 1) * prodc ks
theorem prodc_app : ∀ (ks : List (Int × Int)) (q : Int × Int), prodc (ks ++ [q]) = prodc ks * (q.2 + 1)
  | [], q => by show (q.2 + 1) * 1 = 1 * (q.2 + 1); omega
  | r :: ks, q => by
    show (r.2 + 1) * prodc (ks ++ [q]) = (r.2 + 1) * prodc ks * (q.2 + 1)
    rw [prodc_app ks q, Int.mul_assoc]
theorem prodc_big : ∀ {qs : List (Int × Int)}, (∀ q ∈ qs, 1 ≤ q.2 ∧ q.2 ≤ 10 ^ 12) → 1 ≤ prodc qs ∧ prodc qs ≤ (10 ^ 12 + 1) ^ qs.length
  | [], _ => ⟨by decide, by decide⟩
  | q :: qs, h => by
    have ih := prodc_big (qs := qs) fun x hx => h x (.tail _ hx)
    have hq := h q (.head _)
    refine ⟨?_, ?_⟩
    · show 1 ≤ (q.2 + 1) * prodc qs
      have := Int.mul_le_mul (show (1 : Int) ≤ q.2 + 1 by omega) ih.1 (by decide) (by omega)
      omega
    · show (q.2 + 1) * prodc qs ≤ _
      rw [List.length_cons, Int.pow_succ, Int.mul_comm]
      exact Int.mul_le_mul ih.2 (by omega) (by omega) (Int.pow_nonneg (by decide))
theorem prodc_hundred {qs : List (Int × Int)} (h : ∀ q ∈ qs, 1 ≤ q.2 ∧ q.2 ≤ 10 ^ 12) (h8 : qs.length ≤ 8) : prodc qs ≤ 10 ^ 100 := by
  have h1 := (prodc_big h).2
  have h3 : ∀ n : Nat, n < 9 → ((10 : Int) ^ 12 + 1) ^ n ≤ 10 ^ 100 := by decide +kernel
  have := h3 qs.length (by omega)
  omega
theorem mulH {i j : Int} (h0 : 0 ≤ i) (h1 : i ≤ 10 ^ 100) (h2 : 0 ≤ j) (h3 : j ≤ 10 ^ 100) : CMulB i j := by
  have e : (10 : Nat) ^ 100 < 2 ^ 8000 := by decide +kernel
  exact ⟨Nat.lt_of_le_of_lt (show i.natAbs ≤ 10 ^ 100 by omega) e, Nat.lt_of_le_of_lt (show j.natAbs ≤ 10 ^ 100 by omega) e⟩
end K36
namespace K36
def ext (m : Nat) (w : List Int) : List (List Int) := (List.range (m + 1)).map fun t : Nat => w ++ [(t : Int)]
theorem ext_len (m : Nat) (w : List Int) : (ext m w).length = m + 1 := by unfold ext; rw [List.length_map, List.length_range]
theorem ext_at {m t : Nat} (w : List Int) (h : t ≤ m) : (ext m w)[t]? = some (w ++ [(t : Int)]) := by
  unfold ext; rw [List.getElem?_map, List.getElem?_range (by omega)]; rfl
def step (acc : List (List Int)) (m : Nat) : List (List Int) := acc.flatMap (ext m)
def waysL (ms : List Nat) : List (List Int) := ms.foldl step [[]]
theorem waysL_take {ms : List Nat} {n m : Nat} (h : ms[n]? = some m) : waysL (ms.take (n + 1)) = (waysL (ms.take n)).flatMap (ext m) := by
  unfold waysL
  rw [List.take_add_one, h, List.foldl_append]; rfl
theorem step_len (m : Nat) : ∀ acc : List (List Int), (step acc m).length = acc.length * (m + 1)
  | [] => by simp [step]
  | a :: acc => by
    have ih := step_len m acc
    unfold step at ih ⊢
    rw [List.flatMap_cons, List.length_append, ih, ext_len, List.length_cons, Nat.succ_mul, Nat.add_comm]
def prodN : List Nat → Nat
  | [] => 1
  | m :: ms => (m + 1) * prodN ms
theorem ways_len : ∀ (ms : List Nat) (acc : List (List Int)), (ms.foldl step acc).length = acc.length * prodN ms
  | [], acc => by simp [prodN]
  | m :: ms, acc => by
    rw [List.foldl_cons, ways_len ms (step acc m), step_len, Nat.mul_assoc]; rfl
theorem prodN_pos : ∀ ms : List Nat, 1 ≤ prodN ms
  | [] => Nat.le_refl _
  | m :: ms => Nat.mul_le_mul (Nat.succ_le_succ (Nat.zero_le m)) (prodN_pos ms)
theorem prodN_take : ∀ (ms : List Nat) (n : Nat), prodN (ms.take n) ≤ prodN ms
  | [], n => by rw [List.take_nil]; exact Nat.le_refl _
  | m :: ms, 0 => prodN_pos _
  | m :: ms, n + 1 => Nat.mul_le_mul_left _ (prodN_take ms n)
theorem le_prodN : ∀ {ms : List Nat} {m : Nat}, m ∈ ms → m + 1 ≤ prodN ms
  | a :: ms, m, h => by
    show m + 1 ≤ (a + 1) * prodN ms
    rcases List.mem_cons.mp h with e | e
    · subst e; exact Nat.le_mul_of_pos_right _ (prodN_pos ms)
    · exact Nat.le_trans (le_prodN e) (Nat.le_mul_of_pos_left _ (Nat.succ_pos a))
theorem fm_get {m t : Nat} (ht : t ≤ m) : ∀ {acc : List (List Int)} {i : Nat} {w : List Int}, acc[i]? = some w → (acc.flatMap (ext m))[i * (m + 1) + t]? = some (w ++ [(t : Int)])
  | a :: acc, 0, w, h => by
    simp at h; subst h
    rw [List.flatMap_cons, List.getElem?_append_left (by rw [ext_len]; omega), Nat.zero_mul, Nat.zero_add]
    exact ext_at a ht
  | a :: acc, i + 1, w, h => by
    have ih := fm_get ht (acc := acc) (i := i) (w := w) (by simpa using h)
    rw [List.flatMap_cons, List.getElem?_append_right (by rw [ext_len, Nat.succ_mul]; omega), ext_len, Nat.succ_mul, show i * (m + 1) + (m + 1) + t - (m + 1) = i * (m + 1) + t by omega]
    exact ih
theorem fm_inv {m : Nat} : ∀ {acc : List (List Int)} {k : Nat} {u : List Int}, (acc.flatMap (ext m))[k]? = some u → ∃ i t w, t ≤ m ∧ acc[i]? = some w ∧ u = w ++ [(t : Int)] ∧ k = i * (m + 1) + t
  | [], k, u, h => by simp at h
  | a :: acc, k, u, h => by
    rw [List.flatMap_cons] at h
    by_cases hk : k < m + 1
    · rw [List.getElem?_append_left (by rw [ext_len]; exact hk), ext_at a (by omega)] at h
      cases h
      exact ⟨0, k, a, by omega, rfl, rfl, by omega⟩
    · rw [List.getElem?_append_right (by rw [ext_len]; omega), ext_len] at h
      obtain ⟨i, t, w, h1, h2, h3, h4⟩ := fm_inv h
      exact ⟨i + 1, t, w, h1, by simpa using h2, h3, by rw [Nat.succ_mul]; omega⟩
structure WOk (ms : List Nat) (n : Nat) : Prop where
  len : ∀ (i : Nat) w, (waysL (ms.take n))[i]? = some w → w.length = n
  bd : ∀ (i : Nat) w (j : Nat) (x : Int), (waysL (ms.take n))[i]? = some w → w[j]? = some x → 0 ≤ x ∧ ∃ m, ms[j]? = some m ∧ x ≤ m
  prev : ∀ (i : Nat) w (j : Nat) (x : Int), (waysL (ms.take n))[i]? = some w → w[j]? = some x → 0 < x → ∃ i' : Nat, i' < i ∧ (waysL (ms.take n))[i']? = some (w.set j (x - 1))
  all : ∀ w : List Int, w.length = n → (∀ (j : Nat) (x : Int), w[j]? = some x → 0 ≤ x ∧ ∃ m, ms[j]? = some m ∧ x ≤ m) → ∃ i : Nat, (waysL (ms.take n))[i]? = some w
theorem ways_ok (ms : List Nat) : ∀ n, n ≤ ms.length → WOk ms n
  | 0, _ => by
    have e : waysL (ms.take 0) = [[]] := rfl
    refine ⟨fun i w h => ?_, fun i w j x h h2 => ?_, fun i w j x h h2 => ?_, fun w h _ => ⟨0, ?_⟩⟩
    · rw [e] at h; cases i with
      | zero => simp at h; rw [h]; rfl
      | succ i => simp at h
    · rw [e] at h; cases i with
      | zero => simp at h; rw [h] at h2; simp at h2
      | succ i => simp at h
    · rw [e] at h; cases i with
      | zero => simp at h; rw [h] at h2; simp at h2
      | succ i => simp at h
    · rw [e, List.length_eq_zero_iff.mp h]; rfl
  | n + 1, hn => by
    obtain ⟨m, hm⟩ : ∃ m, ms[n]? = some m := ⟨_, List.getElem?_eq_getElem (by omega)⟩
    have ih := ways_ok ms n (by omega)
    have e := waysL_take hm
    refine ⟨fun k u h => ?_, fun k u j x h h2 => ?_, fun k u j x h h2 h0 => ?_, fun u hu hb => ?_⟩
    · rw [e] at h
      obtain ⟨i, t, w, h1, h2, rfl, rfl⟩ := fm_inv h
      rw [List.length_append, ih.len i w h2]; rfl
    · rw [e] at h
      obtain ⟨i, t, w, h1, hw, rfl, rfl⟩ := fm_inv h
      have hl := ih.len i w hw
      by_cases hj : j < n
      · rw [List.getElem?_append_left (by omega)] at h2
        exact ih.bd i w j x hw h2
      · have hj : j = n := by have := (List.getElem?_eq_some_iff.mp h2).1; rw [List.length_append, hl] at this; simp at this; omega
        subst hj
        rw [List.getElem?_append_right (by omega), hl, Nat.sub_self] at h2
        simp at h2
        exact ⟨by omega, m, hm, by omega⟩
    · rw [e] at h ⊢
      obtain ⟨i, t, w, h1, hw, rfl, rfl⟩ := fm_inv h
      have hl := ih.len i w hw
      by_cases hj : j < n
      · rw [List.getElem?_append_left (by omega)] at h2
        obtain ⟨i', hi', hw'⟩ := ih.prev i w j x hw h2 h0
        refine ⟨i' * (m + 1) + t, ?_, ?_⟩
        · have : (i' + 1) * (m + 1) ≤ i * (m + 1) := Nat.mul_le_mul_right _ hi'
          rw [Nat.succ_mul] at this; omega
        · rw [fm_get h1 hw', List.set_append_left _ _ (by omega)]
      · have hj : j = n := by have := (List.getElem?_eq_some_iff.mp h2).1; rw [List.length_append, hl] at this; simp at this; omega
        subst hj
        rw [List.getElem?_append_right (by omega), hl, Nat.sub_self] at h2
        simp at h2
        refine ⟨i * (m + 1) + (t - 1), by omega, ?_⟩
        rw [fm_get (by omega) hw, List.set_append_right _ _ (by omega), hl, Nat.sub_self]
        simp
        omega
    · have hlt : n < u.length := by omega
      obtain ⟨x, hx⟩ : ∃ x, u[n]? = some x := ⟨_, List.getElem?_eq_getElem hlt⟩
      obtain ⟨x0, m', hm', x1⟩ := hb n x hx
      rw [hm] at hm'; cases hm'
      obtain ⟨i, hi⟩ := ih.all (u.take n) (by rw [List.length_take]; omega) fun j y hy => by
        have hjn : j < n := by have := (List.getElem?_eq_some_iff.mp hy).1; rw [List.length_take] at this; omega
        rw [List.getElem?_take_of_lt hjn] at hy
        exact hb j y hy
      refine ⟨i * (m + 1) + x.toNat, ?_⟩
      rw [e, fm_get (by omega) hi, Int.toNat_of_nonneg x0]
      have : u.take (n + 1) = u := List.take_of_length_le (by omega)
      rw [List.take_add_one, hx] at this
      exact congrArg some this
inductive Al (H : Hp) : List Addr → List (List Int) → Prop
  | nil : Al H [] []
  | cons {a : Addr} {w : List Int} {as : List Addr} {ws : List (List Int)} : H a = some (.tup (w.map V.int)) → Al H as ws → Al H (a :: as) (w :: ws)
theorem Al.tu {H H' : Hp} (m : Tu H H') {as : List Addr} {ws : List (List Int)} (h : Al H as ws) : Al H' as ws := by
  induction h with
  | nil => exact .nil
  | cons e _ ih => exact .cons (m _ _ e ⟨_, rfl⟩) ih
theorem Al.app {H : Hp} {as bs : List Addr} {ws zs : List (List Int)} (h : Al H as ws) (k : Al H bs zs) : Al H (as ++ bs) (ws ++ zs) := by
  induction h with
  | nil => exact k
  | cons e _ ih => exact .cons e ih
theorem Al.len {H : Hp} {as : List Addr} {ws : List (List Int)} (h : Al H as ws) : as.length = ws.length := by
  induction h with
  | nil => rfl
  | cons _ _ ih => rw [List.length_cons, List.length_cons, ih]
theorem Al.get {H : Hp} {as : List Addr} {ws : List (List Int)} (h : Al H as ws) : ∀ {i : Nat} {a : Addr}, as[i]? = some a → ∃ w, ws[i]? = some w ∧ H a = some (.tup (w.map V.int)) := by
  induction h with
  | nil => intro i a e; simp at e
  | cons e _ ih =>
    intro i a h
    cases i with
    | zero => simp at h; subst h; exact ⟨_, rfl, e⟩
    | succ i => exact ih (by simpa using h)
def cnts (qs : List (Int × Int)) : List Nat := qs.map fun q => q.2.toNat
theorem ways_few {ms : List Nat} {n : Nat} (h : prodN ms ≤ 2000) : (waysL (ms.take n)).length ≤ 2000 := by
  unfold waysL
  rw [ways_len, List.length_singleton, Nat.one_mul]
  exact Nat.le_trans (prodN_take ms n) h
end K36
namespace K36
section
local macro_rules | `(tactic| wtm_at "ps") => `(tactic| first | (apply s_augM; (wtm_at "at"); (assumption); (first | exact .inl rfl | exact .inr rfl | rfl); (rfl); (wtm_at "pe")))
variable {P : Program} {w : World} {K : PySem.W.Frag} {mg : Str → Option Value} {base : Heap}
abbrev sNWays : Stmt := top 28
theorem prodc_pos : ∀ {ks : List (Int × Int)}, (∀ q ∈ ks, 1 ≤ q.2) → 1 ≤ prodc ks
  | [], _ => by decide
  | q :: ks, h => by
    have ih := prodc_pos (ks := ks) fun x hx => h x (.tail _ hx)
    have := h q (.head _)
    have : 1 * 1 ≤ (q.2 + 1) * prodc ks := Int.mul_le_mul (by omega) ih (by decide) (by omega)
    show 1 ≤ (q.2 + 1) * prodc ks
    omega
theorem prodc_le : ∀ (qs : List (Int × Int)) (n : Nat), (∀ q ∈ qs, 1 ≤ q.2) → prodc (qs.take n) ≤ prodc qs := fun qs n h => by
  have app : ∀ l r : List (Int × Int), prodc (l ++ r) = prodc l * prodc r := fun l r => by
    induction l with
    | nil => show prodc r = 1 * prodc r; omega
    | cons q l ih => show (q.2 + 1) * prodc (l ++ r) = (q.2 + 1) * prodc l * prodc r; rw [ih, Int.mul_assoc]
  have e := app (qs.take n) (qs.drop n)
  rw [List.take_append_drop] at e
  rw [e]
  have p1 := prodc_pos (ks := qs.take n) fun q hq => h q (List.mem_of_mem_take hq)
  have p2 := prodc_pos (ks := qs.drop n) fun q hq => h q (List.mem_of_mem_drop hq)
  have := Int.mul_le_mul_of_nonneg_left p2 (show 0 ≤ prodc (qs.take n) by omega)
  omega
theorem scNWays : FnScope ["kinds", "ways", "size", "many"] ["kinds"] (defScope sNWays) := ⟨rfl, rfl, rfl, by decide +kernel, rfl, by decide +kernel, by decide +kernel⟩
def spNWays (K : PySem.W.Frag) : Sp := fun vs H Q _ => ∃ (t : Addr) (us : List V) (qs : List (Int × Int)), vs = [.ref t] ∧ SqT K H t us ∧ Kinds H us qs ∧ (∀ q ∈ qs, 1 ≤ q.2 ∧ q.2 ≤ 10 ^ 12) ∧ prodc qs ≤ 10 ^ 100 ∧ Q (.int (prodc qs)) H
theorem ok_nways {f : Addr} {fd : FuncData} (F : Fun K "number_of_ways" "number_of_ways" sNWays f fd) : FnOk P w K mg base CX0 1 f fd ["kinds"] (spNWays K) := by
  refine Br.Fun.j F scNWays (fun vs H Q E h => ?_) (fun cdv A outer s H vs Q E hr h => ?_)
  · obtain ⟨_, _, _, rfl, _⟩ := h; rfl
  · obtain ⟨t, us, qs, rfl, ht, hk, hq, hp, h⟩ := h
    have nd := scNWays.nd
    have hkl := hk.1
    refine' ⟨_, ?d, ?r⟩
    case d => wtm_at "body"
    case r =>
      refine ⟨_, rfl, t, rfl, .inr ⟨⟨_, ht⟩, ?_⟩⟩
      refine for_tup (K := K) (a := t) (xs := us) (fun i σ G => G = H ∧ ∃ x2 x3 : Option V, σ = [some (.ref t), some (.int (prodc (qs.take i))), x2, x3]) ⟨rfl, none, none, rfl⟩ (fun i σ G _ ⟨e, _⟩ => by rw [e]; exact ht) ?_ ?_
      · rintro i x σ G hx ⟨rfl, x2, x3, rfl⟩
        obtain ⟨q, hqi, r, rfl, hrr⟩ := hk.2 i x hx
        obtain ⟨q1, q2⟩ := hq q (List.mem_of_getElem? hqi)
        have b1 := prodc_pos (ks := qs.take i) fun x hx => (hq x (List.mem_of_mem_take hx)).1
        have b2 := prodc_le qs i fun x hx => (hq x hx).1
        refine ⟨r, _, rfl, SqT.of hrr, rfl, _, _, rfl, _, _, rfl, rfl, ?_⟩
        refine ⟨_, rfl, _, rfl, .inl ⟨_, _, rfl, rfl, _, _, rfl, rfl, CMulB.ok (mulH (by omega) (by omega) (by omega) (by omega)), rfl, some (.int q.1), some (.int q.2), ?_⟩⟩
        rw [List.take_add_one, hqi, show (some q).toList = [q] from rfl, prodc_app]; rfl
      · rintro σ G ⟨rfl, x2, x3, rfl⟩
        rw [hkl, List.take_length]
        exact ⟨_, rfl, h⟩
end
end K36
namespace K36
section
local macro_rules | `(tactic| wtm_at "ps") => `(tactic| fail)
variable {P : Program} {w : World} {K : PySem.W.Frag} {mg : Str → Option Value} {base : Heap}
abbrev sNThings : Stmt := top 22
abbrev sRefuse : Stmt := top 24
theorem scNThings : FnScope ["heap"] ["heap"] (defScope sNThings) := ⟨rfl, rfl, rfl, by decide +kernel, rfl, by decide +kernel, by decide +kernel⟩
def spNThings : Sp := fun vs H Q _ => ∃ (h : Addr) (need : Int) (qs : List (Int × Int)), vs = [.ref h] ∧ HeapAt H h need qs ∧ ∀ H', L2.Same H H' → Q (.int (qs.map (·.2)).sum) H'
theorem ok_nthings {f : Addr} {fd : FuncData} (F : Fun K "number_of_things" "number_of_things" sNThings f fd) (mU : mg "sum" = none) : FnOk P w K mg base CX0 1 f fd ["heap"] spNThings := by
  refine Br.Fun.j F scNThings (fun vs H Q E h => ?_) (fun cdv A outer s H vs Q E hr h => ?_)
  · obtain ⟨_, _, _, rfl, _⟩ := h; rfl
  · obtain ⟨hp, need, qs, rfl, ⟨t, us, h1, h2, h3, h4, h5, h6, h7⟩, h⟩ := h
    have nd := scNThings.nd
    have hul := h3.1
    have hsz : (sizeLine : Nat) = 16777216 := sizeLine_eq
    refine' ⟨_, ?d, ?r⟩
    case d => wtm_at "body"
    case r =>
      refine ⟨_, rfl, .inr (.inl ⟨hp, _, _, _, rfl, rfl, SqT.of h1, (show atI [V.int need, V.ref t] 1 = some (.ref t) from rfl), ?_⟩)⟩
      refine ⟨t, rfl, .inr ⟨⟨_, SqT.of h2⟩, ?_⟩⟩
      refine cmp_tup (K := K) (a := t) (xs := us) (fun j ys σ G => G = H ∧ ys = (qs.take j).map (fun q => V.int q.2) ∧ ∃ x y : Option V, σ = [x, y, some (.ref hp)])
        ⟨rfl, rfl, none, none, rfl⟩ (by rw [hul]; omega) (fun j ys σ G _ ⟨e1, e2, _⟩ => ⟨by rw [e1]; exact SqT.of h2, by rw [e2, List.length_map, List.length_take]; omega⟩) ?_ ?_
      · rintro j x ys σ G N hx ⟨rfl, rfl, x0, y0, rfl⟩ hN
        obtain ⟨q, hq, r, rfl, hrr⟩ := h3.2 j x hx
        refine ⟨r, _, rfl, SqT.of hrr, rfl, _, _, rfl, _, _, rfl, rfl, ?_⟩
        refine ⟨_, rfl, hN _ _ _ ⟨rfl, ?_, _, _, rfl⟩⟩
        rw [List.take_add_one, hq, List.map_append]; rfl
      rintro ys σ G ⟨eG, rfl, x0, y0, rfl⟩ pl G1 hpl s1 e1
      rw [eG] at s1
      rw [hul, List.take_length, show qs.map (fun q => V.int q.2) = (qs.map (·.2)).map V.int by rw [List.map_map]; rfl] at e1
      exact ⟨pl, _, rfl, .inl (SqL.of e1), h G1 s1⟩
end
section
local macro_rules | `(tactic| wtm_at "ps") => `(tactic| (apply s_if; (wtm_at "pt"); (apply ss_cons; (apply s_dead); (apply ss_nil)); (wtm_at "pss")))
variable {P : Program} {w : World} {K : PySem.W.Frag} {mg : Str → Option Value} {base : Heap}
theorem scRefuse : FnScope ["heap", "most"] ["heap", "most"] (defScope sRefuse) := ⟨rfl, rfl, rfl, by decide +kernel, rfl, by decide +kernel, by decide +kernel⟩
def spRefuse : Sp := fun vs H Q _ => ∃ (h : Addr) (need : Int) (qs : List (Int × Int)), vs = [.ref h, .int 60] ∧ HeapAt H h need qs ∧ (qs.map (·.2)).sum ≤ 60 ∧ ∀ H', L2.Same H H' → Q .non H'
theorem ok_refuse {f : Addr} {fd : FuncData} (F : Fun K "refuse_above" "refuse_above" sRefuse f fd) (cN : Callee CX0 P w K mg base "number_of_things" 1 ["heap"] spNThings) : FnOk P w K mg base CX0 2 f fd ["heap", "most"] spRefuse := by
  refine Br.Fun.j F scRefuse (fun vs H Q E h => ?_) (fun cdv A outer s H vs Q E hr h => ?_)
  · obtain ⟨_, _, _, rfl, _⟩ := h; rfl
  · obtain ⟨hp, need, qs, rfl, hh, hs, h⟩ := h
    have nd := scRefuse.nd
    refine' ⟨_, ?d, ?r⟩
    case d => wtm_at "body"
    case r =>
      refine ⟨_, ?_, fun _ _ h => h⟩
      refine ⟨_, rfl, hp, need, qs, rfl, hh, fun H1 s1 => ?_⟩
      refine ⟨_, rfl, _, _, rfl, rfl, _, rfl, ite2 (fun hc => absurd (of_decide_eq_true hc) (by omega)) (fun _ => ?_)⟩
      exact h H1 s1
end
end K36
namespace K36
theorem ss_dead {X : Cx} {sts : List Stmt} : JSs X sts (fun _ _ _ => False) := ⟨fun _ _ _ _ _ _ h => False.elim h⟩
section
local macro_rules | `(tactic| wtm_at "ps") => `(tactic| fail)
local macro_rules | `(tactic| wtm_at "pe") => `(tactic| (apply j_fs3; (decide +kernel); (wtm_at "pe")))
variable {P : Program} {w : World} {K : PySem.W.Frag} {mg : Str → Option Value} {base : Heap}
def spRefuseX (C : Addr) : Sp := fun vs H Q E => ∃ (h : Addr) (need : Int) (qs : List (Int × Int)), vs = [.ref h, .int 60] ∧ HeapAt H h need qs ∧ (60 < (qs.map (·.2)).sum → ∀ H', L2.Same H H' → E (.ref C) none H') ∧ ((qs.map (·.2)).sum ≤ 60 → ∀ H', L2.Same H H' → Q .non H')
theorem ok_refuseX {f : Addr} {fd : FuncData} {C B : Addr} (F : Fun K "refuse_above" "refuse_above" sRefuse f fd) (eR : ECls K mg "TooMany" C B) (cN : Callee CX0 P w K mg base "number_of_things" 1 ["heap"] spNThings) : FnOk P w K mg base (CXF P w) 2 f fd ["heap", "most"] (spRefuseX C) := by
  refine Br.Fun.jX F scRefuse (fun vs H Q E h => ?_) (fun cdv A outer s H vs Q E hr h => ?_)
  · obtain ⟨_, _, _, rfl, _⟩ := h; rfl
  · obtain ⟨hp, need, qs, rfl, hh, hX, h⟩ := h
    have nd := scRefuse.nd
    refine' ⟨_, ?d, ?r⟩
    case d => wtm_at "body"
    case r =>
      refine ⟨_, ?_, fun _ _ h => h⟩
      refine ⟨_, rfl, hp, need, qs, rfl, hh, fun H1 s1 => ?_⟩
      refine ⟨_, rfl, _, _, rfl, rfl, _, rfl, ite2 (fun hc => ?_) (fun hc => ?_)⟩
      · refine ⟨_, rfl, 60, rfl, by decide +kernel, by decide +kernel, by decide +kernel, by decide +kernel, ?_⟩
        exact hX (of_decide_eq_true hc) H1 s1
      · by_cases z : (qs.map (·.2)).sum ≤ 60
        · exact h z H1 s1
        · exact absurd (decide_eq_true (by omega)) hc
end
end K36
namespace K36
section
local macro_rules | `(tactic| wtm_at "op") => `(tactic| apply o_addB)
local macro_rules | `(tactic| wtm_at "ps") => `(tactic| first
  | (apply s_if; (wtm_at "pt"); (apply ss_cons; (apply s_dead); (apply ss_nil)); (wtm_at "pss")))
variable {P : Program} {w : World} {K : PySem.W.Frag} {mg : Str → Option Value} {base : Heap}
abbrev sWaysOf : Stmt := top 29
theorem prodc_N : ∀ {qs : List (Int × Int)}, (∀ q ∈ qs, 1 ≤ q.2) → (prodN (cnts qs) : Int) = prodc qs
  | [], _ => rfl
  | q :: qs, h => by
    have ih := prodc_N (qs := qs) fun x hx => h x (.tail _ hx)
    have := h q (.head _)
    show (((q.2.toNat + 1) * prodN (cnts qs) : Nat) : Int) = (q.2 + 1) * prodc qs
    rw [Int.natCast_mul, ih, show ((q.2.toNat + 1 : Nat) : Int) = q.2 + 1 by omega]
theorem scWaysOf : FnScope ["heap", "ways", "size", "many"] ["heap"] (defScope sWaysOf) := ⟨rfl, rfl, rfl, by decide +kernel, rfl, by decide +kernel, by decide +kernel⟩
def spWaysOf : Sp := fun vs H Q _ => ∃ (h : Addr) (need : Int) (qs : List (Int × Int)), vs = [.ref h] ∧ HeapAt H h need qs ∧ (qs.map (·.2)).sum ≤ 60 ∧ prodc qs ≤ 2000 ∧
  ∀ (l : Addr) (as : List Addr) (H' : Hp), H l = none → L2.Same H H' → H' l = some (.lst (as.map V.ref)) → Al H' as (waysL (cnts qs)) → as.length ≤ 2000 → Q (.ref l) H'
theorem ok_waysOf {f : Addr} {fd : FuncData} (F : Fun K "ways_of" "ways_of" sWaysOf f fd) (cR : Callee CX0 P w K mg base "refuse_above" 2 ["heap", "most"] spRefuse) (cN : Callee CX0 P w K mg base "number_of_ways" 1 ["kinds"] (spNWays K))
    (g1 : GInt mg "MOST_TABLED" 60) (g2 : GInt mg "MOST_WAYS" 2000) (mR : mg "range" = none) : FnOk P w K mg base CX0 3 f fd ["heap"] spWaysOf := by
  refine Br.Fun.j F scWaysOf (fun vs H Q E h => ?_) (fun cdv A outer s H vs Q E hr h => ?_)
  · obtain ⟨_, _, _, rfl, _⟩ := h; rfl
  · obtain ⟨hp, need, qs, rfl, hh, hs60, hp2, h⟩ := h
    have nd := scWaysOf.nd
    have hsz : (sizeLine : Nat) = 16777216 := sizeLine_eq
    refine' ⟨_, ?d, ?r⟩
    case d => wtm_at "body"
    case r =>
      refine ⟨_, rfl, ?_⟩
      obtain ⟨t, us, h1, h2, h3, h4, h5, h6, h7⟩ := id hh
      have hul := h3.1
      refine ⟨hp, need, qs, rfl, hh, hs60, fun H1 s1 => ?_⟩
      refine ⟨_, ?_, fun _ _ h => h⟩
      refine ⟨_, rfl, .inr (.inl ⟨hp, _, _, _, rfl, rfl, SqT.of (s1 _ _ h1), (show atI [V.int need, V.ref t] 1 = some (.ref t) from rfl), ?_⟩)⟩
      refine ⟨t, us, qs, rfl, SqT.of (s1 _ _ h2), h3.mo (ps := []) (fun b o e _ => s1 _ _ e), fun q hq => (h7 q hq).2.2, by omega, ?_⟩
      refine ⟨_, _, rfl, rfl, _, rfl, ite2 (fun hc => absurd (of_decide_eq_true hc) (by omega)) (fun _ => ?_)⟩
      have hN := prodc_N (qs := qs) fun q hq => (h7 q hq).2.2.1
      have hsum : prodN (cnts qs) ≤ 2000 := by omega
      refine ⟨by simp, fun u0 H2 n0 s2 e2 => ?_⟩
      refine ⟨lenLe (n := 1) rfl (by decide), fun l0 H3 n3 s3 e3 => ?_⟩
      have s13 := s1.trans (s2.trans s3)
      refine ⟨_, rfl, .inr (.inl ⟨hp, _, _, _, rfl, rfl, SqT.of (s13 _ _ h1), (show atI [V.int need, V.ref t] 1 = some (.ref t) from rfl), ?_⟩)⟩
      refine ⟨t, rfl, .inr ⟨⟨_, SqT.of (s13 _ _ h2)⟩, ?_⟩⟩
      have fresh : ∀ {G G' : Hp} {l : Addr}, L2.Same G G' → G' l = none → G l = none := fun {G G' l} s n => by
        cases hq : G l with
        | none => rfl
        | some o => have := s _ _ hq; rw [n] at this; cases this
      refine for_tup (K := K) (a := t) (xs := us) (fun i σ G => L2.Same H G ∧ ∃ (l : Addr) (as : List Addr) (x2 x3 : Option V), H l = none ∧ G l = some (.lst (as.map V.ref)) ∧ Al G as (waysL ((cnts qs).take i)) ∧ σ = [some (.ref hp), some (.ref l), x2, x3])
        ⟨s13, l0, [u0], none, none, fresh (s1.trans s2) n3, e3, .cons (s3 _ _ e2) .nil, rfl⟩ (fun i σ G _ ⟨sh, _⟩ => SqT.of (sh _ _ h2)) ?_ ?_
      · rintro i x σ G hx ⟨sh, l, as, x2, x3, nl, eG, al, rfl⟩
        obtain ⟨q, hqi, r, rfl, hrr⟩ := h3.2 i x hx
        have hci : (cnts qs)[i]? = some q.2.toNat := by unfold cnts; rw [List.getElem?_map, hqi]; rfl
        have hq1 := (h7 q (List.mem_of_getElem? hqi)).2.2.1
        have hq14 : q.2 ≤ 2000 := by
          have := le_prodN (List.mem_of_getElem? hci)
          omega
        have hfew := ways_few (n := i) hsum
        have hfew1 := ways_few (n := i + 1) hsum
        have hlen := al.len
        have hil : i < qs.length := (List.getElem?_eq_some_iff.mp hqi).1
        refine ⟨r, _, rfl, SqT.of (sh _ _ hrr), rfl, _, _, rfl, _, _, rfl, rfl, ?_⟩
        refine ⟨_, rfl, l, rfl, .inl ⟨⟨_, SqL.of eG⟩, ?_⟩⟩
        have hb1 : ∀ j, (((waysL ((cnts qs).take i)).take j).flatMap (ext q.2.toNat)).length ≤ 2000 := fun j => by
          have e1 := step_len q.2.toNat ((waysL ((cnts qs).take i)).take j)
          have e2 := step_len q.2.toNat (waysL ((cnts qs).take i))
          unfold step at e1 e2
          rw [waysL_take hci, e2] at hfew1
          rw [e1, List.length_take]
          exact Nat.le_trans (Nat.mul_le_mul_right _ (Nat.min_le_right _ _)) hfew1
        refine cmp2_list (K := K) (a := l) (xs := as.map V.ref) (fun j ys σ G' => L2.Same G G' ∧ ∃ (bs : List Addr) (x0 x1 : Option V), ys = bs.map V.ref ∧ Al G' bs (((waysL ((cnts qs).take i)).take j).flatMap (ext q.2.toNat)) ∧
          σ = [x0, x1, some (.ref hp), some (.ref l), some (.int q.1), some (.int q.2)]) ⟨L2.Same.refl _, [], none, none, rfl, .nil, rfl⟩ (fun j ys σ G' _ ⟨s', bs, _, _, e1, e2, _⟩ => ⟨SqL.of (s' _ _ eG), by have := hb1 j; rw [e1, List.length_map, e2.len]; omega⟩) ?_ ?_
        · rintro j x ys σ G1 N hx ⟨sG, bs, x0, x1, rfl, ab, rfl⟩ hNx
          rw [List.getElem?_map] at hx
          obtain ⟨a, ha, rfl⟩ := Option.map_eq_some_iff.mp hx
          obtain ⟨w, hw, hwa⟩ := al.get ha
          refine ⟨_, rfl, .inl ⟨_, _, rfl, rfl, q.2 + 1, rfl, by omega, by omega, ?_⟩⟩
          refine cmpIn_range (lo := 0) (n := (q.2 + 1).toNat) (fun k ys σ G' => L2.Same G1 G' ∧ ∃ (cs : List Addr) (x : Option V), ys = bs.map V.ref ++ cs.map V.ref ∧ cs.length = k ∧ Al G' cs ((ext q.2.toNat w).take k) ∧ σ = [some (.ref a), x, some (.ref hp), some (.ref l), some (.int q.1), some (.int q.2)])
            ⟨L2.Same.refl _, [], x1, by simp, rfl, .nil, rfl⟩ (fun k ys σ G' _ ⟨_, cs, _, e1, e2, _⟩ => by have := hb1 j; rw [e1, List.length_append, List.length_map, List.length_map, ab.len]; omega) ?_ ?_
          · rintro k ys σ G' N' hk' ⟨s', cs, x5, rfl, hcl, ac, rfl⟩ hN'
            have hwi := (ways_ok (cnts qs) i (by unfold cnts; rw [List.length_map]; omega)).len j w hw
            refine ⟨_, rfl, _, rfl, lenLe (n := 1) rfl (by decide), fun u G2 nu s2 e2 => .inr ⟨a, u, _, _, rfl, rfl, s2 _ _ (s' _ _ (sG _ _ hwa)), e2, by rw [List.length_map, hwi, hsz]; simp only [List.length_cons, List.length_nil]; omega, fun pz G3 s3 e3 => hN' _ _ _ ⟨s'.trans (s2.trans s3), cs ++ [pz], _, by rw [List.map_append, List.append_assoc]; rfl, by rw [List.length_append, hcl]; rfl, ?_, rfl⟩⟩⟩
            rw [List.take_add_one, ext_at w (by omega)]
            refine (ac.tu (Tu.of (s2.trans s3))).app (.cons ?_ .nil)
            rw [e3, List.map_append, Int.zero_add]; rfl
          · rintro ys σ G' ⟨s', cs, x5, rfl, hcl, ac, rfl⟩
            refine hNx _ _ _ ⟨sG.trans s', bs ++ cs, _, _, by rw [List.map_append], ?_, rfl⟩
            rw [List.take_of_length_le (by rw [ext_len]; omega)] at ac
            rw [List.take_add_one, hw, List.flatMap_append]
            refine (ab.tu (Tu.of s')).app ?_
            show Al _ cs (List.flatMap (ext q.2.toNat) [w])
            rw [List.flatMap_cons, List.flatMap_nil, List.append_nil]
            exact ac
        · rintro ys σ G1 ⟨sG, bs, x0, x1, rfl, ab, rfl⟩ pc G2 npc s2 e2
          rw [List.length_map, hlen, List.take_length, ← waysL_take hci] at ab
          exact ⟨sh.trans (sG.trans s2), pc, bs, _, _, fresh (sh.trans sG) npc, e2, ab.tu (Tu.of s2), rfl⟩
      · rintro σ G ⟨sh, l, as, x2, x3, nl, eG, al, rfl⟩
        rw [hul, List.take_of_length_le (by unfold cnts; rw [List.length_map]; exact Nat.le_refl _)] at al
        have := ways_few (ms := cnts qs) (n := (cnts qs).length) hsum
        rw [List.take_length] at this
        exact ⟨_, rfl, h l as G nl sh eG al (by rw [al.len]; exact this)⟩
end
end K36
namespace K36
section
local macro_rules | `(tactic| wtm_at "ps") => `(tactic| fail)
local macro_rules | `(tactic| wtm_at "pss") => `(tactic| (apply ss_cons; (wtm_at "ps"); apply ss_cons; (apply s_dead); apply ss_dead))
variable {P : Program} {w : World} {K : PySem.W.Frag} {mg : Str → Option Value} {base : Heap}
def Bad (qs : List (Int × Int)) : Prop := 60 < (qs.map (·.2)).sum ∨ 2000 < prodc qs
def spX (C : Addr) : Sp := fun vs H _ E => ∃ (h : Addr) (need : Int) (qs : List (Int × Int)), vs = [.ref h] ∧ HeapAt H h need qs ∧ Bad qs ∧ ∀ H', L2.Same H H' → E (.ref C) none H'
theorem ok_waysOfX {f : Addr} {fd : FuncData} {C B : Addr} (F : Fun K "ways_of" "ways_of" sWaysOf f fd) (eR : ECls K mg "TooMany" C B) (cR : Callee (CXF P w) P w K mg base "refuse_above" 2 ["heap", "most"] (spRefuseX C)) (cN : Callee CX0 P w K mg base "number_of_ways" 1 ["kinds"] (spNWays K))
    (g1 : GInt mg "MOST_TABLED" 60) (g2 : GInt mg "MOST_WAYS" 2000) : FnOk P w K mg base (CXF P w) 3 f fd ["heap"] (spX C) := by
  refine Br.Fun.jX F scWaysOf (fun vs H Q E h => ?_) (fun cdv A outer s H vs Q E hr h => ?_)
  · obtain ⟨_, _, _, rfl, _⟩ := h; rfl
  · obtain ⟨hp, need, qs, rfl, hh, hb, h⟩ := h
    have nd := scWaysOf.nd
    refine' ⟨_, ?d, ?r⟩
    case d => wtm_at "body"
    case r =>
      refine ⟨_, rfl, ?_⟩
      obtain ⟨t, us, h1, h2, h3, h4, h5, h6, h7⟩ := id hh
      refine ⟨hp, need, qs, rfl, hh, fun _ H1 s1 => h H1 s1, fun h60 H1 s1 => ?_⟩
      refine ⟨fun _ _ => False, ?_, fun _ _ h => h.elim⟩
      refine ⟨_, rfl, .inr (.inl ⟨hp, _, _, _, rfl, rfl, SqT.of (s1 _ _ h1), (show atI [V.int need, V.ref t] 1 = some (.ref t) from rfl), ?_⟩)⟩
      have h7' : ∀ q ∈ qs, 1 ≤ q.2 ∧ q.2 ≤ 10 ^ 12 := fun q hq => (h7 q hq).2.2
      refine ⟨t, us, qs, rfl, SqT.of (s1 _ _ h2), h3.mo (ps := []) (fun b o e _ => s1 _ _ e), h7', prodc_hundred h7' h4, ?_⟩
      have hb2 : 2000 < prodc qs := by rcases hb with z | z <;> omega
      refine ⟨_, _, rfl, rfl, _, rfl, ite2 (fun hc => ?_) (fun hc => absurd (decide_eq_true hb2) hc)⟩
      exact h H1 s1
end
end K36
namespace K36
theorem prodN_app : ∀ (l : List Nat) (m : Nat), prodN (l ++ [m]) = prodN l * (m + 1)
  | [], m => by show (m + 1) * 1 = 1 * (m + 1); omega
  | a :: l, m => by
    show (a + 1) * prodN (l ++ [m]) = (a + 1) * prodN l * (m + 1)
    rw [prodN_app l m, Nat.mul_assoc]
theorem prev_at (ms : List Nat) : ∀ n, n ≤ ms.length → ∀ (k : Nat) (u : List Int) (j : Nat) (x : Int), (waysL (ms.take n))[k]? = some u → u[j]? = some x → 0 < x →
    prodN ((ms.take n).drop (j + 1)) ≤ k ∧ (waysL (ms.take n))[k - prodN ((ms.take n).drop (j + 1))]? = some (u.set j (x - 1))
  | 0, _, k, u, j, x, h, h2, _ => by
    have e : waysL (ms.take 0) = [[]] := rfl
    rw [e] at h
    cases k with
    | zero => simp at h; rw [h] at h2; simp at h2
    | succ k => simp at h
  | n + 1, hn, k, u, j, x, h, h2, h0 => by
    obtain ⟨m, hm⟩ : ∃ m, ms[n]? = some m := ⟨_, List.getElem?_eq_getElem (by omega)⟩
    have e := waysL_take hm
    rw [e] at h ⊢
    obtain ⟨i, t, w, h1, hw, rfl, rfl⟩ := fm_inv h
    have hl := (ways_ok ms n (by omega)).len i w hw
    have etk : ms.take (n + 1) = ms.take n ++ [m] := by rw [List.take_add_one, hm]; rfl
    have htl : (ms.take n).length = n := by rw [List.length_take]; omega
    by_cases hj : j < n
    · rw [List.getElem?_append_left (by omega)] at h2
      obtain ⟨p1, p2⟩ := prev_at ms n (by omega) i w j x hw h2 h0
      have ed : (ms.take (n + 1)).drop (j + 1) = (ms.take n).drop (j + 1) ++ [m] := by
        rw [etk, List.drop_append_of_le_length (by omega)]
      rw [ed, prodN_app]
      generalize prodN ((ms.take n).drop (j + 1)) = P at p1 p2
      have q1 : P * (m + 1) ≤ i * (m + 1) := Nat.mul_le_mul_right _ p1
      refine ⟨by omega, ?_⟩
      rw [show i * (m + 1) + t - P * (m + 1) = (i - P) * (m + 1) + t by rw [Nat.sub_mul]; omega, fm_get h1 p2, List.set_append_left _ _ (by omega)]
    · have hj : j = n := by have := (List.getElem?_eq_some_iff.mp h2).1; rw [List.length_append, hl] at this; simp at this; omega
      subst hj
      have ed : (ms.take (j + 1)).drop (j + 1) = [] := List.drop_eq_nil_of_le (by rw [List.length_take]; omega)
      rw [ed]
      rw [List.getElem?_append_right (by omega), hl, Nat.sub_self] at h2
      simp at h2
      show 1 ≤ _ ∧ (_ : List (List Int))[i * (m + 1) + t - 1]? = _
      refine ⟨by omega, ?_⟩
      rw [show i * (m + 1) + t - 1 = i * (m + 1) + (t - 1) by omega, fm_get (by omega) hw, List.set_append_right _ _ (by omega), hl, Nat.sub_self]
      simp
      omega
def paces : List (Int × Int) → List (Int × Int)
  | [] => []
  | q :: qs => (q.1, prodc qs) :: paces qs
theorem paces_len : ∀ qs : List (Int × Int), (paces qs).length = qs.length
  | [] => rfl
  | q :: qs => by show (paces qs).length + 1 = qs.length + 1; rw [paces_len qs]
theorem paces_at : ∀ {qs : List (Int × Int)} {j : Nat} {q : Int × Int}, qs[j]? = some q → (paces qs)[j]? = some (q.1, prodc (qs.drop (j + 1)))
  | r :: qs, 0, q, h => by simp at h; subst h; rfl
  | r :: qs, j + 1, q, h => by
    show (paces qs)[j]? = _
    exact paces_at (by simpa using h)
theorem cnts_drop (qs : List (Int × Int)) (n : Nat) : (cnts qs).drop n = cnts (qs.drop n) := by unfold cnts; rw [List.map_drop]
theorem pace_back {qs : List (Int × Int)} (hq : ∀ q ∈ qs, 1 ≤ q.2) {k j : Nat} {w : List Int} {x : Int} (hw : (waysL (cnts qs))[k]? = some w) (hx : w[j]? = some x) (h0 : 0 < x) :
    prodc (qs.drop (j + 1)) ≤ k ∧ 1 ≤ prodc (qs.drop (j + 1)) ∧ (waysL (cnts qs))[k - (prodc (qs.drop (j + 1))).toNat]? = some (w.set j (x - 1)) := by
  have h := prev_at (cnts qs) (cnts qs).length (Nat.le_refl _) k w j x (by rw [List.take_length]; exact hw) hx h0
  rw [List.take_length, cnts_drop] at h
  have hd : ∀ q ∈ qs.drop (j + 1), 1 ≤ q.2 := fun q h => hq q (List.mem_of_mem_drop h)
  have e := prodc_N hd
  have e1 := prodc_pos hd
  refine ⟨by omega, e1, ?_⟩
  rw [show (prodc (qs.drop (j + 1))).toNat = prodN (cnts (qs.drop (j + 1))) by omega]
  exact h.2
def putP (need : Int) (p : Int × Int) (s : Int) : Int × Int := if need ≤ p.2 + s then (p.1 + 1, 0) else (p.1, p.2 + s)
def lastsOf (w : List Int) (ps : List (Int × Int)) : List (Int × Int) := ((w.zip ps).filter fun x => decide (0 < x.1)).map (·.2)
def made (need : Int) (T : List (Int × Int)) (k : Nat) (steps : List (Int × Int)) : List (Int × Int) := steps.map fun st => putP need (T.getD (k - st.2.toNat) (0, 0)) st.1
def StepsOk (k : Nat) (steps : List (Int × Int)) : Prop := ∀ st ∈ steps, 1 ≤ st.2 ∧ st.2 ≤ k ∧ 1 ≤ st.1
def LS (qs : List (Int × Int)) : List (List (Int × Int)) := (waysL (cnts qs)).map fun w => lastsOf w (paces qs)
theorem lasts_mem {w : List Int} {ps : List (Int × Int)} {st : Int × Int} (h : st ∈ lastsOf w ps) : ∃ (j : Nat) (x : Int), w[j]? = some x ∧ 0 < x ∧ ps[j]? = some st := by
  unfold lastsOf at h
  obtain ⟨y, hy, rfl⟩ := List.mem_map.mp h
  obtain ⟨h1, h2⟩ := List.mem_filter.mp hy
  obtain ⟨j, hj, e⟩ := List.getElem_of_mem h1
  have e' : (w.zip ps)[j]? = some y := by rw [List.getElem?_eq_getElem hj, e]
  rw [List.getElem?_zip_eq_some] at e'
  exact ⟨j, y.1, e'.1, of_decide_eq_true h2, e'.2⟩
theorem LS_ok {qs : List (Int × Int)} (hq : ∀ q ∈ qs, 1 ≤ q.1 ∧ 1 ≤ q.2) : ∀ k steps, (LS qs)[k]? = some steps → StepsOk k steps := fun k steps h st hst => by
  unfold LS at h
  rw [List.getElem?_map] at h
  obtain ⟨w, hw, rfl⟩ := Option.map_eq_some_iff.mp h
  obtain ⟨j, x, h1, h2, h3⟩ := lasts_mem hst
  have hj : j < qs.length := by have := (List.getElem?_eq_some_iff.mp h3).1; rw [paces_len] at this; exact this
  obtain ⟨q, hqj⟩ : ∃ q, qs[j]? = some q := ⟨_, List.getElem?_eq_getElem hj⟩
  rw [paces_at hqj] at h3
  cases h3
  obtain ⟨a, b, _⟩ := pace_back (fun q h => (hq q h).2) hw h1 h2
  exact ⟨b, a, (hq q (List.mem_of_getElem? hqj)).1⟩
end K36
namespace K36
theorem none_of {H H' : Hp} {a : Addr} (s : L2.Same H H') (h : H' a = none) : H a = none := by
  cases q : H a with
  | none => rfl
  | some o => have := s _ _ q; rw [h] at this; cases this
theorem Kinds.same {H H' : Hp} {vs : List V} {qs : List (Int × Int)} (k : Kinds H vs qs) (s : L2.Same H H') : Kinds H' vs qs := k.mo (ps := []) fun b o e _ => s _ _ e
theorem Kinds.tu {H H' : Hp} {vs : List V} {qs : List (Int × Int)} (k : Kinds H vs qs) (s : Tu H H') : Kinds H' vs qs := k.mo (ps := []) s
theorem Kinds.nil {H : Hp} : Kinds H [] [] := ⟨rfl, fun i v e => by simp at e⟩
theorem Kinds.snoc {H : Hp} {vs : List V} {qs : List (Int × Int)} {r : Addr} {q : Int × Int} (k : Kinds H vs qs) (e : H r = some (.tup [.int q.1, .int q.2])) : Kinds H (vs ++ [.ref r]) (qs ++ [q]) := by
  have k1 := k.1
  refine ⟨by rw [List.length_append, List.length_append, k1]; rfl, fun i v h => ?_⟩
  by_cases hi : i < vs.length
  · rw [List.getElem?_append_left hi] at h
    obtain ⟨q', h1, h2⟩ := k.2 i v h
    exact ⟨q', by rw [List.getElem?_append_left (by omega)]; exact h1, h2⟩
  · have hi2 : i = vs.length := by have := (List.getElem?_eq_some_iff.mp h).1; rw [List.length_append] at this; simp at this; omega
    subst hi2
    rw [List.getElem?_append_right (Nat.le_refl _), Nat.sub_self] at h
    simp at h
    exact ⟨q, by rw [k1, List.getElem?_append_right (Nat.le_refl _), Nat.sub_self]; rfl, r, h.symm, e⟩
theorem Kinds.drop {H : Hp} {vs : List V} {qs : List (Int × Int)} (k : Kinds H vs qs) (n : Nat) : Kinds H (vs.drop n) (qs.drop n) :=
  ⟨by rw [List.length_drop, List.length_drop, k.1], fun i v h => by rw [List.getElem?_drop] at h ⊢; exact k.2 _ v h⟩
theorem prodc_drop {qs : List (Int × Int)} (h : ∀ q ∈ qs, 1 ≤ q.2) (n : Nat) : prodc (qs.drop n) ≤ prodc qs := by
  induction n generalizing qs with
  | zero => rw [List.drop_zero]; exact Int.le_refl _
  | succ n ih =>
    cases qs with
    | nil => rw [List.drop_nil]; exact Int.le_refl _
    | cons q qs =>
      have h1 := ih (qs := qs) fun x hx => h x (.tail _ hx)
      have h2 := h q (.head _)
      have h3 := prodc_pos (ks := qs) fun x hx => h x (.tail _ hx)
      rw [List.drop_succ_cons]
      show _ ≤ (q.2 + 1) * prodc qs
      have : 1 * prodc qs ≤ (q.2 + 1) * prodc qs := Int.mul_le_mul_of_nonneg_right (by omega) (by omega)
      omega
theorem cut_dropV (us : List V) (n : Nat) : cutV us (some (n : Int)) none = us.drop n := by
  unfold cutV
  rw [HT.sIx_nat, HT.sIx_none]
  rcases Nat.le_total n us.length with h | h
  · rw [Nat.min_eq_left h, List.take_of_length_le (by rw [List.length_drop]; exact Nat.le_refl _)]
  · rw [Nat.min_eq_right h, List.drop_length, List.drop_of_length_le h]; simp
section
local macro_rules | `(tactic| wtm_at "pi") => `(tactic| (apply k_enum; (wtm_at "K"); (with_reducible rfl); (rfl); (assumption); (rfl); (wtm_at "pa")))
local macro_rules | `(tactic| wtm_at "pe") => `(tactic| (apply k_comp12; (wtm_at "K"); (rfl); (rfl); (intro _; rfl); (decide +kernel); (rfl); (rfl); (rfl); (wtm_at "pi"); (intro cC cs cH cfp; wtm_at "pf"); (intro cC cs cH cfp; wtm_at "pe")))
variable {P : Program} {w : World} {K : PySem.W.Frag} {mg : Str → Option Value} {base : Heap}
abbrev sPaces : Stmt := top 30
theorem scPaces : FnScope ["heap", "kinds"] ["heap"] (defScope sPaces) := ⟨rfl, rfl, rfl, by decide +kernel, rfl, by decide +kernel, by decide +kernel⟩
def spPaces : Sp := fun vs H Q _ => ∃ (h : Addr) (need : Int) (qs : List (Int × Int)), vs = [.ref h] ∧ HeapAt H h need qs ∧ prodc qs ≤ 10 ^ 100 ∧
  ∀ (l : Addr) (us : List V) (H' : Hp), H l = none → L2.Same H H' → H' l = some (.lst us) → Kinds H' us (paces qs) → Q (.ref l) H'
theorem ok_paces {f : Addr} {fd : FuncData} (F : Fun K "paces_of" "paces_of" sPaces f fd) (cN : Callee CX0 P w K mg base "number_of_ways" 1 ["kinds"] (spNWays K)) (mE : mg "enumerate" = none) : FnOk P w K mg base CX0 2 f fd ["heap"] spPaces := by
  refine Br.Fun.j F scPaces (fun vs H Q E h => ?_) (fun cdv A outer s H vs Q E hr h => ?_)
  · obtain ⟨_, _, _, rfl, _⟩ := h; rfl
  · obtain ⟨hp, need, qs, rfl, hh, hp2, h⟩ := h
    have nd := scPaces.nd
    have hsz : (sizeLine : Nat) = 16777216 := sizeLine_eq
    refine' ⟨_, ?d, ?r⟩
    case d => wtm_at "body"
    case r =>
      obtain ⟨t, us, h1, h2, h3, h4, h5, h6, h7⟩ := id hh
      have hul := h3.1
      have hq1 : ∀ q ∈ qs, 1 ≤ q.2 := fun q h => (h7 q h).2.2.1
      refine ⟨_, rfl, .inr (.inl ⟨hp, _, _, _, rfl, rfl, SqT.of h1, (show atI [V.int need, V.ref t] 1 = some (.ref t) from rfl), ?_⟩)⟩
      refine ⟨_, rfl, t, us, rfl, SqT.of h2, ?_⟩
      refine cmp_enum (K := K) (a := t) (xs := us) rfl (by omega) (fun j ys σ G => L2.Same H G ∧ ys.length = j ∧ Kinds G ys ((paces qs).take j) ∧ ∃ x y z : Option V, σ = [x, y, z, some (.ref hp), some (.ref t)])
        ⟨L2.Same.refl _, rfl, Kinds.nil, none, none, none, rfl⟩ (fun j ys σ G _ ⟨sG, e2, _⟩ => ⟨SqT.of (sG _ _ h2), by omega⟩) ?_ ?_
      · rintro j x ys σ G T N hx ⟨sG, hyl, hk, x0, y0, z0, rfl⟩ nT hN
        obtain ⟨q, hqi, r, rfl, hrr⟩ := h3.2 j x hx
        have sT : L2.Same G (upd G T (.tup [.int j, .ref r])) := Br.Same.upd nT
        generalize hG1 : upd G T (.tup [.int (j : Int), .ref r]) = G1 at sT
        have eT : G1 T = some (.tup [.int (j : Int), .ref r]) := by rw [← hG1]; exact upd_same
        refine ⟨T, _, rfl, SqT.of eT, rfl, _, _, rfl, _, _, rfl, ?_⟩
        refine ⟨r, _, rfl, SqT.of (sT _ _ (sG _ _ hrr)), rfl, _, _, rfl, _, _, rfl, rfl, rfl, ?_⟩
        have sHG := sG.trans sT
        have hjl : j < us.length := (List.getElem?_eq_some_iff.mp hx).1
        refine ⟨_, rfl, _, rfl, _, rfl, .inl ⟨_, _, rfl, rfl, _, rfl, t, _, rfl, .inr ⟨SqT.of (sHG _ _ h2), fun ⟨z, _⟩ => ?_, fun p2 G2 n2 s2 e2 => ?_⟩⟩⟩
        · rw [show ((j : Int) + 1) = ((j + 1 : Nat) : Int) by omega, HT.sIx_nat] at z; omega
        rw [show ((j : Int) + 1) = ((j + 1 : Nat) : Int) by omega, cut_dropV] at e2
        have hpd := prodc_drop hq1 (j + 1)
        refine ⟨p2, _, qs.drop (j + 1), rfl, SqT.of e2, ((h3.same sHG).same s2).drop (j + 1), fun q hq => (h7 q (List.mem_of_mem_drop hq)).2.2, by omega, ?_⟩
        refine ⟨lenLe (n := 2) rfl (by decide), fun r2 G3 n3 s3 e3 => hN _ _ _ ⟨sHG.trans (s2.trans s3), by rw [List.length_append, hyl]; rfl, ?_, _, _, _, rfl⟩⟩
        rw [List.take_add_one, paces_at hqi]
        exact (hk.same (sT.trans (s2.trans s3))).snoc e3
      rintro ys σ G ⟨sG, hyl, hk, x0, y0, z0, rfl⟩ pl G1 npl s1 e1
      rw [hul, ← paces_len, List.take_length] at hk
      exact h pl ys G1 (none_of sG npl) (sG.trans s1) e1 (hk.same s1)
end
section
variable {P : Program} {w : World} {K : PySem.W.Frag} {mg : Str → Option Value} {base : Heap}
abbrev sPut : Stmt := top 31
theorem scPut : FnScope ["need", "pair", "size", "bins", "lying"] ["need", "pair", "size"] (defScope sPut) := ⟨rfl, rfl, rfl, by decide +kernel, rfl, by decide +kernel, by decide +kernel⟩
def spPut : Sp := fun vs H Q _ => ∃ (need : Int) (a : Addr) (p : Int × Int) (s : Int), vs = [.int need, .ref a, .int s] ∧ H a = some (.tup [.int p.1, .int p.2]) ∧
  ∀ (r : Addr) (H' : Hp), H r = none → L2.Same H H' → H' r = some (.tup [.int (putP need p s).1, .int (putP need p s).2]) → Q (.ref r) H'
theorem ok_put {f : Addr} {fd : FuncData} (F : Fun K "put_to" "put_to" sPut f fd) : FnOk P w K mg base CX0 1 f fd ["need", "pair", "size"] spPut := by
  refine Br.Fun.j F scPut (fun vs H Q E h => ?_) (fun cdv A outer s H vs Q E hr h => ?_)
  · obtain ⟨_, _, _, _, rfl, _⟩ := h; rfl
  · obtain ⟨need, a, p, sz, rfl, ha, h⟩ := h
    have nd := scPut.nd
    refine' ⟨_, ?d, ?r⟩
    case d => wtm_at "body"
    case r =>
      refine ⟨_, rfl, a, _, rfl, SqT.of ha, rfl, _, _, rfl, _, _, rfl, rfl, ?_⟩
      refine ⟨_, ?_, fun _ _ h => h⟩
      refine ⟨_, rfl, _, rfl, .inl ⟨_, _, rfl, rfl, _, rfl, _, _, rfl, rfl, _, rfl, ite2 (fun hc => ?_) (fun hc => ?_)⟩⟩
      · have hc := of_decide_eq_true hc
        refine ⟨_, rfl, .inl ⟨_, _, rfl, rfl, lenLe (n := 2) rfl (by decide), fun r H1 n1 s1 e1 => h r H1 n1 s1 ?_⟩⟩
        unfold putP
        rw [if_pos hc]; exact e1
      · have hc : ¬ need ≤ p.2 + sz := fun z => hc (decide_eq_true z)
        refine ⟨_, rfl, _, rfl, _, rfl, .inl ⟨_, _, rfl, rfl, lenLe (n := 2) rfl (by decide), fun r H1 n1 s1 e1 => h r H1 n1 s1 ?_⟩⟩
        unfold putP
        rw [if_neg hc]; exact e1
end
end K36
namespace K36
def LsAt (H : Hp) (ls : List Addr) (LL : List (List (Int × Int))) : Prop := ls.length = LL.length ∧ ∀ (i : Nat) a, ls[i]? = some a → ∃ steps ss, LL[i]? = some steps ∧ H a = some (.lst ss) ∧ Kinds H ss steps
theorem LsAt.same {H H' : Hp} {ls : List Addr} {LL : List (List (Int × Int))} (h : LsAt H ls LL) (s : L2.Same H H') : LsAt H' ls LL :=
  ⟨h.1, fun i a e => let ⟨st, ss, h1, h2, h3⟩ := h.2 i a e; ⟨st, ss, h1, s _ _ h2, h3.same s⟩⟩
theorem LsAt.snoc {H : Hp} {ls : List Addr} {LL : List (List (Int × Int))} {a : Addr} {ss : List V} {steps : List (Int × Int)} (h : LsAt H ls LL) (e : H a = some (.lst ss)) (k : Kinds H ss steps) : LsAt H (ls ++ [a]) (LL ++ [steps]) := by
  have h1 := h.1
  refine ⟨by rw [List.length_append, List.length_append, h1]; rfl, fun i b hb => ?_⟩
  by_cases hi : i < ls.length
  · rw [List.getElem?_append_left hi] at hb
    obtain ⟨st, ss, p1, p2⟩ := h.2 i b hb
    exact ⟨st, ss, by rw [List.getElem?_append_left (by omega)]; exact p1, p2⟩
  · have hi2 : i = ls.length := by have := (List.getElem?_eq_some_iff.mp hb).1; rw [List.length_append] at this; simp at this; omega
    subst hi2
    rw [List.getElem?_append_right (Nat.le_refl _), Nat.sub_self] at hb
    simp at hb
    subst hb
    exact ⟨steps, ss, by rw [h1, List.getElem?_append_right (Nat.le_refl _), Nat.sub_self]; rfl, e, k⟩
theorem LS_len (qs : List (Int × Int)) : (LS qs).length = (waysL (cnts qs)).length := by unfold LS; rw [List.length_map]
theorem LS_at {qs : List (Int × Int)} {j : Nat} {w : List Int} (h : (waysL (cnts qs))[j]? = some w) : (LS qs)[j]? = some (lastsOf w (paces qs)) := by unfold LS; rw [List.getElem?_map, h]; rfl
section
local macro_rules | `(tactic| wtm_at "nd") => `(tactic| exact nodupB_of (by rfl))
local macro_rules | `(tactic| wtm_at "pi") => `(tactic| (apply ZT.k_zip; (wtm_at "K"); (with_reducible rfl); (rfl); (assumption); (rfl); (rfl); (wtm_at "pa")))
variable {P : Program} {w : World} {K : PySem.W.Frag} {mg : Str → Option Value} {base : Heap}
abbrev sLasts : Stmt := top 32
theorem scLasts : FnScope ["heap", "paces"] ["heap"] (defScope sLasts) := ⟨rfl, rfl, rfl, by decide +kernel, rfl, by decide +kernel, by decide +kernel⟩
def spLasts : Sp := fun vs H Q _ => ∃ (h : Addr) (need : Int) (qs : List (Int × Int)), vs = [.ref h] ∧ HeapAt H h need qs ∧ (qs.map (·.2)).sum ≤ 60 ∧ prodc qs ≤ 2000 ∧
  ∀ (l : Addr) (ls : List Addr) (H' : Hp), H l = none → L2.Same H H' → H' l = some (.lst (ls.map V.ref)) → LsAt H' ls (LS qs) → ls.length ≤ 2000 → Q (.ref l) H'
theorem ok_lasts {f : Addr} {fd : FuncData} (F : Fun K "lasts_of" "lasts_of" sLasts f fd) (cP : Callee CX0 P w K mg base "paces_of" 2 ["heap"] spPaces) (cW : Callee CX0 P w K mg base "ways_of" 3 ["heap"] spWaysOf) (mZ : mg "zip" = none) : FnOk P w K mg base CX0 4 f fd ["heap"] spLasts := by
  refine Br.Fun.j F scLasts (fun vs H Q E h => ?_) (fun cdv A outer s H vs Q E hr h => ?_)
  · obtain ⟨_, _, _, rfl, _⟩ := h; rfl
  · obtain ⟨hp, need, qs, rfl, hh, hs60, hp2, h⟩ := h
    have nd := scLasts.nd
    have hsz : (sizeLine : Nat) = 16777216 := sizeLine_eq
    refine' ⟨_, ?d, ?r⟩
    case d => wtm_at "body"
    case r =>
      obtain ⟨t, us0, h1, h2, h3, h4, h5, h6, h7⟩ := id hh
      refine ⟨_, rfl, hp, need, qs, rfl, hh, by omega, fun l us H1 nl s1 e1 hk => ?_⟩
      refine ⟨_, rfl, hp, need, qs, rfl, hh.tu (Tu.of s1), hs60, hp2, fun lw as H2 nlw s2 e2 al hal => ?_⟩
      refine ⟨lw, rfl, .inl ⟨⟨_, SqL.of e2⟩, ?_⟩⟩
      have hlen := al.len
      have hk2 := hk.same s2
      have hul : us.length = qs.length := by rw [hk.1, paces_len]
      refine cmp_list (K := K) (a := lw) (xs := as.map V.ref) (fun j ys σ G => L2.Same H2 G ∧ ∃ (ls : List Addr) (x : Option V), ys = ls.map V.ref ∧ ls.length = j ∧ LsAt G ls ((LS qs).take j) ∧ σ = [x, some (.ref hp), some (.ref l)])
        ⟨L2.Same.refl _, [], none, rfl, rfl, ⟨rfl, fun i a e => by simp at e⟩, rfl⟩ (by rw [List.length_map]; omega) (fun j ys σ G _ ⟨sG, ls, _, e3, e4, _⟩ => ⟨SqL.of (sG _ _ e2), by rw [e3, List.length_map]; omega⟩) ?_ ?_
      · rintro j x ys σ G N hx ⟨sG, ls, x0, rfl, hll, hL, rfl⟩ hN
        rw [List.getElem?_map] at hx
        obtain ⟨a, ha, rfl⟩ := Option.map_eq_some_iff.mp hx
        obtain ⟨w, hw, hwa⟩ := al.get ha
        have hwl : w.length = qs.length := by
          have := (ways_ok (cnts qs) (cnts qs).length (Nat.le_refl _)).len j w (by rw [List.take_length]; exact hw)
          rw [this]; unfold cnts; rw [List.length_map]
        refine ⟨_, rfl, _, rfl, a, l, _, us, rfl, SqT.of (sG _ _ hwa), SqL.of (sG _ _ (s2 _ _ e1)), ?_⟩
        refine ZT.cmp_zip (K := K) (a := a) (b := l) (xs := w.map V.int) (ys := us) (n := qs.length) (by rw [List.length_map, hwl]) hul (by omega)
          (fun k zs σ G' => L2.Same G G' ∧ zs.length ≤ k ∧ Kinds G' zs ((((w.zip (paces qs)).take k).filter fun x : Int × (Int × Int) => decide (0 < x.1)).map (·.2)) ∧ ∃ x y : Option V, σ = [x, y, some (.ref a), some (.ref hp), some (.ref l)])
          ⟨L2.Same.refl _, Nat.le_refl _, Kinds.nil, none, none, rfl⟩ (fun k zs σ G' _ ⟨s', e', _⟩ => ⟨SqT.of (s' _ _ (sG _ _ hwa)), SqL.of (s' _ _ (sG _ _ (s2 _ _ e1))), e'⟩) ?_ ?_
        · rintro k x y zs σ G' T N' hxk hyk ⟨s', hzl, hkz, x1, y1, rfl⟩ nT hN'
          rw [List.getElem?_map] at hxk
          obtain ⟨n, hn, rfl⟩ := Option.map_eq_some_iff.mp hxk
          obtain ⟨q, hq, r, rfl, hrr⟩ := (hk2.same (sG.trans s')).2 k y hyk
          have sT : L2.Same G' (upd G' T (.tup [.int n, .ref r])) := Br.Same.upd nT
          generalize hG1 : upd G' T (.tup [.int n, .ref r]) = G1 at sT
          have eT : G1 T = some (.tup [.int n, .ref r]) := by rw [← hG1]; exact upd_same
          have hz : (w.zip (paces qs))[k]? = some (n, q) := by rw [List.getElem?_zip_eq_some]; exact ⟨hn, hq⟩
          refine ⟨T, _, rfl, SqT.of eT, rfl, _, _, rfl, _, _, rfl, rfl, ?_⟩
          refine ⟨_, rfl, _, _, rfl, rfl, _, rfl, ite2 (fun hc => ?_) (fun hc => ?_)⟩
          · refine ⟨_, rfl, hN' _ _ _ ⟨s'.trans sT, by rw [List.length_append]; simp; omega, ?_, _, _, rfl⟩⟩
            rw [List.take_add_one, hz, List.filter_append, List.map_append]
            have : (List.filter (fun x : Int × (Int × Int) => decide (0 < x.1)) (some (n, q)).toList).map (·.2) = [q] := by
              show (List.filter _ [(n, q)]).map _ = _
              rw [List.filter_cons_of_pos (by exact hc)]; rfl
            rw [this]
            exact (hkz.same sT).snoc (sT _ _ hrr)
          · refine hN' _ _ _ ⟨s'.trans sT, by omega, ?_, _, _, rfl⟩
            rw [List.take_add_one, hz, List.filter_append, List.map_append]
            have : (List.filter (fun x : Int × (Int × Int) => decide (0 < x.1)) (some (n, q)).toList).map (·.2) = [] := by
              show (List.filter _ [(n, q)]).map _ = _
              rw [List.filter_cons_of_neg (by exact hc)]; rfl
            rw [this, List.append_nil]
            exact hkz.same sT
        · rintro zs σ G' ⟨s', hzl, hkz, x1, y1, rfl⟩ pz G2 npz s3 e3
          rw [List.take_of_length_le (by rw [List.length_zip, paces_len]; omega)] at hkz
          refine hN _ _ _ ⟨sG.trans (s'.trans s3), ls ++ [pz], _, by rw [List.map_append]; rfl, by rw [List.length_append, hll]; rfl, ?_, rfl⟩
          rw [List.take_add_one, LS_at hw]
          exact (hL.same (s'.trans s3)).snoc e3 (hkz.same s3)
      rintro ys σ G ⟨sG, ls, x0, rfl, hll, hL, rfl⟩ pl G1 npl s3 e3
      rw [List.length_map] at hll hL
      rw [List.take_of_length_le (by rw [LS_len]; omega)] at hL
      exact h pl ls G1 (none_of (s1.trans (s2.trans sG)) npl) (s1.trans (s2.trans (sG.trans s3))) e3 (hL.same s3) (by omega)
end
end K36
namespace K36
section
local macro_rules | `(tactic| wtm_at "nd") => `(tactic| exact nodupB_of (by rfl))
local macro_rules | `(tactic| wtm_at "pi") => `(tactic| (apply ZT.k_zip; (wtm_at "K"); (with_reducible rfl); (rfl); (assumption); (rfl); (rfl); (wtm_at "pa")))
variable {P : Program} {w : World} {K : PySem.W.Frag} {mg : Str → Option Value} {base : Heap}
theorem ok_lastsX {f : Addr} {fd : FuncData} {C : Addr} (F : Fun K "lasts_of" "lasts_of" sLasts f fd) (cP : Callee CX0 P w K mg base "paces_of" 2 ["heap"] spPaces) (cW : Callee (CXF P w) P w K mg base "ways_of" 3 ["heap"] (spX C)) (mZ : mg "zip" = none) : FnOk P w K mg base (CXF P w) 4 f fd ["heap"] (spX C) := by
  refine Br.Fun.jX F scLasts (fun vs H Q E h => ?_) (fun cdv A outer s H vs Q E hr h => ?_)
  · obtain ⟨_, _, _, rfl, _⟩ := h; rfl
  · obtain ⟨hp, need, qs, rfl, hh, hb, h⟩ := h
    have nd := scLasts.nd
    refine' ⟨_, ?d, ?r⟩
    case d => wtm_at "body"
    case r =>
      obtain ⟨t, us0, h1, h2, h3, h4, h5, h6, h7⟩ := id hh
      refine ⟨_, rfl, hp, need, qs, rfl, hh, prodc_hundred (fun q hq => (h7 q hq).2.2) h4, fun l us H1 nl s1 e1 hk => ?_⟩
      exact ⟨_, rfl, hp, need, qs, rfl, hh.tu (Tu.of s1), hb, fun H2 s2 => h H2 (s1.trans s2)⟩
end
end K36
namespace K36
section
variable {P : Program} {w : World} {K : PySem.W.Frag} {mg : Str → Option Value} {base : Heap}
abbrev sMade : Stmt := top 33
theorem scMade : FnScope ["need", "table", "place", "steps"] ["need", "table", "place", "steps"] (defScope sMade) := ⟨rfl, rfl, rfl, by decide +kernel, rfl, by decide +kernel, by decide +kernel⟩
def spMade : Sp := fun vs H Q _ => ∃ (need : Int) (t st : Addr) (k : Nat) (ts ss : List V) (T steps : List (Int × Int)), vs = [.int need, .ref t, .int k, .ref st] ∧ (H t = some (.lst ts) ∨ H t = some (.tup ts)) ∧ Kinds H ts T ∧ k ≤ T.length ∧ H st = some (.lst ss) ∧ Kinds H ss steps ∧ StepsOk k steps ∧ steps.length ≤ 8 ∧
  ∀ (l : Addr) (as : List Addr) (H' : Hp), H l = none → L2.Same H H' → H' l = some (.lst (as.map V.ref)) → Kinds H' (as.map V.ref) (made need T k steps) → Q (.ref l) H'
theorem ok_made {f : Addr} {fd : FuncData} (F : Fun K "made_last" "made_last" sMade f fd) (cP : Callee CX0 P w K mg base "put_to" 1 ["need", "pair", "size"] spPut) : FnOk P w K mg base CX0 2 f fd ["need", "table", "place", "steps"] spMade := by
  refine Br.Fun.j F scMade (fun vs H Q E h => ?_) (fun cdv A outer s H vs Q E hr h => ?_)
  · obtain ⟨_, _, _, _, _, _, _, _, rfl, _⟩ := h; rfl
  · obtain ⟨need, t, st, k, ts, ss, T, steps, rfl, hT, hkT, hkl, hS, hkS, hok, hs8, h⟩ := h
    have nd := scMade.nd
    have hsz : (sizeLine : Nat) = 16777216 := sizeLine_eq
    have hsl := hkS.1
    refine' ⟨_, ?d, ?r⟩
    case d => wtm_at "body"
    case r =>
      refine ⟨_, rfl, st, rfl, .inl ⟨⟨_, SqL.of hS⟩, ?_⟩⟩
      refine cmp_list (K := K) (a := st) (xs := ss) (fun j ys σ G => L2.Same H G ∧ ∃ (as : List Addr) (x y : Option V), ys = as.map V.ref ∧ as.length = j ∧ Kinds G (as.map V.ref) ((made need T k steps).take j) ∧ σ = [x, y, some (.int need), some (.ref t), some (.int (k : Int)), some (.ref st)])
        ⟨L2.Same.refl _, [], none, none, rfl, rfl, Kinds.nil, rfl⟩ (by omega) (fun j ys σ G _ ⟨sG, as, _, _, e3, e4, _⟩ => ⟨SqL.of (sG _ _ hS), by rw [e3, List.length_map]; omega⟩) ?_ ?_
      · rintro j x ys σ G N hx ⟨sG, as, x0, y0, rfl, hal, hk, rfl⟩ hN
        obtain ⟨q, hq, r, rfl, hrr⟩ := hkS.2 j x hx
        obtain ⟨o1, o2, o3⟩ := hok q (List.mem_of_getElem? hq)
        refine ⟨r, _, rfl, SqT.of (sG _ _ hrr), rfl, _, _, rfl, _, _, rfl, rfl, ?_⟩
        have hix : k - q.2.toNat < T.length := by omega
        obtain ⟨v, hv⟩ : ∃ v, ts[k - q.2.toNat]? = some v := ⟨_, List.getElem?_eq_getElem (by rw [hkT.1]; exact hix)⟩
        obtain ⟨p, hp, rp, rfl, hrp⟩ := hkT.2 _ v hv
        have hat : atI ts ((k : Int) - q.2) = some (.ref rp) := by
          rw [show (k : Int) - q.2 = ((k - q.2.toNat : Nat) : Int) by omega]; exact atI_nat hv
        have fin : spPut [.int need, .ref rp, .int q.1] G (fun y H5 => N (as.map V.ref ++ [y]) [some (.int q.1), some (.int q.2), some (.int need), some (.ref t), some (.int (k : Int)), some (.ref st)] H5) E0 := by
          refine ⟨need, rp, p, q.1, rfl, sG _ _ hrp, fun r2 G2 n2 s2 e2 => hN _ _ _ ⟨sG.trans s2, as ++ [r2], _, _, by rw [List.map_append]; rfl, by rw [List.length_append, hal]; rfl, ?_, rfl⟩⟩
          have hm : (made need T k steps)[j]? = some (putP need p q.1) := by
            unfold made
            rw [List.getElem?_map, hq]
            show some (putP need (T.getD (k - q.2.toNat) (0, 0)) q.1) = _
            rw [List.getD_eq_getElem?_getD, hp]; rfl
          rw [List.take_add_one, hm, List.map_append]
          exact (hk.same s2).snoc e2
        refine ⟨_, rfl, _, rfl, _, rfl, _, rfl, _, _, rfl, rfl, ?_⟩
        rcases hT with e | e
        · exact .inl ⟨t, _, _, _, rfl, rfl, SqL.of (sG _ _ e), hat, _, rfl, fin⟩
        · exact .inr (.inl ⟨t, _, _, _, rfl, rfl, SqT.of (sG _ _ e), hat, _, rfl, fin⟩)
      · rintro ys σ G ⟨sG, as, x0, y0, rfl, hal, hk, rfl⟩ pl G1 npl s1 e1
        rw [List.take_of_length_le (by unfold made; rw [List.length_map]; omega)] at hk
        exact h pl as G1 (none_of sG npl) (sG.trans s1) e1 (hk.same s1)
end
end K36
namespace K36
theorem full_way {qs : List (Int × Int)} (hq : ∀ q ∈ qs, 1 ≤ q.1 ∧ 1 ≤ q.2) (hne : qs ≠ []) : ∃ (k : Nat) (st : Int × Int) (rest : List (Int × Int)), (LS qs)[k]? = some (st :: rest) := by
  cases qs with
  | nil => exact absurd rfl hne
  | cons q qs =>
    obtain ⟨i, hi⟩ := (ways_ok (cnts (q :: qs)) (cnts (q :: qs)).length (Nat.le_refl _)).all ((cnts (q :: qs)).map fun m : Nat => (m : Int)) (by rw [List.length_map]) (fun j x hx => by
      rw [List.getElem?_map] at hx
      obtain ⟨m, hm, rfl⟩ := Option.map_eq_some_iff.mp hx
      exact ⟨by omega, m, hm, Int.le_refl _⟩)
    rw [List.take_length] at hi
    have := LS_at hi
    have h1 := hq q (.head _)
    refine ⟨i, (q.1, prodc qs), lastsOf ((cnts qs).map fun m : Nat => (m : Int)) (paces qs), this.trans (congrArg some ?_)⟩
    show lastsOf ((q.2.toNat : Int) :: (cnts qs).map fun m : Nat => (m : Int)) ((q.1, prodc qs) :: paces qs) = _
    unfold lastsOf
    rw [List.zip_cons_cons, List.filter_cons_of_pos (by exact decide_eq_true (show (0 : Int) < (q.2.toNat : Int) by omega)), List.map_cons]
def tbl (n : Nat) : List (Int × Int) := List.replicate n (10000000000000, 0)
theorem tbl_kinds {H : Hp} {r : Addr} (n : Nat) (e : H r = some (.tup [.int 10000000000000, .int 0])) : Kinds H (List.replicate n (.ref r)) (tbl n) := by
  refine ⟨by unfold tbl; rw [List.length_replicate, List.length_replicate], fun i v h => ?_⟩
  rw [List.getElem?_replicate] at h
  by_cases hi : i < n
  · rw [if_pos hi] at h
    cases h
    exact ⟨(10000000000000, 0), by unfold tbl; rw [List.getElem?_replicate, if_pos hi], r, rfl, e⟩
  · rw [if_neg hi] at h; cases h
theorem made_over {need : Int} {n k : Nat} {steps : List (Int × Int)} (hk : k < n) (ok : StepsOk k steps) {v : Int × Int} (hv : v ∈ made need (tbl n) k steps) : HT.lexLt [10000000000000, 0] [v.1, v.2] = true := by
  unfold made at hv
  obtain ⟨st, hst, rfl⟩ := List.mem_map.mp hv
  obtain ⟨o1, o2, o3⟩ := ok st hst
  have e : (tbl n).getD (k - st.2.toNat) (0, 0) = (10000000000000, 0) := by
    unfold tbl
    rw [List.getD_eq_getElem?_getD, List.getElem?_replicate, if_pos (by omega)]; rfl
  rw [e]
  unfold putP
  by_cases hc : need ≤ (0 : Int) + st.1
  · rw [if_pos hc, HT.lexLt_cons, if_neg (by show ¬ (10000000000000 : Int) = 10000000000000 + 1; decide)]
    exact decide_eq_true (by decide)
  · rw [if_neg hc, HT.lexLt_cons, if_pos rfl, HT.lexLt_cons, if_neg (by show ¬ (0 : Int) = 0 + st.1; omega)]
    exact decide_eq_true (by show (0 : Int) < 0 + st.1; omega)
theorem LS_few {qs : List (Int × Int)} {k : Nat} {steps : List (Int × Int)} (h : (LS qs)[k]? = some steps) : steps.length ≤ qs.length := by
  unfold LS at h
  rw [List.getElem?_map] at h
  obtain ⟨w, hw, rfl⟩ := Option.map_eq_some_iff.mp h
  unfold lastsOf
  rw [List.length_map]
  refine Nat.le_trans (List.length_filter_le _ _) ?_
  rw [List.length_zip, paces_len]; omega
section
local macro_rules | `(tactic| wtm_at "pi") => `(tactic| (apply EL.k_enum; (wtm_at "K"); (with_reducible rfl); (rfl); (assumption); (rfl); (wtm_at "pa")))
local macro_rules | `(tactic| wtm_at "cop") => `(tactic| (apply c_leT; (wtm_at "K"); (wtm_at "room")))
variable {P : Program} {w : World} {K : PySem.W.Frag} {mg : Str → Option Value} {base : Heap}
abbrev sHolds : Stmt := top 36
theorem scHolds : FnScope ["heap", "table", "lasts", "place", "steps"] ["heap", "table"] (defScope sHolds) := ⟨rfl, rfl, rfl, by decide +kernel, rfl, by decide +kernel, by decide +kernel⟩
def spHolds : Sp := fun vs H Q _ => ∃ (h tb r : Addr) (need : Int) (qs : List (Int × Int)) (n : Nat), vs = [.ref h, .ref tb] ∧ HeapAt H h need qs ∧ (qs.map (·.2)).sum ≤ 60 ∧ prodc qs ≤ 2000 ∧ qs ≠ [] ∧
  H tb = some (.tup (List.replicate n (.ref r))) ∧ H r = some (.tup [.int 10000000000000, .int 0]) ∧ (n : Int) = prodc qs ∧ ∀ H', L2.Same H H' → Q (.bl false) H'
theorem ok_holds {f : Addr} {fd : FuncData} (F : Fun K "table_holds" "table_holds" sHolds f fd) (cL : Callee CX0 P w K mg base "lasts_of" 4 ["heap"] spLasts) (cM : Callee CX0 P w K mg base "made_last" 2 ["need", "table", "place", "steps"] spMade)
    (mE : mg "enumerate" = none) (mA : mg "all" = none) (mL : mg "len" = none) : FnOk P w K mg base CX0 5 f fd ["heap", "table"] spHolds := by
  refine Br.Fun.j F scHolds (fun vs H Q E h => ?_) (fun cdv A outer s H vs Q E hr h => ?_)
  · obtain ⟨_, _, _, _, _, _, rfl, _⟩ := h; rfl
  · obtain ⟨hp, tb, r, need, qs, n, rfl, hh, hs60, hp2, hne, eT, eR, hn, h⟩ := h
    have nd := scHolds.nd
    have hsz : (sizeLine : Nat) = 16777216 := sizeLine_eq
    refine' ⟨_, ?d, ?r⟩
    case d => wtm_at "body"
    case r =>
      obtain ⟨t, us0, h1, h2, h3, h4, h5, h6, h7⟩ := id hh
      refine ⟨_, rfl, hp, need, qs, rfl, hh, hs60, hp2, fun l ls H1 nl s1 e1 hL hls => ?_⟩
      have hlen : ls.length = n := by
        have a1 := hL.1
        rw [LS_len] at a1
        have a2 := ways_len (cnts qs) [[]]
        rw [List.length_singleton, Nat.one_mul] at a2
        have a3 := prodc_N (qs := qs) fun q hq => (h7 q hq).2.2.1
        have a4 : (waysL (cnts qs)).length = prodN (cnts qs) := a2
        omega
      have eT1 := s1 _ _ eT
      have eR1 := s1 _ _ eR
      refine ⟨fun σ' H' => L2.Same H1 H' ∧ σ' = [some (.ref hp), some (.ref tb), some (.ref l), none, none], ?_, ?_⟩
      · refine ⟨_, rfl, .inl ⟨tb, _, rfl, .inr (SqT.of eT1), ?_⟩⟩
        refine ⟨_, rfl, .inl ⟨l, _, rfl, .inl (SqL.of e1), ?_⟩⟩
        refine ⟨rfl, _, rfl, ?_⟩
        rw [dec_int, List.length_replicate, List.length_map, hlen, beq_self_eq_true]
        refine iteF ?_
        refine ⟨_, rfl, tb, rfl, .inr ⟨⟨_, SqT.of eT1⟩, ?_⟩⟩
        refine cmp_tup (K := K) (a := tb) (xs := List.replicate n (V.ref r)) (fun j ys σ G => G = H1 ∧ ys = (List.replicate j true).map V.bl ∧ ∃ x y : Option V, σ = [x, y, some (.ref hp), some (.ref tb), some (.ref l), none, none])
          ⟨rfl, rfl, none, none, rfl⟩ (by rw [List.length_replicate]; omega) (fun j ys σ G hj ⟨e3, e4, _⟩ => ⟨by rw [e3]; exact SqT.of eT1, by rw [e4, List.length_map, List.length_replicate]; exact Nat.le_refl _⟩) ?_ ?_
        · rintro j x ys σ G N hx ⟨rfl, rfl, x0, y0, rfl⟩ hN
          obtain ⟨q, hq, r', hr1, hr2⟩ := (tbl_kinds n eR1).2 j x hx
          unfold tbl at hq
          rw [List.getElem?_replicate] at hq
          have hjn : j < n := by
            by_cases z : j < n
            · exact z
            · rw [if_neg z] at hq; cases hq
          rw [if_pos hjn] at hq
          cases hq
          subst hr1
          refine ⟨r', _, rfl, SqT.of hr2, rfl, _, _, rfl, _, _, rfl, rfl, ?_⟩
          refine ⟨_, rfl, _, _, rfl, rfl, _, rfl, iteT ?_⟩
          refine ⟨_, rfl, _, _, rfl, rfl, hN _ _ _ ⟨rfl, ?_, _, _, rfl⟩⟩
          rw [List.replicate_succ', List.map_append]; rfl
        · rintro ys σ G ⟨rfl, rfl, x0, y0, rfl⟩ pb H2 npb s2 e2
          refine ⟨pb, _, rfl, SqL.of e2, _, rfl, ?_⟩
          refine ite2 (fun hc => ?_) (fun _ => ⟨s2, rfl⟩)
          exfalso
          have : ∀ m : Nat, ((List.replicate m true).all id) = true := fun m => List.all_eq_true.mpr fun b hb => (List.eq_of_mem_replicate hb)
          have hc' := congrArg (fun b => !b) hc
          simp only [Bool.not_not, this] at hc'
          exact absurd hc' (by decide)
      · rintro σ' H2 ⟨s2, rfl⟩
        have s12 := s1.trans s2
        refine ⟨_, rfl, l, _, rfl, SqL.of (s2 _ _ e1), ?_⟩
        refine EL.for_enum (K := K) (a := l) (xs := ls.map V.ref) (fun k σ G => L2.Same H1 G ∧ (∀ (i : Nat) st, i < k → (LS qs)[i]? = some st → st = []) ∧ ∃ x y : Option V, σ = [some (.ref hp), some (.ref tb), some (.ref l), x, y])
          ⟨s2, fun i st hi => absurd hi (Nat.not_lt_zero _), none, none, rfl⟩ (fun k σ G _ ⟨sG, _⟩ => SqL.of (sG _ _ e1)) ?_ ?_
        · rintro k x σ G T hx ⟨sG, hem, x0, y0, rfl⟩ nT
          rw [List.getElem?_map] at hx
          obtain ⟨a, ha, rfl⟩ := Option.map_eq_some_iff.mp hx
          obtain ⟨steps, ss, hst, hss, hks⟩ := hL.2 k a ha
          have ok1 := LS_ok (fun q hq => ⟨(h7 q hq).1, (h7 q hq).2.2.1⟩) k steps hst
          have ok8 : steps.length ≤ 8 := Nat.le_trans (LS_few hst) h4
          have hkn : k < n := by have := (List.getElem?_eq_some_iff.mp ha).1; omega
          have sT : L2.Same G (upd G T (.tup [.int (k : Int), .ref a])) := Br.Same.upd nT
          generalize hG1 : upd G T (.tup [.int (k : Int), .ref a]) = G1 at sT
          have eTT : G1 T = some (.tup [.int (k : Int), .ref a]) := by rw [← hG1]; exact upd_same
          refine ⟨T, _, rfl, SqT.of eTT, rfl, _, _, rfl, _, _, rfl, rfl, ?_⟩
          have sH1 := sG.trans sT
          have sHH := s1.trans sH1
          refine ⟨fun σ' H' => steps = [] ∧ L2.Same H1 H' ∧ ∃ x y : Option V, σ' = [some (.ref hp), some (.ref tb), some (.ref l), x, y], ?_, ?_⟩
          · refine ⟨_, rfl, .inr (.inl ⟨hp, _, _, _, rfl, rfl, SqT.of (sHH _ _ h1), (show atI [V.int need, V.ref t] 0 = some (.int need) from rfl), ?_⟩)⟩
            refine ⟨_, rfl, _, rfl, _, rfl, need, tb, a, k, _, ss, tbl n, steps, rfl, .inr (sH1 _ _ eT1), tbl_kinds n (sH1 _ _ eR1), by unfold tbl; rw [List.length_replicate]; omega, sH1 _ _ hss, hks.same sH1, ok1, ok8, fun lm as G2 nlm s3 e3 hk3 => ?_⟩
            refine ⟨lm, rfl, .inl ⟨⟨_, SqL.of e3⟩, ?_⟩⟩
            have hml : (made need (tbl n) k steps).length = steps.length := by unfold made; rw [List.length_map]
            have hal : as.length = steps.length := by have := hk3.1; rw [List.length_map, hml] at this; exact this
            refine cmp_list (K := K) (a := lm) (xs := as.map V.ref) (fun j ys σ G' => G' = G2 ∧ ys = (List.replicate j false).map V.bl ∧ ∃ x : Option V, σ = [x, some (.ref hp), some (.ref tb), some (.ref l), some (.int (k : Int)), some (.ref a)])
              ⟨rfl, rfl, none, rfl⟩ (by rw [List.length_map]; omega) (fun j ys σ G' _ ⟨e4, e5, _⟩ => ⟨by rw [e4]; exact SqL.of e3, by rw [e5, List.length_map, List.length_replicate]; exact Nat.le_refl _⟩) ?_ ?_
            · rintro j x ys σ G' N hx ⟨rfl, rfl, x1, rfl⟩ hN
              obtain ⟨v, hv, rv, hr1, hr2⟩ := hk3.2 j x hx
              subst hr1
              have hov := made_over hkn ok1 (List.mem_of_getElem? hv)
              have hat : atI (List.replicate n (V.ref r)) (k : Int) = some (.ref r) := atI_nat (by rw [List.getElem?_replicate, if_pos hkn])
              have sA := sH1.trans s3
              refine ⟨_, rfl, _, rfl, _, rfl, .inr (.inl ⟨tb, _, _, _, rfl, rfl, SqT.of (sA _ _ eT1), hat, ?_⟩)⟩
              refine .inr ⟨rv, r, [v.1, v.2], [10000000000000, 0], rfl, rfl, SqT.of hr2, SqT.of (sA _ _ eR1), ?_⟩
              rw [hov]
              refine hN _ _ _ ⟨rfl, ?_, _, rfl⟩
              rw [List.replicate_succ', List.map_append]; rfl
            · rintro ys σ G' ⟨rfl, rfl, x1, rfl⟩ pb G3 npb s4 e4
              refine ⟨pb, _, rfl, SqL.of e4, _, rfl, ?_⟩
              refine ite2 (fun hc => ?_) (fun hc => ?_)
              · exact h G3 (sHH.trans (s3.trans s4))
              · refine ⟨?_, sH1.trans (s3.trans s4), _, _, rfl⟩
                cases hs : steps with
                | nil => rfl
                | cons st rest =>
                  exfalso
                  apply hc
                  rw [List.length_map, hal, hs, List.length_cons, List.replicate_succ]
                  rfl
          · rintro σ' H' ⟨he, sH', x2, y2, rfl⟩
            refine ⟨sH', fun i st hi e => ?_, _, _, rfl⟩
            by_cases z : i < k
            · exact hem i st z e
            · rw [show i = k by omega, hst] at e
              cases e
              exact he
        · rintro σ G ⟨sG, hem, x0, y0, rfl⟩
          exfalso
          obtain ⟨k, st, rest, hk⟩ := full_way (fun q hq => ⟨(h7 q hq).1, (h7 q hq).2.2.1⟩) hne
          have := hem k _ (by have := (List.getElem?_eq_some_iff.mp hk).1; have := hL.1; rw [List.length_map]; omega) hk
          cases this
end
end K36
namespace K36
section
variable {P : Program} {w : World} {K : PySem.W.Frag} {mg : Str → Option Value} {base : Heap}
abbrev sTabBy : Stmt := top 34
abbrev sTabOf : Stmt := top 35
abbrev sMostOf : Stmt := top 54
abbrev sMostR : Stmt := top 55
theorem scTabBy : FnScope ["need", "lasts", "table", "place", "steps"] ["need", "lasts"] (defScope sTabBy) := ⟨rfl, rfl, rfl, by decide +kernel, rfl, by decide +kernel, by decide +kernel⟩
def spNo : Sp := fun _ _ _ _ => False
theorem ok_tabBy {f : Addr} {fd : FuncData} (F : Fun K "table_by" "table_by" sTabBy f fd) : FnOk P w K mg base CX0 1 f fd ["need", "lasts"] spNo :=
  Br.Fun.j F scTabBy (fun vs H Q E h => False.elim h) (fun cdv A outer s H vs Q E hr h => False.elim h)
theorem scTabOf : FnScope ["heap"] ["heap"] (defScope sTabOf) := ⟨rfl, rfl, rfl, by decide +kernel, rfl, by decide +kernel, by decide +kernel⟩
theorem ok_tabOfX {f : Addr} {fd : FuncData} {C : Addr} (F : Fun K "table_of" "table_of" sTabOf f fd) (cB : Callee CX0 P w K mg base "table_by" 1 ["need", "lasts"] spNo) (cL : Callee (CXF P w) P w K mg base "lasts_of" 4 ["heap"] (spX C)) : FnOk P w K mg base (CXF P w) 5 f fd ["heap"] (spX C) := by
  refine Br.Fun.jX F scTabOf (fun vs H Q E h => ?_) (fun cdv A outer s H vs Q E hr h => ?_)
  · obtain ⟨_, _, _, rfl, _⟩ := h; rfl
  · obtain ⟨hp, need, qs, rfl, hh, hb, h⟩ := h
    have nd := scTabOf.nd
    refine' ⟨_, ?d, ?r⟩
    case d => wtm_at "body"
    case r =>
      obtain ⟨t, us0, h1, h2, h3, h4, h5, h6, h7⟩ := id hh
      refine ⟨_, rfl, .inr (.inl ⟨hp, _, _, _, rfl, rfl, SqT.of h1, (show atI [V.int need, V.ref t] 0 = some (.int need) from rfl), ?_⟩)⟩
      exact ⟨_, rfl, hp, need, qs, rfl, hh, hb, h⟩
section
local macro_rules | `(tactic| wtm_at "pss") => `(tactic| apply ss_dead)
theorem scMostOf : FnScope ["heap", "table", "row"] ["heap"] (defScope sMostOf) := ⟨rfl, rfl, rfl, by decide +kernel, rfl, by decide +kernel, by decide +kernel⟩
theorem ok_mostOfX {f : Addr} {fd : FuncData} {C : Addr} (F : Fun K "most_of" "most_of" sMostOf f fd) (cL : Callee (CXF P w) P w K mg base "table_of" 5 ["heap"] (spX C)) : FnOk P w K mg base (CXF P w) 6 f fd ["heap"] (spX C) := by
  refine Br.Fun.jX F scMostOf (fun vs H Q E h => ?_) (fun cdv A outer s H vs Q E hr h => ?_)
  · obtain ⟨_, _, _, rfl, _⟩ := h; rfl
  · obtain ⟨hp, need, qs, rfl, hh, hb, h⟩ := h
    have nd := scMostOf.nd
    refine' ⟨_, ?d, ?r⟩
    case d => wtm_at "body"
    case r => exact ⟨_, rfl, hp, need, qs, rfl, hh, hb, h⟩
def spX2 (C : Addr) : Sp := fun vs H _ E => ∃ (h : Addr) (need : Int) (qs : List (Int × Int)) (v : V), vs = [.ref h, v] ∧ HeapAt H h need qs ∧ Bad qs ∧ ∀ H', L2.Same H H' → E (.ref C) none H'
theorem ok_holdsX {f : Addr} {fd : FuncData} {C : Addr} (F : Fun K "table_holds" "table_holds" sHolds f fd) (cL : Callee (CXF P w) P w K mg base "lasts_of" 4 ["heap"] (spX C)) : FnOk P w K mg base (CXF P w) 5 f fd ["heap", "table"] (spX2 C) := by
  refine Br.Fun.jX F scHolds (fun vs H Q E h => ?_) (fun cdv A outer s H vs Q E hr h => ?_)
  · obtain ⟨_, _, _, _, rfl, _⟩ := h; rfl
  · obtain ⟨hp, need, qs, v, rfl, hh, hb, h⟩ := h
    have nd := scHolds.nd
    refine' ⟨_, ?d, ?r⟩
    case d => wtm_at "body"
    case r => exact ⟨_, rfl, hp, need, qs, rfl, hh, hb, h⟩
end
section
local macro_rules | `(tactic| wtm_at "pss") => `(tactic| (apply ss_cons; (apply s_if; (wtm_at "pt"); (apply ss_dead); (apply ss_nil)); apply ss_dead))
theorem scMostR : FnScope ["heap", "told", "count", "filling", "table"] ["heap", "told"] (defScope sMostR) := ⟨rfl, rfl, rfl, by decide +kernel, rfl, by decide +kernel, by decide +kernel⟩
def spX3 (C : Addr) : Sp := fun vs H _ E => ∃ (h td : Addr) (need : Int) (qs : List (Int × Int)) (x y z : V), vs = [.ref h, .ref td] ∧ H td = some (.tup [x, y, z]) ∧ HeapAt H h need qs ∧ Bad qs ∧ ∀ H', L2.Same H H' → E (.ref C) none H'
theorem ok_mostRX {f : Addr} {fd : FuncData} {C : Addr} (F : Fun K "most_right" "most_right" sMostR f fd) (cL : Callee (CXF P w) P w K mg base "table_holds" 5 ["heap", "table"] (spX2 C)) : FnOk P w K mg base (CXF P w) 6 f fd ["heap", "told"] (spX3 C) := by
  refine Br.Fun.jX F scMostR (fun vs H Q E h => ?_) (fun cdv A outer s H vs Q E hr h => ?_)
  · obtain ⟨_, _, _, _, _, _, _, rfl, _⟩ := h; rfl
  · obtain ⟨hp, td, need, qs, x, y, z, rfl, htd, hh, hb, h⟩ := h
    have nd := scMostR.nd
    refine' ⟨_, ?d, ?r⟩
    case d => wtm_at "body"
    case r =>
      refine ⟨_, rfl, td, _, rfl, SqT.of htd, rfl, ?_⟩
      refine ⟨_, _, rfl, _, _, rfl, _, _, rfl, rfl, ?_⟩
      refine ⟨fun _ _ => False, ?_, fun _ _ h => h.elim⟩
      exact ⟨_, rfl, _, rfl, hp, need, qs, z, rfl, hh, hb, h⟩
end
end
end K36
namespace K36
section
variable {P : Program} {w : World} {K : PySem.W.Frag} {mg : Str → Option Value} {base : Heap}
abbrev sRefused : Stmt := top 59
theorem kitAny_no {C : Addr} : ∀ {Ds : List Addr}, (∀ D ∈ Ds, PySem.W.kitOne K (.ref C) (.ref D) = some false) → PySem.W.kitAny K (.ref C) (Ds.map Value.ref) = some false
  | [], _ => rfl
  | D :: r, h => by
    rw [List.map_cons]
    unfold PySem.W.kitAny
    rw [h D (.head _)]
    exact kitAny_no fun E hE => h E (.tail _ hE)
theorem try_all {K : PySem.W.Frag} {c : Value} {i : Nat} {tb : TSx} {ts : TS} {D : Ends} {σ : L2.St} {H : Hp} {C : Addr} (hx : PySem.W.exmOne K (.ref C) c = some true)
    (hs : ∀ H1 ea, L2.Same H H1 → H1 ea = none → ts { nx := fun σ2 H2 => D.nx (σ2.set i none) H2, rt := D.rt, bk := fun σ2 H2 => D.bk (σ2.set i none) H2, ct := fun σ2 H2 => D.ct (σ2.set i none) H2 } (σ.set i (some (.ref ea))) (upd H1 ea (ExcO ea C)))
    (hb : ∀ EE : XS, (∀ H1, L2.Same H H1 → EE (.ref C) σ H1) → tb D EE σ H) : tTryAs K c i tb ts D σ H := hb _ fun H1 s1 => ⟨hx, C, rfl, fun ea hea => hs H1 ea s1 hea⟩
theorem scRefused : FnScope ["way", "heap", "e", "others"] ["way", "heap"] (defScope sRefused) := ⟨rfl, rfl, rfl, by decide +kernel, rfl, by decide +kernel, by decide +kernel⟩
def spRefused : Sp := fun vs H Q _ => ∃ (wy : Int) (h : Addr) (need : Int) (qs : List (Int × Int)), vs = [.int wy, .ref h] ∧ HeapAt H h need qs ∧ Bad qs ∧ ∀ H', L2.Same H H' → Q (.bl true) H'
theorem ok_refused {f : Addr} {fd : FuncData} {C B c1 c2 c3 c4 c5 c6 c7 c8 c9 : Addr} (F : Fun K "_law_refused" "_law_refused" sRefused f fd)
    (cW : Callee (CXF P w) P w K mg base "ways_of" 3 ["heap"] (spX C)) (cT : Callee (CXF P w) P w K mg base "table_of" 5 ["heap"] (spX C)) (cH : Callee (CXF P w) P w K mg base "table_holds" 5 ["heap", "table"] (spX2 C)) (cM : Callee (CXF P w) P w K mg base "most_of" 6 ["heap"] (spX C)) (cR : Callee (CXF P w) P w K mg base "most_right" 6 ["heap", "told"] (spX3 C))
    (eR : ECls K mg "TooMany" C B) (bB : BCls K mg "BrimError" B)
    (e1 : ECls K mg "NoBack" c1 B) (e2 : ECls K mg "NoHeap" c2 B) (e3 : ECls K mg "NoLot" c3 B) (e4 : ECls K mg "NoRatio" c4 B) (e5 : ECls K mg "NoRow" c5 B) (e6 : ECls K mg "NoSize" c6 B) (e7 : ECls K mg "NoText" c7 B) (e8 : ECls K mg "TooFew" c8 B) (e9 : ECls K mg "Unlike" c9 B)
    (hn : ∀ D ∈ [c1, c2, c3, c4, c5, c6, c7, c8, c9], C ≠ D ∧ B ≠ D) (mI : mg "isinstance" = none) (mV : mg "ValueError" = none) : FnOk P w K mg base CX0 7 f fd ["way", "heap"] spRefused := by
  refine Br.Fun.j F scRefused (fun vs H Q E h => ?_) (fun cdv A outer s H vs Q E hr h => ?_)
  · obtain ⟨_, _, _, _, rfl, _⟩ := h; rfl
  · obtain ⟨wy, hp, need, qs, rfl, hh, hb, h⟩ := h
    have nd := scRefused.nd
    refine' ⟨_, ?d, ?r⟩
    case d => wtm_at "body"
    case r =>
      have ko : PySem.W.kitAny K (.ref C) ([c1, c2, c3, c4, c5, c6, c7, c8, c9].map Value.ref) = some false := by
        refine kitAny_no fun D hD => ?_
        have n := hn D hD
        simp only [List.mem_cons, List.mem_nil_iff, or_false] at hD
        rcases hD with rfl | rfl | rfl | rfl | rfl | rfl | rfl | rfl | rfl
        · exact eR.other e1 n.1 n.2
        · exact eR.other e2 n.1 n.2
        · exact eR.other e3 n.1 n.2
        · exact eR.other e4 n.1 n.2
        · exact eR.other e5 n.1 n.2
        · exact eR.other e6 n.1 n.2
        · exact eR.other e7 n.1 n.2
        · exact eR.other e8 n.1 n.2
        · exact eR.other e9 n.1 n.2
      refine try_all (eR.caught bB) (fun H1 ea s1 hea => ?_) (fun EE hE => ?_)
      · have hE : upd H1 ea (ExcO ea C) ea = some (ExcO ea C) := upd_same
        refine ⟨.ref ea, rfl, ?_⟩
        refine ⟨by show 9 ≤ sizeLine; decide, fun tp H3 htp s3 f3 => ?_⟩
        refine .inr (.inr ⟨ea, C, tp, [c1, c2, c3, c4, c5, c6, c7, c8, c9], false, rfl, s3 _ _ hE, eR.exc, f3, ko, ?_⟩)
        refine ⟨.ref ea, rfl, .inr (.inl ⟨_, _, _, _, rfl, .exc (s3 _ _ hE) eR.exc, eR.self, _, rfl, iteT ?_⟩)⟩
        refine ⟨.ref ea, rfl, .inl ⟨_, _, _, _, rfl, .exc (s3 _ _ hE) eR.exc, eR.value, _, rfl, iteT ?_⟩⟩
        refine ⟨_, rfl, _, rfl, ?_⟩
        exact h H3 fun b o q => s3 _ _ (by rw [upd_ne (ne_of_none (s1 _ _ q) hea)]; exact s1 _ _ q)
      · refine ⟨_, rfl, rfl, _, rfl, ite2 (fun _ => ?_) (fun _ => ?_)⟩
        · exact ⟨_, rfl, hp, need, qs, rfl, hh, hb, hE⟩
        refine ⟨_, rfl, rfl, _, rfl, ite2 (fun _ => ?_) (fun _ => ?_)⟩
        · exact ⟨_, rfl, hp, need, qs, rfl, hh, hb, hE⟩
        refine ⟨_, rfl, rfl, _, rfl, ite2 (fun _ => ?_) (fun _ => ?_)⟩
        · refine ⟨_, rfl, lenLe (n := 2) rfl (by decide), fun p1 H1 n1 s1 f1 => ?_⟩
          refine ⟨lenLe (n := 1) rfl (by decide), fun p2 H2 n2 s2 f2 => ?_⟩
          exact ⟨hp, need, qs, _, rfl, hh.tu (Tu.of (s1.trans s2)), hb, fun H3 s3 => hE H3 (s1.trans (s2.trans s3))⟩
        refine ⟨_, rfl, rfl, _, rfl, ite2 (fun _ => ?_) (fun _ => ?_)⟩
        · exact ⟨_, rfl, hp, need, qs, rfl, hh, hb, hE⟩
        refine ⟨_, rfl, by simp, fun p1 H1 n1 s1 f1 => ?_⟩
        refine ⟨by simp, fun p2 H2 n2 s2 f2 => ?_⟩
        refine ⟨lenLe (n := 3) rfl (by decide), fun p3 H3 n3 s3 f3 => ?_⟩
        exact ⟨hp, p3, need, qs, _, _, _, rfl, f3, hh.tu (Tu.of (s1.trans (s2.trans s3))), hb, fun H4 s4 => hE H4 (s1.trans (s2.trans (s3.trans s4)))⟩
end
end K36
namespace K36
section
variable {P : Program} {w : World} {K : PySem.W.Frag} {mg : Str → Option Value} {base : Heap}
abbrev sKinds : Stmt := top 60
theorem scKinds : FnScope ["pool", "counts", "size", "found", "many"] ["pool", "counts"] (defScope sKinds) := ⟨rfl, rfl, rfl, by decide +kernel, rfl, by decide +kernel, by decide +kernel⟩
def spKinds : Sp := fun vs H Q _ => ∃ (p c : Addr) (ms : List Int), vs = [.ref p, .ref c] ∧ Pool H p ∧ H c = some (.lst (ms.map V.int)) ∧ c ≠ p ∧ ms.length ≤ 8 ∧
  ∀ (t : Addr) (us : List V) (qs : List (Int × Int)) (H' : Hp), Mo [p] H H' → Pool H' p → H' t = some (.tup us) → Kinds H' us qs → qs.map (·.2) = ms → (∀ q ∈ qs, 1 ≤ q.1 ∧ q.1 ≤ 10 ^ 12) → Q (.ref t) H'
theorem ok_kinds {f : Addr} {fd : FuncData} (F : Fun K "_law_kinds" "_law_kinds" sKinds f fd) (cT : Callee CX0 P w K mg base "_law_take" 1 ["pool", "many"] spTake) (mT : mg "tuple" = none) : FnOk P w K mg base CX0 2 f fd ["pool", "counts"] spKinds := by
  refine Br.Fun.j F scKinds (fun vs H Q E h => ?_) (fun cdv A outer s H vs Q E hr h => ?_)
  · obtain ⟨_, _, _, rfl, _⟩ := h; rfl
  · obtain ⟨p, c, ms, rfl, hp, hc, hcp, h8, h⟩ := h
    have nd := scKinds.nd
    have hsz : (sizeLine : Nat) = 16777216 := sizeLine_eq
    refine' ⟨_, ?d, ?r⟩
    case d => wtm_at "body"
    case r =>
      refine ⟨by simp, fun l H1 nl s1 e1 => ?_⟩
      have hlp : l ≠ p := fun z => by obtain ⟨_, e, _⟩ := hp; rw [z, e] at nl; cases nl
      have hlc : c ≠ l := fun z => by rw [z, nl] at hc; cases hc
      refine ⟨_, rfl, c, rfl, .inl ⟨⟨_, SqL.of (s1 _ _ hc)⟩, ?_⟩⟩
      refine for_list (K := K) (a := c) (xs := ms.map V.int) (fun k σ G => Mo [p] H G ∧ Pool G p ∧ ∃ (us : List V) (qs : List (Int × Int)) (sz : Int) (x : Option V), G l = some (.lst us) ∧ Kinds G us qs ∧ us.length = k ∧ qs.map (·.2) = ms.take k ∧ (∀ q ∈ qs, 1 ≤ q.1 ∧ q.1 ≤ 10 ^ 12) ∧ 0 ≤ sz ∧ sz ≤ 9 * k ∧ σ = [some (.ref p), some (.ref c), some (.int sz), some (.ref l), x])
        ⟨Mo.of s1, hp.same s1, [], [], 0, none, e1, Kinds.nil, rfl, rfl, fun q hq => (nomatch hq), by decide, by decide, rfl⟩ (fun k σ G _ ⟨mG, _⟩ => SqL.of (mG _ _ (fun z => hcp (List.mem_singleton.mp z)) hc)) ?_ ?_
      · rintro k x σ G hx ⟨mG, pG, us, qs, sz, x4, eG, hk, hul, hqs, hq, z0, z1, rfl⟩
        rw [List.getElem?_map] at hx
        obtain ⟨m, hm, rfl⟩ := Option.map_eq_some_iff.mp hx
        have hk8 : k < ms.length := (List.getElem?_eq_some_iff.mp hm).1
        refine ⟨_, rfl, .inl ⟨_, _, rfl, rfl, ?_⟩⟩
        refine ⟨_, rfl, p, 9, rfl, pG, by decide, by decide, fun r G1 m1 p1 r0 r1 => .inl ⟨_, _, rfl, rfl, ?_⟩⟩
        have eG1 := m1 _ _ (fun z => hlp (List.mem_singleton.mp z)) eG
        refine ⟨_, rfl, .inl ⟨rfl, _, SqL.of eG1⟩, ?_⟩
        refine ⟨_, rfl, _, rfl, lenLe (n := 2) rfl (by decide), fun q G2 nq s2 e2 => ?_⟩
        refine ⟨l, us, _, rfl, rfl, s2 _ _ eG1, by omega, ?_⟩
        have tu : Tu G2 (upd G2 l (.lst (us ++ [.ref q]))) := fun b o e ⟨xs, ho⟩ => by
          rw [upd_ne (fun z => by rw [z, s2 _ _ eG1] at e; cases e; cases ho)]; exact e
        have hpl : ∀ {b : Addr} {o : HO}, H b = some o → b ≠ l := fun {b o} e z => by rw [z, nl] at e; cases e
        refine ⟨fun b o nb e => ?_, ?_, us ++ [.ref q], qs ++ [(sz + 1 + r, m)], _, _, upd_same, (((hk.tu (Tu.mo pG m1)).same s2).tu tu).snoc (tu _ _ e2 ⟨_, rfl⟩), by rw [List.length_append, hul]; rfl, ?_, ?_, by omega, by push_cast; omega, rfl⟩
        · rw [upd_ne (hpl e)]
          exact s2 _ _ (m1 _ _ nb (mG _ _ nb e))
        · obtain ⟨y, ey, hy⟩ := p1
          exact ⟨y, by rw [upd_ne (fun z => hlp z.symm)]; exact s2 _ _ ey, hy⟩
        · rw [List.map_append, hqs, List.take_add_one, hm]; rfl
        · intro q' hq'
          rcases List.mem_append.mp hq' with z | z
          · exact hq q' z
          · rw [List.mem_singleton.mp z]; exact ⟨by show 1 ≤ sz + 1 + r; omega, by show sz + 1 + r ≤ _; omega⟩
      · rintro σ G ⟨mG, pG, us, qs, sz, x4, eG, hk, hul, hqs, hq, z0, z1, rfl⟩
        rw [List.length_map, List.take_length] at hqs
        refine ⟨_, rfl, l, _, rfl, SqL.of eG, fun t G1 nt st et => ?_⟩
        exact h t us qs G1 (mG.trans (Mo.of st)) (pG.same st) et (hk.same st) hqs hq
end
end K36
namespace K36
inductive Ll (H : Hp) : List Addr → List (List Int) → Prop
  | nil : Ll H [] []
  | cons {a : Addr} {w : List Int} {as : List Addr} {ws : List (List Int)} (e : H a = some (.lst (w.map V.int))) (r : Ll H as ws) : Ll H (a :: as) (w :: ws)
theorem Ll.mono {H H' : Hp} {as : List Addr} (m : ∀ (b : Addr) (xs : List Int), H b = some (.lst (xs.map V.int)) → b ∈ as → H' b = some (.lst (xs.map V.int))) {ws : List (List Int)} (h : Ll H as ws) : Ll H' as ws := by
  induction h with
  | nil => exact .nil
  | cons e r ih => exact .cons (m _ _ e (.head _)) (ih fun b xs e hb => m b xs e (.tail _ hb))
theorem Ll.same {H H' : Hp} {as : List Addr} {ws : List (List Int)} (h : Ll H as ws) (s : L2.Same H H') : Ll H' as ws := h.mono fun b xs e _ => s _ _ e
theorem Ll.app {H : Hp} {as bs : List Addr} {ws zs : List (List Int)} (h : Ll H as ws) (k : Ll H bs zs) : Ll H (as ++ bs) (ws ++ zs) := by
  induction h with
  | nil => exact k
  | cons e r ih => exact .cons e ih
theorem Ll.one {H : Hp} {a : Addr} {w : List Int} (e : H a = some (.lst (w.map V.int))) : Ll H [a] [w] := .cons e .nil
theorem Ll.len {H : Hp} {as : List Addr} {ws : List (List Int)} (h : Ll H as ws) : as.length = ws.length := by
  induction h with
  | nil => rfl
  | cons e r ih => rw [List.length_cons, List.length_cons, ih]
theorem Ll.get {H : Hp} {as : List Addr} {ws : List (List Int)} (h : Ll H as ws) : ∀ {i : Nat} {a : Addr}, as[i]? = some a → ∃ w, w ∈ ws ∧ H a = some (.lst (w.map V.int)) := by
  induction h with
  | nil => intro i a h; simp at h
  | cons e r ih =>
    intro i a h
    cases i with
    | zero => simp at h; subst h; exact ⟨_, .head _, e⟩
    | succ i => obtain ⟨w, hw, e⟩ := ih (by simpa using h); exact ⟨w, .tail _ hw, e⟩
theorem Ll.put {H : Hp} {g r : Addr} {rs : List V} {o : HO} {as : List Addr} {ws : List (List Int)} (hg : H g = some (.lst (.ref r :: rs))) (h : Ll H as ws) : Ll (upd H g o) as ws := h.mono fun b xs e _ => by
  rw [upd_ne (fun z => ?_)]
  · exact e
  · rw [z, hg] at e
    cases xs <;> simp at e
def GOOD : List (List Int) := [[60], [24, 15, 4], [4, 4, 4, 3, 3], [1, 1, 1, 1, 4, 4, 4], [19, 9, 9], [1, 1, 1, 1, 1, 1, 1, 1], [3, 3, 4, 4, 4]] ++ [[39, 9, 4], [43, 16], [30, 29], [1, 2, 1, 2, 1, 2, 1]]
def BAD : List (List Int) := [[61], [60, 1], [30, 31], [20, 20, 21], [1, 1, 1, 1, 1, 1, 1, 55], [4, 4, 4, 4, 4], [1, 1, 2, 2, 2, 2, 2, 2]] ++
  [[2, 2, 2, 2, 2, 2, 2], [28, 22, 2], [1000000000000], [1000000000000, 1000000000000, 1000000000000, 1000000000000, 1000000000000, 1000000000000, 1000000000000, 1000000000000], [59, 2], [7, 7, 7, 7], [22, 28, 2], [40, 6, 6]]
def prodI : List Int → Int
  | [] => 1
  | m :: ms => (m + 1) * prodI ms
theorem prod_map : ∀ qs : List (Int × Int), prodc qs = prodI (qs.map (·.2))
  | [] => rfl
  | q :: qs => by show (q.2 + 1) * prodc qs = (q.2 + 1) * prodI (qs.map (·.2)); rw [prod_map qs]
theorem good_ok : ∀ ms ∈ GOOD, ms.sum ≤ 60 ∧ prodI ms ≤ 2000 ∧ ms.length ≤ 8 ∧ 1 ≤ ms.length ∧ ∀ m ∈ ms, 1 ≤ m ∧ m ≤ 10 ^ 12 := by decide +kernel
theorem bad_ok : ∀ ms ∈ BAD, (60 < ms.sum ∨ 2000 < prodI ms) ∧ ms.length ≤ 8 ∧ ∀ m ∈ ms, 1 ≤ m ∧ m ≤ 10 ^ 12 := by decide +kernel
section
local macro_rules | `(tactic| wtm_at "cop") => `(tactic| apply c_isnot)
variable {P : Program} {w : World} {K : PySem.W.Frag} {mg : Str → Option Value} {base : Heap}
abbrev sLaw : Stmt := top 61
theorem mo_same {p : Addr} {H H1 H2 : Hp} (s : L2.Same H H1) (hp : H p = none) (m : Mo [p] H1 H2) : L2.Same H H2 := fun b o e => m b o (fun z => by rw [List.mem_singleton.mp z, hp] at e; cases e) (s _ _ e)
theorem scLaw : FnScope ["script", "good", "bad", "at", "pool", "need", "heap", "ways", "size", "many", "way"] ["script"] (defScope sLaw) := ⟨rfl, rfl, rfl, by decide +kernel, rfl, by decide +kernel, by decide +kernel⟩
def spLaw (K : PySem.W.Frag) : Sp := fun vs H Q _ => ∃ (a : Addr) (ns : List Int), vs = [.ref a] ∧ SqL K H a (ns.map V.int) ∧ ns.length ≤ 63 ∧ ∀ H', Q (.bl true) H'
theorem ok_law {f : Addr} {fd : FuncData} (F : Fun K "law" "law" sLaw f fd) (cP : Callee CX0 P w K mg base "_law_pool" 1 ["script", "k"] (spPool K)) (cT : Callee CX0 P w K mg base "_law_take" 1 ["pool", "many"] spTake) (cK : Callee CX0 P w K mg base "_law_kinds" 2 ["pool", "counts"] spKinds)
    (cW : Callee CX0 P w K mg base "ways_of" 3 ["heap"] spWaysOf) (cH : Callee CX0 P w K mg base "table_holds" 5 ["heap", "table"] spHolds) (cR : Callee CX0 P w K mg base "_law_refused" 7 ["way", "heap"] spRefused)
    (mL : mg "len" = none) (mR : mg "range" = none) (mX : mg "max" = none) (mN : mg "min" = none) : FnOk P w K mg base CX0 8 f fd ["script"] (spLaw K) := by
  refine Br.Fun.j F scLaw (fun vs H Q E h => ?_) (fun cdv A outer s H vs Q E hr h => ?_)
  · obtain ⟨_, _, rfl, _⟩ := h; rfl
  · obtain ⟨a, ns, rfl, hS, hlen, k⟩ := h
    have nd := scLaw.nd
    have hsz : (sizeLine : Nat) = 16777216 := sizeLine_eq
    refine' ⟨_, ?d, ?r⟩
    case d => wtm_at "body"
    case r =>
      refine ⟨lenLe (n := 1) rfl (by decide), fun a1 H1 n1 s1 f1 => ?_⟩
      have t1 := s1
      have g1 : Ll H1 [a1] [[60]] := Ll.one (w := [60]) f1
      refine ⟨lenLe (n := 3) rfl (by decide), fun a2 H2 n2 s2 f2 => ?_⟩
      have t2 := t1.trans s2
      have g1 := g1.same s2
      have g1 := g1.app (Ll.one (w := [24, 15, 4]) f2)
      refine ⟨lenLe (n := 5) rfl (by decide), fun a3 H3 n3 s3 f3 => ?_⟩
      have t3 := t2.trans s3
      have g1 := g1.same s3
      have g1 := g1.app (Ll.one (w := [4, 4, 4, 3, 3]) f3)
      refine ⟨lenLe (n := 7) rfl (by decide), fun a4 H4 n4 s4 f4 => ?_⟩
      have t4 := t3.trans s4
      have g1 := g1.same s4
      have g1 := g1.app (Ll.one (w := [1, 1, 1, 1, 4, 4, 4]) f4)
      refine ⟨lenLe (n := 3) rfl (by decide), fun a5 H5 n5 s5 f5 => ?_⟩
      have t5 := t4.trans s5
      have g1 := g1.same s5
      have g1 := g1.app (Ll.one (w := [19, 9, 9]) f5)
      refine ⟨lenLe (n := 1) rfl (by decide), fun a6 H6 n6 s6 f6 => ?_⟩
      have t6 := t5.trans s6
      have g1 := g1.same s6
      refine ⟨a6, 8, _, rfl, rfl, f6, by decide, by decide, by rw [hsz]; decide, fun a7 H7 n7 s7 f7 => ?_⟩
      have t7 := t6.trans s7
      have g1 := g1.same s7
      have g1 := g1.app (Ll.one (w := [1, 1, 1, 1, 1, 1, 1, 1]) f7)
      refine ⟨lenLe (n := 5) rfl (by decide), fun a8 H8 n8 s8 f8 => ?_⟩
      have t8 := t7.trans s8
      have g1 := g1.same s8
      have g1 := g1.app (Ll.one (w := [3, 3, 4, 4, 4]) f8)
      refine ⟨lenLe (n := 7) rfl (by decide), fun a9 H9 n9 s9 f9 => ?_⟩
      have t9 := t8.trans s9
      have g1 := g1.same s9
      refine ⟨_, rfl, .inl ⟨rfl, _, SqL.of f9⟩, ?_⟩
      have egg := f9
      refine ⟨lenLe (n := 3) rfl (by decide), fun a10 H10 n10 s10 f10 => ?_⟩
      have t10 := t9.trans s10
      have egg := s10 _ _ egg
      have g1 := g1.same s10
      have g2 : Ll H10 [a10] [[39, 9, 4]] := Ll.one (w := [39, 9, 4]) f10
      refine ⟨lenLe (n := 2) rfl (by decide), fun a11 H11 n11 s11 f11 => ?_⟩
      have t11 := t10.trans s11
      have egg := s11 _ _ egg
      have g1 := g1.same s11
      have g2 := g2.same s11
      have g2 := g2.app (Ll.one (w := [43, 16]) f11)
      refine ⟨lenLe (n := 2) rfl (by decide), fun a12 H12 n12 s12 f12 => ?_⟩
      have t12 := t11.trans s12
      have egg := s12 _ _ egg
      have g1 := g1.same s12
      have g2 := g2.same s12
      have g2 := g2.app (Ll.one (w := [30, 29]) f12)
      refine ⟨lenLe (n := 7) rfl (by decide), fun a13 H13 n13 s13 f13 => ?_⟩
      have t13 := t12.trans s13
      have egg := s13 _ _ egg
      have g1 := g1.same s13
      have g2 := g2.same s13
      have g2 := g2.app (Ll.one (w := [1, 2, 1, 2, 1, 2, 1]) f13)
      refine ⟨lenLe (n := 4) rfl (by decide), fun a14 H14 n14 s14 f14 => ?_⟩
      have t14 := t13.trans s14
      have egg := s14 _ _ egg
      have g1 := g1.same s14
      have g2 := g2.same s14
      refine ⟨a9, a14, _, _, rfl, rfl, egg, f14, by rw [hsz]; show (7 + 4 : Nat) ≤ _; decide, ?_⟩
      have Lg : Ll (upd H14 a9 (.lst ([.ref a1, .ref a2, .ref a3, .ref a4, .ref a5, .ref a7, .ref a8] ++ [.ref a10, .ref a11, .ref a12, .ref a13]))) _ _ := (g1.app g2).put egg
      have sUg : L2.Same H (upd H14 a9 (.lst ([.ref a1, .ref a2, .ref a3, .ref a4, .ref a5, .ref a7, .ref a8] ++ [.ref a10, .ref a11, .ref a12, .ref a13]))) := fun b o e => by rw [upd_ne (ne_of_none e (none_of t8 n9))]; exact t14 _ _ e
      have egg : upd H14 a9 (.lst ([.ref a1, .ref a2, .ref a3, .ref a4, .ref a5, .ref a7, .ref a8] ++ [.ref a10, .ref a11, .ref a12, .ref a13])) a9 = some (.lst ([.ref a1, .ref a2, .ref a3, .ref a4, .ref a5, .ref a7, .ref a8] ++ [.ref a10, .ref a11, .ref a12, .ref a13])) := upd_same
      generalize upd H14 a9 (.lst ([.ref a1, .ref a2, .ref a3, .ref a4, .ref a5, .ref a7, .ref a8] ++ [.ref a10, .ref a11, .ref a12, .ref a13])) = Ug at Lg sUg egg  ⊢
      -- bad
      refine ⟨lenLe (n := 1) rfl (by decide), fun a15 H15 n15 s15 f15 => ?_⟩
      have t15 := sUg.trans s15
      have egg0 := egg
      have egg := s15 _ _ egg
      have Lg := Lg.same s15
      have b1 : Ll H15 [a15] [[61]] := Ll.one (w := [61]) f15
      refine ⟨lenLe (n := 2) rfl (by decide), fun a16 H16 n16 s16 f16 => ?_⟩
      have t16 := t15.trans s16
      have egg0 := egg
      have egg := s16 _ _ egg
      have Lg := Lg.same s16
      have b1 := b1.same s16
      have b1 := b1.app (Ll.one (w := [60, 1]) f16)
      refine ⟨lenLe (n := 2) rfl (by decide), fun a17 H17 n17 s17 f17 => ?_⟩
      have t17 := t16.trans s17
      have egg0 := egg
      have egg := s17 _ _ egg
      have Lg := Lg.same s17
      have b1 := b1.same s17
      have b1 := b1.app (Ll.one (w := [30, 31]) f17)
      refine ⟨lenLe (n := 3) rfl (by decide), fun a18 H18 n18 s18 f18 => ?_⟩
      have t18 := t17.trans s18
      have egg0 := egg
      have egg := s18 _ _ egg
      have Lg := Lg.same s18
      have b1 := b1.same s18
      have b1 := b1.app (Ll.one (w := [20, 20, 21]) f18)
      refine ⟨lenLe (n := 8) rfl (by decide), fun a19 H19 n19 s19 f19 => ?_⟩
      have t19 := t18.trans s19
      have egg0 := egg
      have egg := s19 _ _ egg
      have Lg := Lg.same s19
      have b1 := b1.same s19
      have b1 := b1.app (Ll.one (w := [1, 1, 1, 1, 1, 1, 1, 55]) f19)
      refine ⟨lenLe (n := 5) rfl (by decide), fun a20 H20 n20 s20 f20 => ?_⟩
      have t20 := t19.trans s20
      have egg0 := egg
      have egg := s20 _ _ egg
      have Lg := Lg.same s20
      have b1 := b1.same s20
      have b1 := b1.app (Ll.one (w := [4, 4, 4, 4, 4]) f20)
      refine ⟨lenLe (n := 8) rfl (by decide), fun a21 H21 n21 s21 f21 => ?_⟩
      have t21 := t20.trans s21
      have egg0 := egg
      have egg := s21 _ _ egg
      have Lg := Lg.same s21
      have b1 := b1.same s21
      have b1 := b1.app (Ll.one (w := [1, 1, 2, 2, 2, 2, 2, 2]) f21)
      refine ⟨lenLe (n := 7) rfl (by decide), fun a22 H22 n22 s22 f22 => ?_⟩
      have t22 := t21.trans s22
      have egg0 := egg
      have egg := s22 _ _ egg
      have Lg := Lg.same s22
      have b1 := b1.same s22
      refine ⟨_, rfl, .inl ⟨rfl, _, SqL.of f22⟩, ?_⟩
      have egb := f22
      refine ⟨lenLe (n := 1) rfl (by decide), fun a23 H23 n23 s23 f23 => ?_⟩
      have t23 := t22.trans s23
      have egb := s23 _ _ egb
      have egg := s23 _ _ egg
      have Lg := Lg.same s23
      have b1 := b1.same s23
      refine ⟨a23, 7, _, rfl, rfl, f23, by decide, by decide, by rw [hsz]; decide, fun a24 H24 n24 s24 f24 => ?_⟩
      have t24 := t23.trans s24
      have egb := s24 _ _ egb
      have egg := s24 _ _ egg
      have Lg := Lg.same s24
      have b1 := b1.same s24
      have b2 : Ll H24 [a24] [[2, 2, 2, 2, 2, 2, 2]] := Ll.one (w := [2, 2, 2, 2, 2, 2, 2]) f24
      refine ⟨lenLe (n := 3) rfl (by decide), fun a25 H25 n25 s25 f25 => ?_⟩
      have t25 := t24.trans s25
      have egb := s25 _ _ egb
      have egg := s25 _ _ egg
      have Lg := Lg.same s25
      have b1 := b1.same s25
      have b2 := b2.same s25
      have b2 := b2.app (Ll.one (w := [28, 22, 2]) f25)
      wtm_at "rd"
      refine ⟨lenLe (n := 1) rfl (by decide), fun a26 H26 n26 s26 f26 => ?_⟩
      have t26 := t25.trans s26
      have egb := s26 _ _ egb
      have egg := s26 _ _ egg
      have Lg := Lg.same s26
      have b1 := b1.same s26
      have b2 := b2.same s26
      have b2 := b2.app (Ll.one (w := [1000000000000]) f26)
      wtm_at "rd"
      refine ⟨lenLe (n := 1) rfl (by decide), fun a27 H27 n27 s27 f27 => ?_⟩
      have t27 := t26.trans s27
      have egb := s27 _ _ egb
      have egg := s27 _ _ egg
      have Lg := Lg.same s27
      have b1 := b1.same s27
      have b2 := b2.same s27
      refine ⟨a27, 8, _, rfl, rfl, f27, by decide, by decide, by rw [hsz]; decide, fun a28 H28 n28 s28 f28 => ?_⟩
      have t28 := t27.trans s28
      have egb := s28 _ _ egb
      have egg := s28 _ _ egg
      have Lg := Lg.same s28
      have b1 := b1.same s28
      have b2 := b2.same s28
      have b2 := b2.app (Ll.one (w := [1000000000000, 1000000000000, 1000000000000, 1000000000000, 1000000000000, 1000000000000, 1000000000000, 1000000000000]) f28)
      refine ⟨lenLe (n := 2) rfl (by decide), fun a29 H29 n29 s29 f29 => ?_⟩
      have t29 := t28.trans s29
      have egb := s29 _ _ egb
      have egg := s29 _ _ egg
      have Lg := Lg.same s29
      have b1 := b1.same s29
      have b2 := b2.same s29
      have b2 := b2.app (Ll.one (w := [59, 2]) f29)
      refine ⟨lenLe (n := 4) rfl (by decide), fun a30 H30 n30 s30 f30 => ?_⟩
      have t30 := t29.trans s30
      have egb := s30 _ _ egb
      have egg := s30 _ _ egg
      have Lg := Lg.same s30
      have b1 := b1.same s30
      have b2 := b2.same s30
      have b2 := b2.app (Ll.one (w := [7, 7, 7, 7]) f30)
      refine ⟨lenLe (n := 3) rfl (by decide), fun a31 H31 n31 s31 f31 => ?_⟩
      have t31 := t30.trans s31
      have egb := s31 _ _ egb
      have egg := s31 _ _ egg
      have Lg := Lg.same s31
      have b1 := b1.same s31
      have b2 := b2.same s31
      have b2 := b2.app (Ll.one (w := [22, 28, 2]) f31)
      refine ⟨lenLe (n := 3) rfl (by decide), fun a32 H32 n32 s32 f32 => ?_⟩
      have t32 := t31.trans s32
      have egb := s32 _ _ egb
      have egg := s32 _ _ egg
      have Lg := Lg.same s32
      have b1 := b1.same s32
      have b2 := b2.same s32
      have b2 := b2.app (Ll.one (w := [40, 6, 6]) f32)
      refine ⟨lenLe (n := 8) rfl (by decide), fun a33 H33 n33 s33 f33 => ?_⟩
      have t33 := t32.trans s33
      have egb := s33 _ _ egb
      have egg := s33 _ _ egg
      have Lg := Lg.same s33
      have b1 := b1.same s33
      have b2 := b2.same s33
      refine ⟨a22, a33, _, _, rfl, rfl, egb, f33, by rw [hsz]; show (7 + 8 : Nat) ≤ _; decide, ?_⟩
      have Lb : Ll (upd H33 a22 (.lst ([.ref a15, .ref a16, .ref a17, .ref a18, .ref a19, .ref a20, .ref a21] ++ [.ref a24, .ref a25, .ref a26, .ref a28, .ref a29, .ref a30, .ref a31, .ref a32]))) _ _ := (b1.app b2).put egb
      have sUb : L2.Same H (upd H33 a22 (.lst ([.ref a15, .ref a16, .ref a17, .ref a18, .ref a19, .ref a20, .ref a21] ++ [.ref a24, .ref a25, .ref a26, .ref a28, .ref a29, .ref a30, .ref a31, .ref a32]))) := fun b o e => by rw [upd_ne (ne_of_none e (none_of t21 n22))]; exact t33 _ _ e
      have Lg : Ll (upd H33 a22 (.lst ([.ref a15, .ref a16, .ref a17, .ref a18, .ref a19, .ref a20, .ref a21] ++ [.ref a24, .ref a25, .ref a26, .ref a28, .ref a29, .ref a30, .ref a31, .ref a32]))) _ _ := Lg.put egb
      have egg := (upd_ne (H := H33) (o := (.lst ([.ref a15, .ref a16, .ref a17, .ref a18, .ref a19, .ref a20, .ref a21] ++ [.ref a24, .ref a25, .ref a26, .ref a28, .ref a29, .ref a30, .ref a31, .ref a32]))) (show a9 ≠ a22 from fun z => by rw [z, n22] at egg0; cases egg0)).trans egg
      have egb : upd H33 a22 (.lst ([.ref a15, .ref a16, .ref a17, .ref a18, .ref a19, .ref a20, .ref a21] ++ [.ref a24, .ref a25, .ref a26, .ref a28, .ref a29, .ref a30, .ref a31, .ref a32])) a22 = some (.lst ([.ref a15, .ref a16, .ref a17, .ref a18, .ref a19, .ref a20, .ref a21] ++ [.ref a24, .ref a25, .ref a26, .ref a28, .ref a29, .ref a30, .ref a31, .ref a32])) := upd_same
      generalize upd H33 a22 (.lst ([.ref a15, .ref a16, .ref a17, .ref a18, .ref a19, .ref a20, .ref a21] ++ [.ref a24, .ref a25, .ref a26, .ref a28, .ref a29, .ref a30, .ref a31, .ref a32])) = Ub at Lb sUb egb Lg egg ⊢
      obtain ⟨gs, eg, LG⟩ : ∃ gs : List Addr, Ub a9 = some (.lst (gs.map V.ref)) ∧ Ll Ub gs GOOD := ⟨[a1, a2, a3, a4, a5, a7, a8, a10, a11, a12, a13], egg, Lg⟩
      obtain ⟨bs, eb, LB⟩ : ∃ bs : List Addr, Ub a22 = some (.lst (bs.map V.ref)) ∧ Ll Ub bs BAD := ⟨[a15, a16, a17, a18, a19, a20, a21, a24, a25, a26, a28, a29, a30, a31, a32], egb, Lb⟩
      clear egg Lg egb Lb egg0
      generalize a9 = g at eg ⊢
      generalize a22 = b at eb ⊢
      have sU := sUb
      wtm_at "rd"
      refine .inl ⟨a, _, rfl, .inl (sU.seq hS), ?_⟩
      wtm_at "rd"
      generalize hL : ((ns.map V.int).length : Int) = Ln
      have hL0 : 0 ≤ Ln := by omega
      generalize hm : (if (if (12 : Int) < Ln then 12 else Ln) > 1 then (if (12 : Int) < Ln then 12 else Ln) else 1) = mx
      have hmx : 1 ≤ mx ∧ mx ≤ 12 := by
        rw [← hm]
        constructor <;> (repeat' split) <;> omega
      refine ⟨by omega, by omega, for_range (fun i σ G => L2.Same Ub G ∧ ∃ x3 x4 x5 x6 x7 x8 x9 x10 : Option V, σ = [some (.ref a), some (.ref g), some (.ref b), x3, x4, x5, x6, x7, x8, x9, x10]) ⟨L2.Same.refl _, none, none, none, none, none, none, none, none, rfl⟩ ?_ ?_⟩
      · rintro i σ G hi ⟨sG, x3, x4, x5, x6, x7, x8, x9, x10, rfl⟩
        refine ⟨_, rfl, _, rfl, a, ns, _, rfl, sG.seq (sU.seq hS), by omega, by omega, fun p G1 np q1 po => ?_⟩
        have npU : Ub p = none := none_of sG np
        have u1 := sG.trans q1
        refine ⟨_, rfl, ?_⟩
        wtm_at "rd"
        refine ⟨lenLe (n := 2) rfl (by decide), fun l0 G2 n2 q2 e2 => ?_⟩
        refine ⟨_, rfl, p, 2, rfl, po.same q2, by decide, by decide, fun r G3 m3 p3 r0 r1 => ?_⟩
        have l0p : l0 ≠ p := fun z => by obtain ⟨_, e, _⟩ := po; rw [z, e] at n2; cases n2
        obtain ⟨z, hz, _, ez⟩ := atI_ints (zs := [12, 10 ^ 12]) (i := r) (by omega) (by simp; omega)
        have hz' : 1 ≤ z ∧ z ≤ 10 ^ 12 := by simp at hz; omega
        refine .inl ⟨l0, _, _, _, rfl, rfl, SqL.of (m3 _ _ (fun y => l0p (List.mem_singleton.mp y)) e2), ez, ?_⟩
        refine ⟨p, z, rfl, p3, by omega, by omega, fun num G4 m4 p4 d0 d1 => .inl ⟨_, _, rfl, rfl, ?_⟩⟩
        have u4 : L2.Same Ub G4 := mo_same (mo_same (u1.trans q2) npU m3) npU m4
        have hn0 : 1 ≤ (1 + num) ∧ (1 + num) ≤ 10 ^ 12 := by omega
        have hgl : gs.length = 11 := LG.len
        have hbl : bs.length = 15 := LB.len
        refine ⟨_, rfl, _, rfl, _, rfl, _, rfl, _, rfl, .inl ⟨g, _, rfl, .inl (SqL.of (u4 _ _ eg)), ?_⟩⟩
        refine ⟨p, _, rfl, p4, by rw [List.length_map]; omega, by rw [List.length_map]; omega, fun r2 G5 m5 p5 ra rb => ?_⟩
        rw [List.length_map] at rb
        have u5 := mo_same u4 npU m5
        obtain ⟨c, hc⟩ : ∃ c, gs[r2.toNat]? = some c := ⟨_, List.getElem?_eq_getElem (by omega)⟩
        obtain ⟨ms, hms, ecU⟩ := LG.get hc
        obtain ⟨gk1, gk2, gk3, gk4, gk5⟩ := good_ok ms hms
        have hat : atI (gs.map V.ref) r2 = some (.ref c) := by rw [show r2 = ((r2.toNat : Nat) : Int) by omega]; exact atI_nat (by rw [List.getElem?_map, hc]; rfl)
        refine .inl ⟨g, _, _, _, rfl, rfl, SqL.of (u5 _ _ eg), hat, ?_⟩
        have cp : c ≠ p := fun y => by rw [y, npU] at ecU; cases ecU
        refine ⟨p, c, ms, rfl, p5, u5 _ _ ecU, cp, gk3, fun t us qs G6 m6 p6 et hk hqs hq => ?_⟩
        refine ⟨lenLe (n := 2) rfl (by decide), fun hp G7 n7 q7 e7 => ?_⟩
        have u7 : L2.Same Ub G7 := (mo_same u5 npU m6).trans q7
        have hql : qs.length = ms.length := by rw [← hqs, List.length_map]
        have hh : HeapAt G7 hp (1 + num) qs := ⟨t, us, e7, q7 _ _ et, hk.same q7, by omega, hn0.1, hn0.2, fun q h => ⟨(hq q h).1, (hq q h).2, gk5 q.2 (by rw [← hqs]; exact List.mem_map.mpr ⟨q, h, rfl⟩)⟩⟩
        have h60 : (qs.map (·.2)).sum ≤ 60 := by rw [hqs]; exact gk1
        have h2k : prodc qs ≤ 2000 := by rw [prod_map, hqs]; exact gk2
        have hne : qs ≠ [] := fun y => by rw [y] at hql; simp at hql; omega
        obtain ⟨t', us', h1, h2, h3, h4, h5, h6, h7⟩ := id hh
        have p7 := p6.same q7
        have hq1 : ∀ q ∈ qs, 1 ≤ q.2 := fun q h => (h7 q h).2.2.1
        clear et hk e7
        refine ⟨_, rfl, .inr (.inl ⟨hp, _, _, _, rfl, rfl, SqT.of h1, (show atI [V.int (1 + num), V.ref t'] 1 = some (.ref t') from rfl), ?_⟩)⟩
        refine ⟨t', rfl, .inr ⟨⟨_, SqT.of h2⟩, ?_⟩⟩
        refine for_tup (K := K) (a := t') (xs := us') (fun j σ G' => G' = G7 ∧ ∃ y8 y9 : Option V, σ = [some (.ref a), some (.ref g), some (.ref b), some (.int (0 + (i : Int))), some (.ref p), some (.int (1 + num)), some (.ref hp), some (.int (prodc (qs.take j))), y8, y9, x10])
          ⟨rfl, _, _, rfl⟩ (fun j σ G' _ ⟨e, _⟩ => by rw [e]; exact SqT.of h2) ?_ ?_
        · rintro j x σ G' hx ⟨rfl, y8, y9, rfl⟩
          obtain ⟨q, hqi, rr, rfl, hrr⟩ := h3.2 j x hx
          have q2 := (h7 q (List.mem_of_getElem? hqi)).2.2
          have b1 := prodc_pos (ks := qs.take j) fun x hx => hq1 x (List.mem_of_mem_take hx)
          have b2 := prodc_le qs j hq1
          refine ⟨rr, _, rfl, SqT.of hrr, rfl, _, _, rfl, _, _, rfl, rfl, ?_⟩
          refine ⟨_, rfl, _, rfl, .inl ⟨_, _, rfl, rfl, _, _, rfl, rfl, CMulB.ok (mulB (by omega) (by omega)), rfl, some (.int q.1), some (.int q.2), ?_⟩⟩
          rw [List.take_add_one, hqi, show (some q).toList = [q] from rfl, prodc_app]; rfl
        · rintro σ G' ⟨rfl, y8, y9, rfl⟩
          rw [h3.1, List.take_length]
          refine ⟨fun σ' H' => L2.Same G' H' ∧ σ' = [some (.ref a), some (.ref g), some (.ref b), some (.int (0 + (i : Int))), some (.ref p), some (.int (1 + num)), some (.ref hp), some (.int (prodc qs)), y8, y9, x10], ?_, ?_⟩
          · refine ⟨_, rfl, hp, (1 + num), qs, rfl, hh, h60, h2k, fun lw as G8 nlw q8 e8 al hal => ?_⟩
            have hasl : (as.length : Int) = prodc qs := by
              have a1 := al.len
              have a2 := ways_len (cnts qs) [[]]
              rw [List.length_singleton, Nat.one_mul] at a2
              have a3 := prodc_N hq1
              have a4 : (waysL (cnts qs)).length = prodN (cnts qs) := a2
              omega
            refine .inl ⟨lw, _, rfl, .inl (SqL.of e8), ?_⟩
            refine ⟨_, rfl, rfl, _, rfl, ?_⟩
            rw [dec_int, List.length_map, hasl, beq_self_eq_true]
            refine iteF ?_
            refine ⟨_, rfl, ?_⟩
            wtm_at "rd"
            refine ⟨lenLe (n := 2) rfl (by decide), fun w1 G9 n9 q9 e9 => ?_⟩
            refine ⟨lenLe (n := 1) rfl (by decide), fun w2 GA nA qA eA => ?_⟩
            have hpp := prodc_pos hq1
            refine ⟨_, rfl, w2, _, [.ref w1], rfl, rfl, eA, by simp, hpp, by omega, by rw [hsz, List.length_singleton]; omega, fun tb GB qB eB => ?_⟩
            have e13 : (10 : Int) ^ Int.toNat 13 = 10000000000000 := by decide
            have e9 : G9 w1 = some (.tup [.int 10000000000000, .int 0]) := by rw [e9]; show some (HO.tup [V.int ((10 : Int) ^ Int.toNat 13), V.int 0]) = _; rw [e13]
            have eB' : GB tb = some (.tup (List.replicate (prodc qs).toNat (.ref w1))) := by
              rw [eB]
              congr 2
              induction (prodc qs).toNat with
              | zero => rfl
              | succ m ih => rw [List.replicate_succ, List.replicate_succ, List.flatten_cons, ih]; rfl
            have q7B := q8.trans (q9.trans (qA.trans qB))
            refine ⟨hp, tb, w1, (1 + num), qs, (prodc qs).toNat, rfl, hh.tu (Tu.of q7B), h60, h2k, hne, eB', qB _ _ (qA _ _ e9), by omega, fun GC qC => ?_⟩
            exact ⟨false, false, rfl, rfl, _, rfl, iteF ⟨q7B.trans qC, rfl⟩⟩
          · rintro σ' G8 ⟨q8, rfl⟩
            have u8 := u7.trans q8
            have p8 := p7.same q8
            refine ⟨_, rfl, _, rfl, _, rfl, _, rfl, _, rfl, .inl ⟨b, _, rfl, .inl (SqL.of (u8 _ _ eb)), ?_⟩⟩
            refine ⟨p, _, rfl, p8, by rw [List.length_map]; omega, by rw [List.length_map]; omega, fun r3 G9 m9 p9 rc rd => ?_⟩
            rw [List.length_map] at rd
            have u9 := mo_same u8 npU m9
            obtain ⟨c2, hc2⟩ : ∃ c, bs[r3.toNat]? = some c := ⟨_, List.getElem?_eq_getElem (by omega)⟩
            obtain ⟨ms2, hms2, ecU2⟩ := LB.get hc2
            obtain ⟨bk1, bk2, bk3⟩ := bad_ok ms2 hms2
            have hat2 : atI (bs.map V.ref) r3 = some (.ref c2) := by rw [show r3 = ((r3.toNat : Nat) : Int) by omega]; exact atI_nat (by rw [List.getElem?_map, hc2]; rfl)
            refine .inl ⟨b, _, _, _, rfl, rfl, SqL.of (u9 _ _ eb), hat2, ?_⟩
            have cp2 : c2 ≠ p := fun y => by rw [y, npU] at ecU2; cases ecU2
            refine ⟨p, c2, ms2, rfl, p9, u9 _ _ ecU2, cp2, bk2, fun t2 us2 qs2 GA mA pA et2 hk2 hqs2 hq2 => ?_⟩
            refine ⟨lenLe (n := 2) rfl (by decide), fun hp2 GB nB qB eB => ?_⟩
            have uB : L2.Same Ub GB := (mo_same u9 npU mA).trans qB
            have hql2 : qs2.length = ms2.length := by rw [← hqs2, List.length_map]
            have hh2 : HeapAt GB hp2 (1 + num) qs2 := ⟨t2, us2, eB, qB _ _ et2, hk2.same qB, by omega, hn0.1, hn0.2, fun q h => ⟨(hq2 q h).1, (hq2 q h).2, bk3 q.2 (by rw [← hqs2]; exact List.mem_map.mpr ⟨q, h, rfl⟩)⟩⟩
            have hbad : Bad qs2 := by unfold Bad; rw [prod_map, hqs2]; exact bk1
            wtm_at "rd"
            refine ⟨by decide, by decide, for_range (fun j σ G' => L2.Same GB G' ∧ ∃ y10 : Option V, σ = [some (.ref a), some (.ref g), some (.ref b), some (.int (0 + (i : Int))), some (.ref p), some (.int (1 + num)), some (.ref hp2), some (.int (prodc qs)), y8, y9, y10]) ⟨L2.Same.refl _, _, rfl⟩ ?_ ?_⟩
            · rintro j σ G' hj ⟨sG', y10, rfl⟩
              refine ⟨_, ?_, fun _ _ h => h⟩
              refine ⟨_, rfl, _, rfl, _, hp2, (1 + num), qs2, rfl, hh2.tu (Tu.of sG'), hbad, fun GC qC => ⟨_, rfl, iteF ?_⟩⟩
              exact ⟨sG'.trans qC, _, rfl⟩
            · rintro σ G' ⟨sG', y10, rfl⟩
              exact ⟨uB.trans sG', _, _, _, _, _, _, _, _, rfl⟩
      · rintro σ G ⟨sG, x3, x4, x5, x6, x7, x8, x9, x10, rfl⟩
        exact k _
end
end K36
namespace K36
theorem all_mk {l : PySem.W.OpenLaw} {w : World} {K : PySem.W.Frag} {h : Heap} {mg : Str → Option Value} {fa : Addr} (X : K.In h) (G : h.Ns mainGlobals mg) (hfa : mg "law" = some (.ref fa)) {tM1 tM2 : Tok}
    {od1 an1 : Option Addr} {sl1 : Array (Option Value)} {oc1 kV1 dc1 pm1 cd1 ct1 : Value} {f1 : Addr}
    {od2 an2 : Option Addr} {sl2 : Array (Option Value)} {oc2 kV2 dc2 pm2 cd2 ct2 : Value} {f2 : Addr}
    {od3 an3 : Option Addr} {sl3 : Array (Option Value)} {oc3 kV3 dc3 pm3 cd3 ct3 : Value} {f3 : Addr}
    {od4 an4 : Option Addr} {sl4 : Array (Option Value)} {oc4 kV4 dc4 pm4 cd4 ct4 : Value} {f4 : Addr}
    {od5 an5 : Option Addr} {sl5 : Array (Option Value)} {oc5 kV5 dc5 pm5 cd5 ct5 : Value} {f5 : Addr}
    {od6 an6 : Option Addr} {sl6 : Array (Option Value)} {oc6 kV6 dc6 pm6 cd6 ct6 : Value} {f6 : Addr}
    {od7 an7 : Option Addr} {sl7 : Array (Option Value)} {oc7 kV7 dc7 pm7 cd7 ct7 : Value} {f7 : Addr}
    {od8 an8 : Option Addr} {sl8 : Array (Option Value)} {oc8 kV8 dc8 pm8 cd8 ct8 : Value} {f8 : Addr}
    {od9 an9 : Option Addr} {sl9 : Array (Option Value)} {oc9 kV9 dc9 pm9 cd9 ct9 : Value} {f9 : Addr}
    {od10 an10 : Option Addr} {sl10 : Array (Option Value)} {oc10 kV10 dc10 pm10 cd10 ct10 : Value} {f10 : Addr}
    {od11 an11 : Option Addr} {sl11 : Array (Option Value)} {oc11 kV11 dc11 pm11 cd11 ct11 : Value} {f11 : Addr}
    {od12 an12 : Option Addr} {sl12 : Array (Option Value)} {oc12 kV12 dc12 pm12 cd12 ct12 : Value} {f12 : Addr}
    {od13 an13 : Option Addr} {sl13 : Array (Option Value)} {oc13 kV13 dc13 pm13 cd13 ct13 : Value} {f13 : Addr}
    {od14 an14 : Option Addr} {sl14 : Array (Option Value)} {oc14 kV14 dc14 pm14 cd14 ct14 : Value} {f14 : Addr}
    {od15 an15 : Option Addr} {sl15 : Array (Option Value)} {oc15 kV15 dc15 pm15 cd15 ct15 : Value} {f15 : Addr}
    {od16 an16 : Option Addr} {sl16 : Array (Option Value)} {oc16 kV16 dc16 pm16 cd16 ct16 : Value} {f16 : Addr}
    {od17 an17 : Option Addr} {sl17 : Array (Option Value)} {oc17 kV17 dc17 pm17 cd17 ct17 : Value} {f17 : Addr}
    {od18 an18 : Option Addr} {sl18 : Array (Option Value)} {oc18 kV18 dc18 pm18 cd18 ct18 : Value} {f18 : Addr}
    {cB cTooMany cNoBack cNoHeap cNoLot cNoRatio cNoRow cNoSize cNoText cTooFew cUnlike : Addr}
    (a1 : PySem.W.nsIn K mainGlobals "number_of_things" = some (some (.ref f1))) (l1 : K.lookup f1 = some ⟨oc1, od1, .func (PySem.W.fnOf "number_of_things" "number_of_things" (defArgs sNThings) (defBody sNThings) (defScope sNThings) .none kV1 dc1 pm1 an1 cd1 ct1), sl1⟩) (c1 : PySem.W.codeIn K cd1 "number_of_things" = true) (k1 : PySem.W.keepIn K (.ref f1) = true)
    (a2 : PySem.W.nsIn K mainGlobals "refuse_above" = some (some (.ref f2))) (l2 : K.lookup f2 = some ⟨oc2, od2, .func (PySem.W.fnOf "refuse_above" "refuse_above" (defArgs sRefuse) (defBody sRefuse) (defScope sRefuse) .none kV2 dc2 pm2 an2 cd2 ct2), sl2⟩) (c2 : PySem.W.codeIn K cd2 "refuse_above" = true) (k2 : PySem.W.keepIn K (.ref f2) = true)
    (a3 : PySem.W.nsIn K mainGlobals "number_of_ways" = some (some (.ref f3))) (l3 : K.lookup f3 = some ⟨oc3, od3, .func (PySem.W.fnOf "number_of_ways" "number_of_ways" (defArgs sNWays) (defBody sNWays) (defScope sNWays) .none kV3 dc3 pm3 an3 cd3 ct3), sl3⟩) (c3 : PySem.W.codeIn K cd3 "number_of_ways" = true) (k3 : PySem.W.keepIn K (.ref f3) = true)
    (a4 : PySem.W.nsIn K mainGlobals "ways_of" = some (some (.ref f4))) (l4 : K.lookup f4 = some ⟨oc4, od4, .func (PySem.W.fnOf "ways_of" "ways_of" (defArgs sWaysOf) (defBody sWaysOf) (defScope sWaysOf) .none kV4 dc4 pm4 an4 cd4 ct4), sl4⟩) (c4 : PySem.W.codeIn K cd4 "ways_of" = true) (k4 : PySem.W.keepIn K (.ref f4) = true)
    (a5 : PySem.W.nsIn K mainGlobals "paces_of" = some (some (.ref f5))) (l5 : K.lookup f5 = some ⟨oc5, od5, .func (PySem.W.fnOf "paces_of" "paces_of" (defArgs sPaces) (defBody sPaces) (defScope sPaces) .none kV5 dc5 pm5 an5 cd5 ct5), sl5⟩) (c5 : PySem.W.codeIn K cd5 "paces_of" = true) (k5 : PySem.W.keepIn K (.ref f5) = true)
    (a6 : PySem.W.nsIn K mainGlobals "put_to" = some (some (.ref f6))) (l6 : K.lookup f6 = some ⟨oc6, od6, .func (PySem.W.fnOf "put_to" "put_to" (defArgs sPut) (defBody sPut) (defScope sPut) .none kV6 dc6 pm6 an6 cd6 ct6), sl6⟩) (c6 : PySem.W.codeIn K cd6 "put_to" = true) (k6 : PySem.W.keepIn K (.ref f6) = true)
    (a7 : PySem.W.nsIn K mainGlobals "lasts_of" = some (some (.ref f7))) (l7 : K.lookup f7 = some ⟨oc7, od7, .func (PySem.W.fnOf "lasts_of" "lasts_of" (defArgs sLasts) (defBody sLasts) (defScope sLasts) .none kV7 dc7 pm7 an7 cd7 ct7), sl7⟩) (c7 : PySem.W.codeIn K cd7 "lasts_of" = true) (k7 : PySem.W.keepIn K (.ref f7) = true)
    (a8 : PySem.W.nsIn K mainGlobals "made_last" = some (some (.ref f8))) (l8 : K.lookup f8 = some ⟨oc8, od8, .func (PySem.W.fnOf "made_last" "made_last" (defArgs sMade) (defBody sMade) (defScope sMade) .none kV8 dc8 pm8 an8 cd8 ct8), sl8⟩) (c8 : PySem.W.codeIn K cd8 "made_last" = true) (k8 : PySem.W.keepIn K (.ref f8) = true)
    (a9 : PySem.W.nsIn K mainGlobals "table_by" = some (some (.ref f9))) (l9 : K.lookup f9 = some ⟨oc9, od9, .func (PySem.W.fnOf "table_by" "table_by" (defArgs sTabBy) (defBody sTabBy) (defScope sTabBy) .none kV9 dc9 pm9 an9 cd9 ct9), sl9⟩) (c9 : PySem.W.codeIn K cd9 "table_by" = true) (k9 : PySem.W.keepIn K (.ref f9) = true)
    (a10 : PySem.W.nsIn K mainGlobals "table_holds" = some (some (.ref f10))) (l10 : K.lookup f10 = some ⟨oc10, od10, .func (PySem.W.fnOf "table_holds" "table_holds" (defArgs sHolds) (defBody sHolds) (defScope sHolds) .none kV10 dc10 pm10 an10 cd10 ct10), sl10⟩) (c10 : PySem.W.codeIn K cd10 "table_holds" = true) (k10 : PySem.W.keepIn K (.ref f10) = true)
    (a11 : PySem.W.nsIn K mainGlobals "table_of" = some (some (.ref f11))) (l11 : K.lookup f11 = some ⟨oc11, od11, .func (PySem.W.fnOf "table_of" "table_of" (defArgs sTabOf) (defBody sTabOf) (defScope sTabOf) .none kV11 dc11 pm11 an11 cd11 ct11), sl11⟩) (c11 : PySem.W.codeIn K cd11 "table_of" = true) (k11 : PySem.W.keepIn K (.ref f11) = true)
    (a12 : PySem.W.nsIn K mainGlobals "most_of" = some (some (.ref f12))) (l12 : K.lookup f12 = some ⟨oc12, od12, .func (PySem.W.fnOf "most_of" "most_of" (defArgs sMostOf) (defBody sMostOf) (defScope sMostOf) .none kV12 dc12 pm12 an12 cd12 ct12), sl12⟩) (c12 : PySem.W.codeIn K cd12 "most_of" = true) (k12 : PySem.W.keepIn K (.ref f12) = true)
    (a13 : PySem.W.nsIn K mainGlobals "most_right" = some (some (.ref f13))) (l13 : K.lookup f13 = some ⟨oc13, od13, .func (PySem.W.fnOf "most_right" "most_right" (defArgs sMostR) (defBody sMostR) (defScope sMostR) .none kV13 dc13 pm13 an13 cd13 ct13), sl13⟩) (c13 : PySem.W.codeIn K cd13 "most_right" = true) (k13 : PySem.W.keepIn K (.ref f13) = true)
    (a14 : PySem.W.nsIn K mainGlobals "_law_pool" = some (some (.ref f14))) (l14 : K.lookup f14 = some ⟨oc14, od14, .func (PySem.W.fnOf "_law_pool" "_law_pool" (defArgs sPool) (defBody sPool) (defScope sPool) .none kV14 dc14 pm14 an14 cd14 ct14), sl14⟩) (c14 : PySem.W.codeIn K cd14 "_law_pool" = true) (k14 : PySem.W.keepIn K (.ref f14) = true)
    (a15 : PySem.W.nsIn K mainGlobals "_law_take" = some (some (.ref f15))) (l15 : K.lookup f15 = some ⟨oc15, od15, .func (PySem.W.fnOf "_law_take" "_law_take" (defArgs sTake) (defBody sTake) (defScope sTake) .none kV15 dc15 pm15 an15 cd15 ct15), sl15⟩) (c15 : PySem.W.codeIn K cd15 "_law_take" = true) (k15 : PySem.W.keepIn K (.ref f15) = true)
    (a16 : PySem.W.nsIn K mainGlobals "_law_refused" = some (some (.ref f16))) (l16 : K.lookup f16 = some ⟨oc16, od16, .func (PySem.W.fnOf "_law_refused" "_law_refused" (defArgs sRefused) (defBody sRefused) (defScope sRefused) .none kV16 dc16 pm16 an16 cd16 ct16), sl16⟩) (c16 : PySem.W.codeIn K cd16 "_law_refused" = true) (k16 : PySem.W.keepIn K (.ref f16) = true)
    (a17 : PySem.W.nsIn K mainGlobals "_law_kinds" = some (some (.ref f17))) (l17 : K.lookup f17 = some ⟨oc17, od17, .func (PySem.W.fnOf "_law_kinds" "_law_kinds" (defArgs sKinds) (defBody sKinds) (defScope sKinds) .none kV17 dc17 pm17 an17 cd17 ct17), sl17⟩) (c17 : PySem.W.codeIn K cd17 "_law_kinds" = true) (k17 : PySem.W.keepIn K (.ref f17) = true)
    (a18 : PySem.W.nsIn K mainGlobals "law" = some (some (.ref f18))) (l18 : K.lookup f18 = some ⟨oc18, od18, .func (PySem.W.fnOf "law" "law" (defArgs sLaw) (defBody sLaw) (defScope sLaw) .none kV18 dc18 pm18 an18 cd18 ct18), sl18⟩) (c18 : PySem.W.codeIn K cd18 "law" = true) (k18 : PySem.W.keepIn K (.ref f18) = true)
    (gB : PySem.W.nsIn K mainGlobals "BrimError" = some (some (.ref cB)))
    (gTooMany : PySem.W.nsIn K mainGlobals "TooMany" = some (some (.ref cTooMany)))
    (gNoBack : PySem.W.nsIn K mainGlobals "NoBack" = some (some (.ref cNoBack)))
    (gNoHeap : PySem.W.nsIn K mainGlobals "NoHeap" = some (some (.ref cNoHeap)))
    (gNoLot : PySem.W.nsIn K mainGlobals "NoLot" = some (some (.ref cNoLot)))
    (gNoRatio : PySem.W.nsIn K mainGlobals "NoRatio" = some (some (.ref cNoRatio)))
    (gNoRow : PySem.W.nsIn K mainGlobals "NoRow" = some (some (.ref cNoRow)))
    (gNoSize : PySem.W.nsIn K mainGlobals "NoSize" = some (some (.ref cNoSize)))
    (gNoText : PySem.W.nsIn K mainGlobals "NoText" = some (some (.ref cNoText)))
    (gTooFew : PySem.W.nsIn K mainGlobals "TooFew" = some (some (.ref cTooFew)))
    (gUnlike : PySem.W.nsIn K mainGlobals "Unlike" = some (some (.ref cUnlike)))
    (uB1 : (PySem.W.clsIn K cB).isSome = true) (uB2 : PySem.W.typeIn K (.ref cB) = some (.type "type")) (uB3 : PySem.W.mroIn K cB (.type "BaseException") = some true)
    (uTooMany : eclsIn K cTooMany cB = true)
    (uNoBack : eclsIn K cNoBack cB = true)
    (uNoHeap : eclsIn K cNoHeap cB = true)
    (uNoLot : eclsIn K cNoLot cB = true)
    (uNoRatio : eclsIn K cNoRatio cB = true)
    (uNoRow : eclsIn K cNoRow cB = true)
    (uNoSize : eclsIn K cNoSize cB = true)
    (uNoText : eclsIn K cNoText cB = true)
    (uTooFew : eclsIn K cTooFew cB = true)
    (uUnlike : eclsIn K cUnlike cB = true)
    (hdis : ∀ D ∈ [cNoBack, cNoHeap, cNoLot, cNoRatio, cNoRow, cNoSize, cNoText, cTooFew, cUnlike], cTooMany ≠ D ∧ cB ≠ D)
    (gM1 : PySem.W.nsIn K mainGlobals "MOST_TABLED" = some (some (.int 60 tM1)))
    (gM2 : PySem.W.nsIn K mainGlobals "MOST_WAYS" = some (some (.int 2000 tM2)))
    (n_range : PySem.W.nsIn K mainGlobals "range" = some none)
    (n_tuple : PySem.W.nsIn K mainGlobals "tuple" = some none)
    (n_len : PySem.W.nsIn K mainGlobals "len" = some none)
    (n_max : PySem.W.nsIn K mainGlobals "max" = some none)
    (n_min : PySem.W.nsIn K mainGlobals "min" = some none)
    (n_all : PySem.W.nsIn K mainGlobals "all" = some none)
    (n_sum : PySem.W.nsIn K mainGlobals "sum" = some none)
    (n_isinstance : PySem.W.nsIn K mainGlobals "isinstance" = some none)
    (n_enumerate : PySem.W.nsIn K mainGlobals "enumerate" = some none)
    (n_zip : PySem.W.nsIn K mainGlobals "zip" = some none)
    (n_ValueError : PySem.W.nsIn K mainGlobals "ValueError" = some none) :
    ∃ fd : FuncData, (∀ (s : Shared) (v : Value), BindsTo s fd ⟨[v], []⟩ [("script", v)]) ∧ ∀ base : Heap, K.In base → base.Ns mainGlobals mg → FnOk l.prog w K mg base CX0 8 fa fd ["script"] (spLaw K) := by
  have e := hfa.symm.trans (PySem.W.mg_of X G a18)
  cases e
  have z_range := PySem.W.mg_none_of X G n_range
  have z_tuple := PySem.W.mg_none_of X G n_tuple
  have z_len := PySem.W.mg_none_of X G n_len
  have z_max := PySem.W.mg_none_of X G n_max
  have z_min := PySem.W.mg_none_of X G n_min
  have z_all := PySem.W.mg_none_of X G n_all
  have z_sum := PySem.W.mg_none_of X G n_sum
  have z_isinstance := PySem.W.mg_none_of X G n_isinstance
  have z_enumerate := PySem.W.mg_none_of X G n_enumerate
  have z_zip := PySem.W.mg_none_of X G n_zip
  have z_ValueError := PySem.W.mg_none_of X G n_ValueError
  have bB : BCls K mg "BrimError" cB := ⟨PySem.W.mg_of X G gB, uB1, uB2, uB3⟩
  have eTooMany : ECls K mg "TooMany" cTooMany cB := ⟨PySem.W.mg_of X G gTooMany, uTooMany⟩
  have eNoBack : ECls K mg "NoBack" cNoBack cB := ⟨PySem.W.mg_of X G gNoBack, uNoBack⟩
  have eNoHeap : ECls K mg "NoHeap" cNoHeap cB := ⟨PySem.W.mg_of X G gNoHeap, uNoHeap⟩
  have eNoLot : ECls K mg "NoLot" cNoLot cB := ⟨PySem.W.mg_of X G gNoLot, uNoLot⟩
  have eNoRatio : ECls K mg "NoRatio" cNoRatio cB := ⟨PySem.W.mg_of X G gNoRatio, uNoRatio⟩
  have eNoRow : ECls K mg "NoRow" cNoRow cB := ⟨PySem.W.mg_of X G gNoRow, uNoRow⟩
  have eNoSize : ECls K mg "NoSize" cNoSize cB := ⟨PySem.W.mg_of X G gNoSize, uNoSize⟩
  have eNoText : ECls K mg "NoText" cNoText cB := ⟨PySem.W.mg_of X G gNoText, uNoText⟩
  have eTooFew : ECls K mg "TooFew" cTooFew cB := ⟨PySem.W.mg_of X G gTooFew, uTooFew⟩
  have eUnlike : ECls K mg "Unlike" cUnlike cB := ⟨PySem.W.mg_of X G gUnlike, uUnlike⟩
  have F1 := fun_mk (st := sNThings) l1 c1 k1
  have b1 := F1.binds (ps := ["heap"]) fun _ _ _ _ _ _ us hl => match us, hl with | [_], _ => rfl
  have F2 := fun_mk (st := sRefuse) l2 c2 k2
  have b2 := F2.binds (ps := ["heap", "most"]) fun _ _ _ _ _ _ us hl => match us, hl with | [_, _], _ => rfl
  have F3 := fun_mk (st := sNWays) l3 c3 k3
  have b3 := F3.binds (ps := ["kinds"]) fun _ _ _ _ _ _ us hl => match us, hl with | [_], _ => rfl
  have F4 := fun_mk (st := sWaysOf) l4 c4 k4
  have b4 := F4.binds (ps := ["heap"]) fun _ _ _ _ _ _ us hl => match us, hl with | [_], _ => rfl
  have F5 := fun_mk (st := sPaces) l5 c5 k5
  have b5 := F5.binds (ps := ["heap"]) fun _ _ _ _ _ _ us hl => match us, hl with | [_], _ => rfl
  have F6 := fun_mk (st := sPut) l6 c6 k6
  have b6 := F6.binds (ps := ["need", "pair", "size"]) fun _ _ _ _ _ _ us hl => match us, hl with | [_, _, _], _ => rfl
  have F7 := fun_mk (st := sLasts) l7 c7 k7
  have b7 := F7.binds (ps := ["heap"]) fun _ _ _ _ _ _ us hl => match us, hl with | [_], _ => rfl
  have F8 := fun_mk (st := sMade) l8 c8 k8
  have b8 := F8.binds (ps := ["need", "table", "place", "steps"]) fun _ _ _ _ _ _ us hl => match us, hl with | [_, _, _, _], _ => rfl
  have F9 := fun_mk (st := sTabBy) l9 c9 k9
  have b9 := F9.binds (ps := ["need", "lasts"]) fun _ _ _ _ _ _ us hl => match us, hl with | [_, _], _ => rfl
  have F10 := fun_mk (st := sHolds) l10 c10 k10
  have b10 := F10.binds (ps := ["heap", "table"]) fun _ _ _ _ _ _ us hl => match us, hl with | [_, _], _ => rfl
  have F11 := fun_mk (st := sTabOf) l11 c11 k11
  have b11 := F11.binds (ps := ["heap"]) fun _ _ _ _ _ _ us hl => match us, hl with | [_], _ => rfl
  have F12 := fun_mk (st := sMostOf) l12 c12 k12
  have b12 := F12.binds (ps := ["heap"]) fun _ _ _ _ _ _ us hl => match us, hl with | [_], _ => rfl
  have F13 := fun_mk (st := sMostR) l13 c13 k13
  have b13 := F13.binds (ps := ["heap", "told"]) fun _ _ _ _ _ _ us hl => match us, hl with | [_, _], _ => rfl
  have F14 := fun_mk (st := sPool) l14 c14 k14
  have b14 := F14.binds (ps := ["script", "k"]) fun _ _ _ _ _ _ us hl => match us, hl with | [_, _], _ => rfl
  have F15 := fun_mk (st := sTake) l15 c15 k15
  have b15 := F15.binds (ps := ["pool", "many"]) fun _ _ _ _ _ _ us hl => match us, hl with | [_, _], _ => rfl
  have F16 := fun_mk (st := sRefused) l16 c16 k16
  have b16 := F16.binds (ps := ["way", "heap"]) fun _ _ _ _ _ _ us hl => match us, hl with | [_, _], _ => rfl
  have F17 := fun_mk (st := sKinds) l17 c17 k17
  have b17 := F17.binds (ps := ["pool", "counts"]) fun _ _ _ _ _ _ us hl => match us, hl with | [_, _], _ => rfl
  have F18 := fun_mk (st := sLaw) l18 c18 k18
  refine ⟨PySem.W.fnOf "law" "law" (defArgs sLaw) (defBody sLaw) (defScope sLaw) .none kV18 dc18 pm18 an18 cd18 ct18, fun s v => .of_eq rfl, fun base _ _ => ?_⟩
  have C1 : Callee CX0 l.prog w K mg base "number_of_things" 1 ["heap"] spNThings := ⟨_, _, ok_nthings F1 z_sum, PySem.W.mg_of X G a1, k1, b1⟩
  have C2 : Callee CX0 l.prog w K mg base "refuse_above" 2 ["heap", "most"] spRefuse := ⟨_, _, ok_refuse F2 C1, PySem.W.mg_of X G a2, k2, b2⟩
  have C3 : Callee CX0 l.prog w K mg base "number_of_ways" 1 ["kinds"] (spNWays K) := ⟨_, _, ok_nways F3, PySem.W.mg_of X G a3, k3, b3⟩
  have C4 : Callee CX0 l.prog w K mg base "ways_of" 3 ["heap"] spWaysOf := ⟨_, _, ok_waysOf F4 C2 C3 ⟨⟨_, PySem.W.mg_of X G gM1⟩⟩ ⟨⟨_, PySem.W.mg_of X G gM2⟩⟩ z_range, PySem.W.mg_of X G a4, k4, b4⟩
  have C5 : Callee CX0 l.prog w K mg base "paces_of" 2 ["heap"] spPaces := ⟨_, _, ok_paces F5 C3 z_enumerate, PySem.W.mg_of X G a5, k5, b5⟩
  have C6 : Callee CX0 l.prog w K mg base "put_to" 1 ["need", "pair", "size"] spPut := ⟨_, _, ok_put F6, PySem.W.mg_of X G a6, k6, b6⟩
  have C7 : Callee CX0 l.prog w K mg base "lasts_of" 4 ["heap"] spLasts := ⟨_, _, ok_lasts F7 C5 C4 z_zip, PySem.W.mg_of X G a7, k7, b7⟩
  have C8 : Callee CX0 l.prog w K mg base "made_last" 2 ["need", "table", "place", "steps"] spMade := ⟨_, _, ok_made F8 C6, PySem.W.mg_of X G a8, k8, b8⟩
  have C9 : Callee CX0 l.prog w K mg base "table_by" 1 ["need", "lasts"] spNo := ⟨_, _, ok_tabBy F9, PySem.W.mg_of X G a9, k9, b9⟩
  have C10 : Callee CX0 l.prog w K mg base "table_holds" 5 ["heap", "table"] spHolds := ⟨_, _, ok_holds F10 C7 C8 z_enumerate z_all z_len, PySem.W.mg_of X G a10, k10, b10⟩
  have Y2 : Callee (CXF l.prog w) l.prog w K mg base "refuse_above" 2 ["heap", "most"] (spRefuseX cTooMany) := ⟨_, _, ok_refuseX F2 eTooMany C1, PySem.W.mg_of X G a2, k2, b2⟩
  have Y4 : Callee (CXF l.prog w) l.prog w K mg base "ways_of" 3 ["heap"] (spX cTooMany) := ⟨_, _, ok_waysOfX F4 eTooMany Y2 C3 ⟨⟨_, PySem.W.mg_of X G gM1⟩⟩ ⟨⟨_, PySem.W.mg_of X G gM2⟩⟩, PySem.W.mg_of X G a4, k4, b4⟩
  have Y7 : Callee (CXF l.prog w) l.prog w K mg base "lasts_of" 4 ["heap"] (spX cTooMany) := ⟨_, _, ok_lastsX F7 C5 Y4 z_zip, PySem.W.mg_of X G a7, k7, b7⟩
  have Y10 : Callee (CXF l.prog w) l.prog w K mg base "table_holds" 5 ["heap", "table"] (spX2 cTooMany) := ⟨_, _, ok_holdsX F10 Y7, PySem.W.mg_of X G a10, k10, b10⟩
  have C11 : Callee (CXF l.prog w) l.prog w K mg base "table_of" 5 ["heap"] (spX cTooMany) := ⟨_, _, ok_tabOfX F11 C9 Y7, PySem.W.mg_of X G a11, k11, b11⟩
  have C12 : Callee (CXF l.prog w) l.prog w K mg base "most_of" 6 ["heap"] (spX cTooMany) := ⟨_, _, ok_mostOfX F12 C11, PySem.W.mg_of X G a12, k12, b12⟩
  have C13 : Callee (CXF l.prog w) l.prog w K mg base "most_right" 6 ["heap", "told"] (spX3 cTooMany) := ⟨_, _, ok_mostRX F13 Y10, PySem.W.mg_of X G a13, k13, b13⟩
  have C14 : Callee CX0 l.prog w K mg base "_law_pool" 1 ["script", "k"] (spPool K) := ⟨_, _, ok_pool F14 z_range z_len, PySem.W.mg_of X G a14, k14, b14⟩
  have C15 : Callee CX0 l.prog w K mg base "_law_take" 1 ["pool", "many"] spTake := ⟨_, _, ok_take F15, PySem.W.mg_of X G a15, k15, b15⟩
  have C16 : Callee CX0 l.prog w K mg base "_law_refused" 7 ["way", "heap"] spRefused := ⟨_, _, ok_refused F16 Y4 C11 Y10 C12 C13 eTooMany bB eNoBack eNoHeap eNoLot eNoRatio eNoRow eNoSize eNoText eTooFew eUnlike hdis z_isinstance z_ValueError, PySem.W.mg_of X G a16, k16, b16⟩
  have C17 : Callee CX0 l.prog w K mg base "_law_kinds" 2 ["pool", "counts"] spKinds := ⟨_, _, ok_kinds F17 C15 z_tuple, PySem.W.mg_of X G a17, k17, b17⟩
  exact ok_law F18 C14 C15 C17 C4 C10 C16 z_len z_range z_max z_min
theorem walk {l : PySem.W.OpenLaw} {q : Program} {loose : List Str} {XP : (Str → Option Value) → Heap → Prop} {YP : World → Heap → Prop} {d : DefRec} {K : Params → PySem.W.Frag} (hn : l.most = some 63) (hdf : d.params.defaults = [])
    (hY : ∀ (w : World) (h : Heap), YP w h → (K w.params).In h)
    (F : ∀ (w : World) (mg : Str → Option Value) (fa : Addr) (h : Heap), (K w.params).In h → h.Ns mainGlobals mg → mg d.name = some (.ref fa) →
      ∃ fd : FuncData, (∀ (s : Shared) (u : Value), BindsTo s fd ⟨[u], []⟩ [("script", u)]) ∧ ∀ base : Heap, (K w.params).In base → base.Ns mainGlobals mg → FnOk l.prog w (K w.params) mg base CX0 8 fa fd ["script"] (spLaw (K w.params))) :
    PySem.W.WalkO q loose XP YP l.row.toRowW d [] (fun f vs => PySem.call f vs) :=
  L2.walk_of (n := 63) (k := 8) (x := "script") (CX := fun _ => CX0) (sp := fun w => spLaw (K w.params)) hn (by decide) hdf ⟨rfl, by decide, by decide⟩ hY F (fun _ _ a ns hl _ hS => ⟨a, ns, rfl, hS, hl, fun _ => rfl⟩) fun _ _ _ _ _ z => z
end K36
def PySem.W.Fast.tw13323226198609429815 : Nat := 0
def PySem.W.Fast.tw2820100696126547833 : Nat := 0
def PySem.W.Fast.tw9012427488239444315 : Nat := 0
def PySem.W.Fast.tw2889806713728904906 : Nat := 0
def PySem.W.Fast.tw14442085348790044074 : Nat := 0
def PySem.W.Fast.tw7640651064559510323 : Nat := 0
def PySem.W.Fast.tw16611885762847734488 : Nat := 0
def PySem.W.Fast.tw12162613745677257840 : Nat := 0
def PySem.W.Fast.tw6720542077336672284 : Nat := 0
def PySem.W.Fast.tw10612238539286756983 : Nat := 0
def PySem.W.Fast.tw15001851277873913924 : Nat := 0
def PySem.W.Fast.tw14802404278037447558 : Nat := 0
def PySem.W.Fast.tw13054963807525091699 : Nat := 0
def PySem.W.Fast.tw13968793092330781684 : Nat := 0
def PySem.W.Fast.tw16965923899300485458 : Nat := 0
def PySem.W.Fast.tw4737402996624617807 : Nat := 0
def PySem.W.Fast.tw7877877237826271897 : Nat := 0
def PySem.W.Fast.tw15144987556840716909 : Nat := 0
def PySem.W.Fast.tw7609684855865729332 : Nat := 0
def PySem.W.Fast.tw17538018766531082920 : Nat := 0
def PySem.W.Fast.tw176114558957305830 : Nat := 0
open PySem PySem.W PyProof.Rows
set_option maxRecDepth 100000 in
set_option maxHeartbeats 0 in
theorem PySem.Challenge.cw_brimyard_k36_too_many_holds : PySem.Challenge.rw_brimyard_k36_too_many.Holds := by
  w_on; refine holds_law (by decide +kernel) fun said => ?_
  k_head; (case hw => w_witness2)
  k_fill
  refine K36.walk (l := PySem.Challenge.rw_brimyard_k36_too_many) rfl rfl (fun w h Y => PySem.W.kIn_of Y) ?F
  case F =>
    intro w mg fa h KX G hmg
    refine' K36.all_mk KX G hmg ?a1 ?l1 ?c1 ?k1 ?a2 ?l2 ?c2 ?k2 ?a3 ?l3 ?c3 ?k3 ?a4 ?l4 ?c4 ?k4 ?a5 ?l5 ?c5 ?k5 ?a6 ?l6 ?c6 ?k6 ?a7 ?l7 ?c7 ?k7 ?a8 ?l8 ?c8 ?k8 ?a9 ?l9 ?c9 ?k9 ?a10 ?l10 ?c10 ?k10 ?a11 ?l11 ?c11 ?k11 ?a12 ?l12 ?c12 ?k12 ?a13 ?l13 ?c13 ?k13 ?a14 ?l14 ?c14 ?k14 ?a15 ?l15 ?c15 ?k15 ?a16 ?l16 ?c16 ?k16 ?a17 ?l17 ?c17 ?k17 ?a18 ?l18 ?c18 ?k18 ?gB ?gTooMany ?gNoBack ?gNoHeap ?gNoLot ?gNoRatio ?gNoRow ?gNoSize ?gNoText ?gTooFew ?gUnlike ?uB1 ?uB2 ?uB3 ?uTooMany ?uNoBack ?uNoHeap ?uNoLot ?uNoRatio ?uNoRow ?uNoSize ?uNoText ?uTooFew ?uUnlike ?hdis ?gM1 ?gM2 ?n_range ?n_tuple ?n_len ?n_max ?n_min ?n_all ?n_sum ?n_isinstance ?n_enumerate ?n_zip ?n_ValueError
    (case a1 => k_is)
    (case l1 => k_is)
    (case c1 => k_is)
    (case k1 => k_is)
    (case a2 => k_is)
    (case l2 => k_is)
    (case c2 => k_is)
    (case k2 => k_is)
    (case a3 => k_is)
    (case l3 => k_is)
    (case c3 => k_is)
    (case k3 => k_is)
    (case a4 => k_is)
    (case l4 => k_is)
    (case c4 => k_is)
    (case k4 => k_is)
    (case a5 => k_is)
    (case l5 => k_is)
    (case c5 => k_is)
    (case k5 => k_is)
    (case a6 => k_is)
    (case l6 => k_is)
    (case c6 => k_is)
    (case k6 => k_is)
    (case a7 => k_is)
    (case l7 => k_is)
    (case c7 => k_is)
    (case k7 => k_is)
    (case a8 => k_is)
    (case l8 => k_is)
    (case c8 => k_is)
    (case k8 => k_is)
    (case a9 => k_is)
    (case l9 => k_is)
    (case c9 => k_is)
    (case k9 => k_is)
    (case a10 => k_is)
    (case l10 => k_is)
    (case c10 => k_is)
    (case k10 => k_is)
    (case a11 => k_is)
    (case l11 => k_is)
    (case c11 => k_is)
    (case k11 => k_is)
    (case a12 => k_is)
    (case l12 => k_is)
    (case c12 => k_is)
    (case k12 => k_is)
    (case a13 => k_is)
    (case l13 => k_is)
    (case c13 => k_is)
    (case k13 => k_is)
    (case a14 => k_is)
    (case l14 => k_is)
    (case c14 => k_is)
    (case k14 => k_is)
    (case a15 => k_is)
    (case l15 => k_is)
    (case c15 => k_is)
    (case k15 => k_is)
    (case a16 => k_is)
    (case l16 => k_is)
    (case c16 => k_is)
    (case k16 => k_is)
    (case a17 => k_is)
    (case l17 => k_is)
    (case c17 => k_is)
    (case k17 => k_is)
    (case a18 => k_is)
    (case l18 => k_is)
    (case c18 => k_is)
    (case k18 => k_is)
    (case gB => k_is)
    (case gTooMany => k_is)
    (case gNoBack => k_is)
    (case gNoHeap => k_is)
    (case gNoLot => k_is)
    (case gNoRatio => k_is)
    (case gNoRow => k_is)
    (case gNoSize => k_is)
    (case gNoText => k_is)
    (case gTooFew => k_is)
    (case gUnlike => k_is)
    (case uB1 => kernel_rfl)
    (case uB2 => k_is)
    (case uB3 => k_is)
    (case uTooMany => kernel_rfl)
    (case uNoBack => kernel_rfl)
    (case uNoHeap => kernel_rfl)
    (case uNoLot => kernel_rfl)
    (case uNoRatio => kernel_rfl)
    (case uNoRow => kernel_rfl)
    (case uNoSize => kernel_rfl)
    (case uNoText => kernel_rfl)
    (case uTooFew => kernel_rfl)
    (case uUnlike => kernel_rfl)
    (case hdis => decide)
    (case gM1 => k_is)
    (case gM2 => k_is)
    (case n_range => k_is)
    (case n_tuple => k_is)
    (case n_len => k_is)
    (case n_max => k_is)
    (case n_min => k_is)
    (case n_all => k_is)
    (case n_sum => k_is)
    (case n_isinstance => k_is)
    (case n_enumerate => k_is)
    (case n_zip => k_is)
    (case n_ValueError => k_is)
