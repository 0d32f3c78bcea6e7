import PyProof.Rows.All
import Wide.All
import OpenK.AllK
import Wide.FinOn
import Lean
import PyProof.EqAt
import PyProof.EqKinds
import PyProof.TupleCall
import PyProof.NeData
import KE.KSortTup
import PyProof.SetKind
import PyProof.DictKinds
import PyProof.Rows.SetFrom
import PyProof.DictWalks
import KE.KDictSum
import PyProof.WalksMore
import PyProof.Rows.FStr
import PyProof.AutoIntG2
import PyProof.DictTruth
import PyProof.Rows.CountFlat
import PyProof.Rows.SeqMore
import KE.KItemsList
import PyProof.ReprRoads
import PyProof.ReprLen
import PyProof.Rows.ReprOcc
import KE.KRevIter
import KE.KRevSl
import PyProof.Rows.Range3
import PyProof.DictCompW
import KE.KSortAsk
import PySem.Challenge.RW_brimyard_k07_heaps_made
set_option Elab.async false
set_option linter.all false
set_option maxRecDepth 100000
namespace L2
open PySem PySem.Spec PyProof.Rows
abbrev Key := Sum Int Str
def keyIs : Key → Value → Bool
 | .inl k, v => Value.isInt k v
 | .inr x, v => Value.isStrOf x v
def keyH (w : World) : Key → Int
 | .inl k => hashInt k
 | .inr x => hashStr w x
theorem keyIs_shape : ∀ {k : Key} {v : Value}, keyIs k v = true → (∃ i t, k = Sum.inl i ∧ v = Value.int i t) ∨ (∃ x t, k = Sum.inr x ∧ v = Value.str x t)
 | .inl i, v, h => by
  obtain ⟨t, e⟩ := Value.isInt_shape (k := i) (v := v) h
  exact .inl ⟨i, t, rfl, e⟩
 | .inr x, v, h => by
  obtain ⟨t, e⟩ := Value.isStrOf_shape (x := x) (v := v) h
  exact .inr ⟨x, t, rfl, e⟩
theorem keyIs_int (i : Int) (t : Tok) : keyIs (.inl i) (.int i t) = true := by simp [keyIs, Value.isInt]
theorem keyIs_str (x : Str) (t : Tok) : keyIs (.inr x) (.str x t) = true := by simp [keyIs, Value.isStrOf]
theorem key_ll (a b : Int) : decide ((Sum.inl a : Key) = Sum.inl b) = (a == b) := by
 by_cases e : a = b
 · subst e; simp
 · have h : ¬ (Sum.inl a : Key) = Sum.inl b := fun q => e (Sum.inl.inj q)
   rw [decide_eq_false h]
   exact (beq_eq_false_iff_ne.mpr e).symm
theorem key_rr (a b : Str) : decide ((Sum.inr a : Key) = Sum.inr b) = decide (a = b) := by
 by_cases e : a = b
 · subst e; simp
 · have h : ¬ (Sum.inr a : Key) = Sum.inr b := fun q => e (Sum.inr.inj q)
   rw [decide_eq_false h, decide_eq_false e]
theorem key_lr (a : Int) (b : Str) : decide ((Sum.inl a : Key) = Sum.inr b) = false := decide_eq_false (fun q => nomatch q)
theorem key_rl (a : Str) (b : Int) : decide ((Sum.inr a : Key) = Sum.inl b) = false := decide_eq_false (fun q => nomatch q)
def mixKind (prog : Program) (w : World) : PySem.KeyKind prog w Key where
 is := keyIs
 hash := keyH w
 inj := fun v a b ha hb => by
  rcases keyIs_shape ha with ⟨i, t, rfl, rfl⟩ | ⟨x, t, rfl, rfl⟩
  · rcases keyIs_shape hb with ⟨j, u, rfl, e⟩ | ⟨y, u, rfl, e⟩
    · injection e with e1 _; rw [e1]
    · exact nomatch e
  · rcases keyIs_shape hb with ⟨j, u, rfl, e⟩ | ⟨y, u, rfl, e⟩
    · exact nomatch e
    · injection e with e1 _; rw [e1]
 byValue := fun k v h => by
  rcases keyIs_shape h with ⟨i, t, rfl, rfl⟩ | ⟨x, t, rfl, rfl⟩ <;> rfl
 pyHash := fun hv h => by
  rcases keyIs_shape hv with ⟨i, t, rfl, rfl⟩ | ⟨x, t, rfl, rfl⟩
  · exact wpAny_pyHash_int h
  · exact wpAny_pyHash_str h
 eqBool := fun hu hv h => by
  rcases keyIs_shape hu with ⟨i, t, rfl, rfl⟩ | ⟨x, t, rfl, rfl⟩
  · rcases keyIs_shape hv with ⟨j, u, rfl, rfl⟩ | ⟨y, u, rfl, rfl⟩
    · rw [key_ll] at h; exact wpAny_eqBool_int h
    · rw [key_lr] at h; exact SeqAt.EqAt.int_str i t y u _ _ _ _ h
  · rcases keyIs_shape hv with ⟨j, u, rfl, rfl⟩ | ⟨y, u, rfl, rfl⟩
    · rw [key_rl] at h; exact SeqAt.EqAt.str_int x t j u _ _ _ _ h
    · rw [key_rr] at h; exact wpAny_eqBool_str h
 «strs» := fun k x t v h => by
  rcases keyIs_shape h with ⟨i, u, rfl, e⟩ | ⟨y, u, rfl, e⟩
  · exact nomatch e
  · injection e with e1 _
    subst e1
    cases v <;> rfl
theorem mixKind_int (prog : Program) (w : World) (i : Int) (t : Tok) : (mixKind prog w).is (.inl i) (.int i t) = true := keyIs_int i t
theorem mixKind_str (prog : Program) (w : World) (x : Str) (t : Tok) : (mixKind prog w).is (.inr x) (.str x t) = true := keyIs_str x t
inductive V where
 | non | bl (b : Bool) | int (i : Int) | str (x : Str) | byt (b : Array UInt8) | flt (b : UInt64) | ref (a : Addr) | ty (n : String)
 deriving DecidableEq
def RelV : V → Value → Prop
 | .non, u => u = Value.none
 | .bl b, u => u = Value.bool b
 | .int i, u => ∃ t, u = Value.int i t
 | .str x, u => ∃ t, u = Value.str x t
 | .byt b, u => ∃ t, u = Value.bytes b t
 | .flt b, u => ∃ t, u = Value.float b t
 | .ref a, u => u = Value.ref a
 | .ty n, u => u = Value.type n
abbrev Vals : List V → List Value → Prop := Paired RelV
theorem Vals.length {xs : List V} {us : List Value} (r : Vals xs us) : xs.length = us.length := Paired.length r
theorem Vals.get : ∀ {xs : List V} {us : List Value} {i : Nat} {x : V}, Vals xs us → xs[i]? = some x → ∃ u, us[i]? = some u ∧ RelV x u
 | _, _, _, _, .nil, e => by simp at e
 | _, _, 0, _, .cons r _, e => by simp at e; subst e; exact ⟨_, rfl, r⟩
 | _, _, i + 1, x, .cons _ t, e => by
  obtain ⟨u, h1, h2⟩ := Vals.get (i := i) (x := x) t (by simpa using e)
  exact ⟨u, by simpa using h1, h2⟩
theorem Vals.set {x : V} {u : Value} (r : RelV x u) : ∀ {xs : List V} {us : List Value} (i : Nat), Vals xs us → Vals (xs.set i x) (us.set i u)
 | _, _, _, .nil => .nil
 | _, _, 0, .cons _ t => .cons r t
 | _, _, i + 1, .cons q t => .cons q (Vals.set r i t)
theorem Vals.append : ∀ {xs ys : List V} {us ws : List Value}, Vals xs us → Vals ys ws → Vals (xs ++ ys) (us ++ ws)
 | _, _, _, _, .nil, s => s
 | _, _, _, _, .cons r t, s => .cons r (Vals.append t s)
theorem Vals.take : ∀ {xs : List V} {us : List Value} (n : Nat), Vals xs us → Vals (xs.take n) (us.take n)
 | _, _, 0, _ => .nil
 | _, _, _ + 1, .nil => .nil
 | _, _, n + 1, .cons r t => .cons r (Vals.take n t)
theorem Vals.drop : ∀ {xs : List V} {us : List Value} (n : Nat), Vals xs us → Vals (xs.drop n) (us.drop n)
 | _, _, 0, r => r
 | _, _, _ + 1, .nil => .nil
 | _, _, n + 1, .cons _ t => Vals.drop n t
def RelO : Option V → Option Value → Prop
 | some v, some u => RelV v u
 | none, none => True
 | _, _ => False
def KV {κ : Type} : List (κ × V) → List (κ × Value) → Prop := Paired fun (p : κ × V) (q : κ × Value) => p.1 = q.1 ∧ RelV p.2 q.2
def kV : Key → V
 | .inl i => .int i
 | .inr x => .str x
inductive HO where
 | lst (xs : List V)
 | tup (xs : List V)
 | dK (kvs : List (Key × V)) | dT (kvs : List (List Key × V))
 | set (S : Int → Bool) (n : Nat)
 | ins (C dx : Addr) (fs : List (Str × V))
 | own (x : Addr)
 | xd (fs : List (Str × V))
 | met (f x : Addr)
 | rng (lo hi : Int)
 | frz (o : Obj) (u : HO)
 | tbl (ps : Array Value)
 | ext (φ : Heap → Prop)
abbrev Hp := Addr → Option HO
def upd (H : Hp) (a : Addr) (o : HO) : Hp := fun b => if b = a then some o else H b
theorem upd_same {H : Hp} {a : Addr} {o : HO} : upd H a o a = some o := by unfold upd; rw [if_pos rfl]
theorem upd_ne {H : Hp} {a b : Addr} {o : HO} (h : b ≠ a) : upd H a o b = H b := by unfold upd; rw [if_neg h]
theorem ne_of {H : Hp} {a b : Addr} {o u : HO} (h : H a = some o) (h' : H b = some u) (d : o ≠ u) : a ≠ b := by
 intro e; subst e; rw [h] at h'; exact d (Option.some.inj h')
theorem ne_of_none {H : Hp} {a b : Addr} {o : HO} (h : H a = some o) (h' : H b = none) : a ≠ b := by
 intro e; subst e; rw [h] at h'; cases h'
section
variable (P : Program) (w : World)
def ObjOk (H : Hp) (h : Heap) (a : Addr) : HO → Prop
 | .lst xs => xs.length ≤ sizeLine ∧ ∃ (its : List Value) (n : Nat), Vals xs its ∧ h.get? a = some { cls := .type "list", data := .seq its.toArray n }
 | .tup xs => xs.length ≤ sizeLine ∧ ∃ its : List Value, Vals xs its ∧ IsTup h a its.toArray
 | .dK kvs => kvs.length ≤ sizeLine ∧ (a == sysModules) = false ∧ ∃ vs, KV kvs vs ∧ h.DictOf (mixKind P w) a vs
 | .dT kvs => kvs.length ≤ sizeLine ∧ (a == sysModules) = false ∧ ∃ xs : List (List Key × Addr × Value),
  Paired (fun (p : List Key × V) (q : List Key × Addr × Value) => p.1 = q.1 ∧ H q.2.1 = some (.tup (p.1.map kV)) ∧ RelV p.2 q.2.2) kvs xs ∧
  ∃ o es ep, h.get? a = some o ∧ o.ExactDict ∧ o.data = .dict es ep ∧ es.toList = xs.map (entryOfKey (tupleKind (mixKind P w))) ∧ (xs.map (·.1)).Nodup
 | .set S n => h.SetOf (intKind P w) a S n
 | .ins C dx fs => H dx = some (.own a) ∧ fs.length ≤ 1000 ∧ dx ≠ a ∧ h.get? a = some (PySem.W.instObj C dx) ∧
  ∃ mA, h.Ns1 dx mA ∧ (∀ f, RelO (fs.lookup f) (mA f)) ∧ PySem.Within mA (fs.map (·.1))
 | .own _ => ∃ o, h.get? a = some o
 | .xd fs => ∃ mA, h.Ns1 a mA ∧ ∀ f, RelO (fs.lookup f) (mA f)
 | .rng lo hi => ∃ t u v, h.get? a = some { cls := .type "range", data := .fields #[.int lo t, .int hi u, .int 1 v] }
 | .frz o u => h.get? a = some o ∧ ObjOk H h a u
 | .tbl ps => h.get? a = some { cls := .none, data := .fields ps }
 | .met f x => h.get? a = some (PySem.W.methodObj (.ref f) (.ref x))
 | .ext φ => φ h ∧ (∃ o, h.get? a = some o) ∧ ∀ h1 h2 : Heap, φ h1 → (∀ o, h1.get? a = some o → h2.get? a = some o) → φ h2
def HOk (H : Hp) (h : Heap) : Prop := ∀ a o, H a = some o → ObjOk P w H h a o
end
section
variable {P : Program} {w : World} {H H' : Hp} {h h' : Heap} {a : Addr} {o : HO}
theorem ObjOk.lt (x : ObjOk P w H h a o) : a < h.objs.size := by
 cases o with
 | lst xs => obtain ⟨_, _, _, _, e⟩ := x; exact Heap.lt_size e
 | tup xs => obtain ⟨_, _, _, p⟩ := x; exact p.lt
 | dK kvs => obtain ⟨_, _, _, _, o, _, _, e, _⟩ := x; exact Heap.lt_size e
 | dT kvs => obtain ⟨_, _, _, _, o, _, _, e, _⟩ := x; exact Heap.lt_size e
 | set S n => obtain ⟨o, _, _, _, e, _⟩ := x; exact Heap.lt_size e
 | ins C dx fs => obtain ⟨_, _, _, e, _⟩ := x; exact Heap.lt_size e
 | own y => obtain ⟨_, e⟩ := x; exact Heap.lt_size e
 | xd fs => obtain ⟨_, ⟨_, _, _, e, _⟩, _⟩ := x; exact Heap.lt_size e
 | rng lo hi => obtain ⟨_, _, _, e⟩ := x; exact Heap.lt_size e
 | frz ob u => obtain ⟨e, _⟩ := x; exact Heap.lt_size e
 | tbl ps => exact Heap.lt_size (show h.get? a = some _ from x)
 | met f y => exact Heap.lt_size (show h.get? a = some _ from x)
 | ext φ => obtain ⟨_, ⟨_, e⟩, _⟩ := x; exact Heap.lt_size e
theorem Paired.mapP {α β : Type} {F G : α → β → Prop} : ∀ {l₁ : List α} {l₂ : List β}, Paired F l₁ l₂ → (∀ a b, F a b → G a b) → Paired G l₁ l₂
 | _, _, .nil, _ => .nil
 | _, _, .cons r t, f => .cons (f _ _ r) (Paired.mapP t f)
theorem ObjOk.stay (x : ObjOk P w H h a o) (k : ∀ b u, (b = a ∨ H b = some (.own a)) → h.get? b = some u → h'.get? b = some u)
 (ho : ∀ b, H b = some (.own a) → H' b = some (.own a)) (ht : ∀ b xs, H b = some (.tup xs) → H' b = some (.tup xs)) : ObjOk P w H' h' a o := by
 induction o with
 | lst xs => obtain ⟨z, its, n, r, e⟩ := x; exact ⟨z, its, n, r, k _ _ (.inl rfl) e⟩
 | tup xs => obtain ⟨z, its, r, ob, e, c⟩ := x; exact ⟨z, its, r, ob, k _ _ (.inl rfl) e, c⟩
 | dK kvs => obtain ⟨z, y, vs, r, ob, es, ep, e, c⟩ := x; exact ⟨z, y, vs, r, ob, es, ep, k _ _ (.inl rfl) e, c⟩
 | dT kvs =>
  obtain ⟨z, y, xs, r, ob, es, ep, e, c⟩ := x
  exact ⟨z, y, xs, Paired.mapP r fun p q z => ⟨z.1, ht _ _ z.2.1, z.2.2⟩, ob, es, ep, k _ _ (.inl rfl) e, c⟩
 | set S n => obtain ⟨ob, es, ep, t, e, c⟩ := x; exact ⟨ob, es, ep, t, k _ _ (.inl rfl) e, c⟩
 | ins C dx fs =>
  obtain ⟨d, z, ne, e, mA, ⟨od, es, ep, e2, c⟩, r⟩ := x
  exact ⟨ho _ d, z, ne, k _ _ (.inl rfl) e, mA, ⟨od, es, ep, k _ _ (.inr d) e2, c⟩, r⟩
 | own y => obtain ⟨ob, e⟩ := x; exact ⟨ob, k _ _ (.inl rfl) e⟩
 | xd fs => obtain ⟨mA, ⟨od, es, ep, e, c⟩, r⟩ := x; exact ⟨mA, ⟨od, es, ep, k _ _ (.inl rfl) e, c⟩, r⟩
 | rng lo hi => obtain ⟨t, u, v, e⟩ := x; exact ⟨t, u, v, k _ _ (.inl rfl) e⟩
 | frz ob u ih => obtain ⟨e, q⟩ := x; exact ⟨k _ _ (.inl rfl) e, ih q⟩
 | tbl ps =>
  have e : h.get? a = some { cls := .none, data := .fields ps } := x
  show h'.get? a = some { cls := .none, data := .fields ps }
  exact k a _ (.inl rfl) e
 | met f y =>
  have e : h.get? a = some (PySem.W.methodObj (.ref f) (.ref y)) := x
  show h'.get? a = some (PySem.W.methodObj (.ref f) (.ref y))
  exact k a _ (.inl rfl) e
 | ext φ => obtain ⟨p, ⟨o, e⟩, st⟩ := x; exact ⟨st _ _ p fun o q => k _ _ (.inl rfl) q, ⟨o, k _ _ (.inl rfl) e⟩, st⟩
theorem HOk.lt (x : HOk P w H h) (e : H a = some o) : a < h.objs.size := (x a o e).lt
theorem HOk.fresh (x : HOk P w H h) (e : h.objs.size ≤ a) : H a = none := by
 cases q : H a with
 | none => rfl
 | some u => exact absurd (Nat.lt_of_lt_of_le (x.lt q) e) (Nat.lt_irrefl _)
theorem HOk.kept (x : HOk P w H h) (k : ∀ b u, h.get? b = some u → h'.get? b = some u) : HOk P w H h' := fun a o e =>
 (x a o e).stay (fun b u _ q => k b u q) (fun _ q => q) fun _ _ q => q
theorem HOk.laid (x : HOk P w H h) (k : ∀ b u, h.get? b = some u → h'.get? b = some u) (hp : h.objs.size ≤ a) (new : ObjOk P w (upd H a o) h' a o) : HOk P w (upd H a o) h' := fun b u e => by
 have hn := x.fresh hp
 by_cases hb : b = a
 · subst hb; rw [upd_same] at e; cases e; exact new
 · rw [upd_ne hb] at e
   exact (x b u e).stay (fun c v _ q => k c v q) (fun c q => by rw [upd_ne (ne_of_none q hn)]; exact q) fun c xs q => by rw [upd_ne (ne_of_none q hn)]; exact q
end
def Rd (H : Hp) (a : Addr) (u : HO) : Prop := H a = some u ∨ ∃ o, H a = some (.frz o u)
theorem Rd.ok {P : Program} {w : World} {H : Hp} {h : Heap} {a : Addr} {u : HO} (r : Rd H a u) (x : HOk P w H h) : ObjOk P w H h a u := by
 rcases r with r | ⟨o, r⟩
 · exact x a u r
 · obtain ⟨_, q⟩ := x a _ r
   exact q
def Mut : Option HO → Prop
 | some (.lst _) => True
 | some (.dK _) => True
 | some (.dT _) => True
 | some (.set _ _) => True
 | some (.ins _ _ _) => True
 | some (.ext _) => True
 | _ => False
section
variable {P : Program} {w : World} {H : Hp} {h h' : Heap} {x e : Addr} {o' : HO}
theorem HOk.write (ok : HOk P w H h) (mu : Mut (H x)) (he : e = x ∨ H e = some (.own x)) (k : ∀ b u, b ≠ e → h.get? b = some u → h'.get? b = some u) (heo : ∃ u, h'.get? e = some u)
 (new : ObjOk P w (upd H x o') h' x o') : HOk P w (upd H x o') h' := fun b u q => by
 have nown : ∀ c y, H c = some (.own y) → c ≠ x := fun c y r z => by subst z; rw [r] at mu; exact mu
 have ntup : ∀ c xs, H c = some (.tup xs) → c ≠ x := fun c xs r z => by subst z; rw [r] at mu; exact mu
 by_cases hb : b = x
 · subst hb; rw [upd_same] at q; cases q; exact new
 · rw [upd_ne hb] at q
   by_cases hbe : b = e
   · have q' : H b = some (.own x) := by
      rcases he with z | z
      · exact absurd (hbe.trans z) hb
      · rw [hbe]; exact z
     rw [q] at q'; cases q'
     obtain ⟨v, hv⟩ := heo
     exact ⟨v, by rw [hbe]; exact hv⟩
   · refine (ok b u q).stay (fun c v hc r => k c v ?_ r) (fun c r => by rw [upd_ne (nown c b r)]; exact r) fun c xs r => by rw [upd_ne (ntup c xs r)]; exact r
     rcases hc with rfl | hc
     · exact hbe
     · rintro rfl
       rcases he with z | z
       · exact nown c b hc z
       · rw [hc] at z; cases z; exact hb rfl
end
structure Un (fs ex : List Addr) (H H' : Hp) (h h' : Heap) : Prop where
 keep : ∀ b o, h.get? b = some o → H b = none → b ∉ fs → b ∉ ex → h'.get? b = some o
 slot : ∀ b o, h.get? b = some o → H b = none → b ∈ fs → b ∉ ex → ∃ sl, h'.get? b = some { o with slots := sl }
 free : ∀ b o, h.get? b = some o → H b = none → b ∉ ex → H' b = none
 there : ∀ b o, h.get? b = some o → b ∉ ex → ∃ o', h'.get? b = some o'
 tups : ∀ b xs, H b = some (.tup xs) → H' b = some (.tup xs)
 frzs : ∀ b o u, H b = some (.frz o u) → H' b = some (.frz o u)
 tbls : ∀ b ps, H b = some (.tbl ps) → ∃ more, H' b = some (.tbl (ps ++ more))
section
variable {fs fs' ex ex' : List Addr} {H H1 H2 : Hp} {h h1 h2 h' : Heap} {a x e : Addr} {o : HO}
theorem Un.any (u : Un fs ex H H1 h h1) {b : Addr} {ob : Obj} (q : h.get? b = some ob) (n : H b = none) (hx : b ∉ ex) : ∃ sl, h1.get? b = some { ob with slots := sl } := by
 by_cases hb : b ∈ fs
 · exact u.slot b ob q n hb hx
 · exact ⟨ob.slots, u.keep b ob q n hb hx⟩
theorem Un.kept (k : ∀ b u, h.get? b = some u → h'.get? b = some u) : Un fs ex H H h h' :=
 ⟨fun b ob q _ _ _ => k b ob q, fun b ob q _ _ _ => ⟨ob.slots, k b ob q⟩, fun _ _ _ n _ => n, fun b ob q _ => ⟨ob, k b ob q⟩, fun _ _ q => q, fun _ _ _ q => q, fun _ ps q => ⟨#[], by rw [q]; simp⟩⟩
theorem Un.refl : Un fs ex H H h h := Un.kept fun _ _ q => q
theorem Un.laid (k : ∀ b u, h.get? b = some u → h'.get? b = some u) (hp : h.objs.size ≤ a) (hn : H a = none) : Un fs ex H (upd H a o) h h' where
 keep := fun b u q _ _ _ => k b u q
 slot := fun b u q _ _ _ => ⟨u.slots, k b u q⟩
 free := fun b u q n _ => by rw [upd_ne (Nat.ne_of_lt (Nat.lt_of_lt_of_le (Heap.lt_size q) hp))]; exact n
 there := fun b u q _ => ⟨u, k b u q⟩
 tups := fun b xs q => by rw [upd_ne (ne_of_none q hn)]; exact q
 frzs := fun b u xs q => by rw [upd_ne (ne_of_none q hn)]; exact q
 tbls := fun b ps q => ⟨#[], by rw [upd_ne (ne_of_none q hn), q]; simp⟩
theorem Un.write (mu : Mut (H x)) (he : e = x ∨ H e = some (.own x)) (k : ∀ b u, b ≠ e → h.get? b = some u → h'.get? b = some u) (heo : ∃ u, h'.get? e = some u) : Un fs ex H (upd H x o) h h' := by
 have hx : ∀ b, H b = none → b ≠ x := fun b n z => by subst z; rw [n] at mu; exact mu
 have hb : ∀ b, H b = none → b ≠ e := fun b n z => by
  subst z
  rcases he with r | r
  · exact hx b n r
  · rw [n] at r; cases r
 have hm : ∀ b u, H b = some u → ¬ Mut (some u) → b ≠ x := fun b u q nm z => by subst z; rw [q] at mu; exact nm mu
 refine ⟨fun b u q n _ _ => k b u (hb b n) q, fun b u q n _ _ => ⟨u.slots, k b u (hb b n) q⟩, fun b u q n _ => by rw [upd_ne (hx b n)]; exact n, fun b u q _ => ?_,
  fun b xs q => by rw [upd_ne (hm b _ q fun z => z)]; exact q, fun b u xs q => by rw [upd_ne (hm b _ q fun z => z)]; exact q, fun b ps q => ⟨#[], by rw [upd_ne (hm b _ q fun z => z), q]; simp⟩⟩
 by_cases hbe : b = e
 · subst hbe; exact heo
 · exact ⟨u, k b u hbe q⟩
end
def trk (h : Heap) (H : Hp) : List Addr := (List.range h.objs.size).filter fun a => (H a).isSome
def hidT (h : Heap) (H : Hp) : Heap := PySem.W.hideAll h (trk h H)
theorem hidT_size (h : Heap) (H : Hp) : (hidT h H).objs.size = h.objs.size := PySem.W.hideAll_size _ _
theorem hidT_get {h : Heap} {H : Hp} {b : Addr} {o : Obj} (e : h.get? b = some o) (n : H b = none) : (hidT h H).get? b = some o :=
 PySem.W.hideAll_get _ e fun hm => by
  have q : (H b).isSome = true := (List.mem_filter.mp hm).2
  rw [n] at q; simp at q
theorem of_hidT {h : Heap} {H : Hp} {b : Addr} {o : Obj} (e : (hidT h H).get? b = some o) : h.get? b = some o ∧ H b = none := by
 have e' : h.get? b = some o := PySem.W.of_hideAll (trk h H) e
 refine ⟨e', ?_⟩
 cases q : H b with
 | none => rfl
 | some x =>
  have hm : b ∈ trk h H := List.mem_filter.mpr ⟨List.mem_range.mpr (Heap.lt_size e'), by simp [q]⟩
  have z : (hidT h H).get? b = none := PySem.W.hideAll_none (trk h H) hm
  rw [z] at e; cases e
def allNews (g h : Heap) (L : Addr) : List (Addr × Obj) := (List.range h.objs.size).filterMap fun a => if a = L ∨ (g.get? a).isSome = true then none else (h.get? a).map fun o => (a, o)
def rest (g h : Heap) (L d : Addr) : List (Addr × Obj) := (allNews g h L).filter fun p => decide (p.1 ≠ d)
structure Mod (K : PySem.W.Frag) (mg : Str → Option Value) (base : Heap) : Prop where
 kin : K.In base
 glob : base.Ns mainGlobals mg
 blt : ∃ mb, base.Ns builtinsNs mb ∧ ∀ x : Str, x ≠ "__name__" → mb x = bootBuiltins x
 nolimit : base.NoLimit
structure Cx where
 prog : Program
 w : World
 K : PySem.W.Frag
 mg : Str → Option Value
 base : Heap
 A : Around
 N : List Str
 s₀ : Shared
 H₀ : Hp
 env : Env
 outer : List Env
 stack : List Env
 ex : List Addr
 fn : Str → Bool
 calm : Bool
 pn : List (Addr × Obj)
 xe : Value → Shared → Prop
def frs (l : List Env) : List Addr := l.filterMap (·.frame)
abbrev Cx.fs (X : Cx) : List Addr := frs X.outer
def Vis (sc : Scope) (x : Str) : Prop := sc.names.lookup x = some .local ∨ sc.names.lookup x = some .cell ∨ sc.names.lookup x = some .free
def Loc (sc : Scope) (x : Str) : Prop := sc.names.lookup x = some .local ∨ sc.names.lookup x = some .cell
def Look (env : Env) (h : Heap) (m : Str → Option Value) (x : Str) (u : Value) : Prop :=
 (env.kindOf x = some .local ∧ m x = some u) ∨ ((env.kindOf x = some .cell ∨ env.kindOf x = some .free) ∧ ∃ c, env.cells.lookup x = some c ∧ h.IsCell c (some u))
structure Cx.Ok (X : Cx) : Prop where
 mod : Mod X.K X.mg X.base
 kind : X.env.scope.kind = .function
 glob : X.env.globals = mainGlobals
 blt : X.env.builtins = builtinsNs
 above : X.s₀.heap.objs.size ≤ X.env.locals
 inj : ∀ x y c, X.env.cells.lookup x = some c → X.env.cells.lookup y = some c → x = y
 has : ∀ x, (X.env.kindOf x = some .cell ∨ X.env.kindOf x = some .free) → ∃ c, X.env.cells.lookup x = some c
 cab : ∀ x c, X.fn x = true → X.env.cells.lookup x = some c → X.s₀.heap.objs.size ≤ c
 hd : X.calm = true → X.A.handled = none
 frames : X.A.frames = some X.stack
 stk : X.stack = X.outer ∨ (X.stack = X.env :: X.outer ∧ X.env.frame = some X.env.locals)
 exf : ∀ b ∈ X.ex, b ≠ X.env.locals ∧ ∀ x c, X.env.cells.lookup x = some c → c ≠ b
 bs : ∀ b o, X.base.get? b = some o → X.s₀.heap.get? b = some o ∧ X.H₀ b = none
 bsz : X.base.objs.size ≤ X.s₀.heap.objs.size
 noex : ∀ b o, X.base.get? b = some o → b ∉ X.ex
 exfs : ∀ b ∈ X.ex, b ∉ X.fs
 funs : X.s₀.heap.FunFrames X.base X.outer
 frf : ∀ b ∈ X.fs, X.H₀ b = none
structure Inv (X : Cx) (pins : List (Addr × Obj)) (σ : List (Option V)) (H : Hp) (s : Shared) : Prop where
 ok : X.Ok
 os : s.os = X.s₀.os
 bare : AllBare s.gens
 base : Un X.fs X.ex X.H₀ H X.s₀.heap s.heap
 loc : ∃ m, s.heap.Ns X.env.locals m ∧ ∀ (i : Nat) (x : Str) (v : V), X.N[i]? = some x → σ[i]? = some (some v) → Vis X.env.scope x → ∃ u, RelV v u ∧ Look X.env s.heap m x u
 cell : ∀ x c, X.env.cells.lookup x = some c → ∃ v, s.heap.IsCell c v
 free : H X.env.locals = none
 freeC : ∀ x c, X.env.cells.lookup x = some c → H c = none
 pin : ∀ p ∈ X.pn ++ pins, s.heap.get? p.1 = some p.2 ∧ H p.1 = none ∧ p.1 ≠ X.env.locals ∧ p.1 ∉ X.fs ∧ ∀ v, p.2.data ≠ .cell v
 hok : HOk X.prog X.w H s.heap
 len : σ.length = X.N.length
section
variable {X : Cx} {pins : List (Addr × Obj)} {σ : List (Option V)} {H H' : Hp} {s : Shared} {h' : Heap}
theorem Cx.Ok.nofr (ok : X.Ok) {b : Addr} {o : Obj} (e : X.base.get? b = some o) : b ∉ X.fs := fun hb => by
 have := (ok.funs.mem hb).1
 rw [e] at this; cases this
theorem Inv.bs (I : Inv X pins σ H s) : ∀ b o, X.base.get? b = some o → s.heap.get? b = some o ∧ H b = none := fun b o e =>
 ⟨I.base.keep b o (I.ok.bs b o e).1 (I.ok.bs b o e).2 (I.ok.nofr e) (I.ok.noex b o e), I.base.free b o (I.ok.bs b o e).1 (I.ok.bs b o e).2 (I.ok.noex b o e)⟩
theorem Inv.bk (I : Inv X pins σ H s) : ∀ b o, X.base.get? b = some o → s.heap.get? b = some o := fun b o e => (I.bs b o e).1
theorem Inv.mod (I : Inv X pins σ H s) : Mod X.K X.mg X.base := I.ok.mod
theorem Inv.kIn (I : Inv X pins σ H s) : X.K.In s.heap := I.ok.mod.kin.keeps I.bk
theorem Inv.lt (I : Inv X pins σ H s) : X.env.locals < s.heap.objs.size := let ⟨_, hn, _⟩ := I.loc; hn.lt
theorem Inv.sz (I : Inv X pins σ H s) : X.s₀.heap.objs.size ≤ s.heap.objs.size := Nat.le_trans I.ok.above (Nat.le_of_lt I.lt)
theorem Inv.nofs (I : Inv X pins σ H s) {a : Addr} (h : s.heap.objs.size ≤ a) : a ∉ X.fs := fun hb => by
 obtain ⟨_, o, ho, _⟩ := I.ok.funs.mem hb
 exact absurd (Nat.lt_of_lt_of_le (Heap.lt_size ho) (Nat.le_trans I.sz h)) (Nat.lt_irrefl _)
theorem Inv.cne (I : Inv X pins σ H s) : ∀ x c, X.env.cells.lookup x = some c → c ≠ X.env.locals := fun x c e z => by
 obtain ⟨v, o, ho, hd⟩ := I.cell x c e
 obtain ⟨m, ⟨o', es, ep, ho', hd', _⟩, _⟩ := I.loc
 rw [z, ho'] at ho; cases ho; rw [hd'] at hd; cases hd
theorem Inv.funs (I : Inv X pins σ H s) : s.heap.FunFrames X.base X.outer := by
 have all : ∀ (l : List Env), (∀ b ∈ frs l, b ∈ X.fs) → X.s₀.heap.FunFrames X.base l → s.heap.FunFrames X.base l := by
  intro l
  induction l with
  | nil => intro _ _; trivial
  | cons env r ih =>
   intro hs hl
   obtain ⟨hk, ⟨L, o, hf, hn, ho, hd⟩, hr⟩ := hl
   have hL : L ∈ X.fs := hs L (by unfold frs; rw [List.filterMap_cons, hf]; exact List.mem_cons_self)
   obtain ⟨sl, e⟩ := I.base.slot L o ho (I.ok.frf L hL) hL fun z => I.ok.exfs L z hL
   exact ⟨hk, ⟨L, _, hf, hn, e, hd⟩, ih (fun b hb => hs b (by unfold frs; rw [List.filterMap_cons, hf]; exact List.mem_cons_of_mem _ hb)) hr⟩
 exact all X.outer (fun _ hb => hb) I.ok.funs
theorem Inv.stack (I : Inv X pins σ H s) : s.heap.FunFrames X.base X.stack := by
 rcases I.ok.stk with e | ⟨e, hf⟩
 · rw [e]; exact I.funs
 · rw [e]
   obtain ⟨m, hn, _⟩ := I.loc
   refine .cons (by rw [I.ok.kind]; decide) hf hn ?_ I.funs
   exact Heap.get?_none_of_le (Nat.le_trans I.ok.bsz I.ok.above)
theorem Inv.stkSub (I : Inv X pins σ H s) : ∀ b ∈ frs X.stack, b ∈ X.env.locals :: X.fs := fun b hb => by
 rcases I.ok.stk with e | ⟨e, hf⟩
 · rw [e] at hb; exact List.mem_cons_of_mem _ hb
 · rw [e] at hb
   unfold frs at hb
   rw [List.filterMap_cons, hf] at hb
   exact hb
theorem Inv.stkFree (I : Inv X pins σ H s) : ∀ b ∈ frs X.stack, H b = none := fun b hb => by
 rcases List.mem_cons.mp (I.stkSub b hb) with e | hb
 · rw [e]; exact I.free
 · obtain ⟨_, o, ho, _⟩ := I.ok.funs.mem hb
   exact I.base.free b o ho (I.ok.frf b hb) fun z => I.ok.exfs b z hb
theorem Inv.step {g' : Array GenState} {t' : Nat} {d' : Drawn} {ch : List Addr} (I : Inv X pins σ H s)
 (hch : ∀ b ∈ ch, (b ∈ X.ex ∨ X.s₀.heap.objs.size ≤ b) ∧ b ≠ X.env.locals ∧ (∀ x c, X.env.cells.lookup x = some c → c ≠ b) ∧ ∀ p ∈ X.pn ++ pins, p.1 ≠ b)
 (keep : ∀ b o, b ≠ X.env.locals → b ∉ X.fs → b ∉ ch → s.heap.get? b = some o → H b = none → h'.get? b = some o)
 (slot : ∀ b o, b ≠ X.env.locals → b ∈ X.fs → b ∉ ch → s.heap.get? b = some o → H b = none → ∃ sl, h'.get? b = some { o with slots := sl }) (free : ∀ b o, b ∉ ch → s.heap.get? b = some o → H b = none → H' b = none)
 (there : ∀ b o, b ∉ ch → s.heap.get? b = some o → ∃ o', h'.get? b = some o')
 (tups : ∀ b xs, H b = some (.tup xs) → H' b = some (.tup xs)) (frzs : ∀ b o u, H b = some (.frz o u) → H' b = some (.frz o u)) (tbls : ∀ b ps, H b = some (.tbl ps) → ∃ more, H' b = some (.tbl (ps ++ more)))
 (ns : ∀ m, s.heap.Ns X.env.locals m → h'.Ns X.env.locals m) (hok : HOk X.prog X.w H' h') (hg : AllBare g') :
 Inv X pins σ H' { s with heap := h', gens := g', drawn := d', toks := t' } := by
 have neL : ∀ b o, X.s₀.heap.get? b = some o → b ≠ X.env.locals := fun b o e => Nat.ne_of_lt (Nat.lt_of_lt_of_le (Heap.lt_size e) I.ok.above)
 have neC : ∀ b o, X.s₀.heap.get? b = some o → b ∉ X.ex → b ∉ ch := fun b o e hx hb => by
  rcases (hch b hb).1 with z | z
  · exact hx z
  · exact absurd (Nat.lt_of_lt_of_le (Heap.lt_size e) z) (Nat.lt_irrefl _)
 have cellK : ∀ x c, X.env.cells.lookup x = some c → ∀ v, s.heap.IsCell c v → h'.IsCell c v := fun x c e v ⟨o, ho, hd⟩ => by
  have nch : c ∉ ch := fun z => (hch c z).2.2.1 x c e rfl
  by_cases hc : c ∈ X.fs
  · obtain ⟨sl, q⟩ := slot c o (I.cne x c e) hc nch ho (I.freeC x c e)
    exact ⟨_, q, hd⟩
  · exact ⟨o, keep c o (I.cne x c e) hc nch ho (I.freeC x c e), hd⟩
 refine ⟨I.ok, I.os, hg, ⟨fun b o e n hb hx => ?_, fun b o e n hb hx => ?_, fun b o e n hx => ?_, fun b o e hx => ?_, fun b xs e => tups b xs (I.base.tups b xs e), fun b o xs e => frzs b o xs (I.base.frzs b o xs e), fun b ps e => ?_⟩, ?_, fun x c e => ?_, ?_, fun x c e => ?_, fun p hp => ?_, hok, I.len⟩
 · exact keep b o (neL b o e) hb (neC b o e hx) (I.base.keep b o e n hb hx) (I.base.free b o e n hx)
 · obtain ⟨sl, e1⟩ := I.base.slot b o e n hb hx
   obtain ⟨sl', e2⟩ := slot b _ (neL b o e) hb (neC b o e hx) e1 (I.base.free b o e n hx)
   exact ⟨sl', e2⟩
 · obtain ⟨o', e1⟩ := I.base.there b o e hx
   exact free b o' (neC b o e hx) e1 (I.base.free b o e n hx)
 · obtain ⟨o', e1⟩ := I.base.there b o e hx
   exact there b o' (neC b o e hx) e1
 · obtain ⟨m1, e1⟩ := I.base.tbls b ps e
   obtain ⟨m2, e2⟩ := tbls b _ e1
   exact ⟨m1 ++ m2, by rw [e2, Array.append_assoc]⟩
 · obtain ⟨m, hn, hl⟩ := I.loc
   refine ⟨m, ns m hn, fun i x v e1 e2 e3 => ?_⟩
   obtain ⟨u, r, l⟩ := hl i x v e1 e2 e3
   refine ⟨u, r, ?_⟩
   rcases l with l | ⟨k, c, e, z⟩
   · exact .inl l
   · exact .inr ⟨k, c, e, cellK x c e _ z⟩
 · obtain ⟨v, z⟩ := I.cell x c e
   exact ⟨v, cellK x c e v z⟩
 · obtain ⟨m, ⟨o, _, _, ho, _⟩, _⟩ := I.loc
   exact free _ o (fun z => (hch _ z).2.1 rfl) ho I.free
 · obtain ⟨v, o, ho, hd⟩ := I.cell x c e
   exact free c o (fun z => (hch c z).2.2.1 x c e rfl) ho (I.freeC x c e)
 · obtain ⟨e, n, ne, nf, d⟩ := I.pin p hp
   have nch : p.1 ∉ ch := fun z => (hch p.1 z).2.2.2 p hp rfl
   exact ⟨keep p.1 p.2 ne nf nch e n, free p.1 p.2 nch e n, ne, nf, d⟩
theorem Inv.un {t' : Nat} (I : Inv X pins σ H s) (u : Un X.fs [] H H' s.heap h') (hok : HOk X.prog X.w H' h') : Inv X pins σ H' { s with heap := h', toks := t' } := by
 obtain ⟨m, ⟨o, es, ep, ho, r⟩, _⟩ := id I.loc
 obtain ⟨sl, hL⟩ := u.any ho I.free (by simp)
 exact I.step (g' := s.gens) (d' := s.drawn) (ch := []) (fun _ z => nomatch z) (fun b o _ hb _ e n => u.keep b o e n hb (by simp)) (fun b o _ hb _ e n => u.slot b o e n hb (by simp)) (fun b o _ e n => u.free b o e n (by simp)) (fun b o _ e => u.there b o e (by simp)) u.tups u.frzs u.tbls (fun m' hm => by
  obtain ⟨o', es', ep', ho', r'⟩ := hm
  rw [ho] at ho'; cases ho'
  exact ⟨_, es', ep', hL, r'⟩) hok I.bare
theorem Inv.call {g' : Array GenState} {t' : Nat} {d' : Drawn} {ch : List Addr} (I : Inv X pins σ H s) (u : Un (frs X.stack) ch H H' s.heap h') (hok : HOk X.prog X.w H' h') (hg : AllBare g')
 (hch : ∀ b ∈ ch, (b ∈ X.ex ∨ X.s₀.heap.objs.size ≤ b) ∧ b ≠ X.env.locals ∧ (∀ x c, X.env.cells.lookup x = some c → c ≠ b) ∧ ∀ p ∈ X.pn ++ pins, p.1 ≠ b) :
 Inv X pins σ H' { s with heap := h', gens := g', drawn := d', toks := t' } := by
 obtain ⟨m, ⟨o, es, ep, ho, r⟩, _⟩ := id I.loc
 obtain ⟨sl, hL⟩ := u.any ho I.free fun z => (hch _ z).2.1 rfl
 exact I.step (ch := ch) hch (fun b o hL hb hc e n => u.keep b o e n (fun z => (List.mem_cons.mp (I.stkSub b z)).elim hL hb) hc) (fun b o _ _ hc e n => u.any e n hc) (fun b o hc e n => u.free b o e n hc) (fun b o hc e => u.there b o e hc) u.tups u.frzs u.tbls (fun m' hm => by
  obtain ⟨o', es', ep', ho', r'⟩ := hm
  rw [ho] at ho'; cases ho'
  exact ⟨_, es', ep', hL, r'⟩) hok hg
theorem Inv.turned {t' : Nat} {it : Addr} (I : Inv X pins σ H s) (k : ∀ b o, b ≠ it → s.heap.get? b = some o → h'.get? b = some o) (hn : H it = none) (hL : it ≠ X.env.locals)
 (h1 : it ∈ X.ex ∨ X.s₀.heap.objs.size ≤ it) (h2 : ∀ x c, X.env.cells.lookup x = some c → c ≠ it) (h3 : ∀ p ∈ X.pn ++ pins, p.1 ≠ it) : Inv X pins σ H { s with heap := h', toks := t' } := by
 have nit : ∀ b u, H b = some u → b ≠ it := fun b u e z => by rw [z, hn] at e; cases e
 refine I.step (g' := s.gens) (d' := s.drawn) (ch := [it]) (fun b hb => ?_) (fun b o _ _ hc e _ => k b o (fun z => hc (by simp [z])) e) (fun b o _ _ hc e _ => ⟨o.slots, k b o (fun z => hc (by simp [z])) e⟩) (fun _ _ _ _ n => n)
  (fun b o hc e => ⟨o, k b o (fun z => hc (by simp [z])) e⟩) (fun _ _ e => e) (fun _ _ _ e => e) (fun b ps e => ⟨#[], by rw [e]; simp⟩) (fun m hm => ?_) (fun b u e => ?_) I.bare
 · have e : b = it := by simpa using hb
   subst e
   exact ⟨h1, hL, h2, h3⟩
 · obtain ⟨o, es, ep, ho, r⟩ := hm
   exact ⟨o, es, ep, k _ o (Ne.symm hL) ho, r⟩
 · refine (I.hok b u e).stay (fun c v hc q => k c v ?_ q) (fun _ q => q) fun _ _ q => q
   rcases hc with z | z
   · rw [z]; exact nit b u e
   · exact nit c _ z
theorem Inv.tok (I : Inv X pins σ H s) (t : Nat) : Inv X pins σ H { s with toks := t } := I.un (h' := s.heap) (t' := t) Un.refl I.hok
theorem Inv.kept {t' : Nat} (I : Inv X pins σ H s) (k : ∀ b u, s.heap.get? b = some u → h'.get? b = some u) : Inv X pins σ H { s with heap := h', toks := t' } := I.un (Un.kept k) (I.hok.kept k)
theorem Inv.laid {a : Addr} {o : HO} {t' : Nat} (I : Inv X pins σ H s) (k : ∀ b u, s.heap.get? b = some u → h'.get? b = some u) (hp : s.heap.objs.size ≤ a) (new : ObjOk X.prog X.w (upd H a o) h' a o) :
 Inv X pins σ (upd H a o) { s with heap := h', toks := t' } := I.un (Un.laid k hp (I.hok.fresh hp)) (I.hok.laid k hp new)
theorem Inv.write {x e : Addr} {o : HO} {t' : Nat} (I : Inv X pins σ H s) (mu : Mut (H x)) (he : e = x ∨ H e = some (.own x)) (k : ∀ b u, b ≠ e → s.heap.get? b = some u → h'.get? b = some u) (heo : ∃ u, h'.get? e = some u)
 (new : ObjOk X.prog X.w (upd H x o) h' x o) : Inv X pins σ (upd H x o) { s with heap := h', toks := t' } := I.un (Un.write mu he k heo) (I.hok.write mu he k heo new)
theorem Inv.pins_of {pins' : List (Addr × Obj)} (I : Inv X pins σ H s) (h : ∀ p ∈ pins', s.heap.get? p.1 = some p.2 ∧ H p.1 = none ∧ p.1 ≠ X.env.locals ∧ p.1 ∉ X.fs ∧ ∀ v, p.2.data ≠ .cell v) : Inv X pins' σ H s :=
 ⟨I.ok, I.os, I.bare, I.base, I.loc, I.cell, I.free, I.freeC, fun p hp => (List.mem_append.mp hp).elim (fun z => I.pin p (List.mem_append_left _ z)) (h p), I.hok, I.len⟩
theorem nodup_ix {N : List Str} (hN : N.Nodup) {i j : Nat} {x : Str} (a : N[i]? = some x) (b : N[j]? = some x) : i = j := by
 obtain ⟨h1, e1⟩ := List.getElem?_eq_some_iff.mp a
 obtain ⟨h2, e2⟩ := List.getElem?_eq_some_iff.mp b
 exact (List.getElem_inj hN).mp (e1.trans e2.symm)
theorem store_ok2 {M : Model} {A : Around} {E : Value → Shared → Prop} {i : Nat} {x : Str} {v : V} {u : Value} {Q : Unit → Shared → Prop} (I : Inv X pins σ H s) (hN : X.N.Nodup) (hi : X.N[i]? = some x) (hx : Loc X.env.scope x) (r : RelV v u)
 (h : ∀ s', Inv X pins (σ.set i (some v)) H s' → (∃ a, Heap.SameBut a s.heap s'.heap ∧ (a = X.env.locals ∨ X.env.cells.lookup x = some a)) → Q () s') (hf : X.fn x = true ∨ X.env.scope.names.lookup x = some .local := by first | exact .inl rfl | exact .inr rfl | assumption) : wpAny M A (storeName X.env x u) Q E s := by
 obtain ⟨m, hn, hl⟩ := id I.loc
 have hcls : (X.env.scope.kind == .class || (X.env.scope.kind == .module && X.env.locals != X.env.globals)) = false := by rw [I.ok.kind]; rfl
 have hiσ : i < σ.length := by rw [I.len]; exact (List.getElem?_eq_some_iff.mp hi).1
 have cne := I.cne
 have tracked : ∀ {a : Addr} {h' : Heap}, (∃ o, s.heap.get? a = some o ∧ H a = none) → Heap.SameBut a s.heap h' → HOk X.prog X.w H h' := fun {a h'} ha hs b ob e => by
  obtain ⟨_, _, hfree⟩ := ha
  refine (I.hok b ob e).stay (fun c w' hc q => (hs.2 c ?_).trans q) (fun _ q => q) fun _ _ q => q
  rintro rfl
  rcases hc with rfl | hc
  · rw [hfree] at e; cases e
  · rw [hfree] at hc; cases hc
 rcases hx with hk | hk
 · refine wpAny_storeName_local hk hn (fun h' hn' hs => ?_) hcls
   obtain ⟨oL, _, _, hoL, _⟩ := id hn
   refine h _ ⟨I.ok, I.os, I.bare, ⟨fun b o e n hb hx => ?_, fun b o e n hb hx => ?_, I.base.free, fun b o e hx => ?_, I.base.tups, I.base.frzs, I.base.tbls⟩, ⟨_, hn', fun j y v' e1 e2 e3 => ?_⟩, fun y c e => ?_, I.free, I.freeC, fun p hp => ?_, tracked ⟨oL, hoL, I.free⟩ hs, by simpa using I.len⟩ ⟨_, hs, .inl rfl⟩
   · exact (hs.2 b (Nat.ne_of_lt (Nat.lt_of_lt_of_le (Heap.lt_size e) I.ok.above))).trans (I.base.keep b o e n hb hx)
   · obtain ⟨sl, e1⟩ := I.base.slot b o e n hb hx
     exact ⟨sl, (hs.2 b (Nat.ne_of_lt (Nat.lt_of_lt_of_le (Heap.lt_size e) I.ok.above))).trans e1⟩
   · obtain ⟨o', e1⟩ := I.base.there b o e hx
     exact ⟨o', (hs.2 b (Nat.ne_of_lt (Nat.lt_of_lt_of_le (Heap.lt_size e) I.ok.above))).trans e1⟩
   · by_cases hj : j = i
     · subst hj
       rw [hi] at e1; cases e1
       rw [List.getElem?_set_self hiσ] at e2
       cases e2
       exact ⟨u, r, .inl ⟨hk, by simp⟩⟩
     · rw [List.getElem?_set_ne (Ne.symm hj)] at e2
       obtain ⟨u', r', q⟩ := hl j y v' e1 e2 e3
       refine ⟨u', r', ?_⟩
       rcases q with ⟨k, e⟩ | ⟨k, c, e, z⟩
       · refine .inl ⟨k, ?_⟩
         have : y ≠ x := fun e => hj (nodup_ix hN e1 (e ▸ hi))
         simp [this, e]
       · exact .inr ⟨k, c, e, z.sameBut hs (cne y c e)⟩
   · obtain ⟨w', z⟩ := I.cell y c e
     exact ⟨w', z.sameBut hs (cne y c e)⟩
   · obtain ⟨e, n, ne, nf, d⟩ := I.pin p hp
     exact ⟨(hs.2 p.1 ne).trans e, n, ne, nf, d⟩
 · have hfn : X.fn x = true := by
    rcases hf with z | z
    · exact z
    · rw [z] at hk; cases hk
   obtain ⟨c, hc⟩ := I.ok.has x (.inl hk)
   obtain ⟨w', z⟩ := I.cell x c hc
   refine wpAny_storeName_cell I.ok.kind hk hc z (fun h' hc' hs => ?_)
   obtain ⟨oc, hoc, hocd⟩ := id z
   refine h { s with heap := h' } ⟨I.ok, I.os, I.bare, ⟨fun b o e n hb hx => ?_, fun b o e n hb hx => ?_, I.base.free, fun b o e hx => ?_, I.base.tups, I.base.frzs, I.base.tbls⟩, ⟨m, hn.sameBut hs (Ne.symm (cne x c hc)), fun j y v' e1 e2 e3 => ?_⟩, fun y c' e => ?_, I.free, I.freeC, fun p hp => ?_, tracked ⟨oc, hoc, I.freeC x c hc⟩ hs, by simpa using I.len⟩ ⟨c, hs, .inr hc⟩
   · exact (hs.2 b (Nat.ne_of_lt (Nat.lt_of_lt_of_le (Heap.lt_size e) (I.ok.cab x c hfn hc)))).trans (I.base.keep b o e n hb hx)
   · obtain ⟨sl, e1⟩ := I.base.slot b o e n hb hx
     exact ⟨sl, (hs.2 b (Nat.ne_of_lt (Nat.lt_of_lt_of_le (Heap.lt_size e) (I.ok.cab x c hfn hc)))).trans e1⟩
   · obtain ⟨o', e1⟩ := I.base.there b o e hx
     exact ⟨o', (hs.2 b (Nat.ne_of_lt (Nat.lt_of_lt_of_le (Heap.lt_size e) (I.ok.cab x c hfn hc)))).trans e1⟩
   · by_cases hj : j = i
     · subst hj
       rw [hi] at e1; cases e1
       rw [List.getElem?_set_self hiσ] at e2
       cases e2
       exact ⟨u, r, .inr ⟨.inl hk, c, hc, hc'⟩⟩
     · rw [List.getElem?_set_ne (Ne.symm hj)] at e2
       obtain ⟨u', r', q⟩ := hl j y v' e1 e2 e3
       refine ⟨u', r', ?_⟩
       rcases q with q | ⟨k, c', e, z'⟩
       · exact .inl q
       · refine .inr ⟨k, c', e, z'.sameBut hs ?_⟩
         rintro rfl
         exact hj (nodup_ix hN e1 (I.ok.inj _ _ _ e hc ▸ hi))
   · by_cases hcc : c' = c
     · subst hcc; exact ⟨_, hc'⟩
     · obtain ⟨w2, z2⟩ := I.cell y c' e
       exact ⟨w2, z2.sameBut hs hcc⟩
   · obtain ⟨e, n, ne, nf, d⟩ := I.pin p hp
     refine ⟨(hs.2 p.1 ?_).trans e, n, ne, nf, d⟩
     intro q
     rw [q, hoc] at e
     have q' : oc = p.2 := Option.some.inj e
     exact d w' (by rw [← q']; exact hocd)
theorem store_ok {M : Model} {A : Around} {E : Value → Shared → Prop} {i : Nat} {x : Str} {v : V} {u : Value} {Q : Unit → Shared → Prop} (I : Inv X pins σ H s) (hN : X.N.Nodup) (hi : X.N[i]? = some x) (hx : Loc X.env.scope x) (r : RelV v u)
 (h : ∀ s', Inv X pins (σ.set i (some v)) H s' → Q () s') (hf : X.fn x = true ∨ X.env.scope.names.lookup x = some .local := by first | exact .inl rfl | exact .inr rfl | assumption) : wpAny M A (storeName X.env x u) Q E s :=
 store_ok2 I hN hi hx r (fun s' I' _ => h s' I') hf
theorem Inv.call' {s' : Shared} {ch : List Addr} (I : Inv X pins σ H s) (ho : s'.os = s.os) (u : Un (frs X.stack) ch H H' s.heap s'.heap) (hok : HOk X.prog X.w H' s'.heap) (hg : AllBare s'.gens)
 (hch : ∀ b ∈ ch, (b ∈ X.ex ∨ X.s₀.heap.objs.size ≤ b) ∧ b ≠ X.env.locals ∧ (∀ x c, X.env.cells.lookup x = some c → c ≠ b) ∧ ∀ p ∈ X.pn ++ pins, p.1 ≠ b) : Inv X pins σ H' s' := by
 obtain ⟨h', g', d', t', o'⟩ := s'
 have e : o' = s.os := ho
 subst e
 exact I.call (g' := g') (t' := t') (d' := d') u hok hg hch
end
abbrev XK := Value → Option Addr → Hp → Prop
abbrev St := List (Option V)
abbrev VK := V → Hp → Prop
abbrev TE := St → Hp → VK → Prop
abbrev TT := St → Hp → (Bool → Hp → Prop) → Prop
abbrev TA := St → Hp → (List V → Hp → Prop) → Prop
structure Ends where
 nx : St → Hp → Prop
 rt : VK
 bk : St → Hp → Prop := fun _ _ => False
 ct : St → Hp → Prop := fun _ _ => False
abbrev TS := Ends → St → Hp → Prop
def EP (X : Cx) (pins : List (Addr × Obj)) (σ : St) (Q : VK) (u : Value) (s' : Shared) : Prop := ∃ v H', Inv X pins σ H' s' ∧ RelV v u ∧ Q v H'
def TP (X : Cx) (pins : List (Addr × Obj)) (σ : St) (Q : Bool → Hp → Prop) (b : Bool) (s' : Shared) : Prop := ∃ H', Inv X pins σ H' s' ∧ Q b H'
def AP (X : Cx) (pins : List (Addr × Obj)) (σ : St) (Q : List V → Hp → Prop) (us : List Value) (s' : Shared) : Prop := ∃ vs H', Inv X pins σ H' s' ∧ Vals vs us ∧ Q vs H'
def SP (X : Cx) (pins : List (Addr × Obj)) (D : Ends) (f : Flow) (s' : Shared) : Prop :=
 match f with
 | .next => ∃ σ' H', Inv X pins σ' H' s' ∧ D.nx σ' H'
 | .brk => ∃ σ' H', Inv X pins σ' H' s' ∧ D.bk σ' H'
 | .cont => ∃ σ' H', Inv X pins σ' H' s' ∧ D.ct σ' H'
 | .ret u => ∃ v σ' H', Inv X pins σ' H' s' ∧ RelV v u ∧ D.rt v H'
def PE (X : Cx) (e : Expr) (t : TE) : Prop :=
 ∀ (pins : List (Addr × Obj)) (s : Shared) (σ : St) (H : Hp) (Q : VK), Inv X pins σ H s → t σ H Q → wpAny (model X.prog X.w) X.A (eval e X.env) (EP X pins σ Q) X.xe s
def PT (X : Cx) (e : Expr) (t : TT) : Prop :=
 ∀ (pins : List (Addr × Obj)) (s : Shared) (σ : St) (H : Hp) (Q : Bool → Hp → Prop), Inv X pins σ H s → t σ H Q → wpAny (model X.prog X.w) X.A (isTrue e X.env (eval e X.env)) (TP X pins σ Q) X.xe s
def PW (X : Cx) (e : Expr) (t : TT) : Prop :=
 ∀ (whole : Sem Value) (pins : List (Addr × Obj)) (s : Shared) (σ : St) (H : Hp) (Q : Bool → Hp → Prop), Inv X pins σ H s → t σ H Q → wpAny (model X.prog X.w) X.A (isTrue e X.env whole) (TP X pins σ Q) X.xe s
theorem PW.pt {X : Cx} {e : Expr} {t : TT} (h : PW X e t) : PT X e t := h _
def PA (X : Cx) (es : List Expr) (t : TA) : Prop :=
 ∀ (pos : Pos) (pins : List (Addr × Obj)) (s : Shared) (σ : St) (H : Hp) (Q : List V → Hp → Prop), Inv X pins σ H s → t σ H Q → wpAny (model X.prog X.w) X.A (spliced (backTo pos (starEach es X.env))) (AP X pins σ Q) X.xe s
def PS (X : Cx) (st : Stmt) (t : TS) : Prop :=
 ∀ (pins : List (Addr × Obj)) (s : Shared) (σ : St) (H : Hp) (D : Ends), Inv X pins σ H s → t D σ H → wpAny (model X.prog X.w) X.A (exec st X.env) (SP X pins D) X.xe s
def PSs (X : Cx) (st : List Stmt) (t : TS) : Prop :=
 ∀ (pins : List (Addr × Obj)) (s : Shared) (σ : St) (H : Hp) (D : Ends), Inv X pins σ H s → t D σ H → wpAny (model X.prog X.w) X.A (execs st X.env) (SP X pins D) X.xe s
theorem thn {α : Type} {t : Sem α} {Q Q' : α → Shared → Prop} {M : Model} {A : Around} {E : Value → Shared → Prop} {s : Shared} (h : wpAny M A t Q E s) (hQ : ∀ a s, Q a s → Q' a s) : wpAny M A t Q' E s := wpAny_mono h hQ fun _ _ x => x
section
variable {X : Cx}
theorem bin {a b : Expr} {ta tb : TE} (ha : PE X a ta) (hb : PE X b tb) {pins : List (Addr × Obj)} {s : Shared} {σ : St} {H : Hp} {R : V → V → Hp → Prop} (I : Inv X pins σ H s) (h : ta σ H fun x H1 => tb σ H1 fun y H2 => R x y H2)
 {α : Type} {Q : α → Shared → Prop} {f : Value → Value → Sem α}
 (hf : ∀ v u s2 x y H2, Inv X pins σ H2 s2 → RelV x v → RelV y u → R x y H2 → wpAny (model X.prog X.w) X.A (f v u) Q X.xe s2) :
 wpAny (model X.prog X.w) X.A (eval a X.env) (fun v s₁ => wpAny (model X.prog X.w) X.A (eval b X.env) (fun u s₂ => wpAny (model X.prog X.w) X.A (f v u) Q X.xe s₂) X.xe s₁) X.xe s := by
 refine thn (ha pins s σ H _ I h) fun v s1 ⟨x, H1, I1, r1, q1⟩ => ?_
 refine thn (hb pins s1 σ H1 _ I1 q1) fun u s2 ⟨y, H2, I2, r2, q2⟩ => ?_
 exact hf v u s2 x y H2 I2 r1 r2 q2
def tVar (i : Nat) : TE := fun σ H Q => ∃ v, σ[i]? = some (some v) ∧ Q v H
def tC (v : V) : TE := fun _ H Q => Q v H
theorem pe_var {i : Nat} {x : Str} {pos : Pos} (hN : X.N[i]? = some x) (hv : Vis X.env.scope x) (hd : (x == ("__debug__" : Str)) = false := by decide) (hcd : (x == ("__classdict__" : Str)) = false := by decide) : PE X (.Name x pos) (tVar i) := by
 intro pins s σ H Q I h
 obtain ⟨v, e, h⟩ := h
 obtain ⟨m, hn, hl⟩ := I.loc
 obtain ⟨u, r, l⟩ := hl i x v hN e hv
 have fin : EP X pins σ Q u s := ⟨v, H, I, r, h⟩
 rcases l with ⟨hk, hm⟩ | ⟨hk, c, hc, hcell⟩
 · exact wpAny_Name (wpAny_loadName_local I.ok.kind hk hn hm fin) hd
 · rcases hk with hk | hk
   · exact wpAny_Name (wpAny_loadName_cell I.ok.kind hk hc hcell fin) hd
   · exact wpAny_Name (wpAny_loadName_free I.ok.kind hk hc hcell fin hcd) hd
theorem pe_int {i j pos} : PE X (.Constant (.int i) j pos) (tC (.int i)) := fun _ _ _ H _ I h => wpAny_Constant_int ⟨.int i, H, I.tok _, ⟨_, rfl⟩, h⟩
theorem pe_bl {b j pos} : PE X (.Constant (.bool b) j pos) (tC (.bl b)) := fun _ _ _ H _ I h => Constant_bool ⟨.bl b, H, I, rfl, h⟩
theorem pe_non {j pos} : PE X (.Constant .none j pos) (tC .non) := fun _ _ _ H _ I h => Constant_none ⟨.non, H, I, rfl, h⟩
theorem pe_str {x j pos} : PE X (.Constant (.str x) j pos) (tC (.str x)) := fun _ _ _ H _ I h => Calls.Constant_str ⟨.str x, H, I.tok _, ⟨_, rfl⟩, h⟩
def Gl (X : Cx) (x : Str) : Prop := X.env.kindOf x = some .globalImplicit
theorem ld_glob {E : Value → Shared → Prop} {pins : List (Addr × Obj)} {s : Shared} {σ : St} {H : Hp} {x : Str} {u : Value} {pos : Pos} {Q : Value → Shared → Prop} (I : Inv X pins σ H s) (hg : Gl X x) (hm : X.mg x = some u) (h : Q u s)
 (hd : (x == ("__debug__" : Str)) = false := by decide) : wpAny (model X.prog X.w) X.A (eval (.Name x pos) X.env) Q E s :=
 Calls.Name_function_global I.ok.kind hg (Calls.loadGlobal_global (by rw [I.ok.glob]; exact I.mod.glob.keeps I.bk) hm h) hd
theorem ld_blt {E : Value → Shared → Prop} {pins : List (Addr × Obj)} {s : Shared} {σ : St} {H : Hp} {x : Str} {u : Value} {pos : Pos} {Q : Value → Shared → Prop} (I : Inv X pins σ H s) (hg : Gl X x) (hm : X.mg x = none) (hv : bootBuiltins x = some u) (h : Q u s)
 (hn : x ≠ "__name__" := by decide) (hd : (x == ("__debug__" : Str)) = false := by decide) : wpAny (model X.prog X.w) X.A (eval (.Name x pos) X.env) Q E s := by
 obtain ⟨mb, h1, h2⟩ := I.mod.blt
 exact Calls.Name_function_global I.ok.kind hg (Calls.loadGlobal_builtin (by rw [I.ok.glob]; exact I.mod.glob.keeps I.bk) hm (by rw [I.ok.blt]; exact h1.keeps I.bk) ((h2 x hn).trans hv) h) hd
theorem pe_glob {x : Str} {v : V} {u : Value} {pos : Pos} (hg : Gl X x) (hm : X.mg x = some u) (r : RelV v u) (hd : (x == ("__debug__" : Str)) = false := by decide) : PE X (.Name x pos) (tC v) :=
 fun _ _ _ H _ I h => ld_glob I hg hm ⟨v, H, I, r, h⟩ hd
theorem pe_bltn {x : Str} {v : V} {u : Value} {pos : Pos} (hg : Gl X x) (hm : X.mg x = none) (hv : bootBuiltins x = some u) (r : RelV v u) (hn : x ≠ "__name__" := by decide) (hd : (x == ("__debug__" : Str)) = false := by decide) : PE X (.Name x pos) (tC v) :=
 fun _ _ _ H _ I h => ld_blt I hg hm hv ⟨v, H, I, r, h⟩ hn hd
variable {a b : Expr} {ta tb : TE} {pos : Pos}
def PC (X : Cx) (op : CmpOp) (a b : Expr) (t : TE) : Prop :=
 ∀ (pins : List (Addr × Obj)) (s : Shared) (σ : St) (H : Hp) (Q : VK), Inv X pins σ H s → t σ H Q →
  wpAny (model X.prog X.w) X.A (eval a X.env) (fun v s₁ => wpAny (model X.prog X.w) X.A (eval b X.env) (fun u s₂ => wpAny (model X.prog X.w) X.A (compareOp op v u) (EP X pins σ Q) X.xe s₂) X.xe s₁) X.xe s
def tB (t : TE) : TT := fun σ H Q => t σ H fun x H1 => ∃ c, x = .bl c ∧ Q c H1
theorem pt_cmp {op : CmpOp} {t : TE} (h : PC X op a b t) (h1 : behindInMarks op b = false := by first | exact nobehind _ (by decide) (by decide) | rfl) : PT X (.Compare a [op] [b] pos) (tB t) := by
 intro pins s σ H Q I hw
 refine wpAny_isTrue_Compare1 (thn (h pins s σ H _ I hw) fun v s1 h1 => thn h1 fun u s2 h2 => thn h2 fun c s3 ⟨x, H1, I1, r1, q1⟩ => ?_) h1
 obtain ⟨d, rfl, q⟩ := q1
 cases r1
 exact wpAny_truthy_bool ⟨H1, I1, q⟩
theorem pt_val {e : Expr} {t : TE} (h : PE X e t) (he : ∀ whole, isTrue e X.env whole = (do let v ← whole; standAt e.pos; holding [v] (truthy v)) := by intro _; rfl) : PT X e (tB t) := by
 intro pins s σ H Q I hw
 refine isTrue_plain (thn (h pins s σ H _ I hw) fun v s1 ⟨x, H1, I1, r1, q1⟩ => ?_) (he _)
 obtain ⟨d, rfl, q⟩ := q1
 cases r1
 exact wpAny_truthy_bool ⟨H1, I1, q⟩
variable {tA tB' : TT} {rest : List Expr}
def tOr (t u : TT) : TT := fun σ H Q => t σ H fun c H1 => if c = true then Q true H1 else u σ H1 Q
def tNot (t : TT) : TT := fun σ H Q => t σ H fun c H1 => Q (!c) H1
theorem pw_or1 (ha : PT X a tA) : PW X (.BoolOp .Or [a] pos) tA := by
 intro wh pins s σ H Q I h
 refine isTrue_or (thn (ha pins s σ H Q I h) fun c s1 e => ?_)
 cases c with
 | false => exact isTrue_or_nil e
 | true => exact e
theorem pw_or (ha : PT X a tA) (hb : PW X (.BoolOp .Or (b :: rest) pos) tB') : PW X (.BoolOp .Or (a :: b :: rest) pos) (tOr tA tB') := by
 intro wh pins s σ H Q I h
 refine isTrue_or (thn (ha pins s σ H _ I h) fun c s1 ⟨H1, I1, q1⟩ => ?_)
 cases c with
 | true => exact ⟨H1, I1, q1⟩
 | false => exact hb wh pins s1 σ H1 Q I1 q1
theorem pt_not (ha : PT X a tA) : PT X (.UnaryOp .Not a pos) (tNot tA) := by
 intro pins s σ H Q I h
 exact isTrue_not (ha pins s σ H (fun c H1 => Q (!c) H1) I h)
def tAndV (ta tb : TE) : TE := fun σ H Q => ta σ H fun x H1 => ∃ c, x = .bl c ∧ if c = true then tb σ H1 Q else Q (.bl false) H1
def tNotV (ta : TE) : TE := fun σ H Q => ta σ H fun x H1 => ∃ c, x = .bl c ∧ Q (.bl (!c)) H1
theorem pe_one {op} {t : TE} (h : PE X a t) : PE X (.BoolOp op [a] pos) t := fun pins s σ H Q I hw => BoolOp_one (h pins s σ H Q I hw)
theorem pe_and (ha : PE X a ta) (hb : PE X (.BoolOp .And (b :: rest) pos) tb) : PE X (.BoolOp .And (a :: b :: rest) pos) (tAndV ta tb) := by
 intro pins s σ H Q I h
 refine BoolOp_and (thn (ha pins s σ H _ I h) fun v s1 ⟨x, H1, I1, r1, q1⟩ => ?_)
 obtain ⟨c, rfl, q1⟩ := q1
 cases r1
 refine wpAny_truthy_bool ?_
 cases c with
 | true => exact hb pins s1 σ H1 Q I1 q1
 | false => exact ⟨.bl false, H1, I1, rfl, q1⟩
theorem pe_not (ha : PE X a ta) : PE X (.UnaryOp .Not a pos) (tNotV ta) := by
 intro pins s σ H Q I h
 refine UnaryOp_ (thn (ha pins s σ H _ I h) fun v s1 ⟨x, H1, I1, r1, q1⟩ => ?_)
 obtain ⟨c, rfl, q1⟩ := q1
 cases r1
 exact not_of (wpAny_truthy_bool ⟨.bl (!c), H1, I1, rfl, q1⟩)
end
def SqL (K : PySem.W.Frag) (H : Hp) (a : Addr) (xs : List V) : Prop :=
 Rd H a (.lst xs) ∨
  ∃ (o : Obj) (its : Array Value) (n : Nat), K.lookup a = some o ∧ o.cls = .type "list" ∧ o.dict = none ∧ o.data = .seq its n ∧ its.size ≤ sizeLine ∧ Vals xs its.toList
def SqT (K : PySem.W.Frag) (H : Hp) (a : Addr) (xs : List V) : Prop :=
 Rd H a (.tup xs) ∨
  ∃ (o : Obj) (its : Array Value) (n : Nat), K.lookup a = some o ∧ o.cls = .type "tuple" ∧ o.data = .seq its n ∧ its.size ≤ sizeLine ∧ Vals xs its.toList
def absV : Value → Option V
 | .none => some .non
 | .bool b => some (.bl b)
 | .int i _ => some (.int i)
 | .str x _ => some (.str x)
 | .bytes b _ => some (.byt b)
 | .float b _ => some (.flt b)
 | .ref a => some (.ref a)
 | .type n => some (.ty n)
 | _ => none
theorem RelV.abs {x : V} {u : Value} (r : RelV x u) : absV u = some x := by
 cases x with
 | non => cases r; rfl
 | bl _ => cases r; rfl
 | int _ => obtain ⟨t, rfl⟩ := r; rfl
 | str _ => obtain ⟨t, rfl⟩ := r; rfl
 | byt _ => obtain ⟨t, rfl⟩ := r; rfl
 | flt _ => obtain ⟨t, rfl⟩ := r; rfl
 | ref _ => cases r; rfl
 | ty _ => cases r; rfl
theorem RelV.inj {x y : V} {u : Value} (r : RelV x u) (q : RelV y u) : x = y := Option.some.inj (r.abs.symm.trans q.abs)
theorem Vals.inj : ∀ {xs ys : List V} {us : List Value}, Vals xs us → Vals ys us → xs = ys
 | _, _, _, .nil, .nil => rfl
 | _, _, _, .cons r t, .cons r' t' => by rw [r.inj r', Vals.inj t t']
section
variable {X : Cx} {pins : List (Addr × Obj)} {σ : St} {H : Hp} {s : Shared} {a : Addr} {xs ys : List V}
theorem SqL.of {K : PySem.W.Frag} (h : H a = some (.lst xs)) : SqL K H a xs := .inl (.inl h)
theorem SqT.of {K : PySem.W.Frag} (h : H a = some (.tup xs)) : SqT K H a xs := .inl (.inl h)
theorem Inv.list (I : Inv X pins σ H s) (h : SqL X.K H a xs) : ∃ its : List Value, Vals xs its ∧ PlainL s.heap a its.toArray ∧ xs.length ≤ sizeLine := by
 rcases h with h | ⟨o, its, n, hk, hc, hd, hs, hz, r⟩
 · obtain ⟨z, its, n, r, e⟩ := h.ok I.hok
   exact ⟨its, r, ⟨_, n, e, rfl, rfl, rfl⟩, z⟩
 · refine ⟨its.toList, r, ⟨o, n, I.kIn a o hk, hc, hd, by simpa using hs⟩, ?_⟩
   have e := r.length
   simp only [Array.length_toList] at e
   omega
theorem Inv.tuple (I : Inv X pins σ H s) (h : SqT X.K H a xs) : ∃ its : List Value, Vals xs its ∧ IsTup s.heap a its.toArray ∧ xs.length ≤ sizeLine := by
 rcases h with h | ⟨o, its, n, hk, hc, hs, hz, r⟩
 · obtain ⟨z, its, r, p⟩ := h.ok I.hok
   exact ⟨its, r, p, z⟩
 · refine ⟨its.toList, r, ⟨o, I.kIn a o hk, hc, n, by simpa using hs⟩, ?_⟩
   have e := r.length
   simp only [Array.length_toList] at e
   omega
theorem Inv.list_inj (I : Inv X pins σ H s) (h : SqL X.K H a xs) (h' : SqL X.K H a ys) : xs = ys := by
 obtain ⟨its, r, ⟨o, n, e, _, _, d⟩, _⟩ := I.list h
 obtain ⟨its', r', ⟨o', n', e', _, _, d'⟩, _⟩ := I.list h'
 rw [e] at e'; cases e'
 rw [d] at d'
 injection d' with d1 _
 have : its = its' := by simpa using congrArg Array.toList d1
 subst this
 exact r.inj r'
theorem Inv.tuple_inj (I : Inv X pins σ H s) (h : SqT X.K H a xs) (h' : SqT X.K H a ys) : xs = ys := by
 obtain ⟨its, r, ⟨o, e, _, n, d⟩, _⟩ := I.tuple h
 obtain ⟨its', r', ⟨o', e', _, n', d'⟩, _⟩ := I.tuple h'
 rw [e] at e'; cases e'
 rw [d] at d'
 injection d' with d1 _
 have : its = its' := by simpa using congrArg Array.toList d1
 subst this
 exact r.inj r'
end
abbrev Cx.wish (X : Cx) (E : Value → Shared → Prop) : Cx := { X with xe := E }
abbrev Cx.nox (X : Cx) : Cx := X.wish fun _ _ => False
theorem Cx.Ok.wish {X : Cx} (ok : X.Ok) (E : Value → Shared → Prop) : (X.wish E).Ok :=
 ⟨ok.mod, ok.kind, ok.glob, ok.blt, ok.above, ok.inj, ok.has, ok.cab, ok.hd, ok.frames, ok.stk, ok.exf, ok.bs, ok.bsz, ok.noex, ok.exfs, ok.funs, ok.frf⟩
theorem Cx.Ok.unwish {X : Cx} {E : Value → Shared → Prop} (ok : (X.wish E).Ok) : X.Ok :=
 ⟨ok.mod, ok.kind, ok.glob, ok.blt, ok.above, ok.inj, ok.has, ok.cab, ok.hd, ok.frames, ok.stk, ok.exf, ok.bs, ok.bsz, ok.noex, ok.exfs, ok.funs, ok.frf⟩
section
variable {X : Cx} {pins : List (Addr × Obj)} {σ : St} {H : Hp} {s : Shared} {E : Value → Shared → Prop}
theorem Inv.wish (I : Inv X pins σ H s) (E : Value → Shared → Prop) : Inv (X.wish E) pins σ H s := ⟨I.ok.wish E, I.os, I.bare, I.base, I.loc, I.cell, I.free, I.freeC, I.pin, I.hok, I.len⟩
theorem Inv.unwish (I : Inv (X.wish E) pins σ H s) : Inv X pins σ H s := ⟨I.ok.unwish, I.os, I.bare, I.base, I.loc, I.cell, I.free, I.freeC, I.pin, I.hok, I.len⟩
theorem SP.unwish {D : Ends} {f : Flow} {s' : Shared} (h : SP (X.wish E) pins D f s') : SP X pins D f s' := by
 cases f with
 | next => obtain ⟨σ', H', I, q⟩ := h; exact ⟨σ', H', I.unwish, q⟩
 | brk => obtain ⟨σ', H', I, q⟩ := h; exact ⟨σ', H', I.unwish, q⟩
 | cont => obtain ⟨σ', H', I, q⟩ := h; exact ⟨σ', H', I.unwish, q⟩
 | ret u => obtain ⟨v, σ', H', I, r, q⟩ := h; exact ⟨v, σ', H', I.unwish, r, q⟩
theorem PSs.nox {st : List Stmt} {t : TS} (h : PSs X.nox st t) : PSs X st t := fun pins s σ H D I hw =>
 wpAny_mono (h pins s σ H D (I.wish _) hw) (fun _ _ q => q.unwish) fun _ _ z => False.elim z
end
section
variable {X : Cx} {st : Stmt} {rest : List Stmt} {t u : TS} {e : Expr} {te : TE} {pos : Pos}
def tNext : TS := fun D σ H => D.nx σ H
def tSeq (t u : TS) : TS := fun D σ H => t { D with nx := u D } σ H
theorem pss_nil : PSs X [] tNext := fun _ _ σ H _ I h => wpAny_execs_nil ⟨σ, H, I, h⟩
theorem pss_cons (h1 : PS X st t) (h2 : PSs X rest u) : PSs X (st :: rest) (tSeq t u) := by
 intro pins s σ H D I h
 refine wpAny_execs_cons (thn (h1 pins s σ H { D with nx := u D } I h) fun f s1 q => ?_)
 cases f with
 | next =>
  obtain ⟨σ', H', I', q⟩ := q
  exact h2 pins s1 σ' H' D I' q
 | ret v => exact q
 | brk => exact q
 | cont => exact q
theorem Inv.quiet {pins : List (Addr × Obj)} {σ : St} {H : Hp} {s : Shared} (I : Inv X pins σ H s) : interactive X.env = false := by simp [interactive, I.ok.kind]
def tDrop (te : TE) : TS := fun D σ H => te σ H fun _ H1 => D.nx σ H1
theorem ps_expr (he : PE X e te) (hs : swapsWith e none pos.line X.env = pure false := by rfl) : PS X (.Expr e pos) (tDrop te) := by
 intro pins s σ H D I h
 exact wpAny_Expr_any (thn (he pins s σ H _ I h) fun v s1 ⟨x, H1, I1, r1, q1⟩ => ⟨σ, H1, I1, q1⟩) I.quiet hs
def tRet (te : TE) : TS := fun D σ H => te σ H D.rt
theorem ps_ret (he : PE X e te) : PS X (.Return (some e) pos) (tRet te) := by
 intro pins s σ H D I h
 exact wpAny_Return_some (thn (he pins s σ H _ I h) fun v s1 ⟨x, H1, I1, r1, q1⟩ => ⟨x, σ, H1, I1, r1, q1⟩)
def tIfS (c : TT) (t u : TS) : TS := fun D σ H => c σ H fun b H1 => if b = true then t D σ H1 else u D σ H1
theorem ps_if {c : Expr} {a b : List Stmt} {tc : TT} (hc : PT X c tc) (ha : PSs X a t) (hb : PSs X b u) : PS X (.If c a b pos) (tIfS tc t u) := by
 intro pins s σ H D I h
 refine wpAny_If (thn (hc pins s σ H _ I h) fun d s1 ⟨H1, I1, q1⟩ => ?_)
 cases d with
 | true => exact ha pins s1 σ H1 D I1 q1
 | false => exact hb pins s1 σ H1 D I1 q1
end
abbrev TG := V → St → Hp → (St → Hp → Prop) → Prop
abbrev TGs := List V → St → Hp → (St → Hp → Prop) → Prop
def PG (X : Cx) (target : Expr) (t : TG) : Prop :=
 ∀ (pins : List (Addr × Obj)) (s : Shared) (σ : St) (H : Hp) (v : V) (u : Value) (Q : St → Hp → Prop), Inv X pins σ H s → RelV v u → t v σ H Q →
  wpAny (model X.prog X.w) X.A (assign target X.env u) (fun _ s' => ∃ σ' H', Inv X pins σ' H' s' ∧ Q σ' H') X.xe s
def PGs (X : Cx) (ts : List Expr) (t : TGs) : Prop :=
 ∀ (pins : List (Addr × Obj)) (s : Shared) (σ : St) (H : Hp) (vs : List V) (us : List Value) (Q : St → Hp → Prop), Inv X pins σ H s → Vals vs us → t vs σ H Q →
  wpAny (model X.prog X.w) X.A (assignInOrder ((assignEach ts X.env).map (·.2)) us) (fun _ s' => ∃ σ' H', Inv X pins σ' H' s' ∧ Q σ' H') X.xe s
abbrev TSet := V → V → V → Hp → (Hp → Prop) → Prop
def PSet (X : Cx) (t : TSet) : Prop :=
 ∀ (pins : List (Addr × Obj)) (s : Shared) (σ : St) (H : Hp) (o i v : V) (ov iv u : Value) (Q : Hp → Prop), Inv X pins σ H s → RelV o ov → RelV i iv → RelV v u → t o i v H Q →
  wpAny (model X.prog X.w) X.A (setItem ov iv u) (fun _ s' => ∃ H', Inv X pins σ H' s' ∧ Q H') X.xe s
section
variable {X : Cx} {pos : Pos}
def gName (i : Nat) : TG := fun v σ H Q => Q (σ.set i (some v)) H
theorem pg_name {i : Nat} {x : Str} (hN : X.N.Nodup) (hi : X.N[i]? = some x) (hx : Loc X.env.scope x) (hf : X.fn x = true ∨ X.env.scope.names.lookup x = some .local := by first | exact .inl rfl | exact .inr rfl | assumption) : PG X (.Name x pos) (gName i) := by
 intro pins s σ H v u Q I r h
 exact wpAny_assign_Name (store_ok I hN hi hx r (fun s' I' => ⟨_, H, I', h⟩) hf)
def gNil : TGs := fun vs σ H Q => vs = [] ∧ Q σ H
def gCons (t : TG) (u : TGs) : TGs := fun vs σ H Q => ∃ v r, vs = v :: r ∧ t v σ H fun σ' H' => u r σ' H' Q
theorem pgs_nil : PGs X [] gNil := by
 intro pins s σ H vs us Q I r h
 obtain ⟨e, h⟩ := h
 subst e
 cases r
 exact assignInOrder_nil ⟨σ, H, I, h⟩
theorem pgs_cons {e : Expr} {es : List Expr} {t : TG} {u : TGs} (h1 : PG X e t) (h2 : PGs X es u)
 (hs : (assignEach (e :: es) X.env).map (·.2) = assign e X.env :: (assignEach es X.env).map (·.2) := by rfl) : PGs X (e :: es) (gCons t u) := by
 intro pins s σ H vs us Q I r h
 obtain ⟨v, vr, e1, h⟩ := h
 subst e1
 cases r with
 | cons r rr =>
  rw [hs]
  refine assignInOrder_cons (thn (h1 pins s σ H _ _ _ I r h) fun _ s1 ⟨σ1, H1, I1, q1⟩ => ?_)
  exact h2 pins s1 σ1 H1 _ _ Q I1 rr q1
def gTup (K : PySem.W.Frag) (n : Nat) (t : TGs) : TG := fun v σ H Q => ∃ a xs, v = .ref a ∧ SqT K H a xs ∧ xs.length = n ∧ t xs σ H Q
theorem pg_tup {es : List Expr} {k : Nat} {t : TGs} {n : Nat} (hc : X.calm = true) (h : PGs X es t)
 (hn : (assignEach es X.env).length = n := by rfl) (hst : (assignEach es X.env).findIdx? (·.1) = none := by rfl) : PG X (.Tuple es k pos) (gTup X.K n t) := by
 intro pins s σ H v u Q I r hw
 obtain ⟨a, xs, e1, hq, hl, hw⟩ := hw
 subst e1
 cases r
 obtain ⟨its, rv, ht, hz⟩ := I.tuple hq
 refine assign_Tuple_tuple (I.ok.hd hc) ht (by simp [hn, ← hl, rv.length]) hst fun h' hx => ?_
 have I1 : Inv X pins σ H { s with heap := h' } := I.kept (t' := s.toks) fun b o e => hx b o (Nat.ne_of_lt (Heap.lt_size e)) e
 exact h pins _ σ H xs _ Q I1 (by simpa using rv) hw
def gSub (to ti : TE) (t : TSet) : TG := fun v σ H Q => to σ H fun o H1 => ti σ H1 fun i H2 => t o i v H2 fun H3 => Q σ H3
theorem pg_sub {o i : Expr} {to ti : TE} {t : TSet} (ho : PE X o to) (hi : PE X i ti) (hs : PSet X t)
 (ha : ∀ v, assign (.Subscript o i pos) X.env v = (do
  let ov ← holding [v] (eval o X.env)
  let iv ← holding [v, ov] (eval i X.env)
  standAt pos
  holding [v, ov, iv] (setItem ov iv v)
  release [v, ov, iv] []) := by intro _; rfl) : PG X (.Subscript o i pos) (gSub to ti t) := by
 intro pins s σ H v u Q I r h
 rw [ha]
 refine wpAny_bind (wpAny_holding (thn (ho pins s σ H _ I h) fun ov s1 ⟨x, H1, I1, r1, q1⟩ => ?_))
 refine wpAny_bind (wpAny_holding (thn (hi pins s1 σ H1 _ I1 q1) fun iv s2 ⟨y, H2, I2, r2, q2⟩ => ?_))
 refine wpAny_bind (wpAny_standAt (wpAny_bind (wpAny_holding (thn (hs pins s2 σ H2 x y v ov iv u _ I2 r1 r2 r q2) fun _ s3 ⟨H3, I3, q3⟩ => ?_))))
 exact wpAny_release ⟨σ, H3, I3, q3⟩
def tAsg (te : TE) (g : TG) : TS := fun D σ H => te σ H fun x H1 => g x σ H1 D.nx
theorem ps_asg {tg e : Expr} {te : TE} {g : TG} (he : PE X e te) (hg : PG X tg g) (hs : swapsWithSole [tg] e pos.line X.env = pure false := by rfl) (hw : swappedStores [tg] e X.env = pure none := by rfl)
 (h1 : (assignEach [tg] X.env).map (·.2) = [assign tg X.env] := by rfl) : PS X (.Assign [tg] e pos) (tAsg te g) := by
 intro pins s σ H D I h
 refine wpAny_Assign_stores (thn (he pins s σ H _ I h) fun v s1 ⟨x, H1, I1, r1, q1⟩ => ?_) hs hw
 rw [h1]
 exact thn (hg pins s1 σ H1 x v _ I1 r1 q1) fun _ s2 q => q
theorem ps_set {i : Nat} {x : Str} {e : Expr} {te : TE} {pos' : Pos} (hN : X.N.Nodup) (hi : X.N[i]? = some x) (hx : Loc X.env.scope x) (he : PE X e te) (hs : swapsWith e (some (.Name x pos')) pos.line X.env = pure false := by rfl) (hf : X.fn x = true ∨ X.env.scope.names.lookup x = some .local := by first | exact .inl rfl | exact .inr rfl | assumption) :
 PS X (.Assign [.Name x pos'] e pos) (tAsg te (gName i)) := by
 intro pins s σ H D I h
 refine wpAny_Assign_Name (thn (he pins s σ H _ I h) fun v s1 ⟨y, H1, I1, r1, q1⟩ => ?_) hs
 exact store_ok I1 hN hi hx r1 (fun s2 I2 => ⟨_, H1, I2, q1⟩) hf
end
structure It where
 go : Nat → Hp → Prop
 yld : Nat → Hp → V → Hp → Prop
 stop : Nat → Hp → Prop
def FpOk (X : Cx) (pins : List (Addr × Obj)) (H : Hp) (b : Addr) : Prop :=
 H b = none ∧ b ≠ X.env.locals ∧ b ∉ X.fs ∧ (b ∈ X.ex ∨ X.s₀.heap.objs.size ≤ b) ∧ (∀ x c, X.env.cells.lookup x = some c → c ≠ b) ∧ ∀ p ∈ X.pn ++ pins, p.1 ≠ b
theorem Inv.fpOk {X : Cx} {pins : List (Addr × Obj)} {σ : St} {H H' : Hp} {s : Shared} {b : Addr} (I : Inv X pins σ H s) (hb : s.heap.objs.size ≤ b) (hn : H' b = none) : FpOk X pins H' b := by
 refine ⟨hn, Nat.ne_of_gt (Nat.lt_of_lt_of_le I.lt hb), I.nofs hb, .inr (Nat.le_trans I.sz hb), fun x c e z => ?_, fun p hp z => ?_⟩
 · obtain ⟨v, q⟩ := I.cell x c e
   exact absurd (Nat.lt_of_lt_of_le q.lt (by rw [z]; exact hb)) (Nat.lt_irrefl _)
 · exact absurd (Nat.lt_of_lt_of_le (Heap.lt_size (I.pin p hp).1) (by rw [z]; exact hb)) (Nat.lt_irrefl _)
structure Turn (P : Program) (w : World) (K : PySem.W.Frag) (tg : Expr) (J : It) (fp : List Addr) (it : Addr) (tn : Nat → Heap → Prop) : Prop where
 mem : it ∈ fp
 obj : ∀ i h, tn i h → ∀ b ∈ fp, ∃ o, h.get? b = some o ∧ ∀ v, o.data ≠ .cell v
 keep : ∀ i h h', tn i h → (∀ b ∈ fp, ∀ o, h.get? b = some o → h'.get? b = some o) → tn i h'
 item : ∀ (X : Cx), X.prog = P → X.w = w → X.K = K → X.calm = true → ∀ (i : Nat) (pins : List (Addr × Obj)) (s : Shared) (σ : St) (H : Hp) (E : Value → Shared → Prop), Inv X pins σ H s → (∀ b ∈ fp, FpOk X pins H b) → tn i s.heap → J.go i H →
  wpAny (model P w) X.A (pyNext (.ref it)) (fun r s1 => ∃ u, r = some u ∧
   wpAny (model P w) X.A (letOwnedTupleGo tg (.ref it) u) (fun _ s2 => ∃ x H', Inv X pins σ H' s2 ∧ RelV x u ∧ J.yld i H x H' ∧ tn (i + 1) s2.heap ∧ ∀ b ∈ fp, H' b = none) E s1) E s
 done : ∀ (X : Cx), X.prog = P → X.w = w → X.K = K → X.calm = true → ∀ (i : Nat) (pins : List (Addr × Obj)) (s : Shared) (σ : St) (H : Hp) (E : Value → Shared → Prop), Inv X pins σ H s → (∀ b ∈ fp, FpOk X pins H b) → tn i s.heap → J.stop i H →
  wpAny (model P w) X.A (pyNext (.ref it)) (fun r s1 => r = none ∧ Inv X pins σ H s1) E s
 self : ∀ (A : Around) (i : Nat) (s : Shared) (Q : Value → Shared → Prop) (E : Value → Shared → Prop), tn i s.heap → Q (.ref it) s → wpAny (model P w) A (pyIter (.ref it)) Q E s
abbrev TI := St → Hp → (It → Hp → Prop) → Prop
def PIE (X : Cx) (pins : List (Addr × Obj)) (σ : St) (tg : Expr) (R : It → Hp → Prop) (itv : Value) (s2 : Shared) : Prop :=
 ∃ (it : Addr) (fp : List Addr) (tn : Nat → Heap → Prop) (J : It) (H' : Hp), itv = .ref it ∧ Inv X pins σ H' s2 ∧ Turn X.prog X.w X.K tg J fp it tn ∧ tn 0 s2.heap ∧ (∀ b ∈ fp, FpOk X pins H' b) ∧ R J H'
def PI (X : Cx) (tg iter : Expr) (wi : TI) : Prop :=
 ∀ (pins : List (Addr × Obj)) (s : Shared) (σ : St) (H : Hp) (R : It → Hp → Prop), Inv X pins σ H s → wi σ H R →
  wpAny (model X.prog X.w) X.A (eval iter X.env) (fun v s1 => wpAny (model X.prog X.w) X.A (pyIter v) (PIE X pins σ tg R) X.xe s1) X.xe s
theorem go_of {M : Model} {A : Around} {E : Value → Shared → Prop} {s : Shared} {tg : Expr} {it : Addr} {u : Value} {o : Obj} {n : String} {vs : Array Value} {Q : Unit → Shared → Prop} (ho : s.heap.get? it = some o) (hc : o.cls = .type n) (hd : o.data = .fields vs)
 (hn : ["enumerate", "zip", "dict_itemiterator", "dict_reverseitemiterator", "odict_iterator", "itertools.zip_longest", "itertools.pairwise"].contains n = false) (hQ : Q () s) : wpAny M A (letOwnedTupleGo tg (.ref it) u) Q E s := by
 unfold letOwnedTupleGo
 cases tg <;> first
  | exact wpAny_pure hQ
  | (cases u <;> first
   | exact wpAny_pure hQ
   | (refine wpAny_bind (wpAny_load ho ?_)
      rw [hc, hd]
      show wpAny M A (if (["enumerate", "zip", "dict_itemiterator", "dict_reverseitemiterator", "odict_iterator", "itertools.zip_longest", "itertools.pairwise"].contains n && vs[0]? == some (rawInt _)) = true then _ else _) Q E s
      rw [if_neg (by intro h; rw [hn, Bool.false_and] at h; cases h)]
      exact wpAny_pure hQ))
def Itl (K : PySem.W.Frag) (a : Addr) : It :=
 ⟨fun i H => ∃ xs x, SqL K H a xs ∧ xs[i]? = some x, fun i H x H' => H' = H ∧ ∀ xs, SqL K H a xs → xs[i]? = some x, fun i H => ∃ xs, SqL K H a xs ∧ xs.length ≤ i⟩
def Itt (K : PySem.W.Frag) (a : Addr) : It :=
 ⟨fun i H => ∃ xs x, SqT K H a xs ∧ xs[i]? = some x, fun i H x H' => H' = H ∧ ∀ xs, SqT K H a xs → xs[i]? = some x, fun i H => ∃ xs, SqT K H a xs ∧ xs.length ≤ i⟩
def Itr (lo : Int) (n : Nat) : It := ⟨fun i _ => i < n, fun i H x H' => H' = H ∧ x = .int (lo + i), fun i _ => n ≤ i⟩
theorem turn_list {P : Program} {w : World} {K : PySem.W.Frag} {tg : Expr} (a it : Addr) : Turn P w K tg (Itl K a) [it] it (fun i h => h.IsListIter it a i) where
 mem := by simp
 obj := fun i h st b hb => by
  have e : b = it := by simpa using hb
  subst e
  obtain ⟨o, e, c, d⟩ := st
  exact ⟨o, e, fun v z => by rw [d] at z; cases z⟩
 keep := fun i h h' st k => st.at fun o e => k it (by simp) o e
 item := by
  intro X hP hw hK hc i pins s σ H E I hf st hg
  subst hP hw hK
  obtain ⟨xs, x, hq, hx⟩ := hg
  obtain ⟨its, rv, p, hz⟩ := I.list hq
  obtain ⟨u, hu, ru⟩ := rv.get hx
  obtain ⟨f0, f1, f2, f3, f4, f5⟩ := hf it (by simp)
  refine wpAny_pyNext_list_item st p.isList (x := u) (by simpa using hu) fun h' st' sb => ?_
  have I1 : Inv X pins σ H { s with heap := h' } := I.turned (t' := s.toks) (fun b o hb e => (sb.2 b hb).trans e) f0 f1 f3 f4 f5
  obtain ⟨o, e, c, d⟩ := id st'
  exact ⟨u, rfl, go_of (s := { s with heap := h' }) e c d (by decide) ⟨x, H, I1, ru, ⟨rfl, fun ys hy => by rw [I.list_inj hy hq]; exact hx⟩, st', fun b hb => (hf b hb).1⟩⟩
 done := by
  intro X hP hw hK hc i pins s σ H E I hf st hg
  subst hP hw hK
  obtain ⟨xs, hq, hx⟩ := hg
  obtain ⟨its, rv, p, hz⟩ := I.list hq
  obtain ⟨f0, f1, f2, f3, f4, f5⟩ := hf it (by simp)
  have hl := rv.length
  exact wpAny_pyNext_list_end (I.ok.hd hc) st p.isList (by simp; omega) fun h' eb => ⟨rfl, I.turned (t' := s.toks) (fun b o hb e => eb b o hb e) f0 f1 f3 f4 f5⟩
 self := fun _ _ _ _ _ st h => wpAny_pyIter_listiter st h
theorem turn_tuple {P : Program} {w : World} {K : PySem.W.Frag} {tg : Expr} (a it : Addr) : Turn P w K tg (Itt K a) [it] it (fun i h => h.IsTupleIter it a i) where
 mem := by simp
 obj := fun i h st b hb => by
  have e : b = it := by simpa using hb
  subst e
  obtain ⟨o, e, c, d⟩ := st
  exact ⟨o, e, fun v z => by rw [d] at z; cases z⟩
 keep := fun i h h' st k => st.at fun o e => k it (by simp) o e
 item := by
  intro X hP hw hK hc i pins s σ H E I hf st hg
  subst hP hw hK
  obtain ⟨xs, x, hq, hx⟩ := hg
  obtain ⟨its, rv, p, hz⟩ := I.tuple hq
  obtain ⟨u, hu, ru⟩ := rv.get hx
  obtain ⟨f0, f1, f2, f3, f4, f5⟩ := hf it (by simp)
  refine wpAny_pyNext_tuple_item st (show s.heap.IsTuple a its.toArray from p) (x := u) (by simpa using hu) fun h' st' sb => ?_
  have I1 : Inv X pins σ H { s with heap := h' } := I.turned (t' := s.toks) (fun b o hb e => (sb.2 b hb).trans e) f0 f1 f3 f4 f5
  obtain ⟨o, e, c, d⟩ := id st'
  exact ⟨u, rfl, go_of (s := { s with heap := h' }) e c d (by decide) ⟨x, H, I1, ru, ⟨rfl, fun ys hy => by rw [I.tuple_inj hy hq]; exact hx⟩, st', fun b hb => (hf b hb).1⟩⟩
 done := by
  intro X hP hw hK hc i pins s σ H E I hf st hg
  subst hP hw hK
  obtain ⟨xs, hq, hx⟩ := hg
  obtain ⟨its, rv, p, hz⟩ := I.tuple hq
  obtain ⟨f0, f1, f2, f3, f4, f5⟩ := hf it (by simp)
  have hl := rv.length
  exact wpAny_pyNext_tuple_end (I.ok.hd hc) st (show s.heap.IsTuple a its.toArray from p) (by simp; omega) fun h' eb => ⟨rfl, I.turned (t' := s.toks) (fun b o hb e => eb b o hb e) f0 f1 f3 f4 f5⟩
 self := fun _ _ _ _ _ st h => wpAny_pyIter_tupleiter st h
theorem turn_range {P : Program} {w : World} {K : PySem.W.Frag} {tg : Expr} (it : Addr) (lo : Int) (n : Nat) : Turn P w K tg (Itr lo n) [it] it (fun i h => IsRangeIter h it (lo + (i : Nat) * 1) ((n : Int) - (i : Nat)) 1) where
 mem := by simp
 obj := fun i h st b hb => by
  have e : b = it := by simpa using hb
  subst e
  exact ⟨_, st, fun v z => by
   have z' : Data.fields _ = Data.cell v := z
   cases z'⟩
 keep := fun i h h' st k => k it (by simp) _ st
 item := by
  intro X hP hw hK hc i pins s σ H E I hf st hg
  subst hP hw hK
  obtain ⟨f0, f1, f2, f3, f4, f5⟩ := hf it (by simp)
  have W := Walks.range (prog := X.prog) (w := X.w) (I.ok.hd hc) it lo 1 n
  refine W.item i s _ _ hg st fun v h' tk hv st' kk => ?_
  obtain ⟨t, rfl⟩ := hv
  have I1 : Inv X pins σ H { s with heap := h', toks := tk } := I.turned (fun b o hb e => kk b o (by simpa using hb) e) f0 f1 f3 f4 f5
  refine ⟨_, rfl, go_of (s := { s with heap := h', toks := tk }) (n := "range_iterator") st' rfl rfl (by decide) ⟨.int (lo + i), H, I1, ⟨t, ?_⟩, ⟨rfl, rfl⟩, st', fun b hb => (hf b hb).1⟩⟩
  rw [Int.mul_one]
 done := by
  intro X hP hw hK hc i pins s σ H E I hf st hg
  subst hP hw hK
  obtain ⟨f0, f1, f2, f3, f4, f5⟩ := hf it (by simp)
  exact wpAny_pyNext_range_end (I.ok.hd hc) st (by have : n ≤ i := hg; omega) fun h' eb => ⟨rfl, I.turned (t' := s.toks) (fun b o hb e => eb b o hb e) f0 f1 f3 f4 f5⟩
 self := fun _ _ _ _ _ st h => wpAny_pyIter_rangeiter st h
section
variable {X : Cx} {tg : Expr}
theorem range_it {pins : List (Addr × Obj)} {σ : St} {H : Hp} {s : Shared} {R : It → Hp → Prop} {E : Value → Shared → Prop} {lo hi : Int} {t u v : Tok} {tk : Nat} (I : Inv X pins σ H s) (h1 : -(2 ^ 62) ≤ lo) (h2 : lo < 2 ^ 62) (h3 : -(2 ^ 62) ≤ hi) (h4 : hi < 2 ^ 62)
 (q : R (Itr lo (hi - lo).toNat) H) : wpAny (model X.prog X.w) X.A (pyIter (.ref s.heap.objs.size)) (PIE X pins σ tg R) E { s with heap := s.heap.push { cls := .type "range", data := .fields #[.int lo t, .int hi u, .int 1 v] }, toks := tk } := by
 refine wpAny_pyIter_range (IsRange.new ..) (small_one h1 h2 h3 h4) ?_
 have I1 : Inv X pins σ H { s with heap := s.heap.push { cls := .type "range", data := .fields #[.int lo t, .int hi u, .int 1 v] }, toks := tk } := I.kept fun b o e => Heap.get?_push_of_some _ e
 refine ⟨(s.heap.push { cls := .type "range", data := .fields #[.int lo t, .int hi u, .int 1 v] }).objs.size, [(s.heap.push { cls := .type "range", data := .fields #[.int lo t, .int hi u, .int 1 v] }).objs.size], _, _, H, rfl,
  I1.kept (t' := tk) fun b o e => Heap.get?_push_of_some _ e, turn_range _ lo (hi - lo).toNat, ?_, fun b hb => ?_, q⟩
 · have e1 : lo + ((0 : Nat) : Int) * 1 = lo := by simp
   have e2 : (((hi - lo).toNat : Nat) : Int) - ((0 : Nat) : Int) = Builtin.Range.rangeSize lo hi 1 := by rw [rangeSize_one]; split <;> omega
   show IsRangeIter _ _ (lo + ((0 : Nat) : Int) * 1) ((((hi - lo).toNat : Nat) : Int) - ((0 : Nat) : Int)) 1
   rw [e1, e2]
   exact Heap.get?_push_size _ rfl
 · have e : b = (s.heap.push { cls := .type "range", data := .fields #[.int lo t, .int hi u, .int 1 v] }).objs.size := by simpa using hb
   subst e
   exact I1.fpOk (Nat.le_refl _) (I1.hok.fresh (Nat.le_refl _))
def iRng1 (ta : TA) : TI := fun σ H R => ta σ H fun vs H1 => ∃ j : Int, vs = [.int j] ∧ -(2 ^ 62) ≤ j ∧ j < 2 ^ 62 ∧ R (Itr 0 j.toNat) H1
theorem pi_range1 {a : Expr} {ta : TA} {p pos : Pos} (hg : Gl X "range") (hm : X.mg "range" = none) (ha : PA X [a] ta) (hs : starEach [a] X.env = [(false, eval a X.env)] := by rfl) : PI X tg (.Call (.Name "range" p) [a] [] pos) (iRng1 ta) := by
 intro pins s σ H R I h
 refine Call_ (ld_blt I hg hm boot_range (PyProof.Rows.callWith_type1 (thn (ha pos pins s σ H _ I h) fun us s1 ⟨vs, H1, I1, r1, q1⟩ => ?_) hs rfl))
 obtain ⟨j, e, q1, q2, q⟩ := q1
 subst e
 cases r1 with
 | cons r rr =>
  cases rr
  obtain ⟨t, rfl⟩ := r
  exact call_range_1 (range_it I1 (by omega) (by omega) q1 q2 (by simpa using q))
def tFor (wi : TI) (g : TG) (tb : TS) : TS := fun D σ H => wi σ H fun J H1 => ∃ W : Nat → Nat → St → Hp → Prop, (∃ m, W 0 m σ H1) ∧ ∀ i m σ H, W i m σ H →
 (J.stop i H ∧ D.nx σ H) ∨ (J.go i H ∧ ∃ N : St → Hp → Prop, (∀ σ' H', N σ' H' → ∃ m', m' < m ∧ W (i + 1) m' σ' H') ∧ ∀ x H', J.yld i H x H' → g x σ H' fun σ2 H2 => tb { D with nx := N, ct := N, bk := D.nx } σ2 H2)
def pinsAt (fp : List Addr) (h : Heap) : List (Addr × Obj) := fp.filterMap fun b => (h.get? b).map fun o => (b, o)
theorem mem_pinsAt {fp : List Addr} {h : Heap} {b : Addr} {o : Obj} (hb : b ∈ fp) (e : h.get? b = some o) : (b, o) ∈ pinsAt fp h := List.mem_filterMap.mpr ⟨b, hb, by rw [e]; rfl⟩
theorem of_pinsAt {fp : List Addr} {h : Heap} {p : Addr × Obj} (hp : p ∈ pinsAt fp h) : p.1 ∈ fp ∧ h.get? p.1 = some p.2 := by
 obtain ⟨b, hb, e⟩ := List.mem_filterMap.mp hp
 cases q : h.get? b with
 | none => rw [q] at e; cases e
 | some o =>
  rw [q] at e
  have e' : (b, o) = p := Option.some.inj e
  subst e'
  exact ⟨hb, q⟩
theorem Inv.pinned {pins : List (Addr × Obj)} {σ : St} {H : Hp} {s : Shared} {fp : List Addr} (I : Inv X pins σ H s) (hf : ∀ b ∈ fp, FpOk X pins H b) (ho : ∀ b ∈ fp, ∃ o, s.heap.get? b = some o ∧ ∀ v, o.data ≠ .cell v) : Inv X (pins ++ pinsAt fp s.heap) σ H s :=
 I.pins_of fun p hp => (List.mem_append.mp hp).elim (fun z => I.pin p (List.mem_append_right _ z)) fun z => by
  obtain ⟨hb, e⟩ := of_pinsAt z
  obtain ⟨f0, f1, f2, _⟩ := hf p.1 hb
  obtain ⟨o, e', d⟩ := ho p.1 hb
  rw [e] at e'; cases e'
  exact ⟨e, f0, f1, f2, d⟩
theorem Inv.unpinned {pins pl : List (Addr × Obj)} {σ : St} {H : Hp} {s : Shared} (I : Inv X (pins ++ pl) σ H s) : Inv X pins σ H s := I.pins_of fun p hp => I.pin p (List.mem_append_right _ (List.mem_append_left _ hp))
theorem ps_for {iter : Expr} {body : List Stmt} {wi : TI} {g : TG} {tb : TS} {pos : Pos} (hp : PassesOwn (model X.prog X.w) X.A X.env X.xe) (hc : X.calm = true) (hi : PI X tg iter wi) (hg : PG X tg g) (hb : PSs X body tb)
 (hs : ∀ x, foldedSetIterable iter X.env x = pure x := by intro _; rfl) : PS X (.For tg iter body [] pos) (tFor wi g tb) := by
 intro pins s σ H D I h
 refine wpAny_For (thn (hi pins s σ H _ I h) fun v s1 h1 => thn h1 fun itv s2 h2 => ?_) hs
 obtain ⟨it, fp, tn, J, H2, e, I2, T, st2, f2, W, ⟨m0, w0⟩, turn⟩ := h2
 subst e
 -- what stays true of the iterator's objects through the loop
 have stat : ∀ {H' : Hp}, (∀ b ∈ fp, H' b = none) → ∀ b ∈ fp, FpOk X pins H' b := fun hn b hb => ⟨hn b hb, (f2 b hb).2⟩
 refine codeAny_forLoop_any (fun n s' => ∃ i σ' H', Inv X pins σ' H' s' ∧ tn i s'.heap ∧ (∀ b ∈ fp, H' b = none) ∧ W i n σ' H') ?_ m0 ⟨0, σ, H2, I2, st2, fun b hb => (f2 b hb).1, w0⟩
 rintro n s3 ⟨i, σ3, H3, I3, st3, fr3, w3⟩
 rcases turn i n σ3 H3 w3 with ⟨stop, qn⟩ | ⟨go, N, hN, step⟩
 · refine wpAny_passesOwn hp (thn (T.done X rfl rfl rfl hc i pins s3 σ3 H3 X.xe I3 (stat fr3) st3 stop) fun r s4 ⟨hr, I4⟩ => ?_)
   subst hr
   exact wpAny_execs_nil ⟨σ3, H3, I4, qn⟩
 · refine wpAny_passesOwn hp (thn (T.item X rfl rfl rfl hc i pins s3 σ3 H3 X.xe I3 (stat fr3) st3 go) fun r s4 ⟨u, hr, h4⟩ => ?_)
   subst hr
   refine wpAny_passesOwn hp (thn h4 fun _ s5 ⟨x, H5, I5, r5, y5, st5, fr5⟩ => ?_)
   have I5' := I5.pinned (stat fr5) (T.obj _ _ st5)
   refine wpAny_passesOwn hp (thn (hg _ s5 σ3 H5 x u _ I5' r5 (step x H5 y5)) fun _ s6 ⟨σ6, H6, I6, q6⟩ => ?_)
   refine wpAny_passesOwn hp (thn (hb _ s6 σ6 H6 _ I6 q6) fun f s7 q7 => ?_)
   have again : ∀ {σ7 : St} {H7 : Hp}, Inv X (pins ++ pinsAt fp s5.heap) σ7 H7 s7 → N σ7 H7 → ∃ m, m < n ∧ ∃ i σ' H', Inv X pins σ' H' s7 ∧ tn i s7.heap ∧ (∀ b ∈ fp, H' b = none) ∧ W i m σ' H' := fun {σ7 H7} I7 n7 => by
    obtain ⟨m', hm, w7⟩ := hN σ7 H7 n7
    refine ⟨m', hm, i + 1, σ7, H7, I7.unpinned, T.keep _ _ _ st5 fun b hb o e => (I7.pin (b, o) (List.mem_append_right _ (List.mem_append_right _ (mem_pinsAt hb e)))).1, fun b hb => ?_, w7⟩
    obtain ⟨o, e, d⟩ := T.obj _ _ st5 b hb
    exact (I7.pin (b, o) (List.mem_append_right _ (List.mem_append_right _ (mem_pinsAt hb e)))).2.1
   cases f with
   | next => obtain ⟨σ7, H7, I7, n7⟩ := q7; exact again I7 n7
   | cont => obtain ⟨σ7, H7, I7, n7⟩ := q7; exact again I7 n7
   | brk => obtain ⟨σ7, H7, I7, q7⟩ := q7; exact ⟨σ7, H7, I7.unpinned, q7⟩
   | ret v => obtain ⟨x7, σ7, H7, I7, r7, q7⟩ := q7; exact ⟨x7, σ7, H7, I7.unpinned, r7, q7⟩
end
theorem for_list {K : PySem.W.Frag} {a : Addr} {xs : List V} {g : TG} {tb : TS} {D : Ends} {σ : St} {H : Hp} (Pv : Nat → St → Hp → Prop) (h0 : Pv 0 σ H) (hl : ∀ i σ H, i ≤ xs.length → Pv i σ H → SqL K H a xs)
 (hs : ∀ i x σ H, xs[i]? = some x → Pv i σ H → g x σ H fun σ2 H2 => tb { D with nx := Pv (i + 1), ct := Pv (i + 1), bk := D.nx } σ2 H2) (hd : ∀ σ H, Pv xs.length σ H → D.nx σ H) :
 ∃ W : Nat → Nat → St → Hp → Prop, (∃ m, W 0 m σ H) ∧ ∀ i m σ H, W i m σ H →
  ((Itl K a).stop i H ∧ D.nx σ H) ∨ ((Itl K a).go i H ∧ ∃ N : St → Hp → Prop, (∀ σ' H', N σ' H' → ∃ m', m' < m ∧ W (i + 1) m' σ' H') ∧ ∀ x H', (Itl K a).yld i H x H' → g x σ H' fun σ2 H2 => tb { D with nx := N, ct := N, bk := D.nx } σ2 H2) := by
 refine ⟨fun i m σ H => m = xs.length - i ∧ i ≤ xs.length ∧ Pv i σ H, ⟨xs.length, by simp, Nat.zero_le _, h0⟩, ?_⟩
 rintro i m σ H ⟨rfl, hi, p⟩
 have q := hl i σ H hi p
 by_cases hlt : i < xs.length
 · refine .inr ⟨⟨xs, xs[i], q, by simp [hlt]⟩, Pv (i + 1), fun σ' H' p' => ⟨xs.length - (i + 1), by omega, rfl, hlt, p'⟩, fun x H' y => ?_⟩
   obtain ⟨e, y⟩ := y
   subst e
   exact hs i x σ _ (y xs q) p
 · have e : i = xs.length := by omega
   subst e
   exact .inl ⟨⟨xs, q, Nat.le_refl _⟩, hd σ H p⟩
theorem for_tup {K : PySem.W.Frag} {a : Addr} {xs : List V} {g : TG} {tb : TS} {D : Ends} {σ : St} {H : Hp} (Pv : Nat → St → Hp → Prop) (h0 : Pv 0 σ H) (hl : ∀ i σ H, i ≤ xs.length → Pv i σ H → SqT K H a xs)
 (hs : ∀ i x σ H, xs[i]? = some x → Pv i σ H → g x σ H fun σ2 H2 => tb { D with nx := Pv (i + 1), ct := Pv (i + 1), bk := D.nx } σ2 H2) (hd : ∀ σ H, Pv xs.length σ H → D.nx σ H) :
 ∃ W : Nat → Nat → St → Hp → Prop, (∃ m, W 0 m σ H) ∧ ∀ i m σ H, W i m σ H →
  ((Itt K a).stop i H ∧ D.nx σ H) ∨ ((Itt K a).go i H ∧ ∃ N : St → Hp → Prop, (∀ σ' H', N σ' H' → ∃ m', m' < m ∧ W (i + 1) m' σ' H') ∧ ∀ x H', (Itt K a).yld i H x H' → g x σ H' fun σ2 H2 => tb { D with nx := N, ct := N, bk := D.nx } σ2 H2) := by
 refine ⟨fun i m σ H => m = xs.length - i ∧ i ≤ xs.length ∧ Pv i σ H, ⟨xs.length, by simp, Nat.zero_le _, h0⟩, ?_⟩
 rintro i m σ H ⟨rfl, hi, p⟩
 have q := hl i σ H hi p
 by_cases hlt : i < xs.length
 · refine .inr ⟨⟨xs, xs[i], q, by simp [hlt]⟩, Pv (i + 1), fun σ' H' p' => ⟨xs.length - (i + 1), by omega, rfl, hlt, p'⟩, fun x H' y => ?_⟩
   obtain ⟨e, y⟩ := y
   subst e
   exact hs i x σ _ (y xs q) p
 · have e : i = xs.length := by omega
   subst e
   exact .inl ⟨⟨xs, q, Nat.le_refl _⟩, hd σ H p⟩
theorem for_range {lo : Int} {n : Nat} {g : TG} {tb : TS} {D : Ends} {σ : St} {H : Hp} (Pv : Nat → St → Hp → Prop) (h0 : Pv 0 σ H)
 (hs : ∀ i σ H, i < n → Pv i σ H → g (.int (lo + i)) σ H fun σ2 H2 => tb { D with nx := Pv (i + 1), ct := Pv (i + 1), bk := D.nx } σ2 H2) (hd : ∀ σ H, Pv n σ H → D.nx σ H) :
 ∃ W : Nat → Nat → St → Hp → Prop, (∃ m, W 0 m σ H) ∧ ∀ i m σ H, W i m σ H →
  ((Itr lo n).stop i H ∧ D.nx σ H) ∨ ((Itr lo n).go i H ∧ ∃ N : St → Hp → Prop, (∀ σ' H', N σ' H' → ∃ m', m' < m ∧ W (i + 1) m' σ' H') ∧ ∀ x H', (Itr lo n).yld i H x H' → g x σ H' fun σ2 H2 => tb { D with nx := N, ct := N, bk := D.nx } σ2 H2) := by
 refine ⟨fun i m σ H => m = n - i ∧ i ≤ n ∧ Pv i σ H, ⟨n, by simp, Nat.zero_le _, h0⟩, ?_⟩
 rintro i m σ H ⟨rfl, hi, p⟩
 by_cases hlt : i < n
 · refine .inr ⟨hlt, Pv (i + 1), fun σ' H' p' => ⟨n - (i + 1), by omega, rfl, hlt, p'⟩, fun x H' y => ?_⟩
   obtain ⟨e, y⟩ := y
   subst e y
   exact hs i σ _ hlt p
 · have e : i = n := by omega
   subst e
   exact .inl ⟨Nat.le_refl _, hd σ H p⟩
abbrev R2 := V → V → Hp → VK → Prop
def OpR (X : Cx) (f : Value → Value → Sem Value) (r : R2) : Prop :=
 ∀ (pins : List (Addr × Obj)) (s : Shared) (σ : St) (H : Hp) (x y : V) (v u : Value) (Q : VK), Inv X pins σ H s → RelV x v → RelV y u → r x y H Q →
  wpAny (model X.prog X.w) X.A (f v u) (EP X pins σ Q) X.xe s
def UnR (X : Cx) (f : Value → Sem Value) (r : V → Hp → VK → Prop) : Prop :=
 ∀ (pins : List (Addr × Obj)) (s : Shared) (σ : St) (H : Hp) (x : V) (v : Value) (Q : VK), Inv X pins σ H s → RelV x v → r x H Q →
  wpAny (model X.prog X.w) X.A (f v) (EP X pins σ Q) X.xe s
def CallR (X : Cx) (f : Value) (r : List V → Hp → VK → Prop) : Prop :=
 ∀ (pins : List (Addr × Obj)) (s : Shared) (σ : St) (H : Hp) (xs : List V) (us : List Value) (Q : VK), Inv X pins σ H s → Vals xs us → r xs H Q →
  wpAny (model X.prog X.w) X.A (call f us) (EP X pins σ Q) X.xe s
def tOp (r : R2) (ta tb : TE) : TE := fun σ H Q => ta σ H fun x H1 => tb σ H1 fun y H2 => r x y H2 Q
def tUn (r : V → Hp → VK → Prop) (ta : TE) : TE := fun σ H Q => ta σ H fun x H1 => r x H1 Q
def rI (C : Int → Int → Prop) (g : Int → Int → V) : R2 := fun x y H Q => ∃ i j, x = .int i ∧ y = .int j ∧ C i j ∧ Q (g i j) H
def rI0 (g : Int → Int → V) : R2 := fun x y H Q => ∃ i j, x = .int i ∧ y = .int j ∧ Q (g i j) H
def rU (g : Int → V) : V → Hp → VK → Prop := fun x H Q => ∃ i, x = .int i ∧ Q (g i) H
section
variable {X : Cx} {a b c : Expr} {ta tb tc : TE} {pos : Pos}
theorem binT (ha : PE X a ta) (hb : PE X b tb) {pins : List (Addr × Obj)} {s : Shared} {σ : St} {H : Hp} {R : V → V → Hp → Prop} (I : Inv X pins σ H s)
 (h : ta σ H fun x H1 => tb σ H1 fun y H2 => R x y H2) {Q : Value → Shared → Prop} {f : Value → Value → Sem Value}
 (hf : ∀ v u s2 x y H2, Inv X pins σ H2 s2 → RelV x v → RelV y u → R x y H2 → wpAny (model X.prog X.w) X.A (f v u) Q X.xe s2) :
 wpAny (model X.prog X.w) X.A (eval a X.env) (fun v s₁ => wpAny (model X.prog X.w) X.A (eval b X.env) (fun u s₂ => wpAny (model X.prog X.w) X.A (f v u) Q X.xe s₂) X.xe s₁) X.xe s := by
 refine thn (ha pins s σ H _ I h) fun v s1 ⟨x, H1, I1, r1, q1⟩ => ?_
 refine thn (hb pins s1 σ H1 _ I1 q1) fun u s2 ⟨y, H2, I2, r2, q2⟩ => ?_
 exact hf v u s2 x y H2 I2 r1 r2 q2
theorem pe_op {op : Operator} {r : R2} (ho : OpR X (binaryOp op) r) (ha : PE X a ta) (hb : PE X b tb) : PE X (.BinOp a op b pos) (tOp r ta tb) := by
 intro pins s σ H Q I h
 exact wpAny_BinOp (binT ha hb I h fun v u s2 x y H2 I2 rx ry q => ho pins s2 σ H2 x y v u Q I2 rx ry q)
theorem pe_un {op : UnaryOp} {r : V → Hp → VK → Prop} (ho : UnR X (unaryOp op) r) (ha : PE X a ta) : PE X (.UnaryOp op a pos) (tUn r ta) := by
 intro pins s σ H Q I h
 exact UnaryOp_ (thn (ha pins s σ H _ I h) fun v s1 ⟨x, H1, I1, r1, q1⟩ => ho pins s1 σ H1 x v Q I1 r1 q1)
theorem opI {f : Value → Value → Sem Value} {C : Int → Int → Prop} {g : Int → Int → Int}
 (rule : ∀ (i j : Int) (t u : Tok) (s : Shared) (Q : Value → Shared → Prop) (E : Value → Shared → Prop), C i j → Q (.int (g i j) s.toks) { s with toks := s.toks + 1 } → wpAny (model X.prog X.w) X.A (f (.int i t) (.int j u)) Q E s) :
 OpR X f (rI C fun i j => .int (g i j)) := by
 intro pins s σ H x y v u Q I rx ry h
 obtain ⟨i, j, rfl, rfl, hc, q⟩ := h
 obtain ⟨t, rfl⟩ := rx
 obtain ⟨t', rfl⟩ := ry
 exact rule i j t t' s _ _ hc ⟨.int (g i j), H, I.tok _, ⟨_, rfl⟩, q⟩
theorem opI0 {f : Value → Value → Sem Value} {g : Int → Int → Int}
 (rule : ∀ (i j : Int) (t u : Tok) (s : Shared) (Q : Value → Shared → Prop) (E : Value → Shared → Prop), Q (.int (g i j) s.toks) { s with toks := s.toks + 1 } → wpAny (model X.prog X.w) X.A (f (.int i t) (.int j u)) Q E s) :
 OpR X f (rI0 fun i j => .int (g i j)) := by
 intro pins s σ H x y v u Q I rx ry h
 obtain ⟨i, j, rfl, rfl, q⟩ := h
 obtain ⟨t, rfl⟩ := rx
 obtain ⟨t', rfl⟩ := ry
 exact rule i j t t' s _ _ ⟨.int (g i j), H, I.tok _, ⟨_, rfl⟩, q⟩
theorem opB0 {f : Value → Value → Sem Value} {g : Int → Int → Bool}
 (rule : ∀ (i j : Int) (t u : Tok) (s : Shared) (Q : Value → Shared → Prop) (E : Value → Shared → Prop), Q (.bool (g i j)) s → wpAny (model X.prog X.w) X.A (f (.int i t) (.int j u)) Q E s) :
 OpR X f (rI0 fun i j => .bl (g i j)) := by
 intro pins s σ H x y v u Q I rx ry h
 obtain ⟨i, j, rfl, rfl, q⟩ := h
 obtain ⟨t, rfl⟩ := rx
 obtain ⟨t', rfl⟩ := ry
 exact rule i j t t' s _ _ ⟨.bl (g i j), H, I, rfl, q⟩
def CPow (i j : Int) : Prop := 0 ≤ j ∧ j ≤ 1000000 ∧ i.natAbs < 2 ^ 64
theorem op_add : OpR X (binaryOp .Add) (rI0 fun i j => .int (i + j)) := opI0 fun _ _ _ _ _ _ _ q => add_int q
theorem op_sub : OpR X (binaryOp .Sub) (rI0 fun i j => .int (i - j)) := opI0 fun _ _ _ _ _ _ _ q => sub_int q
theorem op_mod : OpR X (binaryOp .Mod) (rI (fun _ j => 0 < j) fun i j => .int (i % j)) := opI fun i j _ _ _ _ _ hc q => by
 have h1 : (0 : Int) < j := hc
 exact mod_int' (by omega) (by rw [Int.fmod_eq_emod_of_nonneg i (by omega)]; exact q)
theorem op_pow : OpR X (binaryOp .Pow) (rI CPow fun i j => .int (i ^ j.toNat)) := opI fun _ _ _ _ _ _ _ hc q => pow_int_small hc.1 hc.2.1 hc.2.2 q
theorem unI {f : Value → Sem Value} {g : Int → Int}
 (rule : ∀ (i : Int) (t : Tok) (s : Shared) (Q : Value → Shared → Prop) (E : Value → Shared → Prop), Q (.int (g i) s.toks) { s with toks := s.toks + 1 } → wpAny (model X.prog X.w) X.A (f (.int i t)) Q E s) :
 UnR X f (rU fun i => .int (g i)) := by
 intro pins s σ H x v Q I rx h
 obtain ⟨i, rfl, q⟩ := h
 obtain ⟨t, rfl⟩ := rx
 exact rule i t s _ _ ⟨.int (g i), H, I.tok _, ⟨_, rfl⟩, q⟩
theorem un_neg : UnR X (unaryOp .USub) (rU fun i => .int (-i)) := unI fun _ _ _ _ _ q => neg_int q
end
def scal : V → V → Bool
 | .non, .non => true | .non, .int _ => true | .int _, .non => true | .non, .bl _ => true | .bl _, .non => true | .non, .str _ => true | .str _, .non => true
 | .int _, .int _ => true | .bl _, .bl _ => true | .str _, .str _ => true | .byt _, .byt _ => true
 | .int _, .str _ => true | .str _, .int _ => true | .bl _, .str _ => true | .str _, .bl _ => true
 | _, _ => false
def rEq : R2 := fun x y H Q => scal x y = true ∧ Q (.bl (decide (x = y))) H
def rNe : R2 := fun x y H Q => scal x y = true ∧ Q (.bl (!decide (x = y))) H
theorem dec_int {i j : Int} : decide (V.int i = V.int j) = (i == j) := by
 rw [Bool.eq_iff_iff]
 simp
theorem dec_bl {i j : Bool} : decide (V.bl i = V.bl j) = (i == j) := by
 rw [Bool.eq_iff_iff]
 simp
theorem dec_str {i j : Str} : decide (V.str i = V.str j) = (i == j) := by
 rw [Bool.eq_iff_iff]
 simp
theorem dec_byt {i j : Array UInt8} : decide (V.byt i = V.byt j) = (i.toList == j.toList) := by
 rw [Bool.eq_iff_iff]
 cases i
 cases j
 simp
section
variable {X : Cx} {a b c : Expr} {ta tb tc : TE} {pos : Pos}
theorem fin_bl {pins : List (Addr × Obj)} {σ : St} {H : Hp} {s : Shared} {Q : VK} {k k' : Bool} (I : Inv X pins σ H s) (q : Q (.bl k) H) (e : k = k') : EP X pins σ Q (.bool k') s := by
 subst e
 exact ⟨.bl k, H, I, rfl, q⟩
theorem op_eq : OpR X (compareOp .Eq) rEq := by
 intro pins s σ H x y v u Q I rx ry h
 obtain ⟨hs, q⟩ := h
 cases x with
 | non =>
  cases rx
  cases y with
  | non => cases ry; exact PySem.EqNone.eq_none_none (fin_bl I q (by simp))
  | bl j => cases ry; exact PySem.EqNone.eq_none_bool (fin_bl I q (by simp))
  | int j => obtain ⟨t', rfl⟩ := ry; exact PySem.EqNone.eq_none_int (fin_bl I q (by simp))
  | str j => obtain ⟨t', rfl⟩ := ry; exact PySem.EqNone.eq_none_str (fin_bl I q (by simp))
  | _ => exact absurd (show false = true from hs) Bool.false_ne_true
 | bl i =>
  cases rx
  cases y with
  | non => cases ry; exact PySem.EqNone.eq_bool_none (fin_bl I q (by simp))
  | bl j => cases ry; exact eq_bool (fin_bl I q dec_bl)
  | str j => obtain ⟨t', rfl⟩ := ry; exact PySem.EqMixed.eq_bool_str (fin_bl I q (by simp))
  | _ => exact absurd (show false = true from hs) Bool.false_ne_true
 | int i =>
  obtain ⟨t, rfl⟩ := rx
  cases y with
  | non => cases ry; exact PySem.EqNone.eq_int_none (fin_bl I q (by simp))
  | int j => obtain ⟨t', rfl⟩ := ry; exact eq_int (fin_bl I q dec_int)
  | str j => obtain ⟨t', rfl⟩ := ry; exact PySem.EqMixed.eq_int_str (fin_bl I q (by simp))
  | _ => exact absurd (show false = true from hs) Bool.false_ne_true
 | str i =>
  obtain ⟨t, rfl⟩ := rx
  cases y with
  | non => cases ry; exact PySem.EqNone.eq_str_none (fin_bl I q (by simp))
  | bl j => cases ry; exact PySem.EqMixed.eq_str_bool (fin_bl I q (by simp))
  | int j => obtain ⟨t', rfl⟩ := ry; exact PySem.EqMixed.eq_str_int (fin_bl I q (by simp))
  | str j => obtain ⟨t', rfl⟩ := ry; exact eq_str (fin_bl I q dec_str)
  | _ => exact absurd (show false = true from hs) Bool.false_ne_true
 | byt i =>
  obtain ⟨t, rfl⟩ := rx
  cases y with
  | byt j => obtain ⟨t', rfl⟩ := ry; exact PySem.W.eq_bytes (fin_bl I q dec_byt)
  | _ => exact absurd (show false = true from hs) Bool.false_ne_true
 | _ => cases y <;> exact absurd (show false = true from hs) Bool.false_ne_true
theorem op_ne : OpR X (compareOp .NotEq) rNe := by
 intro pins s σ H x y v u Q I rx ry h
 obtain ⟨hs, q⟩ := h
 cases x with
 | non =>
  cases rx
  cases y with
  | non => cases ry; exact PySem.EqNone.ne_none_none (fin_bl I q (by simp))
  | bl j => cases ry; exact PySem.EqNone.ne_none_bool (fin_bl I q (by simp))
  | int j => obtain ⟨t', rfl⟩ := ry; exact PySem.EqNone.ne_none_int (fin_bl I q (by simp))
  | str j => obtain ⟨t', rfl⟩ := ry; exact PySem.EqNone.ne_none_str (fin_bl I q (by simp))
  | _ => exact absurd (show false = true from hs) Bool.false_ne_true
 | bl i =>
  cases rx
  cases y with
  | non => cases ry; exact PySem.EqNone.ne_bool_none (fin_bl I q (by simp))
  | bl j => cases ry; exact ne_bool (fin_bl I q (congrArg not dec_bl))
  | str j => obtain ⟨t', rfl⟩ := ry; exact PySem.EqMixed.ne_bool_str (fin_bl I q (by simp))
  | _ => exact absurd (show false = true from hs) Bool.false_ne_true
 | int i =>
  obtain ⟨t, rfl⟩ := rx
  cases y with
  | non => cases ry; exact PySem.EqNone.ne_int_none (fin_bl I q (by simp))
  | int j => obtain ⟨t', rfl⟩ := ry; exact ne_int (fin_bl I q (congrArg not dec_int))
  | str j => obtain ⟨t', rfl⟩ := ry; exact PySem.EqMixed.ne_int_str (fin_bl I q (by simp))
  | _ => exact absurd (show false = true from hs) Bool.false_ne_true
 | str i =>
  obtain ⟨t, rfl⟩ := rx
  cases y with
  | non => cases ry; exact PySem.EqNone.ne_str_none (fin_bl I q (by simp))
  | bl j => cases ry; exact PySem.EqMixed.ne_str_bool (fin_bl I q (by simp))
  | int j => obtain ⟨t', rfl⟩ := ry; exact PySem.EqMixed.ne_str_int (fin_bl I q (by simp))
  | str j => obtain ⟨t', rfl⟩ := ry; exact ne_str (fin_bl I q (congrArg not dec_str))
  | _ => exact absurd (show false = true from hs) Bool.false_ne_true
 | byt i =>
  obtain ⟨t, rfl⟩ := rx
  cases y with
  | byt j => obtain ⟨t', rfl⟩ := ry; exact PySem.W.ne_bytes (fin_bl I q (congrArg not dec_byt))
  | _ => exact absurd (show false = true from hs) Bool.false_ne_true
 | _ => cases y <;> exact absurd (show false = true from hs) Bool.false_ne_true
theorem op_lt : OpR X (compareOp .Lt) (rI0 fun i j => .bl (decide (i < j))) := opB0 fun _ _ _ _ _ _ _ q => lt_int q
theorem op_le : OpR X (compareOp .LtE) (rI0 fun i j => .bl (decide (i ≤ j))) := opB0 fun _ _ _ _ _ _ _ q => le_int q
theorem op_gt : OpR X (compareOp .Gt) (rI0 fun i j => .bl (decide (j < i))) := opB0 fun _ _ _ _ _ _ _ q => gt_int q
theorem op_ge : OpR X (compareOp .GtE) (rI0 fun i j => .bl (decide (j ≤ i))) := opB0 fun _ _ _ _ _ _ _ q => ge_int q
theorem OpR.or {f : Value → Value → Sem Value} {r r' : R2} (h : OpR X f r) (h' : OpR X f r') : OpR X f (fun x y H Q => r x y H Q ∨ r' x y H Q) := by
 intro pins s σ H x y v u Q I rx ry q
 rcases q with q | q
 · exact h pins s σ H x y v u Q I rx ry q
 · exact h' pins s σ H x y v u Q I rx ry q
theorem nomark (b : Expr) {op : CmpOp} (h : op ≠ .In := by decide) (h2 : op ≠ .NotIn := by decide) : behindInMarks op b = false := by
 have e1 : (op == CmpOp.In) = false := by cases op <;> first | rfl | exact absurd rfl h
 have e2 : (op == CmpOp.NotIn) = false := by cases op <;> first | rfl | exact absurd rfl h2
 cases b <;> simp [behindInMarks, e1, e2]
def tTest (t : TE) : TT := fun σ H Q => t σ H fun x H' => ∃ k, x = .bl k ∧ Q k H'
theorem pt_cmpR {op : CmpOp} {r : R2} (ho : OpR X (compareOp op) r) (ha : PE X a ta) (hb : PE X b tb) (hm : behindInMarks op b = false) : PT X (.Compare a [op] [b] pos) (tTest (tOp r ta tb)) := by
 intro pins s σ H Q I h
 refine wpAny_isTrue_Compare1 (thn (ha pins s σ H _ I h) fun v s1 ⟨x, H1, I1, r1, q1⟩ => thn (hb pins s1 σ H1 _ I1 q1) fun u s2 ⟨y, H2, I2, r2, q2⟩ =>
  thn (ho pins s2 σ H2 x y v u _ I2 r1 r2 q2) fun c s3 ⟨z, H3, I3, r3, k, e, q3⟩ => ?_) hm
 subst e
 cases r3
 exact wpAny_truthy_bool ⟨H3, I3, q3⟩
def tChain (r r' : R2) (ta tb tc : TE) : TE := fun σ H Q => ta σ H fun x H1 => tb σ H1 fun y H2 => r x y H2 fun z H3 => ∃ k, z = .bl k ∧
 (if k = true then tc σ H3 fun w' H4 => r' y w' H4 Q else Q (.bl false) H3)
theorem pe_chain {op op' : CmpOp} {r r' : R2} (ho : OpR X (compareOp op) r) (ho' : OpR X (compareOp op') r') (ha : PE X a ta) (hb : PE X b tb) (hc : PE X c tc)
 (hm : lastMarks [op, op'] [b, c] = false := by with_unfolding_all rfl) : PE X (.Compare a [op, op'] [b, c] pos) (tChain r r' ta tb tc) := by
 intro pins s σ H Q I h
 refine Compare_chain (thn (ha pins s σ H _ I h) fun v s1 ⟨x, H1, I1, r1, q1⟩ => chain_link (thn (hb pins s1 σ H1 _ I1 q1) fun u s2 ⟨y, H2, I2, r2, q2⟩ =>
  thn (ho pins s2 σ H2 x y v u _ I2 r1 r2 q2) fun d s3 ⟨z, H3, I3, r3, k, e, q3⟩ => ?_)) hm
 subst e
 cases r3
 refine wpAny_truthy_bool ?_
 cases k with
 | false => exact ite_ff ⟨.bl false, H3, I3, rfl, q3⟩
 | true => exact ite_tt (chain_last (thn (hc pins s3 σ H3 _ I3 q3) fun w' s4 ⟨z', H4, I4, r4, q4⟩ => ho' pins s4 σ H4 y z' u w' Q I4 r2 r4 q4))
theorem line63 : (sizeLine : Nat) < 2 ^ 63 := by rw [sizeLine_eq]; decide
theorem vals1 {x : V} {us : List Value} (r : Vals [x] us) : ∃ u, us = [u] ∧ RelV x u := by
 cases r with
 | cons r1 r2 => cases r2; exact ⟨_, rfl, r1⟩
theorem vals2 {x y : V} {us : List Value} (r : Vals [x, y] us) : ∃ u w', us = [u, w'] ∧ RelV x u ∧ RelV y w' := by
 cases r with
 | cons r1 r2 =>
  cases r2 with
  | cons r3 r4 => cases r4; exact ⟨_, _, rfl, r1, r3⟩
theorem call_abs : CallR X (.builtin "abs") (fun xs H Q => ∃ i, xs = [.int i] ∧ Q (.int (if i < 0 then -i else i)) H) := by
 intro pins s σ H xs us Q I r h
 obtain ⟨i, rfl, q⟩ := h
 obtain ⟨u, rfl, t, rfl⟩ := vals1 r
 exact call_abs_int fun u tk => ⟨.int (if i < 0 then -i else i), H, I.tok _, ⟨_, rfl⟩, q⟩
theorem call_max2 (hc : X.calm = true) : CallR X (.builtin "max") (fun xs H Q => ∃ i j, xs = [.int i, .int j] ∧ Q (.int (if j > i then j else i)) H) := by
 intro pins s σ H xs us Q I r h
 obtain ⟨i, j, rfl, q⟩ := h
 obtain ⟨u, w', rfl, ⟨t, rfl⟩, ⟨t', rfl⟩⟩ := vals2 r
 refine max_two_ints (I.ok.hd hc) fun h' tk k => ⟨_, H, I.kept k, ?_, q⟩
 by_cases hj : j > i
 · rw [if_pos hj, if_pos hj]; exact ⟨_, rfl⟩
 · rw [if_neg hj, if_neg hj]; exact ⟨_, rfl⟩
theorem call_min2 (hc : X.calm = true) : CallR X (.builtin "min") (fun xs H Q => ∃ i j, xs = [.int i, .int j] ∧ Q (.int (if j < i then j else i)) H) := by
 intro pins s σ H xs us Q I r h
 obtain ⟨i, j, rfl, q⟩ := h
 obtain ⟨u, w', rfl, ⟨t, rfl⟩, ⟨t', rfl⟩⟩ := vals2 r
 refine min_two_ints (I.ok.hd hc) fun h' tk k => ⟨_, H, I.kept k, ?_, q⟩
 by_cases hj : j < i
 · rw [if_pos hj, if_pos hj]; exact ⟨_, rfl⟩
 · rw [if_neg hj, if_neg hj]; exact ⟨_, rfl⟩
end
structure ObjM (h : Heap) (x dx C : Addr) (mA : Str → Option Value) : Prop where
 obj : h.get? x = some (PySem.W.instObj C dx)
 ns : h.Ns1 dx mA
 ne : dx ≠ x
theorem lookIn_ns {h : Heap} {dx : Addr} {mA : Str → Option Value} (n : h.Ns1 dx mA) : ∃ od, h.get? dx = some od ∧ ∀ name, PySem.W.lookIn name od = some (mA name) := by
 obtain ⟨o, es, ep, ho, hd, hk, _, hm⟩ := n
 refine ⟨o, ho, fun name => ?_⟩
 have e := hm name
 unfold nsFind findBy at e
 rw [← Array.find?_toList] at e
 unfold PySem.W.lookIn
 rw [hd]
 dsimp only
 split
 · rename_i y q
   rw [q] at e
   exact congrArg some e
 · rename_i q
   rw [q] at e
   have a : es.toList.any (·.refKey) = false := by
    rw [List.any_eq_false]
    intro y hy
    obtain ⟨z, t, hkey⟩ := hk y (Array.mem_toList_iff.mp hy)
    simp [DictEntry.refKey, hkey]
   have a' : ¬ es.toList.any (·.refKey) = true := by rw [a]; exact Bool.false_ne_true
   rw [if_neg a']
   exact congrArg some e
theorem ObjM.look {h : Heap} {x dx C : Addr} {mA : Str → Option Value} (I : ObjM h x dx C mA) : ∃ od, PySem.W.InstAt h x (PySem.W.instObj C dx) C (some od) ∧ ∀ name, PySem.W.lookIn name od = some (mA name) :=
 let ⟨od, ho, hl⟩ := lookIn_ns I.ns
 ⟨od, ⟨I.obj, rfl, rfl, ho⟩, hl⟩
section
variable {P : Program} {w : World} {H H' : Hp} {h h' : Heap} {a C dx : Addr} {fs fs' : List (Str × V)}
theorem ins_get (hok : HOk P w H h) (e : H a = some (.ins C dx fs)) : ∃ mA, ObjM h a dx C mA ∧ (∀ f, RelO (fs.lookup f) (mA f)) ∧ PySem.Within mA (fs.map (·.1)) ∧ fs.length ≤ 1000 ∧ H dx = some (.own a) := by
 obtain ⟨d, z, ne, ob, mA, n, r, q⟩ := (show ObjOk P w H h a (.ins C dx fs) from hok a _ e)
 exact ⟨mA, ⟨ob, n, ne⟩, r, q, z, d⟩
end
structure Cls (K : PySem.W.Frag) (C : Addr) : Prop where
 pg : PySem.W.plainGet K C Str.empty = true
 hd : PySem.W.hasDictIn K C = true
 po : PySem.W.plainOver K C = true
 sa : PySem.W.findIn K (.ref C) "__setattr__" = some (some (.builtin "object.__setattr__"))
theorem Cls.get {K : PySem.W.Frag} {C : Addr} (c : Cls K C) (f : Str) : PySem.W.plainGet K C f = true := c.pg
section
variable {X : Cx} {pins : List (Addr × Obj)} {σ : St} {H : Hp} {s : Shared} {A : Around} {E : Value → Shared → Prop} {Q : Value → Shared → Prop} {c : Value} {b : Bool}
inductive TyOf (K : PySem.W.Frag) (H : Hp) : V → Value → Prop where
 | non : TyOf K H .non (.type "NoneType")
 | bl (x : Bool) : TyOf K H (.bl x) (.type "bool")
 | int (i : Int) : TyOf K H (.int i) (.type "int")
 | str (x : Str) : TyOf K H (.str x) (.type "str")
 | flt (x : UInt64) : TyOf K H (.flt x) (.type "float")
 | lst {a : Addr} {xs : List V} (e : H a = some (.lst xs)) : TyOf K H (.ref a) (.type "list")
 | frz {a : Addr} {o : Obj} {xs : List V} (e : H a = some (.frz o (.lst xs))) : TyOf K H (.ref a) (.type "list")
 | tup {a : Addr} {xs : List V} (e : H a = some (.tup xs)) : TyOf K H (.ref a) (.type "tuple")
 | dK {a : Addr} {kvs : List (Key × V)} (e : H a = some (.dK kvs)) : TyOf K H (.ref a) (.type "dict")
 | dT {a : Addr} {kvs : List (List Key × V)} (e : H a = some (.dT kvs)) : TyOf K H (.ref a) (.type "dict")
 | ins {a C dx : Addr} {fs : List (Str × V)} (e : H a = some (.ins C dx fs)) (cl : Cls K C) (ha : PySem.W.findIn K (.ref C) "__class__" = some (some (.builtin "object.__class__")))
  (hn : PySem.W.specialIn K (.builtin "object.__class__") "__get__" = some (some (.builtin "getset_descriptor.__get__"))) (htk : PySem.W.takesIn K (.builtin "object.__class__") = some true)
  (hm : PySem.W.mroIn K C (.type "object") = some true) : TyOf K H (.ref a) (.ref C)
theorem isinst_ok {x : V} {u t : Value} (I : Inv X pins σ H s) (rx : RelV x u) (ty : TyOf X.K H x t) (e : PySem.W.kitOne X.K t c = some b) (h : ∀ tk, Q (.bool b) { s with toks := tk }) :
 wpAny (model X.prog X.w) A (call (.builtin "isinstance") [u, c]) Q E s := by
 cases ty with
 | non => cases (show u = Value.none from rx); exact PySem.W.kia_one PySem.W.kitx_none I.kIn True.intro e (fun z => nomatch z) h
 | bl y => cases (show u = Value.bool y from rx); exact PySem.W.kia_one PySem.W.kitx_bool I.kIn True.intro e (fun z => nomatch z) h
 | int i => obtain ⟨t, q⟩ := (show ∃ t, u = Value.int i t from rx); cases q; exact PySem.W.kia_one PySem.W.kitx_int I.kIn True.intro e (fun z => nomatch z) h
 | str y => obtain ⟨t, q⟩ := (show ∃ t, u = Value.str y t from rx); cases q; exact PySem.W.kia_one PySem.W.kitx_str I.kIn True.intro e (fun z => nomatch z) h
 | flt y => obtain ⟨t, q⟩ := (show ∃ t, u = Value.float y t from rx); cases q; exact PySem.W.kia_one PySem.W.kitx_float I.kIn True.intro e (fun z => nomatch z) h
 | @lst a xs ea =>
  cases (show u = Value.ref a from rx)
  obtain ⟨_, _, n, _, h1⟩ := (show ObjOk X.prog X.w H s.heap a (.lst xs) from I.hok a _ ea)
  exact PySem.W.kia_one PySem.W.kitx_list I.kIn ⟨_, h1, rfl⟩ e (fun z => nomatch z) h
 | @frz a ob xs ea =>
  cases (show u = Value.ref a from rx)
  obtain ⟨_, _, _, n, _, h1⟩ := (show ObjOk X.prog X.w H s.heap a (.frz ob (.lst xs)) from I.hok a _ ea)
  exact PySem.W.kia_one PySem.W.kitx_list I.kIn ⟨_, h1, rfl⟩ e (fun z => nomatch z) h
 | @tup a xs ea =>
  cases (show u = Value.ref a from rx)
  obtain ⟨_, _, _, p⟩ := (show ObjOk X.prog X.w H s.heap a (.tup xs) from I.hok a _ ea)
  obtain ⟨o, h1, h2, _⟩ := p
  exact PySem.W.kia_one PySem.W.kitx_tuple I.kIn ⟨o, h1, h2⟩ e (fun z => nomatch z) h
 | @dK a kvs ea =>
  cases (show u = Value.ref a from rx)
  obtain ⟨_, _, vs, _, p⟩ := (show ObjOk X.prog X.w H s.heap a (.dK kvs) from I.hok a _ ea)
  obtain ⟨o, es, ep, h1, h2, _⟩ := p
  exact PySem.W.kia_one PySem.W.kitx_dict I.kIn ⟨o, h1, h2.1⟩ e (fun z => nomatch z) h
 | @dT a kvs ea =>
  cases (show u = Value.ref a from rx)
  obtain ⟨_, _, xs, _, o, es, ep, h1, h2, _⟩ := (show ObjOk X.prog X.w H s.heap a (.dT kvs) from I.hok a _ ea)
  exact PySem.W.kia_one PySem.W.kitx_dict I.kIn ⟨o, h1, h2.1⟩ e (fun z => nomatch z) h
 | @ins a C dx fs ea cl ha hn htk hm =>
  cases (show u = Value.ref a from rx)
  obtain ⟨mA, O, _⟩ := ins_get I.hok ea
  obtain ⟨od, J, _⟩ := O.look
  exact PySem.W.kia_one (PySem.W.kitx_own (cl.get _) cl.hd ha hn htk hm) I.kIn J e (fun z => nomatch z) h
end
structure Room (k : Nat) (A : Around) : Prop where
 hd : A.handled = none
 dp : A.depth + 3 * k + 5 < recursionLimit
 un : A.units + 16 * k + 200 < cLine
 gd : A.guards = some []
theorem Room.mono {j k : Nat} {A : Around} (r : Room k A) (h : j ≤ k) : Room j A := ⟨r.hd, by have := r.dp; omega, by have := r.un; omega, r.gd⟩
theorem Room.deeper {k : Nat} {A : Around} (r : Room (k + 1) A) (env : Env) : Room k (A.deeper env) :=
 ⟨r.hd, by have := r.dp; show A.depth + 1 + 3 * k + 5 < _; omega, by have := r.un; show A.units + 3 + 16 * k + 200 < _; omega, r.gd⟩
theorem Room.depth {k : Nat} {A : Around} (r : Room k A) : A.depth < recursionLimit := by have := r.dp; omega
def tNil : TA := fun _ H Q => Q [] H
def tCons (ta : TE) (tr : TA) : TA := fun σ H Q => ta σ H fun x H1 => tr σ H1 fun xs H2 => Q (x :: xs) H2
section
variable {X : Cx} {e : Expr} {es : List Expr} {te : TE} {t : TA} {pos : Pos}
theorem pa_nil : PA X [] tNil := fun _ _ _ _ H Q I h => Calls.spliced_nil ⟨[], H, I, .nil, h⟩
theorem pa_cons (ha : PE X e te) (hr : PA X es t) (hs : starEach (e :: es) X.env = (false, eval e X.env) :: starEach es X.env := by rfl) : PA X (e :: es) (tCons te t) := by
 intro pos pins s σ H Q I h
 rw [hs]
 show wpAny _ _ (spliced ((false, eval e X.env) :: backTo pos (starEach es X.env))) _ _ s
 refine Calls.spliced_cons (thn (ha pins s σ H _ I h) fun u s1 ⟨x, H1, I1, r1, q1⟩ => ?_)
 exact thn (hr pos pins s1 σ H1 _ I1 q1) fun us s2 ⟨xs, H2, I2, r2, q2⟩ => ⟨x :: xs, H2, I2, .cons r1 r2, q2⟩
end
abbrev Sp := List V → Hp → VK → XK → Prop
abbrev CXT := List Env → Hp → Shared → XK → Value → Shared → Prop
structure Env0 (P : Program) (w : World) (K : PySem.W.Frag) (mg : Str → Option Value) (base : Heap) (A : Around) (outer : List Env) (s : Shared) (H : Hp) : Prop where
 frames : A.frames = some outer
 mod : Mod K mg base
 bs : ∀ b o, base.get? b = some o → s.heap.get? b = some o ∧ H b = none
 bsz : base.objs.size ≤ s.heap.objs.size
 funs : s.heap.FunFrames base outer
 frf : ∀ b ∈ frs outer, H b = none
 hok : HOk P w H s.heap
 bare : AllBare s.gens
def CE (outer : List Env) (P : Program) (w : World) (H : Hp) (s : Shared) (Q : VK) (u : Value) (s' : Shared) : Prop :=
 ∃ v H', s'.os = s.os ∧ AllBare s'.gens ∧ Un (frs outer) [] H H' s.heap s'.heap ∧ HOk P w H' s'.heap ∧ RelV v u ∧ Q v H'
def CR (CX : CXT) (outer : List Env) (P : Program) (w : World) (H : Hp) (s : Shared) (Q : VK) (E : XK) (r : Result) (s' : Shared) : Prop :=
 match r with
 | .ok (.ret u) => CE outer P w H s Q u s'
 | .ok _ => False
 | .error e => CX outer H s E e s'
structure FnOk (P : Program) (w : World) (K : PySem.W.Frag) (mg : Str → Option Value) (base : Heap) (CX : CXT) (k : Nat) (f : Addr) (fd : FuncData) (ps : List Str) (sp : Sp) : Prop where
 len : ∀ vs H Q E, sp vs H Q E → vs.length = ps.length
 run : ∀ (A : Around) (outer : List Env) (s : Shared) (H : Hp) (args : Args) (us : List Value) (vs : List V) (Q : VK) (E : XK), Room k A → Env0 P w K mg base A outer s H → BindsTo s fd args (ps.zip us) → Vals vs us → sp vs H Q E →
  codeAny (model P w) A (.call (.ref f) args) (CR CX outer P w H s Q E) s
section
variable {X : Cx} {pins : List (Addr × Obj)} {σ : St} {H : Hp} {s s' : Shared}
theorem Inv.env0 (I : Inv X pins σ H s) : Env0 X.prog X.w X.K X.mg X.base X.A X.stack s H :=
 ⟨I.ok.frames, I.ok.mod, I.bs, Nat.le_trans I.ok.bsz I.sz, I.stack, I.stkFree, I.hok, I.bare⟩
theorem Inv.after {Q : VK} {u : Value} (I : Inv X pins σ H s) (h : CE X.stack X.prog X.w H s Q u s') : EP X pins σ Q u s' := by
 obtain ⟨v, H', os, bare, un, hok, r, q⟩ := h
 obtain ⟨hh, g, d, t, os'⟩ := s'
 obtain rfl : os' = s.os := os
 exact ⟨v, H', I.call (h' := hh) (g' := g) (d' := d) (t' := t) (ch := []) un hok bare (fun b z => absurd z (by simp)), r, q⟩
end
def tCall (sp : Sp) (dvs : List V) (E : XK) (t : TA) : TE := fun σ H Q => t σ H fun vs H1 => sp (vs ++ dvs) H1 Q E
def Binds (K : PySem.W.Frag) (fd : FuncData) (ps : List Str) (ds : List Value) : Prop :=
 ∀ (s : Shared) (us : List Value), K.In s.heap → (us ++ ds).length = ps.length → BindsTo s fd ⟨us, []⟩ (ps.zip (us ++ ds))
theorem Binds.all {K : PySem.W.Frag} {fd : FuncData} {ps : List Str} (h : ∀ us : List Value, us.length = ps.length → bindArgs fd ⟨us, []⟩ = pure (ps.zip us)) : Binds K fd ps [] := fun s us _ hl => by
 rw [List.append_nil] at hl ⊢
 exact .of_eq (h us hl)
def Passes (CX : CXT) (X : Cx) (E : XK) : Prop := ∀ (pins : List (Addr × Obj)) (σ : St) (H : Hp) (s : Shared) (e : Value) (s' : Shared), Inv X pins σ H s → CX X.stack H s E e s' → X.xe e s'
section
variable {X : Cx} {CX : CXT} {k : Nat} {f C : Addr} {fd : FuncData} {ps : List Str} {sp : Sp} {dvs : List V} {ds : List Value} {E : XK} {x m : Str} {p pos apos : Pos} {e o : Expr} {es : List Expr} {ta : TE} {t : TA}
theorem run_fn {pins : List (Addr × Obj)} {σ : St} {H : Hp} {s : Shared} {Q : VK} {us : List Value} {vs : List V} (F : FnOk X.prog X.w X.K X.mg X.base CX k f fd ps sp) (hr : Room k X.A) (hb : Binds X.K fd ps ds) (hd : Vals dvs ds) (hx : Passes CX X E)
 (I : Inv X pins σ H s) (r : Vals vs us) (h : sp (vs ++ dvs) H Q E) : wpAny (model X.prog X.w) X.A (call (.ref f) us) (EP X pins σ Q) X.xe s := by
 have r2 : Vals (vs ++ dvs) (us ++ ds) := r.append hd
 have hl : (us ++ ds).length = ps.length := by rw [← r2.length]; exact F.len _ _ _ _ h
 refine wpAny_call (codeAny_mono (F.run X.A X.stack s H ⟨us, []⟩ (us ++ ds) (vs ++ dvs) Q E hr I.env0 (hb s us I.kIn hl) r2 h) fun r s' hq => ?_)
 cases r with
 | error e => exact hx pins σ H s e s' I hq
 | ok fl =>
  cases fl with
  | ret u => exact I.after hq
  | next => exact False.elim hq
  | brk => exact False.elim hq
  | cont => exact False.elim hq
theorem pe_call (F : FnOk X.prog X.w X.K X.mg X.base CX k f fd ps sp) (hr : Room k X.A) (hg : Gl X x) (hm : X.mg x = some (.ref f)) (hk : PySem.W.keepIn X.K (.ref f) = true) (hb : Binds X.K fd ps ds) (hd : Vals dvs ds) (hx : Passes CX X E)
 (ha : PA X (e :: es) t) (hdb : (x == ("__debug__" : Str)) = false := by decide) (he : starEach (e :: es) X.env = (false, eval e X.env) :: starEach es X.env := by rfl) (hpl : (backTo pos (starEach es X.env)).any (·.1) = false := by rfl) :
 PE X (.Call (.Name x p) (e :: es) [] pos) (tCall sp dvs E t) := by
 intro pins s σ H Q I h
 refine wpAny_Call_Name_kw (ld_glob I hg hm ?_ hdb)
 refine PySem.W.callWith_K (h₀ := X.base) I.ok.mod.kin hk (thn (ha pos pins s σ H _ I h) fun us s1 ⟨vs, H1, I1, r, q⟩ => ⟨I1.kIn, ?_⟩) he hpl
 exact run_fn F hr hb hd hx I1 r q
end
structure FnScope (N P : List Str) (sc : Scope) : Prop where
 kind : sc.kind = .function
 co : sc.isCoroutine = false
 gen : sc.isGenerator = false
 nd : N.Nodup
 pre : N.take P.length = P
 par : ∀ x ∈ P, sc.names.lookup x = some .local ∨ sc.names.lookup x = some .cell
 nofree : ∀ y ∈ sc.names, y.2 ≠ .free
theorem bindL_out {kindOf : Str → Option NameKind} {x : Str} : ∀ {binds : List (Str × Value)} {m : Str → Option Value}, (∀ v, (x, v) ∉ binds) → bindL kindOf binds m x = m x
 | [], _, _ => rfl
 | (n, v) :: r, m, h => by
  unfold bindL
  rw [bindL_out fun w hw => h w (List.mem_cons_of_mem _ hw)]
  split
  · have : x ≠ n := by rintro rfl; exact h v List.mem_cons_self
    simp [this]
  · rfl
theorem bindC_out {kindOf : Str → Option NameKind} {x : Str} : ∀ {binds : List (Str × Value)} {m : Str → Option Value}, (∀ v, (x, v) ∉ binds) → bindC kindOf binds m x = m x
 | [], _, _ => rfl
 | (n, v) :: r, m, h => by
  unfold bindC
  rw [bindC_out fun w hw => h w (List.mem_cons_of_mem _ hw)]
  split
  · rfl
  · have : x ≠ n := by rintro rfl; exact h v List.mem_cons_self
    simp [this]
theorem bindL_get {kindOf : Str → Option NameKind} {x : Str} {v : Value} : ∀ {P : List Str} {vs : List Value} {i : Nat} {m : Str → Option Value}, P.Nodup → P[i]? = some x → vs[i]? = some v → kindOf x = some .local →
 bindL kindOf (P.zip vs) m x = some v
 | [], _, _, _, _, h, _, _ => by simp at h
 | _ :: _, [], _, _, _, _, h, _ => by simp at h
 | p :: P, w :: vs, 0, m, nd, h1, h2, hk => by
  simp at h1 h2; subst h1; subst h2
  show bindL kindOf ((p, w) :: P.zip vs) m p = _
  unfold bindL
  rw [bindL_out fun v hv => (List.nodup_cons.mp nd).1 (List.of_mem_zip hv).1, if_pos hk]
  simp
 | p :: P, w :: vs, i + 1, m, nd, h1, h2, hk => by
  show bindL kindOf ((p, w) :: P.zip vs) m x = _
  unfold bindL
  exact bindL_get (i := i) (List.nodup_cons.mp nd).2 (by simpa using h1) (by simpa using h2) hk
theorem bindC_get {kindOf : Str → Option NameKind} {x : Str} {v : Value} : ∀ {P : List Str} {vs : List Value} {i : Nat} {m : Str → Option Value}, P.Nodup → P[i]? = some x → vs[i]? = some v → kindOf x ≠ some .local →
 bindC kindOf (P.zip vs) m x = some v
 | [], _, _, _, _, h, _, _ => by simp at h
 | _ :: _, [], _, _, _, _, h, _ => by simp at h
 | p :: P, w :: vs, 0, m, nd, h1, h2, hk => by
  simp at h1 h2; subst h1; subst h2
  show bindC kindOf ((p, w) :: P.zip vs) m p = _
  unfold bindC
  rw [bindC_out fun v hv => (List.nodup_cons.mp nd).1 (List.of_mem_zip hv).1, if_neg hk]
  simp
 | p :: P, w :: vs, i + 1, m, nd, h1, h2, hk => by
  show bindC kindOf ((p, w) :: P.zip vs) m x = _
  unfold bindC
  exact bindC_get (i := i) (List.nodup_cons.mp nd).2 (by simpa using h1) (by simpa using h2) hk
def start (N : List Str) (vs : List V) : St := vs.map some ++ List.replicate (N.length - vs.length) none
def cxOf (CX : CXT) (P : Program) (w : World) (K : PySem.W.Frag) (mg : Str → Option Value) (base : Heap) (N : List Str) (qual : Str) (scope : Scope) (f : Addr) (cd : Value) (A : Around) (outer : List Env) (s : Shared) (H : Hp) (E : XK) : Cx where
 prog := P
 w := w
 K := K
 mg := mg
 base := base
 A := A.deeper (envOfC qual scope s.heap.objs.size f cd)
 N := N
 s₀ := s
 H₀ := H
 env := envOfC qual scope s.heap.objs.size f cd
 outer := outer
 stack := envOfC qual scope s.heap.objs.size f cd :: outer
 ex := []
 calm := true
 fn := fun _ => true
 pn := []
 xe := fun e s' => wpAny (model P w) (A.deeper (envOfC qual scope s.heap.objs.size f cd)) (leaving (envOfC qual scope s.heap.objs.size f cd) e) (fun _ s'' => CX outer H s E e s'') (fun e' s'' => CX outer H s E e' s'') s'
theorem cell_has {sc : Scope} {n : Nat} {x : Str} (h : sc.names.lookup x = some .cell) : ∃ c, (cellsFrom n sc.names []).lookup x = some c := by
 have q := PySem.W.cellsFrom_some sc.names n [] (.inl h)
 exact Option.isSome_iff_exists.mp q
theorem inv_start {CX : CXT} {P : Program} {w : World} {K : PySem.W.Frag} {mg : Str → Option Value} {base : Heap} {N ps : List Str} {qual : Str} {scope : Scope} {f : Addr} {cd : Value} {A : Around} {outer : List Env} {s s1 : Shared} {H : Hp} {E : XK} {us : List Value} {vs : List V}
 (S : FnScope N ps scope) (hd : A.handled = none) (e0 : Env0 P w K mg base A outer s H) (hl : vs.length = ps.length) (r : Vals vs us)
 (x : InCallC s s.heap.objs.size (bindL (envOfC qual scope s.heap.objs.size f cd).kindOf (ps.zip us) fun _ => none) (cellsFrom (s.heap.objs.size + 1) scope.names []) (bindC (envOfC qual scope s.heap.objs.size f cd).kindOf (ps.zip us) fun _ => none) s1) :
 Inv (cxOf CX P w K mg base N qual scope f cd A outer s H E) [] (start N vs) H s1 := by
 have hpl : ps.length ≤ N.length := by have := congrArg List.length S.pre; rw [List.length_take] at this; omega
 obtain ⟨h1, tk, rfl, hk⟩ := x.done
 have noA : ∀ b : Addr, b ∉ (cxOf CX P w K mg base N qual scope f cd A outer s H E).ex := fun b z => absurd (show b ∈ ([] : List Addr) from z) (by simp)
 refine ⟨⟨e0.mod, S.kind, rfl, rfl, Nat.le_refl _, fun y z c h1 h2 => ?_, fun y hy => ?_, fun y c _ h => ?_, fun _ => hd, Around.frames_deeper e0.frames, .inr ⟨rfl, rfl⟩, fun b z => absurd z (noA b), e0.bs, e0.bsz, fun b _ _ => noA b, fun b z => absurd z (noA b), e0.funs, e0.frf⟩,
  rfl, e0.bare, Un.kept hk, ⟨_, x.toInCall.ns, fun i y v h1 h2 h3 => ?_⟩, fun y c h => ⟨_, x.cell y c h⟩, e0.hok.fresh (Nat.le_refl _), fun y c h => ?_, fun p hp => absurd (show p ∈ ([] : List (Addr × Obj)) from hp) (by simp), e0.hok.kept hk, ?_⟩
 · exact name_of_addr x.apart (PySem.mem_of_lookup h1) (PySem.mem_of_lookup h2)
 · have hy : scope.names.lookup y = some .cell ∨ scope.names.lookup y = some .free := hy
   rcases hy with hy | hy
   · exact cell_has hy
   · exact absurd rfl (S.nofree _ (PySem.mem_of_lookup hy))
 · exact Nat.le_of_lt (x.above y c (PySem.mem_of_lookup h))
 · have hi : i < vs.length := by
    unfold start at h2
    by_cases hi : i < vs.length
    · exact hi
    · rw [List.getElem?_append_right (by simpa using hi)] at h2
      rw [List.getElem?_replicate] at h2
      split at h2 <;> cases h2
   have ha : vs[i]? = some v := by
    unfold start at h2
    rw [List.getElem?_append_left (by simpa using hi), List.getElem?_map] at h2
    cases e : vs[i]? with
    | none => rw [e] at h2; cases h2
    | some a => rw [e] at h2; cases h2; rfl
   obtain ⟨u, hu, rv⟩ := r.get ha
   have hp : ps[i]? = some y := by
    rw [← S.pre, List.getElem?_take_of_lt (by omega)]; exact h1
   have ndP : ps.Nodup := by rw [← S.pre]; exact S.nd.sublist (List.take_sublist _ _)
   refine ⟨u, rv, ?_⟩
   rcases S.par y (List.mem_of_getElem? hp) with k | k
   · exact .inl ⟨k, bindL_get ndP hp hu k⟩
   · obtain ⟨c, e⟩ := cell_has (n := s.heap.objs.size + 1) k
     refine .inr ⟨.inl k, c, e, ?_⟩
     have q := x.cell y c e
     rw [bindC_get ndP hp hu (by show scope.names.lookup y ≠ _; rw [k]; decide)] at q
     exact q
 · exact e0.hok.fresh (Nat.le_of_lt (x.above y c (PySem.mem_of_lookup h)))
 · unfold start
   show _ = N.length
   rw [List.length_append, List.length_map, List.length_replicate]
   omega
theorem fn_of {CX : CXT} {P : Program} {w : World} {K : PySem.W.Frag} {mg : Str → Option Value} {base : Heap} {k : Nat} {f : Addr} {name qual : Str} {params : Arguments} {body : List Stmt} {scope : Scope} {dV kV doc pm cdv ct oc : Value} {an od : Option Addr}
 {osl : Array (Option Value)} {N ps : List Str} {sp : Sp} (lk : K.lookup f = some ⟨oc, od, .func (PySem.W.fnOf name qual params body scope dV kV doc pm an cdv ct), osl⟩) (hcd : PySem.W.codeIn K cdv qual = true) (S : FnScope N ps scope)
 (len : ∀ vs H Q E, sp vs H Q E → vs.length = ps.length)
 (hbody : ∀ (A : Around) (outer : List Env) (s : Shared) (H : Hp) (vs : List V) (Q : VK) (E : XK), Room k (A.deeper (envOfC qual scope s.heap.objs.size f cdv)) → sp vs H Q E →
  ∃ t, PSs (cxOf CX P w K mg base N qual scope f cdv A outer s H E) body t ∧ t { nx := fun _ H' => Q .non H', rt := Q } (start N vs) H) :
 FnOk P w K mg base CX (k + 1) f (PySem.W.fnOf name qual params body scope dV kV doc pm an cdv ct) ps sp := by
 refine ⟨len, fun A outer s H args us vs Q E hr e0 hb r hsp => ?_⟩
 have hl := len _ _ _ _ hsp
 have KX : K.In s.heap := e0.mod.kin.keeps fun b o e => (e0.bs b o e).1
 have lim : s.heap.NoLimit := e0.mod.nolimit.keeps fun b o e => (e0.bs b o e).1
 have hkind : ∀ y ∈ ps.zip us, scope.names.lookup y.1 = some .local ∨ (scope.names.lookup y.1 = some .cell ∧ ((cellsFrom (s.heap.objs.size + 1) scope.names []).lookup y.1).isSome = true) := fun ⟨n, v⟩ hy => by
  rcases S.par n (List.of_mem_zip hy).1 with q | q
  · exact .inl q
  · exact .inr ⟨q, PySem.W.cellsFrom_some _ _ _ (.inl q)⟩
 refine codeAny_call_function hr.depth (KX _ _ lk) rfl S.co S.gen rfl (PySem.W.codeRec_of KX hcd) (hb _ _ _ _ ?_)
 refine wpAny_newFunctionEnv_cells S.kind hkind fun env he s1 x => ?_
 subst he
 refine ⟨lim.keeps x.toInCall.keep, codeAny_func ?_⟩
 obtain ⟨t, ht, hq⟩ := hbody A outer s H vs Q E (hr.deeper _) hsp
 have I : Inv (cxOf CX P w K mg base N qual scope f cdv A outer s H E) [] (start N vs) H s1 := inv_start S hr.hd e0 hl r x
 refine wpAny_mono (ht [] s1 (start N vs) H _ I hq) (fun fl s' hs => ?_) fun e s' hs => hs
 have fin : ∀ {σ' : St} {H' : Hp} {v : V} {u : Value}, Inv (cxOf CX P w K mg base N qual scope f cdv A outer s H E) [] σ' H' s' → RelV v u → Q v H' → CE outer P w H s Q u s' :=
  fun {σ' H' v u} J rv q => ⟨v, H', J.os, J.bare, J.base, J.hok, rv, q⟩
 cases fl with
 | ret u =>
  obtain ⟨v, σ', H', J, rv, q⟩ := hs
  exact fin J rv q
 | next =>
  obtain ⟨σ', H', J, q⟩ := hs
  exact fin (v := V.non) (u := Value.none) J rfl q
 | brk =>
  obtain ⟨_, _, _, q⟩ := hs
  exact False.elim q
 | cont =>
  obtain ⟨_, _, _, q⟩ := hs
  exact False.elim q
section
variable {X : Cx} {x : Str} {p pos : Pos} {e : Expr} {es : List Expr} {t : TA} {id T : String} {r : List V → Hp → VK → Prop}
def tCB (r : List V → Hp → VK → Prop) (t : TA) : TE := fun σ H Q => t σ H fun vs H1 => r vs H1 Q
theorem pe_callB (hc : CallR X (.builtin id) r) (hg : Gl X x) (hm : X.mg x = none) (hv : bootBuiltins x = some (.builtin id)) (ha : PA X (e :: es) t) (hn : x ≠ "__name__" := by decide) (hdb : (x == ("__debug__" : Str)) = false := by decide)
 (he : starEach (e :: es) X.env = (false, eval e X.env) :: starEach es X.env := by rfl) (hpl : (backTo pos (starEach es X.env)).any (·.1) = false := by rfl) : PE X (.Call (.Name x p) (e :: es) [] pos) (tCB r t) := by
 intro pins s σ H Q I h
 refine wpAny_Call_Name_kw (ld_blt I hg hm hv ?_ hn hdb)
 exact PyProof.Rows.callWith_builtin1 (thn (ha pos pins s σ H _ I h) fun us s1 ⟨vs, H1, I1, r1, q1⟩ => hc pins s1 σ H1 vs us Q I1 r1 q1) he hpl
theorem pe_callTy (hc : CallR X (.type T) r) (hg : Gl X x) (hm : X.mg x = none) (hv : bootBuiltins x = some (.type T)) (ha : PA X (e :: es) t) (hn : x ≠ "__name__" := by decide) (hdb : (x == ("__debug__" : Str)) = false := by decide)
 (he : starEach (e :: es) X.env = (false, eval e X.env) :: starEach es X.env := by rfl) (hpl : (backTo pos (starEach es X.env)).any (·.1) = false := by rfl) : PE X (.Call (.Name x p) (e :: es) [] pos) (tCB r t) := by
 intro pins s σ H Q I h
 refine wpAny_Call_Name_kw (ld_blt I hg hm hv ?_ hn hdb)
 exact PyProof.Rows.callWith_type1 (thn (ha pos pins s σ H _ I h) fun us s1 ⟨vs, H1, I1, r1, q1⟩ => hc pins s1 σ H1 vs us Q I1 r1 q1) he hpl
end
end L2
namespace HT
open PySem PyProof.Rows
def lexLt : List Int → List Int → Bool
 | [], [] => false
 | [], _ :: _ => true
 | _ :: _, [] => false
 | x :: xs, y :: ys => if x = y then lexLt xs ys else decide (x < y)
theorem lexLt_cons (x y : Int) (xs ys : List Int) : lexLt (x :: xs) (y :: ys) = if x = y then lexLt xs ys else decide (x < y) := rfl
theorem lexLt_nil_nil : lexLt [] [] = false := rfl
theorem lexLt_nil_cons (y : Int) (ys : List Int) : lexLt [] (y :: ys) = true := rfl
theorem lexLt_cons_nil (x : Int) (xs : List Int) : lexLt (x :: xs) [] = false := rfl
theorem rcLt_int (A : Around) (s : Shared) (a : Int) (t : Tok) (c : Int) (u : Tok) (prog : Program) (w : World) (E : Value → Shared → Prop) (Q : Value → Shared → Prop) (h : Q (.bool (decide (a < c))) s) :
 wpAny (model prog w) A (richCompare .Lt (.int a t) (.int c u)) Q E s :=
 (PyProof.Rows.lt_int h : wpAny (model prog w) A (compareOp .Lt (.int a t) (.int c u)) Q E s)
section
variable {prog : Program} {w : World} {A : Around} {E : Value → Shared → Prop} {s : Shared}
theorem cat_tup {t b : Addr} {vs ws : List Value} {Q : Value → Shared → Prop} (ht : IsTup s.heap t vs.toArray) (hb : IsTup s.heap b ws.toArray) (hv : vs ≠ [])
 (h1 : ws = [] → Q (.ref t) s) (h2 : ws ≠ [] → Q (.ref s.heap.objs.size) { s with heap := s.heap.push { cls := .type "tuple", data := .seq (vs ++ ws).toArray } })
 (hsz : vs.length + ws.length ≤ sizeLine) : wpAny (model prog w) A (binaryOp .Add (.ref t) (.ref b)) Q E s := by
 obtain ⟨⟨cls, dd, data, sl⟩, ho, hc, n, hd⟩ := id ht
 obtain ⟨⟨cls2, dd2, data2, sl2⟩, ho2, hc2, n2, hd2⟩ := id hb
 simp only at hc hd hc2 hd2
 subst hc hd hc2 hd2
 have e : vs.toArray ++ ws.toArray = (vs ++ ws).toArray := by simp
 by_cases hw : ws = []
 · exact concat_meets ⟨_, ho, rfl⟩ ⟨_, ho2, rfl⟩ noFill_tuple_add seq_tuple_add PySem.F.slot_tuple_add PySem.F.entry_tuple_add (PySem.F.args_tuple_add_2 _ _)
    (tuple_addW1 t b vs.toArray ws.toArray n n2 dd dd2 sl sl2 (by simpa using hv) (by simp [hw])) ⟨ho, ho2, h1 hw⟩
 · refine concat_meets ⟨_, ho, rfl⟩ ⟨_, ho2, rfl⟩ noFill_tuple_add seq_tuple_add PySem.F.slot_tuple_add PySem.F.entry_tuple_add (PySem.F.args_tuple_add_2 _ _)
    (tuple_addW2 t b vs.toArray ws.toArray n n2 dd dd2 sl sl2 (by simpa using hv) (by simpa using hw) (by rw [List.size_toArray, List.size_toArray]; exact hsz)) ⟨ho, ho2, ?_⟩
   rw [e]
   exact h2 hw
def sIx (n d : Nat) : Option Int → Nat
 | none => d
 | some v => if v < 0 then (v + (n : Int)).toNat else min v.toNat n
theorem sIx_none (n d : Nat) : sIx n d none = d := rfl
theorem sIx_nat (n d k : Nat) : sIx n d (some (k : Int)) = min k n := by
 show (if (k : Int) < 0 then ((k : Int) + (n : Int)).toNat else min (k : Int).toNat n) = min k n
 rw [if_neg (by omega), Int.toNat_natCast]
theorem sIx_le (n d : Nat) (hd : d ≤ n) (o : Option Int) : sIx n d o ≤ n := by
 cases o with
 | none => exact hd
 | some v =>
  show (if v < 0 then (v + (n : Int)).toNat else min v.toNat n) ≤ n
  by_cases hv : v < 0
  · rw [if_pos hv]; omega
  · rw [if_neg hv]; exact Nat.min_le_right _ _
theorem clip_eq (v : Int) (n d : Nat) : (if v < 0 then max (v + (n : Int)) 0 else min v (n : Int)) = ((sIx n d (some v) : Nat) : Int) := by
 show (if v < 0 then max (v + (n : Int)) 0 else min v (n : Int)) = (((if v < 0 then (v + (n : Int)).toNat else min v.toNat n) : Nat) : Int)
 by_cases hv : v < 0
 · simp only [if_pos hv]; omega
 · simp only [if_neg hv]; omega
theorem adjust_gen (lo hi : Option Int) (n : Nat) : Builtin.Slice.sliceAdjust lo hi 1 (n : Int) = (((sIx n 0 lo : Nat) : Int), ((sIx n n hi : Nat) : Int)) := by
 have h1 : ¬ ((1 : Int) < 0) := by omega
 unfold Builtin.Slice.sliceAdjust
 simp only [h1, if_false]
 refine Prod.ext ?_ ?_
 · cases lo with
   | none => rfl
   | some v => exact clip_eq v n 0
 · cases hi with
   | none => rfl
   | some v => exact clip_eq v n n
theorem places_gen (i j : Nat) : Builtin.Slice.slicePlaces (i : Int) (j : Int) 1 = j - i := by
 unfold Builtin.Slice.slicePlaces
 have h1 : (1 : Int) > 0 := by omega
 simp only [h1, if_true, Int.ediv_one]
 split <;> omega
theorem slicePart_ {v : Value} {o : Option Int} {Q : Option Int → Shared → Prop} (p : IsPart v o) (h : Q o s) : wpAny (model prog w) A (Builtin.Slice.slicePartIndex v) Q E s := by
 cases p with
 | none => exact slicePart_none h
 | int i t => exact slicePart_int h
theorem sliceApplied_gen {sl : Addr} {vl vu : Value} {lo hi : Option Int} {n : Nat} {Q : Int × Int × Nat → Shared → Prop} (hs : s.heap.IsSliceOf sl vl vu .none) (pl : IsPart vl lo) (pu : IsPart vu hi)
 (h : Q (((sIx n 0 lo : Nat) : Int), 1, sIx n n hi - sIx n 0 lo) s) : wpAny (model prog w) A (Builtin.Slice.sliceApplied (.ref sl) (pure (n : Int))) Q E s := by
 obtain ⟨os, hos, hcs, hds⟩ := id hs
 unfold Builtin.Slice.sliceApplied Builtin.Slice.sliceFields
 refine wpAny_bind (wpAny_bind (wpAny_field hos hds (x := vl) rfl (wpAny_bind (wpAny_field hos hds (x := vu) rfl (wpAny_bind (wpAny_field hos hds (x := .none) rfl (wpAny_pure ?_)))))))
 refine wpAny_bind (slicePart_none ?_)
 show wpAny _ _ (if ((1 : Int) == 0) = true then _ else _) _ _ s
 rw [if_neg (by decide)]
 refine wpAny_bind (slicePart_ pl (wpAny_bind (slicePart_ pu (wpAny_bind (wpAny_pure ?_)))))
 show wpAny _ _ (match Builtin.Slice.sliceAdjust lo hi 1 (n : Int) with | (lo, hi) => pure (lo, (1 : Int), Builtin.Slice.slicePlaces lo hi 1)) _ _ s
 rw [adjust_gen lo hi n]
 show wpAny _ _ (pure (((sIx n 0 lo : Nat) : Int), (1 : Int), Builtin.Slice.slicePlaces ((sIx n 0 lo : Nat) : Int) ((sIx n n hi : Nat) : Int) 1)) _ _ s
 rw [places_gen]
 exact wpAny_pure h
theorem pick_gen (xs : Array Value) (i k : Nat) : ((List.range k).filterMap fun (m : Nat) => xs[((i : Int) + (m : Int) * 1).toNat]?).toArray = ((xs.toList.drop i).take k).toArray := by
 have e : (fun (m : Nat) => xs[((i : Int) + (m : Int) * 1).toNat]?) = fun m => xs[i + m]? := by
  funext m
  have : ((i : Int) + (m : Int) * 1).toNat = i + m := by omega
  rw [this]
 rw [e]
 have := pick_run xs i k
 rw [List.filterMap_map] at this
 have e2 : ((fun x => xs[x]?) ∘ fun x => i + x) = fun m => xs[i + m]? := rfl
 rw [e2] at this
 rw [this]
theorem getItem_tuple_cut {t sl : Addr} {items : Array Value} {vl vu : Value} {lo hi : Option Int} {Q : Value → Shared → Prop} (ht : IsTup s.heap t items) (hs : s.heap.IsSliceOf sl vl vu .none) (pl : IsPart vl lo) (pu : IsPart vu hi)
 (hw : ¬ (sIx items.size 0 lo = 0 ∧ sIx items.size items.size hi = items.size))
 (h : Q (.ref s.heap.objs.size) { s with heap := s.heap.push { cls := .type "tuple", data := .seq ((items.toList.drop (sIx items.size 0 lo)).take (sIx items.size items.size hi - sIx items.size 0 lo)).toArray } })
 (hsz : items.size ≤ sizeLine) : wpAny (model prog w) A (getItem (.ref t) (.ref sl)) Q E s := by
 have htake : sizeOk (.seq ((items.toList.drop (sIx items.size 0 lo)).take (sIx items.size items.size hi - sIx items.size 0 lo)).toArray) := by
  show ((items.toList.drop (sIx items.size 0 lo)).take (sIx items.size items.size hi - sIx items.size 0 lo)).toArray.size ≤ sizeLine
  rw [List.size_toArray, List.length_take, List.length_drop, Array.length_toList]
  omega
 have hj : sIx items.size items.size hi ≤ items.size := sIx_le _ _ (Nat.le_refl _) hi
 obtain ⟨os, hos, hcs, hds⟩ := id hs
 have hTs : s.TypeIs (.ref sl) "slice" := ⟨os, hos, hcs⟩
 unfold getItem
 try with_reducible refine wpAny_holding ?_
 first | refine wpAny_bind (wpAny_pure ?_) | skip
 refine wpAny_bind (wpAny_sequenceKey ht.typeIs (by decide) ?_)
 refine wpAny_bind (wpAny_callSpecial?_slot (name := Str.ofString "__getitem__") ht.typeIs PyProof.Rows.slot_tuple_getitem
  (wpAny_call_entry PyProof.Rows.slot_tuple_getitem ht.typeIs entry_tuple_getitem ?_ (args_tuple_getitem _ _)))
 show wpAny _ _ (Builtin.Tuple.tupleItemsOf (.ref t) >>= _) _ _ s
 refine wpAny_bind (tupleItemsOf_ ht ?_)
 refine wpAny_bind (wpAny_typeOf hTs ?_)
 rw [if_pos (by decide)]
 refine wpAny_bind (sliceApplied_gen hs pl pu ?_)
 have hno : ¬ ((((sIx items.size 0 lo : Nat) : Int) == 0 && (1 : Int) == 1 && (sIx items.size items.size hi - sIx items.size 0 lo) == items.size) = true) := by
  intro q
  rw [Bool.and_eq_true, Bool.and_eq_true] at q
  have q1 : ((sIx items.size 0 lo : Nat) : Int) = 0 := eq_of_beq q.1.1
  have q2 : sIx items.size items.size hi - sIx items.size 0 lo = items.size := eq_of_beq q.2
  exact hw ⟨by omega, by omega⟩
 show wpAny _ _ (if (((sIx items.size 0 lo : Nat) : Int) == 0 && (1 : Int) == 1 && (sIx items.size items.size hi - sIx items.size 0 lo) == items.size) = true then _ else _) _ _ s
 rw [if_neg hno, pick_gen]
 first
  | exact wpAny_bind (m := Builtin.Tuple.tupleExact _) (wpAny_newObj_type (wpAny_pure ⟨_, rfl, wpAny_pure h⟩) htake)
  | exact wpAny_bind (m := Builtin.Tuple.tupleExact _) (wpAny_newObj_type (wpAny_bind (wpAny_pure (wpAny_pure ⟨_, rfl, wpAny_pure h⟩))) htake)
  | exact wpAny_bind (wpAny_bind (m := Builtin.Tuple.tupleExact _) (wpAny_newObj_type (wpAny_pure (wpAny_pure ⟨_, rfl, wpAny_pure h⟩)) htake))
  | exact wpAny_bind (wpAny_bind (m := Builtin.Tuple.tupleExact _) (wpAny_newObj_type (wpAny_pure ⟨_, rfl, wpAny_pure h⟩) htake))
end
end HT
namespace L2
open PySem PySem.Spec PyProof.Rows
abbrev TO := St → Hp → (Option Int → Hp → Prop) → Prop
def PO (X : Cx) (e : Option Expr) (t : TO) : Prop :=
 ∀ (pins : List (Addr × Obj)) (s : Shared) (σ : St) (H : Hp) (Q : Option Int → Hp → Prop), Inv X pins σ H s → t σ H Q →
  wpAny (model X.prog X.w) X.A (evalPart e X.env) (fun u s' => ∃ o H', Inv X pins σ H' s' ∧ IsPart u o ∧ Q o H') X.xe s
def tNoPart : TO := fun _ H Q => Q none H
def tPart (t : TE) : TO := fun σ H Q => t σ H fun x H1 => ∃ i, x = .int i ∧ Q (some i) H1
theorem intsAre_of {ns : List Int} : ∀ {us : List Value}, Vals (ns.map V.int) us → IntsAre us ns := by
 induction ns with
 | nil => intro us r; rw [List.map_nil] at r; cases r; exact .nil
 | cons n ns ih =>
  intro us r
  rw [List.map_cons] at r
  cases r with
  | cons r1 r2 =>
   obtain ⟨t, e⟩ := r1
   subst e
   exact .cons n t (ih r2)
section
variable {X : Cx} {e : Expr} {te : TE} {lo hi : Option Expr} {tl th : TO} {pos p2 : Pos}
theorem po_none : PO X none tNoPart := by
 intro pins s σ H Q I h
 rw [evalPart_none]
 exact wpAny_pure ⟨none, H, I, .none, h⟩
theorem po_some (h : PE X e te) : PO X (some e) (tPart te) := by
 intro pins s σ H Q I hw
 rw [evalPart_some]
 refine thn (h pins s σ H _ I hw) fun u s1 ⟨x, H1, I1, r1, q1⟩ => ?_
 obtain ⟨i, rfl, q⟩ := q1
 obtain ⟨t, rfl⟩ := r1
 exact ⟨some i, H1, I1, .int i t, q⟩
def SlR (X : Cx) (r : V → Option Int → Option Int → Hp → VK → Prop) : Prop :=
 ∀ (pins : List (Addr × Obj)) (s : Shared) (σ : St) (H : Hp) (x : V) (v vl vu : Value) (lo hi : Option Int) (sl : Addr) (Q : VK), Inv X pins σ H s → RelV x v → s.heap.IsSliceOf sl vl vu .none → IsPart vl lo → IsPart vu hi → r x lo hi H Q →
  ∃ T id, typeLookup (.type T) "__getitem__" = pure (some (.builtin id)) ∧ s.TypeIs v T ∧ wpAny (model X.prog X.w) X.A (getItem v (.ref sl)) (EP X pins σ Q) X.xe s
def tSl (r : V → Option Int → Option Int → Hp → VK → Prop) (te : TE) (tl th : TO) : TE := fun σ H Q => te σ H fun x H1 => tl σ H1 fun l H2 => th σ H2 fun u H3 => r x l u H3 Q
theorem pe_slice {r : V → Option Int → Option Int → Hp → VK → Prop} (hr : SlR X r) (he : PE X e te) (hl : PO X lo tl) (hu : PO X hi th) : PE X (.Subscript e (.Slice lo hi none p2) pos) (tSl r te tl th) := by
 intro pins s σ H Q I h
 refine Subscript_ (thn (he pins s σ H _ I h) fun v s1 ⟨x, H1, I1, r1, q1⟩ => ?_)
 refine wpAny_Slice (thn (hl pins s1 σ H1 _ I1 q1) fun vl s2 ⟨l, H2, I2, pl, q2⟩ => thn (hu pins s2 σ H2 _ I2 q2) fun vu s3 ⟨u, H3, I3, pu, q3⟩ => ?_)
 rw [evalPart_none]
 refine wpAny_pure ?_
 have I4 : Inv X pins σ H3 { s3 with heap := s3.heap.push { cls := .type "slice", data := .fields #[vl, vu, .none] } } := I3.kept (t' := s3.toks) fun b ob q => Heap.get?_push_of_some _ q
 obtain ⟨T, id, hT, ht, hg⟩ := hr pins { s3 with heap := s3.heap.push { cls := .type "slice", data := .fields #[vl, vu, .none] } } σ H3 x v vl vu l u s3.heap.objs.size Q I4 r1 (Heap.IsSliceOf.new ..) pl pu q3
 show wpAny (model X.prog X.w) X.A (subscriptTail e (.Slice lo hi none p2) v (.ref s3.heap.objs.size)) (EP X pins σ Q) X.xe { s3 with heap := s3.heap.push { cls := .type "slice", data := .fields #[vl, vu, .none] } }
 exact tail_any (ops := [.ref s3.heap.objs.size, v]) ht hT hg (by with_unfolding_all rfl)
def cutV (xs : List V) (lo hi : Option Int) : List V := (xs.drop (HT.sIx xs.length 0 lo)).take (HT.sIx xs.length xs.length hi - HT.sIx xs.length 0 lo)
theorem cutV_length (xs : List V) (lo hi : Option Int) : (cutV xs lo hi).length ≤ xs.length := by
 unfold cutV
 rw [List.length_take, List.length_drop]
 omega
def rSlT (K : PySem.W.Frag) : V → Option Int → Option Int → Hp → VK → Prop := fun x lo hi H Q => ∃ a xs, x = .ref a ∧ SqT K H a xs ∧
 ¬ (HT.sIx xs.length 0 lo = 0 ∧ HT.sIx xs.length xs.length hi = xs.length) ∧ ∀ p, H p = none → Q (.ref p) (upd H p (.tup (cutV xs lo hi)))
theorem sl_tup : SlR X (rSlT X.K) := by
 intro pins s σ H x v vl vu lo hi sl Q I rx hs pl pu h
 obtain ⟨a, xs, rfl, hx, hw, q⟩ := h
 cases rx
 obtain ⟨its, r, ht, hz⟩ := I.tuple hx
 have hlen : its.toArray.size = xs.length := by rw [List.size_toArray]; exact r.length.symm
 refine ⟨"tuple", _, PyProof.Rows.slot_tuple_getitem.lookup, ht.typeIs, ?_⟩
 refine HT.getItem_tuple_cut ht hs pl pu (by rw [hlen]; exact hw) ?_ (by rw [hlen]; exact hz)
 rw [hlen]
 refine ⟨.ref s.heap.objs.size, _, I.laid (t' := s.toks) (o := .tup (cutV xs lo hi)) (fun b ob q => Heap.get?_push_of_some _ q) (Nat.le_refl _) ?_, rfl, q _ (I.hok.fresh (Nat.le_refl _))⟩
 exact ⟨Nat.le_trans (cutV_length xs lo hi) hz, _, (r.drop (HT.sIx xs.length 0 lo)).take (HT.sIx xs.length xs.length hi - HT.sIx xs.length 0 lo), IsTup.new _ _⟩
def rCatT (K : PySem.W.Frag) : R2 := fun x y H Q => ∃ a b xs ys, x = .ref a ∧ y = .ref b ∧ SqT K H a xs ∧ SqT K H b ys ∧ xs ≠ [] ∧ xs.length + ys.length ≤ sizeLine ∧
 (ys = [] → Q (.ref a) H) ∧ (ys ≠ [] → ∀ p, H p = none → Q (.ref p) (upd H p (.tup (xs ++ ys))))
theorem Vals.nil_iff {xs : List V} {us : List Value} (r : Vals xs us) : us = [] ↔ xs = [] := by
 cases r with
 | nil => simp
 | cons _ _ => simp
theorem op_catT : OpR X (binaryOp .Add) (rCatT X.K) := by
 intro pins s σ H x y v u Q I rx ry h
 obtain ⟨a, b, xs, ys, rfl, rfl, ha, hb, hx, hz, q1, q2⟩ := h
 cases rx
 cases ry
 obtain ⟨its, r1, p1, _⟩ := I.tuple ha
 obtain ⟨its2, r2, p2, _⟩ := I.tuple hb
 refine HT.cat_tup p1 p2 (fun z => hx (r1.nil_iff.mp z)) (fun z => ⟨.ref a, H, I, rfl, q1 (r2.nil_iff.mp z)⟩) (fun z => ?_) (by rw [← r1.length, ← r2.length]; exact hz)
 refine ⟨.ref s.heap.objs.size, _, I.laid (t' := s.toks) (o := .tup (xs ++ ys)) (fun b ob q => Heap.get?_push_of_some _ q) (Nat.le_refl _) ?_, rfl, q2 (fun w => z (r2.nil_iff.mpr w)) _ (I.hok.fresh (Nat.le_refl _))⟩
 exact ⟨by rw [List.length_append]; exact hz, _, r1.append r2, IsTup.new _ _⟩
end
def ixN (n : Nat) (i : Int) : Option Nat := if 0 ≤ i then (if i < n then some i.toNat else none) else if -(n : Int) ≤ i then some (i + n).toNat else none
def atI {α : Type} (xs : List α) (i : Int) : Option α := (ixN xs.length i).bind fun j => xs[j]?
theorem ixN_seq {n : Nat} {i : Int} {j : Nat} (h : ixN n i = some j) : seqIndex? i n = some j ∧ j < n ∧ -(n : Int) ≤ i ∧ i < n := by
 unfold ixN at h
 by_cases h0 : 0 ≤ i
 · rw [if_pos h0] at h
   by_cases h1 : i < n
   · rw [if_pos h1] at h
     have e : i.toNat = j := Option.some.inj h
     exact ⟨by rw [seqIndex_of h0 h1, e], by omega, by omega, h1⟩
   · rw [if_neg h1] at h; cases h
 · rw [if_neg h0] at h
   by_cases h1 : -(n : Int) ≤ i
   · rw [if_pos h1] at h
     have e : (i + n).toNat = j := Option.some.inj h
     exact ⟨by rw [seqIndex_neg (by omega) h1, e], by omega, h1, by omega⟩
   · rw [if_neg h1] at h; cases h
theorem atI_get {α : Type} {xs : List α} {i : Int} {v : α} (h : atI xs i = some v) : ∃ j, seqIndex? i xs.length = some j ∧ xs[j]? = some v ∧ j < xs.length ∧ -(xs.length : Int) ≤ i ∧ i < xs.length := by
 unfold atI at h
 cases e : ixN xs.length i with
 | none => rw [e] at h; cases h
 | some j =>
  rw [e] at h
  obtain ⟨h1, h2, h3, h4⟩ := ixN_seq e
  exact ⟨j, h1, h, h2, h3, h4⟩
theorem atI_nat {α : Type} {xs : List α} {j : Nat} {v : α} (h : xs[j]? = some v) : atI xs (j : Int) = some v := by
 have hj : j < xs.length := (List.getElem?_eq_some_iff.mp h).1
 have e : ixN xs.length (j : Int) = some j := by
  unfold ixN
  rw [if_pos (by omega), if_pos (by omega)]; simp
 unfold atI; rw [e]; exact h
def PlainIx (b : Expr) : Prop := ∀ o i, subscripted b false o i = operate [o, i] (getItem o i)
def IxR (X : Cx) (r : R2) : Prop :=
 ∀ (value slice : Expr) (pins : List (Addr × Obj)) (s : Shared) (σ : St) (H : Hp) (x y : V) (v u : Value) (Q : VK), Inv X pins σ H s → RelV x v → RelV y u → r x y H Q →
  subscripted slice false v u = operate [v, u] (getItem v u) → wpAny (model X.prog X.w) X.A (subscriptTail value slice v u) (EP X pins σ Q) X.xe s
def MtR (X : Cx) (id : String) (r : V → List V → Hp → VK → Prop) : Prop :=
 ∀ (pins : List (Addr × Obj)) (s : Shared) (σ : St) (H : Hp) (x : V) (xs : List V) (v : Value) (us : List Value) (Q : VK), Inv X pins σ H s → RelV x v → Vals xs us → r x xs H Q →
  wpAny (model X.prog X.w) X.A (call (.builtin id) (v :: us)) (EP X pins σ Q) X.xe s
section
variable {X : Cx} {a b : Expr} {ta tb : TE} {pos : Pos}
theorem IxR.or {r r' : R2} (h : IxR X r) (h' : IxR X r') : IxR X (fun x y H Q => r x y H Q ∨ r' x y H Q) := by
 intro value slice pins s σ H x y v u Q I rx ry q hs
 rcases q with q | q
 · exact h value slice pins s σ H x y v u Q I rx ry q hs
 · exact h' value slice pins s σ H x y v u Q I rx ry q hs
theorem MtR.or {id : String} {r r' : V → List V → Hp → VK → Prop} (h : MtR X id r) (h' : MtR X id r') : MtR X id (fun x xs H Q => r x xs H Q ∨ r' x xs H Q) := by
 intro pins s σ H x xs v us Q I rx rs q
 rcases q with q | q
 · exact h pins s σ H x xs v us Q I rx rs q
 · exact h' pins s σ H x xs v us Q I rx rs q
theorem pe_ix {r : R2} (hr : IxR X r) (ha : PE X a ta) (hb : PE X b tb) (hs : PlainIx b) : PE X (.Subscript a b pos) (tOp r ta tb) := by
 intro pins s σ H Q I h
 exact Subscript_ (binT ha hb I h fun v u s2 x y H2 I2 rx ry q => hr a b pins s2 σ H2 x y v u Q I2 rx ry q (hs _ _))
def rIxL (K : PySem.W.Frag) : R2 := fun x y H Q => ∃ p xs i v, x = .ref p ∧ y = .int i ∧ SqL K H p xs ∧ atI xs i = some v ∧ Q v H
def rIxT (K : PySem.W.Frag) : R2 := fun x y H Q => ∃ p xs i v, x = .ref p ∧ y = .int i ∧ SqT K H p xs ∧ atI xs i = some v ∧ Q v H
def rIxS : R2 := fun x y H Q => ∃ z i c, x = .str z ∧ y = .int i ∧ z.length ≤ sizeLine ∧ atI z.cps.toList i = some c ∧ Q (.str ⟨#[c]⟩) H
theorem ix_list : IxR X (rIxL X.K) := by
 intro value slice pins s σ H x y v u Q I rx ry h hs
 obtain ⟨p, xs, i, z, rfl, rfl, hq, he, q⟩ := h
 cases rx
 obtain ⟨t, rfl⟩ := ry
 obtain ⟨its, r, pl, hz⟩ := I.list hq
 obtain ⟨j, h1, h2, h3, h4, h5⟩ := atI_get he
 obtain ⟨w, ew, rw'⟩ := r.get h2
 have hl := r.length
 have hn := line63
 have fin : EP X pins σ Q w s := ⟨z, H, I, rw', q⟩
 by_cases h0 : 0 ≤ i
 · have hj : i.toNat = j := by
    rw [seqIndex_of h0 h5] at h1
    exact Option.some.inj h1
   exact item_listR pl.isList h0 (by omega) (by rw [hj]; simpa using ew) fin hs
 · have hj : (i + (its.toArray.size : Int)).toNat = j := by
    rw [seqIndex_neg (by omega) h4] at h1
    rw [List.size_toArray, ← hl]
    exact Option.some.inj h1
   exact subscriptTail_builtinR (x := w) pl.isList.typeIs slot_list_getitem.lookup
    (wpAny_getItem_list_neg (Q := fun r s' => r = w ∧ EP X pins σ Q r s') pl.isList (by omega) (by rw [List.size_toArray] <;> omega) (by omega) (by rw [hj]; simpa using ew) ⟨rfl, fin⟩) hs
theorem ix_tup : IxR X (rIxT X.K) := by
 intro value slice pins s σ H x y v u Q I rx ry h hs
 obtain ⟨p, xs, i, z, rfl, rfl, hq, he, q⟩ := h
 cases rx
 obtain ⟨t, rfl⟩ := ry
 obtain ⟨its, r, pl, hz⟩ := I.tuple hq
 obtain ⟨j, h1, h2, h3, h4, h5⟩ := atI_get he
 obtain ⟨w, ew, rw'⟩ := r.get h2
 have hl := r.length
 have hn := line63
 have fin : EP X pins σ Q w s := ⟨z, H, I, rw', q⟩
 exact subscriptTail_builtinR (x := w) pl.typeIs slot_tuple_getitem.lookup
  (getItem_tuple (j := j) (Q := fun r s' => r = w ∧ EP X pins σ Q r s') pl (by omega) (by omega) (by rw [List.size_toArray, ← hl]; exact h1) (by simpa using ew) ⟨rfl, fin⟩) hs
theorem ix_str : IxR X rIxS := by
 intro value slice pins s σ H x y v u Q I rx ry h hs
 obtain ⟨z, i, c, rfl, rfl, hz, he, q⟩ := h
 obtain ⟨t, rfl⟩ := rx
 obtain ⟨t', rfl⟩ := ry
 obtain ⟨j, h1, h2, h3, h4, h5⟩ := atI_get he
 have hl : z.cps.toList.length = z.length := by simp [Str.length]
 rw [hl] at h1 h4 h5
 have hn := line63
 exact tail_any (typeIs_str s z t) slot_str_getitem.lookup (getItem_str (c := c) (by
  have e1 : decide (i < -(2 ^ 63 : Int)) = false := decide_eq_false (by omega)
  have e2 : decide (i ≥ 2 ^ 63) = false := decide_eq_false (by omega)
  rw [e1, e2, Bool.or_false]) (by rw [h1]; simpa using h2) ⟨.str ⟨#[c]⟩, H, I.tok _, ⟨_, rfl⟩, q⟩) hs
def rIx (K : PySem.W.Frag) : R2 := fun x y H Q => rIxL K x y H Q ∨ rIxT K x y H Q ∨ rIxS x y H Q
theorem ix_seq : IxR X (rIx X.K) := ix_list.or (ix_tup.or ix_str)
theorem mapSeq_set (its : List Value) (n j : Nat) (u : Value) : Obj.mapSeq (·.setIfInBounds j u) { cls := .type "list", data := .seq its.toArray n } = { cls := .type "list", data := .seq (its.set j u).toArray n } := by
 simp [Obj.mapSeq]
theorem Inv.lst {pins : List (Addr × Obj)} {σ : St} {H : Hp} {s : Shared} {p : Addr} {xs : List V} (I : Inv X pins σ H s) (h : H p = some (.lst xs)) :
 ∃ (its : List Value) (n : Nat), Vals xs its ∧ s.heap.get? p = some { cls := .type "list", data := .seq its.toArray n } ∧ xs.length ≤ sizeLine := by
 obtain ⟨z, its, n, r, e⟩ := I.hok p _ h
 exact ⟨its, n, r, e, z⟩
theorem Inv.lstUpd {pins : List (Addr × Obj)} {σ : St} {H : Hp} {s : Shared} {p : Addr} {xs ys : List V} {its its' : List Value} {n n' : Nat} {f : Obj → Obj} (I : Inv X pins σ H s) (h : H p = some (.lst xs))
 (ho : s.heap.get? p = some { cls := .type "list", data := .seq its.toArray n }) (hf : f { cls := .type "list", data := .seq its.toArray n } = { cls := .type "list", data := .seq its'.toArray n' }) (r : Vals ys its') (hz : ys.length ≤ sizeLine) (t : Nat) :
 Inv X pins σ (upd H p (.lst ys)) { s with heap := s.heap.update p f, toks := t } := by
 have e : (s.heap.update p f).get? p = some { cls := .type "list", data := .seq its'.toArray n' } := by
  rw [Heap.get?_update_self f ho (by rw [hf] <;> rfl), hf]
 refine I.write (x := p) (e := p) (by rw [h]; trivial) (.inl rfl) (fun b u hb q => (Heap.get?_update_other _ _ (Ne.symm hb)).trans q) ⟨_, e⟩ ?_
 exact ⟨hz, its', n', r, e⟩
def rSetL : V → V → V → Hp → (Hp → Prop) → Prop := fun o i v H Q => ∃ p xs k j, o = .ref p ∧ i = .int k ∧ H p = some (.lst xs) ∧ ixN xs.length k = some j ∧ Q (upd H p (.lst (xs.set j v)))
theorem set_list : PSet X rSetL := by
 intro pins s σ H o i v ov iv u Q I ro ri rv h
 obtain ⟨p, xs, k, j, rfl, rfl, hp, hj, q⟩ := h
 cases ro
 obtain ⟨t, rfl⟩ := ri
 obtain ⟨its, n, r, ho, hz⟩ := I.lst hp
 obtain ⟨h1, h2, h3, h4⟩ := ixN_seq hj
 have hl := r.length
 have hn := line63
 have I' : Inv X pins σ (upd H p (.lst (xs.set j v))) { s with heap := s.heap.update p (Obj.mapSeq (·.setIfInBounds j u)) } :=
  I.lstUpd hp ho (mapSeq_set its n j u) (r.set rv j) (by rw [List.length_set]; exact hz) s.toks
 by_cases h0 : 0 ≤ k
 · have hk : k.toNat = j := by
    rw [seqIndex_of h0 h4] at h1
    exact Option.some.inj h1
   exact PySem.W.ki_setAt ho h0 (by omega) (by rw [List.size_toArray, ← hl]; exact h4) (by rw [hk]; exact ⟨_, I', q⟩)
 · have hk : (k + (its.toArray.size : Int)).toNat = j := by
    rw [seqIndex_neg (by omega) h3] at h1
    rw [List.size_toArray, ← hl]
    exact Option.some.inj h1
   exact PySem.W.ki_setBack ho (by omega) (by rw [List.size_toArray, ← hl]; exact h3) (by omega) (by rw [hk]; exact ⟨_, I', q⟩)
theorem slice_bounds (lo hi : Option Int) (n : Nat) : (sliceBounds lo hi none n).1 = ((HT.sIx n 0 lo : Nat) : Int) ∧ (sliceBounds lo hi none n).2.1 = ((HT.sIx n n hi : Nat) : Int) ∧ (sliceBounds lo hi none n).2.2 = 1 := by
 refine ⟨?_, ?_, rfl⟩
 · cases lo with
   | none => simp [sliceBounds, HT.sIx]
   | some i =>
    simp only [sliceBounds, HT.sIx, Option.getD_none, show (1 : Int) > 0 by decide, if_true]
    by_cases h : i < 0
    · simp only [h, if_true] <;> omega
    · simp only [h, if_false] <;> omega
 · cases hi with
   | none => simp [sliceBounds, HT.sIx]
   | some i =>
    simp only [sliceBounds, HT.sIx, Option.getD_none, show (1 : Int) > 0 by decide, if_true]
    by_cases h : i < 0
    · simp only [h, if_true] <;> omega
    · simp only [h, if_false] <;> omega
theorem slicePick_cut (its : List Value) (lo hi : Option Int) : slicePick its.toArray lo hi none = ((its.drop (HT.sIx its.length 0 lo)).take (HT.sIx its.length its.length hi - HT.sIx its.length 0 lo)).toArray := by
 obtain ⟨h1, h2, h3⟩ := slice_bounds lo hi its.toArray.size
 unfold slicePick
 rw [h1, h2, h3]
 simp only [sliceRange_one, pick_run, List.size_toArray] <;> rfl
def rSlL (K : PySem.W.Frag) : V → Option Int → Option Int → Hp → VK → Prop := fun x lo hi H Q => ∃ a xs, x = .ref a ∧ SqL K H a xs ∧ ∀ p, H p = none → Q (.ref p) (upd H p (.lst (cutV xs lo hi)))
theorem sl_list : SlR X (rSlL X.K) := by
 intro pins s σ H x v vl vu lo hi sl Q I rx hs pl pu h
 obtain ⟨a, xs, rfl, hx, q⟩ := h
 cases rx
 obtain ⟨its, r, ht, hz⟩ := I.list hx
 have hlen := r.length
 refine ⟨"list", _, slot_list_getitem.lookup, ht.isList.typeIs, ?_⟩
 refine wpAny_getItem_list_slice ht.isList hs pl pu .none (by simp) ?_ (by rw [List.size_toArray] <;> omega)
 rw [slicePick_cut, ← hlen]
 refine ⟨.ref s.heap.objs.size, _, I.laid (t' := s.toks) (o := .lst (cutV xs lo hi)) (fun b ob q => Heap.get?_push_of_some _ q) (Nat.le_refl _) ?_, rfl, q _ (I.hok.fresh (Nat.le_refl _))⟩
 exact ⟨Nat.le_trans (cutV_length xs lo hi) hz, _, 0, (r.drop (HT.sIx xs.length 0 lo)).take (HT.sIx xs.length xs.length hi - HT.sIx xs.length 0 lo), Heap.get?_push_size _ rfl⟩
theorem call_len_seq : CallR X (.builtin "len") (fun xs H Q => ∃ p ys, xs = [.ref p] ∧ (SqL X.K H p ys ∨ SqT X.K H p ys) ∧ Q (.int ys.length) H) := by
 intro pins s σ H xs us Q I r h
 obtain ⟨p, ys, rfl, hq, q⟩ := h
 obtain ⟨u, rfl, rx⟩ := vals1 r
 cases rx
 have hn := line63
 rcases hq with hq | hq
 · obtain ⟨its, r', pl, hz⟩ := I.list hq
   have hlen := r'.length
   exact Calls.call_len_list pl.isList (by simp only [List.size_toArray] <;> omega) ⟨.int ys.length, H, I.tok _, ⟨s.toks + 1, by rw [List.size_toArray, hlen]⟩, q⟩
 · obtain ⟨its, r', pl, hz⟩ := I.tuple hq
   have hlen := r'.length
   exact len_tuple pl (by simp only [List.size_toArray] <;> omega) ⟨.int ys.length, H, I.tok _, ⟨s.toks + 1, by rw [List.size_toArray, hlen]⟩, q⟩
theorem call_len_str : CallR X (.builtin "len") (fun xs H Q => ∃ z, xs = [.str z] ∧ z.length ≤ sizeLine ∧ Q (.int z.length) H) := by
 intro pins s σ H xs us Q I r h
 obtain ⟨z, rfl, hz, q⟩ := h
 obtain ⟨u, rfl, t, rfl⟩ := vals1 r
 have hn := line63
 exact len_str (by omega) ⟨.int z.length, H, I.tok _, ⟨_, rfl⟩, q⟩
theorem CallR.or {f : Value} {r r' : List V → Hp → VK → Prop} (h : CallR X f r) (h' : CallR X f r') : CallR X f (fun xs H Q => r xs H Q ∨ r' xs H Q) := by
 intro pins s σ H xs us Q I rs q
 rcases q with q | q
 · exact h pins s σ H xs us Q I rs q
 · exact h' pins s σ H xs us Q I rs q
theorem call_list_of : CallR X (.type "list") (fun xs H Q => ∃ p ys, xs = [.ref p] ∧ (SqL X.K H p ys ∨ SqT X.K H p ys) ∧ ∀ l, H l = none → Q (.ref l) (upd H l (.lst ys))) := by
 intro pins s σ H xs us Q I r h
 obtain ⟨p, ys, rfl, hq, q⟩ := h
 obtain ⟨u, rfl, rx⟩ := vals1 r
 cases rx
 have fin : ∀ (its : List Value), Vals ys its → ys.length ≤ sizeLine → ∀ (h' : Heap) (c' : Nat), (∀ b o', s.heap.get? b = some o' → h'.get? b = some o') →
  h'.get? s.heap.objs.size = some { cls := .type "list", dict := none, data := .seq its.toArray c', slots := #[] } → EP X pins σ Q (.ref s.heap.objs.size) { s with heap := h' } := fun its r' hz h' c' kp e =>
  ⟨.ref s.heap.objs.size, _, I.laid (t' := s.toks) kp (Nat.le_refl _) (show ObjOk X.prog X.w _ h' _ (.lst ys) from ⟨hz, its, c', r', e⟩), rfl, q _ (I.hok.fresh (Nat.le_refl _))⟩
 rcases hq with hq | hq
 · obtain ⟨its, r', pl, hz⟩ := I.list hq
   have hlen := r'.length
   obtain ⟨o, ho, hc, n, hd⟩ := pl.isList
   exact call_list_seq p (.inl rfl) ho hc hd (fun h' c' kp e => fin its r' hz h' c' kp e) (by simp only [List.size_toArray] <;> omega)
 · obtain ⟨its, r', pl, hz⟩ := I.tuple hq
   have hlen := r'.length
   obtain ⟨o, ho, hc, n, hd⟩ := pl
   exact call_list_seq p (.inr rfl) ho hc hd (fun h' c' kp e => fin its r' hz h' c' kp e) (by simp only [List.size_toArray] <;> omega)
theorem call_tuple_of : CallR X (.type "tuple") (fun xs H Q => ∃ p ys, xs = [.ref p] ∧ ((SqL X.K H p ys ∧ ∀ l, H l = none → Q (.ref l) (upd H l (.tup ys))) ∨ (SqT X.K H p ys ∧ Q (.ref p) H))) := by
 intro pins s σ H xs us Q I r h
 obtain ⟨p, ys, rfl, h⟩ := h
 obtain ⟨u, rfl, rx⟩ := vals1 r
 cases rx
 rcases h with ⟨hq, q⟩ | ⟨hq, q⟩
 · obtain ⟨its, r', pl, hz⟩ := I.list hq
   have hlen := r'.length
   refine call_tuple_list pl.isList (fun h' kp => ?_) (by simp only [List.size_toArray] <;> omega)
   have I1 : Inv X pins σ H { s with heap := h' } := I.kept (t' := s.toks) kp
   have I2 : Inv X pins σ (upd H h'.objs.size (.tup ys)) { s with heap := h'.push { cls := .type "tuple", data := .seq its.toArray } } :=
    I1.laid (t' := s.toks) (fun b o e => Heap.get?_push_of_some _ e) (Nat.le_refl _) (show ObjOk X.prog X.w _ _ _ (.tup ys) from ⟨hz, its, r', IsTup.new _ _⟩)
   exact ⟨.ref h'.objs.size, _, I2, rfl, q _ (I1.hok.fresh (Nat.le_refl _))⟩
 · obtain ⟨its, r', pl, hz⟩ := I.tuple hq
   exact call_tuple_same pl ⟨.ref p, H, I, rfl, q⟩
def tyV (K : PySem.W.Frag) (T : String) (x : V) (H : Hp) : Prop := match x with
 | .str _ => T = "str"
 | .int _ => T = "int"
 | .ref p => (T = "list" ∧ ∃ xs, SqL K H p xs) ∨ (T = "tuple" ∧ ∃ o, K.lookup p = some o ∧ o.cls = .type "tuple" ∧ o.dict = none) ∨
  (T = "dict" ∧ ((∃ kvs, H p = some (.dK kvs)) ∨ ∃ kvs, H p = some (.dT kvs))) ∨ (T = "set" ∧ ∃ S n, H p = some (.set S n))
 | _ => False
theorem tyV_is {pins : List (Addr × Obj)} {σ : St} {H : Hp} {s : Shared} {T : String} {x : V} {v : Value} (I : Inv X pins σ H s) (r : RelV x v) (ty : tyV X.K T x H) :
 s.TypeIs v T ∧ ∀ a, v = .ref a → ∃ ob, s.heap.get? a = some ob ∧ ob.dict = none := by
 cases x with
 | str z =>
  obtain ⟨t, rfl⟩ := r
  cases (show T = "str" from ty)
  exact ⟨typeIs_str s z t, fun _ e => nomatch e⟩
 | int i =>
  obtain ⟨t, rfl⟩ := r
  cases (show T = "int" from ty)
  exact ⟨typeIs_int s i t, fun _ e => nomatch e⟩
 | ref p =>
  cases r
  rcases ty with ⟨rfl, xs, hq⟩ | ⟨rfl, o, hk, hc, hd⟩ | ⟨rfl, hk⟩ | ⟨rfl, S, n, hk⟩
  · obtain ⟨its, _, pl, _⟩ := I.list hq
    refine ⟨pl.isList.typeIs, fun a e => ?_⟩
    cases e
    obtain ⟨o, n, e, c, hd, _⟩ := pl
    exact ⟨o, e, hd⟩
  · refine ⟨⟨o, I.kIn p o hk, hc⟩, fun a e => ?_⟩
    cases e
    exact ⟨o, I.kIn _ o hk, hd⟩
  · have z : ∃ o, s.heap.get? p = some o ∧ o.ExactDict := by
     rcases hk with ⟨kvs, hk⟩ | ⟨kvs, hk⟩
     · obtain ⟨_, _, _, _, o, _, _, e, ex, _⟩ := I.hok p _ hk
       exact ⟨o, e, ex⟩
     · obtain ⟨_, _, _, _, o, _, _, e, ex, _⟩ := I.hok p _ hk
       exact ⟨o, e, ex⟩
    obtain ⟨o, e, ex⟩ := z
    refine ⟨⟨o, e, ex.1⟩, fun a e2 => ?_⟩
    cases e2
    exact ⟨o, e, ex.2.1⟩
  · obtain ⟨o, _, _, _, e, ex, _⟩ := I.hok p _ hk
    refine ⟨⟨o, e, ex.1⟩, fun a e2 => ?_⟩
    cases e2
    exact ⟨o, e, ex.2.1⟩
 | _ => exact False.elim ty
def tBM0 (K : PySem.W.Frag) (T : String) (r : V → List V → Hp → VK → Prop) (to : TE) : TE := fun σ H Q => to σ H fun x H1 => tyV K T x H1 ∧ r x [] H1 Q
def tBM (K : PySem.W.Frag) (T : String) (r : V → List V → Hp → VK → Prop) (to : TE) (t : TA) : TE := fun σ H Q => to σ H fun x H1 => tyV K T x H1 ∧ t σ H1 fun xs H2 => r x xs H2 Q
variable {o e : Expr} {es : List Expr} {to : TE} {t : TA} {name : Str} {apos cpos : Pos} {T id : String} {r : V → List V → Hp → VK → Prop}
theorem pe_bm0 (pa : PlainAttrs T) (slot : Slot T name id) (hty : typeOf (.builtin id) = pure (.type "method_descriptor")) (hm : MtR X id r) (ho : PE X o to)
 (hbase : attributeBase o name X.env (eval o X.env) = eval o X.env := by rfl) (hline : (apos.endLine == cpos.line) = true := by rfl) : PE X (.Call (.Attribute o name apos) [] [] cpos) (tBM0 X.K T r to) := by
 intro pins s σ H Q I h
 refine wpAny_Call_method0_late hbase hline (thn (ho pins s σ H _ I h) fun v s1 ⟨x, H1, I1, r1, ty, q1⟩ => ?_)
 obtain ⟨h1, h2⟩ := tyV_is I1 r1 ty
 exact ⟨T, id, pa, slot, hty, h1, h2, Calls.callWith_builtin rfl (PySem.evalArgs_none (hm pins s1 σ H1 x [] v [] Q I1 r1 .nil q1))⟩
theorem pe_bm (pa : PlainAttrs T) (slot : Slot T name id) (hty : typeOf (.builtin id) = pure (.type "method_descriptor")) (hm : MtR X id r) (ho : PE X o to) (ha : PA X (e :: es) t)
 (hbase : attributeBase o name X.env (eval o X.env) = eval o X.env := by rfl)
 (hfew : ((backTo cpos (starEach (e :: es) X.env)).all (fun x => !x.1) && (backToKw cpos (keywordEach [] X.env)).all (fun x => x.1.isSome)
  && decide ((e :: es).length + ([] : List Keyword).length + (if ([] : List Keyword).isEmpty then 0 else 1) < 30)) = true := by rfl)
 (hline : (apos.endLine == cpos.line) = true := by rfl) (hs : starEach (e :: es) X.env = (false, eval e X.env) :: starEach es X.env := by rfl) (hplain : (backTo cpos (starEach es X.env)).any (·.1) = false := by rfl) :
 PE X (.Call (.Attribute o name apos) (e :: es) [] cpos) (tBM X.K T r to t) := by
 intro pins s σ H Q I h
 refine wpAny_Call_method_late hbase hfew hline rfl (thn (ho pins s σ H _ I h) fun v s1 ⟨x, H1, I1, r1, ty, q1⟩ => ?_)
 obtain ⟨h1, h2⟩ := tyV_is I1 r1 ty
 refine ⟨T, id, pa, slot, hty, h1, h2, ?_⟩
 have hA := ha cpos pins s1 σ H1 _ I1 q1
 rw [hs] at hA ⊢
 refine Calls.callWith_builtin (by show (false || (backTo cpos (starEach es X.env)).any (·.1)) = false; rw [hplain] <;> rfl) (Calls.evalArgs_plain ?_)
 exact thn hA fun us s2 ⟨vs, H2, I2, r2, q2⟩ => hm pins s2 σ H2 x vs v us Q I2 r1 r2 q2
end
def MtM (X : Cx) (id : String) (r : V → List V → Hp → VK → Prop) : Prop :=
 ∀ (pins : List (Addr × Obj)) (s : Shared) (σ : St) (H : Hp) (x : V) (xs : List V) (v : Value) (us : List Value) (Q : VK), Inv X pins σ H s → RelV x v → Vals xs us → r x xs H Q →
  wpAny (model X.prog X.w) X.A (call (.builtin id) (v :: us)) (EP X pins σ Q) X.xe s
theorem Vals.one : ∀ {x : V} {us : List Value}, Vals [x] us → ∃ u, us = [u] ∧ RelV x u
 | _, _, .cons r .nil => ⟨_, rfl, r⟩
theorem Vals.rep {xs : List V} {us : List Value} (h : Vals xs us) : ∀ k : Nat, Vals (List.replicate k xs).flatten (List.replicate k us).flatten
 | 0 => .nil
 | k + 1 => by
  rw [List.replicate_succ, List.replicate_succ, List.flatten_cons, List.flatten_cons]
  exact Vals.append h (Vals.rep h k)
theorem foldl_rep (its : List Value) : ∀ (k : Nat) (acc : List Value),
 List.foldl (fun x1 x2 => x1 ++ x2) acc.toArray (List.replicate k its.toArray) = (acc ++ (List.replicate k its).flatten).toArray
 | 0, acc => by simp
 | k + 1, acc => by
  have e : acc.toArray ++ its.toArray = (acc ++ its).toArray := by simp
  have e2 : (acc ++ its) ++ (List.replicate k its).flatten = acc ++ (List.replicate (k + 1) its).flatten := by
   rw [List.replicate_succ, List.flatten_cons, List.append_assoc]
  rw [← e2, ← foldl_rep its k (acc ++ its), ← e, List.replicate_succ, List.foldl_cons]
section
variable {X : Cx} {pins : List (Addr × Obj)} {σ : St} {H : Hp} {s : Shared} {l b : Addr} {xs ys zs : List V}
theorem Inv.lset {its its' : List Value} {n : Nat} {f : Array Value → Array Value} {t' : Nat} (I : Inv X pins σ H s) (hH : H l = some (.lst xs))
 (e : s.heap.get? l = some { cls := .type "list", data := .seq its.toArray n }) (hf : f its.toArray = its'.toArray) (hv : Vals ys its') (hz : ys.length ≤ sizeLine) :
 Inv X pins σ (upd H l (.lst ys)) { s with heap := s.heap.update l (Obj.mapSeq f), toks := t' } := by
 have q := PySem.IsL.update e f
 rw [hf] at q
 refine I.write (x := l) (e := l) (by rw [hH]; exact trivial) (.inl rfl) (fun b' u hb hu => (Heap.get?_update_other s.heap (Obj.mapSeq f) (Ne.symm hb)).trans hu) ⟨_, q⟩ ?_
 exact ⟨hz, its', _, hv, q⟩
theorem Inv.lnew {its : List Value} {t' : Nat} (I : Inv X pins σ H s) (hv : Vals ys its) (hz : ys.length ≤ sizeLine) :
 Inv X pins σ (upd H s.heap.objs.size (.lst ys)) { s with heap := s.heap.push { cls := .type "list", data := .seq its.toArray }, toks := t' } :=
 I.laid (fun _ _ q => Heap.get?_push_of_some _ q) (Nat.le_refl _) ⟨hz, its, 0, hv, Heap.get?_push_size _ rfl⟩
theorem Inv.fresh (I : Inv X pins σ H s) : H s.heap.objs.size = none := I.hok.fresh (Nat.le_refl _)
theorem Inv.lstM (I : Inv X pins σ H s) (hH : H l = some (.lst xs)) : xs.length ≤ sizeLine ∧ ∃ (its : List Value) (n : Nat), Vals xs its ∧ xs.length = its.length ∧ s.heap.get? l = some { cls := .type "list", data := .seq its.toArray n } := by
 obtain ⟨z, its, n, r, e⟩ := I.hok l _ hH
 exact ⟨z, its, n, r, r.length, e⟩
theorem notLongL {n : Nat} (h : n ≤ sizeLine) : Builtin.List.listTooLong n = false := by
 unfold Builtin.List.listTooLong
 exact decide_eq_false (by omega)
end
section
variable {X : Cx}
def rAppend : V → List V → Hp → VK → Prop := fun x vs H Q => ∃ l xs y, x = .ref l ∧ vs = [y] ∧ H l = some (.lst xs) ∧ xs.length < sizeLine ∧ Q .non (upd H l (.lst (xs ++ [y])))
theorem mt_append : MtM X "list.append" rAppend := by
 intro pins s σ H x vs v us Q I rx rv h
 obtain ⟨l, xs, y, rfl, rfl, hH, hz, q⟩ := h
 cases rx
 obtain ⟨u, rfl, ru⟩ := rv.one
 obtain ⟨z, its, n, r, hl, e⟩ := I.lstM hH
 refine call_meets F.slot_list_append ⟨_, e, rfl⟩ F.entry_list_append (F.args_list_append_2 _ _) (PySem.list_append l its.toArray n u (by rw [List.size_toArray]; omega)) ⟨e, ?_⟩
 refine ⟨.non, _, I.lset (its' := its ++ [u]) hH e (by simp) (r.append (.cons ru .nil)) ?_, rfl, q⟩
 rw [List.length_append, List.length_singleton]
 omega
def rExtend : V → List V → Hp → VK → Prop := fun x vs H Q => ∃ l b xs zs, x = .ref l ∧ vs = [.ref b] ∧ H l = some (.lst xs) ∧ H b = some (.lst zs) ∧ xs.length + zs.length ≤ sizeLine ∧ Q .non (upd H l (.lst (xs ++ zs)))
theorem mt_extend : MtM X "list.extend" rExtend := by
 intro pins s σ H x vs v us Q I rx rv h
 obtain ⟨l, b, xs, zs, rfl, rfl, hH, hB, hz, q⟩ := h
 cases rx
 obtain ⟨u, rfl, ru⟩ := rv.one
 cases ru
 obtain ⟨z, its, n, r, hl, e⟩ := I.lstM hH
 obtain ⟨z2, its2, n2, r2, hl2, e2⟩ := I.lstM hB
 have hsz : its.toArray.size + its2.toArray.size ≤ sizeLine := by rw [List.size_toArray, List.size_toArray]; omega
 have hlong : ¬ (!its.toArray.isEmpty && Builtin.List.listTooLong (its.toArray.size + its2.toArray.size)) = true := by
  rw [notLongL hsz, Bool.and_false]
  exact Bool.false_ne_true
 refine call_meets F.slot_list_extend ⟨_, e, rfl⟩ F.entry_list_extend (F.args_list_extend_2 _ _)
  (AutoSeq1.list_extend_list_list_0 l its.toArray n b its2.toArray n2 hlong (by rw [List.size_toArray]; omega) (by omega)) ⟨e, e2, ?_⟩
 refine ⟨.non, _, I.lset (its' := its ++ its2) hH e (by simp) (r.append r2) ?_, rfl, q⟩
 rw [List.length_append]
 omega
def rCat : R2 := fun x y H Q => ∃ l b xs zs, x = .ref l ∧ y = .ref b ∧ H l = some (.lst xs) ∧ H b = some (.lst zs) ∧ xs.length + zs.length ≤ sizeLine ∧ ∀ p, H p = none → Q (.ref p) (upd H p (.lst (xs ++ zs)))
theorem op_cat : OpR X (binaryOp .Add) rCat := by
 intro pins s σ H x y v u Q I rx ry h
 obtain ⟨l, b, xs, zs, rfl, rfl, hH, hB, hz, q⟩ := h
 cases rx
 cases ry
 obtain ⟨z, its, n, r, hl, e⟩ := I.lstM hH
 obtain ⟨z2, its2, n2, r2, hl2, e2⟩ := I.lstM hB
 refine PySem.P.add_list e e2 ?_ (by rw [List.size_toArray, List.size_toArray]; omega)
 have ea : its.toArray ++ its2.toArray = (its ++ its2).toArray := by simp
 rw [ea]
 exact ⟨.ref _, _, I.lnew (t' := s.toks) (r.append r2) (by rw [List.length_append]; omega), rfl, q _ I.fresh⟩
def rRep : R2 := fun x y H Q => ∃ l k xs, x = .ref l ∧ y = .int k ∧ H l = some (.lst xs) ∧ -(2 ^ 63) ≤ k ∧ k < 2 ^ 63 ∧ xs.length * k.toNat ≤ sizeLine ∧
 ∀ p, H p = none → Q (.ref p) (upd H p (.lst (List.replicate k.toNat xs).flatten))
theorem len_rep {α : Type} (xs : List α) (k : Nat) : (List.replicate k xs).flatten.length = k * xs.length := by
 induction k with
 | zero => simp
 | succ k ih => rw [List.replicate_succ, List.flatten_cons, List.length_append, ih, Nat.succ_mul, Nat.add_comm]
theorem op_rep : OpR X (binaryOp .Mult) rRep := by
 intro pins s σ H x y v u Q I rx ry h
 obtain ⟨l, k, xs, rfl, rfl, hH, h1, h2, hz, q⟩ := h
 cases rx
 obtain ⟨t, rfl⟩ := ry
 obtain ⟨z, its, n, r, hl, e⟩ := I.lstM hH
 have hlen : its.toArray.size * k.toNat ≤ sizeLine := by rw [List.size_toArray, ← hl]; exact hz
 have hcap : ¬ its.toArray.size * k.toNat > (2 ^ 63 - 1) / 8 := by
  have : (sizeLine : Nat) ≤ (2 ^ 63 - 1) / 8 := by decide
  omega
 have hfit : ¬ (!Builtin.List.listFitsIndex k) = true := by
  rw [fitsIndex_both h1 h2]
  exact Bool.false_ne_true
 have hlong : ¬ Builtin.List.listTooLong (its.toArray.size * k.toNat) = true := by
  rw [notLongL hlen]
  exact Bool.false_ne_true
 have hnew : List.foldl (fun x1 x2 => x1 ++ x2) #[] (List.replicate (if its.toArray.isEmpty = true then 0 else k.toNat) its.toArray) = (List.replicate k.toNat its).flatten.toArray := by
  have f0 : ∀ m : Nat, List.foldl (fun x1 x2 => x1 ++ x2) #[] (List.replicate m its.toArray) = (List.replicate m its).flatten.toArray := fun m => by
   have := foldl_rep its m []
   rw [List.nil_append] at this
   exact this
  rw [f0]
  cases its with
  | nil => simp
  | cons a r' => rw [if_neg (by simp)]
 refine wpAny_binaryOp_repeat_ref (T := "list") (U := "int") (by decide) ⟨_, e, rfl⟩ (fun s' => typeIs_int s' k t) noFill_list_mul F.fills_int_mul F.slot_int_rmul repeat_list F.slot_int_index.lookup
  (call_meets F.slot_int_rmul (typeIs_int s k t) F.entry_int_rmul (F.args_int_rmul_2 _ _) (int___rmul___int_list k t l its.toArray n)
   ⟨e, rfl, ⟨_, e, rfl⟩, call_meets F.slot_list_mul ⟨_, e, rfl⟩ F.entry_list_mul (F.args_list_mul_2 _ _) (AutoListH.list___mul___list_int_3 l its.toArray n k t hfit hcap hlong) ⟨e, ?_⟩⟩)
 rw [hnew]
 exact ⟨.ref _, _, I.lnew (t' := s.toks) (r.rep k.toNat) (by rw [len_rep, Nat.mul_comm]; exact hz), rfl, q _ I.fresh⟩
end
end L2
namespace Att
open PySem PySem.W PySem.Calls PyProof.Rows
theorem ints_of_wellAll {P : Params} {h : Heap} : ∀ (ns : List Int) (vs : List Value), WellAll P h vs (ns.map WData.int) → IntsAre vs ns := by
 intro ns
 induction ns with
 | nil =>
  intro vs w
  rw [List.map_nil] at w
  cases w
  exact .nil
 | cons n ns ih =>
  intro vs w
  rw [List.map_cons] at w
  cases w with
  | cons a b =>
   cases a
   exact .cons _ _ (ih _ b)
theorem script_of {l : OpenLaw} {n : Nat} (hn : l.most = some n) {P : Params} {h : Heap} {args : List WData} {vals : List Value}
 (hpre : l.row.toRowW.claim.pre args = true) (hwl : WellAll P h vals args) :
 ∃ a vs ns, vals = [Value.ref a] ∧ args = [WData.list (ns.map WData.int)] ∧ h.get? a = some { cls := .type "list", data := .seq vs.toArray } ∧ IntsAre vs ns ∧ ns.length ≤ n := by
 have hsh : WShape.hasAll [] args [.list .int] = true := (pre_splitW hpre).1
 have hc : l.pre.holds [] { args := args } = true := (pre_splitW hpre).2
 obtain ⟨d, r, rfl, h1, h2⟩ := hasAllW_cons hsh
 obtain rfl := hasAllW_nil h2
 obtain ⟨xs, rfl, h3⟩ := hasW_list h1
 obtain ⟨ns, rfl⟩ := items_int h3
 have hlen : ns.length ≤ n := by
  unfold OpenLaw.pre at hc
  have h4 : (WTm.not (.lt (.lit (.int (n : Int))) (.len (.arg 0)))).holds [] { args := [.list (ns.map .int)] } = true := by
   have h4 := (holds_andW hc).1
   rw [hn] at h4
   exact h4
  have h5 := condW_of h4 (w_not (w_lt w_lit (w_len_list (w_arg rfl))))
  rw [List.length_map] at h5
  refine Nat.le_of_not_lt fun q => ?_
  have q' : (n : Int) < ((ns.length : Nat) : Int) := by omega
  first
   | (rw [decide_eq_true q'] at h5; exact absurd h5 (by decide))
   | (simp at h5; omega)
 cases hwl with
 | cons w1 w2 =>
  cases w2
  cases w1 with
  | list ho hall => exact ⟨_, _, ns, rfl, rfl, ho, ints_of_wellAll ns _ hall, hlen⟩
theorem post_true (l : OpenLaw) (args : List WData) : l.row.toRowW.claim.post args (.bool true) args = true :=
 postW_of (r := l.row.toRowW) (X := (true == true))
  (show WShape.has [] (.bool true) .bool = true by first | rfl | decide | simp [WShape.has, WShape.arms, WShape.armsAll])
  (show (WTm.eq .res (.lit (.bool true))).value [] { args := args, res := some (.bool true), after := args } = some (.bool (true == true)) from w_eq_bool (w_res rfl) w_lit) rfl
theorem attach_call {l : OpenLaw} {n : Nat} {q : Program} {loose : List Str} {XP : (Str → Option Value) → Heap → Prop} {YP : World → Heap → Prop} {d : DefRec}
 (hn : l.most = some n) (hdf : d.params.defaults = [])
 (call : ∀ (w : World) (s₀ s₁ : Shared) (mg mb : Str → Option Value) (fa : Addr) (o : Obj) (pm cd doc : Value) (a : Addr) (vs : List Value) (ns : List Int),
  Ground q loose [] XP w s₀ mg mb s₁.heap → YP w s₁.heap →
  s₁.heap.get? fa = some o → o.data = .func (docDef d.name d.params d.body d.scope pm cd doc) → s₁.heap.CodeRec cd d.name → mg d.name = some (.ref fa) →
  s₁.heap.get? a = some { cls := .type "list", data := .seq vs.toArray } → IntsAre vs ns → ns.length ≤ n → s₁.gens = #[] →
  codeAny (model l.prog w) callerA (.call (.ref fa) ⟨[.ref a], []⟩) (fun r s' => r = .ok (.ret (.bool true)) ∧ OldK s₁.heap s'.heap ∧ s'.os = s₁.os ∧ AllBare s'.gens) s₁) :
 WalkO q loose XP YP l.row.toRowW d [] (fun f vs => PySem.call f vs) := by
 intro w s₀ s₁ mg mb G Y fa o pm cd doc dV kV ho hd hcd hD hmg hg args vals as hpre hlay hrd hwl hlo
 obtain rfl : dV = .none := Dflts.none hD hdf
 obtain rfl : kV = .none := Dflts.noKw hD
 obtain ⟨a, vs, ns, rfl, rfl, hobj, hints, hlen⟩ := script_of hn hpre hwl
 refine enter_call (codeAny_mono (call w s₀ s₁ mg mb fa o pm cd doc a vs ns G Y ho (fd_plain hd) hcd hmg hobj hints hlen hg) fun r s' hq => ?_)
 obtain ⟨rfl, h2, h3, h4⟩ := hq
 exact ⟨.inl ⟨.bool true, .bool true, [], rfl, fun _ => rfl, .bool true, post_true l _, fun _ => ⟨List.Pairwise.nil, fun _ hm => (nomatch hm)⟩⟩, h2, h3, h4⟩
end Att
namespace L2
open PySem PySem.Spec PyProof.Rows
theorem vals_ints : ∀ {vs : List Value} {ns : List Int}, IntsAre vs ns → Vals (ns.map V.int) vs
 | _, _, .nil => .nil
 | _, _, .cons n t h => .cons ⟨t, rfl⟩ (vals_ints h)
def Only (H : Hp) : Prop := ∀ b, H b = none ∨ ∃ o xs, H b = some (.frz o (.lst xs))
theorem law_call {P : Program} {w : World} {K : PySem.W.Frag} {mg mb : Str → Option Value} {CX : CXT} {k : Nat} {fa a : Addr} {fd : FuncData} {x : Str} {sp : Sp} {s₁ : Shared} {vs : List Value} {ns : List Int}
 (KX : K.In s₁.heap) (hns : s₁.heap.Ns mainGlobals mg) (hb : s₁.heap.Ns builtinsNs mb) (hbb : ∀ x : Str, x ≠ "__name__" → mb x = bootBuiltins x) (hlim : s₁.heap.NoLimit) (hg : s₁.gens = #[])
 (ha : s₁.heap.get? a = some { cls := .type "list", data := .seq vs.toArray }) (hi : IntsAre vs ns) (hl : ns.length ≤ sizeLine) (hr : Room k callerA)
 (F : ∀ base : Heap, K.In base → base.Ns mainGlobals mg → FnOk P w K mg base CX k fa fd [x] sp) (hbind : ∀ (s : Shared) (u : Value), BindsTo s fd ⟨[u], []⟩ [(x, u)])
 (hsp : ∀ H : Hp, Only H → SqL K H a (ns.map V.int) → sp [.ref a] H (fun v _ => v = .bl true) fun _ _ _ => False)
 (hCX : ∀ H e s', CX [] H s₁ (fun _ _ _ => False) e s' → False) :
 codeAny (model P w) callerA (.call (.ref fa) ⟨[.ref a], []⟩) (fun r s' => r = .ok (.ret (.bool true)) ∧ OldK s₁.heap s'.heap ∧ s'.os = s₁.os ∧ AllBare s'.gens) s₁ := by
 have rv := vals_ints hi
 have lenV := hi.length
 -- from an abstract heap in which nothing but the script may be tracked
 have core : ∀ H : Hp, Only H → SqL K H a (ns.map V.int) → HOk P w H s₁.heap → (∀ b, H b ≠ none → b = a) → (H a ≠ none → K.lookup a = none) →
  codeAny (model P w) callerA (.call (.ref fa) ⟨[.ref a], []⟩) (fun r s' => r = .ok (.ret (.bool true)) ∧ OldK s₁.heap s'.heap ∧ s'.os = s₁.os ∧ AllBare s'.gens) s₁ := by
  intro H hO hS hok hA hK
  have base_of : ∀ {b : Addr} {o : Obj}, s₁.heap.get? b = some o → H b = none → (hidT s₁.heap H).get? b = some o := fun e n => hidT_get e n
  have noA : ∀ {b : Addr} {o : Obj} {es : Array DictEntry} {ep : Nat}, s₁.heap.get? b = some o → o.data = .dict es ep → H b = none := fun {b o es ep} e d => by
   cases q : H b with
   | none => rfl
   | some u =>
    have e' : b = a := hA b (by rw [q]; simp)
    subst e'
    rw [ha] at e; cases e
    have d' : Data.seq vs.toArray _ = Data.dict es ep := d
    cases d'
  have nsK : ∀ {b : Addr} {m : Str → Option Value}, s₁.heap.Ns b m → (hidT s₁.heap H).Ns b m := fun {b m} ⟨o, es, ep, e, d, r⟩ => ⟨o, es, ep, base_of e (noA e d), d, r⟩
  have hKb : K.In (hidT s₁.heap H) := fun b o e => base_of (KX b o e) (by
   cases q : H b with
   | none => rfl
   | some u =>
    have e' : b = a := hA b (by rw [q]; simp)
    subst e'
    rw [hK (by rw [q]; simp)] at e; cases e)
  have hM : Mod K mg (hidT s₁.heap H) := ⟨hKb, nsK hns, ⟨mb, nsK hb, hbb⟩, let ⟨mc, h1, h2⟩ := hlim; ⟨mc, nsK h1, h2⟩⟩
  have e0 : Env0 P w K mg (hidT s₁.heap H) callerA [] s₁ H := ⟨rfl, hM, fun b o e => of_hidT e, Nat.le_of_eq (hidT_size _ _), trivial, fun b hb => absurd (show b ∈ ([] : List Addr) from hb) (by simp), hok, .of_eq hg⟩
  refine codeAny_mono ((F _ hKb (nsK hns)).run callerA [] s₁ H ⟨[.ref a], []⟩ [.ref a] [.ref a] _ _ hr e0 (hbind s₁ (.ref a)) (.cons rfl .nil) (hsp H hO hS)) fun r s' h => ?_
  cases r with
  | error e => exact (hCX H e s' h).elim
  | ok fl =>
   cases fl with
   | next => exact False.elim h
   | brk => exact False.elim h
   | cont => exact False.elim h
   | ret u =>
    obtain ⟨v, H', os, bare, un, hok', r', q⟩ := h
    have q' : v = .bl true := q
    subst q'
    obtain rfl : u = Value.bool true := r'
    refine ⟨rfl, OldK.of_keep fun b o e => ?_, os, bare⟩
    cases q : H b with
    | none => exact un.keep b o e q (by intro z; exact absurd (show b ∈ ([] : List Addr) from z) (by simp)) (by simp)
    | some u =>
     rcases hO b with z | ⟨ob, xs, z⟩
     · rw [q] at z; cases z
     · have z2 := un.frzs b ob _ z
       obtain ⟨e1, _⟩ := hok b _ z
       obtain ⟨e2, _⟩ := hok' b _ z2
       rw [e] at e1; cases e1
       exact e2
 cases hk : K.lookup a with
 | some o =>
  -- the script is one of the module's own objects
  have e := KX a o hk
  rw [ha] at e
  cases e
  refine core (fun _ => none) (fun _ => .inl rfl) (.inr ⟨_, vs.toArray, _, hk, rfl, rfl, rfl, by rw [List.size_toArray, lenV]; exact hl, by simpa using rv⟩) (fun b u z => by have z' : (none : Option HO) = some u := z; cases z') (fun b z => absurd rfl z) fun z => absurd rfl z
 | none =>
  refine core (fun b => if b = a then some (.frz { cls := .type "list", data := .seq vs.toArray } (.lst (ns.map V.int))) else none) (fun b => ?_) (.inl (.inr ⟨{ cls := .type "list", data := .seq vs.toArray }, if_pos rfl⟩)) (fun b u z => ?_) (fun b z => ?_) fun _ => hk
  · by_cases hb : b = a
    · exact .inr ⟨_, _, if_pos hb⟩
    · exact .inl (if_neg hb)
  · by_cases hb : b = a
    · have z' := (if_pos hb).symm.trans z
      cases z'
      subst hb
      exact ⟨ha, by rw [List.length_map]; exact hl, vs, _, rv, ha⟩
    · have z' := (if_neg hb).symm.trans z
      cases z'
  · by_cases hb : b = a
    · exact hb
    · exact absurd (if_neg hb) z
theorem walk_of {l : PySem.W.OpenLaw} {n k : Nat} {q : Program} {loose : List Str} {XP : (Str → Option Value) → Heap → Prop} {YP : World → Heap → Prop} {d : DefRec} {K : Params → PySem.W.Frag} {CX : World → CXT} {sp : World → Sp} {x : Str}
 (hn : l.most = some n) (hn2 : n ≤ sizeLine) (hdf : d.params.defaults = []) (hr : Room k callerA)
 (hY : ∀ (w : World) (h : Heap), YP w h → (K w.params).In h)
 (F : ∀ (w : World) (mg : Str → Option Value) (fa : Addr) (h : Heap), (K w.params).In h → h.Ns mainGlobals mg → mg d.name = some (.ref fa) →
  ∃ fd : FuncData, (∀ (s : Shared) (u : Value), BindsTo s fd ⟨[u], []⟩ [(x, u)]) ∧
   ∀ base : Heap, (K w.params).In base → base.Ns mainGlobals mg → FnOk l.prog w (K w.params) mg base (CX w) k fa fd [x] (sp w))
 (hsp : ∀ (w : World) (H : Hp) (a : Addr) (ns : List Int), ns.length ≤ n → Only H → SqL (K w.params) H a (ns.map V.int) → sp w [.ref a] H (fun v _ => v = .bl true) fun _ _ _ => False)
 (hCX : ∀ (w : World) (H : Hp) (s : Shared) (e : Value) (s' : Shared), CX w [] H s (fun _ _ _ => False) e s' → False) :
 PySem.W.WalkO q loose XP YP l.row.toRowW d [] (fun f vs => PySem.call f vs) := by
 refine Att.attach_call hn hdf fun w s₀ s₁ mg mb fa o pm cd doc a vs ns G Y ho hd hcd hmg hobj hints hlen hg => ?_
 have KX := hY w _ Y
 obtain ⟨fd, hb, hF⟩ := F w mg fa _ KX G.T.g hmg
 exact law_call KX G.T.g G.T.b G.T.builtins G.T.nolimit hg hobj hints (Nat.le_trans hlen hn2) hr hF hb (fun H hO hS => hsp w H a ns hlen hO hS) fun H e s' => hCX w H s₁ e s'
def defArgs (s : Stmt) : Arguments := match s with
 | .FunctionDef _ a _ _ _ _ _ _ _ _ => a
 | _ => { posonlyargs := [], args := [], vararg := none, kwonlyargs := [], kw_defaults := [], kwarg := none, defaults := [] }
def defBody (s : Stmt) : List Stmt := match s with
 | .FunctionDef _ _ b _ _ _ _ _ _ _ => b
 | _ => []
def defScope (s : Stmt) : Scope := match s with
 | .FunctionDef _ _ _ _ _ _ sc _ _ _ => sc
 | _ => { kind := .function, names := [], isGenerator := false, isCoroutine := false }
abbrev CX0 : CXT := fun _ _ _ _ _ _ => False
abbrev E0 : XK := fun _ _ _ => False
theorem pass0 {X : Cx} : Passes CX0 X E0 := fun _ _ _ _ _ _ _ h => h.elim
structure Fun (K : PySem.W.Frag) (x qual : Str) (st : Stmt) (f : Addr) (fd : FuncData) : Prop where
 ex : ∃ (oc : Value) (od : Option Addr) (kV doc pm : Value) (an : Option Addr) (cdv ct : Value) (osl : Array (Option Value)),
  fd = PySem.W.fnOf x qual (defArgs st) (defBody st) (defScope st) .none kV doc pm an cdv ct ∧ K.lookup f = some ⟨oc, od, .func fd, osl⟩ ∧ PySem.W.codeIn K cdv qual = true
 kp : PySem.W.keepIn K (.ref f) = true
section
variable {P : Program} {w : World} {K : PySem.W.Frag} {mg : Str → Option Value} {base : Heap}
theorem Fun.ok {x qual : Str} {st : Stmt} {f : Addr} {fd : FuncData} {N ps : List Str} {k : Nat} {sp : Sp} (F : Fun K x qual st f fd) (S : FnScope N ps (defScope st)) (len : ∀ vs H Q E, sp vs H Q E → vs.length = ps.length)
 (hbody : ∀ (cdv : Value) (A : Around) (outer : List Env) (s : Shared) (H : Hp) (vs : List V) (Q : VK) (E : XK), Room k (A.deeper (envOfC qual (defScope st) s.heap.objs.size f cdv)) → sp vs H Q E →
  ∃ t, PSs (cxOf CX0 P w K mg base N qual (defScope st) f cdv A outer s H E).nox (defBody st) t ∧ t { nx := fun _ H' => Q .non H', rt := Q } (start N vs) H) : FnOk P w K mg base CX0 (k + 1) f fd ps sp := by
 obtain ⟨oc, od, kV, doc, pm, an, cdv, ct, osl, rfl, lk, hcd⟩ := F.ex
 refine fn_of lk hcd S len fun A outer s H vs Q E hr hsp => ?_
 obtain ⟨t, h, q⟩ := hbody cdv A outer s H vs Q E hr hsp
 exact ⟨t, h.nox, q⟩
theorem Fun.binds {x qual : Str} {st : Stmt} {f : Addr} {fd : FuncData} {ps : List Str} (F : Fun K x qual st f fd)
 (h : ∀ (kV doc pm : Value) (an : Option Addr) (cdv ct : Value) (us : List Value), us.length = ps.length → bindArgs (PySem.W.fnOf x qual (defArgs st) (defBody st) (defScope st) .none kV doc pm an cdv ct) ⟨us, []⟩ = pure (ps.zip us)) : Binds K fd ps [] := by
 obtain ⟨oc, od, kV, doc, pm, an, cdv, ct, osl, rfl, lk, hcd⟩ := F.ex
 exact .all (h kV doc pm an cdv ct)
theorem fun_mk {x qual : Str} {st : Stmt} {f : Addr} {oc : Value} {od an : Option Addr} {osl : Array (Option Value)} {kV doc pm cdv ct : Value} (l : K.lookup f = some ⟨oc, od, .func (PySem.W.fnOf x qual (defArgs st) (defBody st) (defScope st) .none kV doc pm an cdv ct), osl⟩)
 (c : PySem.W.codeIn K cdv qual = true) (k : PySem.W.keepIn K (.ref f) = true) : Fun K x qual st f (PySem.W.fnOf x qual (defArgs st) (defBody st) (defScope st) .none kV doc pm an cdv ct) := ⟨⟨oc, od, kV, doc, pm, an, cdv, ct, osl, rfl, l, c⟩, k⟩
end
theorem iteF {A B : Prop} (h : B) : if false = true then A else B := by
 rw [if_neg Bool.false_ne_true]
 exact h
theorem iteT {A B : Prop} (h : A) : if true = true then A else B := by
 rw [if_pos rfl]
 exact h
theorem ite2 {c A B : Prop} [Decidable c] (h1 : c → A) (h2 : ¬ c → B) : if c then A else B := by
 by_cases h : c
 · rw [if_pos h]
   exact h1 h
 · rw [if_neg h]
   exact h2 h
def Same (H H' : Hp) : Prop := ∀ b o, H b = some o → H' b = some o
theorem Same.refl (H : Hp) : Same H H := fun _ _ h => h
theorem Same.trans {H H1 H2 : Hp} (a : Same H H1) (b : Same H1 H2) : Same H H2 := fun c o h => b c o (a c o h)
theorem Same.seq {K : PySem.W.Frag} {H H' : Hp} {a : Addr} {xs : List V} (e : Same H H') (h : SqL K H a xs) : SqL K H' a xs := by
 rcases h with (h | ⟨o, h⟩) | h
 · exact .inl (.inl (e _ _ h))
 · exact .inl (.inr ⟨o, e _ _ h⟩)
 · exact .inr h
section
variable {κ : Type} [DecidableEq κ]
def valV (kvs : List (κ × V)) (k : κ) : Option V := (kvs.find? fun kv => decide (kv.1 = k)).map (·.2)
def putK (kvs : List (κ × V)) (k : κ) (v : V) : List (κ × V) :=
 if (kvs.any fun kv => decide (kv.1 = k)) = true then kvs.map (fun kv => if kv.1 = k then (kv.1, v) else kv) else kvs ++ [(k, v)]
theorem valV_pos {p : κ × V} {r : List (κ × V)} {k : κ} (e : p.1 = k) : valV (p :: r) k = some p.2 := by simp [valV, List.find?_cons, e]
theorem valV_neg {p : κ × V} {r : List (κ × V)} {k : κ} (e : ¬ p.1 = k) : valV (p :: r) k = valV r k := by simp [valV, List.find?_cons, e]
theorem valV_any (k : κ) : ∀ kvs : List (κ × V), (kvs.any fun kv => decide (kv.1 = k)) = (valV kvs k).isSome
 | [] => rfl
 | p :: r => by
  rw [List.any_cons]
  by_cases e : p.1 = k
  · simp only [valV_pos e, decide_eq_true e, Bool.true_or, Option.isSome_some]
  · rw [valV_neg e, decide_eq_false e, Bool.false_or]; exact valV_any k r
theorem length_putK (kvs : List (κ × V)) (k : κ) (v : V) : (putK kvs k v).length ≤ kvs.length + 1 := by
 unfold putK
 split
 · rw [List.length_map]; omega
 · rw [List.length_append, List.length_cons, List.length_nil]; omega
theorem RelO.isSome_eq {o : Option V} {u : Option Value} (r : RelO o u) : o.isSome = u.isSome := by
 cases o with
 | none => cases u with
  | none => rfl
  | some _ => exact (show False from r).elim
 | some _ => cases u with
  | none => exact (show False from r).elim
  | some _ => rfl
theorem RelO.getD {o : Option V} {u : Option Value} {d : V} {d' : Value} (r : RelO o u) (rd : RelV d d') : RelV (o.getD d) (u.getD d') := by
 cases o with
 | none => cases u with
  | none => exact rd
  | some _ => exact (show False from r).elim
 | some _ => cases u with
  | none => exact (show False from r).elim
  | some _ => exact r
theorem KV.val {kvs : List (κ × V)} {vs : List (κ × Value)} (r : KV kvs vs) (k : κ) : RelO (valV kvs k) (valueAt vs k) := by
 unfold KV at r
 induction r with
 | nil => exact True.intro
 | @cons p q ps qs h t ih =>
  obtain ⟨h1, h2⟩ := h
  by_cases e : p.1 = k
  · have e' : q.1 = k := h1.symm.trans e
    have b : valueAt (q :: qs) k = some q.2 := by simp [valueAt, List.find?_cons, e']
    rw [valV_pos e, b]; exact h2
  · have e' : ¬ q.1 = k := fun z => e (h1.trans z)
    have b : valueAt (q :: qs) k = valueAt qs k := by simp [valueAt, List.find?_cons, e']
    rw [valV_neg e, b]; exact ih
theorem KV.any {kvs : List (κ × V)} {vs : List (κ × Value)} (r : KV kvs vs) (k : κ) : (kvs.any fun kv => decide (kv.1 = k)) = vs.any fun kv => decide (kv.1 = k) := by
 unfold KV at r
 induction r with
 | nil => rfl
 | cons h t ih => rw [List.any_cons, List.any_cons, ih, h.1]
theorem KV.repl {kvs : List (κ × V)} {vs : List (κ × Value)} (r : KV kvs vs) (k : κ) {y : V} {u : Value} (ry : RelV y u) :
 KV (kvs.map fun kv => if kv.1 = k then (kv.1, y) else kv) (vs.map fun kv => if kv.1 = k then (kv.1, u) else kv) := by
 unfold KV at r ⊢
 induction r with
 | nil => exact .nil
 | @cons p q ps qs h t ih =>
  rw [List.map_cons, List.map_cons]
  refine .cons ?_ ih
  obtain ⟨h1, h2⟩ := h
  by_cases e : p.1 = k
  · rw [if_pos e, if_pos (h1.symm.trans e)]; exact ⟨h1, ry⟩
  · rw [if_neg e, if_neg (fun z => e (h1.trans z))]; exact ⟨h1, h2⟩
theorem KV.put {kvs : List (κ × V)} {vs : List (κ × Value)} (r : KV kvs vs) (k : κ) {y : V} {u : Value} (ry : RelV y u) : KV (putK kvs k y) (stored vs k u) := by
 unfold putK stored
 rw [r.any k]
 by_cases e : (vs.any fun kv => decide (kv.1 = k)) = true
 · rw [if_pos e, if_pos e]; exact r.repl k ry
 · rw [if_neg e, if_neg e]; exact Paired.snoc r ⟨rfl, ry⟩
theorem KV.length {kvs : List (κ × V)} {vs : List (κ × Value)} (r : KV kvs vs) : kvs.length = vs.length := Paired.length r
end
theorem kV_is {P : Program} {w : World} {k : Key} {u : Value} (r : RelV (kV k) u) : (mixKind P w).is k u = true := by
 cases k with
 | inl i => obtain ⟨t, e⟩ := (show ∃ t, u = Value.int i t from r); subst e; exact mixKind_int P w i t
 | inr x => obtain ⟨t, e⟩ := (show ∃ t, u = Value.str x t from r); subst e; exact mixKind_str P w x t
theorem items_are {P : Program} {w : World} : ∀ {ks : List Key} {us : List Value}, Vals (ks.map kV) us → ItemsAre (mixKind P w) ks us
 | [], _, r => by rw [List.map_nil] at r; cases r; exact .nil
 | k :: ks, _, r => by
  rw [List.map_cons] at r
  cases r with
  | cons h t => exact .cons (kV_is h) (items_are t)
abbrev KT (H : Hp) : List (List Key × V) → List (List Key × Addr × Value) → Prop := Paired fun p q => p.1 = q.1 ∧ H q.2.1 = some (.tup (p.1.map kV)) ∧ RelV p.2 q.2.2
theorem KT.val {H : Hp} {kvs : List (List Key × V)} {xs : List (List Key × Addr × Value)} (r : KT H kvs xs) (k : List Key) : RelO (valV kvs k) ((atKey xs k).map (·.2)) := by
 induction r with
 | nil => exact True.intro
 | @cons p q ps qs h t ih =>
  obtain ⟨h1, _, h2⟩ := h
  by_cases e : p.1 = k
  · have e' : q.1 = k := h1.symm.trans e
    have b : atKey (q :: qs) k = some q.2 := by simp [atKey, List.find?_cons, e']
    rw [valV_pos e, b]; exact h2
  · have e' : ¬ q.1 = k := fun z => e (h1.trans z)
    have b : atKey (q :: qs) k = atKey qs k := by simp [atKey, List.find?_cons, e']
    rw [valV_neg e, b]; exact ih
theorem KT.repl {H : Hp} {kvs : List (List Key × V)} {xs : List (List Key × Addr × Value)} (r : KT H kvs xs) (k : List Key) {y : V} {u : Value} (ry : RelV y u) :
 KT H (kvs.map fun kv => if kv.1 = k then (kv.1, y) else kv) (xs.map (putAt k u)) := by
 induction r with
 | nil => exact .nil
 | @cons p q ps qs h t ih =>
  rw [List.map_cons, List.map_cons]
  refine .cons ?_ ih
  obtain ⟨h1, h2, h3⟩ := h
  unfold putAt
  by_cases e : p.1 = k
  · rw [if_pos e, if_pos (h1.symm.trans e)]; exact ⟨h1, h2, ry⟩
  · rw [if_neg e, if_neg (fun z => e (h1.trans z))]; exact ⟨h1, h2, h3⟩
theorem KT.put {H : Hp} {kvs : List (List Key × V)} {xs : List (List Key × Addr × Value)} (r : KT H kvs xs) (k : List Key) {b : Addr} {y : V} {u : Value} (hb : H b = some (.tup (k.map kV))) (ry : RelV y u) :
 KT H (putK kvs k y) (storedH xs k b u) := by
 have e : (kvs.any fun kv => decide (kv.1 = k)) = (atKey xs k).isSome := by
  rw [valV_any, (r.val k).isSome_eq, Option.isSome_map]
 unfold putK storedH
 rw [e]
 by_cases q : (atKey xs k).isSome = true
 · rw [if_pos q, if_pos q]; exact r.repl k ry
 · rw [if_neg q, if_neg q]; exact Paired.snoc r ⟨rfl, hb, ry⟩
theorem KT.keeps {H H' : Hp} {kvs : List (List Key × V)} {xs : List (List Key × Addr × Value)} (r : KT H kvs xs) (ht : ∀ b ys, H b = some (.tup ys) → H' b = some (.tup ys)) : KT H' kvs xs :=
 Paired.mapP r fun _ _ z => ⟨z.1, ht _ _ z.2.1, z.2.2⟩
section
variable {P : Program} {w : World} {H : Hp} {h : Heap} {a : Addr}
theorem rd_of {u : HO} (ok : HOk P w H h) (e : Rd H a u) : ObjOk P w H h a u := e.ok ok
theorem dk_rd {kvs : List (Key × V)} (ok : HOk P w H h) (e : Rd H a (.dK kvs)) : kvs.length ≤ sizeLine ∧ (a == sysModules) = false ∧ ∃ vs, KV kvs vs ∧ h.DictOf (mixKind P w) a vs :=
 show ObjOk P w H h a (.dK kvs) from rd_of ok e
theorem dk_of {kvs : List (Key × V)} (ok : HOk P w H h) (e : H a = some (.dK kvs)) : kvs.length ≤ sizeLine ∧ (a == sysModules) = false ∧ ∃ vs, KV kvs vs ∧ h.DictOf (mixKind P w) a vs := dk_rd ok (.inl e)
theorem key_of {ks : List Key} (ok : HOk P w H h) (e : H a = some (.tup (ks.map kV))) : (tupleKind (mixKind P w)).is h ks a := by
 obtain ⟨_, its, r, o, h1, h2, n, h3⟩ := (show ObjOk P w H h a (.tup (ks.map kV)) from ok a _ e)
 exact ⟨o, its.toArray, n, h1, h2, h3, by simpa using items_are r⟩
theorem dt_rd {kvs : List (List Key × V)} (ok : HOk P w H h) (e : Rd H a (.dT kvs)) : kvs.length ≤ sizeLine ∧ (a == sysModules) = false ∧
 ∃ xs, KT H kvs xs ∧ h.DictOfH (tupleKind (mixKind P w)) a xs := by
 obtain ⟨z, y, xs, r, o, es, ep, h1, h2, h3, h4, h5⟩ := (show ObjOk P w H h a (.dT kvs) from rd_of ok e)
 refine ⟨z, y, xs, r, o, es, ep, h1, h2, h3, h4, fun x hx => ?_, h5⟩
 have all : ∀ {l : List (List Key × V)} {m : List (List Key × Addr × Value)}, KT H l m → ∀ x ∈ m, (tupleKind (mixKind P w)).is h x.1 x.2.1 := by
  intro l m q
  induction q with
  | nil => intro x hx; exact nomatch hx
  | @cons p q ps qs hq t ih =>
   intro x hx
   rcases List.mem_cons.mp hx with e | hx
   · subst e
     exact key_of ok (by rw [← hq.1]; exact hq.2.1)
   · exact ih x hx
 exact all r x hx
theorem dt_of {kvs : List (List Key × V)} (ok : HOk P w H h) (e : H a = some (.dT kvs)) : kvs.length ≤ sizeLine ∧ (a == sysModules) = false ∧
 ∃ xs, KT H kvs xs ∧ h.DictOfH (tupleKind (mixKind P w)) a xs := dt_rd ok (.inl e)
end
def DGet (H : Hp) (a : Addr) (y : V) (r : Option V) : Prop :=
 (∃ kvs k, Rd H a (.dK kvs) ∧ y = kV k ∧ r = valV kvs k) ∨ ∃ kvs k b, Rd H a (.dT kvs) ∧ y = .ref b ∧ H b = some (.tup (k.map kV)) ∧ r = valV kvs k
def DPut (H : Hp) (a : Addr) (y v : V) (H' : Hp) : Prop :=
 (∃ kvs k, H a = some (.dK kvs) ∧ y = kV k ∧ kvs.length < sizeLine ∧ H' = upd H a (.dK (putK kvs k v))) ∨
 ∃ kvs k b, H a = some (.dT kvs) ∧ y = .ref b ∧ H b = some (.tup (k.map kV)) ∧ kvs.length < sizeLine ∧ H' = upd H a (.dT (putK kvs k v))
theorem DGet.k {H : Hp} {a : Addr} {kvs : List (Key × V)} {k : Key} (e : H a = some (.dK kvs)) : DGet H a (kV k) (valV kvs k) := .inl ⟨kvs, k, .inl e, rfl, rfl⟩
theorem DPut.k {H : Hp} {a : Addr} {kvs : List (Key × V)} {k : Key} {v : V} (e : H a = some (.dK kvs)) (hl : kvs.length < sizeLine) : DPut H a (kV k) v (upd H a (.dK (putK kvs k v))) := .inl ⟨kvs, k, e, rfl, hl, rfl⟩
section
variable {X : Cx} {pins : List (Addr × Obj)} {σ : St} {H : Hp} {s : Shared} {a : Addr} {y v : V} {u r : Value} {o : Option V} {A : Around} {E : Value → Shared → Prop}
theorem Inv.big (I : Inv X pins σ H s) : sysModules < s.heap.objs.size := by
 have h : mainGlobals < s.heap.objs.size := (I.mod.glob.keeps I.bk).lt
 exact Nat.lt_trans (by decide) h
theorem d_write {h' : Heap} {t' : Nat} {ob : HO} (I : Inv X pins σ H s) (mu : Mut (H a)) (hs : Heap.SameBut a s.heap h') (he : ∃ q, h'.get? a = some q) (new : ObjOk X.prog X.w (upd H a ob) h' a ob) :
 Inv X pins σ (upd H a ob) { s with heap := h', toks := t' } :=
 I.write (x := a) (e := a) mu (.inl rfl) (fun b q hb z => (hs.2 b hb).trans z) he new
theorem dk_new {P : Program} {w : World} {H' : Hp} {h' : Heap} {kvs : List (Key × V)} {vs : List (Key × Value)} (z : kvs.length ≤ sizeLine) (hd : (a == sysModules) = false) (rel : KV kvs vs) (dd : h'.DictOf (mixKind P w) a vs) :
 ObjOk P w H' h' a (.dK kvs) := ⟨z, hd, vs, rel, dd⟩
theorem d_setItem {H' : Hp} {Q : Unit → Shared → Prop} (hu : A.units + 1 < cLine) (I : Inv X pins σ H s) (g : DPut H a y v H') (ry : RelV y u) (rv : RelV v r) (h : ∀ s', Inv X pins σ H' s' → Q () s') :
 wpAny (model X.prog X.w) A (setItem (.ref a) u r) Q E s := by
 rcases g with ⟨kvs, k, e, ey, l, eH⟩ | ⟨kvs, k, b, e, ey, eb, l, eH⟩
 · subst ey eH
   obtain ⟨z, hd, vs, rel, dd⟩ := dk_of I.hok e
   have hz : vs.length ≤ sizeLine := by rw [← rel.length]; exact z
   have hl : (putK kvs k v).length ≤ sizeLine := by have := length_putK kvs k v; omega
   refine wpAny_setItem_pairs (hsz := hz) (kV_is ry) dd fun h' dd' hs => h _ ?_
   have he : ∃ q, h'.get? a = some q := let ⟨q, _, _, hq, _⟩ := dd'; ⟨q, hq⟩
   exact d_write I (by rw [e]; exact True.intro) hs he (dk_new hl hd (rel.put k rv) dd')
 · subst ey eH
   cases (show u = Value.ref b from ry)
   obtain ⟨z, hd, xs, rel, dd⟩ := dt_of I.hok e
   have hz : xs.length ≤ sizeLine := by rw [← Paired.length rel]; exact z
   have hl : (putK kvs k v).length ≤ sizeLine := by have := length_putK kvs k v; omega
   refine wpAny_setItem_heap (hsz := hz) (tupleKind_room_in1 hu) (key_of I.hok eb) dd fun h' dd' hs => h _ ?_
   obtain ⟨q, es, ep, hq, h2, h3, h4, _, h5⟩ := dd'
   refine d_write I (by rw [e]; exact True.intro) hs ⟨q, hq⟩ ⟨hl, hd, _, (rel.put k eb rv).keeps fun c ys ec => ?_, q, es, ep, hq, h2, h3, h4, h5⟩
   rw [upd_ne (ne_of ec e (fun z => nomatch z))]
   exact ec
end
def sDPut (td ty tv : TE) : TS := fun D σ H => tv σ H fun v H1 => td σ H1 fun x H2 => ty σ H2 fun y H3 => ∃ a H4, x = .ref a ∧ DPut H3 a y v H4 ∧ D.nx σ H4
section
variable {X : Cx} {o i e value : Expr} {pos pos' tpos : Pos} {td ty tv : TE}
theorem ps_dput (hu : X.A.units + 1 < cLine) (ho : PE X o td) (hi : PE X i ty) (hv : PE X value tv) (hs : swapsWith value (some (.Subscript o i pos')) pos.line X.env = pure false) :
 PS X (.Assign [.Subscript o i pos'] value pos) (sDPut td ty tv) := by
 intro pins s σ H D I h
 refine wpAny_Assign_Subscript (thn (hv pins s σ H _ I h) fun r s1 ⟨v, H1, I1, rv, q1⟩ => thn (ho pins s1 σ H1 _ I1 q1) fun u s2 ⟨x, H2, I2, rx, q2⟩ => thn (hi pins s2 σ H2 _ I2 q2) fun iv s3 ⟨y, H3, I3, ry, a, H4, ex, g, q3⟩ => ?_) hs
 subst ex
 obtain rfl : u = Value.ref a := rx
 exact d_setItem hu I3 g ry rv fun s4 I4 => ⟨σ, H4, I4, q3⟩
end
theorem dk_empty {P : Program} {w : World} {H : Hp} (h : Heap) (hb : sysModules < h.objs.size) : ObjOk P w H (h.push { cls := .type "dict", data := .dict #[] }) h.objs.size (.dK []) :=
 ⟨Nat.zero_le _, beq_eq_false_iff_ne.mpr (Ne.symm (Nat.ne_of_lt hb)), [], .nil, Heap.DictOf.new h⟩
def tDNewK : TE := fun _ H Q => ∀ p, H p = none → Q (.ref p) (upd H p (.dK []))
section
variable {X : Cx} {pos : Pos}
theorem pe_dnewK : PE X (.Dict [] [] pos) tDNewK := fun pins s σ H Q I h =>
 wpAny_Dict_empty ⟨.ref s.heap.objs.size, _, I.laid (a := s.heap.objs.size) (o := .dK []) (t' := s.toks) (fun _ _ q => Heap.get?_push_of_some _ q) (Nat.le_refl _) (dk_empty s.heap I.big), rfl, h _ (I.hok.fresh (Nat.le_refl _))⟩
end
def tPairs : List (TE × TE) → St → Hp → (List (V × V) → Hp → Prop) → Prop
 | [], _, H, Q => Q [] H
 | (tk, tv) :: r, σ, H, Q => tk σ H fun x H1 => tv σ H1 fun y H2 => tPairs r σ H2 fun ps H3 => Q ((x, y) :: ps) H3
abbrev VV : List (V × V) → List (Value × Value) → Prop := Paired fun p q => RelV p.1 q.1 ∧ RelV p.2 q.2
def PPs (X : Cx) (pos : Pos) (keys : List (Option Expr)) (values : List Expr) (trs : List (TE × TE)) : Prop :=
 ∀ (pins : List (Addr × Obj)) (s : Shared) (σ : St) (H : Hp) (Q : List (V × V) → Hp → Prop), Inv X pins σ H s → tPairs trs σ H Q →
  wpAny (model X.prog X.w) X.A (evalPairs (pairTrees keys values X.env pos)) (fun vs s' => ∃ ps H', Inv X pins σ H' s' ∧ VV ps vs ∧ Q ps H') X.xe s
theorem pps_nil {X : Cx} {pos : Pos} : PPs X pos [] [] [] := fun pins s σ H Q I h => pairTrees_nil_walk ⟨[], H, I, .nil, h⟩
theorem pps_cons {X : Cx} {pos : Pos} {k v : Expr} {ks : List (Option Expr)} {vs : List Expr} {tk tv : TE} {trs : List (TE × TE)} (hk : PE X k tk) (hv : PE X v tv) (hr : PPs X pos ks vs trs) :
 PPs X pos (some k :: ks) (v :: vs) ((tk, tv) :: trs) := fun pins s σ H Q I h =>
 pairTrees_cons_walk (thn (hk pins s σ H _ I h) fun u s1 ⟨x, H1, I1, rx, q1⟩ => thn (hv pins s1 σ H1 _ I1 q1) fun w2 s2 ⟨y, H2, I2, ry, q2⟩ =>
  thn (hr pins s2 σ H2 _ I2 q2) fun ws s3 ⟨ps, H3, I3, rel, q3⟩ => ⟨(x, y) :: ps, H3, I3, .cons ⟨rx, ry⟩ rel, q3⟩)
def mergeK (kvs more : List (Key × V)) : List (Key × V) := more.foldl (fun acc kv => putK acc kv.1 kv.2) kvs
theorem KV.merge : ∀ {more : List (Key × V)} {rs : List (Key × Value)} {kvs : List (Key × V)} {vs : List (Key × Value)}, KV more rs → KV kvs vs → KV (mergeK kvs more) (merged vs rs) := by
 intro more rs kvs vs r
 unfold KV at r
 induction r generalizing kvs vs with
 | nil => intro q; exact q
 | @cons p q ps qs h t ih =>
  intro r0
  have e : KV (putK kvs p.1 p.2) (stored vs q.1 q.2) := by
   have := r0.put p.1 h.2
   rw [← h.1]; exact this
  exact ih e
theorem length_mergeK : ∀ (more kvs : List (Key × V)), (mergeK kvs more).length ≤ kvs.length + more.length
 | [], kvs => by show kvs.length ≤ kvs.length + 0; omega
 | p :: r, kvs => by
  have h1 := length_mergeK r (putK kvs p.1 p.2)
  have h2 := length_putK kvs p.1 p.2
  show (mergeK (putK kvs p.1 p.2) r).length ≤ _
  rw [List.length_cons]; omega
theorem carries_of {P : Program} {w : World} : ∀ {kvs : List (Key × V)} {ws : List (Value × Value)}, VV (kvs.map fun kv => (kV kv.1, kv.2)) ws → ∃ rs, Carries (mixKind P w) ws rs ∧ KV kvs rs
 | [], _, r => by rw [List.map_nil] at r; cases r; exact ⟨[], True.intro, .nil⟩
 | p :: kvs, _, r => by
  rw [List.map_cons] at r
  cases r with
  | @cons a b as bs h t =>
   obtain ⟨rs, c, q⟩ := carries_of (P := P) (w := w) t
   obtain ⟨b1, b2⟩ := b
   exact ⟨(p.1, b2) :: rs, ⟨kV_is h.1, rfl, c⟩, .cons ⟨rfl, h.2⟩ q⟩
def tDisp (trs : List (TE × TE)) : TE := fun σ H Q => ∀ p, H p = none → tPairs trs σ (upd H p (.dK [])) fun ps H2 => H2 p = some (.dK []) ∧ ∃ kvs : List (Key × V), ps = kvs.map (fun kv => (kV kv.1, kv.2)) ∧ kvs.length ≤ 15 ∧ Q (.ref p) (upd H2 p (.dK (mergeK [] kvs)))
theorem pe_disp {X : Cx} {pos : Pos} {keys : List (Option Expr)} {values : List Expr} {trs : List (TE × TE)} (h : PPs X pos keys values trs) (hall : keys.all (·.isSome) = true) (hl : keys.length = values.length) (h0 : keys ≠ [])
 (h15 : keys.length ≤ 15) : PE X (.Dict keys values pos) (tDisp trs) := by
 intro pins s σ H Q I q
 have hn := I.hok.fresh (Nat.le_refl s.heap.objs.size)
 have I1 := I.laid (a := s.heap.objs.size) (o := .dK []) (h' := s.heap.push { cls := .type "dict", data := .dict #[] }) (t' := s.toks) (fun _ _ q => Heap.get?_push_of_some _ q) (Nat.le_refl _) (dk_empty s.heap I.big)
 refine wpAny_Dict_walk (knd := mixKind X.prog X.w) hall hl h0 h15 (thn (h pins _ σ _ _ I1 (q _ hn)) fun ws s2 ⟨ps, H2, I2, rel, e, kvs, ep, lk, q2⟩ => ?_)
 subst ep
 obtain ⟨rs, c, rk⟩ := carries_of (P := X.prog) (w := X.w) rel
 obtain ⟨z, hd, vs0, r0, dd⟩ := dk_of I2.hok e
 cases r0
 refine ⟨rs, c, dd, fun h' dd' hs => ⟨.ref s.heap.objs.size, _, ?_, rfl, q2⟩⟩
 have hz : (mergeK [] kvs).length ≤ sizeLine := by
  have h1 := length_mergeK kvs []
  rw [List.length_nil] at h1
  rw [sizeLine_eq]; omega
 have he : ∃ q, h'.get? s.heap.objs.size = some q := let ⟨q, _, _, hq, _⟩ := dd'; ⟨q, hq⟩
 exact d_write I2 (by rw [e]; exact True.intro) hs he (dk_new hz hd (rk.merge .nil) dd')
structure M2 (X : Cx) (o : Expr) (m : Str) (apos : Pos) (e f : Expr) (cpos : Pos) : Prop where
 base : attributeBase o m X.env (eval o X.env) = eval o X.env
 few : ((backTo cpos (starEach [e, f] X.env)).all (fun x => !x.1) && (backToKw cpos (keywordEach [] X.env)).all (fun x => x.1.isSome)
  && decide (([e, f] : List Expr).length + ([] : List Keyword).length + (if ([] : List Keyword).isEmpty then 0 else 1) < 30)) = true
 line : (apos.endLine == cpos.line) = true
 trees : backTo cpos (starEach [e, f] X.env) = [(false, eval e X.env), (false, eval f X.env)]
def IsD (H : Hp) (a : Addr) : Prop := (∃ kvs, Rd H a (.dK kvs)) ∨ ∃ kvs, Rd H a (.dT kvs)
theorem isD_at {X : Cx} {pins : List (Addr × Obj)} {σ : St} {H : Hp} {s : Shared} {a : Addr} (I : Inv X pins σ H s) (d : IsD H a) :
 s.TypeIs (.ref a) "dict" ∧ (∀ b, Value.ref a = .ref b → ∃ ob, s.heap.get? b = some ob ∧ ob.dict = none) ∧ (a == sysModules) = false := by
 rcases d with ⟨kvs, e⟩ | ⟨kvs, e⟩
 · obtain ⟨_, hd, vs, _, dd⟩ := dk_rd I.hok e
   refine ⟨dd.typeIs, fun b q => ?_, hd⟩
   cases q
   obtain ⟨ob, _, _, h1, h2, _⟩ := dd
   exact ⟨ob, h1, h2.2.1⟩
 · obtain ⟨_, hd, xs, _, dd⟩ := dt_rd I.hok e
   refine ⟨dd.typeIs, fun b q => ?_, hd⟩
   cases q
   obtain ⟨ob, _, _, h1, h2, _⟩ := dd
   exact ⟨ob, h1, h2.2.1⟩
section
variable {X : Cx} {pins : List (Addr × Obj)} {σ : St} {H : Hp} {s : Shared} {a : Addr} {y d : V} {u r : Value} {o : Option V} {A : Around} {E : Value → Shared → Prop}
theorem d_get2 {Q : Value → Shared → Prop} (hu : A.units + 1 < cLine) (I : Inv X pins σ H s) (g : DGet H a y o) (ry : RelV y u) (rd : RelV d r) (h : ∀ w' s', Inv X pins σ H s' → RelV (o.getD d) w' → Q w' s') :
 wpAny (model X.prog X.w) A (call (.builtin "dict.get") [.ref a, u, r]) Q E s := by
 rcases g with ⟨kvs, k, e, ey, l⟩ | ⟨kvs, k, b, e, ey, eb, l⟩
 · subst ey
   obtain ⟨z, hd, vs, rel, dd⟩ := dk_rd I.hok e
   refine call_meetsIn PySem.F.slot_dict_get dd.typeIs PySem.F.entry_dict_get (PySem.F.args_dict_get_3 _ _ _) (meets_dict_get_default (mixKind X.prog X.w) a (kV_is ry) hd r) ⟨_, dd.mapOf, h _ _ (I.tok _) ?_⟩
   rw [l]
   exact (rel.val k).getD rd
 · subst ey
   cases (show u = Value.ref b from ry)
   obtain ⟨z, hd, xs, rel, dd⟩ := dt_rd I.hok e
   refine call_meetsIn PySem.F.slot_dict_get dd.typeIs PySem.F.entry_dict_get (PySem.F.args_dict_get_3 _ _ _) (meetsH_dict_get_default (tupleKind (mixKind X.prog X.w)) a b hd r) ⟨tupleKind_room_in1 hu, k, xs, key_of I.hok eb, dd, h _ _ (I.tok _) ?_⟩
   rw [l]
   exact (rel.val k).getD rd
end
def tDGet2 (td ty tx : TE) : TE := fun σ H Q => td σ H fun x H1 => ∃ a, x = .ref a ∧ IsD H1 a ∧ ty σ H1 fun y H2 => tx σ H2 fun z H3 => ∃ o, DGet H3 a y o ∧ Q (o.getD z) H3
section
variable {X : Cx} {o e f : Expr} {apos cpos : Pos} {td ty tx : TE}
theorem pe_dget2 (hu : X.A.units + 1 < cLine) (ho : PE X o td) (he : PE X e ty) (hf : PE X f tx) (m : M2 X o "get" apos e f cpos) : PE X (.Call (.Attribute o "get" apos) [e, f] [] cpos) (tDGet2 td ty tx) := by
 intro pins s σ H Q I h
 refine wpAny_Call_method m.base m.few m.line PySem.F.plainAttrs_dict PySem.F.slot_dict_get PySem.F.type_dict_get (thn (ho pins s σ H _ I h) fun u s1 ⟨x, H1, I1, rx, a, ex, d, q1⟩ => ?_)
 subst ex
 obtain rfl : u = Value.ref a := rx
 obtain ⟨t1, t2, _⟩ := isD_at I1 d
 refine ⟨t1, t2, ?_⟩
 rw [m.trees]
 refine Calls.callWith_builtin rfl (Calls.evalArgs_plain (Calls.spliced_cons (thn (he pins s1 σ H1 _ I1 q1) fun iv s2 ⟨y, H2, I2, ry, q2⟩ =>
  Calls.spliced_cons (thn (hf pins s2 σ H2 _ I2 q2) fun fv s3 ⟨z, H3, I3, rz, ov, g, q3⟩ => Calls.spliced_nil ?_))))
 exact d_get2 hu I3 g ry rz fun w' s4 I4 rw' => ⟨_, H3, I4, rw', q3⟩
end
end L2
set_option maxHeartbeats 4000000
namespace Br
open PySem PySem.Spec PyProof.Rows L2
structure Callee (CX : CXT) (P : Program) (w : World) (K : PySem.W.Frag) (mg : Str → Option Value) (base : Heap) (x : Str) (k : Nat) (ps : List Str) (sp : Sp) : Prop where
 ex : ∃ f fd, FnOk P w K mg base CX k f fd ps sp ∧ mg x = some (.ref f) ∧ PySem.W.keepIn K (.ref f) = true ∧ Binds K fd ps []
section
variable {X : Cx} {CX : CXT} {k : Nat} {ps : List Str} {sp : Sp} {E : XK} {x : Str} {p pos : Pos} {e : Expr} {es : List Expr} {t : TA}
theorem pe_callS (c : Callee CX0 X.prog X.w X.K X.mg X.base x k ps sp) (hr : Room k X.A) (hg : Gl X x) (ha : PA X (e :: es) t) (hdb : (x == ("__debug__" : Str)) = false := by decide)
 (he : starEach (e :: es) X.env = (false, eval e X.env) :: starEach es X.env := by rfl) (hpl : (backTo pos (starEach es X.env)).any (·.1) = false := by rfl) :
 PE X (.Call (.Name x p) (e :: es) [] pos) (tCall sp [] E0 t) := by
 obtain ⟨f, fd, F, hm, hk, hb⟩ := c.ex
 exact pe_call F hr hg hm hk hb .nil pass0 ha hdb he hpl
end
section
variable {X : Cx} {a b : Expr} {ta tb : TE} {pos : Pos}
def CDivB (i j : Int) : Prop := 0 < j ∧ j < 2 ^ 8000
theorem log2_of {y : Int} (h0 : 0 < y) (h1 : y < 2 ^ 8000) : y.natAbs.log2 < 9000 := by
 have h : y.natAbs < 2 ^ 8000 := by
  have e : ((2 : Int) ^ 8000) = ((2 ^ 8000 : Nat) : Int) := by norm_cast
  rw [e] at h1
  omega
 have h2 : y.natAbs.log2 < 8000 := (Nat.log2_lt (by omega)).mpr h
 omega
theorem op_fdivB : OpR X (binaryOp .FloorDiv) (rI CDivB fun i j => .int (i / j)) := opI fun i j _ _ _ _ _ hc q => by
 have e : i / j = i.fdiv j := (Int.fdiv_eq_ediv_of_nonneg _ (Int.le_of_lt hc.1)).symm
 rw [e] at q
 exact floordiv_int (Int.ne_of_gt hc.1) q (.inl (PyProof.noPylong_of_log2 (log2_of hc.1 hc.2)))
def CMulB (i j : Int) : Prop := i.natAbs < 2 ^ 8000 ∧ j.natAbs < 2 ^ 8000
theorem bits_of {i : Int} (h : i.natAbs < 2 ^ 8000) : Builtin.Int.intBits i ≤ 2 ^ 20 := Nat.le_trans (intBits_le h) (by decide)
end
inductive At : List Str → Nat → Str → Prop where
 | here {x : Str} {l : List Str} : At (x :: l) 0 x
 | there {x y : Str} {l : List Str} {i : Nat} : At l i x → At (y :: l) (i + 1) x
theorem At.get : ∀ {l : List Str} {i : Nat} {x : Str}, At l i x → l[i]? = some x
 | _, _, _, .here => rfl
 | _, _, _, .there h => by simpa using h.get
section
variable {X : Cx} {a b c e o : Expr} {es rest : List Expr} {ta tb tc te to : TE} {tA tB' : TT} {t : TA} {pos p apos p2 : Pos} {x : Str} {i : Nat} {N : List Str}
theorem r_name (h : At X.N i x) (hk : X.env.scope.names.lookup x = some .local) (hd : (x == ("__debug__" : Str)) = false) (hcd : (x == ("__classdict__" : Str)) = false) : PE X (.Name x pos) (tVar i) := pe_var h.get (.inl hk) hd hcd
theorem r_bin {op : Operator} {r : R2} (ho : OpR X (binaryOp op) r) (ha : PE X a ta) (hb : PE X b tb) : PE X (.BinOp a op b pos) (tOp r ta tb) := pe_op ho ha hb
theorem t_cmp {op : CmpOp} {r : R2} (h1 : op ≠ .In) (h2 : op ≠ .NotIn) (ho : OpR X (compareOp op) r) (ha : PE X a ta) (hb : PE X b tb) : PT X (.Compare a [op] [b] pos) (tTest (tOp r ta tb)) := pt_cmpR ho ha hb (nomark _ h1 h2)
theorem r_neg (ha : PE X a ta) : PE X (.UnaryOp .USub a pos) (tUn (rU fun i => .int (-i)) ta) := pe_un un_neg ha
theorem t_call {f : Expr} {ks : List Keyword} (h : PE X (.Call f es ks pos) te) : PT X (.Call f es ks pos) (tB te) := pt_val h (fun _ => rfl)
theorem r_ix (hs : PlainIx b) (ha : PE X a ta) (hb : PE X b tb) : PE X (.Subscript a b pos) (tOp (rIx X.K) ta tb) := pe_ix ix_seq ha hb hs
theorem r_acons (hs : starEach (e :: es) X.env = (false, eval e X.env) :: starEach es X.env) (ha : PE X e te) (hr : PA X es t) : PA X (e :: es) (tCons te t) := pa_cons ha hr hs
theorem r_call {k : Nat} {ps : List Str} {sp : Sp} (c : Callee CX0 X.prog X.w X.K X.mg X.base x k ps sp) (hr : Room k X.A) (hg : Gl X x) (hdb : (x == ("__debug__" : Str)) = false)
 (he : starEach (e :: es) X.env = (false, eval e X.env) :: starEach es X.env) (hpl : (backTo pos (starEach es X.env)).any (·.1) = false) (ha : PA X (e :: es) t) : PE X (.Call (.Name x p) (e :: es) [] pos) (tCall sp [] E0 t) := pe_callS c hr hg ha hdb he hpl
def rLen (K : PySem.W.Frag) : List V → Hp → VK → Prop := fun xs H Q => (∃ p ys, xs = [.ref p] ∧ (SqL K H p ys ∨ SqT K H p ys) ∧ Q (.int ys.length) H) ∨ ∃ z, xs = [.str z] ∧ z.length ≤ sizeLine ∧ Q (.int z.length) H
theorem call_lenA : CallR X (.builtin "len") (rLen X.K) := by
 intro pins s σ H xs us Q I r h
 rcases h with h | h
 · exact call_len_seq pins s σ H xs us Q I r h
 · exact call_len_str pins s σ H xs us Q I r h
section
variable (hg : Gl X x) (he : starEach (e :: es) X.env = (false, eval e X.env) :: starEach es X.env) (hpl : (backTo pos (starEach es X.env)).any (·.1) = false)
include hg he hpl
theorem r_len (hx : x = "len") (hm : X.mg x = none) (ha : PA X (e :: es) t) : PE X (.Call (.Name x p) (e :: es) [] pos) (tCB (rLen X.K) t) := by subst hx; exact pe_callB call_lenA hg hm PySem.boot_len ha (by decide) (by decide) he hpl
theorem r_abs (hx : x = "abs") (hm : X.mg x = none) (ha : PA X (e :: es) t) : PE X (.Call (.Name x p) (e :: es) [] pos) (tCB (fun xs H Q => ∃ i, xs = [.int i] ∧ Q (.int (if i < 0 then -i else i)) H) t) := by subst hx; exact pe_callB call_abs hg hm boot_abs ha (by decide) (by decide) he hpl
theorem r_max (hx : x = "max") (hc : X.calm = true) (hm : X.mg x = none) (ha : PA X (e :: es) t) : PE X (.Call (.Name x p) (e :: es) [] pos) (tCB (fun xs H Q => ∃ i j, xs = [.int i, .int j] ∧ Q (.int (if j > i then j else i)) H) t) := by subst hx; exact pe_callB (call_max2 hc) hg hm boot_max ha (by decide) (by decide) he hpl
theorem r_min (hx : x = "min") (hc : X.calm = true) (hm : X.mg x = none) (ha : PA X (e :: es) t) : PE X (.Call (.Name x p) (e :: es) [] pos) (tCB (fun xs H Q => ∃ i j, xs = [.int i, .int j] ∧ Q (.int (if j < i then j else i)) H) t) := by subst hx; exact pe_callB (call_min2 hc) hg hm boot_min ha (by decide) (by decide) he hpl
end
variable {st : Stmt} {sts : List Stmt} {t1 t2 : TS}
theorem r_ret (he : PE X e te) : PS X (.Return (some e) pos) (tRet te) := ps_ret he
theorem r_set (h : At X.N i x) (hN : X.N.Nodup) (hk : X.env.scope.names.lookup x = some .local) (hs : swapsWith e (some (.Name x p)) pos.line X.env = pure false) (he : PE X e te) : PS X (.Assign [.Name x p] e pos) (tAsg te (gName i)) :=
 ps_set hN h.get (.inl hk) he hs (.inr hk)
theorem r_expr (hs : swapsWith e none pos.line X.env = pure false) (he : PE X e te) : PS X (.Expr e pos) (tDrop te) := ps_expr he hs
theorem r_for {iter tg : Expr} {body : List Stmt} {wi : TI} {g : TG} {tb : TS} (hp : PassesOwn (model X.prog X.w) X.A X.env X.xe) (hc : X.calm = true) (hs : ∀ x, foldedSetIterable iter X.env x = pure x) (hi : PI X tg iter wi) (hg : PG X tg g) (hb : PSs X body tb) : PS X (.For tg iter body [] pos) (tFor wi g tb) := ps_for hp hc hi hg hb hs
theorem r_gname (h : At X.N i x) (hN : X.N.Nodup) (hk : X.env.scope.names.lookup x = some .local) : PG X (.Name x pos) (gName i) := pg_name hN h.get (.inl hk) (.inr hk)
theorem r_irange1 {tg : Expr} (hx : x = "range") (hg : Gl X x) (hm : X.mg x = none) (hs : starEach [a] X.env = [(false, eval a X.env)]) (ha : PA X [a] t) : PI X tg (.Call (.Name x p) [a] [] pos) (iRng1 t) := by subst hx; exact pi_range1 hg hm ha hs
theorem r_append {cpos : Pos} (hbase : attributeBase o "append" X.env (eval o X.env) = eval o X.env) (hfew : ((backTo cpos (starEach [e] X.env)).all (fun x => !x.1) && (backToKw cpos (keywordEach [] X.env)).all (fun x => x.1.isSome)
 && decide (([e] : List Expr).length + ([] : List Keyword).length + (if ([] : List Keyword).isEmpty then 0 else 1) < 30)) = true) (hline : (apos.endLine == cpos.line) = true) (hs : starEach [e] X.env = (false, eval e X.env) :: starEach [] X.env)
 (hpl : (backTo cpos (starEach [] X.env)).any (·.1) = false) (ho : PE X o to) (ha : PA X [e] t) : PE X (.Call (.Attribute o "append" apos) [e] [] cpos) (tBM X.K "list" rAppend to t) :=
 pe_bm PySem.F.plainAttrs_list PySem.F.slot_list_append PySem.F.type_list_append mt_append ho ha hbase hfew hline hs hpl
end
def tMid (t : TS) : TS := fun D σ H => ∃ M : L2.St → Hp → Prop, t { D with nx := M } σ H ∧ ∀ σ' H', M σ' H' → D.nx σ' H'
theorem ps_mid {X : Cx} {st : Stmt} {t : TS} (h : PS X st t) : PS X st (tMid t) := by
 intro pins s σ H D I hq
 obtain ⟨M, h1, h2⟩ := hq
 refine thn (h pins s σ H { D with nx := M } I h1) fun f s1 q => ?_
 cases f with
 | next =>
  obtain ⟨σ', H', I', q⟩ := q
  exact ⟨σ', H', I', h2 _ _ q⟩
 | ret v => exact q
 | brk => exact q
 | cont => exact q
theorem r_ifM {X : Cx} {c : Expr} {tA : TT} {t1 t2 : TS} {pos : Pos} {aa bb : List Stmt} (hc : PT X c tA) (ha : PSs X aa t1) (hb : PSs X bb t2) : PS X (.If c aa bb pos) (tMid (tIfS tA t1 t2)) := ps_mid (ps_if hc ha hb)
theorem atI_ints {zs : List Int} {i : Int} (h0 : 0 ≤ i) (h1 : i < zs.length) : ∃ z, z ∈ zs ∧ zs[i.toNat]? = some z ∧ atI (zs.map V.int) i = some (V.int z) := by
 have hl : i.toNat < zs.length := by omega
 have e : zs[i.toNat]? = some zs[i.toNat] := List.getElem?_eq_getElem hl
 have e1 : (zs.map V.int)[i.toNat]? = some (V.int zs[i.toNat]) := by rw [List.getElem?_map, e]; rfl
 have e2 := atI_nat e1
 rw [Int.toNat_of_nonneg h0] at e2
 exact ⟨_, List.getElem_mem hl, e, e2⟩
theorem Same.upd {H : Hp} {p : Addr} {o : HO} (h : H p = none) : L2.Same H (upd H p o) := fun b u e => by rw [upd_ne (ne_of_none e h)]; exact e
theorem lenLe {n : Nat} {xs : List V} (h : xs.length = n) (h2 : n ≤ 1000) : xs.length ≤ sizeLine := by rw [h]; exact Nat.le_trans h2 (by decide)
theorem lt250 {n : Nat} (h : n < 2 ^ 250) : n < 2 ^ 8000 := Nat.lt_of_lt_of_le h (Nat.pow_le_pow_right (by decide) (by decide))
theorem ilt250 {n : Int} (h : n < 2 ^ 250) : n < 2 ^ 8000 := by
 have e : ((2 : Int) ^ 8000) = ((2 ^ 8000 : Nat) : Int) := by norm_cast
 have e2 : ((2 : Int) ^ 250) = ((2 ^ 250 : Nat) : Int) := by norm_cast
 rw [e2] at h
 rw [e]
 exact Int.lt_of_lt_of_le h (Int.ofNat_le.mpr (Nat.pow_le_pow_right (by decide) (by decide)))
theorem mulB {i j : Int} (h1 : i.natAbs < 2 ^ 250) (h2 : j.natAbs < 2 ^ 250) : CMulB i j := ⟨lt250 h1, lt250 h2⟩
theorem divB {i j : Int} (h1 : 0 < j) (h2 : j < 2 ^ 250) : CDivB i j := ⟨h1, ilt250 h2⟩
section
variable {X : Cx} {a b c e o : Expr} {es rest : List Expr} {ta tb tc te to : TE} {t : TA} {pos p apos p2 : Pos} {x : Str} {i j : Nat}
theorem r_dict1 (ha : PE X a ta) (hb : PE X b tb) : PE X (.Dict [some a] [b] pos) (tDisp [(ta, tb)]) := pe_disp (pps_cons ha hb pps_nil) rfl rfl (by simp) (show 1 ≤ 15 by decide)
theorem r_unpack2 {y : Str} {px py pt : Pos} {kt : Nat} (hi : At X.N i x) (hj : At X.N j y) (hc : X.calm = true) (hN : X.N.Nodup) (hx : X.env.scope.names.lookup x = some .local) (hy : X.env.scope.names.lookup y = some .local)
 (h1 : (assignEach [.Name x px, .Name y py] X.env).map (·.2) = assign (.Name x px) X.env :: (assignEach [.Name y py] X.env).map (·.2))
 (h2 : (assignEach [.Name y py] X.env).map (·.2) = assign (.Name y py) X.env :: (assignEach [] X.env).map (·.2))
 (hn : (assignEach [.Name x px, .Name y py] X.env).length = 2) (hst : (assignEach [.Name x px, .Name y py] X.env).findIdx? (·.1) = none)
 (hs : swapsWithSole [.Tuple [.Name x px, .Name y py] kt pt] e pos.line X.env = pure false) (hw : swappedStores [.Tuple [.Name x px, .Name y py] kt pt] e X.env = pure none)
 (h3 : (assignEach [.Tuple [.Name x px, .Name y py] kt pt] X.env).map (·.2) = [assign (.Tuple [.Name x px, .Name y py] kt pt) X.env]) (he : PE X e te) :
 PS X (.Assign [.Tuple [.Name x px, .Name y py] kt pt] e pos) (tAsg te (gTup X.K 2 (gCons (gName i) (gCons (gName j) gNil)))) :=
 ps_asg he (pg_tup hc (pgs_cons (pg_name hN hi.get (.inl hx) (.inr hx)) (pgs_cons (pg_name hN hj.get (.inl hy) (.inr hy)) pgs_nil h2) h1) hn hst) hs hw h3
def tTupS (t : TA) : TE := fun σ H Q => t σ H fun xs H1 => xs.length ≤ sizeLine ∧ ∀ p H2, H1 p = none → L2.Same H1 H2 → H2 p = some (.tup xs) → Q (.ref p) H2
def tLstS (t : TA) : TE := fun σ H Q => t σ H fun xs H1 => xs.length ≤ sizeLine ∧ ∀ p H2, H1 p = none → L2.Same H1 H2 → H2 p = some (.lst xs) → Q (.ref p) H2
def rCatS : R2 := fun x y H Q => ∃ l b xs zs, x = .ref l ∧ y = .ref b ∧ H l = some (.lst xs) ∧ H b = some (.lst zs) ∧ xs.length + zs.length ≤ sizeLine ∧ ∀ p H2, H p = none → L2.Same H H2 → H2 p = some (.lst (xs ++ zs)) → Q (.ref p) H2
def tDNewS : TE := fun _ H Q => ∀ p H2, H p = none → L2.Same H H2 → H2 p = some (.dK []) → Q (.ref p) H2
theorem r_tupS {k : Nat} (h : PA X es t) : PE X (.Tuple es k pos) (tTupS t) := fun pins s σ H Q I q => wpAny_Tuple_spliced (thn (h pos pins s σ H _ I q) fun us s1 ⟨xs, H1, I1, r, z, q⟩ => ⟨by rw [← r.length]; exact z, by
 have hf : H1 s1.heap.objs.size = none := I1.hok.fresh (Nat.le_refl _)
 refine ⟨.ref s1.heap.objs.size, upd H1 s1.heap.objs.size (.tup xs), I1.laid (t' := s1.toks) (fun b u e => Heap.get?_push_of_some _ e) (Nat.le_refl _) ?_, rfl, q _ _ hf (Br.Same.upd hf) upd_same⟩
 exact ⟨z, us, r, ⟨_, Heap.get?_push_size _ rfl, rfl, _, rfl⟩⟩⟩)
theorem r_lstS (h : PA X es t) : PE X (.List es pos) (tLstS t) := fun pins s σ H Q I q => wpAny_List_spliced (thn (h pos pins s σ H _ I q) fun us s1 ⟨xs, H1, I1, r, z, q⟩ => ⟨by rw [← r.length]; exact z, by
 have hf : H1 s1.heap.objs.size = none := I1.hok.fresh (Nat.le_refl _)
 refine ⟨.ref s1.heap.objs.size, upd H1 s1.heap.objs.size (.lst xs), I1.laid (t' := s1.toks) (fun b u e => Heap.get?_push_of_some _ e) (Nat.le_refl _) ?_, rfl, q _ _ hf (Br.Same.upd hf) upd_same⟩
 exact ⟨z, us, 0, r, Heap.get?_push_size _ rfl⟩⟩)
theorem op_catS : OpR X (binaryOp .Add) rCatS := fun pins s σ H x y v u Q I rx ry h => by
 obtain ⟨l, b, xs, zs, e1, e2, h1, h2, hz, q⟩ := h
 exact op_cat pins s σ H x y v u Q I rx ry ⟨l, b, xs, zs, e1, e2, h1, h2, hz, fun p hp => q p _ hp (Br.Same.upd hp) upd_same⟩
theorem r_dict0S : PE X (.Dict [] [] pos) tDNewS := fun pins s σ H Q I q => pe_dnewK pins s σ H Q I fun p hp => q p _ hp (Br.Same.upd hp) upd_same
end
end Br
namespace Br
open PySem PySem.Spec PySem.Calls PyProof.Rows L2 PySem.W PySem.Builtin.Getset_descriptor
structure ExcC (K : Frag) (C : Addr) : Prop where
 ga : findIn K (.ref C) "__getattribute__" = some (some (.builtin "BaseException.__getattribute__"))
 hk : findIn K (.ref C) "__getattr__" = some none
 ha : findIn K (.ref C) "__class__" = some (some (.builtin "object.__class__"))
 hn : specialIn K (.builtin "object.__class__") "__get__" = some (some (.builtin "getset_descriptor.__get__"))
 htk : takesIn K (.builtin "object.__class__") = some true
 hm : mroIn K C (.type "object") = some true
 hb : mroIn K C (.type "BaseException") = some true
def ExcAt (e C : Addr) (h : Heap) : Prop := ∃ o, h.get? e = some o ∧ o.cls = .ref C
theorem ExcAt.ty {M : Model} {e C : Addr} {h : Heap} (x : ExcAt e C h) : Looks M h (typeOf (.ref e)) (.ref C) := by
 obtain ⟨o, h1, h2⟩ := x
 rw [← h2]
 exact (Looks.ld h1).andThen .now
section
variable {prog : Program} {w : World} {A : Around} {E : Value → Shared → Prop} {s : Shared} {K : Frag} {x C : Addr}
theorem ExcC.finds {M : Model} {h : Heap} (T : ExcC K C) (X : K.In h) : Looks M h (Builtin.ObjectAttr.find (.ref x) (.ref C) "__class__") (.bind (.builtin "getset_descriptor.__get__") (.builtin "object.__class__")) := by
 have d : Looks M h (Builtin.ObjectAttr.dataDescriptor? (some (.builtin "object.__class__")) (some (.builtin "getset_descriptor.__get__"))) (some (.builtin "getset_descriptor.__get__", .builtin "object.__class__")) :=
  (looks_takesIn (M := M) X T.htk).andThen .now
 exact (looks_findIn (M := M) X T.ha).andThen (Looks.andThen (looks_specialIn (M := M) X T.hn) (d.andThen (Looks.tag .now)))
theorem exc_get {R : Result → Shared → Prop} {tp : Value} (X : K.In s.heap) (I : ExcAt x C s.heap) (hm : mroIn K C (.type "object") = some true) (h : R (.ok (.ret (.ref C))) s) :
 codeAny (model prog w) A (.call (.builtin "getset_descriptor.__get__") ⟨[.builtin "object.__class__", .ref x, tp], []⟩) R s := by
 have ob := fun {Q' : Value → Shared → Prop} {E' : Value → Shared → Prop} {A' : Around} => (fun q : Q' (.ref C) s => I.ty (M := model prog w) A' Q' E' s (fun _ _ e => e) q)
 have mr := fun {Q' : Bool → Shared → Prop} {E' : Value → Shared → Prop} {A' : Around} => (fun q : Q' true s => looks_mroIn (M := model prog w) X hm A' Q' E' s (fun _ _ e => e) q)
 apply codeAny_call_builtin KF.slot_gs.plain KF.entry_gs
 refine KF.slot_gs.check _ _ _ _ _ _ _ _ KF.type_class (KF.args_gs _ _ _) ?_
 wp_walk using ob, mr
 rw [show (".".intercalate ("object.__class__".cutAt '.').dropLast) = "object" from by decide +kernel]
 wp_walk using mr
 refine ⟨Code.quiet_builtin _ (by decide +kernel), codeAny_builtin KF.entry_class ?_⟩
 wp_walk using ob
 exact h
theorem exc_cls {Q : Option Value → Shared → Prop} (T : ExcC K C) (X : K.In s.heap) (I : ExcAt x C s.heap) (h : Q (some (.ref C)) { s with toks := s.toks + 1 }) : wpAny (model prog w) A (getAttr? (.ref x) "__class__") Q E s := by
 have L0 := I.ty (M := model prog w)
 have L1 := looks_findIn (M := model prog w) X T.ga
 have L2 := looks_findIn (M := model prog w) X T.hk
 have L3 := T.finds (M := model prog w) (x := x) X
 have L4 := looks_mroIn (M := model prog w) X T.hb
 obtain ⟨hh, g, d, t, os⟩ := s
 unfold getAttr? getAttrBy? getAttrBy
 refine wpAny_bind (wpAny_mkText (wpAny_bind (wpAny_attempt (wpAny_holding ?_))))
 refine wpAny_bind (L0.at (wpAny_bind (L1.at ?_)))
 show wpAny _ _ (getAttrByItsOwn _ _ _ _ _ _) _ _ _
 unfold getAttrByItsOwn hookBefore
 rw [if_pos (show onTheHeap (Value.ref C) = true from rfl)]
 refine wpAny_bind (L2.at (wpAny_bind (wpAny_attempt (wpAny_holding ?_))))
 show wpAny _ _ (boundAndCalled _ _ _) _ _ _
 unfold boundAndCalled
 rw [F.attr_ValueError.ga.bind]
 refine wpAny_bind (wpAny_pure ?_)
 show wpAny _ _ (call (.builtin "BaseException.__getattribute__") [.ref x, .str "__class__" t]) _ _ _
 have hsp : splitId "BaseException.__getattribute__" = some ("BaseException", "__getattribute__") := by decide +kernel
 have hkk : builtinKind "BaseException.__getattribute__" = some .slot := by decide +kernel
 have ha := F.args_bexc_ga (.ref x) (.str "__class__" t)
 refine wpAny_call (codeAny_call_builtin F.attr_ValueError.ga.plain F.entry_bexc_ga ?_)
 simp only [checkBuiltinCall, hkk, hsp]
 refine wpAny_bind ?_
 · unfold isInstance
   refine wpAny_bind (L0.at (L4.at ?_))
   simp only [Bool.not_true, Bool.false_eq_true, if_false]
   repeat (any_goals (first | assumption | wp_step))
   obtain ⟨oe, he, hce⟩ := id I
   refine wpAny_loadPart_at he ?_
   rw [hce]
   refine wpAny_pure (wpAny_bind (L3.at ?_))
   show wpAny _ _ (do ret (← holding [_] (call _ [_, _, _]))) _ _ _
   refine wpAny_bind (wpAny_holding (wpAny_call (exc_get X I T.hm (wpAny_pure ?_))))
   exact handed_on rfl (wpAny_pure h)
theorem ExcC.cls {h : Heap} (T : ExcC K C) (X : K.In h) : ∃ (c : Value) (d : Option Addr) (cd : ClassData) (sl : Array (Option Value)), h.get? C = some ⟨c, d, .cls cd, sl⟩ := by
 obtain ⟨cd, q, _⟩ := Option.bind_eq_some_iff.mp T.hm
 unfold clsIn at q
 split at q
 · rename_i ho
   exact ⟨_, _, _, _, X _ _ ho⟩
 · cases q
theorem ExcC.isType {M : Model} {h : Heap} (T : ExcC K C) (X : K.In h) : Looks M h (isType (.ref C)) true := fun A Q E s k z => by
 obtain ⟨c, d, cd, sl, ho⟩ := T.cls X
 unfold PySem.isType loadHead
 exact wpAny_bind (wpAny_loadPart (k _ _ ho) (wpAny_pure z))
theorem kitx_exc (T : ExcC K C) : KitX K (.ref x) (.ref C) (ExcAt x C) where
 ty := fun _ _ _ p => p.ty
 it := fun _ _ X _ => T.isType X
 ne := fun h tp dd its n sl X htp => by
  obtain ⟨c, d, cd, sl', hc⟩ := T.cls X
  refine Bool.eq_false_iff.mpr fun q => ?_
  rw [Value.ref.inj (beq_iff_eq.mp q), htp] at hc
  cases hc
 ca := fun X p k => exc_cls T X p k
end
end Br
namespace Br
open PySem PySem.Spec PySem.Calls PyProof.Rows L2
section
variable {P : Program} {w : World} {H H' : Hp} {h h' : Heap} {a : Addr} {o : HO}
theorem objGot (x : ObjOk P w H h a o) : ∃ ob, h.get? a = some ob := by
 cases o with
 | lst xs => obtain ⟨_, _, _, _, e⟩ := x; exact ⟨_, e⟩
 | tup xs => obtain ⟨_, _, _, ob, e, _⟩ := x; exact ⟨_, e⟩
 | dK kvs => obtain ⟨_, _, _, _, o, _, _, e, _⟩ := x; exact ⟨_, e⟩
 | dT kvs => obtain ⟨_, _, _, _, o, _, _, e, _⟩ := x; exact ⟨_, e⟩
 | set S n => obtain ⟨o, _, _, _, e, _⟩ := x; exact ⟨_, e⟩
 | ins C dx fs => obtain ⟨_, _, _, e, _⟩ := x; exact ⟨_, e⟩
 | own y => obtain ⟨_, e⟩ := x; exact ⟨_, e⟩
 | xd fs => obtain ⟨_, ⟨_, _, _, e, _⟩, _⟩ := x; exact ⟨_, e⟩
 | rng lo hi => obtain ⟨_, _, _, e⟩ := x; exact ⟨_, e⟩
 | frz ob u => obtain ⟨e, _⟩ := x; exact ⟨_, e⟩
 | tbl ps => exact ⟨_, (show h.get? a = some _ from x)⟩
 | met f y => exact ⟨_, (show h.get? a = some _ from x)⟩
 | ext φ => obtain ⟨_, ⟨_, e⟩, _⟩ := x; exact ⟨_, e⟩
theorem hokNone (x : HOk P w H h) (e : h.get? a = none) : H a = none := by
 cases q : H a with
 | none => rfl
 | some o =>
  obtain ⟨ob, z⟩ := objGot (x a o q)
  rw [e] at z; cases z
end
def FrOk (l : List Env) (h : Heap) : Prop := ∀ env ∈ l, env.scope.kind ≠ .module ∧ ∃ L o, env.frame = some L ∧ h.get? L = some o ∧ ∀ vs, o.data ≠ .fields vs
structure Fly (l : List Env) (e T : Addr) (cls : Value) (h : Heap) : Prop where
 fr : FrOk l h
 ne : T ≠ e
 at_ : ∃ oe vs oT ts a0, h.get? e = some oe ∧ oe.cls = cls ∧ oe.data = .fields vs ∧ vs[0]? = some a0 ∧ vs[1]? = some (.ref T) ∧ h.get? T = some oT ∧ oT.data = .fields ts ∧ ts[3]? = some .none
theorem funFr {l : List Env} {h B : Heap} : FrOk l h → (∀ b ∈ frs l, B.get? b = none) → h.FunFrames B l := by
 induction l with
 | nil => intro _ _; trivial
 | cons env r ih =>
  intro f hB
  obtain ⟨hk, L, o, hf, ho, hd⟩ := f env (.head _)
  refine ⟨hk, ⟨L, o, hf, hB L (List.mem_filterMap.mpr ⟨env, .head _, hf⟩), ho, hd⟩, ih (fun e he => f e (.tail _ he)) fun b hb => hB b ?_⟩
  obtain ⟨e, he, h2⟩ := List.mem_filterMap.mp hb
  exact List.mem_filterMap.mpr ⟨e, .tail _ he, h2⟩
theorem frOf {l : List Env} {h B : Heap} : h.FunFrames B l → FrOk l h := by
 induction l with
 | nil => intro _ _ z; cases z
 | cons env r ih =>
  rintro ⟨hk, ⟨L, o, hf, _, ho, hd⟩, hr⟩ e he
  rcases List.mem_cons.mp he with rfl | he
  · exact ⟨hk, L, o, hf, ho, hd⟩
  · exact ih hr e he
theorem FrOk.mem {l : List Env} {h : Heap} (f : FrOk l h) {b : Addr} (hb : b ∈ frs l) : ∃ o, h.get? b = some o ∧ ∀ vs, o.data ≠ .fields vs := by
 obtain ⟨e, he, h2⟩ := List.mem_filterMap.mp hb
 obtain ⟨_, L, o, hf, ho, hd⟩ := f e he
 rw [h2] at hf; cases hf
 exact ⟨o, ho, hd⟩
def grd (l : List Env) (e T : Addr) (h : Heap) : Heap := PySem.W.hideAll h (e :: T :: frs l)
theorem grd_of {l : List Env} {e T b : Addr} {h : Heap} {o : Obj} (q : (grd l e T h).get? b = some o) : h.get? b = some o := PySem.W.of_hideAll _ q
theorem grd_none {l : List Env} {e T b : Addr} {h : Heap} (q : b = e ∨ b = T ∨ b ∈ frs l) : (grd l e T h).get? b = none := by
 refine PySem.W.hideAll_none _ ?_
 rcases q with rfl | rfl | q
 · exact .head _
 · exact .tail _ (.head _)
 · exact .tail _ (.tail _ q)
theorem grd_get {l : List Env} {e T b : Addr} {h : Heap} {o : Obj} (q : h.get? b = some o) (h1 : b ≠ e) (h2 : b ≠ T) (h3 : b ∉ frs l) : (grd l e T h).get? b = some o := by
 refine PySem.W.hideAll_get _ q fun z => ?_
 rcases List.mem_cons.mp z with z | z
 · exact h1 z
 · rcases List.mem_cons.mp z with z | z
   · exact h2 z
   · exact h3 z
theorem Fly.flying {l : List Env} {e T : Addr} {cls : Value} {h : Heap} (f : Fly l e T cls h) : ∃ a0, Heap.FlyingW (grd l e T h) l e cls a0 h := by
 obtain ⟨oe, vs, oT, ts, a0, h1, h2, h3, h4, h5, h6, h7, h8⟩ := f.at_
 exact ⟨a0, fun b o q => grd_of q, grd_none (.inl rfl), funFr f.fr fun b hb => grd_none (.inr (.inr hb)), oe, vs, T, oT, ts, h1, ⟨h2, h4⟩, h3, h5, grd_none (.inr (.inl rfl)), f.ne, h6, h7, h8⟩
structure Past (l : List Env) (e T : Addr) (h h' : Heap) : Prop where
 keep : ∀ b o, h.get? b = some o → b ≠ e → b ≠ T → b ∉ frs l → h'.get? b = some o
 slot : ∀ b o, h.get? b = some o → b ∈ frs l → ∃ sl, h'.get? b = some { o with slots := sl }
 there : ∀ b o, h.get? b = some o → b ≠ T → ∃ o', h'.get? b = some o'
theorem Past.of {l l' : List Env} {e T : Addr} {cls a0 : Value} {h h2 : Heap} (f : FrOk l h) (hf : Heap.FlyingW (grd l e T h) l' e cls a0 h2) (u : h.UpToSlots h2) :
 ∃ T', Fly l' e T' cls h2 ∧ Past l e T h h2 ∧ (T' = T ∨ h.get? T' = none) := by
 obtain ⟨st, ne, ff, oe, vs, T', oT, ts, h1, ⟨h2', h4⟩, h3, h5, hb, hne, h6, h7, h8⟩ := hf
 have hs : ∀ b o, h.get? b = some o → b ∈ frs l → ∃ sl, h2.get? b = some { o with slots := sl } := fun b o q hb => by
  obtain ⟨o', q', hd⟩ := f.mem hb
  rw [q] at q'; cases q'
  exact u b o q hd
 refine ⟨T', ⟨frOf ff, hne, oe, vs, oT, ts, a0, h1, h2', h3, h4, h5, h6, h7, h8⟩, ⟨fun b o q n1 n2 n3 => st b o (grd_get q n1 n2 n3), hs, fun b o q n2 => ?_⟩, ?_⟩
 · by_cases n1 : b = e
   · subst n1; exact ⟨_, h1⟩
   · by_cases n3 : b ∈ frs l
     · obtain ⟨sl, z⟩ := hs b o q n3
       exact ⟨_, z⟩
     · exact ⟨o, st b o (grd_get q n1 n2 n3)⟩
 · cases q : h.get? T' with
   | none => exact .inr rfl
   | some o =>
    by_cases n2 : T' = T
    · exact .inl n2
    · by_cases n3 : T' ∈ frs l
      · obtain ⟨o', q', hd⟩ := f.mem n3
        obtain ⟨sl, z⟩ := hs T' o' q' n3
        rw [h6] at z; cases z
        exact absurd h7 (hd ts)
      · rw [grd_get q hne n2 n3] at hb; cases hb
section
variable {M : Model} {A : Around} {E : Value → Shared → Prop} {s : Shared} {env : Env} {outer : List Env} {e T : Addr} {cls : Value} {Q : Unit → Shared → Prop}
theorem fly_note (hfr : A.frames = some (env :: outer)) (hf : env.frame.isSome = true) (f : Fly (env :: outer) e T cls s.heap)
 (k : ∀ h' T', Fly (env :: outer) e T' cls h' → Past (env :: outer) e T s.heap h' → (T' = T ∨ s.heap.get? T' = none) → Q () { s with heap := h' }) :
 wpAny M A (noteFrame (.ref e) env) (fun _ s' => wpAny M A (setFlight (.ref e) none) Q E s') E s := by
 obtain ⟨L, hf⟩ := Option.isSome_iff_exists.mp hf
 obtain ⟨a0, F⟩ := f.flying
 refine wpAny_looks_onW hfr hf F fun h1 F1 u1 => wpAny_landsW F1 fun h2 F2 u2 => ?_
 obtain ⟨T', x, y, z⟩ := Past.of f.fr F2 (u1.trans u2)
 exact k h2 T' x y z
theorem fly_land (f : Fly outer e T cls s.heap) (k : ∀ h' T', Fly outer e T' cls h' → Past outer e T s.heap h' → (T' = T ∨ s.heap.get? T' = none) → Q () { s with heap := h' }) : wpAny M A (setFlight (.ref e) none) Q E s := by
 obtain ⟨a0, F⟩ := f.flying
 refine lands_againW F fun h1 F1 u1 => ?_
 obtain ⟨T', x, y, z⟩ := Past.of f.fr F1 u1
 exact k h1 T' x y z
theorem fly_begin {h : Heap} {args : List Value} (hfr : A.frames = some (env :: outer)) (hf : env.frame.isSome = true) (f : FrOk (env :: outer) h) (hx : Heap.MadeExcOf h s.heap e cls args)
 (k : ∀ h' T', Fly outer e T' cls h' → (∀ b o, h.get? b = some o → b ∉ frs (env :: outer) → h'.get? b = some o) → (∀ b o, h.get? b = some o → b ∈ frs (env :: outer) → ∃ sl, h'.get? b = some { o with slots := sl }) → h.get? T' = none → Q () { s with heap := h' }) :
 wpAny M A (leaving env (.ref e)) Q E s := by
 obtain ⟨L, hf⟩ := Option.isSome_iff_exists.mp hf
 have hb : ∀ b ∈ frs (env :: outer), (PySem.W.hideAll h (frs (env :: outer))).get? b = none := fun b hb => PySem.W.hideAll_none _ hb
 refine wpAny_leaves_madeW (base := PySem.W.hideAll h (frs (env :: outer))) hfr hf (fun b o q => PySem.W.of_hideAll _ q) (funFr f hb) hx fun h' t F _ _ u => ?_
 obtain ⟨st, ne, ff, oe, vs, T', oT, ts, h1, ⟨h2', h4⟩, h3, h5, hbT, hne, h6, h7, h8⟩ := F
 have hs : ∀ b o, h.get? b = some o → b ∈ frs (env :: outer) → ∃ sl, h'.get? b = some { o with slots := sl } := fun b o q hb => by
  obtain ⟨o', q', hd⟩ := f.mem hb
  rw [q] at q'; cases q'
  exact u b o (hx.keeps b o q) hd
 refine k h' T' ⟨frOf ff, hne, oe, vs, oT, ts, _, h1, h2', h3, h4, h5, h6, h7, h8⟩ (fun b o q n => st b o (PySem.W.hideAll_get _ q n)) hs ?_
 cases q : h.get? T' with
 | none => rfl
 | some o =>
  by_cases n3 : T' ∈ frs (env :: outer)
  · obtain ⟨o', q', hd⟩ := f.mem n3
    obtain ⟨sl, z⟩ := hs T' o' q' n3
    rw [h6] at z; cases z
    exact absurd h7 (hd ts)
  · rw [PySem.W.hideAll_get _ q n3] at hbT; cases hbT
end
def CXF (P : Program) (w : World) : CXT := fun outer H s E e s' => ∃ (ea T : Addr) (cls : Value) (H' : Hp), e = .ref ea ∧ s'.os = s.os ∧ AllBare s'.gens ∧ Un (frs outer) [] H H' s.heap s'.heap ∧ HOk P w H' s'.heap ∧
 s.heap.get? ea = none ∧ s.heap.get? T = none ∧ H' ea = none ∧ H' T = none ∧ Fly outer ea T cls s'.heap ∧ E cls none H'
section
variable {P : Program} {w : World} {H : Hp} {l : List Env} {e T : Addr} {h h' : Heap}
theorem Past.hok (p : Past l e T h h') (ok : HOk P w H h) (he : H e = none) (hT : H T = none) (hf : ∀ b ∈ frs l, H b = none) : HOk P w H h' := fun a o q => by
 refine (ok a o q).stay (fun b u hb z => p.keep b u z ?_ ?_ ?_) (fun _ z => z) fun _ _ z => z
 · rintro rfl
   rcases hb with rfl | hb
   · rw [he] at q; cases q
   · rw [he] at hb; cases hb
 · rintro rfl
   rcases hb with rfl | hb
   · rw [hT] at q; cases q
   · rw [hT] at hb; cases hb
 · intro hm
   rcases hb with rfl | hb
   · rw [hf _ hm] at q; cases q
   · rw [hf _ hm] at hb; cases hb
end
section
variable {P : Program} {w : World} {K : PySem.W.Frag} {mg : Str → Option Value} {base : Heap} {N : List Str} {qual : Str} {scope : Scope} {f : Addr} {cd : Value} {A : Around} {outer : List Env} {s : Shared} {H : Hp} {E : XK}
def Throws (X : Cx) (E : XK) : Prop := ∀ (pins : List (Addr × Obj)) (σ : L2.St) (H : Hp) (s : Shared) (h' : Heap) (e : Addr) (cls : Value) (args : List Value), Inv X pins σ H s → Heap.MadeExcOf s.heap h' e cls args → E cls none H → X.xe (.ref e) { s with heap := h' }
theorem throwF : Throws (cxOf (CXF P w) P w K mg base N qual scope f cd A outer s H E) E := by
 intro pins σ H1 s1 h1 e cls args I hx hE
 have fr : FrOk (envOfC qual scope s.heap.objs.size f cd :: outer) s1.heap := frOf I.stack
 have hb0 : ∀ b, s1.heap.get? b = none → s.heap.get? b = none := fun b q => by
  cases z : s.heap.get? b with
  | none => rfl
  | some o => obtain ⟨o', y⟩ := I.base.there b o z (by show b ∉ ([] : List Addr); simp); rw [q] at y; cases y
 refine fly_begin (env := envOfC qual scope s.heap.objs.size f cd) (outer := outer) (h := s1.heap) I.ok.frames rfl fr hx fun h' T' f' keep slot hT => ?_
 have hl : ∀ b ∈ frs (envOfC qual scope s.heap.objs.size f cd :: outer), b ∈ frs outer ∨ s.heap.get? b = none := fun b hb => by
  have hb' : b ∈ s.heap.objs.size :: frs outer := I.stkSub b hb
  rcases List.mem_cons.mp hb' with z | z
  · exact .inr (by rw [z]; exact Heap.get?_none_of_le (Nat.le_refl _))
  · exact .inl z
 have hfree : ∀ b ∈ frs (envOfC qual scope s.heap.objs.size f cd :: outer), H1 b = none := I.stkFree
 have un : Un (frs outer) [] H H1 s.heap h' := by
  have u := I.base
  refine ⟨fun b o q n hb _ => ?_, fun b o q n hb _ => ?_, fun b o q n _ => u.free b o q n (by show b ∉ ([] : List Addr); simp), fun b o q _ => ?_, u.tups, u.frzs, u.tbls⟩
  · refine keep b o (u.keep b o q n hb (by show b ∉ ([] : List Addr); simp)) fun z => ?_
    rcases hl b z with y | y
    · exact hb y
    · rw [y] at q; cases q
  · obtain ⟨sl, q1⟩ := u.slot b o q n hb (by show b ∉ ([] : List Addr); simp)
    by_cases z : b ∈ frs (envOfC qual scope s.heap.objs.size f cd :: outer)
    · obtain ⟨sl', q2⟩ := slot b _ q1 z
      exact ⟨sl', q2⟩
    · exact ⟨sl, keep b _ q1 z⟩
  · obtain ⟨o', q1⟩ := u.there b o q (by show b ∉ ([] : List Addr); simp)
    by_cases z : b ∈ frs (envOfC qual scope s.heap.objs.size f cd :: outer)
    · obtain ⟨sl', q2⟩ := slot b _ q1 z
      exact ⟨_, q2⟩
    · exact ⟨_, keep b _ q1 z⟩
 have hok : HOk P w H1 h' := fun a o q => by
  refine (I.hok a o q).stay (fun b u hb z => keep b u z fun hm => ?_) (fun _ z => z) fun _ _ z => z
  rcases hb with rfl | hb
  · rw [hfree _ hm] at q; cases q
  · rw [hfree _ hm] at hb; cases hb
 exact ⟨e, T', cls, H1, rfl, I.os, I.bare, un, hok, hb0 e hx.new, hb0 T' hT, hokNone I.hok hx.new, hokNone I.hok hT, f', hE⟩
end
structure OwnE (K : PySem.W.Frag) (C : Addr) : Prop where
 q : PySem.W.excIn K C [.type "ValueError", .type "Exception", .type "BaseException", .type "object"] "ValueError.__new__" = true
theorem OwnE.obj {K : PySem.W.Frag} {C : Addr} {h : Heap} (O : OwnE K C) (X : K.In h) : ∃ bm N nm q bs hdct sn sub ab col dd k0 k1 k2 k3 k5 mN, h.get? C = some (excClassObj nm q C N bs bm hdct sn sub ab col dd k0 k1 k2 k3 k5 "ValueError.__new__") ∧ h.Ns N mN ∧ mN "__init__" = none ∧
 OwnTail h [.type "ValueError", .type "Exception", .type "BaseException", .type "object"] bm := by
 have q := O.q
 unfold PySem.W.excIn at q
 split at q
 · rename_i dd cl sl lk
   split at q
   · rename_i C1 bm a0 a1 a2 a3 n a5 em es
     simp only [Bool.and_eq_true, beq_iff_eq, Bool.not_eq_true'] at q
     obtain ⟨⟨⟨⟨⟨e1, e2⟩, e3⟩, e4⟩, e5⟩, e6⟩ := q
     subst e1; subst e2
     obtain ⟨c1, c2, c3, c4, c5, c6, c7, c8, c9, c10, c11⟩ := cl
     dsimp only at em e3 e5 e6
     subst em; subst e3
     have hsl : sl = #[a0, a1, a2, a3, some (.builtin "ValueError.__new__"), a5] := by
      cases sl with
      | mk l => simp only at es; rw [es]
     subst hsl
     exact ⟨bm, c4, c1, c5, c2, c6, c7, c8, c9, c10, dd, a0, a1, a2, a3, a5, _, X _ _ lk, .of_isNs (PySem.W.isNs_of_in X e5), PySem.W.nsMap_none_of_in X e5 e6, PySem.W.tail_of_in X e4⟩
   · cases q
 · cases q
section
variable {X : Cx} {x : Str} {C : Addr} {e0 : Expr} {te : TE} {np cpos pos : Pos} {E : XK}
def tRaise (C : Addr) (E : XK) (te : TE) : TS := fun _ σ H => te σ H fun _ H1 => E (.ref C) none H1
theorem ps_raise (O : OwnE X.K C) (hm : X.mg x = some (.ref C)) (hg : Gl X x) (hc : X.calm = true) (ht : Throws X E) (he : PE X e0 te) (hdb : (x == ("__debug__" : Str)) = false := by decide)
 (hst : starEach [e0] X.env = [(false, eval e0 X.env)] := by rfl) : PS X (.Raise (some (.Call (.Name x np) [e0] [] cpos)) none pos) (tRaise C E te) := by
 intro pins s σ H D I h
 obtain ⟨bm, N, nm, q, bs, hdct, sn, sub, ab, col, dd, k0, k1, k2, k3, k5, mN, hC, hN, hni, T⟩ := O.obj I.ok.mod.kin
 refine wpAny_Raise_call_subT (C := C) (nm := nm) (q := q) (N := N) (bs := bs) (bm := bm) (hdct := hdct) (sn := sn) (sub := sub) (ab := ab) (col := col) (dd := dd) (k0 := k0) (k1 := k1) (k2 := k2) (k3 := k3) (k5 := k5)
  F.excBase_ValueError (mN := mN) (T.hasType F.excBase_ValueError.hasBase) (I.ok.hd hc) (by rw [hst]; rfl) hni (ld_glob I hg hm ⟨rfl, ?_⟩ hdb)
 rw [hst]
 refine Calls.evalArgs_plain (Calls.spliced_cons (thn (he pins s σ H _ I h) fun u s1 ⟨v, H1, I1, r1, q1⟩ => Calls.spliced_nil ?_))
 exact ⟨rfl, by show 1 ≤ sizeLine; decide, I1.bk _ _ hC, hN.keeps I1.bk, T.keeps I1.bk, fun h' e hx => ht pins σ H1 s1 h' e _ _ I1 hx q1⟩
def ExcO (e C : Addr) : HO := .ext (ExcAt e C)
theorem excO_ok {P : Program} {w : World} {H : Hp} {h : Heap} {e C : Addr} (x : ExcAt e C h) : ObjOk P w H h e (ExcO e C) := by
 obtain ⟨o, h1, h2⟩ := id x
 exact ⟨x, ⟨o, h1⟩, fun a b ⟨o', q1, q2⟩ k => ⟨o', k o' q1, q2⟩⟩
inductive TyX (K : PySem.W.Frag) (H : Hp) : V → Value → Prop where
 | of {v : V} {t : Value} (h : TyOf K H v t) : TyX K H v t
 | exc {e C : Addr} (h : H e = some (ExcO e C)) (T : ExcC K C) : TyX K H (.ref e) (.ref C)
theorem isinstX {pins : List (Addr × Obj)} {σ : L2.St} {H : Hp} {s : Shared} {A : Around} {Eo : Value → Shared → Prop} {Q : Value → Shared → Prop} {c : Value} {b : Bool} {y : V} {u t : Value} (I : Inv X pins σ H s) (rx : RelV y u) (ty : TyX X.K H y t) (hk : PySem.W.kitOne X.K t c = some b)
 (h : ∀ tk, Q (.bool b) { s with toks := tk }) : wpAny (model X.prog X.w) A (call (.builtin "isinstance") [u, c]) Q Eo s := by
 cases ty with
 | of z => exact isinst_ok I rx z hk h
 | @exc e C z T =>
  cases (show u = Value.ref e from rx)
  obtain ⟨p, _⟩ := (show ObjOk X.prog X.w H s.heap e (ExcO e C) from I.hok e _ z)
  exact PySem.W.kia_one (kitx_exc T) I.kIn p hk (fun z => nomatch z) h
theorem isinstXs {pins : List (Addr × Obj)} {σ : L2.St} {H : Hp} {s : Shared} {A : Around} {Eo : Value → Shared → Prop} {Q : Value → Shared → Prop} {its : List Value} {tp : Addr} {b : Bool} {e C : Addr} {u : Value} (I : Inv X pins σ H s) (z : H e = some (ExcO e C)) (T : ExcC X.K C)
 (htp : IsTup s.heap tp its.toArray) (hk : PySem.W.kitAny X.K (.ref C) its = some b) (h : ∀ tk, Q (.bool b) { s with toks := tk }) : wpAny (model X.prog X.w) A (call (.builtin "isinstance") [.ref e, .ref tp]) Q Eo s := by
 obtain ⟨p, _⟩ := (show ObjOk X.prog X.w H s.heap e (ExcO e C) from I.hok e _ z)
 obtain ⟨⟨oc, od, odt, osl⟩, h1, h2, n, h3⟩ := htp
 have e1 : oc = .type "tuple" := h2
 have e2 : odt = .seq its.toArray n := h3
 subst e1; subst e2
 exact PySem.W.kia_tup (kitx_exc T) I.kIn p h1 hk (fun z => nomatch z) h
end
section
variable {X : Cx} {pins : List (Addr × Obj)} {σ : L2.St} {H : Hp} {s : Shared} {h' : Heap} {ea T : Addr} {cls : Value}
theorem nsNe {h : Heap} {a b : Addr} {m : Str → Option Value} {o : Obj} {vs : Array Value} (n : h.Ns a m) (e : h.get? b = some o) (d : o.data = .fields vs) : a ≠ b := by
 rintro rfl
 obtain ⟨o', es, ep, h1, h2, _⟩ := n
 rw [e] at h1; cases h1
 rw [d] at h2; cases h2
theorem cellNe {h : Heap} {a b : Addr} {v : Option Value} {o : Obj} {vs : Array Value} (n : h.IsCell a v) (e : h.get? b = some o) (d : o.data = .fields vs) : a ≠ b := by
 rintro rfl
 obtain ⟨o', h1, h2⟩ := n
 rw [e] at h1; cases h1
 rw [d] at h2; cases h2
structure Apart (X : Cx) (pins : List (Addr × Obj)) (H : Hp) (ea T : Addr) : Prop where
 pin : ∀ p ∈ X.pn ++ pins, p.1 ≠ ea ∧ p.1 ≠ T
 s0 : X.s₀.heap.get? ea = none
 t0 : X.s₀.heap.get? T = none
 he : H ea = none
 hT : H T = none
theorem invPast (I : Inv X pins σ H s) (a : Apart X pins H ea T) (f : Fly X.stack ea T cls s.heap) (p : Past X.stack ea T s.heap h') : Inv X pins σ H { s with heap := h' } := by
 obtain ⟨oe, vs, oT, ts, a0, f1, f2, f3, f4, f5, f6, f7, f8⟩ := f.at_
 obtain ⟨m, hn, hl⟩ := I.loc
 have z0 : ∀ b o, X.s₀.heap.get? b = some o → b ≠ ea ∧ b ≠ T ∧ (b ∈ frs X.stack → b ∈ X.fs) := fun b o q => by
  refine ⟨fun z => (by rw [z, a.s0] at q; cases q), fun z => (by rw [z, a.t0] at q; cases q), fun z => ?_⟩
  rcases List.mem_cons.mp (I.stkSub b z) with y | y
  · exact absurd y (Nat.ne_of_lt (Nat.lt_of_lt_of_le (Heap.lt_size q) I.ok.above))
  · exact y
 have any : ∀ b o, s.heap.get? b = some o → b ≠ ea → b ≠ T → ∃ sl, h'.get? b = some { o with slots := sl } := fun b o q n1 n2 => by
  by_cases z : b ∈ frs X.stack
  · exact p.slot b o q z
  · exact ⟨o.slots, p.keep b o q n1 n2 z⟩
 have hn' : h'.Ns X.env.locals m := by
  obtain ⟨o, es, ep, h1, h2, r⟩ := id hn
  obtain ⟨sl, q⟩ := any _ o h1 (nsNe hn f1 f3) (nsNe hn f6 f7)
  exact ⟨_, es, ep, q, h2, r⟩
 have cel : ∀ x c v, X.env.cells.lookup x = some c → s.heap.IsCell c v → h'.IsCell c v := fun x c v e y => by
  obtain ⟨o, h1, h2⟩ := id y
  obtain ⟨sl, q⟩ := any c o h1 (cellNe y f1 f3) (cellNe y f6 f7)
  exact ⟨_, q, h2⟩
 refine ⟨I.ok, I.os, I.bare, ⟨fun b o q n hb hx => ?_, fun b o q n hb hx => ?_, I.base.free, fun b o q hx => ?_, I.base.tups, I.base.frzs, I.base.tbls⟩, ⟨m, hn', fun i x v e1 e2 e3 => ?_⟩, fun x c e => ?_, I.free, I.freeC, fun pp hp => ?_, p.hok I.hok a.he a.hT I.stkFree, I.len⟩
 · obtain ⟨n1, n2, n3⟩ := z0 b o q
   exact p.keep b o (I.base.keep b o q n hb hx) n1 n2 fun z => hb (n3 z)
 · obtain ⟨n1, n2, n3⟩ := z0 b o q
   obtain ⟨sl, q1⟩ := I.base.slot b o q n hb hx
   obtain ⟨sl', q2⟩ := any b _ q1 n1 n2
   exact ⟨sl', q2⟩
 · obtain ⟨n1, n2, n3⟩ := z0 b o q
   obtain ⟨o', q1⟩ := I.base.there b o q hx
   exact p.there b o' q1 n2
 · obtain ⟨u, r, l⟩ := hl i x v e1 e2 e3
   refine ⟨u, r, ?_⟩
   rcases l with l | ⟨k, c, e, y⟩
   · exact .inl l
   · exact .inr ⟨k, c, e, cel x c _ e y⟩
 · obtain ⟨v, y⟩ := I.cell x c e
   exact ⟨v, cel x c v e y⟩
 · obtain ⟨q, n, ne, nf, d⟩ := I.pin pp hp
   refine ⟨p.keep _ _ q (a.pin pp hp).1 (a.pin pp hp).2 fun z => ?_, n, ne, nf, d⟩
   rcases List.mem_cons.mp (I.stkSub _ z) with y | y
   · exact ne y
   · exact nf y
theorem invTrack {o : HO} (I : Inv X pins σ H s) (a : Apart X pins H ea T) (f : Fly X.stack ea T cls s.heap) (new : ObjOk X.prog X.w (upd H ea o) s.heap ea o) : Inv X pins σ (upd H ea o) s := by
 obtain ⟨oe, vs, oT, ts, a0, f1, f2, f3, f4, f5, f6, f7, f8⟩ := f.at_
 obtain ⟨m, hn, hl⟩ := I.loc
 have nt : ∀ b u, H b = some u → b ≠ ea := fun b u q z => by rw [z, a.he] at q; cases q
 refine ⟨I.ok, I.os, I.bare, ⟨I.base.keep, I.base.slot, fun b o' q n hx => ?_, I.base.there, fun b xs q => ?_, fun b u xs q => ?_, fun b ps q => ?_⟩, I.loc, I.cell, ?_, fun x c e => ?_, fun pp hp => ?_, fun b u q => ?_, I.len⟩
 · rw [upd_ne (fun z => by rw [z, a.s0] at q; cases q)]; exact I.base.free b o' q n hx
 · have := I.base.tups b xs q; rw [upd_ne (nt b _ this)]; exact this
 · have := I.base.frzs b u xs q; rw [upd_ne (nt b _ this)]; exact this
 · obtain ⟨more, q1⟩ := I.base.tbls b ps q; exact ⟨more, by rw [upd_ne (nt b _ q1)]; exact q1⟩
 · rw [upd_ne (nsNe hn f1 f3)]; exact I.free
 · obtain ⟨v, y⟩ := I.cell x c e
   rw [upd_ne (cellNe y f1 f3)]; exact I.freeC x c e
 · obtain ⟨q, n, ne, nf, d⟩ := I.pin pp hp
   exact ⟨q, by rw [upd_ne (a.pin pp hp).1]; exact n, ne, nf, d⟩
 · by_cases z : b = ea
   · subst z; rw [upd_same] at q; cases q; exact new
   · rw [upd_ne z] at q
     exact (I.hok b u q).stay (fun c v _ y => y) (fun c y => by rw [upd_ne (nt c _ y)]; exact y) fun c xs y => by rw [upd_ne (nt c _ y)]; exact y
theorem unbindOk {M : Model} {A : Around} {E : Value → Shared → Prop} {i : Nat} {x : Str} {pos : Pos} {Q : Unit → Shared → Prop} (I : Inv X pins σ H s) (hN : X.N.Nodup) (hi : X.N[i]? = some x) (hx : X.env.scope.names.lookup x = some .local)
 (h : ∀ s', Inv X pins (σ.set i none) H s' → Q () s') : wpAny M A (do bindName X.env x .none; unbindBehindTheSuite X.env x pos) Q E s := by
 obtain ⟨m, hn, hl⟩ := id I.loc
 have hiσ : i < σ.length := by rw [I.len]; exact (List.getElem?_eq_some_iff.mp hi).1
 refine wpAny_nameGoes_keeps hx hn (by rw [I.ok.kind]; rfl) fun h' v hn' hs => ?_
 obtain ⟨oL, _, _, hoL, _⟩ := id hn
 have lt : ∀ b o, X.s₀.heap.get? b = some o → b ≠ X.env.locals := fun b o e => Nat.ne_of_lt (Nat.lt_of_lt_of_le (Heap.lt_size e) I.ok.above)
 refine h _ ⟨I.ok, I.os, I.bare, ⟨fun b o e n hb hx => ?_, fun b o e n hb hx => ?_, I.base.free, fun b o e hx => ?_, I.base.tups, I.base.frzs, I.base.tbls⟩, ⟨_, hn', fun j y v' e1 e2 e3 => ?_⟩, fun y c e => ?_, I.free, I.freeC, fun p hp => ?_, fun b ob e => ?_, by simpa using I.len⟩
 · exact (hs.2 b (lt b o e)).trans (I.base.keep b o e n hb hx)
 · obtain ⟨sl, e1⟩ := I.base.slot b o e n hb hx
   exact ⟨sl, (hs.2 b (lt b o e)).trans e1⟩
 · obtain ⟨o', e1⟩ := I.base.there b o e hx
   exact ⟨o', (hs.2 b (lt b o e)).trans e1⟩
 · by_cases hj : j = i
   · subst hj; rw [List.getElem?_set_self hiσ] at e2; cases e2
   · rw [List.getElem?_set_ne (Ne.symm hj)] at e2
     obtain ⟨u', r', q⟩ := hl j y v' e1 e2 e3
     refine ⟨u', r', ?_⟩
     rcases q with ⟨k, e⟩ | ⟨k, c, e, z⟩
     · refine .inl ⟨k, ?_⟩
       have ne : y ≠ x := fun e => hj (nodup_ix hN e1 (e ▸ hi))
       simp [ne, e]
     · exact .inr ⟨k, c, e, z.sameBut hs (I.cne y c e)⟩
 · obtain ⟨w', z⟩ := I.cell y c e
   exact ⟨w', z.sameBut hs (I.cne y c e)⟩
 · obtain ⟨e, n, ne, nf, d⟩ := I.pin p hp
   exact ⟨(hs.2 p.1 ne).trans e, n, ne, nf, d⟩
 · refine (I.hok b ob e).stay (fun c w' hc q => (hs.2 c ?_).trans q) (fun _ q => q) fun _ _ q => q
   rintro rfl
   rcases hc with hc | hc
   · rw [← hc, I.free] at e; cases e
   · rw [I.free] at hc; cases hc
end
abbrev XS := Value → L2.St → Hp → Prop
abbrev TSx := Ends → XS → L2.St → Hp → Prop
abbrev TEx := L2.St → Hp → VK → XS → Prop
def XP (X : Cx) (pins : List (Addr × Obj)) (E : XS) (e : Value) (s' : Shared) : Prop := ∃ (ea T : Addr) (cls : Value) (σ' : L2.St) (H' : Hp), e = .ref ea ∧ Inv X pins σ' H' s' ∧ Apart X pins H' ea T ∧ Fly X.stack ea T cls s'.heap ∧ E cls σ' H'
def PEx (X : Cx) (e : Expr) (t : TEx) : Prop :=
 ∀ (pins : List (Addr × Obj)) (s : Shared) (σ : L2.St) (H : Hp) (Q : VK) (E : XS), Inv X pins σ H s → t σ H Q E → wpAny (model X.prog X.w) X.A (eval e X.env) (EP X pins σ Q) (XP X pins E) s
def PSx (X : Cx) (st : Stmt) (t : TSx) : Prop :=
 ∀ (pins : List (Addr × Obj)) (s : Shared) (σ : L2.St) (H : Hp) (D : Ends) (E : XS), Inv X pins σ H s → t D E σ H → wpAny (model X.prog X.w) X.A (exec st X.env) (SP X pins D) (XP X pins E) s
def PSsx (X : Cx) (st : List Stmt) (t : TSx) : Prop :=
 ∀ (pins : List (Addr × Obj)) (s : Shared) (σ : L2.St) (H : Hp) (D : Ends) (E : XS), Inv X pins σ H s → t D E σ H → wpAny (model X.prog X.w) X.A (execs st X.env) (SP X pins D) (XP X pins E) s
section
variable {X : Cx} {st : Stmt} {sts : List Stmt} {e : Expr} {es : List Expr} {pos p : Pos} {x : Str}
def tNextx : TSx := fun D _ σ H => D.nx σ H
def tSeqx (t u : TSx) : TSx := fun D E σ H => t { D with nx := fun σ' H' => u D E σ' H' } E σ H
theorem pssx_nil : PSsx X [] tNextx := fun _ _ σ H _ _ I h => wpAny_execs_nil ⟨σ, H, I, h⟩
theorem pssx_cons {t u : TSx} (h1 : PSx X st t) (h2 : PSsx X sts u) : PSsx X (st :: sts) (tSeqx t u) := by
 intro pins s σ H D E I h
 refine wpAny_execs_cons (thn (h1 pins s σ H { D with nx := fun σ' H' => u D E σ' H' } E I h) fun f s1 q => ?_)
 cases f with
 | next =>
  obtain ⟨σ', H', I', q⟩ := q
  exact h2 pins s1 σ' H' D E I' q
 | ret v => exact q
 | brk => exact q
 | cont => exact q
def tRetx (te : TEx) : TSx := fun D E σ H => te σ H D.rt E
theorem psx_ret {te : TEx} (he : PEx X e te) : PSx X (.Return (some e) pos) (tRetx te) := by
 intro pins s σ H D E I h
 exact wpAny_Return_some (thn (he pins s σ H _ E I h) fun v s1 ⟨x, H1, I1, r1, q1⟩ => ⟨x, σ, H1, I1, r1, q1⟩)
def tCallx (sp : Sp) (t : TA) : TEx := fun σ H Q E => t σ H fun vs H1 => sp vs H1 Q fun cls _ H2 => E cls σ H2
theorem pex_call {k : Nat} {ps : List Str} {sp : Sp} {t : TA} (c : Callee (CXF X.prog X.w) X.prog X.w X.K X.mg X.base x k ps sp) (hr : Room k X.A) (hg : Gl X x) (hdb : (x == ("__debug__" : Str)) = false)
 (he : starEach (e :: es) X.env = (false, eval e X.env) :: starEach es X.env) (hpl : (backTo pos (starEach es X.env)).any (·.1) = false) (hex : X.ex = []) (ha : PA X.nox (e :: es) t) : PEx X (.Call (.Name x p) (e :: es) [] pos) (tCallx sp t) := by
 intro pins s σ H Q E I h
 obtain ⟨f, fd, F, hm, hk, hb⟩ := c.ex
 refine wpAny_Call_Name_kw (ld_glob I hg hm ?_ hdb)
 refine PySem.W.callWith_K (h₀ := X.base) I.ok.mod.kin hk (wpAny_mono (ha pos pins s σ H _ (I.wish _) h) (fun us s1 ⟨vs, H1, I0, r, q⟩ => ?_) fun _ _ z => False.elim z) he hpl
 have I1 := I0.unwish
 refine ⟨I1.kIn, ?_⟩
 have hl : (us ++ []).length = ps.length := by rw [List.append_nil, ← r.length]; exact F.len _ _ _ _ q
 have hb' := hb s1 us I1.kIn hl
 rw [List.append_nil] at hb'
 refine wpAny_call (codeAny_mono (F.run X.A X.stack s1 H1 ⟨us, []⟩ us vs Q _ hr I1.env0 hb' r q) fun rr s' hq => ?_)
 cases rr with
 | error ev =>
  obtain ⟨ea, T, cls, H2, rfl, os, bare, un, hok, he', hT, he2, hT2, fly, hE⟩ := hq
  have old : ∀ b, s1.heap.get? b = none → X.s₀.heap.get? b = none := fun b z => by
   cases y : X.s₀.heap.get? b with
   | none => rfl
   | some o =>
    obtain ⟨o', q'⟩ := I1.base.there b o y (by rw [hex]; simp)
    rw [z] at q'; cases q'
  exact ⟨ea, T, cls, σ, H2, rfl, I1.call' os un hok bare (fun _ z => nomatch z), ⟨fun pp hp => ⟨fun z => (by have := (I1.pin pp hp).1; rw [z, he'] at this; cases this), fun z => (by have := (I1.pin pp hp).1; rw [z, hT] at this; cases this)⟩, old _ he', old _ hT, he2, hT2⟩, fly, hE⟩
 | ok fl =>
  cases fl with
  | ret u => exact I1.after hq
  | next => exact False.elim hq
  | brk => exact False.elim hq
  | cont => exact False.elim hq
theorem Apart.next {pins : List (Addr × Obj)} {σ : L2.St} {H : Hp} {s : Shared} {ea T T' : Addr} (a : Apart X pins H ea T) (I : Inv X pins σ H s) (hex : X.ex = []) (h : T' = T ∨ s.heap.get? T' = none) : Apart X pins H ea T' := by
 rcases h with rfl | z
 · exact a
 · refine ⟨fun p hp => ⟨(a.pin p hp).1, fun y => (by have q := (I.pin p hp).1; rw [y, z] at q; cases q)⟩, a.s0, ?_, a.he, hokNone I.hok z⟩
   cases y : X.s₀.heap.get? T' with
   | none => rfl
   | some o =>
    obtain ⟨o', q⟩ := I.base.there T' o y (by rw [hex]; simp)
    rw [z] at q; cases q
abbrev mkd (X : Cx) (ea : Addr) : Cx := { X with A := X.A.mark (some (.ref ea)), calm := false, xe := fun _ _ => False }
theorem mkd_inv {pins : List (Addr × Obj)} {σ : L2.St} {H : Hp} {s : Shared} {ea : Addr} (I : Inv X pins σ H s) : Inv (mkd X ea) pins σ H s :=
 ⟨⟨I.ok.mod, I.ok.kind, I.ok.glob, I.ok.blt, I.ok.above, I.ok.inj, I.ok.has, I.ok.cab, fun z => (by cases z), I.ok.frames, I.ok.stk, I.ok.exf, I.ok.bs, I.ok.bsz, I.ok.noex, I.ok.exfs, I.ok.funs, I.ok.frf⟩, I.os, I.bare, I.base, I.loc, I.cell, I.free, I.freeC, I.pin, I.hok, I.len⟩
theorem unmkd {pins : List (Addr × Obj)} {σ σ' : L2.St} {H H' : Hp} {s s' : Shared} {ea : Addr} (I : Inv (mkd X ea) pins σ H s) (I0 : Inv X pins σ' H' s') : Inv X pins σ H s :=
 ⟨I0.ok, I.os, I.bare, I.base, I.loc, I.cell, I.free, I.freeC, I.pin, I.hok, I.len⟩
def tTryAs (K : PySem.W.Frag) (c : Value) (i : Nat) (tb : TSx) (ts : TS) : TS := fun D σ H => tb D (fun cls σ1 H1 => PySem.W.exmOne K cls c = some true ∧ ∃ C, cls = .ref C ∧ ∀ ea, H1 ea = none →
 ts { nx := fun σ2 H2 => D.nx (σ2.set i none) H2, rt := D.rt, bk := fun σ2 H2 => D.bk (σ2.set i none) H2, ct := fun σ2 H2 => D.ct (σ2.set i none) H2 } (σ1.set i (some (.ref ea))) (upd H1 ea (ExcO ea C))) σ H
theorem ps_tryAs {body : List Stmt} {b0 : Stmt} {suite : List Stmt} {n : Str} {np hpos : Pos} {c : Value} {i : Nat} {tb : TSx} {ts : TS} (hex : X.ex = []) (hstk : X.stack = X.env :: X.outer) (hfr : X.env.frame = some X.env.locals) (hN : X.N.Nodup) (hi : At X.N i n) (hn : X.env.scope.names.lookup n = some .local)
 (hg : Gl X x) (hm : X.mg x = some c) (hdb : (x == ("__debug__" : Str)) = false) (hb : PSsx X body tb) (hs : ∀ ea, PSs (mkd X ea) (b0 :: suite) ts) :
 PS X (.Try body [.ExceptHandler (some (.Name x np)) (some n) (b0 :: suite) hpos] [] [] pos) (tTryAs X.K c i tb ts) := by
 intro pins s σ H D I h
 refine wpAny_Try_except (wpAny_mono (hb pins s σ H D _ I h) (fun f s1 q => ?_) fun e s1 q => ?_)
 · cases f with
   | next => exact wpAny_execs_nil q
   | ret v => exact q
   | brk => exact q
   | cont => exact q
 · obtain ⟨ea, T, cls, σ1, H1, rfl, I1, ap, fly, hx, C, rfl, hk⟩ := q
   have fr' : X.A.frames = some (X.env :: X.outer) := by rw [← hstk]; exact I.ok.frames
   rw [hstk] at fly
   refine fly_note fr' (by rw [hfr]; rfl) fly fun h2 T2 fly2 p2 hT2 => ?_
   rw [← hstk] at fly fly2 p2
   have I2 := invPast I1 ap fly p2
   have ap2 := ap.next I1 hex hT2
   have hty : PySem.W.Looks (model X.prog X.w) h2 (typeOf (.ref ea)) (.ref C) := by
    obtain ⟨oe, vs, oT, ts', a0, f1, f2, _⟩ := fly2.at_
    exact ExcAt.ty ⟨oe, f1, f2⟩
   refine wpAny_handleBy_cons (codeAny_handlers_test ?_) (by intro q; cases q)
   refine ld_glob (mkd_inv (ea := ea) I2) hg hm ?_ hdb
   refine (PySem.W.exm_one I2.kIn hty hx).here ?_
   show codeAny _ _ _ _ _
   refine codeAny_handlers_suite_as ?_
   refine fly_land fly2 fun h3 T3 fly3 p3 hT3 => ?_
   have I3 := invPast I2 ap2 fly2 p3
   have ap3 := ap2.next I2 hex hT3
   have exc : ExcAt ea C h3 := by
    obtain ⟨oe, vs, oT, ts', a0, f1, f2, _⟩ := fly3.at_
    exact ⟨oe, f1, f2⟩
   have I4 := invTrack I3 ap3 fly3 (o := ExcO ea C) (excO_ok exc)
   refine store_ok I4 hN hi.get (.inl hn) (v := .ref ea) rfl (fun s5 I5 => ?_) (.inr hn)
   refine wpAny_mono (hs ea pins s5 _ _ _ (mkd_inv (ea := ea) I5) (hk ea ap.he)) (fun f s6 q => ?_) fun _ _ z => False.elim z
   cases f with
   | next =>
    obtain ⟨σ', H', I', q⟩ := q
    exact unbindOk (unmkd I' I) hN hi.get hn fun s7 I7 => ⟨_, H', I7, q⟩
   | ret v =>
    obtain ⟨v', σ', H', I', r', q⟩ := q
    exact unbindOk (unmkd I' I) hN hi.get hn fun s7 I7 => ⟨v', _, H', I7, r', q⟩
   | brk =>
    obtain ⟨σ', H', I', q⟩ := q
    exact unbindOk (unmkd I' I) hN hi.get hn fun s7 I7 => ⟨_, H', I7, q⟩
   | cont =>
    obtain ⟨σ', H', I', q⟩ := q
    exact unbindOk (unmkd I' I) hN hi.get hn fun s7 I7 => ⟨_, H', I7, q⟩
end
def mroE (C B : Addr) : List Value := [.ref C, .ref B, .type "ValueError", .type "Exception", .type "BaseException", .type "object"]
def eclsIn (K : PySem.W.Frag) (C B : Addr) : Bool :=
 PySem.W.excIn K C [.type "ValueError", .type "Exception", .type "BaseException", .type "object"] "ValueError.__new__" &&
 (PySem.W.findIn K (.ref C) "__getattribute__" == some (some (.builtin "BaseException.__getattribute__"))) && (PySem.W.findIn K (.ref C) "__getattr__" == some none) &&
 (PySem.W.findIn K (.ref C) "__class__" == some (some (.builtin "object.__class__"))) && (PySem.W.specialIn K (.builtin "object.__class__") "__get__" == some (some (.builtin "getset_descriptor.__get__"))) &&
 (PySem.W.takesIn K (.builtin "object.__class__") == some true) && ((PySem.W.clsIn K C).map (·.mro) == some (mroE C B)) && (PySem.W.typeIn K (.ref C) == some (.type "type"))
structure ECls (K : PySem.W.Frag) (mg : Str → Option Value) (x : Str) (C B : Addr) : Prop where
 mgx : mg x = some (.ref C)
 inK : eclsIn K C B = true
section
variable {K : PySem.W.Frag} {mg : Str → Option Value} {x y : Str} {C D B : Addr}
theorem eclsIn_all (h : eclsIn K C B = true) : OwnE K C ∧ ExcC K C ∧ (∃ cd, PySem.W.clsIn K C = some cd ∧ cd.mro = mroE C B) ∧ PySem.W.typeIn K (.ref C) = some (.type "type") := by
 unfold eclsIn at h
 simp only [Bool.and_eq_true, beq_iff_eq] at h
 obtain ⟨⟨⟨⟨⟨⟨⟨h1, h2⟩, h3⟩, h4⟩, h5⟩, h6⟩, h7⟩, h8⟩ := h
 obtain ⟨cd, q1, q2⟩ := Option.map_eq_some_iff.mp h7
 have mro : ∀ b : Value, PySem.W.mroIn K C b = some ((mroE C B).contains b) := fun b => by
  unfold PySem.W.mroIn
  rw [q1, Option.bind_some, q2]
  rfl
 refine ⟨⟨h1⟩, ⟨h2, h3, h4, h5, h6, ?_, ?_⟩, ⟨cd, q1, q2⟩, h8⟩
 · rw [mro]; simp [mroE]
 · rw [mro]; simp [mroE]
theorem eclsMro (h : eclsIn K C B = true) (b : Value) : PySem.W.mroIn K C b = some ((mroE C B).contains b) := by
 obtain ⟨_, _, ⟨cd, q1, q2⟩, _⟩ := eclsIn_all h
 unfold PySem.W.mroIn
 rw [q1, Option.bind_some, q2]
 rfl
theorem ECls.own (e : ECls K mg x C B) : OwnE K C := (eclsIn_all e.inK).1
theorem ECls.exc (e : ECls K mg x C B) : ExcC K C := (eclsIn_all e.inK).2.1
theorem ECls.self (e : ECls K mg x C B) : PySem.W.kitOne K (.ref C) (.ref C) = some true := by
 unfold PySem.W.kitOne
 rw [if_pos (by simp)]
theorem ECls.other (e : ECls K mg x C B) (f : ECls K mg y D B) (h1 : C ≠ D) (h2 : B ≠ D) : PySem.W.kitOne K (.ref C) (.ref D) = some false := by
 obtain ⟨_, _, ⟨cd, q1, q2⟩, h8⟩ := eclsIn_all f.inK
 unfold PySem.W.kitOne
 rw [if_neg (by simp [h1])]
 unfold PySem.W.kitCls; dsimp only
 rw [if_pos (by rw [q1, h8]; rfl)]
 show PySem.W.mroIn K C (.ref D) = _
 rw [eclsMro e.inK]
 simp [mroE, Ne.symm h1, Ne.symm h2]
theorem ECls.value (e : ECls K mg x C B) : PySem.W.kitOne K (.ref C) (.type "ValueError") = some true := by
 unfold PySem.W.kitOne
 rw [if_neg (by simp)]
 unfold PySem.W.kitCls; dsimp only
 rw [if_pos (by decide +kernel)]
 show PySem.W.mroIn K C (.type "ValueError") = _
 rw [eclsMro e.inK]
 simp [mroE]
structure BCls (K : PySem.W.Frag) (mg : Str → Option Value) (x : Str) (B : Addr) : Prop where
 mgx : mg x = some (.ref B)
 cls : (PySem.W.clsIn K B).isSome = true
 ty : PySem.W.typeIn K (.ref B) = some (.type "type")
 exc : PySem.W.mroIn K B (.type "BaseException") = some true
theorem ECls.caught (e : ECls K mg x C B) (b : BCls K mg y B) : PySem.W.exmOne K (.ref C) (.ref B) = some true := by
 unfold PySem.W.exmOne
 rw [if_pos (by show (PySem.W.mroIn K B (.type "BaseException") == some true) = true; rw [b.exc]; rfl)]
 unfold PySem.W.kitCls; dsimp only
 rw [if_pos (by rw [b.cls, b.ty]; rfl)]
 show PySem.W.mroIn K C (.ref B) = _
 rw [eclsMro e.inK]
 simp [mroE]
end
section
variable {P : Program} {w : World} {K : PySem.W.Frag} {mg : Str → Option Value} {base : Heap}
theorem Fun.okX {x qual : Str} {st : Stmt} {f : Addr} {fd : FuncData} {N ps : List Str} {k : Nat} {sp : Sp} (F : Fun K x qual st f fd) (S : FnScope N ps (defScope st)) (len : ∀ vs H Q E, sp vs H Q E → vs.length = ps.length)
 (hbody : ∀ (cdv : Value) (A : Around) (outer : List Env) (s : Shared) (H : Hp) (vs : List V) (Q : VK) (E : XK), Room k (A.deeper (envOfC qual (defScope st) s.heap.objs.size f cdv)) → sp vs H Q E →
  ∃ t, PSs (cxOf (CXF P w) P w K mg base N qual (defScope st) f cdv A outer s H E) (defBody st) t ∧ t { nx := fun _ H' => Q .non H', rt := Q } (start N vs) H) : FnOk P w K mg base (CXF P w) (k + 1) f fd ps sp := by
 obtain ⟨oc, od, kV, doc, pm, an, cdv, ct, osl, rfl, lk, hcd⟩ := F.ex
 exact fn_of lk hcd S len fun A outer s H vs Q E hr hsp => hbody cdv A outer s H vs Q E hr hsp
end
section
variable {X : Cx} {x n : Str} {C B : Addr} {e e0 : Expr} {es : List Expr} {te : TE} {t : TA} {np cpos pos p hpos : Pos} {E : XK} {i : Nat}
theorem r_raise (ec : ECls X.K X.mg x C B) (hg : Gl X x) (hc : X.calm = true) (ht : Throws X E) (hdb : (x == ("__debug__" : Str)) = false) (hst : starEach [e0] X.env = [(false, eval e0 X.env)]) (he : PE X e0 te) :
 PS X (.Raise (some (.Call (.Name x np) [e0] [] cpos)) none pos) (tRaise C E te) := ps_raise ec.own ec.mgx hg hc ht he hdb hst
theorem r_cls (ec : ECls X.K X.mg x C B) (hg : Gl X x) (hdb : (x == ("__debug__" : Str)) = false) : PE X (.Name x pos) (tC (.ref C)) := pe_glob hg ec.mgx rfl hdb
theorem r_bty {T : String} (hg : Gl X x) (hm : X.mg x = none) (hv : bootBuiltins x = some (.type T)) (hn : x ≠ "__name__") (hdb : (x == ("__debug__" : Str)) = false) : PE X (.Name x pos) (tC (.ty T)) := pe_bltn hg hm hv rfl hn hdb
def rIsi (K : PySem.W.Frag) : List V → Hp → VK → Prop := fun xs H Q => (∃ z ty c b, xs = [z, .ty c] ∧ TyX K H z ty ∧ PySem.W.kitOne K ty (.type c) = some b ∧ Q (.bl b) H) ∨
 (∃ z ty C b, xs = [z, .ref C] ∧ TyX K H z ty ∧ PySem.W.kitOne K ty (.ref C) = some b ∧ Q (.bl b) H) ∨
 ∃ (e C tp : Addr) (Cs : List Addr) (b : Bool), xs = [.ref e, .ref tp] ∧ H e = some (ExcO e C) ∧ ExcC K C ∧ H tp = some (.tup (Cs.map V.ref)) ∧ PySem.W.kitAny K (.ref C) (Cs.map Value.ref) = some b ∧ Q (.bl b) H
theorem valsRef : ∀ {Cs : List Addr} {us : List Value}, Vals (Cs.map V.ref) us → us = Cs.map Value.ref
 | [], _, .nil => rfl
 | _ :: _, _, .cons r t => by rw [List.map_cons, ← valsRef t]; cases r; rfl
theorem call_isiX : CallR X (.builtin "isinstance") (rIsi X.K) := by
 intro pins s σ H xs us Q I r h
 rcases h with ⟨z, ty, c, b, rfl, ht, hk, q⟩ | ⟨z, ty, C, b, rfl, ht, hk, q⟩ | ⟨e, C, tp, Cs, b, rfl, he, T, htp, hk, q⟩
 · obtain ⟨u, w', rfl, r1, r2⟩ := vals2 r
   cases r2
   exact isinstX I r1 ht hk fun tk => ⟨.bl b, H, I.tok _, rfl, q⟩
 · obtain ⟨u, w', rfl, r1, r2⟩ := vals2 r
   cases r2
   exact isinstX I r1 ht hk fun tk => ⟨.bl b, H, I.tok _, rfl, q⟩
 · obtain ⟨u, w', rfl, r1, r2⟩ := vals2 r
   cases r1
   cases r2
   obtain ⟨its, rv, hT, _⟩ := I.tuple (SqT.of htp)
   rw [valsRef rv] at hT
   exact isinstXs (u := .none) I he T hT hk fun tk => ⟨.bl b, H, I.tok _, rfl, q⟩
theorem r_isiX (hx : x = "isinstance") (hg : Gl X x) (he : starEach (e :: es) X.env = (false, eval e X.env) :: starEach es X.env) (hpl : (backTo pos (starEach es X.env)).any (·.1) = false) (hm : X.mg x = none) (ha : PA X (e :: es) t) :
 PE X (.Call (.Name x p) (e :: es) [] pos) (tCB (rIsi X.K) t) := by subst hx; exact pe_callB call_isiX hg hm boot_isinstance ha (by decide) (by decide) he hpl
theorem r_tryAs {body : List Stmt} {b0 : Stmt} {suite : List Stmt} {tb : TSx} {ts : TS} (bc : BCls X.K X.mg x B) (hex : X.ex = []) (hstk : X.stack = X.env :: X.outer) (hfr : X.env.frame = some X.env.locals) (hN : X.N.Nodup) (hi : At X.N i n) (hn : X.env.scope.names.lookup n = some .local)
 (hg : Gl X x) (hdb : (x == ("__debug__" : Str)) = false) (hb : PSsx X body tb) (hs : ∀ ea, PSs (mkd X ea) (b0 :: suite) ts) : PS X (.Try body [.ExceptHandler (some (.Name x np)) (some n) (b0 :: suite) hpos] [] [] pos) (tTryAs X.K (.ref B) i tb ts) :=
 ps_tryAs hex hstk hfr hN hi hn hg bc.mgx hdb hb hs
end
def Bd (n : Nat) (i : Int) : Prop := i.natAbs < 2 ^ n
theorem Bd.mono {m n : Nat} {i : Int} (h : Bd m i) (hm : m ≤ n) : Bd n i := Nat.lt_of_lt_of_le h (Nat.pow_le_pow_right (by decide) hm)
structure JE (X : Cx) (e : Expr) (t : TE) : Prop where h : PE X e t
structure JT (X : Cx) (e : Expr) (t : TT) : Prop where h : PT X e t
structure JW (X : Cx) (e : Expr) (t : TT) : Prop where h : PW X e t
structure JA (X : Cx) (es : List Expr) (t : TA) : Prop where h : PA X es t
structure JO (X : Cx) (e : Option Expr) (t : TO) : Prop where h : PO X e t
structure JI (X : Cx) (tg it : Expr) (t : TI) : Prop where h : PI X tg it t
structure JG (X : Cx) (tg : Expr) (t : TG) : Prop where h : PG X tg t
structure JS (X : Cx) (st : Stmt) (t : TS) : Prop where h : PS X st t
structure JSs (X : Cx) (st : List Stmt) (t : TS) : Prop where h : PSs X st t
structure JEx (X : Cx) (e : Expr) (t : TEx) : Prop where h : PEx X e t
structure JSx (X : Cx) (st : Stmt) (t : TSx) : Prop where h : PSx X st t
structure JSsx (X : Cx) (st : List Stmt) (t : TSx) : Prop where h : PSsx X st t
structure JOp (X : Cx) (op : Operator) (r : R2) : Prop where h : OpR X (binaryOp op) r
structure JCop (X : Cx) (op : CmpOp) (r : R2) : Prop where h : OpR X (compareOp op) r
section
variable {X : Cx} {a b c e o e0 : Expr} {es rest : List Expr} {ta tb tc te to : TE} {tA tB' : TT} {t : TA} {pos p apos p2 cpos np hpos : Pos} {x n : Str} {i j : Nat} {N : List Str} {C B : Addr} {E : XK}
theorem j_int {k : Int} {q : Nat} : JE X (.Constant (.int k) q pos) (tC (.int k)) := ⟨pe_int⟩
theorem j_bl {k : Bool} {q : Nat} : JE X (.Constant (.bool k) q pos) (tC (.bl k)) := ⟨pe_bl⟩
theorem j_non {q : Nat} : JE X (.Constant .none q pos) (tC .non) := ⟨pe_non⟩
theorem j_str {k : Str} {q : Nat} : JE X (.Constant (.str k) q pos) (tC (.str k)) := ⟨pe_str⟩
theorem j_name (h : At X.N i x) (hk : X.env.scope.names.lookup x = some .local) (hd : (x == ("__debug__" : Str)) = false) (hcd : (x == ("__classdict__" : Str)) = false) : JE X (.Name x pos) (tVar i) := ⟨r_name h hk hd hcd⟩
theorem j_bin {op : Operator} {r : R2} (ho : JOp X op r) (ha : JE X a ta) (hb : JE X b tb) : JE X (.BinOp a op b pos) (tOp r ta tb) := ⟨r_bin ho.h ha.h hb.h⟩
theorem o_sub : JOp X .Sub (rI0 fun i j => .int (i - j)) := ⟨op_sub⟩
theorem o_mod : JOp X .Mod (rI (fun _ j => 0 < j) fun i j => .int (i % j)) := ⟨op_mod⟩
theorem o_fdiv : JOp X .FloorDiv (rI CDivB fun i j => .int (i / j)) := ⟨op_fdivB⟩
theorem o_pow : JOp X .Pow (rI CPow fun i j => .int (i ^ j.toNat)) := ⟨op_pow⟩
theorem c_eq : JCop X .Eq rEq := ⟨op_eq⟩
theorem c_ne : JCop X .NotEq rNe := ⟨op_ne⟩
theorem c_lt : JCop X .Lt (rI0 fun i j => .bl (decide (i < j))) := ⟨op_lt⟩
theorem c_le : JCop X .LtE (rI0 fun i j => .bl (decide (i ≤ j))) := ⟨op_le⟩
theorem c_gt : JCop X .Gt (rI0 fun i j => .bl (decide (j < i))) := ⟨op_gt⟩
theorem c_ge : JCop X .GtE (rI0 fun i j => .bl (decide (j ≤ i))) := ⟨op_ge⟩
theorem j_ix (hs : PlainIx b) (ha : JE X a ta) (hb : JE X b tb) : JE X (.Subscript a b pos) (tOp (rIx X.K) ta tb) := ⟨r_ix hs ha.h hb.h⟩
theorem j_onone : JO X none tNoPart := ⟨po_none⟩
theorem j_osome (h : JE X e te) : JO X (some e) (tPart te) := ⟨po_some h.h⟩
theorem j_tup {k : Nat} (h : JA X es t) : JE X (.Tuple es k pos) (tTupS t) := ⟨r_tupS h.h⟩
theorem j_lst (h : JA X es t) : JE X (.List es pos) (tLstS t) := ⟨r_lstS h.h⟩
theorem j_dict0 : JE X (.Dict [] [] pos) tDNewS := ⟨r_dict0S⟩
theorem j_dict1 (ha : JE X a ta) (hb : JE X b tb) : JE X (.Dict [some a] [b] pos) (tDisp [(ta, tb)]) := ⟨r_dict1 ha.h hb.h⟩
theorem j_neg (ha : JE X a ta) : JE X (.UnaryOp .USub a pos) (tUn (rU fun i => .int (-i)) ta) := ⟨r_neg ha.h⟩
theorem j_not (ha : JE X a ta) : JE X (.UnaryOp .Not a pos) (tNotV ta) := ⟨pe_not ha.h⟩
theorem j_and (ha : JE X a ta) (hb : JE X (.BoolOp .And (b :: rest) pos) tb) : JE X (.BoolOp .And (a :: b :: rest) pos) (tAndV ta tb) := ⟨pe_and ha.h hb.h⟩
theorem j_one {op} (h : JE X a ta) : JE X (.BoolOp op [a] pos) ta := ⟨pe_one h.h⟩
theorem j_cls (ec : ECls X.K X.mg x C B) (hg : Gl X x) (hdb : (x == ("__debug__" : Str)) = false) : JE X (.Name x pos) (tC (.ref C)) := ⟨r_cls ec hg hdb⟩
theorem j_bty {T : String} (hg : Gl X x) (hm : X.mg x = none) (hv : bootBuiltins x = some (.type T)) (hn : x ≠ "__name__") (hdb : (x == ("__debug__" : Str)) = false) : JE X (.Name x pos) (tC (.ty T)) := ⟨r_bty hg hm hv hn hdb⟩
theorem j_append {cpos : Pos} (hbase : attributeBase o "append" X.env (eval o X.env) = eval o X.env) (hfew : ((backTo cpos (starEach [e] X.env)).all (fun x => !x.1) && (backToKw cpos (keywordEach [] X.env)).all (fun x => x.1.isSome)
 && decide (([e] : List Expr).length + ([] : List Keyword).length + (if ([] : List Keyword).isEmpty then 0 else 1) < 30)) = true) (hline : (apos.endLine == cpos.line) = true) (hs : starEach [e] X.env = (false, eval e X.env) :: starEach [] X.env)
 (hpl : (backTo cpos (starEach [] X.env)).any (·.1) = false) (ho : JE X o to) (ha : JA X [e] t) : JE X (.Call (.Attribute o "append" apos) [e] [] cpos) (tBM X.K "list" rAppend to t) := ⟨r_append hbase hfew hline hs hpl ho.h ha.h⟩
theorem j_call {k : Nat} {ps : List Str} {sp : Sp} (c : Callee CX0 X.prog X.w X.K X.mg X.base x k ps sp) (hr : Room k X.A) (hg : Gl X x) (hdb : (x == ("__debug__" : Str)) = false)
 (he : starEach (e :: es) X.env = (false, eval e X.env) :: starEach es X.env) (hpl : (backTo pos (starEach es X.env)).any (·.1) = false) (ha : JA X (e :: es) t) : JE X (.Call (.Name x p) (e :: es) [] pos) (tCall sp [] E0 t) := ⟨r_call c hr hg hdb he hpl ha.h⟩
section
variable (hg : Gl X x) (he : starEach (e :: es) X.env = (false, eval e X.env) :: starEach es X.env) (hpl : (backTo pos (starEach es X.env)).any (·.1) = false)
include hg he hpl
theorem j_isi (hx : x = "isinstance") (hm : X.mg x = none) (ha : JA X (e :: es) t) : JE X (.Call (.Name x p) (e :: es) [] pos) (tCB (rIsi X.K) t) := ⟨r_isiX hx hg he hpl hm ha.h⟩
theorem j_len (hx : x = "len") (hm : X.mg x = none) (ha : JA X (e :: es) t) : JE X (.Call (.Name x p) (e :: es) [] pos) (tCB (rLen X.K) t) := ⟨r_len hg he hpl hx hm ha.h⟩
theorem j_abs (hx : x = "abs") (hm : X.mg x = none) (ha : JA X (e :: es) t) : JE X (.Call (.Name x p) (e :: es) [] pos) (tCB (fun xs H Q => ∃ i, xs = [.int i] ∧ Q (.int (if i < 0 then -i else i)) H) t) := ⟨r_abs hg he hpl hx hm ha.h⟩
theorem j_max (hx : x = "max") (hc : X.calm = true) (hm : X.mg x = none) (ha : JA X (e :: es) t) : JE X (.Call (.Name x p) (e :: es) [] pos) (tCB (fun xs H Q => ∃ i j, xs = [.int i, .int j] ∧ Q (.int (if j > i then j else i)) H) t) := ⟨r_max hg he hpl hx hc hm ha.h⟩
theorem j_min (hx : x = "min") (hc : X.calm = true) (hm : X.mg x = none) (ha : JA X (e :: es) t) : JE X (.Call (.Name x p) (e :: es) [] pos) (tCB (fun xs H Q => ∃ i j, xs = [.int i, .int j] ∧ Q (.int (if j < i then j else i)) H) t) := ⟨r_min hg he hpl hx hc hm ha.h⟩
end
theorem j_nil : JA X [] tNil := ⟨pa_nil⟩
theorem j_cons (hs : starEach (e :: es) X.env = (false, eval e X.env) :: starEach es X.env) (ha : JE X e te) (hr : JA X es t) : JA X (e :: es) (tCons te t) := ⟨r_acons hs ha.h hr.h⟩
theorem u_cmp {op : CmpOp} {r : R2} (h1 : op ≠ .In) (h2 : op ≠ .NotIn) (ho : JCop X op r) (ha : JE X a ta) (hb : JE X b tb) : JT X (.Compare a [op] [b] pos) (tTest (tOp r ta tb)) := ⟨t_cmp h1 h2 ho.h ha.h hb.h⟩
theorem u_or (h : JW X (.BoolOp .Or es pos) tA) : JT X (.BoolOp .Or es pos) tA := ⟨h.h.pt⟩
theorem u_not (ha : JT X a tA) : JT X (.UnaryOp .Not a pos) (tNot tA) := ⟨pt_not ha.h⟩
theorem u_call {f : Expr} {ks : List Keyword} (h : JE X (.Call f es ks pos) te) : JT X (.Call f es ks pos) (tB te) := ⟨t_call h.h⟩
theorem w_or1 (ha : JT X a tA) : JW X (.BoolOp .Or [a] pos) tA := ⟨pw_or1 ha.h⟩
theorem w_or (ha : JT X a tA) (hb : JW X (.BoolOp .Or (b :: rest) pos) tB') : JW X (.BoolOp .Or (a :: b :: rest) pos) (tOr tA tB') := ⟨pw_or ha.h hb.h⟩
theorem i_range1 {tg : Expr} (hx : x = "range") (hg : Gl X x) (hm : X.mg x = none) (hs : starEach [a] X.env = [(false, eval a X.env)]) (ha : JA X [a] t) : JI X tg (.Call (.Name x p) [a] [] pos) (iRng1 t) := ⟨r_irange1 hx hg hm hs ha.h⟩
theorem g_name (h : At X.N i x) (hN : X.N.Nodup) (hk : X.env.scope.names.lookup x = some .local) : JG X (.Name x pos) (gName i) := ⟨r_gname h hN hk⟩
variable {st : Stmt} {sts : List Stmt} {t1 t2 : TS}
theorem s_ret (he : JE X e te) : JS X (.Return (some e) pos) (tRet te) := ⟨r_ret he.h⟩
theorem s_set (h : At X.N i x) (hN : X.N.Nodup) (hk : X.env.scope.names.lookup x = some .local) (hs : swapsWith e (some (.Name x p)) pos.line X.env = pure false) (he : JE X e te) : JS X (.Assign [.Name x p] e pos) (tAsg te (gName i)) := ⟨r_set h hN hk hs he.h⟩
theorem s_expr (hs : swapsWith e none pos.line X.env = pure false) (he : JE X e te) : JS X (.Expr e pos) (tDrop te) := ⟨r_expr hs he.h⟩
theorem s_if {aa bb : List Stmt} (hc : JT X c tA) (ha : JSs X aa t1) (hb : JSs X bb t2) : JS X (.If c aa bb pos) (tMid (tIfS tA t1 t2)) := ⟨r_ifM hc.h ha.h hb.h⟩
theorem s_for {iter tg : Expr} {body : List Stmt} {wi : TI} {g : TG} {tb : TS} (hp : PassesOwn (model X.prog X.w) X.A X.env X.xe) (hc : X.calm = true) (hs : ∀ x, foldedSetIterable iter X.env x = pure x) (hi : JI X tg iter wi) (hg : JG X tg g) (hb : JSs X body tb) : JS X (.For tg iter body [] pos) (tFor wi g tb) := ⟨r_for hp hc hs hi.h hg.h hb.h⟩
theorem s_unpack2 {y : Str} {px py pt : Pos} {kt : Nat} (hi : At X.N i x) (hj : At X.N j y) (hc : X.calm = true) (hN : X.N.Nodup) (hx : X.env.scope.names.lookup x = some .local) (hy : X.env.scope.names.lookup y = some .local)
 (h1 : (assignEach [.Name x px, .Name y py] X.env).map (·.2) = assign (.Name x px) X.env :: (assignEach [.Name y py] X.env).map (·.2))
 (h2 : (assignEach [.Name y py] X.env).map (·.2) = assign (.Name y py) X.env :: (assignEach [] X.env).map (·.2))
 (hn : (assignEach [.Name x px, .Name y py] X.env).length = 2) (hst : (assignEach [.Name x px, .Name y py] X.env).findIdx? (·.1) = none)
 (hs : swapsWithSole [.Tuple [.Name x px, .Name y py] kt pt] e pos.line X.env = pure false) (hw : swappedStores [.Tuple [.Name x px, .Name y py] kt pt] e X.env = pure none)
 (h3 : (assignEach [.Tuple [.Name x px, .Name y py] kt pt] X.env).map (·.2) = [assign (.Tuple [.Name x px, .Name y py] kt pt) X.env]) (he : JE X e te) :
 JS X (.Assign [.Tuple [.Name x px, .Name y py] kt pt] e pos) (tAsg te (gTup X.K 2 (gCons (gName i) (gCons (gName j) gNil)))) := ⟨r_unpack2 hi hj hc hN hx hy h1 h2 hn hst hs hw h3 he.h⟩
theorem s_raise (ec : ECls X.K X.mg x C B) (hg : Gl X x) (hc : X.calm = true) (ht : Throws X E) (hdb : (x == ("__debug__" : Str)) = false) (hst : starEach [e0] X.env = [(false, eval e0 X.env)]) (he : JE X e0 te) :
 JS X (.Raise (some (.Call (.Name x np) [e0] [] cpos)) none pos) (tRaise C E te) := ⟨r_raise ec hg hc ht hdb hst he.h⟩
theorem s_try {body : List Stmt} {b0 : Stmt} {suite : List Stmt} {tb : TSx} {ts : TS} (bc : BCls X.K X.mg x B) (hex : X.ex = []) (hstk : X.stack = X.env :: X.outer) (hfr : X.env.frame = some X.env.locals) (hN : X.N.Nodup) (hi : At X.N i n) (hn : X.env.scope.names.lookup n = some .local)
 (hg : Gl X x) (hdb : (x == ("__debug__" : Str)) = false) (hb : JSsx X body tb) (hs : ∀ ea, JSs (mkd X ea) (b0 :: suite) ts) : JS X (.Try body [.ExceptHandler (some (.Name x np)) (some n) (b0 :: suite) hpos] [] [] pos) (tTryAs X.K (.ref B) i tb ts) :=
 ⟨r_tryAs bc hex hstk hfr hN hi hn hg hdb hb.h fun ea => (hs ea).h⟩
theorem ss_nil : JSs X [] tNext := ⟨pss_nil⟩
theorem ss_cons (h1 : JS X st t1) (h2 : JSs X sts t2) : JSs X (st :: sts) (tSeq t1 t2) := ⟨pss_cons h1.h h2.h⟩
theorem x_call {k : Nat} {ps : List Str} {sp : Sp} (c : Callee (CXF X.prog X.w) X.prog X.w X.K X.mg X.base x k ps sp) (hr : Room k X.A) (hg : Gl X x) (hdb : (x == ("__debug__" : Str)) = false)
 (he : starEach (e :: es) X.env = (false, eval e X.env) :: starEach es X.env) (hpl : (backTo pos (starEach es X.env)).any (·.1) = false) (hex : X.ex = []) (ha : JA X.nox (e :: es) t) : JEx X (.Call (.Name x p) (e :: es) [] pos) (tCallx sp t) := ⟨pex_call c hr hg hdb he hpl hex ha.h⟩
theorem x_ret {tx : TEx} (he : JEx X e tx) : JSx X (.Return (some e) pos) (tRetx tx) := ⟨psx_ret he.h⟩
theorem xx_nil : JSsx X [] tNextx := ⟨pssx_nil⟩
theorem xx_cons {u1 u2 : TSx} (h1 : JSx X st u1) (h2 : JSsx X sts u2) : JSsx X (st :: sts) (tSeqx u1 u2) := ⟨pssx_cons h1.h h2.h⟩
end
section
variable {P : Program} {w : World} {K : PySem.W.Frag} {mg : Str → Option Value} {base : Heap} {x qual : Str} {st : Stmt} {f : Addr} {fd : FuncData} {N ps : List Str} {k : Nat} {sp : Sp}
theorem Fun.j (F : Fun K x qual st f fd) (S : FnScope N ps (defScope st)) (len : ∀ vs H Q E, sp vs H Q E → vs.length = ps.length)
 (hbody : ∀ (cdv : Value) (A : Around) (outer : List Env) (s : Shared) (H : Hp) (vs : List V) (Q : VK) (E : XK), Room k (A.deeper (envOfC qual (defScope st) s.heap.objs.size f cdv)) → sp vs H Q E →
  ∃ t, JSs (cxOf CX0 P w K mg base N qual (defScope st) f cdv A outer s H E).nox (defBody st) t ∧ t { nx := fun _ H' => Q .non H', rt := Q } (start N vs) H) : FnOk P w K mg base CX0 (k + 1) f fd ps sp :=
 L2.Fun.ok F S len fun cdv A outer s H vs Q E hr h => let ⟨t, a, b⟩ := hbody cdv A outer s H vs Q E hr h; ⟨t, a.h, b⟩
theorem Fun.jX (F : Fun K x qual st f fd) (S : FnScope N ps (defScope st)) (len : ∀ vs H Q E, sp vs H Q E → vs.length = ps.length)
 (hbody : ∀ (cdv : Value) (A : Around) (outer : List Env) (s : Shared) (H : Hp) (vs : List V) (Q : VK) (E : XK), Room k (A.deeper (envOfC qual (defScope st) s.heap.objs.size f cdv)) → sp vs H Q E →
  ∃ t, JSs (cxOf (CXF P w) P w K mg base N qual (defScope st) f cdv A outer s H E) (defBody st) t ∧ t { nx := fun _ H' => Q .non H', rt := Q } (start N vs) H) : FnOk P w K mg base (CXF P w) (k + 1) f fd ps sp :=
 Br.Fun.okX F S len fun cdv A outer s H vs Q E hr h => let ⟨t, a, b⟩ := hbody cdv A outer s H vs Q E hr h; ⟨t, a.h, b⟩
end
end Br
namespace Br
end Br
namespace Br
open PySem PySem.Spec PySem.Calls PyProof.Rows L2
mutual
inductive Rep (H : Hp) : V → PyData → Prop
 | non : Rep H .non .none
 | bl (b : Bool) : Rep H (.bl b) (.bool b)
 | int (i : Int) : Rep H (.int i) (.int i)
 | str (x : Str) : Rep H (.str x) (.str x)
 | tup {a : Addr} {xs : List V} {ds : List PyData} (h : H a = some (.tup xs)) (r : Reps H xs ds) : Rep H (.ref a) (.tuple ds)
 | lst {a : Addr} {xs : List V} {ds : List PyData} (h : H a = some (.lst xs)) (r : Reps H xs ds) : Rep H (.ref a) (.list ds)
inductive Reps (H : Hp) : List V → List PyData → Prop
 | nil : Reps H [] []
 | cons {x : V} {xs : List V} {d : PyData} {ds : List PyData} (h : Rep H x d) (r : Reps H xs ds) : Reps H (x :: xs) (d :: ds)
end
mutual
theorem Rep.mono {H H' : Hp} (s : L2.Same H H') : ∀ {v : V} {d : PyData}, Rep H v d → Rep H' v d
 | _, _, .non => .non
 | _, _, .bl b => .bl b
 | _, _, .int i => .int i
 | _, _, .str x => .str x
 | _, _, .tup h r => .tup (s _ _ h) (r.mono s)
 | _, _, .lst h r => .lst (s _ _ h) (r.mono s)
theorem Reps.mono {H H' : Hp} (s : L2.Same H H') : ∀ {vs : List V} {ds : List PyData}, Reps H vs ds → Reps H' vs ds
 | _, _, .nil => .nil
 | _, _, .cons h r => .cons (h.mono s) (r.mono s)
end
theorem Reps.length {H : Hp} : ∀ {vs : List V} {ds : List PyData}, Reps H vs ds → vs.length = ds.length
 | _, _, .nil => rfl
 | _, _, .cons _ r => by simp [r.length]
theorem Reps.append {H : Hp} : ∀ {vs us : List V} {ds es : List PyData}, Reps H vs ds → Reps H us es → Reps H (vs ++ us) (ds ++ es)
 | _, _, _, _, .nil, r => r
 | _, _, _, _, .cons h r, q => .cons h (r.append q)
theorem Reps.get {H : Hp} : ∀ {vs : List V} {ds : List PyData} {i : Nat} {v : V}, Reps H vs ds → vs[i]? = some v → ∃ d, ds[i]? = some d ∧ Rep H v d
 | _, _, 0, _, .cons h _, e => by simp at e; subst e; exact ⟨_, rfl, h⟩
 | _, _, i + 1, _, .cons _ r, e => by
  obtain ⟨d, h1, h2⟩ := r.get (i := i) (by simpa using e)
  exact ⟨d, by simpa using h1, h2⟩
theorem Reps.ints {H : Hp} : ∀ ns : List Int, Reps H (ns.map V.int) (ns.map PyData.int)
 | [] => .nil
 | n :: r => .cons (.int n) (Reps.ints r)
section
variable {P : Program} {w : World} {H : Hp} {h : Heap}
mutual
theorem Rep.reads (ok : HOk P w H h) : ∀ {v : V} {d : PyData} {u : Value}, Rep H v d → RelV v u → ∃ as, Reads h u d as
 | _, _, _, .non, r => by cases (show _ = Value.none from r); exact ⟨_, .none⟩
 | _, _, _, .bl b, r => by cases (show _ = Value.bool b from r); exact ⟨_, .bool b⟩
 | _, _, _, .int i, r => by obtain ⟨t, e⟩ := (show ∃ t, _ = Value.int i t from r); subst e; exact ⟨_, .int i t⟩
 | _, _, _, .str x, r => by obtain ⟨t, e⟩ := (show ∃ t, _ = Value.str x t from r); subst e; exact ⟨_, .str x t⟩
 | _, _, _, .tup (a := a) (xs := xs) q rs, r => by
  cases (show _ = Value.ref a from r)
  obtain ⟨_, its, rv, o, h1, h2, n, h3⟩ := (show ObjOk P w H h a (.tup xs) from ok a _ q)
  obtain ⟨as, z⟩ := Reps.reads ok rs rv
  exact ⟨_, .tuple h1 h2 h3 (by simpa using z)⟩
 | _, _, _, .lst (a := a) (xs := xs) q rs, r => by
  cases (show _ = Value.ref a from r)
  obtain ⟨_, its, n, rv, h1⟩ := (show ObjOk P w H h a (.lst xs) from ok a _ q)
  obtain ⟨as, z⟩ := Reps.reads ok rs rv
  exact ⟨_, .list h1 rfl rfl (by simpa using z)⟩
theorem Reps.reads (ok : HOk P w H h) : ∀ {vs : List V} {ds : List PyData} {us : List Value}, Reps H vs ds → Vals vs us → ∃ as, ReadsAll h us ds as
 | _, _, _, .nil, .nil => ⟨_, .nil⟩
 | _, _, _, .cons q rs, .cons r t => by
  obtain ⟨as, z⟩ := Rep.reads ok q r
  obtain ⟨bs, y⟩ := Reps.reads ok rs t
  exact ⟨_, .cons z y⟩
end
end
def Pl (d : PyData) : Prop := d.canLay0 = true ∧ d.depth ≤ 60
end Br
namespace Br
open PySem
def RT (t : SetTable) : Prop := t.dummies = #[] ∧ t.place.toList.Pairwise (· < ·)
theorem pw_at {l : List Nat} (h : l.Pairwise (· < ·)) {i j x y : Nat} (hij : i < j) (hx : l[i]? = some x) (hy : l[j]? = some y) : x < y := by
 obtain ⟨h1, e1⟩ := List.getElem?_eq_some_iff.mp hx
 obtain ⟨h2, e2⟩ := List.getElem?_eq_some_iff.mp hy
 rw [← e1, ← e2]
 exact List.pairwise_iff_getElem.mp h i j h1 h2 hij
theorem below_go {xs : Array Nat} {j : Nat} (hs : xs.toList.Pairwise (· < ·)) : ∀ fuel lo hi, hi - lo ≤ fuel → lo ≤ hi → hi ≤ xs.size → (∀ i x, i < lo → xs[i]? = some x → x < j) → (∀ i x, hi ≤ i → xs[i]? = some x → j ≤ x) →
 SetTable.below.go xs j fuel lo hi ≤ xs.size ∧ (∀ i x, i < SetTable.below.go xs j fuel lo hi → xs[i]? = some x → x < j) ∧ (∀ i x, SetTable.below.go xs j fuel lo hi ≤ i → xs[i]? = some x → j ≤ x)
 | 0, lo, hi, h1, h2, h3, h4, h5 => by
  have : lo = hi := by omega
  subst this
  exact ⟨h3, h4, h5⟩
 | fuel + 1, lo, hi, h1, h2, h3, h4, h5 => by
  unfold SetTable.below.go
  by_cases hl : lo < hi
  · rw [if_pos hl]
    have hm : (lo + hi) / 2 < xs.size := by omega
    have em : xs[(lo + hi) / 2]? = some xs[(lo + hi) / 2] := Array.getElem?_eq_getElem hm
    have eg : xs.getD ((lo + hi) / 2) j = xs[(lo + hi) / 2] := by simp [Array.getD, hm]
    have eL := fun (i : Nat) => (Array.getElem?_toList (xs := xs) (i := i)).symm
    dsimp only
    rw [eg]
    by_cases hc : xs[(lo + hi) / 2] < j
    · rw [if_pos hc]
      refine below_go hs fuel _ _ (by omega) (by omega) h3 (fun i x hi' e => ?_) h5
      rcases Nat.lt_or_ge i ((lo + hi) / 2) with z | z
      · have := pw_at hs z (by rw [← eL]; exact e) (by rw [← eL]; exact em); omega
      · have : i = (lo + hi) / 2 := by omega
        subst this; rw [em] at e; cases e; exact hc
    · rw [if_neg hc]
      refine below_go hs fuel _ _ (by omega) (by omega) (by omega) h4 (fun i x hi' e => ?_)
      rcases Nat.lt_or_ge ((lo + hi) / 2) i with z | z
      · have := pw_at hs z (by rw [← eL]; exact em) (by rw [← eL]; exact e); omega
      · have : i = (lo + hi) / 2 := by omega
        subst this; rw [em] at e; cases e; omega
  · rw [if_neg hl]
    have : lo = hi := by omega
    subst this
    exact ⟨h3, h4, h5⟩
theorem below_is {xs : Array Nat} (hs : xs.toList.Pairwise (· < ·)) (j : Nat) : SetTable.below xs j ≤ xs.size ∧ (∀ i x, i < SetTable.below xs j → xs[i]? = some x → x < j) ∧ (∀ i x, SetTable.below xs j ≤ i → xs[i]? = some x → j ≤ x) :=
 below_go hs xs.size 0 xs.size (by omega) (by omega) (by omega) (fun i x h => by omega) (fun i x h e => by
  have := (Array.getElem?_eq_some_iff.mp e).1; omega)
theorem below_next {xs : Array Nat} (hs : xs.toList.Pairwise (· < ·)) {i x : Nat} (e : xs[i]? = some x) : SetTable.below xs (x + 1) = i + 1 := by
 obtain ⟨h1, h2, h3⟩ := below_is hs (x + 1)
 have hi := (Array.getElem?_eq_some_iff.mp e).1
 have eL := fun (i : Nat) => (Array.getElem?_toList (xs := xs) (i := i)).symm
 rcases Nat.lt_trichotomy (SetTable.below xs (x + 1)) (i + 1) with z | z | z
 · have := h3 i x (by omega) e; omega
 · exact z
 · have hk : i + 1 < xs.size := by omega
   have ek : xs[i + 1]? = some xs[i + 1] := Array.getElem?_eq_getElem hk
   have a := h2 (i + 1) _ z ek
   have b := pw_at hs (Nat.lt_succ_self i) (by rw [← eL]; exact e) (by rw [← eL]; exact ek)
   omega
theorem below_zero {xs : Array Nat} (hs : xs.toList.Pairwise (· < ·)) : SetTable.below xs 0 = 0 := by
 obtain ⟨h1, h2, _⟩ := below_is hs 0
 rcases Nat.eq_zero_or_pos (SetTable.below xs 0) with z | z
 · exact z
 · have := h2 0 _ z (Array.getElem?_eq_getElem (by omega)); omega
theorem has_nil (j : Nat) : SetTable.has #[] j = false := by
 have : SetTable.has #[] j = ((#[] : Array Nat)[SetTable.below #[] j]? == some j) := rfl
 rw [this]; simp
theorem slot_out {t : SetTable} (h : RT t) {j : Nat} (e : t.slot j = .empty) : j ∉ t.place.toList := by
 intro hm
 obtain ⟨i, hi⟩ := List.getElem?_of_mem hm
 have hi : t.place[i]? = some j := by rw [← Array.getElem?_toList]; exact hi
 obtain ⟨h1, h2, h3⟩ := below_is h.2 j
 have hz := (Array.getElem?_eq_some_iff.mp hi).1
 have eL := fun (i : Nat) => (Array.getElem?_toList (xs := t.place) (i := i)).symm
 have hb : SetTable.below t.place j = i := by
  rcases Nat.lt_trichotomy (SetTable.below t.place j) i with z | z | z
  · have ek : t.place[SetTable.below t.place j]? = some (t.place[SetTable.below t.place j]'(by omega)) := Array.getElem?_eq_getElem _
    have a := h3 _ _ (Nat.le_refl _) ek
    have b := pw_at h.2 z (by rw [← eL]; exact ek) (by rw [← eL]; exact hi)
    omega
  · exact z
  · have := h2 i j z hi; omega
 unfold SetTable.slot at e
 dsimp only at e
 rw [hb, hi] at e
 simp at e
theorem slot_nodummy {t : SetTable} (h : RT t) (j : Nat) : t.slot j ≠ .dummy := by
 unfold SetTable.slot
 rw [h.1, has_nil]
 intro z
 dsimp only at z
 split at z
 · cases z
 · simp at z
theorem probe_free {t : SetTable} (h : RT t) {ha : Nat → Int} {hh : Int} : ∀ (fuel : Nat) (p : SetTable.Probe) {j : Nat} {d : Option Nat}, p.dummy = none → SetTable.probe.go t ha hh fuel p = some (.empty j d) → d = none ∧ j ∉ t.place.toList
 | 0, p, j, d, _, e => by unfold SetTable.probe.go at e; cases e
 | fuel + 1, p, j, d, hd, e => by
  unfold SetTable.probe.go at e
  have adv : (t.advance p).dummy = none := by unfold SetTable.advance; split <;> exact hd
  cases hs : t.slot p.j with
  | empty => rw [hs] at e; cases e; exact ⟨hd, slot_out h hs⟩
  | dummy => exact absurd hs (slot_nodummy h _)
  | live i =>
   rw [hs] at e
   dsimp only at e
   split at e
   · cases e
   · exact probe_free h fuel _ adv e
theorem free_out {t : SetTable} (h : RT t) {hh : Int} {j : Nat} {d : Bool} (e : t.freeSlot hh = some (j, d)) : j ∉ t.place.toList := by
 unfold SetTable.freeSlot at e
 split at e
 · next k d' hp =>
   obtain ⟨e1, e2⟩ := probe_free h _ _ (by rfl) hp
   subst e1
   cases e
   exact e2
 · cases e
theorem insertAt_list {α : Type} (xs : Array α) (p : Nat) (x : α) (h : p ≤ xs.size) : (SetTable.insertAt xs p x).toList = xs.toList.take p ++ x :: xs.toList.drop p := by
 unfold SetTable.insertAt
 simp [Array.toList_extract, List.extract, List.take_of_length_le]
theorem put_rt {t : SetTable} (h : RT t) {j : Nat} (hj : j ∉ t.place.toList) : RT (t.put j).1 := by
 unfold SetTable.put
 refine ⟨by dsimp only; rw [h.1, has_nil]; rfl, ?_⟩
 obtain ⟨h1, h2, h3⟩ := below_is h.2 j
 show (SetTable.insertAt t.place _ j).toList.Pairwise _
 rw [insertAt_list _ _ _ h1]
 have hs := h.2
 rw [← List.take_append_drop (SetTable.below t.place j) t.place.toList, List.pairwise_append] at hs
 obtain ⟨a, b, c⟩ := hs
 rw [List.pairwise_append, List.pairwise_cons]
 have lo : ∀ x ∈ t.place.toList.take (SetTable.below t.place j), x < j := fun x hx => by
  obtain ⟨i, hi⟩ := List.getElem?_of_mem hx
  rw [List.getElem?_take] at hi
  split at hi
  · next z => exact h2 i x z (by rw [← Array.getElem?_toList]; exact hi)
  · cases hi
 have hi : ∀ x ∈ t.place.toList.drop (SetTable.below t.place j), j < x := fun x hx => by
  obtain ⟨i, hi⟩ := List.getElem?_of_mem hx
  rw [List.getElem?_drop] at hi
  have := h3 _ x (Nat.le_add_right _ i) (by rw [← Array.getElem?_toList]; exact hi)
  rcases Nat.lt_or_eq_of_le this with z | z
  · exact z
  · exact absurd (z ▸ List.mem_of_getElem? hi) hj
 refine ⟨a, ⟨hi, b⟩, fun x hx y hy => ?_⟩
 rcases List.mem_cons.mp hy with rfl | hy
 · exact lo x hx
 · exact c x hx y hy
theorem standIn_rt (t : SetTable) (n : Nat) : RT (t.standIn n) := ⟨rfl, by
 show (Array.range n).toList.Pairwise _
 rw [Array.toList_range]; exact List.pairwise_lt_range⟩
theorem layNew_rt {t : SetTable} (h : RT t) (es : Array (Int × Value)) (hh : Int) (x : Value) : RT (layNew t es hh x).2.1 ∧ (layNew t es hh x).2.1.led = t.led := by
 unfold layNew
 split
 · next slot wd e =>
   have r := put_rt h (free_out h e)
   show RT ((t.put slot).1.orStandIn _) ∧ ((t.put slot).1.orStandIn _).led = _
   unfold SetTable.orStandIn
   split
   · exact ⟨r, rfl⟩
   · exact ⟨standIn_rt _ _, rfl⟩
 · exact ⟨standIn_rt _ _, rfl⟩
theorem relayAll_rt {t : SetTable} (es : Array (Int × Value)) (n : Nat) : RT (relayAll t es n).2.1 ∧ (relayAll t es n).2.1.led = t.led := by
 unfold relayAll
 split
 · next t' order e =>
   dsimp only
   split
   · unfold SetTable.relaid SetTable.laid at e
     obtain ⟨ow, _, e⟩ := Option.bind_eq_some_iff.mp e
     cases e
     refine ⟨⟨rfl, ?_⟩, rfl⟩
     show (((_ : List (Nat × Nat)).map (·.1)).toArray).toList.Pairwise _
     rw [List.toList_toArray, List.pairwise_map, List.pairwise_filterMap]
     refine List.pairwise_lt_range.imp fun {a b} hab p hp q hq => ?_
     obtain ⟨_, _, rfl⟩ := Option.map_eq_some_iff.mp hp
     obtain ⟨_, _, rfl⟩ := Option.map_eq_some_iff.mp hq
     exact hab
   · exact ⟨standIn_rt _ _, rfl⟩
 · exact ⟨standIn_rt _ _, rfl⟩
end Br
namespace Br
open PySem PySem.Spec PySem.Calls PyProof.Rows
def vI : Value → Int
 | .int n _ => n
 | _ => 0
abbrev byT (w : World) : Bool := w.params.followText "set-order"
def SetI (w : World) (h : Heap) (a : Addr) (ns : List Int) : Prop :=
 ∃ o es ep t, h.get? a = some o ∧ o.ExactSet ∧ o.data = .set es ep t ∧ (∀ e ∈ es.toList, ∃ n tk, e = (hashInt n, Value.int n tk)) ∧ es.toList.map (fun e => vI e.2) = ns ∧ ns.Nodup ∧ es.size < scanBound ∧ t.fits es.size = true ∧ RT t ∧ t.led = !byT w
theorem SetI.at {w : World} {h h' : Heap} {a : Addr} {ns : List Int} (x : SetI w h a ns) (e : ∀ o, h.get? a = some o → h'.get? a = some o) : SetI w h' a ns := let ⟨o, es, ep, t, ho, r⟩ := x; ⟨o, es, ep, t, e _ ho, r⟩
theorem elems_of {prog : Program} {w : World} {l : List (Int × Value)} (h : ∀ e ∈ l, ∃ n tk, e = (hashInt n, Value.int n tk)) : ElemsOf (intKind prog w) l := fun e he => by
 obtain ⟨n, tk, rfl⟩ := h e he
 exact ⟨⟨n, intKind_is _ _ _ _, rfl⟩, rfl⟩
theorem put_at {h : Heap} {a : Addr} {o : Obj} {es : Array (Int × Value)} {ep : Nat} {t : SetTable} (ho : h.get? a = some o) (hd : o.data = .set es ep t) (es' : Array (Int × Value)) (t' : SetTable) : (h.update a (Obj.putSet es' t')).get? a = some { o with data := .set es' (ep + 1) t' } := by
 have q := Heap.get?_update_self (Obj.putSet es' t') ho (by rw [putSet_of es' t' hd]; rfl)
 rwa [putSet_of es' t' hd] at q
theorem find_in {l : List (Int × Value)} {n : Int} (h : ∀ e ∈ l, ∃ n tk, e = (hashInt n, Value.int n tk)) : (∃ e ∈ l, Value.isInt n e.2 = true) ↔ n ∈ l.map fun e => vI e.2 := by
 constructor
 · rintro ⟨e, he, hp⟩
   obtain ⟨m, tk, rfl⟩ := h e he
   obtain ⟨t', ht⟩ := Value.isInt_shape hp
   refine List.mem_map.mpr ⟨_, he, ?_⟩
   have ht : Value.int m tk = Value.int n t' := ht
   cases ht; rfl
 · intro hn
   obtain ⟨e, he, rfl⟩ := List.mem_map.mp hn
   obtain ⟨m, tk, rfl⟩ := h e he
   exact ⟨_, he, by simp [vI, Value.isInt]⟩
section
variable {prog : Program} {w : World} {A : Around} {E : Value → Shared → Prop} {s : Shared} {a : Addr} {ns : List Int} {n : Int} {tk : Nat}
theorem set_tail {g : Bool → Sem Unit} (hg : ∀ (b : Bool) (s₁ : Shared) (Q' : Unit → Shared → Prop), Q' () s₁ → wpAny (model prog w) A (g b) Q' E s₁) {o : Obj} {es es1 : Array (Int × Value)} {ep : Nat} {t t1 : SetTable} (ho : s.heap.get? a = some o) (hex : o.ExactSet) (hd : o.data = .set es ep t)
 (hes1 : ∀ e ∈ es1.toList, ∃ m tk, e = (hashInt m, Value.int m tk)) (nd1 : (es1.toList.map fun e => vI e.2).Nodup) (z1 : es1.size < scanBound) (f1 : t1.fits es1.size = true) (r1 : RT t1) (hl : t1.led = !byT w) {wd : Bool} {R : Option Bool → Shared → Prop}
 (h : ∀ h' ns', Heap.SameBut a s.heap h' → SetI w h' a ns' → ns'.Perm (es1.toList.map fun e => vI e.2) → R (some true) { s with heap := h' }) :
 wpAny (model prog w) A (storeSet a es1 t1 >>= fun _ => if (!wd && t1.tooFull) = true then (g (relayAll t1 es1 (SetTable.grown es1.size)).2.2 >>= fun _ => storeSet a (relayAll t1 es1 (SetTable.grown es1.size)).1 (relayAll t1 es1 (SetTable.grown es1.size)).2.1 >>= fun _ => pure (some true)) else pure (some true)) R E s := by
 have ho1 := put_at ho hd es1 t1
 have sb1 := Heap.SameBut.update s.heap a (Obj.putSet es1 t1)
 refine wpAny_bind (wpAny_storeSet_of ho hd ?_ (fits_of_scanBound z1))
 by_cases hc : (!wd && t1.tooFull) = true
 · rw [if_pos hc]
   have p2 := relayAll_perm t1 es1 (SetTable.grown es1.size)
   have f2 := relayAll_fits t1 es1 (SetTable.grown es1.size)
   have r2 := relayAll_rt (t := t1) es1 (SetTable.grown es1.size)
   generalize relayAll t1 es1 (SetTable.grown es1.size) = L at p2 f2 r2 ⊢
   obtain ⟨es2, t2, gave2⟩ := L
   dsimp only at p2 f2 r2 ⊢
   have z2 : es2.size < scanBound := by rw [← Array.length_toList, p2.length_eq, Array.length_toList]; exact z1
   exact wpAny_bind (hg _ _ _ (wpAny_bind (wpAny_storeSet_of ho1 rfl (wpAny_pure (h _ _ (sb1.trans (Heap.SameBut.update _ a _)) ⟨_, es2, ep + 1 + 1, t2, put_at ho1 rfl es2 t2, hex, rfl, fun e he => hes1 e (p2.mem_iff.mp he), rfl, ((p2.map _).nodup_iff).mpr nd1, z2, f2, r2.1, r2.2.trans hl⟩ (p2.map _))) (fits_of_scanBound z2))))
 · rw [if_neg hc]
   exact wpAny_pure (h _ _ sb1 ⟨_, es1, ep + 1, t1, ho1, hex, rfl, hes1, rfl, nd1, z1, f1, r1, hl⟩ (List.Perm.refl _))
theorem set_add {Q : Bool → Shared → Prop} (hS : SetI w s.heap a ns) (hb : ns.length + 1 < scanBound)
 (h : ∀ b h' t' ns', Heap.SameBut a s.heap h' → SetI w h' a ns' → ns'.Perm (if n ∈ ns then ns else n :: ns) → Q b { s with heap := h', toks := t' }) : wpAny (model prog w) A (setAdd a (.int n tk)) Q E s := by
 obtain ⟨o, es, ep, t, ho, hex, hd, hes, hm, hnd, hz, hf, rt, hl⟩ := hS
 have hlen : es.size = ns.length := by rw [← hm, List.length_map, Array.length_toList]
 have hel : ElemsOf (intKind prog w) es.toList := elems_of hes
 have hin := find_in (n := n) hes
 rw [hm] at hin
 unfold setAdd
 refine wpAny_holding (wpAny_bind ((intKind prog w).pyHash (k := n) (intKind_is _ _ _ _) ?_))
 unfold setAddHashed setAddHashedIn
 refine wpAny_holding (wpAny_bind (wpAny_setState_of (s := { s with toks := s.toks + 1 }) ho hd hf ?_))
 have hbs : byScan (Value.int n tk) es = true := byScan_of (knd := intKind prog w) rfl hz hel
 dsimp only
 rw [hbs, if_pos rfl]
 unfold setAddByScan
 refine wpAny_bind (wpAny_bind (wpAny_rule (wpAny_bind (wpAny_setScan_of (s := { s with toks := s.toks + 1 }) (knd := intKind prog w) (k := n) (intKind_is _ _ _ _) ho hd hf hel ?_))))
 cases hr : List.findIdx? (fun e => (intKind prog w).is n e.2) es.toList with
 | some j =>
  obtain ⟨hj, hp, _⟩ := List.findIdx?_eq_some_iff_getElem.mp hr
  have hn : n ∈ ns := hin.mp ⟨_, List.getElem_mem hj, hp⟩
  refine wpAny_pure (wpAny_pure (h false s.heap _ ns (Heap.SameBut.refl _ _) ⟨o, es, ep, t, ho, hex, hd, hes, hm, hnd, hz, hf, rt, hl⟩ ?_))
  rw [if_pos hn]
 | none =>
  have hn : n ∉ ns := fun z => by
   obtain ⟨e, he, hp⟩ := hin.mpr z
   have := List.findIdx?_eq_none_iff.mp hr e he
   rw [show (intKind prog w).is n e.2 = true from hp] at this; cases this
  dsimp only
  have p1 := layNew_perm t es (hashInt n) (Value.int n tk)
  have f1 := layNew_fits t es (hashInt n) (Value.int n tk)
  have r1 := layNew_rt rt es (hashInt n) (Value.int n tk)
  rw [show (intKind prog w).hash n = hashInt n from rfl]
  generalize layNew t es (hashInt n) (Value.int n tk) = L at p1 f1 r1 ⊢
  obtain ⟨es1, t1, wd, gave⟩ := L
  dsimp only at p1 f1 r1 ⊢
  rw [Array.toList_push] at p1
  have hes1 : ∀ e ∈ es1.toList, ∃ m tk, e = (hashInt m, Value.int m tk) := fun e he => by
   rcases List.mem_append.mp (p1.mem_iff.mp he) with he | he
   · exact hes e he
   · exact ⟨n, tk, List.mem_singleton.mp he⟩
  have pm : (es1.toList.map fun e => vI e.2).Perm (n :: ns) := by
   refine (p1.map _).trans ?_
   rw [List.map_append, hm]
   exact List.perm_append_comm
  have z1 : es1.size < scanBound := by
   have := pm.length_eq
   rw [List.length_map, Array.length_toList, List.length_cons] at this; omega
  have nd1 : (es1.toList.map fun e => vI e.2).Nodup := pm.nodup_iff.mpr (List.nodup_cons.mpr ⟨hn, hnd⟩)
  have hg : ∀ (b : Bool) (s₁ : Shared) (Q' : Unit → Shared → Prop), Q' () s₁ → wpAny (model prog w) A (match b with | true => rule "set.scan.the-table-gave-way" | false => pure ()) Q' E s₁ := fun b s₁ Q' hq => by cases b <;> first | exact wpAny_pure hq | exact wpAny_rule hq
  refine wpAny_bind (hg _ _ _ ?_)
  have fin := fun (R : Option Bool → Shared → Prop) hR => set_tail (R := R) (prog := prog) (A := A) (E := E) (s := { s with toks := s.toks + 1 }) (wd := wd) hg ho hex hd hes1 nd1 z1 f1 r1.1 (r1.2.trans hl) hR
  have hend : ∀ h' ns', Heap.SameBut a s.heap h' → SetI w h' a ns' → ns'.Perm (es1.toList.map fun e => vI e.2) → Q true { s with heap := h', toks := s.toks + 1 } := fun h' ns' sb si pe => h true h' _ ns' sb si (by rw [if_neg hn]; exact pe.trans pm)
  split
  · exact wpAny_bind (wpAny_pure (fin _ fun h' ns' sb si pe => wpAny_pure (hend h' ns' sb si pe)))
  · exact wpAny_bind (wpAny_pure (fin _ fun h' ns' sb si pe => wpAny_pure (hend h' ns' sb si pe)))
end
namespace SX
theorem owner_it : Manifest.owners.lookup (String.ofList ("rotareti_tes".toList).reverse) = some Manifest.sig_set_iterator := by kernel_rfl
theorem slot_next : Slot "set_iterator" "__next__" "set_iterator.__next__" := .of (owner := "set_iterator") (n := "__next__") (by rw [typeLookup_type, builtinLookup_eq_fast]; kernel_rfl) (by decide +kernel) (by decide +kernel) (by decide +kernel) (by first | exact .inl (by decide +kernel) | exact .inr (by decide +kernel)) (by rw [isSubtype_type]; kernel_rfl)
theorem slot_iter : Slot "set_iterator" "__iter__" "set_iterator.__iter__" := .of (owner := "set_iterator") (n := "__iter__") (by rw [typeLookup_type, builtinLookup_eq_fast]; kernel_rfl) (by decide +kernel) (by decide +kernel) (by decide +kernel) (by first | exact .inl (by decide +kernel) | exact .inr (by decide +kernel)) (by rw [isSubtype_type]; kernel_rfl)
theorem entry_next : entryFor table "set_iterator.__next__" = some Builtin.«set_iterator.__next__» := entryFor_of_tree (by kernel_rfl)
theorem entry_iter : entryFor table "set_iterator.__iter__" = some Builtin.«dict_keyiterator.__iter__» := entryFor_alias (id' := "dict_keyiterator.__iter__") (by kernel_rfl) rfl (by decide +kernel) (by kernel_rfl)
theorem entry_siter : entryFor table "set.__iter__" = some Builtin.«frozenset.__iter__» := entryFor_alias (id' := "frozenset.__iter__") (by kernel_rfl) rfl (by decide +kernel) (by kernel_rfl)
theorem args_next (a : Value) : argsOk "set_iterator.__next__" ⟨[a], []⟩ := by
 unfold argsOk; rw [signature?_of (id := "set_iterator.__next__") (n := "__txen__".toList) (o := "rotareti_tes".toList) (by kernel_rfl) owner_it]; kernel_rfl
theorem args_iter (a : Value) : argsOk "set_iterator.__iter__" ⟨[a], []⟩ := by
 unfold argsOk; rw [signature?_of (id := "set_iterator.__iter__") (n := "__reti__".toList) (o := "rotareti_tes".toList) (by kernel_rfl) owner_it]; kernel_rfl
end SX
theorem erase_perm {α : Type} : ∀ (l : List α) (i : Nat) (x : α), l[i]? = some x → (x :: l.eraseIdx i).Perm l
 | [], i, x, h => by simp at h
 | y :: l, 0, x, h => by simp at h; subst h; simp
 | y :: l, i + 1, x, h => by
  have := erase_perm l i x (by simpa using h)
  rw [List.eraseIdx_cons_succ]
  exact (List.Perm.swap y x _).trans (this.cons y)
theorem pick_go {α : Type} (next : Nat → Nat) : ∀ (fuel k : Nat) (left : List α) (out : Array α), left.length ≤ fuel → (pickOrder.go next fuel k left out).toList.Perm (out.toList ++ left)
 | 0, k, left, out, h => by
  have : left = [] := List.length_eq_zero_iff.mp (by omega)
  subst this; unfold pickOrder.go; simp
 | fuel + 1, k, left, out, h => by
  unfold pickOrder.go
  cases left with
  | nil => simp
  | cons y l =>
   have hlt : next k % (y :: l).length < (y :: l).length := Nat.mod_lt _ (by simp)
   have e := List.getElem?_eq_getElem hlt
   rw [e]
   dsimp only
   have p := erase_perm _ _ _ e
   have hl : ((y :: l).eraseIdx (next k % (y :: l).length)).length ≤ fuel := by
    have := p.length_eq
    rw [List.length_cons] at this
    omega
   refine (pick_go next fuel (k + 1) _ _ hl).trans ?_
   rw [Array.toList_push, List.append_assoc]
   exact p.append_left _
theorem pick_perm {α : Type} (next : Nat → Nat) (xs : Array α) : (pickOrder next xs).toList.Perm xs.toList := by
 have := pick_go next xs.size 0 xs.toList #[] (by simp)
 simp only [List.nil_append] at this
 exact this
section
variable {prog : Program} {w : World} {A : Around} {E : Value → Shared → Prop} {s : Shared} {a I : Addr} {es : Array (Int × Value)} {ep : Nat} {t : SetTable}
theorem draw_order {α : Type} : ∀ (n : Nat) (xs : List α) {s : Shared} {Q : List α → Shared → Prop}, xs.length ≤ n → (∀ ys d, ys.Perm xs → Q ys { s with drawn := d }) → wpAny (model prog w) A (drawOrder n xs) Q E s
 | 0, xs, s, Q, h, q => by
  have : xs = [] := List.length_eq_zero_iff.mp (by omega)
  subst this
  exact wpAny_pure (q [] s.drawn (List.Perm.refl _))
 | n + 1, [], s, Q, h, q => wpAny_pure (q [] s.drawn (List.Perm.refl _))
 | n + 1, x :: l, s, Q, h, q => by
  unfold drawOrder
  intro Γ p hΓ
  show Sem.wp _ Γ (Sem.bind (Sem.choose .order (x :: l).length .pure) _) _ _ p s
  rw [Sem.wp_bind, Sem.wp_choose]
  refine ⟨by simp, ?_⟩
  rw [Sem.wp_pure]
  have hlt : w.draws .order (s.drawn.get .order) % (x :: l).length < (x :: l).length := Nat.mod_lt _ (by simp)
  have e := List.getElem?_eq_getElem hlt
  show Sem.wp _ Γ (match (x :: l)[w.draws .order (s.drawn.get .order) % (x :: l).length]? with | some y => _ | none => _) _ _ p _
  rw [e]
  have pe := erase_perm _ _ _ e
  have hl : ((x :: l).eraseIdx (w.draws .order (s.drawn.get .order) % (x :: l).length)).length ≤ n := by
   have := pe.length_eq
   rw [List.length_cons] at this
   omega
  exact (wpAny_bind (draw_order n _ (s := { s with drawn := s.drawn.bump .order }) hl fun ys d pp => wpAny_pure (q _ d ((pp.cons _).trans pe)))) Γ p hΓ
def SA (h : Heap) (a : Addr) (es : Array (Int × Value)) (ep : Nat) (t : SetTable) : Prop := ∃ o, h.get? a = some o ∧ o.ExactSet ∧ o.data = .set es ep t
theorem SA.at {h h' : Heap} (x : SA h a es ep t) (e : ∀ o, h.get? a = some o → h'.get? a = some o) : SA h' a es ep t := let ⟨o, ho, r⟩ := x; ⟨o, e _ ho, r⟩
def SIt (h : Heap) (I a : Addr) (n ep : Nat) (f : Value) (i : Nat) : Prop := h.get? I = some { cls := .type "set_iterator", data := .fields #[f, .int i 0, .ref a, .int n 0, .int ep 0] }
theorem next_text {slot i : Nat} {Q : Option (Value × Nat) → Shared → Prop} (hb : byT w = true) (hs : SA s.heap a es ep t) (hf : t.fits es.size = true) (h : Q (((pickOrder (w.params.setOrder a ep) es)[i]?).map fun e => (e.2, slot)) s) : wpAny (model prog w) A (setNext a slot i ep) Q E s := by
 obtain ⟨o, ho, _, hd⟩ := hs
 unfold setNext setsByText
 refine wpAny_bind (wpAny_setState_of ho hd hf ?_)
 dsimp only
 refine wpAny_bind (wpAny_bind (wpAny_askSetting (wpAny_pure ?_)))
 dsimp only
 rw [if_pos (show (model prog w).w.params.followText "set-order" = true from hb), if_neg (by simp)]
 unfold setWalk setsByText
 refine wpAny_bind (wpAny_bind (wpAny_setState_of ho hd hf ?_))
 dsimp only
 refine wpAny_bind (wpAny_bind (wpAny_askSetting (wpAny_pure ?_)))
 dsimp only
 rw [if_pos (show (model prog w).w.params.followText "set-order" = true from hb)]
 exact wpAny_bind (wpAny_askSetting (wpAny_pure (wpAny_pure h)))
theorem next_place {slot i : Nat} {Q : Option (Value × Nat) → Shared → Prop} (hb : byT w = false) (hl : t.led = true) (hp : (!t.plain && decide (es.size > 1)) = false) (hs : SA s.heap a es ep t) (hf : t.fits es.size = true)
 (h : Q (match es[SetTable.below t.place slot]?, t.place[SetTable.below t.place slot]? with | some (_, x), some j => some (x, j + 1) | _, _ => none) s) : wpAny (model prog w) A (setNext a slot i ep) Q E s := by
 obtain ⟨o, ho, _, hd⟩ := hs
 unfold setNext setsByText
 refine wpAny_bind (wpAny_setState_of ho hd hf ?_)
 dsimp only
 refine wpAny_bind (wpAny_bind (wpAny_askSetting (wpAny_pure ?_)))
 dsimp only
 rw [if_neg (show ¬ (model prog w).w.params.followText "set-order" = true by rw [show (model prog w).w.params.followText "set-order" = false from hb]; decide)]
 refine wpAny_ite_split (fun z => absurd z (by show ¬ (!t.plain && decide (es.size > 1)) = true; rw [hp]; decide)) (fun _ => ?_)
 refine wpAny_bind ?_
 show wpAny _ _ (if (!t.led && !es.isEmpty) = true then _ else _) _ _ _
 rw [if_neg (by rw [hl]; simp)]
 exact wpAny_pure (wpAny_pure h)
end
section
variable {prog : Program} {w : World} {A : Around} {E : Value → Shared → Prop} {s : Shared} {a I : Addr} {es : Array (Int × Value)} {ep : Nat} {t : SetTable}
theorem sit_item {slot i nx : Nat} {x : Value} {Q : Option Value → Shared → Prop} (hit : SIt s.heap I a es.size ep (.int slot 0) i) (hs : SA s.heap a es ep t) (hf : t.fits es.size = true)
 (hN : ∀ (A : Around) (E : Value → Shared → Prop) (Q : Option (Value × Nat) → Shared → Prop), Q (some (x, nx)) s → wpAny (model prog w) A (setNext a slot i ep) Q E s)
 (hQ : ∀ h', SIt h' I a es.size ep (.int nx 0) (i + 1) → Heap.SameBut I s.heap h' → Q (some x) { s with heap := h' }) : wpAny (model prog w) A (pyNext (.ref I)) Q E s := by
 obtain ⟨o, ho, hex, hd⟩ := id hs
 have h1 : s.heap.get? I = _ := hit
 have hT : s.TypeIs (.ref I) "set_iterator" := ⟨_, h1, rfl⟩
 have hN' : ∀ (A : Around) (E : Value → Shared → Prop) (Q : Option (Value × Nat) → Shared → Prop), Q (some (x, nx)) s → wpAny (model prog w) A (setNext a (slot : Int).toNat (i : Int).toNat (ep : Int).toNat) Q E s := fun A E Q h => hN A E Q h
 refine wpAny_bind (wpAny_attempt (wpAny_callSpecial?_slot hT SX.slot_next (wpAny_call_entry SX.slot_next hT SX.entry_next ?_ (SX.args_next _))))
 wp_walk using wpAny_fieldsOf h1 rfl, wpAny_setEntries_of ho hd hf, hN' _ _ _
 have u1 := Heap.get?_update_self (Obj.mapFields (·.setIfInBounds 0 (rawInt (nx : Int)))) h1 rfl
 have u2 := Heap.get?_update_self (Obj.mapFields (·.setIfInBounds 1 (rawInt ((i : Int) + 1)))) u1 rfl
 exact ⟨_, rfl, wpAny_pure (hQ _ u2 ((Heap.SameBut.update ..).trans (Heap.SameBut.update ..)))⟩
theorem sit_end {slot i : Nat} {Q : Option Value → Shared → Prop} (hh : A.handled = none) (hit : SIt s.heap I a es.size ep (.int slot 0) i) (hs : SA s.heap a es ep t) (hf : t.fits es.size = true)
 (hN : ∀ (A : Around) (E : Value → Shared → Prop) (Q : Option (Value × Nat) → Shared → Prop), Q none s → wpAny (model prog w) A (setNext a slot i ep) Q E s)
 (hQ : ∀ h', Heap.ExtBut I s.heap h' → Q none { s with heap := h' }) : wpAny (model prog w) A (pyNext (.ref I)) Q E s := by
 obtain ⟨o, ho, hex, hd⟩ := id hs
 have h1 : s.heap.get? I = _ := hit
 have hT : s.TypeIs (.ref I) "set_iterator" := ⟨_, h1, rfl⟩
 have hN' : ∀ (A : Around) (E : Value → Shared → Prop) (Q : Option (Value × Nat) → Shared → Prop), Q none s → wpAny (model prog w) A (setNext a (slot : Int).toNat (i : Int).toNat (ep : Int).toNat) Q E s := fun A E Q h => hN A E Q h
 refine wpAny_bind (wpAny_attempt (wpAny_callSpecial?_slot hT SX.slot_next (wpAny_call_entry SX.slot_next hT SX.entry_next ?_ (SX.args_next _))))
 wp_walk using wpAny_fieldsOf h1 rfl, wpAny_setEntries_of ho hd hf, hN' _ _ _
 refine wpAny_raiseNew_none hh (wpAny_bind (wpAny_isInstance (b := true) ⟨_, Heap.get?_push_size _ rfl, rfl⟩ isSubtype_stop (wpAny_pure (hQ _ fun b o hb e => ?_))))
 exact Heap.get?_push_of_some _ (Heap.get?_push_of_some _ (by rw [Heap.get?_update_other _ _ hb.symm]; exact e))
theorem sit_itemD {tp : Addr} {ds : List Nat} {i d : Nat} {e : Int × Value} {c : Nat} {Q : Option Value → Shared → Prop} (hit : SIt s.heap I a es.size ep (.ref tp) i) (hs : SA s.heap a es ep t) (hf : t.fits es.size = true) (htp : s.heap.get? tp = some (seqObj "tuple" (ds.map fun (d : Nat) => rawInt d).toArray c)) (hd' : ds[i]? = some d) (he : es[d]? = some e)
 (hQ : ∀ h', SIt h' I a es.size ep (.ref tp) (i + 1) → Heap.SameBut I s.heap h' → Q (some e.2) { s with heap := h' }) : wpAny (model prog w) A (pyNext (.ref I)) Q E s := by
 obtain ⟨o, ho, hex, hd⟩ := id hs
 have h1 : s.heap.get? I = _ := hit
 have hT : s.TypeIs (.ref I) "set_iterator" := ⟨_, h1, rfl⟩
 refine wpAny_bind (wpAny_attempt (wpAny_callSpecial?_slot hT SX.slot_next (wpAny_call_entry SX.slot_next hT SX.entry_next ?_ (SX.args_next _))))
 have hdr : ∀ (A : Around) (E : Value → Shared → Prop) (Q : Value → Shared → Prop), Q e.2 s → wpAny (model prog w) A (setNextDrawn a (d : Int).toNat (ep : Int).toNat) Q E s := fun A E Q h => by
  unfold setNextDrawn
  refine wpAny_bind (wpAny_setState_of ho hd hf ?_)
  dsimp only
  rw [if_neg (by simp)]
  simp only [Int.toNat_natCast, he]
  exact wpAny_pure h
 have hpl : ((ds.map fun (d : Nat) => rawInt d).toArray)[(i : Int).toNat]? = some (Value.int (d : Int) 0) := by
  rw [Int.toNat_natCast, List.getElem?_toArray, List.getElem?_map, hd']; rfl
 wp_walk using wpAny_fieldsOf h1 rfl, wpAny_setEntries_of ho hd hf
 rw [hpl]
 dsimp only
 wp_walk using hdr _ _ _
 have u2 := Heap.get?_update_self (Obj.mapFields (·.setIfInBounds 1 (rawInt ((i : Int) + 1)))) h1 rfl
 exact ⟨_, rfl, wpAny_pure (hQ _ u2 (Heap.SameBut.update ..))⟩
theorem sit_endD {tp : Addr} {ds : List Nat} {i : Nat} {c : Nat} {Q : Option Value → Shared → Prop} (hh : A.handled = none) (hit : SIt s.heap I a es.size ep (.ref tp) i) (hs : SA s.heap a es ep t) (hf : t.fits es.size = true) (htp : s.heap.get? tp = some (seqObj "tuple" (ds.map fun (d : Nat) => rawInt d).toArray c)) (hd' : ds[i]? = none)
 (hQ : ∀ h', Heap.ExtBut I s.heap h' → Q none { s with heap := h' }) : wpAny (model prog w) A (pyNext (.ref I)) Q E s := by
 obtain ⟨o, ho, hex, hd⟩ := id hs
 have h1 : s.heap.get? I = _ := hit
 have hT : s.TypeIs (.ref I) "set_iterator" := ⟨_, h1, rfl⟩
 refine wpAny_bind (wpAny_attempt (wpAny_callSpecial?_slot hT SX.slot_next (wpAny_call_entry SX.slot_next hT SX.entry_next ?_ (SX.args_next _))))
 have hpl : ((ds.map fun (d : Nat) => rawInt d).toArray)[(i : Int).toNat]? = none := by
  rw [Int.toNat_natCast, List.getElem?_toArray, List.getElem?_map, hd']; rfl
 wp_walk using wpAny_fieldsOf h1 rfl, wpAny_setEntries_of ho hd hf
 rw [hpl]
 dsimp only
 wp_walk
 refine wpAny_raiseNew_none hh (wpAny_bind (wpAny_isInstance (b := true) ⟨_, Heap.get?_push_size _ rfl, rfl⟩ isSubtype_stop (wpAny_pure (hQ _ fun b o hb e => ?_))))
 exact Heap.get?_push_of_some _ (Heap.get?_push_of_some _ (by rw [Heap.get?_update_other _ _ hb.symm, Heap.get?_update_other _ _ hb.symm]; exact e))
theorem sit_self {f : Value} {i n : Nat} {Q : Value → Shared → Prop} (hit : SIt s.heap I a n ep f i) (h : Q (.ref I) s) : wpAny (model prog w) A (pyIter (.ref I)) Q E s := by
 have hT : s.TypeIs (.ref I) "set_iterator" := ⟨_, hit, rfl⟩
 exact wpAny_pyIter_slot hT SX.slot_iter (wpAny_call_entry SX.slot_iter hT SX.entry_iter (wpAny_pure ⟨_, rfl, "set_iterator", _, hT, SX.slot_next.lookup, h⟩) (SX.args_iter _))
end
section
variable {prog : Program} {w : World} {A : Around} {E : Value → Shared → Prop} {s : Shared} {a I : Addr} {es : Array (Int × Value)} {ep : Nat} {t : SetTable}
theorem sa_walkT (hh : A.handled = none) (hne : a ≠ I) (hb : byT w = true) (hf : t.fits es.size = true) : Walks prog w A I [I, a] [I] ((pickOrder (w.params.setOrder a ep) es).toList.map (·.2)).length
 (fun i v => ((pickOrder (w.params.setOrder a ep) es).toList.map (·.2))[i]? = some v) (fun i h => SIt h I a es.size ep (.int (0 : Nat) 0) i ∧ SA h a es ep t) where
 sub := fun b hb => by rw [List.mem_singleton.mp hb]; exact .head _
 frame := fun _ _ _ ⟨x, y⟩ hk => ⟨hk I (by simp) _ x, y.at fun o e => hk a (by simp) o e⟩
 item := fun i s Q E hi st hQ => by
  rw [List.length_map, Array.length_toList] at hi
  refine sit_item st.1 st.2 hf (x := ((pickOrder (w.params.setOrder a ep) es)[i]).2) (nx := 0) (fun A E Q h => next_text hb st.2 hf ?_) fun h' hit' hs' => ?_
  · rw [Array.getElem?_eq_getElem hi]; exact h
  · refine hQ _ h' s.toks ?_ ⟨hit', st.2.at fun o e => hs'.extBut a o hne e⟩ fun b o hb e => hs'.extBut b o (fun h => hb (by simp [h])) e
    rw [List.getElem?_map, Array.getElem?_toList, Array.getElem?_eq_getElem hi]; rfl
 done := fun s Q E st hQ => by
  rw [List.length_map, Array.length_toList] at st
  refine sit_end hh st.1 st.2 hf (fun A E Q h => next_text hb st.2 hf ?_) fun h' he' => hQ h' s.toks fun b o hb e => he' b o (fun h => hb (by simp [h])) e
  rw [Array.getElem?_eq_none (Nat.le_refl _)]; exact h
 self := fun _ _ _ _ ⟨x, _⟩ hQ => sit_self x hQ
def slotAt (p : Array Nat) : Nat → Nat
 | 0 => 0
 | i + 1 => p.getD i 0 + 1
theorem below_slot {p : Array Nat} (hs : p.toList.Pairwise (· < ·)) {i : Nat} (hi : i ≤ p.size) : SetTable.below p (slotAt p i) = i := by
 cases i with
 | zero => exact below_zero hs
 | succ i =>
  have e : p[i]? = some p[i] := Array.getElem?_eq_getElem (by omega)
  show SetTable.below p (p.getD i 0 + 1) = _
  rw [show p.getD i 0 = p[i] by simp [Array.getD, show i < p.size by omega]]
  exact below_next hs e
theorem sa_walkP (hh : A.handled = none) (hne : a ≠ I) (hb : byT w = false) (hl : t.led = true) (hp : (!t.plain && decide (es.size > 1)) = false) (rt : RT t) (hf : t.fits es.size = true) : Walks prog w A I [I, a] [I] (es.toList.map (·.2)).length
 (fun i v => (es.toList.map (·.2))[i]? = some v) (fun i h => SIt h I a es.size ep (.int (slotAt t.place i) 0) i ∧ SA h a es ep t) where
 sub := fun b hb => by rw [List.mem_singleton.mp hb]; exact .head _
 frame := fun _ _ _ ⟨x, y⟩ hk => ⟨hk I (by simp) _ x, y.at fun o e => hk a (by simp) o e⟩
 item := fun i s Q E hi st hQ => by
  rw [List.length_map, Array.length_toList] at hi
  have hz : t.place.size = es.size := by
   simp only [SetTable.fits, Bool.and_eq_true, beq_iff_eq] at hf; exact hf.1
  have hi' : i < t.place.size := by omega
  refine sit_item st.1 st.2 hf (x := es[i].2) (nx := slotAt t.place (i + 1)) (fun A E Q h => next_place hb hl hp st.2 hf ?_) fun h' hit' hs' => ?_
  · rw [below_slot rt.2 (by omega), Array.getElem?_eq_getElem hi, Array.getElem?_eq_getElem hi']
    show Q (some (es[i].2, t.place[i] + 1)) _
    rw [show t.place[i] + 1 = slotAt t.place (i + 1) by show _ = t.place.getD i 0 + 1; simp [Array.getD, hi']]
    exact h
  · refine hQ _ h' s.toks ?_ ⟨hit', st.2.at fun o e => hs'.extBut a o hne e⟩ fun b o hb e => hs'.extBut b o (fun h => hb (by simp [h])) e
    rw [List.getElem?_map, Array.getElem?_toList, Array.getElem?_eq_getElem hi]; rfl
 done := fun s Q E st hQ => by
  rw [List.length_map, Array.length_toList] at st
  have hz : t.place.size = es.size := by
   simp only [SetTable.fits, Bool.and_eq_true, beq_iff_eq] at hf; exact hf.1
  refine sit_end hh st.1 st.2 hf (fun A E Q h => next_place hb hl hp st.2 hf ?_) fun h' he' => hQ h' s.toks fun b o hb e => he' b o (fun h => hb (by simp [h])) e
  rw [below_slot rt.2 (by omega), Array.getElem?_eq_none (Nat.le_refl _)]; exact h
 self := fun _ _ _ _ ⟨x, _⟩ hQ => sit_self x hQ
theorem sa_walkD {tp : Addr} {ds : List Nat} {c : Nat} (hh : A.handled = none) (hne : a ≠ I) (hnt : tp ≠ I) (hds : ∀ d ∈ ds, d < es.size) (hf : t.fits es.size = true) : Walks prog w A I [I, a, tp] [I] (ds.map fun d => (es.getD d (0, .none)).2).length
 (fun i v => (ds.map fun d => (es.getD d (0, .none)).2)[i]? = some v) (fun i h => SIt h I a es.size ep (.ref tp) i ∧ SA h a es ep t ∧ h.get? tp = some (seqObj "tuple" (ds.map fun (d : Nat) => rawInt d).toArray c)) where
 sub := fun b hb => by rw [List.mem_singleton.mp hb]; exact .head _
 frame := fun _ _ _ ⟨x, y, z⟩ hk => ⟨hk I (by simp) _ x, y.at fun o e => hk a (by simp) o e, hk tp (by simp) _ z⟩
 item := fun i s Q E hi st hQ => by
  rw [List.length_map] at hi
  have e1 : ds[i]? = some ds[i] := List.getElem?_eq_getElem hi
  have hd := hds _ (List.getElem_mem hi)
  refine sit_itemD st.1 st.2.1 hf st.2.2 e1 (Array.getElem?_eq_getElem hd) fun h' hit' hs' => ?_
  refine hQ _ h' s.toks ?_ ⟨hit', st.2.1.at fun o e => hs'.extBut a o hne e, hs'.extBut tp _ hnt st.2.2⟩ fun b o hb e => hs'.extBut b o (fun h => hb (by simp [h])) e
  rw [List.getElem?_map, e1]; simp [Array.getD, hd]
 done := fun s Q E st hQ => by
  rw [List.length_map] at st
  exact sit_endD hh st.1 st.2.1 hf st.2.2 (by simp) fun h' he' => hQ h' s.toks fun b o hb e => he' b o (fun h => hb (by simp [h])) e
 self := fun _ _ _ _ ⟨x, _⟩ hQ => sit_self x hQ
theorem ints_of : ∀ {l : List (Int × Value)}, (∀ e ∈ l, ∃ n tk, e = (hashInt n, Value.int n tk)) → IntsAre (l.map (·.2)) (l.map fun e => vI e.2)
 | [], _ => .nil
 | e :: l, h => by
  obtain ⟨n, tk, rfl⟩ := h e (.head _)
  exact .cons n tk (ints_of fun x hx => h x (.tail _ hx))
theorem set_iter {ns : List Int} {Q : Value → Shared → Prop} (hS : SetI w s.heap a ns)
 (h : ∀ (I : Addr) (h1 : Heap) (d1 : _) (vs : List Value) (os : List Int) (fp : List Addr) (St : Nat → Heap → Prop), s.heap.objs.size ≤ I → (∀ b o, s.heap.get? b = some o → h1.get? b = some o) → os.Perm ns → IntsAre vs os → (∀ b ∈ fp, b = a ∨ s.heap.objs.size ≤ b) →
  (∀ A : Around, A.handled = none → Walks prog w A I fp [I] vs.length (fun i v => vs[i]? = some v) St) → St 0 h1 → Q (.ref I) { s with heap := h1, drawn := d1 }) : wpAny (model prog w) A (pyIter (.ref a)) Q E s := by
 obtain ⟨o, es, ep, t, ho, hex, hd, hes, hm, hnd, hz, hf, rt, hl⟩ := hS
 have hT : s.TypeIs (.ref a) "set" := ⟨o, ho, hex.1⟩
 have hlt : a < s.heap.objs.size := Heap.lt_size ho
 have hsa : SA s.heap a es ep t := ⟨o, ho, hex, hd⟩
 refine wpAny_pyIter_slot hT F.slot_set_iter (wpAny_call_entry F.slot_set_iter hT SX.entry_siter ?_ (F.args_set_iter_1 _))
 unfold Builtin.«frozenset.__iter__»
 have sz : ∀ (A : Around) (E : Value → Shared → Prop) (Q : Nat → Shared → Prop), Q es.size s → wpAny (model prog w) A (Builtin.Frozenset.sizeOf a) Q E s := fun A E Q q => by
  unfold Builtin.Frozenset.sizeOf
  exact wpAny_bind (wpAny_setEntries_of ho hd hf (wpAny_pure q))
 have dr : ∀ (A : Around) (E : Value → Shared → Prop) (Q : Bool → Shared → Prop), Q (!byT w && (!t.plain && decide (es.size > 1))) s → wpAny (model prog w) A (setDrawn a) Q E s := fun A E Q q => by
  unfold setDrawn setsByText
  refine wpAny_bind (wpAny_setState_of ho hd hf ?_)
  exact wpAny_bind (wpAny_bind (wpAny_askSetting (wpAny_pure (wpAny_pure q))))
 have epo : ∀ (s' : Shared) (A : Around) (E : Value → Shared → Prop) (Q : Nat → Shared → Prop), s'.heap.get? a = some o → Q ep s' → wpAny (model prog w) A (setEpoch a) Q E s' := fun s' A E Q ho' q => wpAny_setEpoch_of ho' hd hf q
 wp_walk using sz _ _ _, dr _ _ _
 have pdl : ∀ ds : List Nat, ds.Perm (List.range es.size) → ∀ d ∈ ds, d < es.size := fun ds p d hd => List.mem_range.mp (p.mem_iff.mp hd)
 have pvs : ∀ ds : List Nat, ds.Perm (List.range es.size) → (ds.map fun d => es.getD d (0, Value.none)).Perm es.toList := fun ds p => by
  refine (p.map _).trans ?_
  rw [show (List.range es.size).map (fun d => es.getD d (0, Value.none)) = es.toList from ?_]
  apply List.ext_getElem
  · simp
  · intro i h1 h2
    simp only [List.length_map, List.length_range] at h1
    simp [Array.getD, h1]
 have cls : ∀ l : List (Int × Value), l.Perm es.toList → (l.map fun e => vI e.2).Perm ns ∧ IntsAre (l.map (·.2)) (l.map fun e => vI e.2) := fun l p => ⟨hm ▸ p.map _, ints_of fun e he => hes e (p.mem_iff.mp he)⟩
 by_cases hc : (!byT w && (!t.plain && decide (es.size > 1))) = true
 · rw [if_pos hc]
   refine wpAny_bind (draw_order _ _ (by simp) fun ds d1 pd => wpAny_bind (wpAny_newTuple ?_ (by rw [List.length_map, pd.length_eq, List.length_range]; exact fits_of_scanBound hz)))
   have hoT : (s.heap.push (seqObj "tuple" (ds.map fun (i : Nat) => rawInt i).toArray 0)).get? a = some o := Heap.get?_push_of_some _ ho
   refine wpAny_bind (epo _ _ _ _ hoT (wpAny_bind (wpAny_newObj_type (wpAny_pure ?_))))
   obtain ⟨c1, c2⟩ := cls _ (pvs ds pd)
   rw [List.map_map] at c2
   refine ⟨_, rfl, "set_iterator", _, ⟨_, Heap.get?_push_size _ rfl, rfl⟩, SX.slot_next.lookup, h _ _ d1 _ _ [_, a, s.heap.objs.size] _ (by rw [Heap.size_push]; exact Nat.le_succ _) (fun b o e => Heap.get?_push_of_some _ (Heap.get?_push_of_some _ e)) c1 c2 (fun b hb => ?_) (fun A hh => sa_walkD (c := 0) (t := t) hh (by rw [Heap.size_push]; exact Nat.ne_of_lt (Nat.lt_succ_of_lt hlt)) (by rw [Heap.size_push]; exact Nat.ne_of_lt (Nat.lt_succ_self _)) (pdl ds pd) hf) ⟨Heap.get?_push_size _ rfl, hsa.at fun o e => Heap.get?_push_of_some _ (Heap.get?_push_of_some _ e), Heap.get?_push_of_some _ (Heap.get?_push_size _ rfl)⟩⟩
   rcases List.mem_cons.mp hb with z | hb
   · right; rw [z, Heap.size_push]; exact Nat.le_succ _
   · rcases List.mem_cons.mp hb with z | hb
     · exact .inl z
     · right; rw [List.mem_singleton.mp hb]; exact Nat.le_refl _
 · rw [if_neg hc]
   refine wpAny_bind (wpAny_pure (wpAny_bind (epo _ _ _ _ ho (wpAny_bind (wpAny_newObj_type (wpAny_pure ?_))))))
   have there : ∀ b ∈ [s.heap.objs.size, a], b = a ∨ s.heap.objs.size ≤ b := fun b hb => by
    rcases List.mem_cons.mp hb with z | hb
    · right; rw [z]; exact Nat.le_refl _
    · exact .inl (List.mem_singleton.mp hb)
   have hsa' := hsa.at (h' := s.heap.push { cls := .type "set_iterator", data := .fields #[rawInt 0, rawInt 0, .ref a, rawInt es.size, rawInt ep] }) fun o e => Heap.get?_push_of_some _ e
   cases hb : byT w with
   | true =>
    obtain ⟨c1, c2⟩ := cls _ (pick_perm (w.params.setOrder a ep) es)
    exact ⟨_, rfl, "set_iterator", _, ⟨_, Heap.get?_push_size _ rfl, rfl⟩, SX.slot_next.lookup, h _ _ s.drawn _ _ _ _ (Nat.le_refl _) (fun b o e => Heap.get?_push_of_some _ e) c1 c2 there (fun A hh => sa_walkT (t := t) hh (Nat.ne_of_lt hlt) hb hf) ⟨Heap.get?_push_size _ rfl, hsa'⟩⟩
   | false =>
    obtain ⟨c1, c2⟩ := cls _ (List.Perm.refl _)
    rw [hb] at hl hc
    exact ⟨_, rfl, "set_iterator", _, ⟨_, Heap.get?_push_size _ rfl, rfl⟩, SX.slot_next.lookup, h _ _ s.drawn _ _ _ _ (Nat.le_refl _) (fun b o e => Heap.get?_push_of_some _ e) c1 c2 there (fun A hh => sa_walkP (t := t) hh (Nat.ne_of_lt hlt) hb hl (by simpa using hc) rt hf) ⟨Heap.get?_push_size _ rfl, hsa'⟩⟩
end
end Br
namespace Br
open PySem PySem.Spec PySem.Calls PyProof.Rows PySem.W
section
variable {prog : Program} {w : World} {A : Around} {E : Value → Shared → Prop} {s : Shared} {a : Addr} {ns : List Int}
theorem set_hint {Q : Bool → Shared → Prop} (hT : s.TypeIs (.ref a) "set") (h : Q false s) : wpAny (model prog w) A (Builtin.List.listLengthHint (.ref a)) Q E s := by
 unfold Builtin.List.listLengthHint
 refine wpAny_bind (wpAny_specialOf hT F.slot_set_len.lookup ?_)
 generalize hid : ("set.__len__" : String) = id0
 wp_delta
 rw [show splitId id0 = some ("set", "__len__") by subst hid; decide +kernel]
 subst hid
 refine wpAny_bind (wpAny_isInstance (T := "set") (b := true) hT (by rw [isSubtype_type]; kernel_rfl) (wpAny_ite_split (fun z => absurd z (by decide)) fun _ => wpAny_ite_split (fun _ => ?_) (fun z => absurd (by decide +kernel) z)))
 exact wpAny_bind (wpAny_typeOf hT (wpAny_pure h))
theorem set_collect {R : List Value → Shared → Prop} (hh : A.handled = none) (hS : SetI w s.heap a ns) (h : ∀ h' d tk (vs : List Value) (os : List Int), (∀ b o, s.heap.get? b = some o → h'.get? b = some o) → os.Perm ns → IntsAre vs os → R vs { s with heap := h', drawn := d, toks := tk }) :
 wpAny (model prog w) A (collect (.ref a)) R E s := by
 have hlt : a < s.heap.objs.size := let ⟨_, _, _, _, e, _⟩ := hS; Heap.lt_size e
 have hn : ns.length ≤ sizeLine := by
  obtain ⟨o, es, ep, t, ho, hex, hd, hes, hm, hnd, hz, r⟩ := hS
  rw [← hm, List.length_map, Array.length_toList]; exact fits_of_scanBound hz
 unfold collect
 refine wpAny_bind (wpAny_runValue (codeAny_builtin entry_proto_collect' ?_))
 rw [Around.under_plainId PySem.F.plain_proto_collect _]
 show wpAny _ A.in1 (newList [] >>= fun l => again (.builtin "list.__iadd__" ⟨[l, .ref a], []⟩)) _ _ s
 refine wpAny_bind (wpAny_newObj_type (wpAny_pure ⟨plainId_quiet PySem.F.plain_list_iadd _, codeAny_builtin entry_list_iadd' ?_⟩))
 rw [Around.under_plainId PySem.F.plain_list_iadd _]
 generalize hS0 : s.heap.objs.size = S at *
 generalize hg : s.heap.push { cls := .type "list", data := .seq ([] : List Value).toArray } = g
 have gS : g.get? S = some { cls := .type "list", data := .seq #[] } := by rw [← hg, ← hS0]; exact Heap.get?_push_size _ rfl
 have gk : ∀ b o, s.heap.get? b = some o → g.get? b = some o := fun b o e => by rw [← hg]; exact Heap.get?_push_of_some _ e
 have gz : g.objs.size = S + 1 := by rw [← hg, Heap.size_push, hS0]
 have hSg : SetI w g a ns := hS.at fun o e => gk a o e
 have hTy : Shared.TypeIs { s with heap := g } (.ref a) "set" := let ⟨o, _, _, _, e, x, _⟩ := hSg; ⟨o, e, x.1⟩
 show wpAny _ A.in1 (Builtin.List.listExtendWith (.ref S) (.ref a) (.ref S)) _ _ _
 unfold Builtin.List.listExtendWith
 refine wpAny_bind (wpAny_typeOf hTy ?_)
 have e1 : Builtin.List.listSameRef (.ref S) (.ref a) = false := by simp [Builtin.List.listSameRef]; exact Nat.ne_of_gt hlt
 rw [if_neg (by rw [e1]; decide)]
 refine wpAny_bind (set_iter (s := { s with heap := g }) hSg fun I h1 d1 vs os fp St hI hk pe hv hfp W st => ?_)
 have hI : S + 1 ≤ I := by rw [← gz]; exact hI
 have hvl : vs.length ≤ sizeLine := by rw [hv.length, pe.length_eq]; exact hn
 have hT1 : Shared.TypeIs { s with heap := h1, drawn := d1 } (.ref a) "set" := let ⟨o, q, z⟩ := hTy; ⟨o, hk a o q, z⟩
 refine wpAny_bind (wpAny_holding (set_hint hT1 ?_))
 have hSf : S ∉ fp := fun z => by
  rcases hfp S z with e | e
  · exact Nat.ne_of_gt hlt e
  · have e : g.objs.size ≤ S := e
    rw [gz] at e; exact Nat.not_succ_le_self _ e
 have key : ∀ (h : Heap) (c tk : Nat), St 0 h → (∀ b o, b ≠ S → s.heap.get? b = some o → h.get? b = some o) → h.get? S = some { cls := .type "list", data := .seq #[] c } →
  codeAny (model prog w) A (.builtin "list.extend.loop" ⟨[.ref S, .ref I, .ref S], []⟩) (fun r s2 => r = .ok (.ret (.ref S)) ∧ ∃ h' tk acc c', s2 = { s with heap := h', drawn := d1, toks := tk } ∧ (∀ b o, s.heap.get? b = some o → h'.get? b = some o) ∧ h'.get? S = some { cls := .type "list", dict := none, data := .seq acc c', slots := #[] } ∧ acc.toList = vs) { s with heap := h, drawn := d1, toks := tk } := by
  intro h c tk hst hk' hS'
  refine codeAny_extend_loopS (W A.in1 hh).toS hvl S hSf (.ref S) vs.length 0 _ #[] c rfl (Nat.zero_le _) hst hS' (ItemsOf.nil _) fun s' acc c' hm hS2 hacc => ?_
  rw [Moved.eq_with hm]
  refine ⟨rfl, s'.heap, s'.toks, acc, c', rfl, fun b o e => ?_, hS2, ?_⟩
  · have hb : b < S := by rw [← hS0]; exact Heap.lt_size e
    exact hm.heap b o (fun z => by
     rcases List.mem_cons.mp z with z | z
     · exact Nat.ne_of_lt hb z
     · exact Nat.ne_of_lt (Nat.lt_of_lt_of_le hb (Nat.le_of_succ_le hI)) (List.mem_singleton.mp z)) (hk' b o (Nat.ne_of_lt hb) e)
  · apply List.ext_getElem?
    intro i
    rcases Nat.lt_or_ge i vs.length with z | z
    · have hi : i < acc.size := by rw [hacc.1]; exact z
      have := hacc.2 i _ (Array.getElem?_eq_getElem hi)
      rw [this, Array.getElem?_toList, Array.getElem?_eq_getElem hi]
    · rw [List.getElem?_eq_none z, List.getElem?_eq_none (by rw [Array.length_toList, hacc.1]; exact z)]
 have hS1 : h1.get? S = some { cls := .type "list", data := .seq #[] } := hk _ _ gS
 have fin : ∀ (r : Result) (s2 : Shared), (r = .ok (.ret (.ref S)) ∧ ∃ h' tk acc c', s2 = { s with heap := h', drawn := d1, toks := tk } ∧ (∀ b o, s.heap.get? b = some o → h'.get? b = some o) ∧ h'.get? S = some { cls := .type "list", dict := none, data := .seq acc c', slots := #[] } ∧ acc.toList = vs) →
  wpAny (model prog w) A (load S >>= fun o => match o.data with | .seq xs _ => pure xs.toList | _ => unsupported "internal:collect") R E s2 := by
  rintro r s2 ⟨rfl, h', tk, acc, c', rfl, k2, e2, e3⟩
  refine wpAny_bind (wpAny_load e2 (wpAny_pure ?_))
  rw [e3]
  exact h h' d1 tk vs os k2 pe hv
 refine wpAny_ite_split (fun _ => ?_) (fun _ => wpAny_pure ⟨plainId_quiet PySem.F.plain_extend_loop _, codeAny_mono (key h1 _ _ st (fun b o _ e => hk b o (gk b o e)) hS1) fun r s2 x => ?_⟩)
 · refine wpAny_bind (wpAny_rule (wpAny_bind ?_))
   show wpAny _ _ (updateSeq S (·.push .none) >>= fun _ => updateSeq S (·.pop)) _ _ _
   refine wpAny_bind (wpAny_updateSeq hS1 rfl ?_)
   have u1 := Heap.get?_update_self (Obj.mapSeq (·.push Value.none)) hS1 rfl
   refine wpAny_updateSeq (hz := by seq_fits) u1 rfl ?_
   have u2 := Heap.get?_update_self (Obj.mapSeq (·.pop)) u1 rfl
   have oth : ∀ b o, b ≠ S → h1.get? b = some o → ((h1.update S (Obj.mapSeq (·.push Value.none))).update S (Obj.mapSeq (·.pop))).get? b = some o := fun b o nb e => by rw [Heap.get?_update_other _ _ (Ne.symm nb), Heap.get?_update_other _ _ (Ne.symm nb)]; exact e
   refine wpAny_pure ⟨plainId_quiet PySem.F.plain_extend_loop _, codeAny_mono (key _ _ _ ((W A.in1 hh).frame 0 _ _ st fun b hb o e => oth b o (fun z => hSf (z ▸ hb)) e) (fun b o nb e => oth b o nb (hk b o (gk b o e))) u2) fun r s2 x => ?_⟩
   have x1 := x.1
   subst x1
   exact fin _ s2 x
 · have x1 := x.1
   subst x1
   exact fin _ s2 x
end
section
variable {prog : Program} {w : World} {A : Around} {E : Value → Shared → Prop} {s : Shared}
theorem set_loop {I S : Addr} {fp : List Addr} {n : Nat} {P : Nat → Value → Prop} {St : Nat → Heap → Prop} {R : Result → Shared → Prop} (W : Walks prog w A.in1 I fp [I] n P St) (hSf : S ∉ fp) (val : Nat → Int) (hval : ∀ i v, P i v → ∃ t, v = .int (val i) t) (hb : n + 1 < scanBound) :
 ∀ (k i : Nat) (s : Shared) (ns : List Int), n - i = k → i ≤ n → St i s.heap → SetI w s.heap S ns → ns.length ≤ i → (∀ x, x ∈ ns ↔ ∃ j, j < i ∧ val j = x) →
  (∀ h' tk ns', SetI w h' S ns' → (∀ x, x ∈ ns' ↔ ∃ j, j < n ∧ val j = x) → (∀ b o, b ≠ S → b ≠ I → s.heap.get? b = some o → h'.get? b = some o) → R (.ok (.ret .none)) { s with heap := h', toks := tk }) →
  codeAny (model prog w) A (.builtin "set.update.loop" ⟨[.ref S, .ref I], []⟩) R s := by
 have hSI : S ≠ I := fun z => hSf (z ▸ W.sub I (List.mem_singleton.mpr rfl))
 intro k
 induction k with
 | zero =>
  intro i s ns hk hi st hS hl hm hR
  obtain rfl : i = n := by omega
  refine codeAny_builtin F.entry_set_update_loop ?_
  rw [Around.under_plainId F.plain_set_update_loop _]
  refine wpAny_bind (W.done s _ _ st fun h' tk hk' => wpAny_pure (hR h' tk ns (hS.at fun o e => hk' S o (by simpa using hSI) e) hm fun b o _ hb e => hk' b o (by simpa using hb) e))
 | succ k ih =>
  intro i s ns hk hi st hS hl hm hR
  refine codeAny_builtin F.entry_set_update_loop ?_
  rw [Around.under_plainId F.plain_set_update_loop _]
  refine wpAny_bind (W.item i s _ _ (by omega) st fun v h1 tk1 hP st1 k1 => ?_)
  obtain ⟨t, rfl⟩ := hval i v hP
  refine wpAny_bind (wpAny_holding (set_add (s := { s with heap := h1, toks := tk1 }) (hS.at fun o e => k1 S o (by simpa using hSI) e) (by omega) fun b h2 t2 ns2 sb si pe => ?_))
  have l2 : ns2.length ≤ i + 1 := by
   rw [pe.length_eq]; split
   · omega
   · rw [List.length_cons]; omega
  refine wpAny_pure ⟨plainId_quiet F.plain_set_update_loop _, ih (i + 1) _ ns2 (by omega) (by omega) (W.frame _ _ _ st1 fun b hb o e => (sb.2 b (fun z => hSf (z ▸ hb))).trans e) si l2 (fun x => ?_) fun h' tk ns' si' hm' k' => hR h' tk ns' si' hm' fun b o b1 b2 e => k' b o b1 b2 ((sb.2 b b1).trans (k1 b o (by simpa using b2) e))⟩
  rw [pe.mem_iff]
  constructor
  · intro hx
    by_cases hn : val i ∈ ns
    · rw [if_pos hn] at hx
      obtain ⟨j, hj, e⟩ := (hm x).mp hx
      exact ⟨j, by omega, e⟩
    · rw [if_neg hn] at hx
      rcases List.mem_cons.mp hx with rfl | hx
      · exact ⟨i, by omega, rfl⟩
      · obtain ⟨j, hj, e⟩ := (hm x).mp hx
        exact ⟨j, by omega, e⟩
  · rintro ⟨j, hj, rfl⟩
    have hin : val j ∈ ns ∨ j = i := by
     rcases Nat.lt_or_ge j i with z | z
     · exact .inl ((hm _).mpr ⟨j, z, rfl⟩)
     · exact .inr (by omega)
    split
    · rcases hin with z | rfl
      · exact z
      · assumption
    · rcases hin with z | rfl
      · exact .tail _ z
      · exact .head _
theorem setI_new (h : Heap) (a : Addr) (ho : h.get? a = some { cls := .type "set", dict := none, data := .set #[] 0 (.fresh 0 0 (!byT w)) }) : SetI w h a [] :=
 ⟨_, #[], 0, _, ho, ⟨rfl, rfl, rfl⟩, rfl, fun e he => by simp at he, rfl, List.nodup_nil, by decide, by rfl, ⟨rfl, by show ([] : List Nat).Pairwise _; exact List.Pairwise.nil⟩, rfl⟩
theorem newSetI {Q : Value → Shared → Prop} (h : Q (.ref s.heap.objs.size) { s with heap := s.heap.push { cls := .type "set", dict := none, data := .set #[] 0 (.fresh 0 0 (!byT w)) } }) : wpAny (model prog w) A (newSet (.type "set")) Q E s := by
 unfold newSet setsByText
 refine wpAny_bind (wpAny_bind (wpAny_askSetting (wpAny_pure ?_)))
 dsimp only
 simp only [newObj]
 exact wpAny_bind (wpAny_alloc (wpAny_pure h))
theorem code_newI (a : Value) {Q₁ : Value → Shared → Prop} (h : Q₁ (.ref s.heap.objs.size) { s with heap := s.heap.push { cls := .type "set", dict := none, data := .set #[] 0 (.fresh 0 0 (!byT w)) } }) :
 codeAny (model prog w) A (.call (.builtin "set.__new__") ⟨[.type "set", a], []⟩) (wants Q₁ E) s := by
 refine codeAny_of_tree ?_
 show wpAny _ A.in1 (do checkBuiltinCall "set.__new__" ⟨[.type "set", a], []⟩; again (.builtin "set.__new__" ⟨[.type "set", a], []⟩)) _ _ s
 refine wpAny_bind (wpAny_of_eq (F.newCall_set_1 a) (wpAny_pure ⟨plainId_quiet F.plain_set_new _, codeAny_builtin F.entry_set_new ?_⟩))
 rw [Around.under_plainId F.plain_set_new _]
 unfold Builtin.«set.__new__» Builtin.Frozenset.newClass
 have hsub := sub_set_self
 wp_walk using newSetI
 exact h
end
section
variable {prog : Program} {w : World} {A : Around} {E : Value → Shared → Prop} {s : Shared}
theorem call_setG {T : String} {l : Addr} {n : Nat} {P : Nat → Value → Prop} {Q : Value → Shared → Prop} (hh : A.handled = none) (hlt : l < s.heap.objs.size) (hTy : ∀ h' : Heap, (∀ o, s.heap.get? l = some o → h'.get? l = some o) → ∃ o, h'.get? l = some o ∧ o.cls = .type T)
 (ns1 : isSubtype (.type T) (.type "set") = pure false) (ns2 : isSubtype (.type T) (.type "frozenset") = pure false) (nd : (Value.type T == Value.type "dict") = false)
 (iter : ∀ (A : Around) (E : Value → Shared → Prop) (s' : Shared) (Q : Value → Shared → Prop), (∀ o, s.heap.get? l = some o → s'.heap.get? l = some o) →
  (∀ (oI : Obj) (St : Nat → Heap → Prop), (∀ A : Around, A.handled = none → Walks prog w A s'.heap.objs.size [s'.heap.objs.size, l] [s'.heap.objs.size] n P St) → St 0 (s'.heap.push oI) → Q (.ref s'.heap.objs.size) { s' with heap := s'.heap.push oI }) → wpAny (model prog w) A (pyIter (.ref l)) Q E s')
 (val : Nat → Int) (hval : ∀ i v, P i v → ∃ t, v = .int (val i) t) (hb : n + 1 < scanBound)
 (h : ∀ h' tk ns', SetI w h' s.heap.objs.size ns' → (∀ x, x ∈ ns' ↔ ∃ j, j < n ∧ val j = x) → (∀ b o, s.heap.get? b = some o → h'.get? b = some o) → Q (.ref s.heap.objs.size) { s with heap := h', toks := tk }) :
 wpAny (model prog w) A (call (.type "set") [.ref l]) Q E s := by
 obtain ⟨c, tl, hmro⟩ := F.called_set.mro
 have hmade := F.called_set.made
 have hsub := F.called_set.sub
 have h1 := F.called_set.notType
 have h2 := F.called_set.canCreate
 have hct := F.typeCall_set_1 (.ref l)
 refine wpAny_call (codeAny_of_tree ?_)
 show wpAny _ _ (callAny (.type "set") _) _ _ _
 refine wpAny_pure ⟨Code.quiet_builtin _ (by decide +kernel), codeAny_builtin F.entry_type_call ?_⟩
 rw [Around.under_plain (weight_type_call_type "set" [.ref l] []) rfl]
 repeat (any_goals (first | assumption | wp_step))
 generalize hS0 : s.heap.objs.size = S at *
 generalize hg : s.heap.push { cls := .type "set", dict := none, data := .set #[] 0 (.fresh 0 0 (!byT w)) } = g
 have gS : g.get? S = some { cls := .type "set", dict := none, data := .set #[] 0 (.fresh 0 0 (!byT w)) } := by rw [← hg, ← hS0]; exact Heap.get?_push_size _ rfl
 have gk : ∀ b o, s.heap.get? b = some o → g.get? b = some o := fun b o e => by rw [← hg]; exact Heap.get?_push_of_some _ e
 have gz : g.objs.size = S + 1 := by rw [← hg, Heap.size_push, hS0]
 refine codeAny_mono (code_newI (.ref l) (E := E) (Q₁ := fun obj s₁ => obj = .ref S ∧ s₁ = { s with heap := g }) ⟨by rw [hS0], by rw [hg]⟩) fun r s₁ hr => ?_
 cases r with
 | error e => exact hr
 | ok fl =>
  cases fl with
  | ret obj =>
   obtain ⟨rfl, rfl⟩ := hr
   have hT : Shared.TypeIs { s with heap := g } (.ref S) "set" := ⟨_, gS, rfl⟩
   have hli := F.called_set.init.lookup
   have hbi := F.called_set.init.bind (.ref S)
   repeat (any_goals (first | assumption | wp_step))
   refine codeAny_mono (codeAny_call_builtin (R := wants (fun r s₂ => r = .none ∧ ∃ h' tk ns', s₂ = { s with heap := h', toks := tk } ∧ SetI w h' S ns' ∧ (∀ x, x ∈ ns' ↔ ∃ j, j < n ∧ val j = x) ∧ (∀ b o, s.heap.get? b = some o → h'.get? b = some o)) E) F.called_set.init.plain F.entry_set_init (check_set_init_1 hT ?_)) fun r₂ s₂ hr₂ => ?_
   · obtain ⟨ol, hol, hcl⟩ := hTy g fun o e => gk l o e
     have hTl : Shared.TypeIs { s with heap := g } (.ref l) T := ⟨ol, hol, hcl⟩
     unfold Builtin.«set.__init__» noKeywords Builtin.Frozenset.updateFrom
     generalize hPI : pyIter = PI
     wp_walk
     subst hPI
     have fin : ∀ (oI : Obj) (St : Nat → Heap → Prop), (∀ A : Around, A.handled = none → Walks prog w A g.objs.size [g.objs.size, l] [g.objs.size] n P St) → St 0 (g.push oI) → codeAny (model prog w) A.in1.in1 (.builtin "set.update.loop" ⟨[.ref S, .ref g.objs.size], []⟩) (fun r s₂ => r = .ok (.ret .none) ∧ ∃ h' tk ns', s₂ = { s with heap := h', toks := tk } ∧ SetI w h' S ns' ∧ (∀ x, x ∈ ns' ↔ ∃ j, j < n ∧ val j = x) ∧ (∀ b o, s.heap.get? b = some o → h'.get? b = some o)) { s with heap := g.push oI } := fun oI St W st => by
      refine set_loop (W A.in1.in1.in1 hh) (S := S) (fun z => ?_) val hval hb n 0 _ [] (by omega) (by omega) st (setI_new _ _ (Heap.get?_push_of_some _ gS)) (Nat.le_refl _) (fun x => ⟨fun z => (nomatch z), fun ⟨j, z, _⟩ => absurd z (Nat.not_lt_zero _)⟩) fun h' tk ns' si hm k => ⟨rfl, h', tk, ns', rfl, si, hm, fun b o e => k b o ?_ ?_ (Heap.get?_push_of_some _ (gk b o e))⟩
      · rcases List.mem_cons.mp z with z | z
        · rw [gz] at z; exact Nat.ne_of_lt (Nat.lt_succ_self S) z
        · exact Nat.ne_of_gt hlt (List.mem_singleton.mp z)
      · rw [← hS0]; exact Nat.ne_of_lt (Heap.lt_size e)
      · rw [gz, ← hS0]; exact Nat.ne_of_lt (Nat.lt_succ_of_lt (Heap.lt_size e))
     refine iter _ _ { s with heap := g } _ (fun o e => gk l o e) fun oI St W st => wpAny_bind (wpAny_runValue (codeAny_mono (fin oI St W st) fun r s₂ x => ?_))
     obtain ⟨rfl, h', tk, ns', rfl, x1, x2, x3⟩ := x
     exact wpAny_pure (wpAny_pure ⟨rfl, h', tk, ns', rfl, x1, x2, x3⟩)
   · cases r₂ with
     | error e => exact hr₂
     | ok fl₂ =>
      cases fl₂ with
      | ret r =>
       obtain ⟨rfl, h', tk, ns', rfl, x1, x2, x3⟩ := hr₂
       repeat (any_goals (first | assumption | wp_step))
       exact h _ _ _ x1 x2 x3
      | _ => exact hr₂.elim
  | _ => exact hr.elim
theorem call_setI {l : Addr} {items : Array Value} {ns : List Int} {Q : Value → Shared → Prop} (hh : A.handled = none) (hl : s.heap.IsList l items ∨ s.heap.IsTuple l items) (hi : IntsAre items.toList ns) (hb : items.size + 1 < scanBound)
 (h : ∀ h' tk ns', SetI w h' s.heap.objs.size ns' → (∀ x, x ∈ ns' ↔ x ∈ ns) → (∀ b o, s.heap.get? b = some o → h'.get? b = some o) → Q (.ref s.heap.objs.size) { s with heap := h', toks := tk }) : wpAny (model prog w) A (call (.type "set") [.ref l]) Q E s := by
 have hlen : items.size = ns.length := by rw [← Array.length_toList]; exact hi.length
 have hm : ∀ ns' : List Int, (∀ x, x ∈ ns' ↔ ∃ j, j < items.size ∧ (fun i => ns.getD i 0) j = x) → ∀ x, x ∈ ns' ↔ x ∈ ns := fun ns' q x => by
  rw [q x]
  constructor
  · rintro ⟨j, hj, rfl⟩
    have hj' : j < ns.length := by omega
    show ns.getD j 0 ∈ ns
    rw [List.getD_eq_getElem?_getD, List.getElem?_eq_getElem hj']
    exact List.getElem_mem hj'
  · intro hx
    obtain ⟨j, hj, e⟩ := List.getElem_of_mem hx
    exact ⟨j, by omega, by show ns.getD j 0 = x; rw [List.getD_eq_getElem?_getD, List.getElem?_eq_getElem hj, e]; rfl⟩
 have hval : ∀ (i : Nat) (v : Value), items[i]? = some v → ∃ t, v = .int ((fun i => ns.getD i 0) i) t := fun i v hv => hi.int_at i v (by rw [Array.getElem?_toList]; exact hv)
 rcases hl with hl | hl
 · obtain ⟨o, ho, hc, r⟩ := id hl
   have hlt := Heap.lt_size ho
   refine call_setG (T := "list") hh hlt (fun h' k => ⟨o, k _ ho, hc⟩) F.sub_list_set F.sub_list_frozenset (by decide) (fun A E s' Q k q => ?_) _ hval hb fun h' tk ns' si m k => h h' tk ns' si (hm ns' m) k
   have hl' : s'.heap.IsList l items := ⟨o, k _ ho, hc, r⟩
   exact wpAny_pyIter_list hl' (q _ _ (fun A hh => Walks.list hh _ l (Nat.ne_of_lt (Heap.lt_size (k _ ho))) items) ⟨⟨_, Heap.get?_push_size _ rfl, rfl, rfl⟩, hl'.push _⟩)
 · obtain ⟨o, ho, hc, r⟩ := id hl
   have hlt := Heap.lt_size ho
   refine call_setG (T := "tuple") hh hlt (fun h' k => ⟨o, k _ ho, hc⟩) (by rw [isSubtype_type]; kernel_rfl) (by rw [isSubtype_type]; kernel_rfl) (by decide) (fun A E s' Q k q => ?_) _ hval hb fun h' tk ns' si m k => h h' tk ns' si (hm ns' m) k
   have hl' : s'.heap.IsTuple l items := ⟨o, k _ ho, hc, r⟩
   exact wpAny_pyIter_tuple hl' (q _ _ (fun A hh => Walks.tuple hh _ l (Nat.ne_of_lt (Heap.lt_size (k _ ho))) items) ⟨⟨_, Heap.get?_push_size _ rfl, rfl, rfl⟩, o, Heap.get?_push_of_some _ (k _ ho), hc, r⟩)
end
end Br
namespace Br
open PySem PySem.Spec PySem.Calls PyProof.Rows L2
section
variable {prog : Program} {w : World} {A : Around} {R : Result → Shared → Prop} {s : Shared}
abbrev testsOf (ifs : List Expr) (env : Env) : Sem Bool := forIn ifs true fun c r => if r = true then do let ok ← isTrue c env (eval c env); pure (ForInStep.yield ok) else pure (ForInStep.yield r)
theorem compLoop_go {elt target iter : Expr} {ifs : List Expr} {scope : Scope} {pos : Pos} {it acc : Value} {env : Env} (I : Nat → Shared → Prop)
 (turn : ∀ n s, I n s → wpAny (model prog w) A (pyNext it) (fun r s₁ => match r with
  | none => R (.ok .next) s₁
  | some v => wpAny (model prog w) A (letOwnedTupleGo target it v) (fun _ s₁ => wpAny (model prog w) A (assign target env v) (fun _ s₂ =>
   wpAny (model prog w) A (testsOf ifs env) (fun ok s₃ =>
    if ok = true then wpAny (model prog w) A (eval elt env) (fun x s₄ =>
     wpAny (model prog w) A (call (.builtin "list.append") [acc, x]) (fun _ s₅ => ∃ m, m < n ∧ I m s₅) (fun _ _ => False) s₄) (fun _ _ => False) s₃
    else ∃ m, m < n ∧ I m s₃) (fun _ _ => False) s₂) (fun _ _ => False) s₁) (fun _ _ => False) s₁) (fun _ _ => False) s)
 (n : Nat) (h : I n s) :
 codeAny (model prog w) A (.compLoop (.ListComp elt [⟨target, iter, ifs, 0⟩] scope pos) 0 it acc env) R s := by
 refine codeAny_loop rfl I (fun n s hI => ?_) n h
 show wpAny _ A ((compTurn (.ListComp elt [⟨target, iter, ifs, 0⟩] scope pos) 0 it acc env).onRaise (fun x => do noteFrame x env; theTreesLotGoes x)) _ _ s
 refine wpAny_noted (wpAny_mono (E := fun _ _ => False) ?_ (fun _ _ q => q) fun _ _ f => f.elim)
 rw [compTurn_list]
 refine wpAny_bind (wpAny_standAt (wpAny_bind (thn (turn n s hI) fun r s₁ h₁ => ?_)))
 cases r with
 | none => exact wpAny_pure h₁
 | some v =>
  refine wpAny_bind (thn h₁ fun _ s₁ h₁ => wpAny_bind (thn h₁ fun _ s₂ h₂ => wpAny_bind (thn h₂ fun ok s₃ h₃ => ?_)))
  cases ok with
  | false => exact wpAny_pure ⟨rfl, h₃⟩
  | true => exact wpAny_bind (wpAny_bind (thn h₃ fun x s₄ h₄ => wpAny_bind (thn h₄ fun _ s₅ h₅ => wpAny_pure (wpAny_pure ⟨rfl, h₅⟩))))
end
def clOf (scope : Scope) (env : Env) : List (Str × Addr) := (scope.names.filter fun x => x.2 == NameKind.free).reverse.map fun x => (x.1, (env.cells.lookup x.1).getD 0)
theorem closure_go {env : Env} : ∀ (l : List (Str × NameKind)) (cs : List (Str × Addr)), (∀ y ∈ l, y.2 = .free → ∃ c, env.cells.lookup y.1 = some c) →
 (forIn l cs fun (x : Str × NameKind) cs => (do
  if x.2 == .free then do let c ← cellOf env x.1; pure (ForInStep.yield ((x.1, c) :: cs)) else pure (ForInStep.yield cs) : Sem _)) =
  pure (((l.filter fun x => x.2 == NameKind.free).reverse.map fun x => (x.1, (env.cells.lookup x.1).getD 0)) ++ cs)
 | [], cs, _ => rfl
 | (n, k) :: r, cs, h => by
  have ih := fun cs => closure_go r cs fun y hy => h y (.tail _ hy)
  rw [List.forIn_cons]
  by_cases hk : k = .free
  · subst hk
    obtain ⟨c, hc⟩ := h (n, .free) (.head _) rfl
    have e1 : cellOf env n = pure c := by unfold cellOf; rw [show env.cells.lookup n = some c from hc]
    show ((do let c ← cellOf env n; pure (ForInStep.yield ((n, c) :: cs)) : Sem _) >>= _) = _
    rw [e1]
    show (forIn r ((n, c) :: cs) _ : Sem _) = _
    rw [ih]
    simp [hc, show env.cells.lookup n = some c from hc]
  · have e : (k == NameKind.free) = false := by cases k <;> first | rfl | exact absurd rfl hk
    show ((if (k == NameKind.free) = true then _ else pure (ForInStep.yield cs) : Sem _) >>= _) = _
    rw [e]
    show (forIn r cs _ : Sem _) = _
    rw [ih]
    simp [e]
theorem closure_of {scope : Scope} {env : Env} (h : ∀ y ∈ scope.names, y.2 = .free → ∃ c, env.cells.lookup y.1 = some c) : closureFor scope env = pure (clOf scope env) := by
 have q := closure_go (env := env) scope.names [] h
 rw [List.append_nil] at q
 exact (congrArg (fun t : Sem (List (Str × Addr)) => t >>= fun a => pure a) q).trans rfl
theorem clOf_sub {scope : Scope} {env : Env} (h : ∀ y ∈ scope.names, y.2 = .free → ∃ c, env.cells.lookup y.1 = some c) {x : Str} {c : Addr} (e : (clOf scope env).lookup x = some c) : env.cells.lookup x = some c ∧ (x, NameKind.free) ∈ scope.names := by
 have hm := PySem.mem_of_lookup e
 unfold clOf at hm
 obtain ⟨⟨n, k⟩, hy, e2⟩ := List.mem_map.mp hm
 have hf := List.mem_filter.mp (List.mem_reverse.mp hy)
 have hk : k = .free := by have := hf.2; cases k <;> first | rfl | (cases this)
 subst hk
 obtain ⟨c', hc⟩ := h (n, .free) hf.1 rfl
 injection e2 with e3 e4
 have e3 : n = x := e3
 subst e3
 have hc : env.cells.lookup n = some c' := hc
 have e4 : (env.cells.lookup n).getD 0 = c := e4
 rw [hc] at e4
 exact ⟨by rw [hc, ← e4]; rfl, hf.1⟩
theorem lookup_some_of_mem {l : List (Str × Addr)} {x : Str} {c : Addr} (h : (x, c) ∈ l) : ∃ c', l.lookup x = some c' := by
 induction l with
 | nil => cases h
 | cons a r ih =>
  obtain ⟨n, d⟩ := a
  rw [List.lookup_cons]
  cases e : x == n with
  | true => exact ⟨d, rfl⟩
  | false =>
   rcases List.mem_cons.mp h with z | z
   · injection z with z1 z2
     rw [z1] at e; simp at e
   · exact ih z
theorem clOf_has {scope : Scope} {env : Env} (h : ∀ y ∈ scope.names, y.2 = .free → ∃ c, env.cells.lookup y.1 = some c) {x : Str} (hx : (x, NameKind.free) ∈ scope.names) : ∃ c, (clOf scope env).lookup x = some c :=
 lookup_some_of_mem (c := (env.cells.lookup x).getD 0) (List.mem_map.mpr ⟨(x, .free), List.mem_reverse.mpr (List.mem_filter.mpr ⟨hx, rfl⟩), rfl⟩)
theorem relabel_mem {env : Env} : ∀ {names : List (Str × NameKind)} {x : Str} {k : NameKind}, (names.map fun (n, k) => if (k == NameKind.free && env.scope.kind == .function && env.kindOf n == some .cell) then (n, NameKind.cell) else (n, k)).lookup x = some k →
 ∃ k0, names.lookup x = some k0 ∧ (k0 = k ∨ (k0 = .free ∧ k = .cell))
 | [], _, _, h => by simp at h
 | (n, k0) :: r, x, k, h => by
  have ih := @relabel_mem env r x k
  rw [List.map_cons] at h
  have h : List.lookup x ((if (k0 == NameKind.free && env.scope.kind == .function && env.kindOf n == some .cell) = true then (n, NameKind.cell) else (n, k0)) :: _) = _ := h
  rw [List.lookup_cons]
  by_cases hc : (k0 == NameKind.free && env.scope.kind == .function && env.kindOf n == some .cell) = true
  · rw [if_pos hc, List.lookup_cons] at h
    cases e : x == n with
    | true =>
     rw [e] at h
     cases h
     refine ⟨k0, rfl, .inr ⟨?_, rfl⟩⟩
     revert hc
     cases k0 <;> first | (intro _; rfl) | (intro hc; exact absurd hc (by simp))
    | false => rw [e] at h; exact ih h
  · rw [if_neg hc, List.lookup_cons] at h
    cases e : x == n with
    | true => rw [e] at h; cases h; exact ⟨k0, rfl, .inl rfl⟩
    | false => rw [e] at h; exact ih h
def dotS (y : Str) : Str := ⟨(33 :: y.cps.toList).toArray⟩
def hid (scope : Scope) (y : Str) : Str := match scope.names.lookup y with
 | some .local => dotS y
 | _ => y
theorem hid_cases (scope : Scope) (y : Str) : (scope.names.lookup y = some .local ∧ hid scope y = dotS y) ∨ (scope.names.lookup y ≠ some .local ∧ hid scope y = y) := by
 unfold hid
 split
 · rename_i e; exact .inl ⟨e, rfl⟩
 · rename_i e; exact .inr ⟨fun z => e z, rfl⟩
def cxC (X : Cx) (Nc : List Str) (scope : Scope) (C : Addr) (s : Shared) (H : Hp) (fp : List Addr) : Cx :=
 { X with N := Nc ++ X.N.map (hid scope), s₀ := s, H₀ := H, env := compEnvC scope (clOf scope X.env) C X.env, outer := X.stack, ex := fp, fn := fun _ => false, pn := [], xe := fun _ _ => False }
structure CompS (X : Cx) (scope : Scope) : Prop where
 kind : scope.kind = .function
 nocell : ∀ y ∈ scope.names, y.2 ≠ .cell
 names : ∀ y ∈ scope.names, y.2 = .local → scope.names.lookup y.1 = some .local
 free : ∀ y ∈ scope.names, y.2 = .free → X.env.kindOf y.1 = some .cell ∨ X.env.kindOf y.1 = some .free
 dot : ∀ y, scope.names.lookup (dotS y) = none
 nd : (X.N.map (hid scope)).Nodup
def PIfs (X : Cx) (ifs : List Expr) (t : TT) : Prop :=
 ∀ (pins : List (Addr × Obj)) (s : Shared) (σ : L2.St) (H : Hp) (Q : Bool → Hp → Prop), Inv X pins σ H s → t σ H Q → wpAny (model X.prog X.w) X.A (testsOf ifs X.env) (TP X pins σ Q) X.xe s
def tYes : TT := fun _ H Q => Q true H
section
variable {X : Cx} {tt : TT} {c : Expr}
theorem pifs_nil : PIfs X [] tYes := fun pins s σ H Q I h => wpAny_tests_nil ⟨H, I, h⟩
end
section
variable {X : Cx} {pins : List (Addr × Obj)} {σ : L2.St} {H : Hp} {s : Shared}
def Cmp (J : It) (g : TG) (tt : TT) (te : TE) (σ0 : L2.St) (H0 : Hp) (Z : List V → Hp → Prop) : Prop :=
 ∃ W : Nat → Nat → List V → L2.St → Hp → Prop, (∃ m, W 0 m [] σ0 H0) ∧ ∀ i m ys σ' H', W i m ys σ' H' → ys.length ≤ sizeLine ∧
  ((J.stop i H' ∧ Z ys H') ∨
   (J.go i H' ∧ ∀ x H2, J.yld i H' x H2 → g x σ' H2 fun σ3 H3 => tt σ3 H3 fun b H4 => if b = true then te σ3 H4 fun y H5 => ∃ m', m' < m ∧ W (i + 1) m' (ys ++ [y]) σ3 H5 else ∃ m', m' < m ∧ W (i + 1) m' ys σ3 H4))
theorem inv_block {Nc : List Str} {scope : Scope} {fp : List Addr} {h1 : Heap} {D C : Addr} {t' : Nat} (I : Inv X pins σ H s) (S : CompS X scope) (hf : ∀ b ∈ fp, FpOk X pins H b) (hob : ∀ b ∈ fp, ∃ o, s.heap.get? b = some o)
 (hC : s.heap.objs.size ≤ C) (old : ∀ b o, s.heap.get? b = some o → h1.get? b = some o) (hn : h1.Ns C fun _ => none) :
 Inv (cxC X Nc scope C s H fp) [] (List.replicate Nc.length none ++ σ) H { s with heap := h1, toks := t' } := by
 have hcells : ∀ y ∈ scope.names, y.2 = .free → ∃ c, X.env.cells.lookup y.1 = some c := fun y hy e => I.ok.has y.1 (S.free y hy e)
 have hsub : ∀ {x : Str} {c : Addr}, (clOf scope X.env).lookup x = some c → X.env.cells.lookup x = some c := fun e => (clOf_sub hcells e).1
 have hlt : ∀ x c, X.env.cells.lookup x = some c → c < s.heap.objs.size := fun x c e => let ⟨v, q⟩ := I.cell x c e; q.lt
 refine ⟨⟨I.ok.mod, S.kind, I.ok.glob, I.ok.blt, hC, fun x y c e1 e2 => I.ok.inj x y c (hsub e1) (hsub e2), fun x hx => ?_, fun x c z _ => ?_, I.ok.hd, I.ok.frames, .inl rfl, fun b hb => ⟨?_, fun x c e => (hf b hb).2.2.2.2.1 x c (hsub e)⟩, I.bs, ?_, ?_, ?_, I.stack, I.stkFree⟩,
  rfl, I.bare, Un.kept old, ⟨_, hn, fun i x v e1 e2 e3 => ?_⟩, fun x c e => ?_, I.hok.fresh hC, fun x c e => I.freeC x c (hsub e), fun p hp => absurd (show p ∈ ([] : List (Addr × Obj)) from hp) (by simp), I.hok.kept old, ?_⟩
 · have hx : (relabel scope X.env).names.lookup x = some .cell ∨ (relabel scope X.env).names.lookup x = some .free := hx
   have go : ∀ k, (k = .cell ∨ k = .free) → (relabel scope X.env).names.lookup x = some k → ∃ c, (clOf scope X.env).lookup x = some c := fun k hk e => by
    obtain ⟨k0, e0, h0⟩ := relabel_mem (env := X.env) (names := scope.names) e
    have hm := PySem.mem_of_lookup e0
    have : k0 = .free := by
     rcases h0 with h0 | h0
     · subst h0
       rcases hk with hk | hk
       · exact absurd hk (S.nocell _ hm)
       · exact hk
     · exact h0.1
    subst this
    exact clOf_has hcells hm
   rcases hx with e | e
   · exact go _ (.inl rfl) e
   · exact go _ (.inr rfl) e
 · have z : false = true := z
   cases z
 · obtain ⟨o, e⟩ := hob b hb
   exact Nat.ne_of_lt (Nat.lt_of_lt_of_le (Heap.lt_size e) hC)
 · exact Nat.le_trans I.ok.bsz I.sz
 · intro b o e hb
   rcases (hf b hb).2.2.2.1 with z | z
   · exact I.ok.noex b o e z
   · exact absurd (Nat.lt_of_lt_of_le (Heap.lt_size e) (Nat.le_trans I.ok.bsz z)) (Nat.lt_irrefl _)
 · intro b hb hm
   rcases List.mem_cons.mp (I.stkSub b hm) with z | z
   · exact (hf b hb).2.1 z
   · exact (hf b hb).2.2.1 z
 · have e1 : (Nc ++ X.N.map (hid scope))[i]? = some x := e1
   have e3 : Vis (relabel scope X.env) x := e3
   have hi : Nc.length ≤ i := by
    refine Nat.not_lt.mp fun z => ?_
    rw [List.getElem?_append_left (by simpa using z), List.getElem?_replicate] at e2
    split at e2 <;> cases e2
   rw [List.getElem?_append_right hi] at e1
   rw [List.getElem?_append_right (by simpa using hi), List.length_replicate] at e2
   rw [List.getElem?_map] at e1
   obtain ⟨x0, ex0, hx0⟩ := Option.map_eq_some_iff.mp e1
   have dotn : ∀ y k, (relabel scope X.env).names.lookup (dotS y) ≠ some k := fun y k e => by
    obtain ⟨k0, e0, _⟩ := relabel_mem (env := X.env) (names := scope.names) e
    rw [S.dot] at e0; cases e0
   have hxx : x0 = x ∧ scope.names.lookup x ≠ some .local := by
    rcases hid_cases scope x0 with ⟨_, h2⟩ | ⟨h1, h2⟩
    · rw [h2] at hx0
      subst hx0
      rcases e3 with e | e | e <;> exact absurd e (dotn _ _)
    · rw [h2] at hx0
      subst hx0
      exact ⟨rfl, h1⟩
   obtain ⟨hx1, hnl⟩ := hxx
   rw [hx1] at ex0
   have e1 := ex0
   have hfree : (x, NameKind.free) ∈ scope.names ∧ (relabel scope X.env).names.lookup x ≠ some .local := by
    have go : ∀ k, (relabel scope X.env).names.lookup x = some k → (k = .local ∨ k = .cell ∨ k = .free) → (x, NameKind.free) ∈ scope.names ∧ k ≠ .local := fun k e hk => by
     obtain ⟨k0, e0, h0⟩ := relabel_mem (env := X.env) (names := scope.names) e
     have hm := PySem.mem_of_lookup e0
     rcases h0 with h0 | h0
     · subst h0
       rcases hk with hk | hk | hk
       · subst hk; exact absurd e0 hnl
       · exact absurd hk (S.nocell _ hm)
       · subst hk; exact ⟨hm, by decide⟩
     · obtain ⟨a, b⟩ := h0
       subst a; subst b
       exact ⟨hm, by decide⟩
    rcases e3 with e | e | e
    · exact absurd rfl (go _ e (.inl rfl)).2
    · exact ⟨(go _ e (.inr (.inl rfl))).1, by rw [e]; decide⟩
    · exact ⟨(go _ e (.inr (.inr rfl))).1, by rw [e]; decide⟩
   have hk := S.free _ hfree.1 rfl
   obtain ⟨m, hm, hl⟩ := I.loc
   obtain ⟨u, r, l⟩ := hl (i - Nc.length) x v e1 e2 (.inr hk)
   refine ⟨u, r, ?_⟩
   rcases l with ⟨z, _⟩ | ⟨_, c, hc, z⟩
   · have z : X.env.kindOf x = some .local := z
     rcases hk with hk | hk
     · have hk : X.env.kindOf x = some .cell := hk
       rw [hk] at z; cases z
     · have hk : X.env.kindOf x = some .free := hk
       rw [hk] at z; cases z
   · obtain ⟨c', hc'⟩ := clOf_has hcells hfree.1
     have q := hsub hc'
     rw [hc] at q; cases q
     obtain ⟨o, ho, hd⟩ := z
     refine .inr ⟨?_, c, hc', o, old _ _ ho, hd⟩
     rcases e3 with e | e | e
     · exact absurd e hfree.2
     · exact .inl e
     · exact .inr e
 · obtain ⟨v, o, ho, hd⟩ := I.cell x c (hsub e)
   exact ⟨v, o, old _ _ ho, hd⟩
 · show (List.replicate Nc.length none ++ σ).length = (Nc ++ X.N.map (hid scope)).length
   rw [List.length_append, List.length_append, List.length_replicate, List.length_map, I.len]
end
section
variable {X : Cx} {pins : List (Addr × Obj)} {σ : L2.St} {H2 : Hp} {s2 : Shared} {tg iter elt : Expr} {ifs : List Expr} {scope : Scope} {pos : Pos} {Nc : List Str} {g : TG} {tt : TT} {te : TE}
theorem comp_block {it : Addr} {fp : List Addr} {tn : Nat → Heap → Prop} {J : It} {Z : List V → Hp → Prop} {E : Value → Shared → Prop} {RR : Value → Addr → Result → Shared → Prop}
 (hc : X.calm = true) (S : CompS X scope) (I2 : Inv X pins σ H2 s2) (T : Turn X.prog X.w X.K tg J fp it tn) (st2 : tn 0 s2.heap) (f2 : ∀ b ∈ fp, FpOk X pins H2 b)
 (hg : ∀ C s H fp, PG (cxC X Nc scope C s H fp) tg g) (ht : ∀ C s H fp, PIfs (cxC X Nc scope C s H fp) ifs tt) (he : ∀ C s H fp, PE (cxC X Nc scope C s H fp) elt te)
 (h : Cmp J g tt te (List.replicate Nc.length none ++ σ) H2 Z)
 (hRR : ∀ D C s' H3 ys, Inv X pins σ (upd H3 D (.lst ys)) s' → H3 D = none → Z ys H3 → (∃ m, s'.heap.Ns C m) → FpOk X pins (upd H3 D (.lst ys)) C → RR (.ref D) C (.ok .next) s') :
 wpAny (model X.prog X.w) X.A (newList []) (fun acc s₃ => wpAny (model X.prog X.w) X.A (newFunctionEnv scope X.env.globals (clOf scope X.env) [] X.env.qual none .none (some X.env)) (fun cenv s₄ =>
  codeAny (model X.prog X.w) X.A (.compStart (.ListComp elt [⟨tg, iter, ifs, 0⟩] scope pos) 0 (.ref it) acc { cenv with scope := relabel scope X.env }) (RR acc cenv.locals) s₄) E s₃) E s2 := by
 refine wpAny_newObj_type (wpAny_newFunctionEnv S.nocell (by intro y hy; simp at hy) (fun h₁ hns₁ hsb₁ => ?_) S.kind)
 dsimp only at hns₁ hsb₁ ⊢
 generalize hH2 : s2.heap.push { cls := .type "list", dict := none, data := .seq ([] : List Value).toArray } = G at hns₁ hsb₁ ⊢
 have hC : G.objs.size = s2.heap.objs.size + 1 := by rw [← hH2, Heap.size_push]
 generalize hD0 : s2.heap.objs.size = D at *
 generalize hC0 : G.objs.size = C at *
 have hDC : D ≠ C := by omega
 have below : ∀ (b : Nat) o, s2.heap.get? b = some o → b < D := fun b o e => hD0 ▸ Heap.lt_size e
 have belC : ∀ (b : Nat) o, s2.heap.get? b = some o → b ≠ C := fun b o e => by have := below b o e; omega
 have belD : ∀ (b : Nat) o, s2.heap.get? b = some o → b ≠ D := fun b o e => by have := below b o e; omega
 have old : ∀ b o, s2.heap.get? b = some o → h₁.get? b = some o := fun b o e => hsb₁.extBut b o (belC b o e) (by
  have q := Heap.get?_push_of_some { cls := .type (if (some X.env).isSome then "dict" else "frame"), data := .dict #[] } (hH2 ▸ Heap.get?_push_of_some _ e : G.get? b = some o)
  exact q)
 have hacc : h₁.PlainList D #[] := ⟨_, hsb₁.extBut _ _ hDC (Heap.get?_push_of_some _ (by rw [← hH2, ← hD0]; exact Heap.get?_push_size _ rfl))⟩
 obtain ⟨W, ⟨m0, w0⟩, turn⟩ := h
 have hob : ∀ b ∈ fp, ∃ o, s2.heap.get? b = some o := fun b hb => let ⟨o, e, _⟩ := T.obj _ _ st2 b hb; ⟨o, e⟩
 have hfpD : ∀ b : Nat, b ∈ fp → b < D := fun b hb => let ⟨o, e⟩ := hob b hb; below b o e
 have hfpN : ∀ b : Nat, b ∈ fp → b ≠ D := fun b hb => Nat.ne_of_lt (hfpD b hb)
 have hcells : ∀ y ∈ scope.names, y.2 = .free → ∃ c, X.env.cells.lookup y.1 = some c := fun y hy e => I2.ok.has y.1 (S.free y hy e)
 have hsub : ∀ {x : Str} {c : Addr}, (clOf scope X.env).lookup x = some c → X.env.cells.lookup x = some c := fun e => (clOf_sub hcells e).1
 have hclt : ∀ x c, (clOf scope X.env).lookup x = some c → c < D := fun x c e => let ⟨v, q⟩ := I2.cell x c (hsub e); hD0 ▸ q.lt
 have hn0 : h₁.Ns C fun _ => none := hns₁
 have IB : Inv (cxC X Nc scope C s2 H2 fp) [] (List.replicate Nc.length none ++ σ) H2 { s2 with heap := h₁, toks := s2.toks + ([] : List (Str × Value)).length } :=
  inv_block (D := D) I2 S f2 hob (by omega) old hn0
 have hfs : ∀ b : Nat, D ≤ b → b ∉ (cxC X Nc scope C s2 H2 fp).fs := fun b hb hm => by
  obtain ⟨_, o, ho, _⟩ := IB.ok.funs.mem hm
  exact absurd (Nat.lt_of_lt_of_le (below b o ho) hb) (Nat.lt_irrefl _)
 have stat : ∀ {H' : Hp} {ps : List (Addr × Obj)}, (∀ p ∈ ps, Nat.le D p.1) → (∀ b ∈ fp, H' b = none) → ∀ b ∈ fp, FpOk (cxC X Nc scope C s2 H2 fp) ps H' b := fun {H' ps} hps hn b hb =>
  ⟨hn b hb, (let ⟨o, e⟩ := hob b hb; belC b o e), IB.ok.exfs b hb, .inl hb, fun x c e => (f2 b hb).2.2.2.2.1 x c (hsub e), fun p hp => Nat.ne_of_gt (Nat.lt_of_lt_of_le (hfpD b hb) (hps p hp))⟩
 have loop : ∀ s₃ : Shared, s₃ = { s2 with heap := h₁, toks := s2.toks + ([] : List (Str × Value)).length } →
  codeAny (model X.prog X.w) X.A (.compLoop (.ListComp elt [⟨tg, iter, ifs, 0⟩] scope pos) 0 (.ref it) (.ref D) (compEnvC scope (clOf scope X.env) C X.env)) (RR (.ref D) C) s₃ := by
  rintro s₃ rfl
  refine compLoop_go (fun n s' => ∃ i ys σ' H' us k, Inv (cxC X Nc scope C s2 H2 fp) [(D, { cls := .type "list", data := .seq (us : List Value).toArray k })] σ' H' s' ∧ Vals ys us ∧ tn i s'.heap ∧ (∀ b ∈ fp, H' b = none) ∧ W i n ys σ' H') ?_ m0 ?_
  · rintro n s3 ⟨i, ys, σ3, H3, us, k, I3, rv, st3, fr3, w3⟩
    obtain ⟨hz, tu⟩ := turn i n ys σ3 H3 w3
    have hps : ∀ p ∈ [((D : Addr), ({ cls := .type "list", data := .seq (us : List Value).toArray k } : Obj))], Nat.le D p.1 := fun p hp => by
     rcases List.mem_singleton.mp hp with rfl
     exact Nat.le_refl _
    rcases tu with ⟨stop, z⟩ | ⟨go, step⟩
    · refine thn (T.done (cxC X Nc scope C s2 H2 fp) rfl rfl rfl hc i _ s3 σ3 H3 (fun _ _ => False) I3 (stat hps fr3) st3 stop) fun r s4 ⟨hr, I4⟩ => ?_
      subst hr
      obtain ⟨eD, nD, _, _, _⟩ := I4.pin (D, { cls := .type "list", data := .seq (us : List Value).toArray k }) (List.mem_append_right _ (List.mem_singleton.mpr rfl))
      have eD : s4.heap.get? D = _ := eD
      have nD : H3 D = none := nD
      have u4 : Un (frs X.stack) fp H2 H3 s2.heap s4.heap := I4.base
      have hH2D : H2 D = none := I2.hok.fresh (by omega)
      have u5 : Un (frs X.stack) fp H2 (upd H3 D (.lst ys)) s2.heap s4.heap :=
       ⟨u4.keep, u4.slot, fun b o e n x => by rw [upd_ne (belD b o e)]; exact u4.free b o e n x, u4.there, fun b xs e => by rw [upd_ne (ne_of_none e hH2D)]; exact u4.tups b xs e,
        fun b o u e => by rw [upd_ne (ne_of_none e hH2D)]; exact u4.frzs b o u e, fun b ps e => by rw [upd_ne (ne_of_none e hH2D)]; exact u4.tbls b ps e⟩
      have hok : HOk X.prog X.w (upd H3 D (.lst ys)) s4.heap := fun b o e => by
       by_cases hb : b = D
       · subst hb; rw [upd_same] at e; cases e
         exact ⟨hz, us, k, rv, eD⟩
       · rw [upd_ne hb] at e
         exact (I4.hok b o e).stay (fun _ _ _ q => q) (fun c q => by rw [upd_ne (ne_of_none q nD)]; exact q) fun c xs q => by rw [upd_ne (ne_of_none q nD)]; exact q
      have I5 : Inv X pins σ (upd H3 D (.lst ys)) s4 := I2.call' (ch := fp) I4.os u5 hok I4.bare fun b hb => let ⟨a0, a1, a2, a3, a4, a5⟩ := f2 b hb; ⟨a3, a1, a4, a5⟩
      obtain ⟨m, hm, _⟩ := I4.loc
      refine hRR D C s4 H3 ys I5 nD z ⟨m, hm⟩ (I2.fpOk (by omega) ?_)
      rw [upd_ne (Ne.symm hDC)]; exact I4.free
    · refine thn (T.item (cxC X Nc scope C s2 H2 fp) rfl rfl rfl hc i _ s3 σ3 H3 (fun _ _ => False) I3 (stat hps fr3) st3 go) fun r s4 ⟨u, hr, h4⟩ => ?_
      subst hr
      refine thn h4 fun _ s5 ⟨x, H5, I5, r5, y5, st5, fr5⟩ => ?_
      have I5' := I5.pinned (stat hps fr5) (T.obj _ _ st5)
      refine thn (hg C s2 H2 fp _ s5 σ3 H5 x u _ I5' r5 (step x H5 y5)) fun _ s6 ⟨σ6, H6, I6, q6⟩ => ?_
      refine thn (ht C s2 H2 fp _ s6 σ6 H6 _ I6 q6) fun ok s7 ⟨H7, I7, q7⟩ => ?_
      have tnK : ∀ {σ' : L2.St} {H' : Hp} {s' : Shared}, Inv (cxC X Nc scope C s2 H2 fp) ([(D, { cls := .type "list", data := .seq (us : List Value).toArray k })] ++ pinsAt fp s5.heap) σ' H' s' → tn (i + 1) s'.heap ∧ (∀ b ∈ fp, H' b = none) ∧ (∀ b ∈ fp, ∀ o, s5.heap.get? b = some o → s'.heap.get? b = some o) := fun {σ' H' s'} I' =>
       ⟨T.keep _ _ _ st5 fun b hb o e => (I'.pin (b, o) (List.mem_append_right _ (List.mem_append_right _ (mem_pinsAt hb e)))).1, fun b hb => by
        obtain ⟨o, e, d⟩ := T.obj _ _ st5 b hb
        exact (I'.pin (b, o) (List.mem_append_right _ (List.mem_append_right _ (mem_pinsAt hb e)))).2.1, fun b hb o e => (I'.pin (b, o) (List.mem_append_right _ (List.mem_append_right _ (mem_pinsAt hb e)))).1⟩
      cases ok with
      | false =>
       have q7 : ∃ m', m' < n ∧ W (i + 1) m' ys σ6 H7 := q7
       obtain ⟨m', hm, w7⟩ := q7
       obtain ⟨k1, k2, _⟩ := tnK I7
       exact ⟨m', hm, i + 1, ys, σ6, H7, us, k, I7.unpinned, rv, k1, k2, w7⟩
      | true =>
       have q7 : te σ6 H7 fun y H5 => ∃ m', m' < n ∧ W (i + 1) m' (ys ++ [y]) σ6 H5 := q7
       refine thn (he C s2 H2 fp _ s7 σ6 H7 _ I7 q7) fun y s8 ⟨yv, H8, I8, r8, m', hm, w8⟩ => ?_
       obtain ⟨k1, k2, k3⟩ := tnK I8
       obtain ⟨eD, nD, _, nfD, _⟩ := I8.pin (D, { cls := .type "list", data := .seq (us : List Value).toArray k }) (List.mem_append_right _ (List.mem_append_left _ (List.mem_singleton.mpr rfl)))
       have eD : s8.heap.get? D = _ := eD
       have pl : s8.heap.PlainList D us.toArray := ⟨k, eD⟩
       refine wpAny_list_append_plain (hsz := by have := rv.length; simp; omega) pl fun h₉ hl₉ hs₉ => ?_
       obtain ⟨k9, e9⟩ := hl₉
       have I9 : Inv (cxC X Nc scope C s2 H2 fp) [] σ6 H8 { s8 with heap := h₉ } := (I8.pins_of (pins' := []) (fun p hp => nomatch hp)).turned (t' := s8.toks) (it := D) (fun b o hb e => (hs₉.2 b hb).trans e) nD hDC (.inr (by show s2.heap.objs.size ≤ D; omega))
        (fun x c e => Nat.ne_of_lt (hclt x c e)) (fun p hp => absurd (show p ∈ ([] : List (Addr × Obj)) from hp) (by simp))
       refine ⟨m', hm, i + 1, ys ++ [yv], σ6, H8, us ++ [y], k9, I9.pins_of fun p hp => ?_, rv.append (.cons r8 .nil), T.keep _ _ _ k1 fun b hb o e => (hs₉.2 b (hfpN b hb)).trans e, k2, w8⟩
       rcases List.mem_singleton.mp hp with rfl
       refine ⟨?_, nD, hDC, nfD, fun v z => by cases z⟩
       show h₉.get? D = _
       rw [e9]; simp
  · obtain ⟨k, e⟩ := hacc
    refine ⟨0, [], _, H2, [], k, IB.pins_of fun p hp => ?_, .nil, T.keep _ _ _ st2 fun b hb o e => old b o e, fun b hb => (f2 b hb).1, w0⟩
    rcases List.mem_singleton.mp hp with rfl
    exact ⟨e, I2.hok.fresh (by omega), hDC, hfs D (Nat.le_refl _), fun v z => by cases z⟩
 exact codeAny_compStart_list (loop _ rfl) (T.self _ 0 _ _ _ (T.keep _ _ _ st2 fun b hb o e => old b o e) (loop _ rfl))
def tComp (n : Nat) (wi : TI) (g : TG) (tt : TT) (te : TE) : TE := fun σ H Q => wi σ H fun J H1 => Cmp J g tt te (List.replicate n none ++ σ) H1 fun ys H' => ∀ p H2, H' p = none → L2.Same H' H2 → H2 p = some (.lst ys) → Q (.ref p) H2
theorem pe_comp {wi : TI} (hc : X.calm = true) (S : CompS X scope) (hs : ∀ x, foldedSetIterable iter X.env x = pure x) (hi : PI X tg iter wi)
 (hg : ∀ C s H fp, PG (cxC X Nc scope C s H fp) tg g) (ht : ∀ C s H fp, PIfs (cxC X Nc scope C s H fp) ifs tt) (he : ∀ C s H fp, PE (cxC X Nc scope C s H fp) elt te) :
 PE X (.ListComp elt [⟨tg, iter, ifs, 0⟩] scope pos) (tComp Nc.length wi g tt te) := by
 intro pins s σ H Q I h
 rw [eval_ListComp]
 have hcells : ∀ y ∈ scope.names, y.2 = .free → ∃ c, X.env.cells.lookup y.1 = some c := fun y hy e => I.ok.has y.1 (S.free y hy e)
 refine wpAny_comprehension_free (use := none) rfl hs (closure_of hcells) S.kind S.names (thn (hi pins s σ H _ I h) fun v s1 h1 => thn h1 fun itv s2 h2 => ?_)
 obtain ⟨it, fp, tn, J, H2, e, I2, T, st2, f2, z⟩ := h2
 subst e
 refine comp_block (RR := fun acc C => compPost (model X.prog X.w) X.A X.xe none (EP X pins σ Q) acc C) hc S I2 T st2 f2 hg ht he z fun D C s' H3 ys I' hD hz hm hf => ?_
 obtain ⟨m, hm⟩ := hm
 exact ⟨m, hm, fun h' sb => ⟨.ref D, _, I'.turned (t' := s'.toks) (it := C) (fun b o hb e => (sb.2 b hb).trans e) hf.1 hf.2.1 hf.2.2.2.1 hf.2.2.2.2.1 hf.2.2.2.2.2, rfl, hz D _ hD (Br.Same.upd hD) upd_same⟩⟩
end
section
variable {X : Cx}
theorem vals_bl : ∀ {bs : List Bool} {its : List Value} {i : Nat} {v : Value}, Vals (bs.map V.bl) its → its[i]? = some v → ∃ b, bs[i]? = some b ∧ v = .bool b
 | [], _, i, v, r, e => by cases r; simp at e
 | b :: bs, _, i, v, r, e => by
  cases r with
  | cons r rr =>
   cases i with
   | zero => simp at e; subst e; exact ⟨b, rfl, r⟩
   | succ i =>
    obtain ⟨b', h1, h2⟩ := vals_bl (i := i) rr (by simpa using e)
    exact ⟨b', by simpa using h1, h2⟩
theorem range_all {bs : List Bool} : ((List.range bs.length).all fun i => bs.getD i false) = bs.all id := by
 rw [Bool.eq_iff_iff]
 simp only [List.all_eq_true, List.mem_range, id]
 constructor
 · intro h b hb
   obtain ⟨i, hi, e⟩ := List.getElem_of_mem hb
   have q := h i hi
   rw [List.getD_eq_getElem?_getD, List.getElem?_eq_getElem hi, e] at q
   simpa using q
 · intro h i hi
   rw [List.getD_eq_getElem?_getD, List.getElem?_eq_getElem hi]
   exact h _ (List.getElem_mem hi)
def rAll (K : PySem.W.Frag) (f : List Bool → Bool) : List V → Hp → VK → Prop := fun xs H Q => ∃ p bs, xs = [.ref p] ∧ SqL K H p (bs.map V.bl) ∧ Q (.bl (f bs)) H
theorem truth_bl {prog : Program} {w : World} {A : Around} {bs : List Bool} {its : List Value} (r : Vals (bs.map V.bl) its) : TruthOf prog w A (fun i v => its.toArray[i]? = some v) fun i => bs.getD i false := by
 intro i v s Q E e q
 obtain ⟨b, hb, rfl⟩ := vals_bl r (by simpa using e)
 have q : Q (bs.getD i false) s := q
 rw [List.getD_eq_getElem?_getD, hb] at q
 exact wpAny_truthy_bool q
theorem call_all (hc : X.calm = true) : CallR X (.builtin "all") (rAll X.K fun bs => bs.all id) := by
 intro pins s σ H xs us Q I r h
 obtain ⟨p, bs, rfl, hq, q⟩ := h
 obtain ⟨u, rfl, rx⟩ := vals1 r
 cases rx
 obtain ⟨its, r', pl, hz⟩ := I.list hq
 have hp : p < s.heap.objs.size := by obtain ⟨_, _, e, _⟩ := pl; exact Heap.lt_size e
 have hl : its.length = bs.length := by rw [← r'.length, List.length_map]
 refine call_all_walk (wpAny_pyIter_list pl.isList ⟨s.heap.objs.size, _, _, _, _, _, fun i => bs.getD i false, rfl, Walks.list (A := X.A.in1) (I.ok.hd hc) s.heap.objs.size p (Nat.ne_of_lt hp) its.toArray, ⟨⟨_, Heap.get?_push_size _ rfl, rfl, rfl⟩, pl.isList.at fun o e => Heap.get?_push_of_some _ e⟩, truth_bl r', fun h' tk hk => ?_⟩)
 rw [List.size_toArray, hl, range_all]
 exact ⟨.bl _, H, I.kept fun b o e => hk b o (fun z => absurd (Heap.lt_size e) (by rw [List.mem_singleton.mp z]; exact Nat.lt_irrefl _)) (Heap.get?_push_of_some _ e), rfl, q⟩
theorem boot_all : bootBuiltins "all" = some (.builtin "all") := by decide +kernel
end
structure JIfs (X : Cx) (es : List Expr) (t : TT) : Prop where h : PIfs X es t
def nodupB : List Str → Bool
 | [] => true
 | x :: r => !(r.any fun y => x == y) && nodupB r
theorem nodupB_of : ∀ {l : List Str}, nodupB l = true → l.Nodup
 | [], _ => List.nodup_nil
 | x :: r, h => by
  unfold nodupB at h
  simp only [Bool.and_eq_true, Bool.not_eq_true', List.any_eq_false] at h
  refine List.nodup_cons.mpr ⟨fun hm => ?_, nodupB_of h.2⟩
  have := h.1 x hm
  simp at this
def compB (names0 : List (Str × NameKind)) (N : List Str) (scope : Scope) : Bool :=
 scope.kind == .function && scope.names.all (fun y => y.2 != .cell) && scope.names.all (fun y => y.2 != .local || scope.names.lookup y.1 == some .local) && scope.names.all (fun y => y.2 != .free || names0.lookup y.1 == some .cell || names0.lookup y.1 == some .free) && scope.names.all (fun y => y.1.cps.toList.head? != some 33) && nodupB (N.map (hid scope))
theorem kind_eq {a b : NameKind} (h : (a == b) = true) : a = b := by cases a <;> cases b <;> first | rfl | cases h
theorem okind_eq {a b : Option NameKind} (h : (a == b) = true) : a = b := by
 cases a <;> cases b
 · rfl
 · cases h
 · cases h
 · exact congrArg some (kind_eq h)
theorem CompS.of {X : Cx} {scope : Scope} (h : compB X.env.scope.names X.N scope = true) : CompS X scope := by
 unfold compB at h
 simp only [Bool.and_eq_true, List.all_eq_true, Bool.or_eq_true] at h
 obtain ⟨⟨⟨⟨⟨h1, h2⟩, h3⟩, h4⟩, h5⟩, h6⟩ := h
 refine ⟨?_, fun y hy z => ?_, fun y hy z => ?_, fun y hy z => ?_, ?_, nodupB_of h6⟩
 · revert h1; cases scope.kind <;> intro h1 <;> first | rfl | cases h1
 · have q := h2 y hy; rw [z] at q; cases q
 · rcases h3 y hy with q | q
   · rw [z] at q; cases q
   · exact okind_eq q
 · rcases h4 y hy with (q | q) | q
   · rw [z] at q; cases q
   · exact .inl (okind_eq q)
   · exact .inr (okind_eq q)
 · intro y
   cases e : scope.names.lookup (dotS y) with
   | none => rfl
   | some k =>
    have hm := PySem.mem_of_lookup e
    have := h5 _ hm
    have hd : (dotS y).cps.toList.head? = some 33 := rfl
    rw [hd] at this
    exact absurd this (by decide)
section
variable {X : Cx} {a b c e o elt iter tg : Expr} {es ifs : List Expr} {ta tb te : TE} {tt : TT} {t : TA} {wi : TI} {g : TG} {pos p spos : Pos} {x : Str} {i : Nat} {Nc : List Str} {scope : Scope}
theorem f_nil : JIfs X [] tYes := ⟨pifs_nil⟩
theorem j_cell (h : At X.N i x) (hk : X.env.scope.names.lookup x = some .cell) (hd : (x == ("__debug__" : Str)) = false) (hcd : (x == ("__classdict__" : Str)) = false) : JE X (.Name x pos) (tVar i) := ⟨pe_var h.get (.inr (.inl hk)) hd hcd⟩
theorem s_setC (h : At X.N i x) (hN : X.N.Nodup) (hk : X.env.scope.names.lookup x = some .cell) (hf : X.fn x = true) (hs : swapsWith e (some (.Name x p)) pos.line X.env = pure false) (he : JE X e te) : JS X (.Assign [.Name x p] e pos) (tAsg te (gName i)) := ⟨ps_set hN h.get (.inr hk) he.h hs (.inl hf)⟩
section
variable (hg : Gl X x) (he : starEach (e :: es) X.env = (false, eval e X.env) :: starEach es X.env) (hpl : (backTo pos (starEach es X.env)).any (·.1) = false)
include hg he hpl
theorem j_all (hx : x = "all") (hc : X.calm = true) (hm : X.mg x = none) (ha : JA X (e :: es) t) : JE X (.Call (.Name x p) (e :: es) [] pos) (tCB (rAll X.K fun bs => bs.all id) t) := ⟨by subst hx; exact pe_callB (call_all hc) hg hm boot_all ha.h (by decide) (by decide) he hpl⟩
end
end
section
variable {K : PySem.W.Frag} {a : Addr} {xs : List V} {g : TG} {tt : TT} {te : TE} {σ0 : L2.St} {H0 : Hp} {Z : List V → Hp → Prop}
theorem cmp_list (Pv : Nat → List V → L2.St → Hp → Prop) (h0 : Pv 0 [] σ0 H0) (hz : xs.length ≤ sizeLine) (hl : ∀ i ys σ H, i ≤ xs.length → Pv i ys σ H → SqL K H a xs ∧ ys.length ≤ i)
 (hs : ∀ i x ys σ H (N : List V → L2.St → Hp → Prop), xs[i]? = some x → Pv i ys σ H → (∀ ys' σ' H', Pv (i + 1) ys' σ' H' → N ys' σ' H') →
  g x σ H fun σ3 H3 => tt σ3 H3 fun b H4 => if b = true then te σ3 H4 fun y H5 => N (ys ++ [y]) σ3 H5 else N ys σ3 H4)
 (hd : ∀ ys σ H, Pv xs.length ys σ H → Z ys H) : Cmp (Itl K a) g tt te σ0 H0 Z := by
 refine ⟨fun i m ys σ H => m = xs.length - i ∧ i ≤ xs.length ∧ Pv i ys σ H, ⟨xs.length, by simp, Nat.zero_le _, h0⟩, ?_⟩
 rintro i m ys σ H ⟨rfl, hi, p⟩
 obtain ⟨q, hy⟩ := hl i ys σ H hi p
 refine ⟨by omega, ?_⟩
 by_cases hlt : i < xs.length
 · refine .inr ⟨⟨xs, xs[i], q, by simp [hlt]⟩, fun x H' y => ?_⟩
   obtain ⟨e, y⟩ := y
   subst e
   exact hs i x ys σ _ (fun ys' σ' H' => ∃ m', m' < xs.length - i ∧ m' = xs.length - (i + 1) ∧ i + 1 ≤ xs.length ∧ Pv (i + 1) ys' σ' H') (y xs q) p fun ys' σ' H' p' => ⟨xs.length - (i + 1), by omega, rfl, hlt, p'⟩
 · have e : i = xs.length := by omega
   subst e
   exact .inl ⟨⟨xs, q, Nat.le_refl _⟩, hd ys σ H p⟩
theorem cmp_range {lo : Int} {n : Nat} (Pv : Nat → List V → L2.St → Hp → Prop) (h0 : Pv 0 [] σ0 H0) (hz : n ≤ sizeLine) (hl : ∀ i ys σ H, i ≤ n → Pv i ys σ H → ys.length ≤ i)
 (hs : ∀ i ys σ H (N : List V → L2.St → Hp → Prop), i < n → Pv i ys σ H → (∀ ys' σ' H', Pv (i + 1) ys' σ' H' → N ys' σ' H') →
  g (.int (lo + i)) σ H fun σ3 H3 => tt σ3 H3 fun b H4 => if b = true then te σ3 H4 fun y H5 => N (ys ++ [y]) σ3 H5 else N ys σ3 H4)
 (hd : ∀ ys σ H, Pv n ys σ H → Z ys H) : Cmp (Itr lo n) g tt te σ0 H0 Z := by
 refine ⟨fun i m ys σ H => m = n - i ∧ i ≤ n ∧ Pv i ys σ H, ⟨n, by simp, Nat.zero_le _, h0⟩, ?_⟩
 rintro i m ys σ H ⟨rfl, hi, p⟩
 have hy := hl i ys σ H hi p
 refine ⟨by omega, ?_⟩
 by_cases hlt : i < n
 · refine .inr ⟨hlt, fun x H' y => ?_⟩
   obtain ⟨e, y⟩ := y
   subst e; subst y
   exact hs i ys σ _ (fun ys' σ' H' => ∃ m', m' < n - i ∧ m' = n - (i + 1) ∧ i + 1 ≤ n ∧ Pv (i + 1) ys' σ' H') hlt p fun ys' σ' H' p' => ⟨n - (i + 1), by omega, rfl, hlt, p'⟩
 · have e : i = n := by omega
   subst e
   exact .inl ⟨Nat.le_refl _, hd ys σ H p⟩
end
section
variable {X : Cx} {elt iter : Expr} {ifs : List Expr} {te : TE} {tt : TT} {wi : TI} {pos p px py pt spos : Pos} {x y z : Str} {i k : Nat} {scope : Scope}
theorem loc_C {C : Addr} {s : Shared} {H : Hp} {fp : List Addr} {Nc : List Str} (hk : scope.names.lookup x = some .local) : (cxC X Nc scope C s H fp).env.scope.names.lookup x = some .local := lookup_relabel_local hk
theorem not_mem_of (S : CompS X scope) (hk : scope.names.lookup x = some .local) : x ∉ X.N.map (hid scope) := fun h => by
 obtain ⟨y, _, e⟩ := List.mem_map.mp h
 rcases hid_cases scope y with ⟨_, h2⟩ | ⟨h1, h2⟩
 · rw [h2] at e; rw [← e, S.dot] at hk; cases hk
 · rw [h2] at e; exact h1 (e ▸ hk)
theorem g_C1 (S : CompS X scope) (hN : X.N.Nodup) (hk : scope.names.lookup x = some .local) (C : Addr) (s : Shared) (H : Hp) (fp : List Addr) : PG (cxC X [x] scope C s H fp) (.Name x px) (gName 0) :=
 pg_name (X := cxC X [x] scope C s H fp) (List.nodup_cons.mpr ⟨not_mem_of S hk, S.nd⟩) rfl (.inl (loc_C hk)) (.inr (loc_C hk))
theorem g_C2 (hc : X.calm = true) (S : CompS X scope) (hN : X.N.Nodup) (hxy : x ≠ y) (hx : scope.names.lookup x = some .local) (hy : scope.names.lookup y = some .local) (C : Addr) (s : Shared) (H : Hp) (fp : List Addr) :
 PG (cxC X [x, y] scope C s H fp) (.Tuple [.Name x px, .Name y py] k pt) (gTup X.K 2 (gCons (gName 0) (gCons (gName 1) gNil))) := by
 have nd : (cxC X [x, y] scope C s H fp).N.Nodup := List.nodup_cons.mpr ⟨fun h => by
  rcases List.mem_cons.mp h with h | h
  · exact hxy h
  · exact not_mem_of S hx h, List.nodup_cons.mpr ⟨not_mem_of S hy, S.nd⟩⟩
 exact pg_tup (X := cxC X [x, y] scope C s H fp) hc (pgs_cons (pg_name nd rfl (.inl (loc_C hx)) (.inr (loc_C hx))) (pgs_cons (pg_name nd rfl (.inl (loc_C hy)) (.inr (loc_C hy))) pgs_nil))
theorem j_comp1 (hc : X.calm = true) (S : compB X.env.scope.names X.N scope = true) (hs : ∀ x, foldedSetIterable iter X.env x = pure x) (hN : X.N.Nodup) (hk : scope.names.lookup x = some .local) (hi : JI X (.Name x px) iter wi)
 (ht : ∀ C s H fp, JIfs (cxC X [x] scope C s H fp) ifs tt) (he : ∀ C s H fp, JE (cxC X [x] scope C s H fp) elt te) : JE X (.ListComp elt [⟨.Name x px, iter, ifs, 0⟩] scope pos) (tComp 1 wi (gName 0) tt te) :=
 ⟨pe_comp (Nc := [x]) hc (.of S) hs hi.h (g_C1 (.of S) hN hk) (fun C s H fp => (ht C s H fp).h) fun C s H fp => (he C s H fp).h⟩
theorem j_comp2 (hc : X.calm = true) (S : compB X.env.scope.names X.N scope = true) (hs : ∀ x, foldedSetIterable iter X.env x = pure x) (hN : X.N.Nodup) (hxy : x ≠ y) (hx : scope.names.lookup x = some .local) (hy : scope.names.lookup y = some .local)
 (hi : JI X (.Tuple [.Name x px, .Name y py] k pt) iter wi) (ht : ∀ C s H fp, JIfs (cxC X [x, y] scope C s H fp) ifs tt) (he : ∀ C s H fp, JE (cxC X [x, y] scope C s H fp) elt te) :
 JE X (.ListComp elt [⟨.Tuple [.Name x px, .Name y py] k pt, iter, ifs, 0⟩] scope pos) (tComp 2 wi (gTup X.K 2 (gCons (gName 0) (gCons (gName 1) gNil))) tt te) :=
 ⟨pe_comp (Nc := [x, y]) hc (.of S) hs hi.h (g_C2 hc (.of S) hN hxy hx hy) (fun C s H fp => (ht C s H fp).h) fun C s H fp => (he C s H fp).h⟩
end
theorem cxC_K {X : Cx} {Nc : List Str} {scope : Scope} {C : Addr} {s : Shared} {H : Hp} {fp : List Addr} : (cxC X Nc scope C s H fp).K = X.K := rfl
section
variable {X : Cx} {K : PySem.W.Frag} (hK : X.K = K) {a b c e o elt iter : Expr} {es ifs : List Expr} {ta tb te to : TE} {tt : TT} {t : TA} {wi : TI} {pos p px py pt spos apos cpos p2 : Pos} {x y z : Str} {i k : Nat} {scope : Scope}
include hK
theorem k_ix (hs : PlainIx b) (ha : JE X a ta) (hb : JE X b tb) : JE X (.Subscript a b pos) (tOp (rIx K) ta tb) := hK ▸ j_ix hs ha hb
theorem k_append {cpos : Pos} (hbase : attributeBase o "append" X.env (eval o X.env) = eval o X.env) (hfew : ((backTo cpos (starEach [e] X.env)).all (fun x => !x.1) && (backToKw cpos (keywordEach [] X.env)).all (fun x => x.1.isSome)
 && decide (([e] : List Expr).length + ([] : List Keyword).length + (if ([] : List Keyword).isEmpty then 0 else 1) < 30)) = true) (hline : (apos.endLine == cpos.line) = true) (hs : starEach [e] X.env = (false, eval e X.env) :: starEach [] X.env)
 (hpl : (backTo cpos (starEach [] X.env)).any (·.1) = false) (ho : JE X o to) (ha : JA X [e] t) : JE X (.Call (.Attribute o "append" apos) [e] [] cpos) (tBM K "list" rAppend to t) := hK ▸ j_append hbase hfew hline hs hpl ho ha
theorem k_comp2 (hc : X.calm = true) (S : compB X.env.scope.names X.N scope = true) (hs : ∀ x, foldedSetIterable iter X.env x = pure x) (hN : X.N.Nodup) (hxy : x ≠ y) (hx : scope.names.lookup x = some .local) (hy : scope.names.lookup y = some .local)
 (hi : JI X (.Tuple [.Name x px, .Name y py] k pt) iter wi) (ht : ∀ C s H fp, JIfs (cxC X [x, y] scope C s H fp) ifs tt) (he : ∀ C s H fp, JE (cxC X [x, y] scope C s H fp) elt te) :
 JE X (.ListComp elt [⟨.Tuple [.Name x px, .Name y py] k pt, iter, ifs, 0⟩] scope pos) (tComp 2 wi (gTup K 2 (gCons (gName 0) (gCons (gName 1) gNil))) tt te) := hK ▸ j_comp2 hc S hs hN hxy hx hy hi ht he
section
variable (hg : Gl X x) (he : starEach (e :: es) X.env = (false, eval e X.env) :: starEach es X.env) (hpl : (backTo pos (starEach es X.env)).any (·.1) = false)
include hg he hpl
theorem k_isi (hx : x = "isinstance") (hm : X.mg x = none) (ha : JA X (e :: es) t) : JE X (.Call (.Name x p) (e :: es) [] pos) (tCB (rIsi K) t) := hK ▸ j_isi hg he hpl hx hm ha
theorem k_len (hx : x = "len") (hm : X.mg x = none) (ha : JA X (e :: es) t) : JE X (.Call (.Name x p) (e :: es) [] pos) (tCB (rLen K) t) := hK ▸ j_len hg he hpl hx hm ha
theorem k_all (hx : x = "all") (hc : X.calm = true) (hm : X.mg x = none) (ha : JA X (e :: es) t) : JE X (.Call (.Name x p) (e :: es) [] pos) (tCB (rAll K fun bs => bs.all id) t) := hK ▸ j_all hg he hpl hx hc hm ha
end
end
def ikv (ks : List (Int × V)) : List (Key × V) := ks.map fun q => (.inl q.1, q.2)
def rSortD : List V → Hp → VK → Prop := fun xs H Q => ∃ (p : Addr) (ks : List (Int × V)), xs = [.ref p] ∧ H p = some (.dK (ikv ks)) ∧ ks.length < 64 ∧
 ∀ (l : Addr) (ns : List Int) (H' : Hp), H l = none → L2.Same H H' → H' l = some (.lst (ns.map V.int)) → ns.Perm (ks.map (·.1)) → ns.Pairwise (· ≤ ·) → Q (.ref l) H'
theorem ints_vals : ∀ {vs : List Value} {ns : List Int}, IntsAre vs ns → Vals (ns.map V.int) vs
 | _, _, .nil => .nil
 | _, _, .cons n t r => .cons ⟨t, rfl⟩ (ints_vals r)
theorem kv_get : ∀ {ks : List (Int × V)} {vs : List (Key × Value)} {i : Nat} {k : Key} {x : Value}, KV (ikv ks) vs → vs[i]? = some (k, x) → ∃ q, ks[i]? = some q ∧ k = .inl q.1
 | [], _, i, k, x, r, e => by cases r; simp at e
 | q :: ks, _, i, k, x, r, e => by
  cases r with
  | cons r rr =>
   cases i with
   | zero => simp at e; subst e; exact ⟨q, rfl, r.1.symm⟩
   | succ i =>
    obtain ⟨q', h1, h2⟩ := kv_get (ks := ks) (i := i) rr (by simpa using e)
    exact ⟨q', by simpa using h1, h2⟩
theorem ints_of_get : ∀ {vs : List Value} {ns : List Int}, vs.length = ns.length → (∀ (j : Nat) (v : Value), vs[j]? = some v → ∃ n t, ns[j]? = some n ∧ v = .int n t) → IntsAre vs ns
 | [], [], _, _ => .nil
 | [], _ :: _, h, _ => by simp at h
 | _ :: _, [], h, _ => by simp at h
 | v :: vs, n :: ns, h, g => by
  obtain ⟨n', t, e1, e2⟩ := g 0 v rfl
  simp at e1; subst e1; subst e2
  exact .cons n t (ints_of_get (by simpa using h) fun j u e => by
   obtain ⟨n', t', e1, e2⟩ := g (j + 1) u (by simpa using e)
   exact ⟨n', t', by simpa using e1, e2⟩)
section
variable {X : Cx}
theorem call_sortD (hc : X.calm = true) : CallR X (.builtin "sorted") rSortD := by
 intro pins s σ H xs us Q I r h
 obtain ⟨p, ks, rfl, hq, h64, q⟩ := h
 obtain ⟨u, rfl, rx⟩ := vals1 r
 cases rx
 obtain ⟨hz, lo, vs, kv, dd⟩ := (show ObjOk X.prog X.w H s.heap p (.dK (ikv ks)) from I.hok p _ hq)
 obtain ⟨ep, hat⟩ := dd.dictAt
 have hl : vs.length = ks.length := by
  have := Paired.length kv
  rw [← this]; unfold ikv; rw [List.length_map]
 have hsz : (sizeLine : Nat) = 16777216 := sizeLine_eq
 refine Calls.call_function_entry kind_sorted plain_sorted entry_sorted (args_sorted1 _) ?_
 unfold Builtin.«sorted»
 refine wpAny_bind (m := checkCount "sorted" 1 1 _) (wpAny_pure ?_)
 refine wpAny_bind (PySem.W.kdu_collect (A := X.A.in1) (PySem.W.kdl_dict (knd := mixKind X.prog X.w) (kvs := vs) (ep := ep) lo) (I.ok.hd hc) hat (by omega) fun h' tk acc hk hacc => ?_)
 have hI : IntsAre acc.toList (ks.map (·.1)) := ints_of_get (by rw [Array.length_toList, List.length_map, hacc.1, hl]) fun j v e => by
  obtain ⟨k, x, e1, e2⟩ := hacc.2 j v (by rw [← Array.getElem?_toList]; exact e)
  obtain ⟨q', h1, h2⟩ := kv_get kv e1
  subst h2
  have e2 : keyIs (.inl q'.1) v = true := e2
  rcases keyIs_shape e2 with ⟨i, t, ek, e3⟩ | ⟨y, t, ek, e3⟩
  · subst e3
    injection ek with ek
    exact ⟨_, t, by rw [List.getElem?_map, h1]; rfl, by show Value.int i t = Value.int q'.1 t; rw [ek]⟩
  · cases ek
 have hal : acc.toList.length = ks.length := by rw [Array.length_toList, hacc.1, hl]
 refine wpAny_bind (wpAny_newList ?_ (by rw [hal]; omega))
 have hoL : (h'.push (seqObj "list" acc.toList.toArray 0)).get? h'.objs.size = some (seqObj "list" acc.toList.toArray 0) := Heap.get?_push_size _ rfl
 refine wpAny_bind (wpAny_holding (wpAny_call_entry slot_list_sort ⟨_, hoL, rfl⟩ entry_list_sort (list_sort_tree hoL hI (by omega) fun out ns' a1 a2 a3 => ⟨_, rfl, ?_⟩) (args_list_sort _)))
 refine wpAny_pure ⟨_, rfl, ?_⟩
 obtain ⟨n', e'⟩ : ∃ n', (sortedHeap (h'.push (seqObj "list" acc.toList.toArray 0)) h'.objs.size acc.toList out).get? h'.objs.size = some (seqObj "list" out n') := sortedHeap_at hoL
 have I1 : Inv X pins σ H { s with heap := h', toks := tk } := I.kept hk
 have hfr : H h'.objs.size = none := I1.hok.fresh (Nat.le_refl _)
 have keep : ∀ b o, h'.get? b = some o → (sortedHeap (h'.push (seqObj "list" acc.toList.toArray 0)) h'.objs.size acc.toList out).get? b = some o := fun b o e => by
  have hb := Heap.lt_size e
  rw [sortedHeap_old (Nat.ne_of_lt hb) (by rw [Heap.size_push]; exact Nat.lt_succ_of_lt hb)]
  exact Heap.get?_push_of_some _ e
 have hlen : ns'.length ≤ sizeLine := by rw [a2.length_eq, List.length_map]; omega
 have I2 : Inv X pins σ (upd H h'.objs.size (.lst (ns'.map V.int))) { s with heap := sortedHeap (h'.push (seqObj "list" acc.toList.toArray 0)) h'.objs.size acc.toList out, toks := tk } :=
  I1.laid (t' := tk) keep (Nat.le_refl _) (show ObjOk X.prog X.w _ _ _ (.lst (ns'.map V.int)) from ⟨by rw [List.length_map]; exact hlen, out.toList, n', ints_vals a1, by simpa using e'⟩)
 exact ⟨.ref h'.objs.size, _, I2, rfl, q _ _ _ hfr (Br.Same.upd hfr) upd_same a2 a3⟩
theorem boot_sorted : bootBuiltins "sorted" = some (.builtin "sorted") := by decide +kernel
def iSeq (K : PySem.W.Frag) (tl : TE) : TI := fun σ H R => tl σ H fun x H1 => ∃ a, x = .ref a ∧ (((∃ xs, SqL K H1 a xs) ∧ R (Itl K a) H1) ∨ ((∃ xs, SqT K H1 a xs) ∧ R (Itt K a) H1))
theorem pi_seq {tg l : Expr} {tl : TE} (hl : PE X l tl) : PI X tg l (iSeq X.K tl) := by
 intro pins s σ H R I h
 refine thn (hl pins s σ H _ I h) fun v s1 ⟨x, H1, I1, r1, q1⟩ => ?_
 obtain ⟨a, e, q1⟩ := q1
 subst e
 cases r1
 rcases q1 with ⟨⟨xs, hq⟩, q⟩ | ⟨⟨xs, hq⟩, q⟩
 · obtain ⟨its, rv, p, hz⟩ := I1.list hq
   refine wpAny_pyIter_list p.isList ?_
   refine ⟨s1.heap.objs.size, [s1.heap.objs.size], _, _, H1, rfl, I1.kept (t' := s1.toks) fun b o e => Heap.get?_push_of_some _ e, turn_list a _, ⟨_, Heap.get?_push_size _ rfl, rfl, rfl⟩, fun b hb => ?_, q⟩
   have e : b = s1.heap.objs.size := by simpa using hb
   subst e
   exact I1.fpOk (Nat.le_refl _) (I1.hok.fresh (Nat.le_refl _))
 · obtain ⟨its, rv, p, hz⟩ := I1.tuple hq
   refine wpAny_pyIter_tuple (show s1.heap.IsTuple a its.toArray from p) ?_
   refine ⟨s1.heap.objs.size, [s1.heap.objs.size], _, _, H1, rfl, I1.kept (t' := s1.toks) fun b o e => Heap.get?_push_of_some _ e, turn_tuple a _, ⟨_, Heap.get?_push_size _ rfl, rfl, rfl⟩, fun b hb => ?_, q⟩
   have e : b = s1.heap.objs.size := by simpa using hb
   subst e
   exact I1.fpOk (Nat.le_refl _) (I1.hok.fresh (Nat.le_refl _))
def rSlS (K : PySem.W.Frag) : V → Option Int → Option Int → Hp → VK → Prop := fun x lo hi H Q => ∃ a xs, x = .ref a ∧ ((SqL K H a xs ∧ ∀ p H2, H p = none → L2.Same H H2 → H2 p = some (.lst (cutV xs lo hi)) → Q (.ref p) H2) ∨
 (SqT K H a xs ∧ ¬ (HT.sIx xs.length 0 lo = 0 ∧ HT.sIx xs.length xs.length hi = xs.length) ∧ ∀ p H2, H p = none → L2.Same H H2 → H2 p = some (.tup (cutV xs lo hi)) → Q (.ref p) H2))
theorem sl_S : SlR X (rSlS X.K) := by
 intro pins s σ H x v vl vu lo hi sl Q I rx hs pl pu h
 obtain ⟨a, xs, rfl, h⟩ := h
 rcases h with ⟨hx, q⟩ | ⟨hx, hn, q⟩
 · exact sl_list pins s σ H _ v vl vu lo hi sl Q I rx hs pl pu ⟨a, xs, rfl, hx, fun p hp => q p _ hp (Br.Same.upd hp) upd_same⟩
 · exact sl_tup pins s σ H _ v vl vu lo hi sl Q I rx hs pl pu ⟨a, xs, rfl, hx, hn, fun p hp => q p _ hp (Br.Same.upd hp) upd_same⟩
def rCatTS (K : PySem.W.Frag) : R2 := fun x y H Q => ∃ a b xs ys, x = .ref a ∧ y = .ref b ∧ SqT K H a xs ∧ SqT K H b ys ∧ xs ≠ [] ∧ xs.length + ys.length ≤ sizeLine ∧ ∀ p H2, L2.Same H H2 → SqT K H2 p (xs ++ ys) → Q (.ref p) H2
theorem op_catTS : OpR X (binaryOp .Add) (rCatTS X.K) := fun pins s σ H x y v u Q I rx ry h => by
 obtain ⟨a, b, xs, ys, e1, e2, h1, h2, hx, hz, q⟩ := h
 refine op_catT pins s σ H x y v u Q I rx ry ⟨a, b, xs, ys, e1, e2, h1, h2, hx, hz, fun e => ?_, fun _ p hp => q p _ (Br.Same.upd hp) (SqT.of upd_same)⟩
 subst e
 exact q a H (L2.Same.refl _) (by rw [List.append_nil]; exact h1)
def rTupOf (K : PySem.W.Frag) : List V → Hp → VK → Prop := fun xs H Q => ∃ p ys, xs = [.ref p] ∧ SqL K H p ys ∧ ∀ l H2, H l = none → L2.Same H H2 → H2 l = some (.tup ys) → Q (.ref l) H2
theorem call_tupS : CallR X (.type "tuple") (rTupOf X.K) := fun pins s σ H xs us Q I r h => by
 obtain ⟨p, ys, e, hq, q⟩ := h
 exact call_tuple_of pins s σ H xs us Q I r ⟨p, ys, e, .inl ⟨hq, fun l hl => q l _ hl (Br.Same.upd hl) upd_same⟩⟩
def rLstOf (K : PySem.W.Frag) : List V → Hp → VK → Prop := fun xs H Q => ∃ p ys, xs = [.ref p] ∧ (SqL K H p ys ∨ SqT K H p ys) ∧ ∀ l H2, H l = none → L2.Same H H2 → H2 l = some (.lst ys) → Q (.ref l) H2
theorem call_lstS : CallR X (.type "list") (rLstOf X.K) := fun pins s σ H xs us Q I r h => by
 obtain ⟨p, ys, e, hq, q⟩ := h
 exact call_list_of pins s σ H xs us Q I r ⟨p, ys, e, hq, fun l hl => q l _ hl (Br.Same.upd hl) upd_same⟩
theorem op_mulI : OpR X (binaryOp .Mult) (rI IntMulOk fun i j => .int (i * j)) := opI fun _ _ _ _ _ _ _ hc q => mul_int q hc
theorem CMulB.ok {i j : Int} (h : CMulB i j) : IntMulOk i j := IntMulOk.of_bits (bits_of h.1) (bits_of h.2)
theorem boot_list' : bootBuiltins "list" = some (.type "list") := by decide +kernel
theorem boot_tuple' : bootBuiltins "tuple" = some (.type "tuple") := by decide +kernel
end
section
variable {X : Cx} {K : PySem.W.Frag} (hK : X.K = K) {a b c e o d value elt iter : Expr} {es ifs : List Expr} {ta tb te to td ty tv : TE} {tt : TT} {t : TA} {wi : TI} {pos p px py pt spos apos cpos p2 pos' : Pos} {x y z : Str} {i j k : Nat} {scope : Scope}
theorem o_mulI : JOp X .Mult (rI IntMulOk fun i j => .int (i * j)) := ⟨op_mulI⟩
theorem k_seq (hK : X.K = K) {tg l : Expr} {tl : TE} (hl : JE X l tl) : JI X tg l (iSeq K tl) := hK ▸ ⟨pi_seq hl.h⟩
theorem k_slS (hK : X.K = K) {lo hi : Option Expr} {tl th : TO} (he : JE X e te) (hl : JO X lo tl) (hu : JO X hi th) : JE X (.Subscript e (.Slice lo hi none p2) pos) (tSl (rSlS K) te tl th) := hK ▸ ⟨pe_slice sl_S he.h hl.h hu.h⟩
theorem s_dput (hr : Room k X.A) (hs : swapsWith value (some (.Subscript (.Name "counts" p) b pos')) pos.line X.env = pure false) (ho : JE X (.Name "counts" p) td) (hi : JE X b ty) (hv : JE X value tv) : JS X (.Assign [.Subscript (.Name "counts" p) b pos'] value pos) (sDPut td ty tv) :=
 ⟨ps_dput (by have := hr.un; omega) ho.h hi.h hv.h hs⟩
theorem s_ixset (hs : swapsWithSole [.Subscript o b pos'] value pos.line X.env = pure false) (hw : swappedStores [.Subscript o b pos'] value X.env = pure none) (h1 : (assignEach [.Subscript o b pos'] X.env).map (·.2) = [assign (.Subscript o b pos') X.env])
 (ha : ∀ v, assign (.Subscript o b pos') X.env v = (do
  let ov ← holding [v] (eval o X.env)
  let iv ← holding [v, ov] (eval b X.env)
  standAt pos'
  holding [v, ov, iv] (setItem ov iv v)
  release [v, ov, iv] [])) (ho : JE X o to) (hi : JE X b tb) (hv : JE X value tv) : JS X (.Assign [.Subscript o b pos'] value pos) (tAsg tv (gSub to tb rSetL)) := ⟨ps_asg hv.h (pg_sub ho.h hi.h set_list ha) hs hw h1⟩
section
variable (hg : Gl X x) (he : starEach (e :: es) X.env = (false, eval e X.env) :: starEach es X.env) (hpl : (backTo pos (starEach es X.env)).any (·.1) = false)
include hg he hpl
theorem k_tuple (hK : X.K = K) (hx : x = "tuple") (hm : X.mg x = none) (ha : JA X (e :: es) t) : JE X (.Call (.Name x p) (e :: es) [] pos) (tCB (rTupOf K) t) := hK ▸ ⟨by subst hx; exact pe_callTy call_tupS hg hm boot_tuple' ha.h (by decide) (by decide) he hpl⟩
theorem k_listc (hK : X.K = K) (hx : x = "list") (hm : X.mg x = none) (ha : JA X (e :: es) t) : JE X (.Call (.Name x p) (e :: es) [] pos) (tCB (rLstOf K) t) := hK ▸ ⟨by subst hx; exact pe_callTy call_lstS hg hm boot_list' ha.h (by decide) (by decide) he hpl⟩
end
end
section
variable {K : PySem.W.Frag} {a : Addr} {xs : List V} {g : TG} {tt : TT} {te : TE} {σ0 : L2.St} {H0 : Hp} {Z : List V → Hp → Prop}
theorem cmp_tup (Pv : Nat → List V → L2.St → Hp → Prop) (h0 : Pv 0 [] σ0 H0) (hz : xs.length ≤ sizeLine) (hl : ∀ i ys σ H, i ≤ xs.length → Pv i ys σ H → SqT K H a xs ∧ ys.length ≤ i)
 (hs : ∀ i x ys σ H (N : List V → L2.St → Hp → Prop), xs[i]? = some x → Pv i ys σ H → (∀ ys' σ' H', Pv (i + 1) ys' σ' H' → N ys' σ' H') →
  g x σ H fun σ3 H3 => tt σ3 H3 fun b H4 => if b = true then te σ3 H4 fun y H5 => N (ys ++ [y]) σ3 H5 else N ys σ3 H4)
 (hd : ∀ ys σ H, Pv xs.length ys σ H → Z ys H) : Cmp (Itt K a) g tt te σ0 H0 Z := by
 refine ⟨fun i m ys σ H => m = xs.length - i ∧ i ≤ xs.length ∧ Pv i ys σ H, ⟨xs.length, by simp, Nat.zero_le _, h0⟩, ?_⟩
 rintro i m ys σ H ⟨rfl, hi, p⟩
 obtain ⟨q, hy⟩ := hl i ys σ H hi p
 refine ⟨by omega, ?_⟩
 by_cases hlt : i < xs.length
 · refine .inr ⟨⟨xs, xs[i], q, by simp [hlt]⟩, fun x H' y => ?_⟩
   obtain ⟨e, y⟩ := y
   subst e
   exact hs i x ys σ _ (fun ys' σ' H' => ∃ m', m' < xs.length - i ∧ m' = xs.length - (i + 1) ∧ i + 1 ≤ xs.length ∧ Pv (i + 1) ys' σ' H') (y xs q) p fun ys' σ' H' p' => ⟨xs.length - (i + 1), by omega, rfl, hlt, p'⟩
 · have e : i = xs.length := by omega
   subst e
   exact .inl ⟨⟨xs, q, Nat.le_refl _⟩, hd ys σ H p⟩
end
section
variable {prog : Program} {w : World} {A : Around} {E : Value → Shared → Prop} {s : Shared}
theorem tsetAt {c : Addr} {o : Obj} {fs : Array Value} {i : Nat} {x : Value} {Q : Unit → Shared → Prop} (e1 : s.heap.get? c = some o) (e2 : o.data = .fields fs) (hi : i < fs.size)
 (go : ∀ g o', g.get? c = some o' → o'.cls = o.cls → o'.data = .fields (fs.set! i x) → Heap.SameBut c s.heap g → Q () { s with heap := g }) : wpAny (model prog w) A (setField (.ref c) i x) Q E s := by
 refine wpAny_setField e1 e2 hi ?_
 have f : (o.mapFields fun a => a.set! i x).data = .fields (fs.set! i x) := Obj.data_mapFields e2 _
 exact go _ _ (Heap.get?_update_self _ e1 (Obj.isFreed_of_fields f)) (Obj.cls_mapFields ..) f (Heap.SameBut.update ..)
structure Zp (h : Heap) (z u o c1 c2 d e : Addr) (xs ys : Array Value) (k : Nat) : Prop where
 zip : IsZip h z u o .none
 its : IsPair h u (.ref c1) (.ref c2)
 own : ∃ a b, IsPair h o a b
 i1 : h.IsTupleIter c1 d k
 i2 : h.IsTupleIter c2 e k
 t1 : h.IsTuple d xs
 t2 : h.IsTuple e ys
structure Ap (z u o c1 c2 d e : Addr) : Prop where
 ne : [z, u, o, c1, c2].Nodup
 nd : ∀ b ∈ [z, u, o, c1, c2], d ≠ b ∧ e ≠ b
end
theorem preSum_take (ns : List Int) : ∀ n, n ≤ ns.length → preSum (fun i => ns.getD i 0) n = (ns.take n).sum
 | 0, _ => rfl
 | n + 1, h => by
  show preSum _ n + ns.getD n 0 = _
  rw [preSum_take ns n (by omega), List.take_add_one, List.sum_append, List.getD_eq_getElem?_getD, List.getElem?_eq_getElem (by omega)]
  simp
theorem vals_int : ∀ {ns : List Int} {its : List Value} {i : Nat} {v : Value}, Vals (ns.map V.int) its → its[i]? = some v → ∃ n t, ns[i]? = some n ∧ v = .int n t
 | [], _, i, v, r, e => by cases r; simp at e
 | n :: ns, _, i, v, r, e => by
  cases r with
  | cons r rr =>
   cases i with
   | zero => simp at e; subst e; obtain ⟨t, rfl⟩ := r; exact ⟨n, t, rfl, rfl⟩
   | succ i =>
    obtain ⟨n', t, h1, h2⟩ := vals_int (i := i) rr (by simpa using e)
    exact ⟨n', t, by simpa using h1, h2⟩
theorem boot_sum' : bootBuiltins "sum" = some (.builtin "sum") := by decide +kernel
section
variable {X : Cx} {K : PySem.W.Frag} {e elt iter : Expr} {es ifs : List Expr} {te : TE} {tt : TT} {t : TA} {wi : TI} {pos p px py pz pt pt2 spos : Pos} {x y z : Str} {i j k : Nat} {kt kt2 : Nat} {scope : Scope}
theorem g_tup2 (hi : At X.N i x) (hj : At X.N j y) (hc : X.calm = true) (hN : X.N.Nodup) (hx : X.env.scope.names.lookup x = some .local) (hy : X.env.scope.names.lookup y = some .local)
 (h1 : (assignEach [.Name x px, .Name y py] X.env).map (·.2) = assign (.Name x px) X.env :: (assignEach [.Name y py] X.env).map (·.2))
 (h2 : (assignEach [.Name y py] X.env).map (·.2) = assign (.Name y py) X.env :: (assignEach [] X.env).map (·.2))
 (hn : (assignEach [.Name x px, .Name y py] X.env).length = 2) (hst : (assignEach [.Name x px, .Name y py] X.env).findIdx? (·.1) = none) : JG X (.Tuple [.Name x px, .Name y py] kt pt) (gTup X.K 2 (gCons (gName i) (gCons (gName j) gNil))) :=
 ⟨pg_tup hc (pgs_cons (pg_name hN hi.get (.inl hx) (.inr hx)) (pgs_cons (pg_name hN hj.get (.inl hy) (.inr hy)) pgs_nil h2) h1) hn hst⟩
end
structure GInt (mg : Str → Option Value) (x : Str) (n : Int) : Prop where
 is : ∃ t, mg x = some (.int n t)
section
variable {X : Cx} {K : PySem.W.Frag} {o e : Expr} {to : TE} {t : TA} {apos cpos pos p : Pos} {x : Str} {n : Int} {k : Nat}
theorem j_const (g : GInt X.mg x n) (hg : Gl X x) (hd : (x == ("__debug__" : Str)) = false) : JE X (.Name x pos) (tC (.int n)) := ⟨let ⟨t, h⟩ := g.is; pe_glob hg h ⟨t, rfl⟩ hd⟩
end
end Br
namespace Br
end Br
namespace Br
open PySem PySem.Spec PySem.Calls PyProof.Rows L2
section
variable {X : Cx} {K : PySem.W.Frag} {r : List V → V → Hp → VK → Prop} {e dv : Expr} {es : List Expr} {t : TA} {td : TE} {pos p kp : Pos} {x nm : Str} {id : String}
theorem vals_ints : ∀ {ns : List Int} {vs : List Value}, Vals (ns.map V.int) vs → IntsAre vs ns
 | [], _, r => by cases r; exact .nil
 | n :: ns, _, r => by
  cases r with
  | cons r rr =>
   obtain ⟨t, rfl⟩ := r
   exact .cons n t (vals_ints rr)
end
end Br
namespace Br
open PySem PySem.Spec PyProof.Rows L2
end Br
namespace Br
open PySem PySem.Spec PySem.Calls PyProof.Rows L2
section
variable {X : Cx} {K : PySem.W.Frag}
theorem iter_seq {pins : List (Addr × Obj)} {s : Shared} {σ : L2.St} {H : Hp} {p : Addr} {ns : List Int} (hc : X.calm = true) (I : Inv X pins σ H s) (hq : SqL X.K H p (ns.map V.int) ∨ SqT X.K H p (ns.map V.int)) {Q : Value → Shared → Prop} {E : Value → Shared → Prop}
 (h : ∀ (T : String) (its : List Value) (St : Nat → Heap → Prop), its.length = ns.length → (∀ (i : Nat) (v : Value), its.toArray[i]? = some v → ∃ t, v = Value.int (ns.getD i 0) t) →
  Walks X.prog X.w X.A.in1 s.heap.objs.size [s.heap.objs.size, p] [s.heap.objs.size] its.toArray.size (fun i v => its.toArray[i]? = some v) St → St 0 (s.heap.push { cls := .type T, data := .fields #[.ref p, .int 0 0] }) → p < s.heap.objs.size →
  Q (.ref s.heap.objs.size) { s with heap := s.heap.push { cls := .type T, data := .fields #[.ref p, .int 0 0] } }) : wpAny (model X.prog X.w) X.A.in1 (pyIter (.ref p)) Q E s := by
 rcases hq with hq | hq
 · obtain ⟨its, r', pl, hz⟩ := I.list hq
   have hp : p < s.heap.objs.size := by obtain ⟨_, _, e, _⟩ := pl; exact Heap.lt_size e
   have hl : its.length = ns.length := by rw [← r'.length, List.length_map]
   exact wpAny_pyIter_list pl.isList (h "list_iterator" its _ hl (fun i v e => by
    obtain ⟨n, t, h1, h2⟩ := vals_int r' (by simpa using e)
    exact ⟨t, by rw [h2, List.getD_eq_getElem?_getD, h1]; rfl⟩) (Walks.list (A := X.A.in1) (I.ok.hd hc) s.heap.objs.size p (Nat.ne_of_lt hp) its.toArray) ⟨⟨_, Heap.get?_push_size _ rfl, rfl, rfl⟩, pl.isList.at fun o e => Heap.get?_push_of_some _ e⟩ hp)
 · obtain ⟨its, r', pl, hz⟩ := I.tuple hq
   have pl' : s.heap.IsTuple p its.toArray := pl
   have hp : p < s.heap.objs.size := by obtain ⟨_, e, _⟩ := pl; exact Heap.lt_size e
   have hl : its.length = ns.length := by rw [← r'.length, List.length_map]
   exact wpAny_pyIter_tuple pl' (h "tuple_iterator" its _ hl (fun i v e => by
    obtain ⟨n, t, h1, h2⟩ := vals_int r' (by simpa using e)
    exact ⟨t, by rw [h2, List.getD_eq_getElem?_getD, h1]; rfl⟩) (Walks.tuple (A := X.A.in1) (I.ok.hd hc) s.heap.objs.size p (Nat.ne_of_lt hp) its.toArray) ⟨⟨_, Heap.get?_push_size _ rfl, rfl, rfl⟩, pl'.at fun o e => Heap.get?_push_of_some _ e⟩ hp)
theorem fp_lt {s : Shared} {p : Addr} {o : Obj} (hp : p < s.heap.objs.size) : ∀ b ∈ [s.heap.objs.size, p], b < (s.heap.push o).objs.size := fun b hb => by
 rw [Heap.size_push]
 rcases List.mem_cons.mp hb with e | hb
 · rw [e]; exact Nat.lt_succ_self _
 · rw [List.mem_singleton.mp hb]; exact Nat.lt_succ_of_lt hp
def rSumS (K : PySem.W.Frag) : List V → Hp → VK → Prop := fun xs H Q => ∃ (p : Addr) (ns : List Int), xs = [.ref p] ∧ (SqL K H p (ns.map V.int) ∨ SqT K H p (ns.map V.int)) ∧ Q (.int ns.sum) H
theorem call_sumS (hc : X.calm = true) : CallR X (.builtin "sum") (rSumS X.K) := by
 intro pins s σ H xs us Q I r h
 obtain ⟨p, ns, rfl, hq, q⟩ := h
 obtain ⟨u, rfl, rx⟩ := vals1 r
 cases rx
 refine call_sum_walkAnyS (iter_seq hc I hq fun T its St hl hval W st hp => ⟨s.heap.objs.size, _, _, _, _, _, _, fun i => ns.getD i 0, rfl, W.toS, st, fp_lt hp, fun i v e => hval i v e, fun s' t' hm => ?_⟩)
 rw [List.size_toArray, hl, preSum_take ns _ (Nat.le_refl _), List.take_length]
 have hk : ∀ b o, s.heap.get? b = some o → s'.heap.get? b = some o := fun b o e => hm.heap b o (fun hI => absurd (Heap.lt_size e) (by rw [List.mem_singleton.mp hI]; exact Nat.lt_irrefl _)) (Heap.get?_push_of_some _ e)
 rw [Moved.eq_with hm]
 exact ⟨.int ns.sum, H, I.kept hk, ⟨t', rfl⟩, q⟩
def rCatTA (K : PySem.W.Frag) : R2 := fun x y H Q => ∃ a b xs ys, x = .ref a ∧ y = .ref b ∧ SqT K H a xs ∧ SqT K H b ys ∧ xs.length + ys.length ≤ sizeLine ∧ ∀ p H2, L2.Same H H2 → SqT K H2 p (xs ++ ys) → Q (.ref p) H2
theorem op_catTA : OpR X (binaryOp .Add) (rCatTA X.K) := fun pins s σ H x y v u Q I rx ry h => by
 obtain ⟨a, b, xs, ys, e1, e2, h1, h2, hz, q⟩ := h
 by_cases hx : xs = []
 · subst e1; subst e2; subst hx
   cases rx; cases ry
   obtain ⟨its, r1, p1, _⟩ := I.tuple h1
   obtain ⟨its2, r2, p2, _⟩ := I.tuple h2
   have hv : its = [] := r1.nil_iff.mpr rfl
   obtain ⟨⟨cls, dd, data, sl⟩, ho, hc, n, hd⟩ := id p1
   obtain ⟨⟨cls2, dd2, data2, sl2⟩, ho2, hc2, n2, hd2⟩ := id p2
   simp only at hc hd hc2 hd2
   subst hc hd hc2 hd2
   exact concat_meets ⟨_, ho, rfl⟩ ⟨_, ho2, rfl⟩ noFill_tuple_add seq_tuple_add PySem.F.slot_tuple_add PySem.F.entry_tuple_add (PySem.F.args_tuple_add_2 _ _)
    (tuple_addW0 a b its.toArray its2.toArray n n2 dd dd2 sl sl2 (by simp [hv])) ⟨ho, ho2, ⟨.ref b, H, I, rfl, q b H (L2.Same.refl _) h2⟩⟩
 · exact op_catTS pins s σ H x y v u Q I rx ry ⟨a, b, xs, ys, e1, e2, h1, h2, hx, hz, q⟩
end
section
variable {X : Cx} {K : PySem.W.Frag} {a b c e o : Expr} {es : List Expr} {ta tb tc te to : TE} {t : TA} {pos p apos cpos : Pos} {x : Str} {k : Nat} {op op' : CmpOp} {r r' : R2}
theorem k_addA (hK : X.K = K) : JOp X .Add (fun x y H Q => rI0 (fun i j => .int (i + j)) x y H Q ∨ rCatS x y H Q ∨ rCatTA K x y H Q) := hK ▸ ⟨op_add.or (op_catS.or op_catTA)⟩
section
variable (hg : Gl X x) (he : starEach (e :: es) X.env = (false, eval e X.env) :: starEach es X.env) (hpl : (backTo pos (starEach es X.env)).any (·.1) = false)
include hg he hpl
theorem k_sumS (hK : X.K = K) (hx : x = "sum") (hc : X.calm = true) (hm : X.mg x = none) (ha : JA X (e :: es) t) : JE X (.Call (.Name x p) (e :: es) [] pos) (tCB (rSumS K) t) := hK ▸ ⟨by subst hx; exact pe_callB (call_sumS hc) hg hm boot_sum' ha.h (by decide) (by decide) he hpl⟩
end
theorem j_chain (hm : lastMarks [op, op'] [b, c] = false) (ho : JCop X op r) (ho' : JCop X op' r') (ha : JE X a ta) (hb : JE X b tb) (hc : JE X c tc) : JE X (.Compare a [op, op'] [b, c] pos) (tChain r r' ta tb tc) := ⟨pe_chain ho.h ho'.h ha.h hb.h hc.h hm⟩
def rRepS : R2 := fun x y H Q => ∃ l k xs, x = .ref l ∧ y = .int k ∧ H l = some (.lst xs) ∧ -(2 ^ 63) ≤ k ∧ k < 2 ^ 63 ∧ xs.length * k.toNat ≤ sizeLine ∧ ∀ p H2, H p = none → L2.Same H H2 → H2 p = some (.lst (List.replicate k.toNat xs).flatten) → Q (.ref p) H2
theorem op_repS : OpR X (binaryOp .Mult) rRepS := fun pins s σ H x y v u Q I rx ry h => by
 obtain ⟨l, k, xs, e1, e2, h1, h2, h3, h4, q⟩ := h
 exact op_rep pins s σ H x y v u Q I rx ry ⟨l, k, xs, e1, e2, h1, h2, h3, h4, fun p hp => q p _ hp (Br.Same.upd hp) upd_same⟩
theorem j_repL (ha : JE X (.List es p) ta) (hb : JE X b tb) : JE X (.BinOp (.List es p) .Mult b pos) (tOp rRepS ta tb) := ⟨r_bin op_repS ha.h hb.h⟩
theorem k_extend (hK : X.K = K) (hbase : attributeBase o "extend" X.env (eval o X.env) = eval o X.env) (hfew : ((backTo cpos (starEach [e] X.env)).all (fun x => !x.1) && (backToKw cpos (keywordEach [] X.env)).all (fun x => x.1.isSome)
 && decide (([e] : List Expr).length + ([] : List Keyword).length + (if ([] : List Keyword).isEmpty then 0 else 1) < 30)) = true) (hline : (apos.endLine == cpos.line) = true) (hs : starEach [e] X.env = (false, eval e X.env) :: starEach [] X.env)
 (hpl : (backTo cpos (starEach [] X.env)).any (·.1) = false) (ho : JE X o to) (ha : JA X [e] t) : JE X (.Call (.Attribute o "extend" apos) [e] [] cpos) (tBM K "list" rExtend to t) :=
 hK ▸ ⟨pe_bm PySem.F.plainAttrs_list PySem.F.slot_list_extend PySem.F.type_list_extend mt_extend ho.h ha.h hbase hfew hline hs hpl⟩
end
end Br
namespace Br
end Br
namespace Br
open PySem PySem.Spec PySem.Calls PyProof.Rows L2
structure RoomH (k : Nat) (A : Around) : Prop where
 dp : A.depth + 3 * k + 5 < recursionLimit
 un : A.units + 16 * k + 200 < cLine
theorem RoomH.depth {k : Nat} {A : Around} (r : RoomH k A) : A.depth < recursionLimit := by have := r.dp; omega
theorem RoomH.deeper {k : Nat} {A : Around} (r : RoomH (k + 1) A) (env : Env) : RoomH k (A.deeper env) :=
 ⟨by have := r.dp; show A.depth + 1 + 3 * k + 5 < _; omega, by have := r.un; show A.units + 3 + 16 * k + 200 < _; omega⟩
theorem RoomH.mark {k j : Nat} {A : Around} {v : Option Value} (r : Room k A) (h : j ≤ k) : RoomH j (A.mark v) := ⟨by have := r.dp; show A.depth + 3 * j + 5 < _; omega, by have := r.un; show A.units + 16 * j + 200 < _; omega⟩
structure FnOkH (P : Program) (w : World) (K : PySem.W.Frag) (mg : Str → Option Value) (base : Heap) (CX : CXT) (k : Nat) (f : Addr) (fd : FuncData) (ps : List Str) (sp : Sp) : Prop where
 len : ∀ vs H Q E, sp vs H Q E → vs.length = ps.length
 run : ∀ (A : Around) (outer : List Env) (s : Shared) (H : Hp) (args : Args) (us : List Value) (vs : List V) (Q : VK) (E : XK), RoomH k A → Env0 P w K mg base A outer s H → BindsTo s fd args (ps.zip us) → Vals vs us → sp vs H Q E →
  codeAny (model P w) A (.call (.ref f) args) (CR CX outer P w H s Q E) s
def cxOfH (CX : CXT) (P : Program) (w : World) (K : PySem.W.Frag) (mg : Str → Option Value) (base : Heap) (N : List Str) (qual : Str) (scope : Scope) (f : Addr) (cd : Value) (A : Around) (outer : List Env) (s : Shared) (H : Hp) (E : XK) : Cx where
 prog := P
 w := w
 K := K
 mg := mg
 base := base
 A := A.deeper (envOfC qual scope s.heap.objs.size f cd)
 N := N
 s₀ := s
 H₀ := H
 env := envOfC qual scope s.heap.objs.size f cd
 outer := outer
 stack := envOfC qual scope s.heap.objs.size f cd :: outer
 ex := []
 calm := false
 fn := fun _ => true
 pn := []
 xe := fun e s' => wpAny (model P w) (A.deeper (envOfC qual scope s.heap.objs.size f cd)) (leaving (envOfC qual scope s.heap.objs.size f cd) e) (fun _ s'' => CX outer H s E e s'') (fun e' s'' => CX outer H s E e' s'') s'
theorem inv_startH {CX : CXT} {P : Program} {w : World} {K : PySem.W.Frag} {mg : Str → Option Value} {base : Heap} {N ps : List Str} {qual : Str} {scope : Scope} {f : Addr} {cd : Value} {A : Around} {outer : List Env} {s s1 : Shared} {H : Hp} {E : XK} {us : List Value} {vs : List V}
 (S : FnScope N ps scope) (e0 : Env0 P w K mg base A outer s H) (hl : vs.length = ps.length) (r : Vals vs us)
 (x : InCallC s s.heap.objs.size (bindL (envOfC qual scope s.heap.objs.size f cd).kindOf (ps.zip us) fun _ => none) (cellsFrom (s.heap.objs.size + 1) scope.names []) (bindC (envOfC qual scope s.heap.objs.size f cd).kindOf (ps.zip us) fun _ => none) s1) :
 Inv (cxOfH CX P w K mg base N qual scope f cd A outer s H E) [] (L2.start N vs) H s1 := by
 have hpl : ps.length ≤ N.length := by have := congrArg List.length S.pre; rw [List.length_take] at this; omega
 obtain ⟨h1, tk, rfl, hk⟩ := x.done
 have noA : ∀ b : Addr, b ∉ (cxOfH CX P w K mg base N qual scope f cd A outer s H E).ex := fun b z => absurd (show b ∈ ([] : List Addr) from z) (by simp)
 refine ⟨⟨e0.mod, S.kind, rfl, rfl, Nat.le_refl _, fun y z c h1 h2 => ?_, fun y hy => ?_, fun y c _ h => ?_, fun z => absurd (show false = true from z) Bool.false_ne_true, Around.frames_deeper e0.frames, .inr ⟨rfl, rfl⟩, fun b z => absurd z (noA b), e0.bs, e0.bsz, fun b _ _ => noA b, fun b z => absurd z (noA b), e0.funs, e0.frf⟩,
  rfl, e0.bare, Un.kept hk, ⟨_, x.toInCall.ns, fun i y v h1 h2 h3 => ?_⟩, fun y c h => ⟨_, x.cell y c h⟩, e0.hok.fresh (Nat.le_refl _), fun y c h => ?_, fun p hp => absurd (show p ∈ ([] : List (Addr × Obj)) from hp) (by simp), e0.hok.kept hk, ?_⟩
 · exact name_of_addr x.apart (PySem.mem_of_lookup h1) (PySem.mem_of_lookup h2)
 · have hy : scope.names.lookup y = some .cell ∨ scope.names.lookup y = some .free := hy
   rcases hy with hy | hy
   · exact cell_has hy
   · exact absurd rfl (S.nofree _ (PySem.mem_of_lookup hy))
 · exact Nat.le_of_lt (x.above y c (PySem.mem_of_lookup h))
 · have hi : i < vs.length := by
    unfold L2.start at h2
    by_cases hi : i < vs.length
    · exact hi
    · rw [List.getElem?_append_right (by simpa using hi)] at h2
      rw [List.getElem?_replicate] at h2
      split at h2 <;> cases h2
   have ha : vs[i]? = some v := by
    unfold L2.start at h2
    rw [List.getElem?_append_left (by simpa using hi), List.getElem?_map] at h2
    cases e : vs[i]? with
    | none => rw [e] at h2; cases h2
    | some a => rw [e] at h2; cases h2; rfl
   obtain ⟨u, hu, rv⟩ := r.get ha
   have hp : ps[i]? = some y := by
    rw [← S.pre, List.getElem?_take_of_lt (by omega)]; exact h1
   have ndP : ps.Nodup := by rw [← S.pre]; exact S.nd.sublist (List.take_sublist _ _)
   refine ⟨u, rv, ?_⟩
   rcases S.par y (List.mem_of_getElem? hp) with k | k
   · exact .inl ⟨k, bindL_get ndP hp hu k⟩
   · obtain ⟨c, e⟩ := cell_has (n := s.heap.objs.size + 1) k
     refine .inr ⟨.inl k, c, e, ?_⟩
     have q := x.cell y c e
     rw [bindC_get ndP hp hu (by show scope.names.lookup y ≠ _; rw [k]; decide)] at q
     exact q
 · exact e0.hok.fresh (Nat.le_of_lt (x.above y c (PySem.mem_of_lookup h)))
 · unfold L2.start
   show _ = N.length
   rw [List.length_append, List.length_map, List.length_replicate]
   omega
theorem fn_ofH {CX : CXT} {P : Program} {w : World} {K : PySem.W.Frag} {mg : Str → Option Value} {base : Heap} {k : Nat} {f : Addr} {name qual : Str} {params : Arguments} {body : List Stmt} {scope : Scope} {dV kV doc pm cdv ct oc : Value} {an od : Option Addr}
 {osl : Array (Option Value)} {N ps : List Str} {sp : Sp} (lk : K.lookup f = some ⟨oc, od, .func (PySem.W.fnOf name qual params body scope dV kV doc pm an cdv ct), osl⟩) (hcd : PySem.W.codeIn K cdv qual = true) (S : FnScope N ps scope)
 (len : ∀ vs H Q E, sp vs H Q E → vs.length = ps.length)
 (hbody : ∀ (A : Around) (outer : List Env) (s : Shared) (H : Hp) (vs : List V) (Q : VK) (E : XK), RoomH k (A.deeper (envOfC qual scope s.heap.objs.size f cdv)) → sp vs H Q E →
  ∃ t, PSs (cxOfH CX P w K mg base N qual scope f cdv A outer s H E) body t ∧ t { nx := fun _ H' => Q .non H', rt := Q } (L2.start N vs) H) :
 FnOkH P w K mg base CX (k + 1) f (PySem.W.fnOf name qual params body scope dV kV doc pm an cdv ct) ps sp := by
 refine ⟨len, fun A outer s H args us vs Q E hr e0 hb r hsp => ?_⟩
 have hl := len _ _ _ _ hsp
 have KX : K.In s.heap := e0.mod.kin.keeps fun b o e => (e0.bs b o e).1
 have lim : s.heap.NoLimit := e0.mod.nolimit.keeps fun b o e => (e0.bs b o e).1
 have hkind : ∀ y ∈ ps.zip us, scope.names.lookup y.1 = some .local ∨ (scope.names.lookup y.1 = some .cell ∧ ((cellsFrom (s.heap.objs.size + 1) scope.names []).lookup y.1).isSome = true) := fun ⟨n, v⟩ hy => by
  rcases S.par n (List.of_mem_zip hy).1 with q | q
  · exact .inl q
  · exact .inr ⟨q, PySem.W.cellsFrom_some _ _ _ (.inl q)⟩
 refine codeAny_call_function hr.depth (KX _ _ lk) rfl S.co S.gen rfl (PySem.W.codeRec_of KX hcd) (hb _ _ _ _ ?_)
 refine wpAny_newFunctionEnv_cells S.kind hkind fun env he s1 x => ?_
 subst he
 refine ⟨lim.keeps x.toInCall.keep, codeAny_func ?_⟩
 obtain ⟨t, ht, hq⟩ := hbody A outer s H vs Q E (hr.deeper _) hsp
 have I : Inv (cxOfH CX P w K mg base N qual scope f cdv A outer s H E) [] (L2.start N vs) H s1 := inv_startH S e0 hl r x
 refine wpAny_mono (ht [] s1 (L2.start N vs) H _ I hq) (fun fl s' hs => ?_) fun e s' hs => hs
 have fin : ∀ {σ' : L2.St} {H' : Hp} {v : V} {u : Value}, Inv (cxOfH CX P w K mg base N qual scope f cdv A outer s H E) [] σ' H' s' → RelV v u → Q v H' → CE outer P w H s Q u s' :=
  fun {σ' H' v u} J rv q => ⟨v, H', J.os, J.bare, J.base, J.hok, rv, q⟩
 cases fl with
 | ret u =>
  obtain ⟨v, σ', H', J, rv, q⟩ := hs
  exact fin J rv q
 | next =>
  obtain ⟨σ', H', J, q⟩ := hs
  exact fin (v := V.non) (u := Value.none) J rfl q
 | brk =>
  obtain ⟨_, _, _, q⟩ := hs
  exact False.elim q
 | cont =>
  obtain ⟨_, _, _, q⟩ := hs
  exact False.elim q
section
variable {P : Program} {w : World} {K : PySem.W.Frag} {mg : Str → Option Value} {base : Heap} {x qual : Str} {st : Stmt} {f : Addr} {fd : FuncData} {N ps : List Str} {k : Nat} {sp : Sp}
theorem Fun.jH (F : Fun K x qual st f fd) (S : FnScope N ps (defScope st)) (len : ∀ vs H Q E, sp vs H Q E → vs.length = ps.length)
 (hbody : ∀ (cdv : Value) (A : Around) (outer : List Env) (s : Shared) (H : Hp) (vs : List V) (Q : VK) (E : XK), RoomH k (A.deeper (envOfC qual (defScope st) s.heap.objs.size f cdv)) → sp vs H Q E →
  ∃ t, JSs (cxOfH CX0 P w K mg base N qual (defScope st) f cdv A outer s H E).nox (defBody st) t ∧ t { nx := fun _ H' => Q .non H', rt := Q } (start N vs) H) : FnOkH P w K mg base CX0 (k + 1) f fd ps sp := by
 obtain ⟨oc, od, kV, doc, pm, an, cdv, ct, osl, rfl, lk, hcd⟩ := F.ex
 refine fn_ofH lk hcd S len fun A outer s H vs Q E hr hsp => ?_
 obtain ⟨t, h, q⟩ := hbody cdv A outer s H vs Q E hr hsp
 exact ⟨t, h.h.nox, q⟩
end
structure CalleeH (CX : CXT) (P : Program) (w : World) (K : PySem.W.Frag) (mg : Str → Option Value) (base : Heap) (x : Str) (k : Nat) (ps : List Str) (sp : Sp) : Prop where
 ex : ∃ f fd, FnOkH P w K mg base CX k f fd ps sp ∧ mg x = some (.ref f) ∧ PySem.W.keepIn K (.ref f) = true ∧ Binds K fd ps []
section
variable {X : Cx} {CX : CXT} {k : Nat} {ps : List Str} {sp : Sp} {E : XK} {x : Str} {p pos : Pos} {e : Expr} {es : List Expr} {t : TA}
theorem run_fnH {f : Addr} {fd : FuncData} {pins : List (Addr × Obj)} {σ : L2.St} {H : Hp} {s : Shared} {Q : VK} {us : List Value} {vs : List V} (F : FnOkH X.prog X.w X.K X.mg X.base CX k f fd ps sp) (hr : RoomH k X.A) (hb : Binds X.K fd ps []) (hx : Passes CX X E)
 (I : Inv X pins σ H s) (r : Vals vs us) (h : sp vs H Q E) : wpAny (model X.prog X.w) X.A (call (.ref f) us) (EP X pins σ Q) X.xe s := by
 have hl : us.length = ps.length := by rw [← r.length]; exact F.len _ _ _ _ h
 have hb' := hb s us I.kIn (by simpa using hl)
 rw [List.append_nil] at hb'
 refine wpAny_call (codeAny_mono (F.run X.A X.stack s H ⟨us, []⟩ us vs Q E hr I.env0 hb' r h) fun r s' hq => ?_)
 cases r with
 | error e => exact hx pins σ H s e s' I hq
 | ok fl =>
  cases fl with
  | ret u => exact I.after hq
  | next => exact False.elim hq
  | brk => exact False.elim hq
  | cont => exact False.elim hq
theorem j_callH (c : CalleeH CX0 X.prog X.w X.K X.mg X.base x k ps sp) (hr : RoomH k X.A) (hg : Gl X x) (hdb : (x == ("__debug__" : Str)) = false)
 (he : starEach (e :: es) X.env = (false, eval e X.env) :: starEach es X.env) (hpl : (backTo pos (starEach es X.env)).any (·.1) = false) (ha : JA X (e :: es) t) : JE X (.Call (.Name x p) (e :: es) [] pos) (tCall sp [] E0 t) := ⟨by
 obtain ⟨f, fd, F, hm, hk, hb⟩ := c.ex
 intro pins s σ H Q I h
 refine wpAny_Call_Name_kw (ld_glob I hg hm ?_ hdb)
 refine PySem.W.callWith_K (h₀ := X.base) I.ok.mod.kin hk (thn (ha.h pos pins s σ H _ I h) fun us s1 ⟨vs, H1, I1, r, q⟩ => ⟨I1.kIn, ?_⟩) he hpl
 have q : sp (vs ++ []) H1 Q E0 := q
 rw [List.append_nil] at q
 exact run_fnH F hr hb pass0 I1 r q⟩
end
theorem seqT {K : PySem.W.Frag} {H H' : Hp} {a : Addr} {xs : List V} (e : L2.Same H H') (h : SqT K H a xs) : SqT K H' a xs := by
 rcases h with (h | ⟨o, h⟩) | h
 · exact .inl (.inl (e _ _ h))
 · exact .inl (.inr ⟨o, e _ _ h⟩)
 · exact .inr h
section
variable {prog : Program} {w : World} {A : Around} {E : Value → Shared → Prop} {s : Shared}
def PureLt (prog : Program) (w : World) (A : Around) (s : Shared) (κ : SortKind) (kz : Array Keyed) (lt : Keyed → Keyed → Bool) : Prop :=
 ∀ x y : Keyed, x ∈ kz.toList → y ∈ kz.toList → ∀ (Q : Bool → Shared → Prop) (E : Value → Shared → Prop), Q (lt x y) s → wpAny (model prog w) A (keyLt' κ x.1 y.1) Q E s
theorem pure_lt {κ : SortKind} {kz : Array Keyed} {lt : Keyed → Keyed → Bool} {st : SortSt} {x y : Keyed} {Q : Option Bool → SortSt → Prop} (c : PureLt prog w A s κ kz lt) (hk : kindOf st = κ) (hx : x ∈ kz.toList) (hy : y ∈ kz.toList) (h : Q (some (lt x y)) st) :
 wpS (model prog w) A E s (lt' x y) Q st := by
 rw [lt'_eq]
 refine wpS_bind (wpS_get ?_)
 rw [hk]
 exact wpS_bind (wpS_lift (wpAny_attempt (c x y hx hy _ _ ⟨rfl, wpS_pure h⟩)))
theorem pure_ltAt {κ : SortKind} {kz : Array Keyed} {lt : Keyed → Keyed → Bool} {st : SortSt} {i j : Nat} {x y : Keyed} {Q : Option Bool → SortSt → Prop} (c : PureLt prog w A s κ kz lt) (hk : kindOf st = κ) (hi : (arrOf st)[i]? = some x) (hj : (arrOf st)[j]? = some y)
 (hx : x ∈ kz.toList) (hy : y ∈ kz.toList) (h : Q (some (lt x y)) st) : wpS (model prog w) A E s (ltAt' i j) Q st := by
 rw [ltAt'_eq]
 refine wpS_bind (wpS_get ?_)
 show wpS _ _ _ _ (do let x ← elem' (arrOf st) i; let y ← elem' (arrOf st) j; lt' x y) Q st
 rw [elem'_eq, elem'_eq, hi, hj]
 exact wpS_bind (wpS_pure (wpS_bind (wpS_pure (pure_lt c hk hx hy h))))
theorem sort_any {a : Addr} {vs : List Value} {c : Nat} {R : Array Value → Prop} {P : Fin → Shared → Prop} (at_ : s.heap.get? a = some (seqObj "list" vs.toArray c)) (hz : vs.length ≤ sizeLine) (h1 : vs.length < 2 → R vs.toArray)
 (hr : 2 ≤ vs.length → ∀ h6 : Heap, (∀ b o, b ≠ a → s.heap.get? b = some o → h6.get? b = some o) → wpAny (model prog w) A (keyKind' vs.toArray) (fun κ s7 => s7 = { s with heap := h6 } ∧
  wpS (model prog w) A E { s with heap := h6 } sortRuns' (fun _ v => failedOf v = none ∧ (arrOf v).size = vs.length ∧ R ((arrOf v).map (·.2))) (SortSt.mk' κ (pairsOf vs) #[] 7 none)) E { s with heap := h6 })
 (q : ∀ out : Array Value, out.size = vs.length → R out → P (.done (.ret .none)) { s with heap := sortedHeap s.heap a vs out }) : wpAny (model prog w) A (Builtin.«list.sort» ⟨[.ref a], []⟩) P E s := by
 rw [list_sort_plain]
 have la : a < s.heap.objs.size := Heap.lt_size at_
 refine wpAny_bind (listItems_at at_ rfl (wpAny_bind (listUpdate_at at_ rfl ?_)))
 obtain ⟨c1, at1⟩ : ∃ c1, (s.heap.update a (Obj.mapSeq fun _ => #[])).get? a = some (seqObj "list" #[] c1) := ⟨_, get?_update_seq at_ (fun _ => #[])⟩
 refine wpAny_bind (seqEpoch_at at1 rfl (wpAny_bind (wpAny_newTuple (wpAny_bind (wpAny_newList (wpAny_holding ?_))) (by show vs.toArray.toList.length ≤ _; simpa using hz))))
 have at2 : (((s.heap.update a (Obj.mapSeq fun _ => #[])).push (seqObj "tuple" vs.toArray 0)).push (seqObj "list" #[] 0)).get? a = some (seqObj "list" #[] c1) := by
  rw [Heap.get?_push_ne, Heap.get?_push_ne]
  · exact at1
  · rw [Heap.size_update]; exact Nat.ne_of_lt la
  · rw [size_push', Heap.size_update]; exact Nat.ne_of_lt (Nat.lt_succ_of_lt la)
 have old : ∀ b o, b ≠ a → s.heap.get? b = some o → (((s.heap.update a (Obj.mapSeq fun _ => #[])).push (seqObj "tuple" vs.toArray 0)).push (seqObj "list" #[] 0)).get? b = some o := fun b o hb e =>
  Heap.get?_push_of_some _ (Heap.get?_push_of_some _ ((Heap.get?_update_other _ _ (Ne.symm hb)).trans e))
 show wpAny (model prog w) A _ P E { s with heap := ((s.heap.update a (Obj.mapSeq fun _ => #[])).push (seqObj "tuple" vs.toArray 0)).push (seqObj "list" #[] 0) }
 dsimp only
 by_cases few : vs.toArray.size < 2
 · rw [if_pos few, if_pos few]
   refine wpAny_bind (wpAny_pure ?_)
   rw [StateT.run_pure]
   refine wpAny_bind (wpAny_pure ?_)
   dsimp only
   refine wpAny_bind (seqEpoch_at at2 rfl (wpAny_bind (listUpdate_at at2 rfl ?_ (hsz2 := by rw [Array.size_map]; show (pairsOf vs).size ≤ _; rw [pairsOf_size]; omega))))
   simp only [bne_self_eq_false, Bool.false_eq_true, if_false]
   have e2 : (vs.toArray.zip vs.toArray).map (·.2) = vs.toArray := by
    have : ((vs.zip vs).map (·.2)) = vs := List.map_snd_zip (Nat.le_refl _)
    apply Array.toList_inj.mp
    simpa using this
   refine wpAny_pure ?_
   have := q vs.toArray (by simp) (h1 (by simpa using few))
   rw [← e2] at this
   exact this
 · rw [if_neg few, if_neg few]
   refine wpAny_bind (wpAny_mono (hr (by simp at few; omega) _ old) ?_ fun _ _ e => e)
   rintro κ s' ⟨rfl, hw⟩
   refine wpAny_bind (wpAny_mono hw ?_ fun _ _ e => e)
   rintro ⟨⟨⟩, v⟩ s' ⟨rfl, y1, y2, y3⟩
   dsimp only
   refine wpAny_bind (seqEpoch_at at2 rfl (wpAny_bind (listUpdate_at at2 rfl ?_ (hsz2 := Nat.le_trans (Nat.le_of_eq ((Array.size_map ..).trans y2)) (by omega)))))
   rw [y1]
   simp only [bne_self_eq_false, Bool.false_eq_true, if_false]
   exact wpAny_pure (q _ ((Array.size_map ..).trans y2) y3)
end
section
variable {prog : Program} {w : World} {A : Around} {E : Value → Shared → Prop} {s : Shared}
theorem katLex_ints {fin : Bool} {X Y : Nat} (hf : fin = decide (X < Y)) : ∀ {vs ws : List Value} {ns ms : List Int} {i : Nat} {Q : Bool → Shared → Prop}, IntsAre vs ns → IntsAre ws ms → ns.length + Y = ms.length + X → Q (HT.lexLt ns ms) s → PySem.W.KatLex prog w A true fin Q (vs.zip ws) i s
 | _, _, _, _, i, Q, .nil, .nil, hl, h => by
  have : fin = false := by rw [hf]; exact decide_eq_false (by simp at hl; omega)
  rw [HT.lexLt_nil_nil, ← this] at h
  exact PySem.W.kat_nil h
 | _, _, _, _, i, Q, .nil, .cons c u r, hl, h => by
  have : fin = true := by rw [hf]; exact decide_eq_true (by simp at hl; omega)
  rw [HT.lexLt_nil_cons, ← this] at h
  exact PySem.W.kat_nil h
 | _, _, _, _, i, Q, .cons c u r, .nil, hl, h => by
  have : fin = false := by rw [hf]; exact decide_eq_false (by simp at hl; omega)
  rw [HT.lexLt_cons_nil, ← this] at h
  exact PySem.W.kat_nil h
 | _, _, _, _, i, Q, .cons a t r, .cons c u r', hl, h => by
  rw [HT.lexLt_cons] at h
  refine PySem.W.kat_cons (wpAny_eqBool_int ?_)
  by_cases e : a = c
  · rw [if_pos e] at h
    subst e
    rw [show (a == a) = true by simp]
    exact PySem.W.kat_yes (katLex_ints hf r r' (by simp at hl; omega) h)
  · rw [if_neg e] at h
    rw [show (a == c) = false by simpa using e]
    refine PySem.W.kat_no ?_
    cases (true && i == 0) with
    | true => exact oneLt_int h
    | false => exact PySem.W.kat_one _ _ (HT.rcLt_int A s a t c u prog w _ _ h)
end
def tkey (H : Hp) : Value → List Int
 | .ref a => match H a with
  | some (.tup xs) => xs.map fun v => match v with | .int i => i | _ => 0
  | _ => []
 | _ => []
theorem tkey_of {H : Hp} {a : Addr} {w : List Int} (h : H a = some (.tup (w.map V.int))) : tkey H (.ref a) = w := by
 show (match H a with | some (.tup xs) => xs.map (fun v => match v with | .int i => i | _ => 0) | _ => []) = w
 rw [h]
 show ((w.map V.int).map _) = w
 rw [List.map_map]
 exact (List.map_congr_left fun x _ => rfl).trans (List.map_id _)
namespace Tim
def gallop' : Bool → Keyed → Array Keyed → Nat → Nat → Nat → StateT SortSt Sem (Option Nat) := sortPriv% PySem.Builtin.gallop
def mergeLo' : Array Keyed → Array Keyed → StateT SortSt Sem (Array Keyed) := sortPriv% PySem.Builtin.mergeLo
def mergeHi' : Array Keyed → Array Keyed → StateT SortSt Sem (Array Keyed) := sortPriv% PySem.Builtin.mergeHi
def askB (lf : Bool) (ky : Keyed) (ar : Array Keyed) (bs i : Nat) : StateT SortSt Sem (Option Bool) := do
 let e ← elem' ar (bs + i)
 if lf then lt' e ky else return (← lt' ky e).map (!·)
theorem gallop'_eq (lf : Bool) (ky : Keyed) (ar : Array Keyed) (bs cnt hn : Nat) : gallop' lf ky ar bs cnt hn = (do
 let mut prv := 0
 let mut cur := 1
 let mut lw := 0
 let mut up := 0
 let some rt ← askB lf ky ar bs hn | return none
 if rt then
  let mx := cnt - hn
  for _ in [0:cnt] do
   if cur ≥ mx then break
   let some mr ← askB lf ky ar bs (hn + cur) | return none
   if !mr then break
   prv := cur
   cur := 2 * cur + 1
  lw := hn + prv + 1
  up := hn + min cur mx
 else
  let mx := hn + 1
  for _ in [0:cnt] do
   if cur ≥ mx then break
   let some fd ← askB lf ky ar bs (hn - cur) | return none
   if fd then break
   prv := cur
   cur := 2 * cur + 1
  lw := hn + 1 - min cur mx
  up := hn - prv
 for _ in [0:cnt] do
  if lw ≥ up then break
  let md := lw + (up - lw) / 2
  let some mr ← askB lf ky ar bs md | return none
  if mr then lw := md + 1 else up := md
 return some up) := rfl
def binP (lf : Bool) (ky : Keyed) (ar : Array Keyed) (bs cnt lw0 up0 : Nat) : StateT SortSt Sem (Option Nat) := do
 let mut lw := lw0
 let mut up := up0
 for _ in [0:cnt] do
  if lw ≥ up then break
  let md := lw + (up - lw) / 2
  let some mr ← askB lf ky ar bs md | return none
  if mr then lw := md + 1 else up := md
 return some up
structure Ord (lt : Keyed → Keyed → Bool) : Prop where
 irr : ∀ a, lt a a = false
 asy : ∀ a b, lt a b = true → lt b a = false
 tr : ∀ a b c, lt b a = false → lt c b = false → lt c a = false
section
variable {lt : Keyed → Keyed → Bool} (O : Ord lt)
include O
theorem Ord.lt_le {a b c : Keyed} (h1 : lt a b = true) (h2 : lt c b = false) : lt a c = true := by
 cases h : lt a c with
 | true => rfl
 | false =>
  have := O.tr b c a h2 h
  rw [h1] at this; cases this
theorem Ord.le_lt {a b c : Keyed} (h1 : lt b a = false) (h2 : lt b c = true) : lt a c = true := by
 cases h : lt a c with
 | true => rfl
 | false =>
  have := O.tr c a b h h1
  rw [h2] at this; cases this
end
section
variable {prog : Program} {w : World} {A : Around} {E : Value → Shared → Prop} {s : Shared} {κ : SortKind} {kz : Array Keyed} {lt : Keyed → Keyed → Bool} {st : SortSt}
theorem elem_ok {xs : Array Keyed} {i : Nat} {x : Keyed} {Q : Keyed → SortSt → Prop} (h : xs[i]? = some x) (q : Q x st) : wpS (model prog w) A E s (elem' xs i) Q st := by
 rw [elem'_eq, h]; exact wpS_pure q
theorem rule_ok {r : String} {Q : Unit → SortSt → Prop} (q : Q () st) : wpS (model prog w) A E s (liftM (rule r) : StateT SortSt Sem Unit) Q st := wpS_lift (wpAny_rule ⟨rfl, q⟩)
def Bv (lt : Keyed → Keyed → Bool) (lf : Bool) (ky : Keyed) (ar : Array Keyed) (bs i : Nat) : Bool := match ar[bs + i]? with
 | some e => if lf then lt e ky else !(lt ky e)
 | none => false
theorem askB_ok {lf : Bool} {ky : Keyed} {ar : Array Keyed} {bs i : Nat} {Q : Option Bool → SortSt → Prop} (c : PureLt prog w A s κ kz lt) (hk : kindOf st = κ) (hky : ky ∈ kz.toList) (har : ∀ (i : Nat) x, ar[i]? = some x → x ∈ kz.toList) (hi : bs + i < ar.size)
 (q : Q (some (Bv lt lf ky ar bs i)) st) : wpS (model prog w) A E s (askB lf ky ar bs i) Q st := by
 obtain ⟨x, hx⟩ : ∃ x, ar[bs + i]? = some x := ⟨ar[bs + i], by simp [hi]⟩
 unfold askB
 refine wpS_bind (elem_ok hx ?_)
 unfold Bv at q
 rw [hx] at q
 cases lf with
 | true => exact pure_lt c hk (har _ _ hx) hky q
 | false => exact wpS_bind (pure_lt c hk hky (har _ _ hx) (wpS_pure q))
theorem gallop_ok {lf : Bool} {ky : Keyed} {ar : Array Keyed} {bs cnt hn : Nat} {Q : Option Nat → SortSt → Prop} (c : PureLt prog w A s κ kz lt) (hk : kindOf st = κ) (hky : ky ∈ kz.toList) (har : ∀ (i : Nat) x, ar[i]? = some x → x ∈ kz.toList) (hb : bs + cnt ≤ ar.size) (hh : hn < cnt)
 (mono : ∀ i j, i ≤ j → j < cnt → Bv lt lf ky ar bs j = true → Bv lt lf ky ar bs i = true)
 (q : ∀ k, k ≤ cnt → (∀ i, i < k → Bv lt lf ky ar bs i = true) → (∀ i, k ≤ i → i < cnt → Bv lt lf ky ar bs i = false) → Q (some k) st) : wpS (model prog w) A E s (gallop' lf ky ar bs cnt hn) Q st := by
 rw [gallop'_eq]
 generalize hB : Bv lt lf ky ar bs = B at mono q
 have ask : ∀ {i : Nat} {Q : Option Bool → SortSt → Prop}, i < cnt → Q (some (B i)) st → wpS (model prog w) A E s (askB lf ky ar bs i) Q st := fun {i Q} hi hq => askB_ok c hk hky har (by omega) (by rw [hB]; exact hq)
 have monoF : ∀ i j, i ≤ j → j < cnt → B i = false → B j = false := fun i j hij hj h => by
  cases hq : B j with
  | false => rfl
  | true => rw [mono i j hij hj hq] at h; cases h
 have bin : ∀ (lw up : Nat), lw ≤ up → up ≤ cnt → (∀ i, i < lw → B i = true) → (∀ i, up ≤ i → i < cnt → B i = false) →
  wpS (model prog w) A E s (binP lf ky ar bs cnt lw up) Q st := fun lw up h1 h2 h3 h4 => by
  unfold binP
  refine wpS_bind (wpS_forRange (I := fun i c st' => st' = st ∧ ∃ l u, c = (none, l, u) ∧ l ≤ u ∧ u ≤ cnt ∧ u - l ≤ cnt - i ∧ (∀ i, i < l → B i = true) ∧ (∀ i, u ≤ i → i < cnt → B i = false)) ?step ?fin ⟨rfl, lw, up, rfl, h1, h2, by omega, h3, h4⟩)
  case fin =>
   rintro c' st' ⟨rfl, l, u, rfl, a1, a2, a3, a4, a5⟩
   dsimp only
   have : l = u := by omega
   subst this
   exact wpS_pure (q l a2 a4 a5)
  case step =>
   rintro i c' st' _ hi ⟨rfl, l, u, rfl, a1, a2, a3, a4, a5⟩
   dsimp only
   by_cases hlu : l ≥ u
   · rw [if_pos hlu]
     refine wpS_pure ?_
     dsimp only
     have : l = u := by omega
     subst this
     exact wpS_pure (q l a2 a4 a5)
   · rw [if_neg hlu]
     refine wpS_bind (ask (by omega) ?_)
     dsimp only
     cases hm : B (l + (u - l) / 2) with
     | true =>
      simp only [if_true]
      exact wpS_pure ⟨rfl, _, u, rfl, by omega, a2, by omega, fun j hj => mono j (l + (u - l) / 2) (by omega) (by omega) hm, a5⟩
     | false =>
      simp only [Bool.false_eq_true, if_false]
      exact wpS_pure ⟨rfl, l, _, rfl, by omega, by omega, by omega, a4, fun j hj hj2 => monoF (l + (u - l) / 2) j hj hj2 hm⟩
 refine wpS_bind (ask hh ?_)
 dsimp only
 cases h0 : B hn with
 | true =>
  simp only [if_true]
  have out : ∀ p u, p < u → hn + p < cnt → B (hn + p) = true → (u ≥ cnt - hn ∨ (hn + u < cnt ∧ B (hn + u) = false)) → (hn + p + 1 ≤ hn + min u (cnt - hn) ∧ hn + min u (cnt - hn) ≤ cnt ∧ (∀ i, i < hn + p + 1 → B i = true) ∧ (∀ i, hn + min u (cnt - hn) ≤ i → i < cnt → B i = false)) := fun p u a1 a3 a4 h => by
   refine ⟨by omega, by omega, fun i hi => mono i (hn + p) (by omega) a3 a4, fun i h1 h2 => ?_⟩
   rcases h with h | ⟨h, h'⟩
   · omega
   · exact monoF (hn + u) i (by omega) h2 h'
  refine wpS_bind (wpS_forRange (I := fun i c st' => st' = st ∧ ∃ p u, c = (none, p, u) ∧ p < u ∧ i < u ∧ hn + p < cnt ∧ B (hn + p) = true) ?step ?fin ⟨rfl, 0, 1, rfl, by omega, by omega, by omega, h0⟩)
  case fin =>
   rintro c' st' ⟨rfl, p, u, rfl, a1, a2, a3, a4⟩
   dsimp only
   obtain ⟨b1, b2, b3, b4⟩ := out p u a1 a3 a4 (.inl (by omega))
   exact bin _ _ b1 b2 b3 b4
  case step =>
   rintro i c' st' _ hi ⟨rfl, p, u, rfl, a1, a2, a3, a4⟩
   dsimp only
   by_cases hu : u ≥ cnt - hn
   · rw [if_pos hu]
     refine wpS_pure ?_
     dsimp only
     obtain ⟨b1, b2, b3, b4⟩ := out p u a1 a3 a4 (.inl hu)
     exact bin _ _ b1 b2 b3 b4
   · rw [if_neg hu]
     refine wpS_bind (ask (by omega) ?_)
     dsimp only
     cases hm : B (hn + u) with
     | true =>
      simp only [Bool.not_true, Bool.false_eq_true, if_false]
      exact wpS_pure ⟨rfl, u, _, rfl, by omega, by omega, by omega, hm⟩
     | false =>
      simp only [Bool.not_false, if_true]
      refine wpS_pure ?_
      dsimp only
      obtain ⟨b1, b2, b3, b4⟩ := out p u a1 a3 a4 (.inr ⟨by omega, hm⟩)
      exact bin _ _ b1 b2 b3 b4
 | false =>
  simp only [Bool.false_eq_true, if_false]
  have out : ∀ p u, p < u → p ≤ hn → B (hn - p) = false → (u ≥ hn + 1 ∨ (u ≤ hn ∧ B (hn - u) = true)) → (hn + 1 - min u (hn + 1) ≤ hn - p ∧ hn - p ≤ cnt ∧ (∀ i, i < hn + 1 - min u (hn + 1) → B i = true) ∧ (∀ i, hn - p ≤ i → i < cnt → B i = false)) := fun p u a1 a3 a4 h => by
   refine ⟨by omega, by omega, fun i hi => ?_, fun i h1 h2 => monoF (hn - p) i h1 h2 a4⟩
   rcases h with h | ⟨h, h'⟩
   · omega
   · exact mono i (hn - u) (by omega) (by omega) h'
  refine wpS_bind (wpS_forRange (I := fun i c st' => st' = st ∧ ∃ p u, c = (none, p, u) ∧ p < u ∧ i < u ∧ p ≤ hn ∧ B (hn - p) = false) ?step ?fin ⟨rfl, 0, 1, rfl, by omega, by omega, by omega, h0⟩)
  case fin =>
   rintro c' st' ⟨rfl, p, u, rfl, a1, a2, a3, a4⟩
   dsimp only
   obtain ⟨b1, b2, b3, b4⟩ := out p u a1 a3 a4 (.inl (by omega))
   exact bin _ _ b1 b2 b3 b4
  case step =>
   rintro i c' st' _ hi ⟨rfl, p, u, rfl, a1, a2, a3, a4⟩
   dsimp only
   by_cases hu : u ≥ hn + 1
   · rw [if_pos hu]
     refine wpS_pure ?_
     dsimp only
     obtain ⟨b1, b2, b3, b4⟩ := out p u a1 a3 a4 (.inl hu)
     exact bin _ _ b1 b2 b3 b4
   · rw [if_neg hu]
     refine wpS_bind (ask (by omega) ?_)
     dsimp only
     cases hm : B (hn - u) with
     | false =>
      simp only [Bool.false_eq_true, if_false]
      exact wpS_pure ⟨rfl, u, _, rfl, by omega, by omega, by omega, hm⟩
     | true =>
      simp only [if_true]
      refine wpS_pure ?_
      dsimp only
      obtain ⟨b1, b2, b3, b4⟩ := out p u a1 a3 a4 (.inr ⟨by omega, hm⟩)
      exact bin _ _ b1 b2 b3 b4
end
def setG (g : Nat) : StateT SortSt Sem Unit := modify fun u => SortSt.mk' (kindOf u) (arrOf u) (pendingOf u) g (failedOf u)
abbrev fnD (xa xb o : Array Keyed) (p q : Nat) : Array Keyed := o ++ xa.extract p xa.size ++ xb.extract q xb.size
abbrev fnA (xa xb o : Array Keyed) (p q : Nat) : Array Keyed := o ++ xb.extract q xb.size ++ xa.extract p xa.size
theorem mergeLo'_eq (xa xb : Array Keyed) : mergeLo' xa xb = (do
 rule "list.sort.merge-lo"
 let tot := xa.size + xb.size
 let mut o : Array Keyed := #[← elem' xb 0]
 let mut p := 0
 let mut q := 1
 if q == xb.size then return fnD xa xb o p q
 if p + 1 == xa.size then return fnA xa xb o p q
 let mut mg := gallopOf (← get)
 for _ in [0:tot] do
  let mut ca := 0
  let mut cb := 0
  for _ in [0:tot] do
   let some bw ← lt' (← elem' xb q) (← elem' xa p) | return fnD xa xb o p q
   if bw then
    o := o.push (← elem' xb q); q := q + 1; cb := cb + 1; ca := 0
    if q == xb.size then return fnD xa xb o p q
    if cb ≥ mg then break
   else
    o := o.push (← elem' xa p); p := p + 1; ca := ca + 1; cb := 0
    if p + 1 == xa.size then return fnA xa xb o p q
    if ca ≥ mg then break
  rule "list.sort.gallop"
  mg := mg + 1
  for _ in [0:tot] do
   if mg > 1 then mg := mg - 1
   setG mg
   let some k ← gallop' false (← elem' xb q) xa p (xa.size - p) 0 | return fnD xa xb o p q
   ca := k
   if k > 0 then
    o := o ++ xa.extract p (p + k); p := p + k
    if p + 1 == xa.size then return fnA xa xb o p q
    if p == xa.size then return fnD xa xb o p q
   o := o.push (← elem' xb q); q := q + 1
   if q == xb.size then return fnD xa xb o p q
   let some k ← gallop' true (← elem' xa p) xb q (xb.size - q) 0 | return fnD xa xb o p q
   cb := k
   if k > 0 then
    o := o ++ xb.extract q (q + k); q := q + k
    if q == xb.size then return fnD xa xb o p q
   o := o.push (← elem' xa p); p := p + 1
   if p + 1 == xa.size then return fnA xa xb o p q
   if ca < 7 && cb < 7 then break
  mg := mg + 1
  setG mg
 unsupported "internal:list.sort.merge-bound") := rfl
section
variable {lt : Keyed → Keyed → Bool} {a b o : List Keyed} {p q : Nat}
abbrev Le (lt : Keyed → Keyed → Bool) (x y : Keyed) : Prop := lt y x = false
structure MI (lt : Keyed → Keyed → Bool) (a b o : List Keyed) (p q : Nat) : Prop where
 perm : o.Perm (a.take p ++ b.take q)
 srt : o.Pairwise (Le lt)
 la : ∀ x ∈ o, ∀ y ∈ a.drop p, Le lt x y
 lb : ∀ x ∈ o, ∀ y ∈ b.drop q, Le lt x y
theorem drop_cons {l : List Keyed} {i : Nat} {y : Keyed} (h : l[i]? = some y) : l.drop i = y :: l.drop (i + 1) := by
 obtain ⟨hi, e⟩ := List.getElem?_eq_some_iff.mp h
 rw [List.drop_eq_getElem_cons hi, e]
theorem take_snoc {l : List Keyed} {i : Nat} {y : Keyed} (h : l[i]? = some y) : l.take (i + 1) = l.take i ++ [y] := by
 rw [List.take_add_one, h]; rfl
theorem srt_drop {l : List Keyed} (h : l.Pairwise (Le lt)) {i : Nat} {y : Keyed} (hy : l[i]? = some y) : ∀ z ∈ l.drop (i + 1), Le lt y z := by
 have := h.drop (i := i)
 rw [drop_cons hy] at this
 exact (List.pairwise_cons.mp this).1
theorem MI.takeA (sa : a.Pairwise (Le lt)) (m : MI lt a b o p q) {y : Keyed} (hy : a[p]? = some y) (hb : ∀ z ∈ b.drop q, Le lt y z) : MI lt a b (o ++ [y]) (p + 1) q := by
 have hm : y ∈ a.drop p := by rw [drop_cons hy]; exact .head _
 refine ⟨?_, ?_, fun x hx z hz => ?_, fun x hx z hz => ?_⟩
 · rw [take_snoc hy]
   refine (m.perm.append_right [y]).trans ?_
   rw [List.append_assoc, List.append_assoc]
   exact List.Perm.append_left _ List.perm_append_comm
 · rw [List.pairwise_append]
   refine ⟨m.srt, List.pairwise_singleton _ _, fun x hx z hz => ?_⟩
   rw [List.mem_singleton.mp hz]; exact m.la x hx y hm
 · rcases List.mem_append.mp hx with h | h
   · exact m.la x h z (by rw [drop_cons hy]; exact .tail _ hz)
   · rw [List.mem_singleton.mp h]; exact srt_drop sa hy z hz
 · rcases List.mem_append.mp hx with h | h
   · exact m.lb x h z hz
   · rw [List.mem_singleton.mp h]; exact hb z hz
theorem MI.swap (m : MI lt a b o p q) : MI lt b a o q p := ⟨m.perm.trans List.perm_append_comm, m.srt, m.lb, m.la⟩
theorem MI.takeB (sb : b.Pairwise (Le lt)) (m : MI lt a b o p q) {y : Keyed} (hy : b[q]? = some y) (ha : ∀ z ∈ a.drop p, Le lt y z) : MI lt a b (o ++ [y]) p (q + 1) := (m.swap.takeA sb hy ha).swap
theorem MI.takeAs (sa : a.Pairwise (Le lt)) : ∀ {k : Nat} {o : List Keyed} {p : Nat}, MI lt a b o p q → p + k ≤ a.length → (∀ i y, i < k → a[p + i]? = some y → ∀ z ∈ b.drop q, Le lt y z) → MI lt a b (o ++ (a.drop p).take k) (p + k) q
 | 0, o, p, m, _, _ => by simpa using m
 | k + 1, o, p, m, hl, h => by
  obtain ⟨y, hy⟩ : ∃ y, a[p]? = some y := ⟨_, List.getElem?_eq_getElem (by omega)⟩
  have m1 := m.takeA sa hy (h 0 y (by omega) (by simpa using hy))
  have m2 := MI.takeAs sa (k := k) m1 (by omega) fun i z hi hz => h (i + 1) z (by omega) (by rw [show p + (i + 1) = p + 1 + i by omega]; exact hz)
  rw [drop_cons hy, List.take_succ_cons, show p + (k + 1) = p + 1 + k by omega]
  have e : o ++ y :: (a.drop (p + 1)).take k = o ++ [y] ++ (a.drop (p + 1)).take k := by simp
  rw [e]; exact m2
theorem MI.takeBs (sb : b.Pairwise (Le lt)) {k : Nat} (m : MI lt a b o p q) (hl : q + k ≤ b.length) (h : ∀ i y, i < k → b[q + i]? = some y → ∀ z ∈ a.drop p, Le lt y z) : MI lt a b (o ++ (b.drop q).take k) p (q + k) := (m.swap.takeAs sb hl h).swap
theorem MI.endB (sa : a.Pairwise (Le lt)) (m : MI lt a b o p q) (hq : q = b.length) : (o ++ a.drop p).Perm (a ++ b) ∧ (o ++ a.drop p).Pairwise (Le lt) := by
 refine ⟨?_, List.pairwise_append.mpr ⟨m.srt, sa.drop, m.la⟩⟩
 have h := m.perm
 rw [hq, List.take_length] at h
 refine (h.append_right _).trans ?_
 rw [List.append_assoc]
 refine (List.Perm.append_left _ List.perm_append_comm).trans ?_
 rw [← List.append_assoc, List.take_append_drop]
theorem MI.endA (sb : b.Pairwise (Le lt)) (m : MI lt a b o p q) (hp : p = a.length) : (o ++ b.drop q).Perm (a ++ b) ∧ (o ++ b.drop q).Pairwise (Le lt) :=
 let ⟨h1, h2⟩ := m.swap.endB sb hp; ⟨h1.trans List.perm_append_comm, h2⟩
theorem MI.endL (sa : a.Pairwise (Le lt)) (sb : b.Pairwise (Le lt)) (m : MI lt a b o p q) (hl : ∀ x ∈ b.drop q, ∀ y ∈ a.drop p, Le lt x y) : (o ++ b.drop q ++ a.drop p).Perm (a ++ b) ∧ (o ++ b.drop q ++ a.drop p).Pairwise (Le lt) := by
 refine ⟨?_, ?_⟩
 · have h := m.perm
   rw [List.append_assoc]
   refine (h.append_right _).trans ?_
   have e : (a.take p ++ b.take q ++ (b.drop q ++ a.drop p)).Perm (a.take p ++ a.drop p ++ (b.take q ++ b.drop q)) := by
    rw [List.append_assoc, List.append_assoc]
    refine List.Perm.append_left _ ?_
    rw [← List.append_assoc]
    exact List.perm_append_comm
   rw [List.take_append_drop, List.take_append_drop] at e
   exact e
 · rw [List.pairwise_append]
   refine ⟨List.pairwise_append.mpr ⟨m.srt, sb.drop, m.lb⟩, sa.drop, fun x hx y hy => ?_⟩
   rcases List.mem_append.mp hx with h | h
   · exact m.la x h y hy
   · exact hl x h y hy
end
theorem ext_all (xs : Array Keyed) (p : Nat) : (xs.extract p xs.size).toList = xs.toList.drop p := by
 rw [Array.toList_extract, List.extract_eq_take_drop]
 exact List.take_of_length_le (by simp)
theorem ext_k (xs : Array Keyed) (p k : Nat) : (xs.extract p (p + k)).toList = (xs.toList.drop p).take k := by
 rw [Array.toList_extract, List.extract_eq_take_drop]
 congr 1; omega
theorem arr_get (xs : Array Keyed) (i : Nat) : xs.toList[i]? = xs[i]? := by simp
def Sm (u v : SortSt) : Prop := kindOf v = kindOf u ∧ arrOf v = arrOf u ∧ pendingOf v = pendingOf u ∧ failedOf v = failedOf u
theorem Sm.refl (u : SortSt) : Sm u u := ⟨rfl, rfl, rfl, rfl⟩
section
variable {prog : Program} {w : World} {A : Around} {E : Value → Shared → Prop} {s : Shared} {κ : SortKind} {kz : Array Keyed} {lt : Keyed → Keyed → Bool} {st : SortSt}
theorem setG_ok {g : Nat} {u v : SortSt} {Q : Unit → SortSt → Prop} (h : Sm u v) (q : ∀ v', Sm u v' → Q () v') : wpS (model prog w) A E s (setG g) Q v := by
 unfold setG
 exact wpS_modify (q _ h)
structure Two (lt : Keyed → Keyed → Bool) (kz : Array Keyed) (xa xb : Array Keyed) : Prop where
 ina : ∀ x ∈ xa.toList, x ∈ kz.toList
 inb : ∀ x ∈ xb.toList, x ∈ kz.toList
 na : 1 ≤ xa.size
 nb : 1 ≤ xb.size
 sa : xa.toList.Pairwise (Le lt)
 sb : xb.toList.Pairwise (Le lt)
 fst : ∀ x y, xb[0]? = some x → xa[0]? = some y → lt x y = true
 lst : ∀ y, xa[xa.size - 1]? = some y → ∀ x ∈ xb.toList, lt x y = true
def Good (lt : Keyed → Keyed → Bool) (xa xb r : Array Keyed) : Prop := r.toList.Perm (xa.toList ++ xb.toList) ∧ r.toList.Pairwise (Le lt)
section
variable {xa xb o : Array Keyed} {p q : Nat}
theorem Two.retB (T : Two lt kz xa xb) (m : MI lt xa.toList xb.toList o.toList p q) (h : q = xb.size) : Good lt xa xb (fnD xa xb o p q) := by
 have e : (fnD xa xb o p q).toList = o.toList ++ xa.toList.drop p := by
  show (o ++ xa.extract p xa.size ++ xb.extract q xb.size).toList = _
  rw [Array.toList_append, Array.toList_append, ext_all, ext_all, h, List.drop_of_length_le (l := xb.toList) (by simp), List.append_nil]
 unfold Good; rw [e]
 exact m.endB T.sa (by simpa using h)
theorem Two.retA (T : Two lt kz xa xb) (m : MI lt xa.toList xb.toList o.toList p q) (h : p = xa.size) : Good lt xa xb (fnD xa xb o p q) := by
 have e : (fnD xa xb o p q).toList = o.toList ++ xb.toList.drop q := by
  show (o ++ xa.extract p xa.size ++ xb.extract q xb.size).toList = _
  rw [Array.toList_append, Array.toList_append, ext_all, ext_all, h, List.drop_of_length_le (l := xa.toList) (by simp), List.append_nil]
 unfold Good; rw [e]
 exact m.endA T.sb (by simpa using h)
theorem Two.retL (O : Ord lt) (T : Two lt kz xa xb) (m : MI lt xa.toList xb.toList o.toList p q) (h : p + 1 = xa.size) : Good lt xa xb (fnA xa xb o p q) := by
 have e : (fnA xa xb o p q).toList = o.toList ++ xb.toList.drop q ++ xa.toList.drop p := by
  show (o ++ xb.extract q xb.size ++ xa.extract p xa.size).toList = _
  rw [Array.toList_append, Array.toList_append, ext_all, ext_all]
 unfold Good; rw [e]
 refine m.endL T.sa T.sb fun x hx y hy => ?_
 obtain ⟨z, hz⟩ : ∃ z, xa.toList[p]? = some z := ⟨_, List.getElem?_eq_getElem (by simp; omega)⟩
 rw [drop_cons hz, List.drop_of_length_le (l := xa.toList) (i := p + 1) (by simp; omega)] at hy
 rw [List.mem_singleton.mp hy]
 exact O.asy _ _ (T.lst z (by rw [← arr_get, show xa.size - 1 = p by omega]; exact hz) x (List.mem_of_mem_drop hx))
theorem Two.monoA (O : Ord lt) (sa : xa.toList.Pairwise (Le lt)) {y : Keyed} : ∀ i j, i ≤ j → j < xa.size - p → Bv lt false y xa p j = true → Bv lt false y xa p i = true := fun i j hij hj h => by
 obtain ⟨u, hu⟩ : ∃ u, xa[p + i]? = some u := ⟨xa[p + i]'(by omega), by simp⟩
 obtain ⟨v, hv⟩ : ∃ v, xa[p + j]? = some v := ⟨xa[p + j]'(by omega), by simp⟩
 unfold Bv at h ⊢
 rw [hv] at h
 rw [hu]
 simp only [Bool.false_eq_true, if_false, Bool.not_eq_true'] at h ⊢
 by_cases e : i = j
 · subst e; rw [hu] at hv; cases hv; exact h
 · have := List.pairwise_iff_getElem.mp sa (p + i) (p + j) (by simp; omega) (by simp; omega) (by omega)
   have e1 : xa.toList[p + i]'(by simp; omega) = u := Option.some.inj ((List.getElem?_eq_getElem _).symm.trans ((arr_get xa _).trans hu))
   have e2 : xa.toList[p + j]'(by simp; omega) = v := Option.some.inj ((List.getElem?_eq_getElem _).symm.trans ((arr_get xa _).trans hv))
   rw [e1, e2] at this
   exact O.tr u v y this h
theorem Two.monoB (O : Ord lt) (sb : xb.toList.Pairwise (Le lt)) {y : Keyed} : ∀ i j, i ≤ j → j < xb.size - q → Bv lt true y xb q j = true → Bv lt true y xb q i = true := fun i j hij hj h => by
 obtain ⟨u, hu⟩ : ∃ u, xb[q + i]? = some u := ⟨xb[q + i]'(by omega), by simp⟩
 obtain ⟨v, hv⟩ : ∃ v, xb[q + j]? = some v := ⟨xb[q + j]'(by omega), by simp⟩
 unfold Bv at h ⊢
 rw [hv] at h
 rw [hu]
 simp only [if_true] at h ⊢
 by_cases e : i = j
 · subst e; rw [hu] at hv; cases hv; exact h
 · have := List.pairwise_iff_getElem.mp sb (q + i) (q + j) (by simp; omega) (by simp; omega) (by omega)
   have e1 : xb.toList[q + i]'(by simp; omega) = u := Option.some.inj ((List.getElem?_eq_getElem _).symm.trans ((arr_get xb _).trans hu))
   have e2 : xb.toList[q + j]'(by simp; omega) = v := Option.some.inj ((List.getElem?_eq_getElem _).symm.trans ((arr_get xb _).trans hv))
   rw [e1, e2] at this
   exact O.le_lt this h
end
theorem mergeLo_ok {xa xb : Array Keyed} {Q : Array Keyed → SortSt → Prop} (O : Ord lt) (c : PureLt prog w A s κ kz lt) (hk : kindOf st = κ) (T : Two lt kz xa xb)
 (q0 : ∀ r v, Good lt xa xb r → Sm st v → Q r v) : wpS (model prog w) A E s (mergeLo' xa xb) Q st := by
 rw [mergeLo'_eq]
 have na := T.na
 have nb := T.nb
 have gta : ∀ {i : Nat}, i < xa.size → ∃ x, xa[i]? = some x ∧ xa.toList[i]? = some x := fun {i} h => ⟨xa[i], by simp [h], by simp [h]⟩
 have gtb : ∀ {i : Nat}, i < xb.size → ∃ x, xb[i]? = some x ∧ xb.toList[i]? = some x := fun {i} h => ⟨xb[i], by simp [h], by simp [h]⟩
 obtain ⟨b0, hb0, hb0'⟩ := gtb (i := 0) (by omega)
 obtain ⟨a0, ha0, ha0'⟩ := gta (i := 0) (by omega)
 refine wpS_bind (rule_ok ?_)
 refine wpS_bind (elem_ok hb0 ?_)
 have lefst : ∀ z ∈ xa.toList.drop 0, Le lt b0 z := fun z hz => by
  rw [drop_cons ha0'] at hz
  have h0 := O.asy _ _ (T.fst b0 a0 hb0 ha0)
  rcases List.mem_cons.mp hz with e | e
  · rw [e]; exact h0
  · exact O.tr _ _ _ h0 (srt_drop T.sa ha0' z e)
 have m0 : MI lt xa.toList xb.toList (#[b0] : Array Keyed).toList 0 1 := by
  have m : MI lt xa.toList xb.toList [] 0 0 := ⟨by simp, List.Pairwise.nil, fun x hx => (nomatch hx), fun x hx => (nomatch hx)⟩
  exact m.takeB T.sb hb0' lefst
 dsimp only
 by_cases hb1 : (1 == xb.size) = true
 · rw [if_pos hb1]
   exact wpS_pure (q0 _ _ (T.retB m0 (by simpa using hb1)) (Sm.refl _))
 rw [if_neg hb1]
 by_cases ha1 : (0 + 1 == xa.size) = true
 · rw [if_pos ha1]
   exact wpS_pure (q0 _ _ (T.retL O m0 (by simpa using ha1)) (Sm.refl _))
 rw [if_neg ha1]
 have hb1' : 1 < xb.size := by have : ¬ 1 = xb.size := fun e => hb1 (by simp [← e]); omega
 have ha1' : 0 + 1 < xa.size := by have : ¬ 0 + 1 = xa.size := fun e => ha1 (by simp [← e]); omega
 refine wpS_bind (wpS_get ?_)
 refine wpS_bind (wpS_forRange (I := fun i c v => Sm st v ∧ ∃ o p q g, c = (none, o, p, q, g) ∧ MI lt xa.toList xb.toList o.toList p q ∧ p + 1 < xa.size ∧ q < xb.size ∧ i ≤ p + q) ?step ?fin ⟨Sm.refl _, _, 0, 1, _, rfl, m0, ha1', hb1', by omega⟩)
 case fin =>
  rintro c' v ⟨_, o, p, q, g, rfl, m, h1, h2, h3⟩
  exfalso
  omega
 case step =>
  rintro i c' v _ hi ⟨sm, o, p, q, g, rfl, m, h1, h2, h3⟩
  dsimp only
  have sk : ∀ {v : SortSt}, Sm st v → kindOf v = κ := fun h => h.1.trans hk
  -- one by one
  refine wpS_bind (wpS_mono (wpS_forRange (I := fun j c v => Sm st v ∧ ∃ o p q x y, c = (none, o, p, q, x, y) ∧ MI lt xa.toList xb.toList o.toList p q ∧ p + 1 < xa.size ∧ q < xb.size ∧ i ≤ p + q ∧ (0 < j → i + 1 ≤ p + q))
   (Q := fun c v => Sm st v ∧ ((∃ r z, c = (some r, z) ∧ Good lt xa xb r) ∨ ∃ o p q x y, c = (none, o, p, q, x, y) ∧ MI lt xa.toList xb.toList o.toList p q ∧ p + 1 < xa.size ∧ q < xb.size ∧ i + 1 ≤ p + q)) ?one ?oneE ⟨sm, o, p, q, 0, 0, rfl, m, h1, h2, h3, fun z => absurd z (Nat.lt_irrefl _)⟩) ?two)
  case oneE =>
   rintro c' v ⟨sm, o, p, q, x, y, rfl, m, h1, h2, h3, h4⟩
   exact ⟨sm, .inr ⟨o, p, q, x, y, rfl, m, h1, h2, h4 (by omega)⟩⟩
  case one =>
   rintro j c' v _ hj ⟨sm, o, p, q, x, y, rfl, m, h1, h2, h3, _⟩
   dsimp only
   obtain ⟨b1, hb, hb'⟩ := gtb h2
   obtain ⟨a1, ha, ha'⟩ := gta (i := p) (by omega)
   refine wpS_bind (elem_ok hb (wpS_bind (elem_ok ha (wpS_bind (pure_lt c (sk sm) (T.inb _ (List.mem_of_getElem? hb')) (T.ina _ (List.mem_of_getElem? ha')) ?_)))))
   dsimp only
   cases hl : lt b1 a1 with
   | true =>
    simp only [if_true]
    refine wpS_bind (elem_ok hb ?_)
    have m1 : MI lt xa.toList xb.toList (o.push b1).toList p (q + 1) := by
     rw [Array.toList_push]
     refine m.takeB T.sb hb' fun z hz => ?_
     rw [drop_cons ha'] at hz
     have h0 := O.asy _ _ hl
     rcases List.mem_cons.mp hz with e | e
     · rw [e]; exact h0
     · exact O.tr _ _ _ h0 (srt_drop T.sa ha' z e)
    by_cases e1 : (q + 1 == xb.size) = true
    · rw [if_pos e1]
      exact wpS_pure ⟨sm, .inl ⟨_, _, rfl, T.retB m1 (by simpa using e1)⟩⟩
    rw [if_neg e1]
    have e1' : q + 1 < xb.size := by have : ¬ q + 1 = xb.size := fun e => e1 (by simp [← e]); omega
    split
    · exact wpS_pure ⟨sm, .inr ⟨_, _, _, _, _, rfl, m1, h1, e1', by omega⟩⟩
    · exact wpS_pure ⟨sm, _, _, _, _, _, rfl, m1, h1, e1', by omega, fun _ => by omega⟩
   | false =>
    simp only [Bool.false_eq_true, if_false]
    refine wpS_bind (elem_ok ha ?_)
    have m1 : MI lt xa.toList xb.toList (o.push a1).toList (p + 1) q := by
     rw [Array.toList_push]
     refine m.takeA T.sa ha' fun z hz => ?_
     rw [drop_cons hb'] at hz
     rcases List.mem_cons.mp hz with e | e
     · rw [e]; exact hl
     · exact O.tr _ _ _ hl (srt_drop T.sb hb' z e)
    by_cases e1 : (p + 1 + 1 == xa.size) = true
    · rw [if_pos e1]
      exact wpS_pure ⟨sm, .inl ⟨_, _, rfl, T.retL O m1 (by simpa using e1)⟩⟩
    rw [if_neg e1]
    have e1' : p + 1 + 1 < xa.size := by have : ¬ p + 1 + 1 = xa.size := fun e => e1 (by simp [← e]); omega
    split
    · exact wpS_pure ⟨sm, .inr ⟨_, _, _, _, _, rfl, m1, e1', h2, by omega⟩⟩
    · exact wpS_pure ⟨sm, _, _, _, _, _, rfl, m1, e1', h2, by omega, fun _ => by omega⟩
  case two =>
   rintro c' v ⟨sm, ⟨r, z, rfl, good⟩ | ⟨o, p, q, x, y, rfl, m, h1, h2, h3⟩⟩
   · exact wpS_pure (wpS_pure (q0 r v good sm))
   dsimp only
   refine wpS_bind (rule_ok ?_)
   refine wpS_bind (wpS_mono (wpS_forRange (I := fun j c v => Sm st v ∧ ∃ o p q g x y, c = (none, o, p, q, g, x, y) ∧ MI lt xa.toList xb.toList o.toList p q ∧ p + 1 < xa.size ∧ q < xb.size ∧ i + 1 ≤ p + q)
    (Q := fun c v => Sm st v ∧ ((∃ r z, c = (some r, z) ∧ Good lt xa xb r) ∨ ∃ o p q g x y, c = (none, o, p, q, g, x, y) ∧ MI lt xa.toList xb.toList o.toList p q ∧ p + 1 < xa.size ∧ q < xb.size ∧ i + 1 ≤ p + q)) ?gal ?galE ⟨sm, o, p, q, _, x, y, rfl, m, h1, h2, h3⟩) ?three)
   case galE =>
    rintro c' v ⟨sm, o, p, q, g, x, y, rfl, m, h1, h2, h3⟩
    exact ⟨sm, .inr ⟨o, p, q, g, x, y, rfl, m, h1, h2, h3⟩⟩
   case three =>
    rintro c' v ⟨sm, ⟨r, z, rfl, good⟩ | ⟨o, p, q, g, x, y, rfl, m, h1, h2, h3⟩⟩
    · exact wpS_pure (wpS_pure (q0 r v good sm))
    dsimp only
    exact wpS_bind (setG_ok sm fun v1 sm1 => wpS_pure ⟨sm1, o, p, q, _, rfl, m, h1, h2, h3⟩)
   case gal =>
    rintro j c' v _ hj ⟨sm, o, p, q, g, x, y, rfl, m, h1, h2, h3⟩
    dsimp only
    obtain ⟨b1, hb, hb'⟩ := gtb h2
    have inA : ∀ (i : Nat) z, xa[i]? = some z → z ∈ kz.toList := fun i z h => T.ina z (List.mem_of_getElem? ((arr_get xa i).trans h))
    have inB : ∀ (i : Nat) z, xb[i]? = some z → z ∈ kz.toList := fun i z h => T.inb z (List.mem_of_getElem? ((arr_get xb i).trans h))
    by_cases hg : g > 1
    all_goals first | rw [if_pos hg] | rw [if_neg hg]
    all_goals
     refine wpS_bind (setG_ok sm fun v1 sm1 => ?_)
     refine wpS_bind (elem_ok hb (wpS_bind (gallop_ok c (sk sm1) (inB _ _ hb) inA (by omega) (by omega) (Two.monoA O T.sa) fun k k1 k2 k3 => ?_)))
     dsimp only
     have hA : ∀ i y, i < k → xa.toList[p + i]? = some y → ∀ z ∈ xb.toList.drop q, Le lt y z := fun i y hi hy z hz => by
      have := k2 i hi
      unfold Bv at this
      rw [arr_get] at hy
      rw [hy] at this
      simp only [Bool.false_eq_true, if_false, Bool.not_eq_true'] at this
      rw [drop_cons hb'] at hz
      rcases List.mem_cons.mp hz with e | e
      · rw [e]; exact this
      · exact O.tr _ _ _ this (srt_drop T.sb hb' z e)
     have hB : ∀ z ∈ xa.toList.drop (p + k), Le lt b1 z := fun z hz => by
      obtain ⟨n, hn, e⟩ := List.getElem_of_mem hz
      rw [List.length_drop] at hn
      have hz' : xa[p + (k + n)]? = some z := by
       rw [← arr_get, show p + (k + n) = p + k + n by omega, ← List.getElem?_drop, List.getElem?_eq_getElem (by rw [List.length_drop]; exact hn), e]
      have := k3 (k + n) (by omega) (by simp at hn; omega)
      unfold Bv at this
      rw [hz'] at this
      simp only [Bool.false_eq_true, if_false, Bool.not_eq_false'] at this
      exact O.asy _ _ this
     have mA : MI lt xa.toList xb.toList (o ++ xa.extract p (p + k)).toList (p + k) q := by
      rw [Array.toList_append, ext_k]
      exact m.takeAs T.sa (by simp; omega) hA
     have h2' := h2
     have hpk : i + 1 ≤ p + k + q := by omega
     by_cases hk0 : k > 0
    all_goals first
     | (rw [if_pos hk0]
        by_cases e1 : (p + k + 1 == xa.size) = true
        · rw [if_pos e1]
          exact wpS_pure ⟨sm1, .inl ⟨_, _, rfl, T.retL O mA (by simpa using e1)⟩⟩
        rw [if_neg e1]
        by_cases e2 : (p + k == xa.size) = true
        · rw [if_pos e2]
          exact wpS_pure ⟨sm1, .inl ⟨_, _, rfl, T.retA mA (by simpa using e2)⟩⟩
        rw [if_neg e2]
        have hp1 : p + k + 1 < xa.size := by
         have : ¬ p + k + 1 = xa.size := fun e => e1 (by simp [← e])
         have : ¬ p + k = xa.size := fun e => e2 (by simp [← e])
         omega
        generalize hO1 : o ++ xa.extract p (p + k) = o1 at mA ⊢
        generalize hP1 : p + k = p1 at mA hB hp1 hpk ⊢)
     | (rw [if_neg hk0]
        have hk00 : k = 0 := by omega
        have hp1 := h1
        have mA := m
        rw [hk00, Nat.add_zero] at hB hpk
        generalize hO1 : o = o1 at mA ⊢
        generalize hP1 : p = p1 at mA hB hp1 hpk ⊢)
    all_goals
     refine wpS_bind (elem_ok hb ?_)
     have mB : MI lt xa.toList xb.toList (o1.push b1).toList p1 (q + 1) := by
      rw [Array.toList_push]
      exact mA.takeB T.sb hb' hB
     by_cases e3 : (q + 1 == xb.size) = true
     · rw [if_pos e3]
       exact wpS_pure ⟨sm1, .inl ⟨_, _, rfl, T.retB mB (by simpa using e3)⟩⟩
     rw [if_neg e3]
     have hq1 : q + 1 < xb.size := by have : ¬ q + 1 = xb.size := fun e => e3 (by simp [← e]); omega
     obtain ⟨a1, ha, ha'⟩ := gta (i := p1) (by omega)
     refine wpS_bind (elem_ok ha (wpS_bind (gallop_ok c (sk sm1) (inA _ _ ha) inB (by omega) (by omega) (Two.monoB O T.sb) fun n n1 n2 n3 => ?_)))
     dsimp only
     have hA2 : ∀ i y, i < n → xb.toList[q + 1 + i]? = some y → ∀ z ∈ xa.toList.drop p1, Le lt y z := fun i y hi hy z hz => by
      have := n2 i hi
      unfold Bv at this
      rw [arr_get] at hy
      rw [hy] at this
      simp only [if_true] at this
      have h0 := O.asy _ _ this
      rw [drop_cons ha'] at hz
      rcases List.mem_cons.mp hz with e | e
      · rw [e]; exact h0
      · exact O.tr _ _ _ h0 (srt_drop T.sa ha' z e)
     have hB2 : ∀ z ∈ xb.toList.drop (q + 1 + n), Le lt a1 z := fun z hz => by
      obtain ⟨j, hj, e⟩ := List.getElem_of_mem hz
      rw [List.length_drop] at hj
      have hz' : xb[q + 1 + (n + j)]? = some z := by
       rw [← arr_get, show q + 1 + (n + j) = q + 1 + n + j by omega, ← List.getElem?_drop, List.getElem?_eq_getElem (by rw [List.length_drop]; exact hj), e]
      have := n3 (n + j) (by omega) (by simp at hj; omega)
      unfold Bv at this
      rw [hz'] at this
      simp only [if_true] at this
      exact this
     have mC : MI lt xa.toList xb.toList (o1.push b1 ++ xb.extract (q + 1) (q + 1 + n)).toList p1 (q + 1 + n) := by
      rw [Array.toList_append, ext_k]
      exact mB.takeBs T.sb (by simp; omega) hA2
     by_cases hn0 : n > 0
    all_goals first
     | (rw [if_pos hn0]
        by_cases e4 : (q + 1 + n == xb.size) = true
        · rw [if_pos e4]
          exact wpS_pure ⟨sm1, .inl ⟨_, _, rfl, T.retB mC (by simpa using e4)⟩⟩
        rw [if_neg e4]
        have hq2 : q + 1 + n < xb.size := by have : ¬ q + 1 + n = xb.size := fun e => e4 (by simp [← e]); omega
        have hpk2 : i + 1 ≤ p1 + 1 + (q + 1 + n) := by omega
        generalize hO2 : o1.push b1 ++ xb.extract (q + 1) (q + 1 + n) = o2 at mC ⊢
        generalize hQ2 : q + 1 + n = q2 at mC hB2 hq2 hpk2 ⊢)
     | (rw [if_neg hn0]
        have hn00 : n = 0 := by omega
        have hq2 := hq1
        have mC := mB
        rw [hn00, Nat.add_zero] at hB2
        have hpk2 : i + 1 ≤ p1 + 1 + (q + 1) := by omega
        generalize hO2 : o1.push b1 = o2 at mC ⊢
        generalize hQ2 : q + 1 = q2 at mC hB2 hq2 hpk2 ⊢)
    all_goals
     refine wpS_bind (elem_ok ha ?_)
     have mD : MI lt xa.toList xb.toList (o2.push a1).toList (p1 + 1) q2 := by
      rw [Array.toList_push]
      exact mC.takeA T.sa ha' hB2
     by_cases e5 : (p1 + 1 + 1 == xa.size) = true
     · rw [if_pos e5]
       exact wpS_pure ⟨sm1, .inl ⟨_, _, rfl, T.retL O mD (by simpa using e5)⟩⟩
     rw [if_neg e5]
     have hp2 : p1 + 1 + 1 < xa.size := by have : ¬ p1 + 1 + 1 = xa.size := fun e => e5 (by simp [← e]); omega
     split
     · exact wpS_pure ⟨sm1, .inr ⟨_, _, _, _, _, _, rfl, mD, hp2, hq2, hpk2⟩⟩
     · exact wpS_pure ⟨sm1, _, _, _, _, _, _, rfl, mD, hp2, hq2, hpk2⟩
end
section
variable {lt : Keyed → Keyed → Bool} {a b o : List Keyed} {p q : Nat}
structure MH (lt : Keyed → Keyed → Bool) (a b o : List Keyed) (p q : Nat) : Prop where
 perm : o.Perm (a.drop p ++ b.drop q)
 srt : o.Pairwise (fun x y => Le lt y x)
 la : ∀ x ∈ o, ∀ y ∈ a.take p, Le lt y x
 lb : ∀ x ∈ o, ∀ y ∈ b.take q, Le lt y x
theorem srt_take {l : List Keyed} (h : l.Pairwise (Le lt)) {i : Nat} {y : Keyed} (hy : l[i]? = some y) : ∀ z ∈ l.take i, Le lt z y := by
 have := h.take (i := i + 1)
 rw [take_snoc hy, List.pairwise_append] at this
 exact fun z hz => this.2.2 z hz y (.head _)
theorem MH.takeA (sa : a.Pairwise (Le lt)) (m : MH lt a b o (p + 1) q) {y : Keyed} (hy : a[p]? = some y) (hb : ∀ z ∈ b.take q, Le lt z y) : MH lt a b (o ++ [y]) p q := by
 have hm : y ∈ a.take (p + 1) := by rw [take_snoc hy]; exact List.mem_append_right _ (.head _)
 refine ⟨?_, ?_, fun x hx z hz => ?_, fun x hx z hz => ?_⟩
 · rw [drop_cons hy]
   refine (m.perm.append_right [y]).trans ?_
   exact List.perm_append_comm
 · rw [List.pairwise_append]
   refine ⟨m.srt, List.pairwise_singleton _ _, fun x hx z hz => ?_⟩
   rw [List.mem_singleton.mp hz]; exact m.la x hx y hm
 · rcases List.mem_append.mp hx with h | h
   · exact m.la x h z (by rw [take_snoc hy]; exact List.mem_append_left _ hz)
   · rw [List.mem_singleton.mp h]; exact srt_take sa hy z hz
 · rcases List.mem_append.mp hx with h | h
   · exact m.lb x h z hz
   · rw [List.mem_singleton.mp h]; exact hb z hz
theorem MH.swap (m : MH lt a b o p q) : MH lt b a o q p := ⟨m.perm.trans List.perm_append_comm, m.srt, m.lb, m.la⟩
theorem MH.takeB (sb : b.Pairwise (Le lt)) (m : MH lt a b o p (q + 1)) {y : Keyed} (hy : b[q]? = some y) (ha : ∀ z ∈ a.take p, Le lt z y) : MH lt a b (o ++ [y]) p q := (m.swap.takeA sb hy ha).swap
theorem MH.takeAs (sa : a.Pairwise (Le lt)) {t : Nat} : ∀ {k : Nat} {o : List Keyed}, MH lt a b o (t + k) q → t + k ≤ a.length → (∀ i y, t ≤ i → i < t + k → a[i]? = some y → ∀ z ∈ b.take q, Le lt z y) → MH lt a b (o ++ ((a.drop t).take k).reverse) t q
 | 0, o, m, _, _ => by simpa using m
 | k + 1, o, m, hl, h => by
  obtain ⟨y, hy⟩ : ∃ y, a[t + k]? = some y := ⟨_, List.getElem?_eq_getElem (by omega)⟩
  have m1 : MH lt a b (o ++ [y]) (t + k) q := MH.takeA sa m hy (h (t + k) y (by omega) (by omega) hy)
  have m2 := MH.takeAs sa (k := k) m1 (by omega) fun i z h1 h2 hz => h i z h1 (by omega) hz
  have hy' : (a.drop t)[k]? = some y := by rw [List.getElem?_drop]; exact hy
  rw [take_snoc hy', List.reverse_append]
  have e : o ++ ([y].reverse ++ ((a.drop t).take k).reverse) = o ++ [y] ++ ((a.drop t).take k).reverse := by simp
  rw [e]; exact m2
theorem MH.takeBs (sb : b.Pairwise (Le lt)) {t k : Nat} (m : MH lt a b o p (t + k)) (hl : t + k ≤ b.length) (h : ∀ i y, t ≤ i → i < t + k → b[i]? = some y → ∀ z ∈ a.take p, Le lt z y) : MH lt a b (o ++ ((b.drop t).take k).reverse) p t := (MH.takeAs sb m.swap hl h).swap
theorem MH.rsrt (m : MH lt a b o p q) : o.reverse.Pairwise (Le lt) := List.pairwise_reverse.mpr m.srt
theorem MH.endA (sb : b.Pairwise (Le lt)) (m : MH lt a b o p q) (hp : p = 0) : (b.take q ++ o.reverse).Perm (a ++ b) ∧ (b.take q ++ o.reverse).Pairwise (Le lt) := by
 refine ⟨?_, List.pairwise_append.mpr ⟨sb.take, m.rsrt, fun x hx y hy => m.lb y (List.mem_reverse.mp hy) x hx⟩⟩
 have h := (List.reverse_perm o).trans m.perm
 rw [hp, List.drop_zero] at h
 refine (List.Perm.append_left _ h).trans ?_
 rw [← List.append_assoc]
 refine (List.Perm.append_right _ List.perm_append_comm).trans ?_
 rw [List.append_assoc, List.take_append_drop]
theorem MH.endB (sa : a.Pairwise (Le lt)) (m : MH lt a b o p q) (hq : q = 0) : (a.take p ++ o.reverse).Perm (a ++ b) ∧ (a.take p ++ o.reverse).Pairwise (Le lt) :=
 let ⟨h1, h2⟩ := m.swap.endA sa hq; ⟨h1.trans List.perm_append_comm, h2⟩
theorem MH.endF (sa : a.Pairwise (Le lt)) (sb : b.Pairwise (Le lt)) (m : MH lt a b o p q) (hf : ∀ x ∈ b.take q, ∀ y ∈ a.take p, Le lt x y) : (b.take q ++ a.take p ++ o.reverse).Perm (a ++ b) ∧ (b.take q ++ a.take p ++ o.reverse).Pairwise (Le lt) := by
 refine ⟨?_, ?_⟩
 · have h := (List.reverse_perm o).trans m.perm
   refine (List.Perm.append_left _ h).trans ?_
   have e : (b.take q ++ a.take p ++ (a.drop p ++ b.drop q)).Perm (a.take p ++ a.drop p ++ (b.take q ++ b.drop q)) := by
    refine (List.Perm.append_right _ List.perm_append_comm).trans ?_
    rw [List.append_assoc, List.append_assoc]
    refine List.Perm.append_left _ ?_
    rw [← List.append_assoc, ← List.append_assoc]
    exact List.Perm.append_right _ List.perm_append_comm
   rw [List.take_append_drop, List.take_append_drop] at e
   exact e
 · rw [List.pairwise_append]
   refine ⟨List.pairwise_append.mpr ⟨sb.take, sa.take, hf⟩, m.rsrt, fun x hx y hy => ?_⟩
   rcases List.mem_append.mp hx with h | h
   · exact m.lb y (List.mem_reverse.mp hy) x h
   · exact m.la y (List.mem_reverse.mp hy) x h
end
theorem ext_0 (xs : Array Keyed) (p : Nat) : (xs.extract 0 p).toList = xs.toList.take p := by
 rw [Array.toList_extract, List.extract_eq_take_drop, List.drop_zero, Nat.sub_zero]
abbrev hnD (xa xb o : Array Keyed) (p q : Nat) : Array Keyed := xa.extract 0 p ++ xb.extract 0 q ++ o.reverse
abbrev hnF (xa xb o : Array Keyed) (p q : Nat) : Array Keyed := xb.extract 0 q ++ xa.extract 0 p ++ o.reverse
theorem mergeHi'_eq (xa xb : Array Keyed) : mergeHi' xa xb = (do
 rule "list.sort.merge-hi"
 let tot := xa.size + xb.size
 let mut p := xa.size - 1
 let mut q := xb.size
 let mut o : Array Keyed := #[← elem' xa p]
 if p == 0 then return hnD xa xb o p q
 if q == 1 then return hnF xa xb o p q
 let mut mg := gallopOf (← get)
 for _ in [0:tot] do
  let mut ca := 0
  let mut cb := 0
  for _ in [0:tot] do
   let some aw ← lt' (← elem' xb (q - 1)) (← elem' xa (p - 1)) | return hnD xa xb o p q
   if aw then
    p := p - 1; o := o.push (← elem' xa p); ca := ca + 1; cb := 0
    if p == 0 then return hnD xa xb o p q
    if ca ≥ mg then break
   else
    q := q - 1; o := o.push (← elem' xb q); cb := cb + 1; ca := 0
    if q == 1 then return hnF xa xb o p q
    if cb ≥ mg then break
  rule "list.sort.gallop"
  mg := mg + 1
  for _ in [0:tot] do
   if mg > 1 then mg := mg - 1
   setG mg
   let some u ← gallop' false (← elem' xb (q - 1)) xa 0 p (p - 1) | return hnD xa xb o p q
   let k := p - u
   ca := k
   if k > 0 then
    o := o ++ (xa.extract u p).reverse; p := u
    if p == 0 then return hnD xa xb o p q
   q := q - 1; o := o.push (← elem' xb q)
   if q == 1 then return hnF xa xb o p q
   let some u ← gallop' true (← elem' xa (p - 1)) xb 0 q (q - 1) | return hnD xa xb o p q
   let k := q - u
   cb := k
   if k > 0 then
    o := o ++ (xb.extract u q).reverse; q := u
    if q == 1 then return hnF xa xb o p q
    if q == 0 then return hnD xa xb o p q
   p := p - 1; o := o.push (← elem' xa p)
   if p == 0 then return hnD xa xb o p q
   if ca < 7 && cb < 7 then break
  mg := mg + 1
  setG mg
 unsupported "internal:list.sort.merge-bound") := rfl
section
variable {prog : Program} {w : World} {A : Around} {E : Value → Shared → Prop} {s : Shared} {κ : SortKind} {kz : Array Keyed} {lt : Keyed → Keyed → Bool} {st : SortSt}
theorem ext_up (xs : Array Keyed) (u p : Nat) : (xs.extract u p).toList = (xs.toList.drop u).take (p - u) := by
 rw [Array.toList_extract, List.extract_eq_take_drop]
section
variable {xa xb o : Array Keyed} {p q : Nat}
theorem Two.rtA (T : Two lt kz xa xb) (m : MH lt xa.toList xb.toList o.toList p q) (h : p = 0) : Good lt xa xb (hnD xa xb o p q) := by
 have e : (hnD xa xb o p q).toList = xb.toList.take q ++ o.toList.reverse := by
  show (xa.extract 0 p ++ xb.extract 0 q ++ o.reverse).toList = _
  rw [Array.toList_append, Array.toList_append, ext_0, ext_0, h, List.take_zero, List.nil_append, Array.toList_reverse]
 unfold Good; rw [e]
 exact m.endA T.sb h
theorem Two.rtB (T : Two lt kz xa xb) (m : MH lt xa.toList xb.toList o.toList p q) (h : q = 0) : Good lt xa xb (hnD xa xb o p q) := by
 have e : (hnD xa xb o p q).toList = xa.toList.take p ++ o.toList.reverse := by
  show (xa.extract 0 p ++ xb.extract 0 q ++ o.reverse).toList = _
  rw [Array.toList_append, Array.toList_append, ext_0, ext_0, h, List.take_zero, List.append_nil, Array.toList_reverse]
 unfold Good; rw [e]
 exact m.endB T.sa h
theorem Two.rtF (O : Ord lt) (T : Two lt kz xa xb) (m : MH lt xa.toList xb.toList o.toList p q) (h : q = 1) : Good lt xa xb (hnF xa xb o p q) := by
 have e : (hnF xa xb o p q).toList = xb.toList.take q ++ xa.toList.take p ++ o.toList.reverse := by
  show (xb.extract 0 q ++ xa.extract 0 p ++ o.reverse).toList = _
  rw [Array.toList_append, Array.toList_append, ext_0, ext_0, Array.toList_reverse]
 unfold Good; rw [e]
 refine m.endF T.sa T.sb fun x hx y hy => ?_
 have nb := T.nb
 have na := T.na
 obtain ⟨b0, hb0⟩ : ∃ b0, xb[0]? = some b0 := ⟨xb[0]'(by omega), by simp⟩
 obtain ⟨a0, ha0⟩ : ∃ a0, xa[0]? = some a0 := ⟨xa[0]'(by omega), by simp⟩
 rw [h, show (1 : Nat) = 0 + 1 from rfl, take_snoc ((arr_get xb 0).trans hb0)] at hx
 have hx : x = b0 := by simpa using hx
 have h0 := O.asy _ _ (T.fst b0 a0 hb0 ha0)
 have hy' := List.mem_of_mem_take hy
 rw [← List.drop_zero (l := xa.toList), drop_cons ((arr_get xa 0).trans ha0)] at hy'
 rw [hx]
 rcases List.mem_cons.mp hy' with e | e
 · rw [e]; exact h0
 · exact O.tr _ _ _ h0 (srt_drop T.sa ((arr_get xa 0).trans ha0) y e)
end
theorem mem_take_last {l : List Keyed} {q : Nat} {y z : Keyed} (hl : l.Pairwise (Le lt)) (O : Ord lt) (hq : 0 < q) (hy : l[q - 1]? = some y) (hz : z ∈ l.take q) : Le lt z y := by
 rw [show q = q - 1 + 1 by omega, take_snoc hy] at hz
 rcases List.mem_append.mp hz with e | e
 · exact srt_take hl hy z e
 · rw [List.mem_singleton.mp e]; exact O.irr y
theorem mergeHi_ok {xa xb : Array Keyed} {Q : Array Keyed → SortSt → Prop} (O : Ord lt) (c : PureLt prog w A s κ kz lt) (hk : kindOf st = κ) (T : Two lt kz xa xb)
 (q0 : ∀ r v, Good lt xa xb r → Sm st v → Q r v) : wpS (model prog w) A E s (mergeHi' xa xb) Q st := by
 rw [mergeHi'_eq]
 have na := T.na
 have nb := T.nb
 have gta : ∀ {i : Nat}, i < xa.size → ∃ x, xa[i]? = some x ∧ xa.toList[i]? = some x := fun {i} h => ⟨xa[i], by simp [h], by simp [h]⟩
 have gtb : ∀ {i : Nat}, i < xb.size → ∃ x, xb[i]? = some x ∧ xb.toList[i]? = some x := fun {i} h => ⟨xb[i], by simp [h], by simp [h]⟩
 have inA : ∀ (i : Nat) z, xa[i]? = some z → z ∈ kz.toList := fun i z h => T.ina z (List.mem_of_getElem? ((arr_get xa i).trans h))
 have inB : ∀ (i : Nat) z, xb[i]? = some z → z ∈ kz.toList := fun i z h => T.inb z (List.mem_of_getElem? ((arr_get xb i).trans h))
 obtain ⟨al, hal, hal'⟩ := gta (i := xa.size - 1) (by omega)
 refine wpS_bind (rule_ok ?_)
 refine wpS_bind (elem_ok hal ?_)
 have m0 : MH lt xa.toList xb.toList (#[al] : Array Keyed).toList (xa.size - 1) xb.size := by
  have m : MH lt xa.toList xb.toList [] (xa.size - 1 + 1) xb.size := ⟨by rw [List.drop_of_length_le (by simp; omega), List.drop_of_length_le (by simp)]; exact .nil, List.Pairwise.nil, fun x hx => (nomatch hx), fun x hx => (nomatch hx)⟩
  exact m.takeA T.sa hal' fun z hz => O.asy _ _ (T.lst al hal z (List.mem_of_mem_take hz))
 dsimp only
 by_cases ha1 : (xa.size - 1 == 0) = true
 · rw [if_pos ha1]
   exact wpS_pure (q0 _ _ (T.rtA m0 (by simpa using ha1)) (Sm.refl _))
 rw [if_neg ha1]
 by_cases hb1 : (xb.size == 1) = true
 · rw [if_pos hb1]
   exact wpS_pure (q0 _ _ (T.rtF O m0 (by simpa using hb1)) (Sm.refl _))
 rw [if_neg hb1]
 have ha1' : 0 < xa.size - 1 := by have : ¬ xa.size - 1 = 0 := fun e => ha1 (by simp [e]); omega
 have hb1' : 1 < xb.size := by have : ¬ xb.size = 1 := fun e => hb1 (by simp [e]); omega
 refine wpS_bind (wpS_get ?_)
 refine wpS_bind (wpS_forRange (I := fun i c v => Sm st v ∧ ∃ o p q g, c = (none, p, q, o, g) ∧ MH lt xa.toList xb.toList o.toList p q ∧ 0 < p ∧ p < xa.size ∧ 1 < q ∧ q ≤ xb.size ∧ i + p + q ≤ xa.size + xb.size) ?step ?fin ⟨Sm.refl _, _, _, _, _, rfl, m0, ha1', by omega, hb1', Nat.le_refl _, by omega⟩)
 case fin =>
  rintro c' v ⟨_, o, p, q, g, rfl, m, h1, h2, h3, h4, h5⟩
  exfalso
  omega
 case step =>
  rintro i c' v _ hi ⟨sm, o, p, q, g, rfl, m, h1, h2, h3, h4, h5⟩
  dsimp only
  have sk : ∀ {v : SortSt}, Sm st v → kindOf v = κ := fun h => h.1.trans hk
  refine wpS_bind (wpS_mono (wpS_forRange (I := fun j c v => Sm st v ∧ ∃ o p q x y, c = (none, p, q, o, x, y) ∧ MH lt xa.toList xb.toList o.toList p q ∧ 0 < p ∧ p < xa.size ∧ 1 < q ∧ q ≤ xb.size ∧ i + p + q ≤ xa.size + xb.size ∧ (0 < j → i + 1 + p + q ≤ xa.size + xb.size))
   (Q := fun c v => Sm st v ∧ ((∃ r z, c = (some r, z) ∧ Good lt xa xb r) ∨ ∃ o p q x y, c = (none, p, q, o, x, y) ∧ MH lt xa.toList xb.toList o.toList p q ∧ 0 < p ∧ p < xa.size ∧ 1 < q ∧ q ≤ xb.size ∧ i + 1 + p + q ≤ xa.size + xb.size)) ?one ?oneE ⟨sm, o, p, q, 0, 0, rfl, m, h1, h2, h3, h4, h5, fun z => absurd z (Nat.lt_irrefl _)⟩) ?two)
  case oneE =>
   rintro c' v ⟨sm, o, p, q, x, y, rfl, m, h1, h2, h3, h4, h5, h6⟩
   exact ⟨sm, .inr ⟨o, p, q, x, y, rfl, m, h1, h2, h3, h4, h6 (by omega)⟩⟩
  case one =>
   rintro j c' v _ hj ⟨sm, o, p, q, x, y, rfl, m, h1, h2, h3, h4, h5, _⟩
   dsimp only
   obtain ⟨b1, hb, hb'⟩ := gtb (i := q - 1) (by omega)
   obtain ⟨a1, ha, ha'⟩ := gta (i := p - 1) (by omega)
   refine wpS_bind (elem_ok hb (wpS_bind (elem_ok ha (wpS_bind (pure_lt c (sk sm) (inB _ _ hb) (inA _ _ ha) ?_)))))
   dsimp only
   cases hl : lt b1 a1 with
   | true =>
    simp only [if_true]
    refine wpS_bind (elem_ok ha ?_)
    have m1 : MH lt xa.toList xb.toList (o.push a1).toList (p - 1) q := by
     rw [Array.toList_push]
     refine MH.takeA T.sa (by rw [show p - 1 + 1 = p by omega]; exact m) ha' fun z hz => ?_
     exact O.tr _ _ _ (mem_take_last T.sb O (by omega) hb' hz) (O.asy _ _ hl)
    by_cases e1 : (p - 1 == 0) = true
    · rw [if_pos e1]
      exact wpS_pure ⟨sm, .inl ⟨_, _, rfl, T.rtA m1 (by simpa using e1)⟩⟩
    rw [if_neg e1]
    have e1' : 0 < p - 1 := by have : ¬ p - 1 = 0 := fun e => e1 (by simp [e]); omega
    split
    · exact wpS_pure ⟨sm, .inr ⟨_, _, _, _, _, rfl, m1, e1', by omega, h3, h4, by omega⟩⟩
    · exact wpS_pure ⟨sm, _, _, _, _, _, rfl, m1, e1', by omega, h3, h4, by omega, fun _ => by omega⟩
   | false =>
    simp only [Bool.false_eq_true, if_false]
    refine wpS_bind (elem_ok hb ?_)
    have m1 : MH lt xa.toList xb.toList (o.push b1).toList p (q - 1) := by
     rw [Array.toList_push]
     refine MH.takeB T.sb (by rw [show q - 1 + 1 = q by omega]; exact m) hb' fun z hz => ?_
     exact O.tr _ _ _ (mem_take_last T.sa O h1 ha' hz) hl
    by_cases e1 : (q - 1 == 1) = true
    · rw [if_pos e1]
      exact wpS_pure ⟨sm, .inl ⟨_, _, rfl, T.rtF O m1 (by simpa using e1)⟩⟩
    rw [if_neg e1]
    have e1' : 1 < q - 1 := by have : ¬ q - 1 = 1 := fun e => e1 (by simp [e]); omega
    split
    · exact wpS_pure ⟨sm, .inr ⟨_, _, _, _, _, rfl, m1, h1, h2, e1', by omega, by omega⟩⟩
    · exact wpS_pure ⟨sm, _, _, _, _, _, rfl, m1, h1, h2, e1', by omega, by omega, fun _ => by omega⟩
  case two =>
   rintro c' v ⟨sm, ⟨r, z, rfl, good⟩ | ⟨o, p, q, x, y, rfl, m, h1, h2, h3, h4, h5⟩⟩
   · exact wpS_pure (wpS_pure (q0 r v good sm))
   dsimp only
   refine wpS_bind (rule_ok ?_)
   refine wpS_bind (wpS_mono (wpS_forRange (I := fun j c v => Sm st v ∧ ∃ o p q g x y, c = (none, p, q, o, g, x, y) ∧ MH lt xa.toList xb.toList o.toList p q ∧ 0 < p ∧ p < xa.size ∧ 1 < q ∧ q ≤ xb.size ∧ i + 1 + p + q ≤ xa.size + xb.size)
    (Q := fun c v => Sm st v ∧ ((∃ r z, c = (some r, z) ∧ Good lt xa xb r) ∨ ∃ o p q g x y, c = (none, p, q, o, g, x, y) ∧ MH lt xa.toList xb.toList o.toList p q ∧ 0 < p ∧ p < xa.size ∧ 1 < q ∧ q ≤ xb.size ∧ i + 1 + p + q ≤ xa.size + xb.size)) ?gal ?galE ⟨sm, o, p, q, _, x, y, rfl, m, h1, h2, h3, h4, h5⟩) ?three)
   case galE =>
    rintro c' v ⟨sm, o, p, q, g, x, y, rfl, m, h1, h2, h3, h4, h5⟩
    exact ⟨sm, .inr ⟨o, p, q, g, x, y, rfl, m, h1, h2, h3, h4, h5⟩⟩
   case three =>
    rintro c' v ⟨sm, ⟨r, z, rfl, good⟩ | ⟨o, p, q, g, x, y, rfl, m, h1, h2, h3, h4, h5⟩⟩
    · exact wpS_pure (wpS_pure (q0 r v good sm))
    dsimp only
    exact wpS_bind (setG_ok sm fun v1 sm1 => wpS_pure ⟨sm1, o, p, q, _, rfl, m, h1, h2, h3, h4, h5⟩)
   case gal =>
    rintro j c' v _ hj ⟨sm, o, p, q, g, x, y, rfl, m, h1, h2, h3, h4, h5⟩
    dsimp only
    obtain ⟨b1, hb, hb'⟩ := gtb (i := q - 1) (by omega)
    by_cases hg : g > 1
    all_goals first | rw [if_pos hg] | rw [if_neg hg]
    all_goals
     refine wpS_bind (setG_ok sm fun v1 sm1 => ?_)
     refine wpS_bind (elem_ok hb (wpS_bind (gallop_ok c (sk sm1) (inB _ _ hb) inA (by omega) (by omega) (fun i j hij hj => Two.monoA (p := 0) O T.sa i j hij (by omega)) fun u u1 u2 u3 => ?_)))
     dsimp only
     have hA : ∀ i y, u ≤ i → i < u + (p - u) → xa.toList[i]? = some y → ∀ z ∈ xb.toList.take q, Le lt z y := fun i y hi hi2 hy z hz => by
      have := u3 i hi (by omega)
      unfold Bv at this
      rw [arr_get] at hy
      rw [Nat.zero_add, hy] at this
      simp only [Bool.false_eq_true, if_false, Bool.not_eq_false'] at this
      exact O.tr _ _ _ (mem_take_last T.sb O (by omega) hb' hz) (O.asy _ _ this)
     have hB : ∀ z ∈ xa.toList.take u, Le lt z b1 := fun z hz => by
      obtain ⟨n, hn, e⟩ := List.getElem_of_mem hz
      rw [List.length_take] at hn
      have hz' : xa[n]? = some z := by
       rw [← arr_get, ← List.getElem?_take_of_lt (show n < u by omega), List.getElem?_eq_getElem (by rw [List.length_take]; exact hn), e]
      have := u2 n (by omega)
      unfold Bv at this
      rw [Nat.zero_add, hz'] at this
      simpa using this
     have mA : MH lt xa.toList xb.toList (o ++ (xa.extract u p).reverse).toList u q := by
      rw [Array.toList_append, Array.toList_reverse, ext_up]
      exact MH.takeAs T.sa (t := u) (k := p - u) (by rw [show u + (p - u) = p by omega]; exact m) (by simp; omega) hA
     by_cases hk0 : p - u > 0
    all_goals first
     | (rw [if_pos hk0]
        by_cases e1 : (u == 0) = true
        · rw [if_pos e1]
          exact wpS_pure ⟨sm1, .inl ⟨_, _, rfl, T.rtA mA (by simpa using e1)⟩⟩
        rw [if_neg e1]
        have hp0 : 0 < u := by have : ¬ u = 0 := fun e => e1 (by simp [e]); omega
        have hp1 : u < xa.size := by omega
        have hpk : i + 1 + u + q ≤ xa.size + xb.size := by omega
        generalize hO1 : o ++ (xa.extract u p).reverse = o1 at mA ⊢
        generalize hP1 : u = p1 at mA hB hp0 hp1 hpk ⊢)
     | (rw [if_neg hk0]
        have hup : u = p := by omega
        have hp0 := h1
        have hp1 := h2
        have hpk := h5
        have mA := m
        rw [hup] at hB
        generalize hO1 : o = o1 at mA ⊢
        generalize hP1 : p = p1 at mA hB hp0 hp1 hpk ⊢)
    all_goals
     refine wpS_bind (elem_ok hb ?_)
     have mB : MH lt xa.toList xb.toList (o1.push b1).toList p1 (q - 1) := by
      rw [Array.toList_push]
      exact MH.takeB T.sb (by rw [show q - 1 + 1 = q by omega]; exact mA) hb' hB
     by_cases e3 : (q - 1 == 1) = true
     · rw [if_pos e3]
       exact wpS_pure ⟨sm1, .inl ⟨_, _, rfl, T.rtF O mB (by simpa using e3)⟩⟩
     rw [if_neg e3]
     have hq1 : 1 < q - 1 := by have : ¬ q - 1 = 1 := fun e => e3 (by simp [e]); omega
     obtain ⟨a1, ha, ha'⟩ := gta (i := p1 - 1) (by omega)
     refine wpS_bind (elem_ok ha (wpS_bind (gallop_ok c (sk sm1) (inA _ _ ha) inB (by omega) (by omega) (fun i j hij hj => Two.monoB (q := 0) O T.sb i j hij (by omega)) fun n n1 n2 n3 => ?_)))
     dsimp only
     have hA2 : ∀ i y, n ≤ i → i < n + (q - 1 - n) → xb.toList[i]? = some y → ∀ z ∈ xa.toList.take p1, Le lt z y := fun i y hi hi2 hy z hz => by
      have := n3 i hi (by omega)
      unfold Bv at this
      rw [arr_get] at hy
      rw [Nat.zero_add, hy] at this
      simp only [if_true] at this
      exact O.tr _ _ _ (mem_take_last T.sa O hp0 ha' hz) this
     have hB2 : ∀ z ∈ xb.toList.take n, Le lt z a1 := fun z hz => by
      obtain ⟨j, hj, e⟩ := List.getElem_of_mem hz
      rw [List.length_take] at hj
      have hz' : xb[j]? = some z := by
       rw [← arr_get, ← List.getElem?_take_of_lt (show j < n by omega), List.getElem?_eq_getElem (by rw [List.length_take]; exact hj), e]
      have := n2 j (by omega)
      unfold Bv at this
      rw [Nat.zero_add, hz'] at this
      simp only [if_true] at this
      exact O.asy _ _ this
     have mC : MH lt xa.toList xb.toList (o1.push b1 ++ (xb.extract n (q - 1)).reverse).toList p1 n := by
      rw [Array.toList_append, Array.toList_reverse, ext_up]
      exact MH.takeBs T.sb (t := n) (k := q - 1 - n) (by rw [show n + (q - 1 - n) = q - 1 by omega]; exact mB) (by simp; omega) hA2
     by_cases hn0 : q - 1 - n > 0
    all_goals first
     | (rw [if_pos hn0]
        by_cases e4 : (n == 1) = true
        · rw [if_pos e4]
          exact wpS_pure ⟨sm1, .inl ⟨_, _, rfl, T.rtF O mC (by simpa using e4)⟩⟩
        rw [if_neg e4]
        by_cases e6 : (n == 0) = true
        · rw [if_pos e6]
          exact wpS_pure ⟨sm1, .inl ⟨_, _, rfl, T.rtB mC (by simpa using e6)⟩⟩
        rw [if_neg e6]
        have hq2 : 1 < n := by
         have : ¬ n = 1 := fun e => e4 (by simp [e])
         have : ¬ n = 0 := fun e => e6 (by simp [e])
         omega
        have hq3 : n ≤ xb.size := by omega
        have hpk2 : i + 1 + (p1 - 1) + n ≤ xa.size + xb.size := by omega
        generalize hO2 : o1.push b1 ++ (xb.extract n (q - 1)).reverse = o2 at mC ⊢
        generalize hQ2 : n = q2 at mC hB2 hq2 hq3 hpk2 ⊢)
     | (rw [if_neg hn0]
        have hnq : n = q - 1 := by omega
        have hq2 := hq1
        have hq3 : q - 1 ≤ xb.size := by omega
        have mC := mB
        rw [hnq] at hB2
        have hpk2 : i + 1 + (p1 - 1) + (q - 1) ≤ xa.size + xb.size := by omega
        generalize hO2 : o1.push b1 = o2 at mC ⊢
        generalize hQ2 : q - 1 = q2 at mC hB2 hq2 hq3 hpk2 ⊢)
    all_goals
     refine wpS_bind (elem_ok ha ?_)
     have mD : MH lt xa.toList xb.toList (o2.push a1).toList (p1 - 1) q2 := by
      rw [Array.toList_push]
      exact MH.takeA T.sa (by rw [show p1 - 1 + 1 = p1 by omega]; exact mC) ha' hB2
     by_cases e5 : (p1 - 1 == 0) = true
     · rw [if_pos e5]
       exact wpS_pure ⟨sm1, .inl ⟨_, _, rfl, T.rtA mD (by simpa using e5)⟩⟩
     rw [if_neg e5]
     have hp2 : 0 < p1 - 1 := by have : ¬ p1 - 1 = 0 := fun e => e5 (by simp [e]); omega
     split
     · exact wpS_pure ⟨sm1, .inr ⟨_, _, _, _, _, _, rfl, mD, hp2, by omega, hq2, hq3, hpk2⟩⟩
     · exact wpS_pure ⟨sm1, _, _, _, _, _, _, rfl, mD, hp2, by omega, hq2, hq3, hpk2⟩
end
theorem mergeAt'_eq (n : Nat) : mergeAt' n = (do
 let u ← get
 let (some (sa, ca, pw), some (sb, cb, _)) := ((pendingOf u)[n]?, (pendingOf u)[n + 1]?) | unsupported "internal:list.sort.pending"
 set (setPending u (((pendingOf u).setIfInBounds n (sa, ca + cb, pw)).eraseIdxIfInBounds (n + 1)))
 let some k ← gallop' false (← elem' (arrOf u) sb) (arrOf u) sa ca 0 | return false
 let (sa, ca) := (sa + k, ca - k)
 if ca == 0 then return true
 let some cb ← gallop' true (← elem' (arrOf u) (sa + ca - 1)) (arrOf u) sb cb (cb - 1) | return false
 if cb == 0 then return true
 let xs := (arrOf u).extract sa sb
 let ys := (arrOf u).extract sb (sb + cb)
 let got ← if ca ≤ cb then mergeLo' xs ys else mergeHi' xs ys
 modify fun v => setArr v (got.toList.zipIdx.foldl (fun a (p, j) => a.setIfInBounds (sa + j) p) (arrOf v))
 return (failedOf (← get)).isNone) := rfl
theorem over_get (sa : Nat) : ∀ (l : List Keyed) (n : Nat) (xs : Array Keyed), sa + n + l.length ≤ xs.size →
 ((l.zipIdx n).foldl (fun a (z : Keyed × Nat) => a.setIfInBounds (sa + z.2) z.1) xs).toList = xs.toList.take (sa + n) ++ l ++ xs.toList.drop (sa + n + l.length)
 | [], n, xs, h => by simp
 | y :: l, n, xs, h => by
  rw [List.zipIdx_cons, List.foldl_cons]
  have ih := over_get sa l (n + 1) (xs.setIfInBounds (sa + n) y) (by simp at h ⊢; omega)
  rw [ih, Array.toList_setIfInBounds]
  have hl : sa + n < xs.toList.length := by simp at h ⊢; omega
  rw [List.set_eq_take_append_cons_drop, if_pos hl]
  have e1 : (xs.toList.take (sa + n) ++ y :: xs.toList.drop (sa + n + 1)).take (sa + (n + 1)) = xs.toList.take (sa + n) ++ [y] := by
   rw [List.take_append, List.take_of_length_le (by rw [List.length_take]; omega), List.length_take, Nat.min_eq_left (by omega), show sa + (n + 1) - (sa + n) = 1 by omega]; rfl
  have e2 : (xs.toList.take (sa + n) ++ y :: xs.toList.drop (sa + n + 1)).drop (sa + (n + 1) + l.length) = xs.toList.drop (sa + n + (y :: l).length) := by
   rw [List.drop_append, List.drop_of_length_le (by rw [List.length_take]; omega), List.length_take, Nat.min_eq_left (by omega), List.nil_append, show sa + (n + 1) + l.length - (sa + n) = l.length + 1 by omega, List.drop_succ_cons, List.drop_drop]
   congr 1; simp; omega
  rw [e1, e2]
  simp
section
variable {prog : Program} {w : World} {A : Around} {E : Value → Shared → Prop} {s : Shared} {κ : SortKind} {kz : Array Keyed} {lt : Keyed → Keyed → Bool} {st : SortSt}
structure Bs (κ : SortKind) (kz : Array Keyed) (st : SortSt) : Prop where
 kind : kindOf st = κ
 failed : failedOf st = none
 perm : (arrOf st).toList.Perm kz.toList
theorem Bs.mem (b : Bs κ kz st) {i : Nat} {x : Keyed} (h : (arrOf st)[i]? = some x) : x ∈ kz.toList := b.perm.mem_iff.mp (List.mem_of_getElem? ((arr_get _ i).trans h))
theorem at_mid {xs : Array Keyed} {L0 B L3 : List Keyed} (h : xs.toList = L0 ++ B ++ L3) {i : Nat} (hi : i < B.length) : xs[L0.length + i]? = B[i]? := by
 rw [← arr_get, h, List.append_assoc, List.getElem?_append_right (by omega), Nat.add_sub_cancel_left, List.getElem?_append_left hi]
theorem bv_mono {xs : Array Keyed} {L0 B L3 : List Keyed} (O : Ord lt) (h : xs.toList = L0 ++ B ++ L3) (sb : B.Pairwise (Le lt)) {lf : Bool} {y : Keyed} : ∀ i j, i ≤ j → j < B.length → Bv lt lf y xs L0.length j = true → Bv lt lf y xs L0.length i = true := fun i j hij hj hb => by
 obtain ⟨u, hu⟩ : ∃ u, B[i]? = some u := ⟨_, List.getElem?_eq_getElem (by omega)⟩
 obtain ⟨v, hv⟩ : ∃ v, B[j]? = some v := ⟨_, List.getElem?_eq_getElem hj⟩
 unfold Bv at hb ⊢
 rw [at_mid h hj, hv] at hb
 rw [at_mid h (by omega), hu]
 have le : i = j ∨ Le lt u v := by
  by_cases e : i = j
  · exact .inl e
  · have := List.pairwise_iff_getElem.mp sb i j (by omega) hj (by omega)
    rw [Option.some.inj ((List.getElem?_eq_getElem (by omega)).symm.trans hu), Option.some.inj ((List.getElem?_eq_getElem hj).symm.trans hv)] at this
    exact .inr this
 rcases le with e | e
 · subst e; rw [hu] at hv; cases hv; exact hb
 · cases lf with
   | true => exact O.le_lt e hb
   | false =>
    simp only [Bool.false_eq_true, if_false, Bool.not_eq_true'] at hb ⊢
    exact O.tr u v y e hb
theorem mergeAt_ok {n : Nat} {L0 X Y L3 : List Keyed} {pw pw' : Nat} {Q : Bool → SortSt → Prop} (O : Ord lt) (c : PureLt prog w A s κ kz lt) (b : Bs κ kz st) (ha : (arrOf st).toList = L0 ++ (X ++ Y) ++ L3) (hX : 0 < X.length) (hY : 0 < Y.length) (sX : X.Pairwise (Le lt)) (sY : Y.Pairwise (Le lt))
 (p1 : (pendingOf st)[n]? = some (L0.length, X.length, pw)) (p2 : (pendingOf st)[n + 1]? = some (L0.length + X.length, Y.length, pw'))
 (q : ∀ v Z, Bs κ kz v → (arrOf v).toList = L0 ++ Z ++ L3 → Z.Perm (X ++ Y) → Z.Pairwise (Le lt) → pendingOf v = (((pendingOf st).setIfInBounds n (L0.length, X.length + Y.length, pw)).eraseIdxIfInBounds (n + 1)) → Q true v) :
 wpS (model prog w) A E s (mergeAt' n) Q st := by
 rw [mergeAt'_eq]
 refine wpS_bind (wpS_get ?_)
 rw [p1, p2]
 dsimp only
 have hXs : (arrOf st).toList = L0 ++ X ++ (Y ++ L3) := by rw [ha]; simp
 have hYs : (arrOf st).toList = (L0 ++ X) ++ Y ++ L3 := by rw [ha]; simp
 have hlen : (arrOf st).size = L0.length + X.length + Y.length + L3.length := by
  have := congrArg List.length ha
  simp at this; omega
 have hL : (L0 ++ X).length = L0.length + X.length := List.length_append
 have set_ok : ∀ {u v : SortSt} {R : PUnit → SortSt → Prop}, R ⟨⟩ u → wpS (model prog w) A E s (set u : StateT SortSt Sem PUnit) R v := fun {u v R} h => by
  unfold wpS; rw [StateT.run_set]; exact wpAny_pure ⟨rfl, h⟩
 refine wpS_bind (set_ok ?_)
 generalize hP : ((pendingOf st).setIfInBounds n (L0.length, X.length + Y.length, pw)).eraseIdxIfInBounds (n + 1) = P at q
 have b0 : Bs κ kz (setPending st P) := ⟨b.kind, b.failed, b.perm⟩
 have mem : ∀ (i : Nat) x, (arrOf st)[i]? = some x → x ∈ kz.toList := fun i x h => b.mem h
 obtain ⟨y0, hy0⟩ : ∃ y0, Y[0]? = some y0 := ⟨_, List.getElem?_eq_getElem hY⟩
 have ey0 : (arrOf st)[L0.length + X.length]? = some y0 := by
  have := at_mid hYs hY
  rw [hL, Nat.add_zero] at this
  rw [this]; exact hy0
 refine wpS_bind (elem_ok ey0 (wpS_bind (gallop_ok c b0.kind (mem _ _ ey0) mem (by omega) hX (bv_mono O hXs sX) fun k k1 k2 k3 => ?_)))
 dsimp only
 have yY : ∀ z ∈ Y, Le lt y0 z := fun z hz => by
  have h' : Y = y0 :: Y.drop 1 := by
   have := drop_cons hy0
   rw [List.drop_zero] at this; exact this
  rw [h'] at hz
  rcases List.mem_cons.mp hz with e | e
  · rw [e]; exact O.irr _
  · exact srt_drop sY hy0 z e
 have FA : ∀ x ∈ X.take k, Le lt x y0 := fun x hx => by
  obtain ⟨i, hi, e⟩ := List.getElem_of_mem hx
  rw [List.length_take] at hi
  have hxi : X[i]? = some x := by rw [← List.getElem?_take_of_lt (show i < k by omega), List.getElem?_eq_getElem (by rw [List.length_take]; exact hi), e]
  have := k2 i (by omega)
  unfold Bv at this
  rw [at_mid hXs (by omega), hxi] at this
  simpa using this
 have FB : ∀ x ∈ X.drop k, lt y0 x = true := fun x hx => by
  obtain ⟨i, hi, e⟩ := List.getElem_of_mem hx
  rw [List.length_drop] at hi
  have hxi : X[k + i]? = some x := by rw [← List.getElem?_drop, List.getElem?_eq_getElem (by rw [List.length_drop]; exact hi), e]
  have := k3 (k + i) (by omega) (by omega)
  unfold Bv at this
  rw [at_mid hXs (by omega), hxi] at this
  simpa using this
 have asis : (X ++ Y).Pairwise (Le lt) → Q true (setPending st P) := fun h => q _ (X ++ Y) b0 ha (List.Perm.refl _) h rfl
 by_cases hk0 : (X.length - k == 0) = true
 · rw [if_pos hk0]
   have hk0 : k = X.length := by have : X.length - k = 0 := by simpa using hk0
                                 omega
   refine wpS_pure (asis (List.pairwise_append.mpr ⟨sX, sY, fun x hx y hy => O.tr _ _ _ (FA x (by rw [hk0, List.take_length]; exact hx)) (yY y hy)⟩))
 rw [if_neg hk0]
 have hkX : k < X.length := by have : ¬ X.length - k = 0 := fun e => hk0 (by simp [e]); omega
 obtain ⟨xl, hxl⟩ : ∃ xl, X[X.length - 1]? = some xl := ⟨_, List.getElem?_eq_getElem (by omega)⟩
 have exl : (arrOf st)[L0.length + k + (X.length - k) - 1]? = some xl := by
  rw [show L0.length + k + (X.length - k) - 1 = L0.length + (X.length - 1) by omega, at_mid hXs (by omega)]; exact hxl
 have gm := bv_mono (lf := true) (y := xl) O hYs sY
 rw [hL] at gm
 refine wpS_bind (elem_ok exl (wpS_bind (gallop_ok c b0.kind (mem _ _ exl) mem (by omega) (by omega) gm fun cb c1 c2 c3 => ?_)))
 dsimp only
 have atY : ∀ {i : Nat}, i < Y.length → (arrOf st)[L0.length + X.length + i]? = Y[i]? := fun {i} hi => by
  have := at_mid hYs hi
  rw [hL] at this; exact this
 have GA : ∀ y ∈ Y.take cb, lt y xl = true := fun y hy => by
  obtain ⟨i, hi, e⟩ := List.getElem_of_mem hy
  rw [List.length_take] at hi
  have hyi : Y[i]? = some y := by rw [← List.getElem?_take_of_lt (show i < cb by omega), List.getElem?_eq_getElem (by rw [List.length_take]; exact hi), e]
  have := c2 i (by omega)
  unfold Bv at this
  rw [atY (by omega), hyi] at this
  simpa using this
 have GB : ∀ y ∈ Y.drop cb, Le lt xl y := fun y hy => by
  obtain ⟨i, hi, e⟩ := List.getElem_of_mem hy
  rw [List.length_drop] at hi
  have hyi : Y[cb + i]? = some y := by rw [← List.getElem?_drop, List.getElem?_eq_getElem (by rw [List.length_drop]; exact hi), e]
  have := c3 (cb + i) (by omega) (by omega)
  unfold Bv at this
  rw [atY (by omega), hyi] at this
  simpa using this
 have Xl : ∀ x ∈ X, Le lt x xl := fun x hx => mem_take_last sX O hX hxl (by rw [List.take_length]; exact hx)
 by_cases hc0 : (cb == 0) = true
 · rw [if_pos hc0]
   have hc0 : cb = 0 := by simpa using hc0
   refine wpS_pure (asis (List.pairwise_append.mpr ⟨sX, sY, fun x hx y hy => O.tr _ _ _ (Xl x hx) (GB y (by rw [hc0, List.drop_zero]; exact hy))⟩))
 rw [if_neg hc0]
 have hcb : 0 < cb := by have : ¬ cb = 0 := fun e => hc0 (by simp [e]); omega
 have eX : ((arrOf st).extract (L0.length + k) (L0.length + X.length)).toList = X.drop k := by
  rw [ext_up, hXs, List.append_assoc, List.drop_append, List.drop_of_length_le (by omega), List.nil_append, show L0.length + k - L0.length = k by omega, List.drop_append_of_le_length (by omega), List.take_append_of_le_length (by rw [List.length_drop]; omega), List.take_of_length_le (by rw [List.length_drop]; omega)]
 have eY : ((arrOf st).extract (L0.length + X.length) (L0.length + X.length + cb)).toList = Y.take cb := by
  rw [ext_up, hYs, List.append_assoc, List.drop_append, List.drop_of_length_le (by rw [hL]; omega), List.nil_append, hL, Nat.sub_self, List.drop_zero, show L0.length + X.length + cb - (L0.length + X.length) = cb by omega, List.take_append_of_le_length (by omega)]
 generalize hxs : (arrOf st).extract (L0.length + k) (L0.length + X.length) = xs at eX
 generalize hys : (arrOf st).extract (L0.length + X.length) (L0.length + X.length + cb) = ys at eY
 have zx : xs.size = X.length - k := by have := congrArg List.length eX; simpa using this
 have zy : ys.size = cb := by have := congrArg List.length eY; simp at this; omega
 have inX : ∀ x ∈ X, x ∈ kz.toList := fun x hx => b.perm.mem_iff.mp (by rw [hXs]; exact List.mem_append_left _ (List.mem_append_right _ hx))
 have inY : ∀ x ∈ Y, x ∈ kz.toList := fun x hx => b.perm.mem_iff.mp (by rw [hYs]; exact List.mem_append_left _ (List.mem_append_right _ hx))
 have T : Two lt kz xs ys := by
  refine ⟨fun x hx => inX x (List.mem_of_mem_drop (by rw [← eX]; exact hx)), fun x hx => inY x (List.mem_of_mem_take (by rw [← eY]; exact hx)), by omega, by omega, by rw [eX]; exact sX.drop, by rw [eY]; exact sY.take, fun x y hx hy => ?_, fun y hy x hx => ?_⟩
  · rw [← arr_get, eY, List.getElem?_take_of_lt hcb, hy0] at hx
    cases hx
    rw [← arr_get, eX] at hy
    exact FB y (List.mem_of_getElem? hy)
  · rw [← arr_get, eX, zx, List.getElem?_drop, show k + (X.length - k - 1) = X.length - 1 by omega, hxl] at hy
    cases hy
    rw [eY] at hx
    exact GA x hx
 have fin : ∀ r v, Good lt xs ys r → Sm (setPending st P) v → wpS (model prog w) A E s (do
  modify fun v => setArr v (r.toList.zipIdx.foldl (fun a (z : Keyed × Nat) => a.setIfInBounds (L0.length + k + z.2) z.1) (arrOf v))
  let u ← get
  pure (failedOf u).isNone) Q v := fun r v g sm => by
  obtain ⟨m1, m2, m3, m4⟩ := sm
  have m1 : kindOf v = kindOf st := m1
  have m2 : arrOf v = arrOf st := m2
  have m3 : pendingOf v = P := m3
  have m4 : failedOf v = failedOf st := m4
  obtain ⟨gp, gs⟩ := g
  rw [eX, eY] at gp
  have gl : r.toList.length = X.length - k + cb := by
   rw [gp.length_eq, List.length_append, List.length_drop, List.length_take]; omega
  refine wpS_bind (wpS_modify (wpS_bind (wpS_get ?_)))
  have e := over_get (L0.length + k) r.toList 0 (arrOf v) (by rw [m2]; omega)
  rw [Nat.add_zero, m2] at e
  have e1 : (arrOf st).toList.take (L0.length + k) = L0 ++ X.take k := by
   rw [hXs, List.append_assoc, List.take_append, List.take_of_length_le (by omega), show L0.length + k - L0.length = k by omega, List.take_append_of_le_length (by omega)]
  have e2 : (arrOf st).toList.drop (L0.length + k + r.toList.length) = Y.drop cb ++ L3 := by
   rw [hYs, List.append_assoc, List.drop_append, List.drop_of_length_le (by rw [hL]; omega), List.nil_append, hL, gl, show L0.length + k + (X.length - k + cb) - (L0.length + X.length) = cb by omega, List.drop_append_of_le_length (by omega)]
  rw [e1, e2] at e
  have zp : (X.take k ++ r.toList ++ Y.drop cb).Perm (X ++ Y) := by
   have h : (X.take k ++ r.toList ++ Y.drop cb).Perm (X.take k ++ (X.drop k ++ Y.take cb) ++ Y.drop cb) := List.Perm.append_right _ (List.Perm.append_left _ gp)
   have e3 : X.take k ++ (X.drop k ++ Y.take cb) ++ Y.drop cb = X ++ Y := by rw [← List.append_assoc, List.take_append_drop, List.append_assoc, List.take_append_drop]
   rw [e3] at h; exact h
  have el : (r.toList.zipIdx.foldl (fun a (z : Keyed × Nat) => a.setIfInBounds (L0.length + k + z.2) z.1) (arrOf v)).toList = L0 ++ (X.take k ++ r.toList ++ Y.drop cb) ++ L3 := by
   rw [m2, e]; simp
  rw [show failedOf (setArr v (r.toList.zipIdx.foldl (fun a (z : Keyed × Nat) => a.setIfInBounds (L0.length + k + z.2) z.1) (arrOf v))) = failedOf v from rfl, m4, b.failed]
  have rin : ∀ z ∈ r.toList, z ∈ X.drop k ∨ z ∈ Y.take cb := fun z hz => List.mem_append.mp (gp.mem_iff.mp hz)
  refine wpS_pure (q _ (X.take k ++ r.toList ++ Y.drop cb) ⟨m1.trans b.kind, m4.trans b.failed, ?_⟩ el zp ?_ m3)
  · show (r.toList.zipIdx.foldl (fun a (z : Keyed × Nat) => a.setIfInBounds (L0.length + k + z.2) z.1) (arrOf v)).toList.Perm kz.toList
    rw [el]
    refine List.Perm.trans ?_ b.perm
    rw [ha]
    exact List.Perm.append_right _ (List.Perm.append_left _ zp)
  · rw [List.pairwise_append, List.pairwise_append]
    have sXk : (X.take k ++ X.drop k).Pairwise (Le lt) := by rw [List.take_append_drop]; exact sX
    have sYc : (Y.take cb ++ Y.drop cb).Pairwise (Le lt) := by rw [List.take_append_drop]; exact sY
    refine ⟨⟨sX.take, gs, fun x hx z hz => ?_⟩, sY.drop, fun x hx y hy => ?_⟩
    · rcases rin z hz with h | h
      · exact (List.pairwise_append.mp sXk).2.2 x hx z h
      · exact O.tr _ _ _ (FA x hx) (yY z (List.mem_of_mem_take h))
    · rcases List.mem_append.mp hx with h | h
      · exact O.tr _ _ _ (Xl x (List.mem_of_mem_take h)) (GB y hy)
      · rcases rin x h with h | h
        · exact O.tr _ _ _ (Xl x (List.mem_of_mem_drop h)) (GB y hy)
        · exact (List.pairwise_append.mp sYc).2.2 x h y hy
 by_cases hle : X.length - k ≤ cb
 · rw [if_pos hle]
   exact wpS_bind (mergeLo_ok O c b0.kind T fin)
 · rw [if_neg hle]
   exact wpS_bind (mergeHi_ok O c b0.kind T fin)
end
theorem get3 (U S W : List Keyed) (k : Nat) : (U ++ S ++ W)[k]? = if k < U.length then U[k]? else if k < U.length + S.length then S[k - U.length]? else W[k - U.length - S.length]? := by
 by_cases h1 : k < U.length
 · rw [if_pos h1, List.append_assoc, List.getElem?_append_left h1]
 · rw [if_neg h1]
   by_cases h2 : k < U.length + S.length
   · rw [if_pos h2, List.append_assoc, List.getElem?_append_right (by omega), List.getElem?_append_left (by omega)]
   · rw [if_neg h2, List.append_assoc, List.getElem?_append_right (by omega), List.getElem?_append_right (by omega)]
theorem mirror_list {xs : Array Keyed} {U S W : List Keyed} (h : xs.toList = U ++ S ++ W) {i j : Nat} (hi : i = U.length) (hj : j = U.length + S.length) : (mirror xs i j ((j - i) / 2)).toList = U ++ S.reverse ++ W := by
 have hsz : xs.size = U.length + S.length + W.length := by have := congrArg List.length h; simp at this; omega
 apply List.ext_getElem?
 intro k
 rw [arr_get, getElem?_mirror_all (by omega), ← arr_get, ← arr_get, h, get3 U S.reverse W, get3 U S W, get3 U S W, List.length_reverse]
 by_cases h1 : k < U.length
 · rw [if_neg (by omega), if_pos h1, if_pos h1]
 · by_cases h2 : k < U.length + S.length
   · rw [if_pos (by omega), if_neg (by omega), if_pos (by omega), if_neg h1, if_pos h2, List.getElem?_reverse (by omega)]
     congr 1; omega
   · rw [if_neg (by omega), if_neg h1, if_neg h2, if_neg h1, if_neg h2]
theorem bubble_list {xs : Array Keyed} {U S W : List Keyed} {y : Keyed} (h : xs.toList = U ++ S ++ y :: W) {i : Nat} (hi : i = U.length + S.length) : (bubble xs i (i - U.length)).toList = U ++ y :: S ++ W := by
 have hsz : xs.size = U.length + S.length + (W.length + 1) := by have := congrArg List.length h; simp at this; omega
 apply List.ext_getElem?
 intro k
 rw [arr_get, getElem?_bubble (by omega) _ (by omega), ← arr_get, ← arr_get, ← arr_get, h, get3 U (y :: S) W, get3 U S (y :: W), get3 U S (y :: W), get3 U S (y :: W), List.length_cons]
 rw [show i - (i - U.length) = U.length by omega]
 by_cases h1 : k = U.length
 · rw [if_pos h1, if_neg (by omega), if_neg (by omega), if_neg (by omega), if_pos (by omega), h1, Nat.sub_self, hi, show U.length + S.length - U.length - S.length = 0 by omega]; rfl
 · rw [if_neg h1]
   by_cases h2 : U.length < k ∧ k ≤ i
   · rw [if_pos h2, if_neg (by omega), if_pos (by omega), if_neg (by omega), if_pos (by omega), show k - U.length = (k - 1 - U.length) + 1 by omega, List.getElem?_cons_succ]
   · rw [if_neg h2]
     by_cases h3 : k < U.length
     · rw [if_pos h3, if_pos h3]
     · rw [if_neg h3, if_neg (by omega), if_neg h3, if_neg (by omega), show k - U.length - S.length = (k - U.length - (S.length + 1)) + 1 by omega, List.getElem?_cons_succ]
section
variable {prog : Program} {w : World} {A : Around} {E : Value → Shared → Prop} {s : Shared} {κ : SortKind} {kz : Array Keyed} {lt : Keyed → Keyed → Bool} {st : SortSt}
theorem lt_at {L0 R : List Keyed} {i j a b : Nat} {x y : Keyed} {Q : Option Bool → SortSt → Prop} (c : PureLt prog w A s κ kz lt) (B : Bs κ kz st) (e : (arrOf st).toList = L0 ++ R) (hi : i = L0.length + a) (hj : j = L0.length + b) (hx : R[a]? = some x) (hy : R[b]? = some y) (q : Q (some (lt x y)) st) :
 wpS (model prog w) A E s (ltAt' i j) Q st := by
 have g : ∀ {a : Nat} {x : Keyed}, R[a]? = some x → (arrOf st)[L0.length + a]? = some x := fun {a x} h => by
  rw [← arr_get, e, List.getElem?_append_right (by omega), Nat.add_sub_cancel_left]; exact h
 subst hi hj
 exact pure_ltAt c B.kind (g hx) (g hy) (B.mem (g hx)) (B.mem (g hy)) q
theorem binSort_ok {lo n ok : Nat} {L0 C D L3 : List Keyed} {Q : Bool → SortSt → Prop} (O : Ord lt) (c : PureLt prog w A s κ kz lt) (B : Bs κ kz st) (ha : (arrOf st).toList = L0 ++ (C ++ D ++ L3)) (hlo : lo = L0.length) (hok : ok = C.length) (h1 : 1 ≤ ok) (hn : n = C.length + D.length) (sC : C.Pairwise (Le lt))
 (q : ∀ v Z, Bs κ kz v → (arrOf v).toList = L0 ++ (Z ++ L3) → Z.Perm (C ++ D) → Z.Pairwise (Le lt) → pendingOf v = pendingOf st → Q true v) : wpS (model prog w) A E s (binarySort' lo n ok) Q st := by
 rw [binarySort'_eq]
 refine wpS_bind (wpS_forRange (I := fun k r v => r = (none, ()) ∧ Bs κ kz v ∧ pendingOf v = pendingOf st ∧ ∃ C' D', C'.length = k ∧ (arrOf v).toList = L0 ++ (C' ++ D' ++ L3) ∧ C'.Pairwise (Le lt) ∧ (C' ++ D').Perm (C ++ D)) ?step ?fin ⟨rfl, B, rfl, C, D, by omega, ha, sC, List.Perm.refl _⟩)
 case fin =>
  rintro r v ⟨rfl, B', hp, C', D', e1, e2, e3, e4⟩
  dsimp only
  have hl := e4.length_eq
  rw [List.length_append, List.length_append] at hl
  have : D' = [] := List.length_eq_zero_iff.mp (by omega)
  subst this
  rw [List.append_nil] at e2 e4
  exact wpS_pure (q v C' B' e2 e4 e3 hp)
 case step =>
  rintro k r v hk1 hk2 ⟨rfl, B', hp, C', D', e1, e2, e3, e4⟩
  dsimp only
  have hl := e4.length_eq
  rw [List.length_append, List.length_append] at hl
  obtain ⟨y, D2, rfl⟩ : ∃ y D2, D' = y :: D2 := by
   cases D' with
   | nil => simp at hl; omega
   | cons y D2 => exact ⟨y, D2, rfl⟩
  have hy : (C' ++ (y :: D2) ++ L3)[k]? = some y := by rw [List.append_assoc, List.getElem?_append_right (by omega), e1, Nat.sub_self]; rfl
  have hlb : ∀ (l : Nat), l ≤ k → (∀ x ∈ C'.take l, Le lt x y) → (∀ x ∈ C'.drop l, lt y x = true) → wpS (model prog w) A E s (do
   moveDown' (lo + k) (lo + l)
   pure (ForInStep.yield ((none : Option Bool), ()))) (fun r st' => match r with
    | .done c' => wpS (model prog w) A E s (match c'.1 with | some r => pure r | none => pure true) Q st'
    | .yield c' => c' = (none, ()) ∧ Bs κ kz st' ∧ pendingOf st' = pendingOf st ∧ ∃ C' D', C'.length = k + 1 ∧ (arrOf st').toList = L0 ++ (C' ++ D' ++ L3) ∧ C'.Pairwise (Le lt) ∧ (C' ++ D').Perm (C ++ D)) v := fun l hl1 hA hB => by
   rw [moveDown'_eq]
   refine wpS_bind (wpS_modify (wpS_pure ?_))
   have hs : (arrOf v).toList = (L0 ++ C'.take l) ++ C'.drop l ++ y :: (D2 ++ L3) := by
    rw [e2]
    have : C' = C'.take l ++ C'.drop l := (List.take_append_drop l C').symm
    rw [this]; simp
   have hU : (L0 ++ C'.take l).length = lo + l := by rw [List.length_append, List.length_take, hlo]; omega
   have bl := bubble_list hs (i := lo + k) (by rw [hU, List.length_drop]; omega)
   rw [hU] at bl
   have pz : (C'.take l ++ y :: C'.drop l ++ D2).Perm (C ++ D) := by
    refine List.Perm.trans ?_ e4
    have h1 : (C'.take l ++ y :: C'.drop l).Perm (y :: (C'.take l ++ C'.drop l)) := List.perm_middle
    rw [List.take_append_drop] at h1
    exact (h1.append_right D2).trans List.perm_middle.symm
   refine ⟨rfl, ⟨B'.kind, B'.failed, ?_⟩, hp, C'.take l ++ y :: C'.drop l, D2, ?_, ?_, ?_, pz⟩
   · show (bubble (arrOf v) (lo + k) (lo + k - (lo + l))).toList.Perm kz.toList
     refine List.Perm.trans ?_ B'.perm
     exact Array.perm_iff_toList_perm.mp (bubble_perm _ _ _)
   · rw [List.length_append, List.length_cons, List.length_take, List.length_drop]; omega
   · show (bubble (arrOf v) (lo + k) (lo + k - (lo + l))).toList = _
     rw [bl]; simp
   · rw [List.pairwise_append]
     have sT : (C'.take l ++ C'.drop l).Pairwise (Le lt) := by rw [List.take_append_drop]; exact e3
     refine ⟨e3.take, List.pairwise_cons.mpr ⟨fun x hx => O.asy _ _ (hB x hx), e3.drop⟩, fun x hx z hz => ?_⟩
     rcases List.mem_cons.mp hz with e | e
     · rw [e]; exact hA x hx
     · exact (List.pairwise_append.mp sT).2.2 x hx z e
  refine wpS_bind (wpS_mono (wpS_forRange (I := fun x r v' => v' = v ∧ ∃ l u, r = (none, l, u) ∧ l ≤ u ∧ u ≤ k ∧ u - l ≤ k - x ∧ (∀ x ∈ C'.take l, Le lt x y) ∧ (∀ x ∈ C'.drop u, lt y x = true))
   (Q := fun r v' => v' = v ∧ ∃ l u, r = (none, l, u) ∧ l ≤ k ∧ (∀ x ∈ C'.take l, Le lt x y) ∧ (∀ x ∈ C'.drop l, lt y x = true)) ?istep ?ifin ⟨rfl, 0, k, rfl, by omega, by omega, by omega, fun x hx => by simp at hx, fun x hx => by rw [List.drop_of_length_le (by omega)] at hx; cases hx⟩) ?ipost)
  case ifin =>
   rintro r v' ⟨rfl, l, u, rfl, a1, a2, a3, a4, a5⟩
   have : l = u := by omega
   subst this
   exact ⟨rfl, l, l, rfl, a2, a4, a5⟩
  case ipost =>
   rintro r v' ⟨rfl, l, u, rfl, a2, a4, a5⟩
   exact hlb l a2 a4 a5
  case istep =>
   rintro x r v' _ hx ⟨rfl, l, u, rfl, a1, a2, a3, a4, a5⟩
   dsimp only
   by_cases hlu : l ≥ u
   · rw [if_pos hlu]
     have : l = u := by omega
     subst this
     exact wpS_pure ⟨rfl, l, l, rfl, a2, a4, a5⟩
   · rw [if_neg hlu]
     obtain ⟨z, hz⟩ : ∃ z, C'[(l + u) / 2]? = some z := ⟨_, List.getElem?_eq_getElem (by omega)⟩
     refine wpS_bind (lt_at (L0 := L0) (R := C' ++ (y :: D2) ++ L3) (a := k) (b := (l + u) / 2) c B' e2 (by omega) (by omega) hy (by rw [List.append_assoc, List.getElem?_append_left (by omega)]; exact hz) ?_)
     dsimp only
     cases hm : lt y z with
     | true =>
      simp only [if_true]
      refine wpS_pure ⟨rfl, l, _, rfl, by omega, by omega, by omega, a4, fun x hx => ?_⟩
      rw [drop_cons hz] at hx
      rcases List.mem_cons.mp hx with e | e
      · rw [e]; exact hm
      · exact O.lt_le hm (srt_drop e3 hz x e)
     | false =>
      simp only [Bool.false_eq_true, if_false]
      refine wpS_pure ⟨rfl, _, u, rfl, by omega, by omega, by omega, fun x hx => ?_, a5⟩
      rw [take_snoc hz] at hx
      rcases List.mem_append.mp hx with e | e
      · exact O.tr _ _ _ (srt_take e3 hz x e) hm
      · rw [List.mem_singleton.mp e]; exact hm
end
section
variable {prog : Program} {w : World} {A : Around} {E : Value → Shared → Prop} {s : Shared} {κ : SortKind} {kz : Array Keyed} {lt : Keyed → Keyed → Bool} {st : SortSt}
abbrev Ni (lt : Keyed → Keyed → Bool) (x y : Keyed) : Prop := Le lt y x
abbrev Eqv (lt : Keyed → Keyed → Bool) (S : List Keyed) : Prop := ∀ x ∈ S, ∀ y ∈ S, Le lt x y
theorem Bs.rev (B : Bs κ kz st) {i j d : Nat} : Bs κ kz (setArr st (mirror (arrOf st) i j d)) := ⟨B.kind, B.failed, (Array.perm_iff_toList_perm.mp (mirror_perm _ _ _ _)).trans B.perm⟩
theorem ni_rev {P S : List Keyed} (h : (P ++ S).Pairwise (Ni lt)) (e : Eqv lt S) : (P ++ S.reverse).Pairwise (Ni lt) := by
 rw [List.pairwise_append] at h ⊢
 refine ⟨h.1, ?_, fun x hx y hy => h.2.2 x hx y (List.mem_reverse.mp hy)⟩
 refine List.pairwise_reverse.mpr ?_
 exact List.Pairwise.imp_of_mem (R := Ni lt) (fun {a b} ha hb _ => e a ha b hb) h.2.1
theorem snoc_srt {C : List Keyed} {x y : Keyed} (O : Ord lt) (h : C.Pairwise (Le lt)) (hl : C[C.length - 1]? = some x) (hc : 0 < C.length) (hy : Le lt x y) : (C ++ [y]).Pairwise (Le lt) := by
 rw [List.pairwise_append]
 refine ⟨h, List.pairwise_singleton _ _, fun z hz w hw => ?_⟩
 rw [List.mem_singleton.mp hw]
 exact O.tr _ _ _ (mem_take_last h O hc hl (by rw [List.take_length]; exact hz)) hy
theorem asc_ok {lo n0 nrem : Nat} {L0 R : List Keyed} {Q : Option (Option Nat) × Nat → SortSt → Prop} (O : Ord lt) (c : PureLt prog w A s κ kz lt) (B : Bs κ kz st) (ha : (arrOf st).toList = L0 ++ R) (hl : lo = L0.length) (hr : nrem = R.length) (h1 : 1 ≤ n0) (h2 : n0 ≤ nrem) (sr : (R.take n0).Pairwise (Le lt))
 (q : ∀ n, n0 ≤ n → n ≤ nrem → (R.take n).Pairwise (Le lt) → (n < nrem → ∃ x y, R[n]? = some x ∧ R[n - 1]? = some y ∧ lt x y = true) → Q (none, n) st) :
 wpS (model prog w) A E s (forIn [n0:nrem] ((none : Option (Option Nat)), n0) fun _ (r : Option (Option Nat) × Nat) => do
  let z ← ltAt' (lo + r.2) (lo + r.2 - 1)
  match z with
  | some smaller => if smaller = true then pure (ForInStep.done (none, r.2)) else pure (ForInStep.yield (none, r.2 + 1))
  | _ => pure (ForInStep.done (some none, r.2))) Q st := by
 refine wpS_forRange (I := fun i r v => v = st ∧ r = (none, i) ∧ (R.take i).Pairwise (Le lt)) ?step ?fin ⟨rfl, rfl, sr⟩
 case fin =>
  rintro r v ⟨rfl, rfl, h⟩
  rw [show max n0 nrem = nrem by omega] at h ⊢
  exact q nrem h2 (Nat.le_refl _) h fun z => absurd z (Nat.lt_irrefl _)
 case step =>
  rintro i r v hi1 hi2 ⟨rfl, rfl, h⟩
  dsimp only
  obtain ⟨x, hx⟩ : ∃ x, R[i]? = some x := ⟨_, List.getElem?_eq_getElem (by omega)⟩
  obtain ⟨y, hy⟩ : ∃ y, R[i - 1]? = some y := ⟨_, List.getElem?_eq_getElem (by omega)⟩
  refine wpS_bind (lt_at c B ha (a := i) (b := i - 1) (by omega) (by omega) hx hy ?_)
  dsimp only
  cases hm : lt x y with
  | true =>
   simp only [if_true]
   exact wpS_pure (q i hi1 (by omega) h fun _ => ⟨x, y, hx, hy, hm⟩)
  | false =>
   simp only [Bool.false_eq_true, if_false]
   refine wpS_pure ⟨rfl, rfl, ?_⟩
   rw [take_snoc hx]
   have hl : (R.take i).length = i := by rw [List.length_take]; omega
   refine snoc_srt O h (x := y) ?_ (by omega) hm
   rw [hl, List.getElem?_take_of_lt (by omega)]; exact hy
theorem countRun_ok {lo nrem : Nat} {L0 R : List Keyed} {Q : Option Nat → SortSt → Prop} (O : Ord lt) (c : PureLt prog w A s κ kz lt) (B : Bs κ kz st) (ha : (arrOf st).toList = L0 ++ R) (hl : lo = L0.length) (hr : nrem = R.length) (h1 : 1 ≤ nrem)
 (q : ∀ v C D, Bs κ kz v → (arrOf v).toList = L0 ++ (C ++ D) → (C ++ D).Perm R → C.Pairwise (Le lt) → 1 ≤ C.length → pendingOf v = pendingOf st → Q (some C.length) v) : wpS (model prog w) A E s (countRun' lo nrem) Q st := by
 rw [countRun'_eq]
 refine wpS_bind (asc_ok O c B ha hl hr (Nat.le_refl _) h1 ?_ fun n n1 n2 sn nx => ?_)
 · exact List.Pairwise.sublist (List.Sublist.refl _) (by
    cases R with
    | nil => exact List.Pairwise.nil
    | cons x r => exact List.pairwise_singleton _ _)
 dsimp only
 have lenT : (R.take n).length = n := by rw [List.length_take]; omega
 have same : Q (some n) st := by
  have := q st (R.take n) (R.drop n) B (by rw [List.take_append_drop]; exact ha) (by rw [List.take_append_drop]) sn (by omega) rfl
  rw [lenT] at this; exact this
 by_cases hn : (n == nrem) = true
 · rw [if_pos hn]; exact wpS_pure same
 rw [if_neg hn]
 have hnl : n < nrem := by have : ¬ n = nrem := fun e => hn (by simp [e]); omega
 obtain ⟨x, y, hx, hy, hxy⟩ := nx hnl
 have hy' : (R.take n)[n - 1]? = some y := by rw [List.getElem?_take_of_lt (by omega)]; exact hy
 have lasty : ∀ z ∈ R.take n, Le lt z y := fun z hz => mem_take_last sn O (by omega) (l := R.take n) (q := n) hy' (by rw [List.take_of_length_le (by omega)]; exact hz)
 have dR : R.drop n = x :: R.drop (n + 1) := drop_cons hx
 have lex : Le lt x y := O.asy _ _ hxy
 have rest : ∀ (v : SortSt) (C1 : List Keyed), Bs κ kz v → pendingOf v = pendingOf st → (arrOf v).toList = L0 ++ (C1 ++ R.drop n) → (C1 ++ R.drop n).Perm R → C1.length = n → C1.Pairwise (Ni lt) → (∀ z ∈ C1, Le lt x z) →
  (fun r (v : SortSt) => Bs κ kz v ∧ pendingOf v = pendingOf st ∧ ∃ P S D, r = ((none : Option (Option Nat)), n + 1, S.length - 1) ∧ (arrOf v).toList = L0 ++ (P ++ S ++ D) ∧ P.length + S.length = n + 1 ∧ 0 < S.length ∧ Eqv lt S ∧ (P ++ S).Pairwise (Ni lt) ∧ (P ++ S ++ D).Perm R) (none, n + 1, 0) v := fun v C1 B1 hp e1 e2 e3 e4 e5 => by
  refine ⟨B1, hp, C1, [x], R.drop (n + 1), rfl, ?_, by simp [e3], by simp, fun a ha b hb => ?_, ?_, ?_⟩
  · rw [e1, dR]; simp
  · rw [List.mem_singleton.mp ha, List.mem_singleton.mp hb]; exact O.irr _
  · rw [List.pairwise_append]
    exact ⟨e4, List.pairwise_singleton _ _, fun z hz u hu => by rw [List.mem_singleton.mp hu]; exact e5 z hz⟩
  · rw [dR] at e2; simpa using e2
 have minl : ∀ {C : List Keyed} {z u : Keyed}, C.Pairwise (Ni lt) → C[C.length - 1]? = some u → z ∈ C → Le lt u z := fun {C z u} h hu hz => by
  obtain ⟨i, hi, e⟩ := List.getElem_of_mem hz
  by_cases hi2 : i = C.length - 1
  · have : C[i]? = some z := by rw [List.getElem?_eq_getElem hi, e]
    rw [hi2, hu] at this; cases this; exact O.irr _
  · have := List.pairwise_iff_getElem.mp h i (C.length - 1) hi (by omega) (by omega)
    rw [e, Option.some.inj ((List.getElem?_eq_getElem (by omega)).symm.trans hu)] at this
    exact this
 have fin : ∀ (m : Nat) (v : SortSt) (C D : List Keyed), Bs κ kz v → pendingOf v = pendingOf st → (arrOf v).toList = L0 ++ (C ++ D) → C.length = m → 1 ≤ m → C.Pairwise (Ni lt) → (C ++ D).Perm R →
  wpS (model prog w) A E s (reverseSlice' lo (lo + m)) (fun _ v' => Bs κ kz v' ∧ pendingOf v' = pendingOf st ∧ (arrOf v').toList = L0 ++ (C.reverse ++ D) ∧ (C.reverse).Pairwise (Le lt) ∧ (C.reverse ++ D).Perm R) v := fun m v C D B1 hp e1 e2 e3 e4 e5 => by
  refine wpS_reverse ⟨B1.rev, hp, ?_, List.pairwise_reverse.mpr e4, ((List.reverse_perm C).append_right D).trans e5⟩
  have := mirror_list (xs := arrOf v) (U := L0) (S := C) (W := D) (by rw [e1]; simp) (i := lo) (j := lo + m) hl (by omega)
  show (mirror (arrOf v) lo (lo + m) ((lo + m - lo) / 2)).toList = _
  rw [this]; simp
 have eqAll : n > 1 → ∀ r0, R[0]? = some r0 → lt r0 y = false → Eqv lt (R.take n) := fun hn1 r0 hr0 hro a ha b hb => by
  have ya : Le lt y r0 := hro
  have r0a : ∀ z ∈ R.take n, Le lt r0 z := fun z hz => by
   obtain ⟨i, hi, e⟩ := List.getElem_of_mem hz
   have hz' : (R.take n)[i]? = some z := by rw [List.getElem?_eq_getElem hi, e]
   rw [lenT] at hi
   by_cases hi0 : i = 0
   · rw [hi0, List.getElem?_take_of_lt (by omega), hr0] at hz'; cases hz'; exact O.irr _
   · have := List.pairwise_iff_getElem.mp sn 0 i (by omega) (by omega) (by omega)
     have e0 : (R.take n)[0]? = some r0 := by rw [List.getElem?_take_of_lt (by omega)]; exact hr0
     rw [Option.some.inj ((List.getElem?_eq_getElem (by omega)).symm.trans e0), e] at this
     exact this
  exact O.tr _ _ _ (lasty a ha) (O.tr _ _ _ ya (r0a b hb))
 by_cases hn1 : n > 1
 · rw [if_pos hn1]
   obtain ⟨r0, hr0⟩ : ∃ r0, R[0]? = some r0 := ⟨_, List.getElem?_eq_getElem (by omega)⟩
   refine wpS_bind (lt_at c B ha (a := 0) (b := n - 1) (by omega) (by omega) hr0 hy ?_)
   dsimp only
   cases hro : lt r0 y with
   | true =>
    simp only [if_true]
    exact wpS_pure same
   | false =>
    simp only [Bool.false_eq_true, if_false]
    have ea := eqAll hn1 r0 hr0 hro
    refine wpS_bind (wpS_reverse ?_)
    have ml := mirror_list (xs := arrOf st) (U := L0) (S := R.take n) (W := R.drop n) (by rw [ha, List.append_assoc, List.take_append_drop]) (i := lo) (j := lo + n) hl (by rw [lenT]; omega)
    have st1 := rest (setArr st (mirror (arrOf st) lo (lo + n) ((lo + n - lo) / 2))) (R.take n).reverse B.rev rfl (by show (mirror (arrOf st) lo (lo + n) ((lo + n - lo) / 2)).toList = _; rw [ml]; simp) (by
     have := (List.reverse_perm (R.take n)).append_right (R.drop n)
     rw [List.take_append_drop] at this; exact this) (by rw [List.length_reverse, lenT]) (List.pairwise_reverse.mpr (List.Pairwise.imp_of_mem (R := Le lt) (fun {a b} ha hb _ => ea a ha b hb) sn)) (fun z hz => O.tr _ _ _ lex (ea y (List.mem_of_getElem? hy') z (List.mem_reverse.mp hz)))
    generalize hv1 : setArr st (mirror (arrOf st) lo (lo + n) ((lo + n - lo) / 2)) = v1 at st1 ⊢
    refine wpS_bind (rule_ok ?_)
    refine wpS_bind (wpS_mono (wpS_forRange (I := fun i r v => Bs κ kz v ∧ pendingOf v = pendingOf st ∧ ∃ P S D, r = ((none : Option (Option Nat)), i, S.length - 1) ∧ (arrOf v).toList = L0 ++ (P ++ S ++ D) ∧ P.length + S.length = i ∧ 0 < S.length ∧ Eqv lt S ∧ (P ++ S).Pairwise (Ni lt) ∧ (P ++ S ++ D).Perm R)
     (Q := fun r v => Bs κ kz v ∧ pendingOf v = pendingOf st ∧ ∃ i P S D, r = ((none : Option (Option Nat)), i, S.length - 1) ∧ (arrOf v).toList = L0 ++ (P ++ S ++ D) ∧ P.length + S.length = i ∧ 0 < S.length ∧ Eqv lt S ∧ (P ++ S).Pairwise (Ni lt) ∧ (P ++ S ++ D).Perm R ∧ i ≤ nrem) ?dstep ?dfin st1) ?dpost)
    case dfin =>
     rintro r v ⟨B1, hp, P, S, D, rfl, e1, e2, e3, e4, e5, e6⟩
     exact ⟨B1, hp, _, P, S, D, rfl, e1, e2, e3, e4, e5, e6, by omega⟩
    case dstep =>
     rintro i r v hi1 hi2 ⟨B1, hp, P, S, D, rfl, e1, e2, e3, e4, e5, e6⟩
     dsimp only
     have hlen := e6.length_eq
     rw [List.length_append, List.length_append] at hlen
     obtain ⟨x', D2, rfl⟩ : ∃ x' D2, D = x' :: D2 := by
      cases D with
      | nil => simp at hlen; omega
      | cons x' D2 => exact ⟨x', D2, rfl⟩
     have hPS : (P ++ S).length = i := by rw [List.length_append]; exact e2
     obtain ⟨u, hu⟩ : ∃ u, (P ++ S)[i - 1]? = some u := ⟨_, List.getElem?_eq_getElem (by omega)⟩
     have huS : u ∈ S := by
      rw [List.getElem?_append_right (by omega)] at hu
      exact List.mem_of_getElem? hu
     have hx' : (P ++ S ++ x' :: D2)[i]? = some x' := by rw [List.getElem?_append_right (by omega), hPS, Nat.sub_self]; rfl
     have hu' : (P ++ S ++ x' :: D2)[i - 1]? = some u := by rw [List.getElem?_append_left (by omega)]; exact hu
     have least : ∀ z ∈ P ++ S, Le lt u z := fun z hz => minl e5 (by rw [hPS]; exact hu) hz
     refine wpS_bind (lt_at c B1 e1 (a := i) (b := i - 1) (by omega) (by omega) hx' hu' ?_)
     dsimp only
     have one : ∀ P', (P' ++ [x']).Pairwise (Ni lt) → Eqv lt [x'] := fun _ _ a ha b hb => by rw [List.mem_singleton.mp ha, List.mem_singleton.mp hb]; exact O.irr _
     cases hsm : lt x' u with
     | true =>
      simp only [if_true]
      have lx : ∀ z ∈ P ++ S, Le lt x' z := fun z hz => O.tr _ _ _ (O.asy _ _ hsm) (least z hz)
      by_cases hq0 : S.length - 1 > 0
      · rw [if_pos hq0]
        refine wpS_bind (wpS_reverse (wpS_pure ?_))
        have ml := mirror_list (xs := arrOf v) (U := L0 ++ P) (S := S) (W := x' :: D2) (by rw [e1]; simp) (i := lo + i - (S.length - 1 + 1)) (j := lo + i) (by rw [List.length_append]; omega) (by rw [List.length_append]; omega)
        have ni : (P ++ S.reverse ++ [x']).Pairwise (Ni lt) := by
         rw [List.pairwise_append]
         refine ⟨ni_rev e5 e4, List.pairwise_singleton _ _, fun z hz y' hy2 => ?_⟩
         rw [List.mem_singleton.mp hy2]
         refine lx z ?_
         rcases List.mem_append.mp hz with h | h
         · exact List.mem_append_left _ h
         · exact List.mem_append_right _ (List.mem_reverse.mp h)
        refine ⟨B1.rev, hp, P ++ S.reverse, [x'], D2, rfl, ?_, by rw [List.length_append, List.length_reverse]; simp; omega, by simp, one _ ni, ni, ?_⟩
        · show (mirror (arrOf v) (lo + i - (S.length - 1 + 1)) (lo + i) ((lo + i - (lo + i - (S.length - 1 + 1))) / 2)).toList = _
          rw [ml]; simp
        · refine List.Perm.trans ?_ e6
          have : (P ++ S.reverse ++ [x'] ++ D2) = (P ++ S.reverse) ++ (x' :: D2) := by simp
          rw [this]
          exact List.Perm.append_right _ (List.Perm.append_left _ (List.reverse_perm S))
      · rw [if_neg hq0]
        have ni : (P ++ S ++ [x']).Pairwise (Ni lt) := by
         rw [List.pairwise_append]
         exact ⟨e5, List.pairwise_singleton _ _, fun z hz y' hy2 => by rw [List.mem_singleton.mp hy2]; exact lx z hz⟩
        refine wpS_pure ⟨B1, hp, P ++ S, [x'], D2, rfl, by rw [e1]; simp, by rw [List.length_append]; simp; omega, by simp, one _ ni, ni, by simpa using e6⟩
     | false =>
      simp only [Bool.false_eq_true, if_false]
      refine wpS_bind (lt_at c B1 e1 (a := i - 1) (b := i) (by omega) (by omega) hu' hx' ?_)
      dsimp only
      cases hla : lt u x' with
      | true =>
       simp only [if_true]
       exact wpS_pure ⟨B1, hp, i, P, S, x' :: D2, rfl, e1, e2, e3, e4, e5, e6, by omega⟩
      | false =>
       simp only [Bool.false_eq_true, if_false]
       refine wpS_pure ⟨B1, hp, P, S ++ [x'], D2, by rw [List.length_append]; simp; omega, by rw [e1]; simp, by rw [List.length_append]; simp; omega, by simp, fun a ha b hb => ?_, ?_, by simpa using e6⟩
       · have le1 : ∀ z ∈ S, Le lt z x' := fun z hz => O.tr _ _ _ (e4 z hz u huS) hsm
         have le2 : ∀ z ∈ S, Le lt x' z := fun z hz => O.tr _ _ _ hla (e4 u huS z hz)
         rcases List.mem_append.mp ha with h | h <;> rcases List.mem_append.mp hb with h' | h'
         · exact e4 a h b h'
         · rw [List.mem_singleton.mp h']; exact le1 a h
         · rw [List.mem_singleton.mp h]; exact le2 b h'
         · rw [List.mem_singleton.mp h, List.mem_singleton.mp h']; exact O.irr _
       · rw [← List.append_assoc, List.pairwise_append]
         exact ⟨e5, List.pairwise_singleton _ _, fun z hz y' hy2 => by rw [List.mem_singleton.mp hy2]; exact O.tr _ _ _ hla (least z hz)⟩
    case dpost =>
     rintro r v ⟨B1, hp, m, P, S, D, rfl, e1, e2, e3, e4, e5, e6, e7⟩
     dsimp only
     have hlen := e6.length_eq
     rw [List.length_append, List.length_append] at hlen
     have last : ∀ (v' : SortSt) (C : List Keyed), C.length = m → (Bs κ kz v' ∧ pendingOf v' = pendingOf st ∧ (arrOf v').toList = L0 ++ (C.reverse ++ D) ∧ (C.reverse).Pairwise (Le lt) ∧ (C.reverse ++ D).Perm R) → ∀ k, m ≤ k → k ≤ nrem → ((C.reverse ++ D).take k).Pairwise (Le lt) → Q (some k) v' := fun v' C hC ⟨B2, hp2, g1, g2, g3⟩ k hk1 hk2 hk3 => by
      have hl2 := g3.length_eq
      have lt2 : ((C.reverse ++ D).take k).length = k := by rw [List.length_take]; omega
      have := q v' ((C.reverse ++ D).take k) ((C.reverse ++ D).drop k) B2 (by rw [List.take_append_drop]; exact g1) (by rw [List.take_append_drop]; exact g3) hk3 (by omega) hp2
      rw [lt2] at this; exact this
     have fin2 : ∀ (v' : SortSt) (C : List Keyed), C.length = m → (Bs κ kz v' ∧ pendingOf v' = pendingOf st ∧ (arrOf v').toList = L0 ++ (C.reverse ++ D) ∧ (C.reverse).Pairwise (Le lt) ∧ (C.reverse ++ D).Perm R) → ((C.reverse ++ D).take m).Pairwise (Le lt) := fun v' C hC ⟨_, _, _, g2, _⟩ => by
      rw [List.take_append_of_le_length (by rw [List.length_reverse]; omega), List.take_of_length_le (by rw [List.length_reverse]; omega)]
      exact g2
     by_cases hq0 : S.length - 1 > 0
     · rw [if_pos hq0]
       have ml := mirror_list (xs := arrOf v) (U := L0 ++ P) (S := S) (W := D) (by rw [e1]; simp) (i := lo + m - (S.length - 1 + 1)) (j := lo + m) (by rw [List.length_append]; omega) (by rw [List.length_append]; omega)
       refine wpS_bind (wpS_reverse ?_)
       have hC : (P ++ S.reverse).length = m := by rw [List.length_append, List.length_reverse]; exact e2
       refine wpS_bind (wpS_mono (fin m (setArr v (mirror (arrOf v) (lo + m - (S.length - 1 + 1)) (lo + m) ((lo + m - (lo + m - (S.length - 1 + 1))) / 2))) (P ++ S.reverse) D B1.rev hp (by show (mirror (arrOf v) (lo + m - (S.length - 1 + 1)) (lo + m) ((lo + m - (lo + m - (S.length - 1 + 1))) / 2)).toList = _; rw [ml]; simp) hC (by omega) (ni_rev e5 e4) ((List.Perm.append_right _ (List.Perm.append_left _ (List.reverse_perm S))).trans e6)) fun _ v' g => ?_)
       refine wpS_bind (asc_ok O c g.1 g.2.2.1 hl (by rw [hr, ← g.2.2.2.2.length_eq]) (by omega) e7 (fin2 v' _ hC g) fun k hk1 hk2 hk3 _ => ?_)
       exact wpS_pure (last v' _ hC g k hk1 hk2 hk3)
     · rw [if_neg hq0]
       have hC : (P ++ S).length = m := by rw [List.length_append]; exact e2
       refine wpS_bind (wpS_mono (fin m v (P ++ S) D B1 hp (by rw [e1]) hC (by omega) e5 e6) fun _ v' g => ?_)
       refine wpS_bind (asc_ok O c g.1 g.2.2.1 hl (by rw [hr, ← g.2.2.2.2.length_eq]) (by omega) e7 (fin2 v' _ hC g) fun k hk1 hk2 hk3 _ => ?_)
       exact wpS_pure (last v' _ hC g k hk1 hk2 hk3)
 · rw [if_neg hn1]
   have hn1' : n = 1 := by omega
   have st1 := rest st (R.take n) B rfl (by rw [List.take_append_drop]; exact ha) (by rw [List.take_append_drop]) lenT (by
    subst hn1'
    cases R with
    | nil => exact List.Pairwise.nil
    | cons a r => exact List.pairwise_singleton _ _) (fun z hz => by
    subst hn1'
    have : R.take 1 = [y] := by
     have h := take_snoc (i := 0) hy
     simpa using h
    rw [this] at hz
    rw [List.mem_singleton.mp hz]; exact lex)
   refine wpS_bind (rule_ok ?_)
   refine wpS_bind (wpS_mono (wpS_forRange (I := fun i r v => Bs κ kz v ∧ pendingOf v = pendingOf st ∧ ∃ P S D, r = ((none : Option (Option Nat)), i, S.length - 1) ∧ (arrOf v).toList = L0 ++ (P ++ S ++ D) ∧ P.length + S.length = i ∧ 0 < S.length ∧ Eqv lt S ∧ (P ++ S).Pairwise (Ni lt) ∧ (P ++ S ++ D).Perm R)
    (Q := fun r v => Bs κ kz v ∧ pendingOf v = pendingOf st ∧ ∃ i P S D, r = ((none : Option (Option Nat)), i, S.length - 1) ∧ (arrOf v).toList = L0 ++ (P ++ S ++ D) ∧ P.length + S.length = i ∧ 0 < S.length ∧ Eqv lt S ∧ (P ++ S).Pairwise (Ni lt) ∧ (P ++ S ++ D).Perm R ∧ i ≤ nrem) ?dstep ?dfin st1) ?dpost)
   case dfin =>
    rintro r v ⟨B1, hp, P, S, D, rfl, e1, e2, e3, e4, e5, e6⟩
    exact ⟨B1, hp, _, P, S, D, rfl, e1, e2, e3, e4, e5, e6, by omega⟩
   case dstep =>
    rintro i r v hi1 hi2 ⟨B1, hp, P, S, D, rfl, e1, e2, e3, e4, e5, e6⟩
    dsimp only
    have hlen := e6.length_eq
    rw [List.length_append, List.length_append] at hlen
    obtain ⟨x', D2, rfl⟩ : ∃ x' D2, D = x' :: D2 := by
     cases D with
     | nil => simp at hlen; omega
     | cons x' D2 => exact ⟨x', D2, rfl⟩
    have hPS : (P ++ S).length = i := by rw [List.length_append]; exact e2
    obtain ⟨u, hu⟩ : ∃ u, (P ++ S)[i - 1]? = some u := ⟨_, List.getElem?_eq_getElem (by omega)⟩
    have huS : u ∈ S := by
     rw [List.getElem?_append_right (by omega)] at hu
     exact List.mem_of_getElem? hu
    have hx' : (P ++ S ++ x' :: D2)[i]? = some x' := by rw [List.getElem?_append_right (by omega), hPS, Nat.sub_self]; rfl
    have hu' : (P ++ S ++ x' :: D2)[i - 1]? = some u := by rw [List.getElem?_append_left (by omega)]; exact hu
    have least : ∀ z ∈ P ++ S, Le lt u z := fun z hz => minl e5 (by rw [hPS]; exact hu) hz
    refine wpS_bind (lt_at c B1 e1 (a := i) (b := i - 1) (by omega) (by omega) hx' hu' ?_)
    dsimp only
    have one : ∀ P', (P' ++ [x']).Pairwise (Ni lt) → Eqv lt [x'] := fun _ _ a ha b hb => by rw [List.mem_singleton.mp ha, List.mem_singleton.mp hb]; exact O.irr _
    cases hsm : lt x' u with
    | true =>
     simp only [if_true]
     have lx : ∀ z ∈ P ++ S, Le lt x' z := fun z hz => O.tr _ _ _ (O.asy _ _ hsm) (least z hz)
     by_cases hq0 : S.length - 1 > 0
     · rw [if_pos hq0]
       refine wpS_bind (wpS_reverse (wpS_pure ?_))
       have ml := mirror_list (xs := arrOf v) (U := L0 ++ P) (S := S) (W := x' :: D2) (by rw [e1]; simp) (i := lo + i - (S.length - 1 + 1)) (j := lo + i) (by rw [List.length_append]; omega) (by rw [List.length_append]; omega)
       have ni : (P ++ S.reverse ++ [x']).Pairwise (Ni lt) := by
        rw [List.pairwise_append]
        refine ⟨ni_rev e5 e4, List.pairwise_singleton _ _, fun z hz y' hy2 => ?_⟩
        rw [List.mem_singleton.mp hy2]
        refine lx z ?_
        rcases List.mem_append.mp hz with h | h
        · exact List.mem_append_left _ h
        · exact List.mem_append_right _ (List.mem_reverse.mp h)
       refine ⟨B1.rev, hp, P ++ S.reverse, [x'], D2, rfl, ?_, by rw [List.length_append, List.length_reverse]; simp; omega, by simp, one _ ni, ni, ?_⟩
       · show (mirror (arrOf v) (lo + i - (S.length - 1 + 1)) (lo + i) ((lo + i - (lo + i - (S.length - 1 + 1))) / 2)).toList = _
         rw [ml]; simp
       · refine List.Perm.trans ?_ e6
         have : (P ++ S.reverse ++ [x'] ++ D2) = (P ++ S.reverse) ++ (x' :: D2) := by simp
         rw [this]
         exact List.Perm.append_right _ (List.Perm.append_left _ (List.reverse_perm S))
     · rw [if_neg hq0]
       have ni : (P ++ S ++ [x']).Pairwise (Ni lt) := by
        rw [List.pairwise_append]
        exact ⟨e5, List.pairwise_singleton _ _, fun z hz y' hy2 => by rw [List.mem_singleton.mp hy2]; exact lx z hz⟩
       refine wpS_pure ⟨B1, hp, P ++ S, [x'], D2, rfl, by rw [e1]; simp, by rw [List.length_append]; simp; omega, by simp, one _ ni, ni, by simpa using e6⟩
    | false =>
     simp only [Bool.false_eq_true, if_false]
     refine wpS_bind (lt_at c B1 e1 (a := i - 1) (b := i) (by omega) (by omega) hu' hx' ?_)
     dsimp only
     cases hla : lt u x' with
     | true =>
      simp only [if_true]
      exact wpS_pure ⟨B1, hp, i, P, S, x' :: D2, rfl, e1, e2, e3, e4, e5, e6, by omega⟩
     | false =>
      simp only [Bool.false_eq_true, if_false]
      refine wpS_pure ⟨B1, hp, P, S ++ [x'], D2, by rw [List.length_append]; simp; omega, by rw [e1]; simp, by rw [List.length_append]; simp; omega, by simp, fun a ha b hb => ?_, ?_, by simpa using e6⟩
      · have le1 : ∀ z ∈ S, Le lt z x' := fun z hz => O.tr _ _ _ (e4 z hz u huS) hsm
        have le2 : ∀ z ∈ S, Le lt x' z := fun z hz => O.tr _ _ _ hla (e4 u huS z hz)
        rcases List.mem_append.mp ha with h | h <;> rcases List.mem_append.mp hb with h' | h'
        · exact e4 a h b h'
        · rw [List.mem_singleton.mp h']; exact le1 a h
        · rw [List.mem_singleton.mp h]; exact le2 b h'
        · rw [List.mem_singleton.mp h, List.mem_singleton.mp h']; exact O.irr _
      · rw [← List.append_assoc, List.pairwise_append]
        exact ⟨e5, List.pairwise_singleton _ _, fun z hz y' hy2 => by rw [List.mem_singleton.mp hy2]; exact O.tr _ _ _ hla (least z hz)⟩
   case dpost =>
    rintro r v ⟨B1, hp, m, P, S, D, rfl, e1, e2, e3, e4, e5, e6, e7⟩
    dsimp only
    have hlen := e6.length_eq
    rw [List.length_append, List.length_append] at hlen
    have last : ∀ (v' : SortSt) (C : List Keyed), C.length = m → (Bs κ kz v' ∧ pendingOf v' = pendingOf st ∧ (arrOf v').toList = L0 ++ (C.reverse ++ D) ∧ (C.reverse).Pairwise (Le lt) ∧ (C.reverse ++ D).Perm R) → ∀ k, m ≤ k → k ≤ nrem → ((C.reverse ++ D).take k).Pairwise (Le lt) → Q (some k) v' := fun v' C hC ⟨B2, hp2, g1, g2, g3⟩ k hk1 hk2 hk3 => by
     have hl2 := g3.length_eq
     have lt2 : ((C.reverse ++ D).take k).length = k := by rw [List.length_take]; omega
     have := q v' ((C.reverse ++ D).take k) ((C.reverse ++ D).drop k) B2 (by rw [List.take_append_drop]; exact g1) (by rw [List.take_append_drop]; exact g3) hk3 (by omega) hp2
     rw [lt2] at this; exact this
    have fin2 : ∀ (v' : SortSt) (C : List Keyed), C.length = m → (Bs κ kz v' ∧ pendingOf v' = pendingOf st ∧ (arrOf v').toList = L0 ++ (C.reverse ++ D) ∧ (C.reverse).Pairwise (Le lt) ∧ (C.reverse ++ D).Perm R) → ((C.reverse ++ D).take m).Pairwise (Le lt) := fun v' C hC ⟨_, _, _, g2, _⟩ => by
     rw [List.take_append_of_le_length (by rw [List.length_reverse]; omega), List.take_of_length_le (by rw [List.length_reverse]; omega)]
     exact g2
    by_cases hq0 : S.length - 1 > 0
    · rw [if_pos hq0]
      have ml := mirror_list (xs := arrOf v) (U := L0 ++ P) (S := S) (W := D) (by rw [e1]; simp) (i := lo + m - (S.length - 1 + 1)) (j := lo + m) (by rw [List.length_append]; omega) (by rw [List.length_append]; omega)
      refine wpS_bind (wpS_reverse ?_)
      have hC : (P ++ S.reverse).length = m := by rw [List.length_append, List.length_reverse]; exact e2
      refine wpS_bind (wpS_mono (fin m (setArr v (mirror (arrOf v) (lo + m - (S.length - 1 + 1)) (lo + m) ((lo + m - (lo + m - (S.length - 1 + 1))) / 2))) (P ++ S.reverse) D B1.rev hp (by show (mirror (arrOf v) (lo + m - (S.length - 1 + 1)) (lo + m) ((lo + m - (lo + m - (S.length - 1 + 1))) / 2)).toList = _; rw [ml]; simp) hC (by omega) (ni_rev e5 e4) ((List.Perm.append_right _ (List.Perm.append_left _ (List.reverse_perm S))).trans e6)) fun _ v' g => ?_)
      refine wpS_bind (asc_ok O c g.1 g.2.2.1 hl (by rw [hr, ← g.2.2.2.2.length_eq]) (by omega) e7 (fin2 v' _ hC g) fun k hk1 hk2 hk3 _ => ?_)
      exact wpS_pure (last v' _ hC g k hk1 hk2 hk3)
    · rw [if_neg hq0]
      have hC : (P ++ S).length = m := by rw [List.length_append]; exact e2
      refine wpS_bind (wpS_mono (fin m v (P ++ S) D B1 hp (by rw [e1]) hC (by omega) e5 e6) fun _ v' g => ?_)
      refine wpS_bind (asc_ok O c g.1 g.2.2.1 hl (by rw [hr, ← g.2.2.2.2.length_eq]) (by omega) e7 (fin2 v' _ hC g) fun k hk1 hk2 hk3 _ => ?_)
      exact wpS_pure (last v' _ hC g k hk1 hk2 hk3)
end
def PO : Nat → List (Nat × Nat × Nat) → List (List Keyed) → Prop
 | _, [], [] => True
 | s, e :: P, C :: RS => e.1 = s ∧ e.2.1 = C.length ∧ PO (s + C.length) P RS
 | _, _, _ => False
theorem PO.len : ∀ {s : Nat} {P : List (Nat × Nat × Nat)} {RS : List (List Keyed)}, PO s P RS → P.length = RS.length
 | _, [], [], _ => rfl
 | _, e :: P, C :: RS, h => by rw [List.length_cons, List.length_cons, h.2.2.len]
 | _, [], _ :: _, h => h.elim
 | _, _ :: _, [], h => h.elim
theorem PO.snoc : ∀ {s : Nat} {P : List (Nat × Nat × Nat)} {RS : List (List Keyed)} {C : List Keyed} {a : Nat}, PO s P RS → a = s + RS.flatten.length → PO s (P ++ [(a, C.length, 0)]) (RS ++ [C])
 | s, [], [], C, a, _, h => ⟨by simpa using h, rfl, trivial⟩
 | s, e :: P, D :: RS, C, a, h, ha => ⟨h.1, h.2.1, h.2.2.snoc (by rw [ha]; simp; omega)⟩
 | _, [], _ :: _, _, _, h, _ => h.elim
 | _, _ :: _, [], _, _, h, _ => h.elim
theorem PO.modify {f : Nat × Nat × Nat → Nat × Nat × Nat} (hf : ∀ e, (f e).1 = e.1 ∧ (f e).2.1 = e.2.1) : ∀ {s : Nat} {P : List (Nat × Nat × Nat)} {RS : List (List Keyed)} (n : Nat), PO s P RS → PO s (P.modify n f) RS
 | _, [], [], n, _ => by simp [PO]
 | s, e :: P, C :: RS, 0, h => by
  rw [List.modify_zero_cons]
  exact ⟨(hf e).1.trans h.1, (hf e).2.trans h.2.1, h.2.2⟩
 | s, e :: P, C :: RS, n + 1, h => by
  rw [List.modify_succ_cons]
  exact ⟨h.1, h.2.1, h.2.2.modify hf n⟩
 | _, [], _ :: _, _, h => h.elim
 | _, _ :: _, [], _, h => h.elim
theorem PO.split : ∀ (n : Nat) {s : Nat} {P : List (Nat × Nat × Nat)} {RS : List (List Keyed)}, PO s P RS → n + 1 < RS.length → ∃ (P1 P2 : List (Nat × Nat × Nat)) (R1 R2 : List (List Keyed)) (X Y : List Keyed) (pw pw' : Nat),
 P = P1 ++ (s + R1.flatten.length, X.length, pw) :: (s + R1.flatten.length + X.length, Y.length, pw') :: P2 ∧ RS = R1 ++ X :: Y :: R2 ∧ P1.length = n ∧ R1.length = n ∧ ∀ Z : List Keyed, Z.length = X.length + Y.length → PO s (P1 ++ (s + R1.flatten.length, X.length + Y.length, pw) :: P2) (R1 ++ Z :: R2)
 | 0, s, e1 :: e2 :: P2, X :: Y :: R2, h, _ => by
  obtain ⟨a1, l1, w1⟩ := e1
  obtain ⟨a2, l2, w2⟩ := e2
  obtain ⟨h1, h2, h3, h4, h5⟩ := h
  simp only at h1 h2 h3 h4
  subst h1 h2 h3 h4
  refine ⟨[], P2, [], R2, X, Y, w1, w2, by simp, rfl, rfl, rfl, fun Z hZ => ⟨by simp, hZ.symm, ?_⟩⟩
  rw [hZ, ← Nat.add_assoc]; exact h5
 | n + 1, s, e :: P, C :: RS, h, hl => by
  obtain ⟨P1, P2, R1, R2, X, Y, pw, pw', g1, g2, g3, g4, g5⟩ := PO.split n h.2.2 (by simpa using hl)
  refine ⟨e :: P1, P2, C :: R1, R2, X, Y, pw, pw', ?_, by rw [g2]; rfl, by simp [g3], by simp [g4], fun Z hZ => ⟨h.1, h.2.1, ?_⟩⟩
  · rw [g1]
    simp only [List.flatten_cons, List.length_append, List.cons_append]
    rw [← Nat.add_assoc]
  · have := g5 Z hZ
    simp only [List.flatten_cons, List.length_append]
    rw [← Nat.add_assoc]; exact this
 | 0, _, [], _ :: _, h, _ => h.elim
 | 0, _, _ :: _, [], h, _ => h.elim
 | 0, _, [], [], _, hl => by simp at hl
 | 0, _, [_], [_], _, hl => by simp at hl
 | 0, _, [_], _ :: _ :: _, h, _ => h.2.2.elim
 | 0, _, _ :: _ :: _, [_], h, _ => h.2.2.elim
 | _ + 1, _, [], _ :: _, h, _ => h.elim
 | _ + 1, _, _ :: _, [], h, _ => h.elim
 | _ + 1, _, [], [], _, hl => by simp at hl
section
variable {prog : Program} {w : World} {A : Around} {E : Value → Shared → Prop} {s : Shared} {κ : SortKind} {kz : Array Keyed} {lt : Keyed → Keyed → Bool} {st : SortSt}
structure Rn (lt : Keyed → Keyed → Bool) (κ : SortKind) (kz : Array Keyed) (v : SortSt) (RS : List (List Keyed)) (rest : List Keyed) : Prop where
 bs : Bs κ kz v
 arr : (arrOf v).toList = RS.flatten ++ rest
 po : PO 0 (pendingOf v).toList RS
 good : ∀ C ∈ RS, 0 < C.length ∧ C.Pairwise (Le lt)
theorem mergeAt_rn {n : Nat} {RS : List (List Keyed)} {rest : List Keyed} {Q : Bool → SortSt → Prop} (O : Ord lt) (c : PureLt prog w A s κ kz lt) (R : Rn lt κ kz st RS rest) (hn : n + 1 < RS.length)
 (q : ∀ v RS', Rn lt κ kz v RS' rest → RS'.length + 1 = RS.length → RS'.flatten.length = RS.flatten.length → Q true v) : wpS (model prog w) A E s (mergeAt' n) Q st := by
 obtain ⟨P1, P2, R1, R2, X, Y, pw, pw', g1, g2, g3, g4, g5⟩ := R.po.split n hn
 subst g2
 rw [Nat.zero_add] at g1
 obtain ⟨hX, sX⟩ := R.good X (by simp)
 obtain ⟨hY, sY⟩ := R.good Y (by simp)
 have ha : (arrOf st).toList = R1.flatten ++ (X ++ Y) ++ (R2.flatten ++ rest) := by rw [R.arr]; simp
 have p1 : (pendingOf st)[n]? = some (R1.flatten.length, X.length, pw) := by
  rw [← Array.getElem?_toList, g1, List.getElem?_append_right (by omega), g3, Nat.sub_self]; rfl
 have p2 : (pendingOf st)[n + 1]? = some (R1.flatten.length + X.length, Y.length, pw') := by
  rw [← Array.getElem?_toList, g1, List.getElem?_append_right (by omega), g3, show n + 1 - n = 1 by omega]; rfl
 refine mergeAt_ok O c R.bs ha hX hY sX sY p1 p2 fun v Z B' e1 e2 e3 e4 => q v (R1 ++ Z :: R2) ⟨B', ?_, ?_, fun C hC => ?_⟩ (by simp; omega) ?_
 · rw [e1]; simp
 · have hz := e2.length_eq
   rw [List.length_append] at hz
   have := g5 Z hz
   rw [Nat.zero_add] at this
   have e : (pendingOf v).toList = P1 ++ (R1.flatten.length, X.length + Y.length, pw) :: P2 := by
    rw [e4]
    simp only [Array.toList_eraseIdxIfInBounds, Array.toList_setIfInBounds, g1]
    rw [List.set_append_right _ _ (by omega), g3, Nat.sub_self, List.set_cons_zero, List.eraseIdx_append_of_length_le (by omega), g3, show n + 1 - n = 1 by omega]
    rfl
   rw [e]; exact this
 · rcases List.mem_append.mp hC with h | h
   · exact R.good C (List.mem_append_left _ h)
   · rcases List.mem_cons.mp h with h | h
     · rw [h]
       refine ⟨?_, e3⟩
       rw [e2.length_eq, List.length_append]; omega
     · exact R.good C (List.mem_append_right _ (.tail _ (.tail _ h)))
 · have hz := e2.length_eq
   rw [List.length_append] at hz
   simp only [List.flatten_append, List.flatten_cons, List.length_append]
   omega
theorem sortRuns_ok {Q : Unit → SortSt → Prop} (O : Ord lt) (c : PureLt prog w A s κ kz lt)
 (q : ∀ v, failedOf v = none → (arrOf v).toList.Perm kz.toList → (arrOf v).toList.Pairwise (Le lt) → Q () v) : wpS (model prog w) A E s sortRuns' Q (SortSt.mk' κ kz #[] 7 none) := by
 rw [sortRuns'_eq]
 refine wpS_bind (wpS_get ?_)
 dsimp only
 have hsz : (arrOf (SortSt.mk' κ kz #[] 7 none)).size = kz.size := rfl
 have hkz : kz.toList.length = kz.size := Array.length_toList
 simp only [hsz]
 generalize minRun' kz.size kz.size 0 = mr
 have R0 : Rn lt κ kz (SortSt.mk' κ kz #[] 7 none) [] kz.toList := ⟨⟨rfl, rfl, List.Perm.refl _⟩, rfl, trivial, fun C hC => (nomatch hC)⟩
 refine wpS_bind (wpS_mono (wpS_forRange (I := fun i r v => ∃ lo RS rest, r = (none, lo) ∧ Rn lt κ kz v RS rest ∧ lo = RS.flatten.length ∧ i ≤ lo)
  (Q := fun r v => ∃ lo RS, r = (none, lo) ∧ Rn lt κ kz v RS []) ?step ?fin ⟨0, [], kz.toList, rfl, R0, rfl, Nat.le_refl _⟩) ?post)
 case fin =>
  rintro r v ⟨lo, RS, rest, rfl, R, hlo, hi⟩
  have hlen := R.bs.perm.length_eq
  rw [R.arr, List.length_append] at hlen
  have : rest = [] := List.length_eq_zero_iff.mp (by have := Nat.le_max_right 0 kz.size; omega)
  subst this
  exact ⟨lo, RS, rfl, R⟩
 case step =>
  rintro i r v _ hi ⟨lo, RS, rest, rfl, R, hlo, hil⟩
  dsimp only
  have hlen := R.bs.perm.length_eq
  rw [R.arr, List.length_append] at hlen
  have push : ∀ (v2 : SortSt) (RS2 : List (List Keyed)) (Z L3 : List Keyed), Bs κ kz v2 → (arrOf v2).toList = RS2.flatten ++ (Z ++ L3) → PO 0 (pendingOf v2).toList RS2 → (∀ C ∈ RS2, 0 < C.length ∧ C.Pairwise (Le lt)) → RS2.flatten.length = lo → 0 < Z.length → Z.Pairwise (Le lt) →
   ∃ lo' RS' rest', ((none : Option Unit), lo + Z.length) = (none, lo') ∧ Rn lt κ kz (setPending v2 ((pendingOf v2).push (lo, Z.length, 0))) RS' rest' ∧ lo' = RS'.flatten.length ∧ i + 1 ≤ lo' := fun v2 RS2 Z L3 B2 a2 p2 g2 l2 hZ sZ => by
   refine ⟨_, RS2 ++ [Z], L3, rfl, ⟨⟨B2.kind, B2.failed, B2.perm⟩, ?_, ?_, fun C hC => ?_⟩, ?_, by omega⟩
   · show (arrOf v2).toList = _
     rw [a2]; simp
   · show PO 0 ((pendingOf v2).push (lo, Z.length, 0)).toList _
     rw [Array.toList_push]
     exact p2.snoc (by omega)
   · rcases List.mem_append.mp hC with h | h
     · exact g2 C h
     · rw [List.mem_singleton.mp h]; exact ⟨hZ, sZ⟩
   · rw [List.flatten_append, List.length_append, show [Z].flatten = Z by simp, l2]
  by_cases hge : lo ≥ kz.size
  · rw [if_pos hge]
    have : rest = [] := List.length_eq_zero_iff.mp (by omega)
    subst this
    exact wpS_pure ⟨lo, RS, rfl, R⟩
  rw [if_neg hge]
  refine wpS_bind (countRun_ok O c R.bs R.arr hlo (by omega) (by omega) fun v1 C D B1 a1 pm sC hC hp1 => ?_)
  dsimp only
  have hcd := pm.length_eq
  rw [List.length_append] at hcd
  by_cases hmr : C.length < mr
  all_goals first
   | (rw [if_pos hmr]
      refine wpS_bind (rule_ok ?_)
      have hfo : C.length ≤ min (kz.size - lo) mr := by omega
      refine wpS_bind (binSort_ok O c B1 (C := C) (D := D.take (min (kz.size - lo) mr - C.length)) (L3 := D.drop (min (kz.size - lo) mr - C.length)) (by rw [a1, List.append_assoc, List.take_append_drop]) hlo rfl hC (by rw [List.length_take]; omega) sC fun v2 Z B2 a2 pz sZ hp2 => ?_)
      simp only [Bool.not_true, Bool.false_eq_true, if_false]
      have hzl : min (kz.size - lo) mr = Z.length := by rw [pz.length_eq, List.length_append, List.length_take]; omega
      rw [hzl]
      have hZ : 0 < Z.length := by omega
      have hpp : pendingOf v2 = pendingOf v := hp2.trans hp1
      generalize hL3 : D.drop (Z.length - C.length) = L3 at a2
      have a2 : (arrOf v2).toList = RS.flatten ++ (Z ++ D.drop (min (kz.size - lo) mr - C.length)) := by assumption
      generalize hL4 : D.drop (min (kz.size - lo) mr - C.length) = L4 at a2)
   | (rw [if_neg hmr]
      have B2 := B1
      have a2 := a1
      have sZ := sC
      have hZ : 0 < C.length := by omega
      have hpp := hp1
      generalize hv2 : v1 = v2 at B2 a2 hpp ⊢
      generalize hZ0 : C = Z at a2 sZ hZ ⊢
      generalize hL4 : D = L4 at a2)
  all_goals
   refine wpS_bind (wpS_get ?_)
   have p2 : PO 0 (pendingOf v2).toList RS := by rw [hpp]; exact R.po
   cases hb : (pendingOf v2).back? with
   | none =>
    dsimp only
    exact wpS_bind (wpS_modify (wpS_pure (push v2 RS Z L4 B2 a2 p2 R.good hlo.symm hZ sZ)))
   | some e =>
    obtain ⟨s1, n1, w1⟩ := e
    dsimp only
    refine wpS_bind (wpS_mono (wpS_forRange (I := fun _ r v => r = (none, ()) ∧ ∃ RS2, Rn lt κ kz v RS2 (Z ++ L4) ∧ RS2.flatten.length = lo) (Q := fun r v => r = (none, ()) ∧ ∃ RS2, Rn lt κ kz v RS2 (Z ++ L4) ∧ RS2.flatten.length = lo) ?mstep (fun _ _ h => h) ⟨rfl, RS, ⟨B2, a2, p2, R.good⟩, hlo.symm⟩) ?mpost)
    case mpost =>
     rintro r v3 ⟨rfl, RS2, R2, hl2⟩
     dsimp only
     refine wpS_bind (wpS_modify (wpS_bind (wpS_modify (wpS_pure ?_))))
     refine push (setPending v3 _) RS2 Z L4 ⟨R2.bs.kind, R2.bs.failed, R2.bs.perm⟩ R2.arr ?_ R2.good hl2 hZ sZ
     show PO 0 ((pendingOf v3).modify _ _).toList RS2
     rw [Array.toList_modify]
     refine PO.modify ?_ _ R2.po
     exact fun e => ⟨rfl, rfl⟩
    case mstep =>
     rintro j r v3 _ _ ⟨rfl, RS2, R2, hl2⟩
     refine wpS_bind (wpS_get ?_)
     have hpl := R2.po.len
     rw [Array.length_toList] at hpl
     by_cases hps : (pendingOf v3).size > 1
     · rw [if_pos hps]
       obtain ⟨e2, he2⟩ : ∃ e2, (pendingOf v3)[(pendingOf v3).size - 2]? = some e2 := ⟨(pendingOf v3)[(pendingOf v3).size - 2]'(by omega), by simp⟩
       rw [he2]
       obtain ⟨x1, x2, x3⟩ := e2
       dsimp only
       split
       · exact wpS_pure ⟨rfl, RS2, R2, hl2⟩
       · refine wpS_bind (mergeAt_rn O c R2 (by omega) fun v4 RS4 R4 _ h4 => ?_)
         simp only [Bool.not_true, Bool.false_eq_true, if_false]
         exact wpS_pure ⟨rfl, RS4, R4, by omega⟩
     · rw [if_neg hps]
       exact wpS_pure ⟨rfl, RS2, R2, hl2⟩
 case post =>
  rintro r v ⟨lo, RS, rfl, R⟩
  dsimp only
  have hlen := R.bs.perm.length_eq
  rw [R.arr, List.append_nil] at hlen
  have few : ∀ (l : List (List Keyed)), (∀ C ∈ l, 0 < C.length) → l.length ≤ l.flatten.length := fun l => by
   induction l with
   | nil => intro _; exact Nat.le_refl _
   | cons C l ih =>
    intro h
    have := ih fun x hx => h x (.tail _ hx)
    have := h C (.head _)
    rw [List.flatten_cons, List.length_append, List.length_cons]; omega
  have hRS := few RS fun C hC => (R.good C hC).1
  refine wpS_bind (wpS_mono (wpS_forRange (I := fun i r v => r = (none, ()) ∧ ∃ RS2, Rn lt κ kz v RS2 [] ∧ (RS2.length ≤ 1 ∨ RS2.length + i ≤ kz.size)) (Q := fun r v => r = (none, ()) ∧ ∃ RS2, Rn lt κ kz v RS2 [] ∧ RS2.length ≤ 1) ?step2 ?fin2 ⟨rfl, RS, R, .inr (by omega)⟩) ?post2)
  case fin2 =>
   rintro r v2 ⟨rfl, RS2, R2, h⟩
   refine ⟨rfl, RS2, R2, ?_⟩
   have := Nat.le_max_right 0 kz.size
   omega
  case post2 =>
   rintro r v2 ⟨rfl, RS2, R2, h⟩
   dsimp only
   refine wpS_pure (q v2 R2.bs.failed R2.bs.perm ?_)
   rw [R2.arr, List.append_nil]
   match RS2, R2.good, h with
   | [], _, _ => exact List.Pairwise.nil
   | [C], g, _ => simpa using (g C (.head _)).2
   | _ :: _ :: _, _, h => simp at h
  case step2 =>
   rintro i r v2 _ _ ⟨rfl, RS2, R2, h⟩
   refine wpS_bind (wpS_get ?_)
   have hpl := R2.po.len
   rw [Array.length_toList] at hpl
   by_cases hps : (pendingOf v2).size ≤ 1
   · rw [if_pos hps]
     exact wpS_pure ⟨rfl, RS2, R2, by omega⟩
   · rw [if_neg hps]
     refine wpS_bind (mergeAt_rn O c R2 ?_ fun v4 RS4 R4 h3 _ => ?_)
     · have le : ∀ (b : Bool) (n : Nat), (if b = true then n - 1 else n) ≤ n := fun b n => by split <;> omega
       refine Nat.lt_of_le_of_lt (Nat.add_le_add_right (le _ _) 1) ?_
       omega
     · simp only [Bool.not_true, Bool.false_eq_true, if_false]
       exact wpS_pure ⟨rfl, RS4, R4, by omega⟩
end
end Tim
theorem perm_lift {α β : Type} (f : α → β) {l m : List β} (h : l.Perm m) : ∀ {zs : List α}, zs.map f = m → ∃ zs' : List α, zs'.Perm zs ∧ zs'.map f = l := by
 induction h with
 | nil => intro zs e; exact ⟨zs, List.Perm.refl _, e⟩
 | cons x _ ih =>
  intro zs e
  cases zs with
  | nil => cases e
  | cons z zs =>
   injection e with e1 e2
   obtain ⟨zs', h1, h2⟩ := ih e2
   exact ⟨z :: zs', h1.cons z, by rw [List.map_cons, e1, h2]⟩
 | swap x y l =>
  intro zs e
  cases zs with
  | nil => cases e
  | cons a zs =>
   cases zs with
   | nil => cases e
   | cons b zs =>
    injection e with e1 e2
    injection e2 with e2 e3
    exact ⟨b :: a :: zs, List.Perm.swap a b zs, by rw [List.map_cons, List.map_cons, e1, e2, e3]⟩
 | trans _ _ i1 i2 =>
  intro zs e
  obtain ⟨z1, h1, h2⟩ := i2 e
  obtain ⟨z2, h3, h4⟩ := i1 h2
  exact ⟨z2, h3.trans h1, h4⟩
theorem lexLt_total : ∀ a b : List Int, HT.lexLt a b = true ∨ a = b ∨ HT.lexLt b a = true
 | [], [] => .inr (.inl rfl)
 | [], _ :: _ => .inl rfl
 | _ :: _, [] => .inr (.inr rfl)
 | x :: a, y :: b => by
  rw [HT.lexLt_cons, HT.lexLt_cons]
  by_cases e : x = y
  · subst e
    rw [if_pos rfl, if_pos rfl]
    rcases lexLt_total a b with h | h | h
    · exact .inl h
    · exact .inr (.inl (by rw [h]))
    · exact .inr (.inr h)
  · rw [if_neg e, if_neg (fun z => e z.symm)]
    rcases Int.lt_or_lt_of_ne e with h | h
    · exact .inl (decide_eq_true h)
    · exact .inr (.inr (decide_eq_true h))
theorem lexLt_tr : ∀ {a b c : List Int}, HT.lexLt a b = true → HT.lexLt b c = true → HT.lexLt a c = true
 | [], [], _, h, _ => by rw [HT.lexLt_nil_nil] at h; cases h
 | [], _ :: _, [], _, h => by rw [HT.lexLt_cons_nil] at h; cases h
 | [], _ :: _, _ :: _, _, _ => rfl
 | _ :: _, [], _, h, _ => by rw [HT.lexLt_cons_nil] at h; cases h
 | _ :: _, _ :: _, [], _, h => by rw [HT.lexLt_cons_nil] at h; cases h
 | x :: a, y :: b, z :: c, h1, h2 => by
  rw [HT.lexLt_cons] at h1 h2 ⊢
  by_cases e1 : x = y
  · rw [if_pos e1] at h1
    by_cases e2 : y = z
    · rw [if_pos e2] at h2
      rw [if_pos (e1.trans e2)]; exact lexLt_tr h1 h2
    · rw [if_neg e2] at h2
      rw [if_neg (fun q => e2 (e1.symm.trans q))]
      have := of_decide_eq_true h2
      exact decide_eq_true (by omega)
  · rw [if_neg e1] at h1
    have := of_decide_eq_true h1
    by_cases e2 : y = z
    · rw [if_neg (fun q => e1 (q.trans e2.symm))]
      exact decide_eq_true (by omega)
    · rw [if_neg e2] at h2
      have := of_decide_eq_true h2
      rw [if_neg (by omega)]
      exact decide_eq_true (by omega)
theorem lexLt_irr : ∀ a : List Int, HT.lexLt a a = false
 | [] => rfl
 | x :: a => by rw [HT.lexLt_cons, if_pos rfl]; exact lexLt_irr a
theorem lexLt_asy {a b : List Int} (h : HT.lexLt a b = true) : HT.lexLt b a = false := by
 cases e : HT.lexLt b a with
 | false => rfl
 | true => have := lexLt_tr h e; rw [lexLt_irr] at this; cases this
theorem ord_lex (key : Keyed → List Int) : Tim.Ord fun x y => HT.lexLt (key x) (key y) :=
 ⟨fun a => lexLt_irr _, fun a b h => lexLt_asy h, fun a b c h1 h2 => by
  cases e : HT.lexLt (key c) (key a) with
  | false => rfl
  | true =>
   rcases lexLt_total (key a) (key b) with h | h | h
   · have := lexLt_tr e h; rw [h2] at this; cases this
   · rw [h] at e; rw [h2] at e; cases e
   · rw [h1] at h; cases h⟩
theorem ord_int (key : Keyed → Int) : Tim.Ord fun x y => decide (key x < key y) :=
 ⟨fun a => decide_eq_false (by omega), fun a b h => by have := of_decide_eq_true h; exact decide_eq_false (by omega), fun a b c h1 h2 => by
  have := of_decide_eq_false h1
  have := of_decide_eq_false h2
  exact decide_eq_false (by omega)⟩
theorem pairs_map {α : Type} (g : α → Value) : ∀ l : List α, (pairsOf (l.map g)).toList = l.map fun z => ((g z, g z) : Keyed)
 | [] => by rw [pairsOf_toList]; rfl
 | z :: l => by
  have ih := pairs_map g l
  rw [pairsOf_toList] at ih ⊢
  rw [List.map_cons, List.zip_cons_cons, ih]; rfl
section
variable {X : Cx}
theorem sorted_gen {α : Type} {p : Addr} {zs : List α} {f : α → V} {g : α → Value} {pins : List (Addr × Obj)} {s : Shared} {σ : L2.St} {H : Hp} {Q : VK} (lt : Keyed → Keyed → Bool) (O : Tim.Ord lt) (I : Inv X pins σ H s) (each : ∀ z ∈ zs, RelV (f z) (g z))
 (hob : ∃ (o : Obj) (T : String) (cn : Nat), (T = "list" ∨ T = "tuple") ∧ s.heap.get? p = some o ∧ o.cls = .type T ∧ o.data = .seq (zs.map g).toArray cn ∧ zs.length ≤ sizeLine)
 (hk : 2 ≤ zs.length → ∀ h6 : Heap, (∀ b o, H b ≠ none → s.heap.get? b = some o → h6.get? b = some o) → ∃ κ, (∀ Q : SortKind → Shared → Prop, ∀ E, Q κ { s with heap := h6 } → wpAny (model X.prog X.w) X.A.in1.in1 (keyKind' (zs.map g).toArray) Q E { s with heap := h6 }) ∧ PureLt X.prog X.w X.A.in1.in1 { s with heap := h6 } κ (pairsOf (zs.map g)) lt)
 (q : ∀ (l : Addr) (ys : List α) (H' : Hp), H l = none → L2.Same H H' → H' l = some (.lst (ys.map f)) → ys.Perm zs → (ys.map fun z => ((g z, g z) : Keyed)).Pairwise (Tim.Le lt) → Q (.ref l) H') :
 wpAny (model X.prog X.w) X.A (call (.builtin "sorted") [.ref p]) (EP X pins σ Q) X.xe s := by
 have hsz : (sizeLine : Nat) = 16777216 := sizeLine_eq
 obtain ⟨o, T, cn, hT, ho, hcl, hdt, hzz⟩ := hob
 refine Calls.call_function_entry kind_sorted plain_sorted entry_sorted (args_sorted1 _) ?_
 unfold Builtin.«sorted»
 refine wpAny_bind (m := checkCount "sorted" 1 1 _) (wpAny_pure ?_)
 refine wpAny_bind (wpAny_collect_seq p hT ho hcl hdt (fun h' hk' => ?_) (by rw [List.size_toArray, List.length_map]; omega))
 have eI : ((zs.map g).toArray).toList = zs.map g := by simp
 rw [eI]
 refine wpAny_bind (wpAny_newList ?_ (by rw [List.length_map]; omega))
 have hoL : (h'.push (seqObj "list" (zs.map g).toArray 0)).get? h'.objs.size = some (seqObj "list" (zs.map g).toArray 0) := Heap.get?_push_size _ rfl
 have I1 : Inv X pins σ H { s with heap := h' } := I.kept (t' := s.toks) hk'
 have hfr : H h'.objs.size = none := I1.hok.fresh (Nat.le_refl _)
 refine wpAny_bind (wpAny_holding (wpAny_call_entry slot_list_sort ⟨_, hoL, rfl⟩ entry_list_sort (sort_any (R := fun out => ∃ ys : List α, out = (ys.map g).toArray ∧ ys.Perm zs ∧ (ys.map fun z => ((g z, g z) : Keyed)).Pairwise (Tim.Le lt)) hoL (by rw [List.length_map]; omega) (fun h1 => ⟨zs, rfl, List.Perm.refl _, ?_⟩) (fun h2 h6 old => ?_) fun out ho ⟨ys, hR, hp, hs⟩ => ⟨_, rfl, ?_⟩) (args_list_sort _)))
 · rw [List.length_map] at h1
   match zs, h1 with
   | [], _ => exact List.Pairwise.nil
   | [_], _ => exact List.pairwise_singleton _ _
   | _ :: _ :: _, h => simp at h; omega
 · rw [List.length_map] at h2
   obtain ⟨κ, k1, k2⟩ := hk h2 h6 fun b o hb e => old b o (fun z => hb (by rw [z]; exact hfr)) (Heap.get?_push_of_some _ (hk' b o e))
   refine k1 _ _ ⟨rfl, ?_⟩
   refine Tim.sortRuns_ok O k2 fun v e1 e2 e3 => ⟨e1, ?_, ?_⟩
   · have := e2.length_eq
     rw [Array.length_toList, pairsOf_toList, List.length_zip] at this
     omega
   · have e := pairs_map g zs
     rw [e] at e2
     obtain ⟨ys, h3, h4⟩ := perm_lift (fun z => ((g z, g z) : Keyed)) e2 rfl
     refine ⟨ys, ?_, h3, by rw [h4]; exact e3⟩
     apply Array.toList_inj.mp
     rw [Array.toList_map, ← h4, List.map_map]; simp
 · refine wpAny_pure ⟨_, rfl, ?_⟩
   subst hR
   obtain ⟨n', e'⟩ : ∃ n', (sortedHeap (h'.push (seqObj "list" (zs.map g).toArray 0)) h'.objs.size (zs.map g) (ys.map g).toArray).get? h'.objs.size = some (seqObj "list" (ys.map g).toArray n') := sortedHeap_at hoL
   have keep : ∀ b o, h'.get? b = some o → (sortedHeap (h'.push (seqObj "list" (zs.map g).toArray 0)) h'.objs.size (zs.map g) (ys.map g).toArray).get? b = some o := fun b o e => by
    have hb := Heap.lt_size e
    rw [sortedHeap_old (Nat.ne_of_lt hb) (by rw [Heap.size_push]; exact Nat.lt_succ_of_lt hb)]
    exact Heap.get?_push_of_some _ e
   have vals : ∀ {l : List α}, (∀ z ∈ l, RelV (f z) (g z)) → Vals (l.map f) (l.map g) := fun {l} => by
    induction l with
    | nil => exact fun _ => .nil
    | cons a l ih => exact fun h => .cons (h a (.head _)) (ih fun z hz => h z (.tail _ hz))
   have I2 : Inv X pins σ (upd H h'.objs.size (.lst (ys.map f))) { s with heap := sortedHeap (h'.push (seqObj "list" (zs.map g).toArray 0)) h'.objs.size (zs.map g) (ys.map g).toArray } :=
    I1.laid (t' := s.toks) keep (Nat.le_refl _) (show ObjOk X.prog X.w _ _ _ (.lst (ys.map f)) from ⟨by rw [List.length_map, hp.length_eq]; exact hzz, ys.map g, n', vals fun z hz => each z (hp.mem_iff.mp hz), e'⟩)
   exact ⟨.ref h'.objs.size, _, I2, rfl, q _ ys _ hfr (Br.Same.upd hfr) upd_same hp hs⟩
theorem seq_obj {p : Addr} {xs : List V} {pins : List (Addr × Obj)} {s : Shared} {σ : L2.St} {H : Hp} (I : Inv X pins σ H s) (hq : SqL X.K H p xs ∨ SqT X.K H p xs) : ∃ (its : List Value) (o : Obj) (T : String) (cn : Nat), Vals xs its ∧ (T = "list" ∨ T = "tuple") ∧ s.heap.get? p = some o ∧ o.cls = .type T ∧ o.data = .seq its.toArray cn ∧ xs.length ≤ sizeLine := by
 rcases hq with hq | hq
 · obtain ⟨its, r', pl, hz⟩ := I.list hq
   obtain ⟨o, ho, hc, n, hd⟩ := pl.isList
   exact ⟨its, o, "list", n, r', .inl rfl, ho, hc, hd, hz⟩
 · obtain ⟨its, r', ⟨o, ho, hc, n, hd⟩, hz⟩ := I.tuple hq
   exact ⟨its, o, "tuple", n, r', .inr rfl, ho, hc, hd, hz⟩
def rSortI (K : PySem.W.Frag) : List V → Hp → VK → Prop := fun xs H Q => ∃ (p : Addr) (ns : List Int), xs = [.ref p] ∧ (SqL K H p (ns.map V.int) ∨ SqT K H p (ns.map V.int)) ∧
 ∀ (l : Addr) (ms : List Int) (H' : Hp), H l = none → L2.Same H H' → H' l = some (.lst (ms.map V.int)) → ms.Perm ns → ms.Pairwise (· ≤ ·) → Q (.ref l) H'
theorem call_sortI : CallR X (.builtin "sorted") (rSortI X.K) := by
 intro pins s σ H xs us Q I r h
 obtain ⟨p, ns, e1, hq, q⟩ := h
 subst e1
 obtain ⟨u, rfl, rx⟩ := vals1 r
 cases rx
 obtain ⟨its, o, T, cn, rv, hT, ho, hcl, hd, hz⟩ := seq_obj I hq
 obtain ⟨zs, hzs1, hzs2⟩ : ∃ zs : List (Int × Tok), zs.map (·.1) = ns ∧ zs.map (fun z => Value.int z.1 z.2) = its := by
  clear hd hz hq q
  induction ns generalizing its with
  | nil => cases rv; exact ⟨[], rfl, rfl⟩
  | cons n ns ih =>
   cases rv with
   | cons r rr =>
    obtain ⟨t, rfl⟩ := r
    obtain ⟨zs, h1, h2⟩ := ih _ rr
    exact ⟨(n, t) :: zs, by rw [List.map_cons, h1], by rw [List.map_cons, h2]⟩
 subst hzs1 hzs2
 refine sorted_gen (α := Int × Tok) (zs := zs) (f := fun z => .int z.1) (g := fun z => .int z.1 z.2) (fun x y => decide (numOf x.1 < numOf y.1)) (ord_int fun x => numOf x.1) I (fun z _ => ⟨z.2, rfl⟩) ⟨o, T, cn, hT, ho, hcl, hd, by simpa using hz⟩ (fun h2 h6 _ => ⟨oneType', fun Q E hQ => ?_, fun x y hx hy Q E hQ => ?_⟩) fun l ys H' n1 s1 e1 hp hs => ?_
 · match zs, h2 with
   | z1 :: z2 :: zr, _ =>
    have ii : ∀ l : List (Int × Tok), IntsAre (l.map fun z => Value.int z.1 z.2) (l.map (·.1)) := fun l => by
     induction l with
     | nil => exact .nil
     | cons z l ih => exact .cons _ _ ih
    rw [List.map_cons, List.map_cons, keyKind_ints (ii (z1 :: z2 :: zr))]
    exact wpAny_pure hQ
   | [], h => simp at h
   | [_], h => simp at h
 · rw [pairs_map] at hx hy
   obtain ⟨z1, _, e1⟩ := List.mem_map.mp hx
   obtain ⟨z2, _, e2⟩ := List.mem_map.mp hy
   rw [← e1, ← e2] at hQ ⊢
   rw [keyLt'_oneType]
   exact oneLt_int hQ
 · refine q l (ys.map (·.1)) H' n1 s1 ?_ (hp.map _) ?_
   · rw [e1, List.map_map]; rfl
   · rw [List.pairwise_map] at hs ⊢
     exact hs.imp fun {a b} h => by have := of_decide_eq_false h; exact Int.not_lt.mp this
end
section
variable {X : Cx} {K : PySem.W.Frag} {e : Expr} {es : List Expr} {t : TA} {pos p : Pos} {x : Str} (hg : Gl X x) (he : starEach (e :: es) X.env = (false, eval e X.env) :: starEach es X.env) (hpl : (backTo pos (starEach es X.env)).any (·.1) = false)
include hg he hpl
theorem k_sortedI (hK : X.K = K) (hx : x = "sorted") (hc : X.calm = true) (hm : X.mg x = none) (ha : JA X (e :: es) t) : JE X (.Call (.Name x p) (e :: es) [] pos) (tCB (fun xs H Q => rSortD xs H Q ∨ rSortI K xs H Q) t) := hK ▸ ⟨by subst hx; exact pe_callB ((call_sortD hc).or call_sortI) hg hm boot_sorted ha.h (by decide) (by decide) he hpl⟩
end
end Br
namespace Br
namespace ZL
open PySem PySem.Spec PySem.Calls PyProof.Rows L2
theorem entry_li : entryFor table "list_iterator.__next__" = some Builtin.«list_iterator.__next__» := by rfl
theorem args_li (a : Value) : argsOk "list_iterator.__next__" { pos := [a] } := by first | rfl | decide +kernel | exact ⟨rfl⟩ | (constructor <;> rfl)
theorem slot_li : Slot "list_iterator" (Str.ofString "__next__") "list_iterator.__next__" := Slot.of (by rw [typeLookup_type, builtinLookup_eq_fast]; rfl) (by rfl) (by rfl) (by rfl) (.inl (by rfl)) (by rw [isSubtype_type]; rfl)
section
variable {prog : Program} {w : World} {A : Around} {E : Value → Shared → Prop} {s : Shared}
theorem tstep {c d : Addr} {k : Nat} {zs : Array Value} {v : Value} {Q : Value → Shared → Prop} (hI : s.heap.IsListIter c d k) (hT : s.heap.IsList d zs) (hv : zs[k]? = some v)
 (go : ∀ g, g.IsListIter c d (k + 1) → Heap.SameBut c s.heap g → Q v { s with heap := g }) : wpAny (model prog w) A (Builtin.«list_iterator.__next__» ⟨[.ref c], []⟩) (fun fin s' => ∃ u, fin = .done (.ret u) ∧ Q u s') E s := by
 have hI' := hI
 obtain ⟨oc, q1, q2, q3⟩ := hI'
 have hT' := hT
 obtain ⟨od, p1, _, nd, p3⟩ := hT'
 have at_ : zs[((k : Nat) : Int).toNat]? = some v := by simpa using hv
 wp_walk using wpAny_field q1 q3 (x := .ref d) rfl, wpAny_field q1 q3 (x := .int k 0) rfl, wpAny_seqItems p1 p3
 rw [at_]
 refine wpAny_bind (tsetAt q1 q3 (by simp) fun g o' a1 a2 a3 sb => ?_)
 wp_walk
 exact ⟨_, rfl, go g ⟨o', a1, a2.trans q2, by rw [a3]; simp [rawInt]⟩ sb⟩
theorem tstop {c d : Addr} {k : Nat} {zs : Array Value} {Q : PySem.Fin → Shared → Prop} (hh : A.handled = none) (hI : s.heap.IsListIter c d k) (hT : s.heap.IsList d zs) (hv : zs[k]? = none)
 (go : ∀ g e, Heap.ExtBut c s.heap g → (∃ o, g.get? e = some o ∧ o.cls = .type "StopIteration") → E (.ref e) { s with heap := g }) : wpAny (model prog w) A (Builtin.«list_iterator.__next__» ⟨[.ref c], []⟩) Q E s := by
 have hI' := hI
 obtain ⟨oc, q1, q2, q3⟩ := hI'
 have hT' := hT
 obtain ⟨od, p1, _, nd, p3⟩ := hT'
 have at_ : zs[((k : Nat) : Int).toNat]? = none := by simpa using hv
 wp_walk using wpAny_field q1 q3 (x := .ref d) rfl, wpAny_field q1 q3 (x := .int k 0) rfl, wpAny_seqItems p1 p3
 rw [at_]
 refine wpAny_bind (wpAny_rule (wpAny_bind (tsetAt q1 q3 (by simp) fun g o' a1 a2 a3 sb => ?_)))
 wp_walk
 unfold raiseNew
 wp_walk using wpAny_handled
 rw [hh]
 wp_walk
 exact go _ _ ((sb.extBut.push _).push _) ⟨_, Heap.get?_push_size _ rfl, rfl⟩
theorem tnext {c d : Addr} {k : Nat} {zs : Array Value} {v : Value} {Q : Value → Shared → Prop} (hI : s.heap.IsListIter c d k) (hT : s.heap.IsList d zs) (hv : zs[k]? = some v)
 (go : ∀ g, g.IsListIter c d (k + 1) → Heap.SameBut c s.heap g → Q v { s with heap := g }) : wpAny (model prog w) A (Builtin.SmallTypes.nextOf (.ref c)) Q E s := by
 have sl := slot_li
 unfold Builtin.SmallTypes.nextOf
 refine wpAny_bind (wpAny_callSpecial?_slot (name := Str.ofString "__next__") hI.typeIs sl (wpAny_call_entry sl hI.typeIs entry_li ?_ (args_li _)))
 exact wpAny_mono (tstep (Q := fun u s' => u = v ∧ Q v s') hI hT hv fun g a b => ⟨rfl, go g a b⟩) (fun fin s' ⟨u, e, e2, q⟩ => ⟨u, e, wpAny_pure (e2 ▸ q)⟩) fun _ _ z => z
theorem tnone {c d : Addr} {k : Nat} {zs : Array Value} {Q : Value → Shared → Prop} (hh : A.handled = none) (hI : s.heap.IsListIter c d k) (hT : s.heap.IsList d zs) (hv : zs[k]? = none)
 (go : ∀ g e, Heap.ExtBut c s.heap g → (∃ o, g.get? e = some o ∧ o.cls = .type "StopIteration") → E (.ref e) { s with heap := g }) : wpAny (model prog w) A (Builtin.SmallTypes.nextOf (.ref c)) Q E s := by
 have sl := slot_li
 unfold Builtin.SmallTypes.nextOf
 refine wpAny_bind (wpAny_callSpecial?_slot (name := Str.ofString "__next__") hI.typeIs sl (wpAny_call_entry sl hI.typeIs entry_li ?_ (args_li _)))
 exact tstop hh hI hT hv go
structure Zp (h : Heap) (z u o c1 c2 d e : Addr) (xs ys : Array Value) (k : Nat) : Prop where
 zip : IsZip h z u o .none
 its : IsPair h u (.ref c1) (.ref c2)
 own : ∃ a b, IsPair h o a b
 i1 : h.IsListIter c1 d k
 i2 : h.IsListIter c2 e k
 t1 : h.IsList d xs
 t2 : h.IsList e ys
structure Ap (z u o c1 c2 d e : Addr) : Prop where
 ne : [z, u, o, c1, c2].Nodup
 nd : ∀ b ∈ [z, u, o, c1, c2], d ≠ b ∧ e ≠ b
abbrev zh1 (h : Heap) (d : Addr) : Heap := h.push { cls := .type "list_iterator", data := .fields #[.ref d, .int 0 0] }
end
theorem sqL_apart {X : Cx} {pins : List (Addr × Obj)} {σ : L2.St} {H : Hp} {s : Shared} {d b : Addr} {xs : List V} (I : Inv X pins σ H s) (h : SqL X.K H d xs) (f : FpOk X pins H b) : d ≠ b := fun z => by
 subst z
 rcases h with h | ⟨o, its, n, hk, _⟩
 · rcases h with h | ⟨o, h⟩
   · rw [f.1] at h; cases h
   · rw [f.1] at h; cases h
 · have e := I.ok.mod.kin d o hk
   rcases f.2.2.2.1 with z | z
   · exact I.ok.noex d o e z
   · exact absurd (Nat.lt_of_lt_of_le (Heap.lt_size e) (Nat.le_trans I.ok.bsz z)) (Nat.lt_irrefl _)
end ZL
end Br
namespace Br
open PySem PySem.Spec PySem.Calls PyProof.Rows L2
def bareT (o : Obj) : Prop := ∃ its n, o = { cls := .type "tuple", data := .seq its n }
theorem kvGet {kvs : List (Key × V)} {vs : List (Key × Value)} (r : KV kvs vs) : ∀ {i : Nat} {kv : Key × V}, kvs[i]? = some kv → ∃ v, vs[i]? = some (kv.1, v) ∧ RelV kv.2 v := by
 unfold KV at r
 induction r with
 | nil => intro i kv h; simp at h
 | @cons p q ps qs h t ih =>
  intro i kv e
  cases i with
  | zero =>
   simp at e; subst e
   obtain ⟨q1, q2⟩ := q
   obtain ⟨h1, h2⟩ := h
   have h1 : p.1 = q1 := h1
   exact ⟨q2, by rw [h1]; rfl, h2⟩
  | succ i =>
   obtain ⟨v, a, b⟩ := ih (i := i) (kv := kv) (by simpa using e)
   exact ⟨v, by simpa using a, b⟩
theorem is_rel {P : Program} {w : World} {k : Key} {u : Value} (h : (mixKind P w).is k u = true) : RelV (kV k) u := by
 rcases keyIs_shape h with ⟨i, t, rfl, rfl⟩ | ⟨x, t, rfl, rfl⟩
 · exact ⟨t, rfl⟩
 · exact ⟨t, rfl⟩
structure M0 (X : Cx) (o : Expr) (m : Str) (apos : Pos) (cpos : Pos) : Prop where
 base : attributeBase o m X.env (eval o X.env) = eval o X.env
 few : ((backTo cpos (starEach [] X.env)).all (fun x => !x.1) && (backToKw cpos (keywordEach [] X.env)).all (fun x => x.1.isSome)
  && decide (([] : List Expr).length + ([] : List Keyword).length + (if ([] : List Keyword).isEmpty then 0 else 1) < 30)) = true
 line : (apos.endLine == cpos.line) = true
 trees : backTo cpos (starEach [] X.env) = []
theorem j_dget2 {X : Cx} {o e f : Expr} {td ty tx : TE} {apos cpos : Pos} {k : Nat} (hr : Room k X.A) (h1 : attributeBase o "get" X.env (eval o X.env) = eval o X.env)
 (h2 : ((backTo cpos (starEach [e, f] X.env)).all (fun x => !x.1) && (backToKw cpos (keywordEach [] X.env)).all (fun x => x.1.isSome)
  && decide (([e, f] : List Expr).length + ([] : List Keyword).length + (if ([] : List Keyword).isEmpty then 0 else 1) < 30)) = true) (h3 : (apos.endLine == cpos.line) = true) (h4 : backTo cpos (starEach [e, f] X.env) = [(false, eval e X.env), (false, eval f X.env)])
 (ho : JE X o td) (he : JE X e ty) (hf : JE X f tx) : JE X (.Call (.Attribute o "get" apos) [e, f] [] cpos) (tDGet2 td ty tx) := ⟨pe_dget2 (by have := hr.un; omega) ho.h he.h hf.h ⟨h1, h2, h3, h4⟩⟩
end Br
namespace Br
namespace ZM
open PySem PySem.Spec PySem.Calls PyProof.Rows L2
section
variable {prog : Program} {w : World} {A : Around} {E : Value → Shared → Prop} {s : Shared}
structure Zp (h : Heap) (z u o c1 c2 d e : Addr) (xs ys : Array Value) (k : Nat) : Prop where
 zip : IsZip h z u o .none
 its : IsPair h u (.ref c1) (.ref c2)
 own : ∃ a b, IsPair h o a b
 i1 : h.IsListIter c1 d k
 i2 : h.IsTupleIter c2 e k
 t1 : h.IsList d xs
 t2 : h.IsTuple e ys
structure Ap (z u o c1 c2 d e : Addr) : Prop where
 ne : [z, u, o, c1, c2].Nodup
 nd : ∀ b ∈ [z, u, o, c1, c2], d ≠ b ∧ e ≠ b
end
end ZM
end Br
namespace Br
open PySem PySem.Spec PySem.Calls PyProof.Rows L2
theorem s_dead {X : Cx} {st : Stmt} : JS X st (fun _ _ _ => False) := ⟨fun pins s σ H D I h => h.elim⟩
end Br
namespace Br
namespace ZT
open PySem PySem.Spec PySem.Calls PyProof.Rows L2
section
variable {prog : Program} {w : World} {A : Around} {E : Value → Shared → Prop} {s : Shared}
structure Zp (h : Heap) (z u o c1 c2 d e : Addr) (xs ys : Array Value) (k : Nat) : Prop where
 zip : IsZip h z u o .none
 its : IsPair h u (.ref c1) (.ref c2)
 own : ∃ a b, IsPair h o a b
 i1 : h.IsTupleIter c1 d k
 i2 : h.IsListIter c2 e k
 t1 : h.IsTuple d xs
 t2 : h.IsList e ys
structure Ap (z u o c1 c2 d e : Addr) : Prop where
 ne : [z, u, o, c1, c2].Nodup
 nd : ∀ b ∈ [z, u, o, c1, c2], d ≠ b ∧ e ≠ b
end
end ZT
namespace EL
open PySem PySem.Spec PySem.Calls PyProof.Rows L2
section
variable {prog : Program} {w : World} {A : Around} {E : Value → Shared → Prop} {s : Shared}
theorem drawsT (hh : A.handled = none) (c d : Addr) (hdc : d ≠ c) (xs : Array Value) :
 Draws prog w A c [c, d] xs.size (fun i x => xs[i]? = some x) (fun i h => h.IsListIter c d i ∧ h.IsList d xs) where
 live := fun i h st => let ⟨o, e, _⟩ := st.1; ⟨o, e⟩
 frame := fun i h h' st k => ⟨st.1.at fun ob q => k _ (by simp) ob q, let ⟨ob, q, r⟩ := st.2; ⟨ob, k _ (by simp) ob q, r⟩⟩
 item := fun i s Q E hi st go => by
  have hx : xs[i]? = some xs[i] := by simp [hi]
  exact ZL.tnext st.1 st.2 hx fun g j k => go _ g s.toks hx ⟨j, st.2.extBut k.extBut hdc⟩ k
 done := fun s Q E st go => ZL.tnone hh st.1 st.2 (by simp) fun g e k he => go g e k he
theorem enone {e c d : Addr} {xs : Array Value} {k : Nat} {old : Value} {Q : PySem.Fin → Shared → Prop} (hh : A.handled = none) (h1 : IsEnum s.heap e c k old) (h2 : s.heap.IsListIter c d k) (h3 : s.heap.IsList d xs) (hv : xs[k]? = none)
 (go : ∀ g x, Heap.ExtBut c s.heap g → (∃ ob, g.get? x = some ob ∧ ob.cls = .type "StopIteration") → E (.ref x) { s with heap := g }) :
 wpAny (model prog w) A (Builtin.«enumerate.__next__» ⟨[.ref e], []⟩) Q E s := by
 show wpAny _ _ (field (.ref e) 2 >>= _) _ _ _
 refine wpAny_bind (wpAny_field h1 rfl (x := .ref c) rfl ?_)
 exact wpAny_bind (ZL.tnone hh h2 h3 hv go)
theorem enext {e c d : Addr} {xs : Array Value} {k : Nat} {x old : Value} {Q : Option Value → Shared → Prop} (hh : A.handled = none) (n1 : e ≠ c) (n2 : d ≠ e) (n3 : d ≠ c) (h1 : IsEnum s.heap e c k old) (h2 : s.heap.IsListIter c d k) (h3 : s.heap.IsList d xs) (hx : xs[k]? = some x)
 (go : ∀ g tk, IsEnumOut g e c (k + 1) x s.heap.objs.size → g.IsListIter c d (k + 1) → IsPair g s.heap.objs.size (.int k tk) x → g.objs.size = s.heap.objs.size + 1 →
  (∀ b ob, b ≠ e → b ≠ c → s.heap.get? b = some ob → g.get? b = some ob) → Q (some (.ref s.heap.objs.size)) { s with heap := g, toks := tk + 1 }) : wpAny (model prog w) A (pyNext (.ref e)) Q E s := by
 have hT : s.TypeIs (.ref e) "enumerate" := ⟨_, h1, rfl⟩
 have hk : k < xs.size := by
  rcases Nat.lt_or_ge k xs.size with h | h
  · exact h
  · rw [Array.getElem?_eq_none h] at hx; cases hx
 unfold pyNext
 refine wpAny_bind (wpAny_attempt (wpAny_callSpecial?_slot (name := Str.ofString "__next__") hT F.slot_enumerate_next (wpAny_call_entry F.slot_enumerate_next hT F.entry_enumerate_next ?_ (F.args_enumerate_next_1 _))))
 refine enumerate_next_itemD (drawsT (A := A.in1) (show A.in1.handled = none from hh) c d n3 xs) h1 ⟨h2, h3⟩ hk n1 (by simp [n1, Ne.symm n2]) fun x' g tk px a1 a2 a3 a4 a5 => wpAny_pure ?_
 have : x' = x := by rw [px] at hx; exact Option.some.inj hx
 subst this
 exact go g tk a1 a2.1 a3 a4 a5
theorem estop {e c d : Addr} {xs : Array Value} {k : Nat} {old : Value} {Q : Option Value → Shared → Prop} (hh : A.handled = none) (h1 : IsEnum s.heap e c k old) (h2 : s.heap.IsListIter c d k) (h3 : s.heap.IsList d xs) (hv : xs[k]? = none)
 (go : ∀ g, Heap.ExtBut c s.heap g → Q none { s with heap := g }) : wpAny (model prog w) A (pyNext (.ref e)) Q E s := by
 have hT : s.TypeIs (.ref e) "enumerate" := ⟨_, h1, rfl⟩
 unfold pyNext
 refine wpAny_bind (wpAny_attempt (wpAny_callSpecial?_slot (name := Str.ofString "__next__") hT F.slot_enumerate_next (wpAny_call_entry F.slot_enumerate_next hT F.entry_enumerate_next (enone hh h1 h2 h3 hv fun g x hk he => ?_) (F.args_enumerate_next_1 _))))
 obtain ⟨ob, hob, hcb⟩ := he
 exact wpAny_bind (wpAny_isInstance (T := "StopIteration") (b := true) ⟨ob, hob, hcb⟩ isSubtype_stop (wpAny_pure (go _ hk)))
theorem wpAny_pureB {M : Model} {b : Bool} {Q : Bool → Shared → Prop} (h : ∀ b, Q b s) : wpAny M A (pure b) Q E s := wpAny_pure (h b)
theorem emeets (d : Addr) (xs : Array Value) : Meets (Builtin.«enumerate.__new__» ⟨[.type "enumerate", .ref d], []⟩) (fun _ R s => s.heap.IsList d xs ∧
 R (.ok (.ret (.ref (ZL.zh1 s.heap d).objs.size))) { s with heap := (ZL.zh1 s.heap d).push { cls := .type "enumerate", data := .fields #[.none, .bool false, .ref s.heap.objs.size, rawInt 0, .none, .none] } }) :=
 .of_wp fun prog w A R s h => by
  obtain ⟨hp, g, dr, tk, os⟩ := s
  obtain ⟨h1, h⟩ := h
  have hsub := sub_enumerate
  have q1 : Heap.IsList (Shared.heap ⟨hp, g, dr, tk, os⟩) d xs := h1
  wp_walk using wpAny_pyIter_list q1
  refine wpAny_stack_any fun st => wpAny_pureB fun bb => ?_
  cases bb
  · wp_walk using wpAny_pyIter_list q1
    exact ⟨_, rfl, h⟩
  · wp_walk using wpAny_pyIter_list q1
    exact ⟨_, rfl, h⟩
theorem emake {d : Addr} {xs : Array Value} {Q : Value → Shared → Prop} (h1 : s.heap.IsList d xs)
 (go : ∀ g, IsEnum g (s.heap.objs.size + 1) s.heap.objs.size 0 .none → g.IsListIter s.heap.objs.size d 0 → (∀ b ob, s.heap.get? b = some ob → g.get? b = some ob) → Q (.ref (s.heap.objs.size + 1)) { s with heap := g }) :
 wpAny (model prog w) A (call (.type "enumerate") [.ref d]) Q E s := by
 refine callType_new F.called_enumerate (by decide) (F.typeCall_enumerate_1 _) (F.newCall_enumerate_1 _) (fun obj => F.args_object_init_2 obj _) F.entry_enumerate_new (emeets d xs) ⟨h1, ?_⟩
 have s1 : (ZL.zh1 s.heap d).objs.size = s.heap.objs.size + 1 := Heap.size_push ..
 have g2 : ((ZL.zh1 s.heap d).push { cls := .type "enumerate", data := .fields #[.none, .bool false, .ref s.heap.objs.size, rawInt 0, .none, .none] }).get? (ZL.zh1 s.heap d).objs.size = some _ := Heap.get?_push_size _ rfl
 have g1 : ((ZL.zh1 s.heap d).push { cls := .type "enumerate", data := .fields #[.none, .bool false, .ref s.heap.objs.size, rawInt 0, .none, .none] }).get? s.heap.objs.size = some _ := Heap.get?_push_of_some _ (Heap.get?_push_size _ rfl)
 have old : ∀ b ob, s.heap.get? b = some ob → ((ZL.zh1 s.heap d).push { cls := .type "enumerate", data := .fields #[.none, .bool false, .ref s.heap.objs.size, rawInt 0, .none, .none] }).get? b = some ob := fun b ob q => Heap.get?_push_of_some _ (Heap.get?_push_of_some _ q)
 rw [s1] at g2
 have gz := go _ g2 ⟨_, g1, rfl, rfl⟩ old
 rw [s1]
 exact ⟨⟨_, g2, rfl⟩, gz⟩
end
def Ite (K : PySem.W.Frag) (a : Addr) : It :=
 ⟨fun i H => ∃ xs x, SqL K H a xs ∧ xs[i]? = some x,
  fun i H v H' => ∃ (x : V) (T : Addr), v = .ref T ∧ H T = none ∧ H' = upd H T (.tup [.int i, x]) ∧ ∀ xs, SqL K H a xs → xs[i]? = some x,
  fun i H => ∃ xs, SqL K H a xs ∧ xs.length ≤ i⟩
theorem turn_enum {P : Program} {w : World} {K : PySem.W.Frag} {es : List Expr} {kt : Nat} {pt : Pos} {e c a : Addr} (ne : e ≠ c) :
 Turn P w K (.Tuple es kt pt) (Ite K a) [e, c] e (fun i h => (∃ old, IsEnum h e c i old) ∧ h.IsListIter c a i) where
 mem := by simp
 obj := fun i h st b hb => by
  obtain ⟨⟨old, h1⟩, ⟨o4, h4, _, d4⟩⟩ := st
  simp only [List.mem_cons, List.mem_nil_iff, or_false] at hb
  rcases hb with rfl | rfl
  · exact ⟨_, h1, fun v q => by cases q⟩
  · exact ⟨_, h4, fun v q => by rw [d4] at q; cases q⟩
 keep := fun i h h' st k => by
  obtain ⟨⟨old, h1⟩, h4⟩ := st
  exact ⟨⟨old, k _ (by simp) _ h1⟩, h4.at fun ob q => k _ (by simp) ob q⟩
 item := by
  intro X hP hw hK hc i pins s σ H E I hf st hg
  subst hP hw hK
  obtain ⟨⟨old, h1⟩, h4⟩ := st
  obtain ⟨xs, x, q1, hx⟩ := hg
  obtain ⟨t1, r1, p1, l1⟩ := I.list q1
  have p1 := p1.isList
  obtain ⟨x', hx', rx⟩ := r1.get hx
  have ae : a ≠ e := ZL.sqL_apart I q1 (hf e (by simp))
  have ac : a ≠ c := ZL.sqL_apart I q1 (hf c (by simp))
  refine enext (I.ok.hd hc) ne ae ac h1 h4 p1 (x := x') (by simpa using hx') fun g tk z1 i1 T1 sz kp => ?_
  refine ⟨_, rfl, wpAny_letOwnedTupleGo_enum z1 fun g' z2 k2 => ?_⟩
  have hfr : H s.heap.objs.size = none := I.hok.fresh (Nat.le_refl _)
  have lt : ∀ b ∈ [e, c], b < s.heap.objs.size := fun b hb => by
   simp only [List.mem_cons, List.mem_nil_iff, or_false] at hb
   rcases hb with rfl | rfl
   · exact Heap.lt_size h1
   · obtain ⟨_, h4, _⟩ := h4; exact Heap.lt_size h4
  have all : ∀ b ob, b ∉ [e, c] → s.heap.get? b = some ob → g'.get? b = some ob := fun b ob hb q => by
   simp only [List.mem_cons, List.mem_nil_iff, or_false, not_or] at hb
   exact k2.extBut _ _ hb.1 (kp b ob hb.1 hb.2 q)
  have zl : e < s.heap.objs.size := lt e (by simp)
  have i1' := i1.extBut k2.extBut (Ne.symm ne)
  have T' : IsPair g' s.heap.objs.size (.int i tk) x' := k2.extBut _ _ (Nat.ne_of_gt zl) T1
  have trk : ∀ b v, H b = some v → b ∉ [e, c] := fun b v q hb => by rw [(hf b hb).1] at q; cases q
  have I1 : Inv X pins σ (upd H s.heap.objs.size (.tup [.int i, x])) { s with heap := g', toks := tk + 1 } := by
   refine I.step (g' := s.gens) (d' := s.drawn) (t' := tk + 1) (ch := [e, c]) (fun b hb => ?_) (fun b ob _ _ hb q _ => all b ob hb q) (fun b ob _ _ hb q _ => ⟨ob.slots, all b ob hb q⟩) (fun b ob hb q n => ?_) (fun b ob hb q => ⟨ob, all b ob hb q⟩)
    (fun b v q => ?_) (fun b v v' q => ?_) (fun b v q => ⟨#[], ?_⟩) (fun m hm => ?_) (fun b v q => ?_) I.bare
   · obtain ⟨f0, f1, f2, f3, f4, f5⟩ := hf b hb
     exact ⟨f3, f1, f4, f5⟩
   · rw [upd_ne (Nat.ne_of_lt (Heap.lt_size q))]; exact n
   · rw [upd_ne (ne_of_none q hfr)]; exact q
   · rw [upd_ne (ne_of_none q hfr)]; exact q
   · rw [upd_ne (ne_of_none q hfr), q]; simp
   · obtain ⟨ob, es, ep, ho, r⟩ := hm
     exact ⟨ob, es, ep, all _ ob (fun hb => (hf _ hb).2.1 rfl) ho, r⟩
   · by_cases hcT : b = s.heap.objs.size
     · subst hcT
       rw [upd_same] at q; cases q
       exact ⟨by show 2 ≤ sizeLine; decide, [.int i tk, x'], .cons ⟨tk, rfl⟩ (.cons rx .nil), ⟨_, T', rfl, _, rfl⟩⟩
     · rw [upd_ne hcT] at q
       refine (I.hok b v q).stay (fun c' ob hc' q' => all c' ob ?_ q') (fun c' q' => by rw [upd_ne (ne_of_none q' hfr)]; exact q') fun c' vs q' => by rw [upd_ne (ne_of_none q' hfr)]; exact q'
       rcases hc' with z | z
       · rw [z]; exact trk b v q
       · exact trk c' _ z
  refine ⟨.ref s.heap.objs.size, _, I1, rfl, ⟨x, _, rfl, hfr, rfl, fun xs' e1 => ?_⟩, ⟨⟨_, z2⟩, i1'⟩, fun b hb => ?_⟩
  · rw [I.list_inj e1 q1]; exact hx
  · rw [upd_ne (Nat.ne_of_lt (lt b hb))]; exact (hf b hb).1
 done := by
  intro X hP hw hK hc i pins s σ H E I hf st hg
  subst hP hw hK
  obtain ⟨⟨old, h1⟩, h4⟩ := st
  obtain ⟨xs, q1, hend⟩ := hg
  obtain ⟨t1, r1, p1, l1⟩ := I.list q1
  have p1 := p1.isList
  have e1 := r1.length
  refine estop (I.ok.hd hc) h1 h4 p1 (by simp; omega) fun g kp => ⟨rfl, ?_⟩
  have all : ∀ b ob, b ∉ [e, c] → s.heap.get? b = some ob → g.get? b = some ob := fun b ob hb q => by
   simp only [List.mem_cons, List.mem_nil_iff, or_false, not_or] at hb
   exact kp b ob hb.2 q
  have trk : ∀ b v, H b = some v → b ∉ [e, c] := fun b v q hb => by rw [(hf b hb).1] at q; cases q
  refine I.step (g' := s.gens) (d' := s.drawn) (t' := s.toks) (ch := [e, c]) (fun b hb => ?_) (fun b ob _ _ hb q _ => all b ob hb q) (fun b ob _ _ hb q _ => ⟨ob.slots, all b ob hb q⟩) (fun b ob hb q n => n) (fun b ob hb q => ⟨ob, all b ob hb q⟩)
   (fun b v q => q) (fun b v v' q => q) (fun b v q => ⟨#[], by rw [q]; simp⟩) (fun m hm => ?_) (fun b v q => ?_) I.bare
  · obtain ⟨f0, f1, f2, f3, f4, f5⟩ := hf b hb
    exact ⟨f3, f1, f4, f5⟩
  · obtain ⟨ob, es, ep, ho, r⟩ := hm
    exact ⟨ob, es, ep, all _ ob (fun hb => (hf _ hb).2.1 rfl) ho, r⟩
  · refine (I.hok b v q).stay (fun c' ob hc' q' => all c' ob ?_ q') (fun c' q' => q') fun c' vs q' => q'
    rcases hc' with z | z
    · rw [z]; exact trk b v q
    · exact trk c' _ z
 self := fun _ _ _ _ _ st h => by obtain ⟨⟨old, h1⟩, _⟩ := st; exact wpAny_pyIter_enum h1 h
theorem boot_enum : bootBuiltins "enumerate" = some (.type "enumerate") := by decide +kernel
def iEnum (K : PySem.W.Frag) (ta : TA) : TI := fun σ H R => ta σ H fun vs H1 => ∃ a xs, vs = [.ref a] ∧ SqL K H1 a xs ∧ R (Ite K a) H1
theorem pi_enum {X : Cx} {es : List Expr} {kt : Nat} {pt : Pos} {a : Expr} {ta : TA} {p pos : Pos} (hg : Gl X "enumerate") (hm : X.mg "enumerate" = none) (ha : PA X [a] ta) (hs : starEach [a] X.env = [(false, eval a X.env)]) :
 PI X (.Tuple es kt pt) (.Call (.Name "enumerate" p) [a] [] pos) (iEnum X.K ta) := by
 intro pins s σ H R I h
 refine Call_ (ld_blt I hg hm boot_enum (PyProof.Rows.callWith_type1 (thn (ha pos pins s σ H _ I h) fun us s1 ⟨vs, H1, I1, r1, q1⟩ => ?_) (by rw [hs]; rfl) rfl))
 obtain ⟨a, xs, e, q1, q⟩ := q1
 subst e
 cases r1 with
 | cons r rr =>
  cases rr
  cases r
  obtain ⟨t1, rv1, p1, l1⟩ := I1.list q1
  have p1 := p1.isList
  refine emake p1 fun g h1 h2 old => ?_
  have I2 : Inv X pins σ H1 { s1 with heap := g } := I1.kept (t' := s1.toks) old
  refine wpAny_pyIter_enum h1 ?_
  refine ⟨s1.heap.objs.size + 1, [s1.heap.objs.size + 1, s1.heap.objs.size], _, _, H1, rfl, I2, turn_enum ?_, ⟨⟨_, h1⟩, h2⟩, fun c hc => ?_, q⟩
  · intro z; have z : (_ : Nat) = _ := z; omega
  · have hb : s1.heap.objs.size ≤ c := by
     simp only [List.mem_cons, List.mem_nil_iff, or_false] at hc
     rcases hc with rfl | rfl
     · exact Nat.le_add_right _ _
     · exact Nat.le_refl _
    exact I1.fpOk hb (I1.hok.fresh hb)
theorem k_enum {X : Cx} {K : PySem.W.Frag} (hK : X.K = K) {x : Str} {es : List Expr} {kt : Nat} {pt : Pos} {a : Expr} {ta : TA} {p pos : Pos} (hx : x = "enumerate") (hg : Gl X x) (hm : X.mg x = none) (hs : starEach [a] X.env = [(false, eval a X.env)]) (ha : JA X [a] ta) :
 JI X (.Tuple es kt pt) (.Call (.Name x p) [a] [] pos) (iEnum K ta) := hK ▸ ⟨by subst hx; exact pi_enum hg hm ha.h hs⟩
section
variable {K : PySem.W.Frag} {a : Addr} {xs : List V} {g : TG} {tb : TS} {D : Ends} {σ0 : L2.St} {H0 : Hp}
theorem for_enum (Pv : Nat → L2.St → Hp → Prop) (h0 : Pv 0 σ0 H0) (hl : ∀ i σ H, i ≤ xs.length → Pv i σ H → SqL K H a xs)
 (hs : ∀ i x σ H (T : Addr), xs[i]? = some x → Pv i σ H → H T = none → g (.ref T) σ (upd H T (.tup [.int i, x])) fun σ2 H2 => tb { D with nx := Pv (i + 1), ct := Pv (i + 1), bk := D.nx } σ2 H2)
 (hd : ∀ σ H, Pv xs.length σ H → D.nx σ H) :
 ∃ W : Nat → Nat → L2.St → Hp → Prop, (∃ m, W 0 m σ0 H0) ∧ ∀ i m σ H, W i m σ H →
  ((Ite K a).stop i H ∧ D.nx σ H) ∨ ((Ite K a).go i H ∧ ∃ N : L2.St → Hp → Prop, (∀ σ' H', N σ' H' → ∃ m', m' < m ∧ W (i + 1) m' σ' H') ∧ ∀ x H', (Ite K a).yld i H x H' → g x σ H' fun σ2 H2 => tb { D with nx := N, ct := N, bk := D.nx } σ2 H2) := by
 refine ⟨fun i m σ H => m = xs.length - i ∧ i ≤ xs.length ∧ Pv i σ H, ⟨xs.length, by simp, Nat.zero_le _, h0⟩, ?_⟩
 rintro i m σ H ⟨rfl, hi, p⟩
 have q := hl i σ H hi p
 by_cases hlt : i < xs.length
 · refine .inr ⟨⟨xs, xs[i], q, by simp [hlt]⟩, Pv (i + 1), fun σ' H' p' => ⟨xs.length - (i + 1), by omega, rfl, hlt, p'⟩, fun x H' y => ?_⟩
   obtain ⟨x, T, rfl, hT, rfl, hxz⟩ := y
   exact hs i x σ _ T (hxz xs q) p hT
 · have e : i = xs.length := by omega
   subst e
   exact .inl ⟨⟨xs, q, Nat.le_refl _⟩, hd σ H p⟩
end
end EL
end Br
namespace Br
open PySem PySem.Spec PySem.Calls PyProof.Rows L2
def rBitL : V → List V → Hp → VK → Prop := fun x xs H Q => ∃ i : Int, x = .int i ∧ xs = [] ∧ Q (.int ((Builtin.Int.intBits i : Nat) : Int)) H
section
variable {X : Cx} {K : PySem.W.Frag} {o e : Expr} {to : TE} {t : TA} {apos cpos : Pos}
theorem mt_bitl : MtR X "int.bit_length" rBitL := by
 intro pins s σ H x xs v us Q I rx r h
 obtain ⟨i, rfl, rfl, q⟩ := h
 obtain ⟨tk, rfl⟩ := rx
 cases r
 exact call_gives PySem.F.slot_int_bit_length (typeIs_int _ i tk) PySem.F.entry_int_bit_length (PySem.F.args_int_bit_length_1 _) (PySem.AutoIntG2.int_bit_length_int_0 i tk) ⟨.int _, H, I.tok _, ⟨_, rfl⟩, q⟩
theorem k_bitl (hK : X.K = K) (hbase : attributeBase o "bit_length" X.env (eval o X.env) = eval o X.env) (hline : (apos.endLine == cpos.line) = true) (ho : JE X o to) : JE X (.Call (.Attribute o "bit_length" apos) [] [] cpos) (tBM0 K "int" rBitL to) :=
 hK ▸ ⟨pe_bm0 PySem.F.plainAttrs_int PySem.F.slot_int_bit_length PySem.F.type_int_bit_length mt_bitl ho.h hbase hline⟩
end
def rCountI (K : PySem.W.Frag) : V → List V → Hp → VK → Prop := fun x xs H Q => ∃ (l : Addr) (ns : List Int) (k : Int), x = .ref l ∧ xs = [.int k] ∧ SqL K H l (ns.map V.int) ∧ Q (.int ((ns.count k : Nat) : Int)) H
def rCountB (K : PySem.W.Frag) : V → List V → Hp → VK → Prop := fun x xs H Q => ∃ (l : Addr) (bs : List Bool) (k : Bool), x = .ref l ∧ xs = [.bl k] ∧ SqL K H l (bs.map V.bl) ∧ Q (.int ((bs.count k : Nat) : Int)) H
theorem count_bl (k : Bool) : ∀ {bs : List Bool} {its : List Value}, Vals (bs.map V.bl) its → its.countP (isBoolOf k) = bs.count k
 | [], _, r => by cases r; rfl
 | b :: bs, _, r => by
  cases r with
  | cons r rr =>
   obtain rfl : _ = Value.bool b := r
   rw [List.countP_cons, List.count_cons, count_bl k rr]
   rfl
section
variable {X : Cx} {K : PySem.W.Frag} {o e : Expr} {to : TE} {t : TA} {apos cpos : Pos}
theorem mt_countI : MtR X "list.count" (rCountI X.K) := by
 intro pins s σ H x vs v us Q I rx rv h
 obtain ⟨l, ns, k, rfl, rfl, hq, q⟩ := h
 cases rx
 obtain ⟨u, rfl, ru⟩ := rv.one
 obtain ⟨tk, rfl⟩ := ru
 obtain ⟨its, r', pl, hz⟩ := I.list hq
 exact count_list_ints pl.isList (intsAre_of r') ⟨.int _, H, I.tok _, ⟨_, rfl⟩, q⟩
theorem mt_countB : MtR X "list.count" (rCountB X.K) := by
 intro pins s σ H x vs v us Q I rx rv h
 obtain ⟨l, bs, k, rfl, rfl, hq, q⟩ := h
 cases rx
 obtain ⟨u, rfl, ru⟩ := rv.one
 obtain rfl : u = Value.bool k := ru
 obtain ⟨its, r', pl, hz⟩ := I.list hq
 obtain ⟨⟨cls, dd, data, sl⟩, ho, hc, n, hd⟩ := id pl.isList
 simp only at hc hd
 subst hc hd
 refine call_meets PySem.F.slot_list_count ⟨_, ho, rfl⟩ PySem.F.entry_list_count (PySem.F.args_list_count_2 _ _) (PySem.SeqAt.list_countAt l its.toArray n dd sl (.bool k) (isBoolOf k)) ⟨ho, fun y hy => ?_, ?_⟩
 · have hy' : y ∈ its := by simpa using hy
   obtain ⟨i, hi, rfl⟩ := List.getElem_of_mem hy'
   obtain ⟨b, hb, e⟩ := vals_bl r' (List.getElem?_eq_getElem hi)
   rw [e]
   exact PySem.SeqAt.EqAt.bool_bool b k
 · rw [show its.toArray.toList = its from rfl, count_bl k r']
   exact ⟨.int _, H, I.tok _, ⟨_, rfl⟩, q⟩
theorem k_count (hK : X.K = K) (hbase : attributeBase o "count" X.env (eval o X.env) = eval o X.env) (hfew : ((backTo cpos (starEach [e] X.env)).all (fun x => !x.1) && (backToKw cpos (keywordEach [] X.env)).all (fun x => x.1.isSome)
 && decide (([e] : List Expr).length + ([] : List Keyword).length + (if ([] : List Keyword).isEmpty then 0 else 1) < 30)) = true) (hline : (apos.endLine == cpos.line) = true) (hs : starEach [e] X.env = (false, eval e X.env) :: starEach [] X.env)
 (hpl : (backTo cpos (starEach [] X.env)).any (·.1) = false) (ho : JE X o to) (ha : JA X [e] t) : JE X (.Call (.Attribute o "count" apos) [e] [] cpos) (tBM K "list" (fun x xs H Q => rCountI K x xs H Q ∨ rCountB K x xs H Q) to t) :=
 hK ▸ ⟨pe_bm PySem.F.plainAttrs_list PySem.F.slot_list_count PySem.F.type_list_count (mt_countI.or mt_countB) ho.h ha.h hbase hfew hline hs hpl⟩
end
section
variable {X : Cx} {K : PySem.W.Frag} {e : Expr} {es : List Expr} {t : TA} {pos p : Pos} {x : Str}
def rLenD : List V → Hp → VK → Prop := fun xs H Q => ∃ (a : Addr) (kvs : List (Key × V)), xs = [.ref a] ∧ H a = some (.dK kvs) ∧ Q (.int kvs.length) H
theorem call_lenD : CallR X (.builtin "len") rLenD := by
 intro pins s σ H xs us Q I r h
 obtain ⟨a, kvs, rfl, e, q⟩ := h
 obtain ⟨u, rfl, rx⟩ := vals1 r
 cases rx
 obtain ⟨z, hd, vs, rel, dd⟩ := dk_of I.hok e
 have hl := rel.length
 have hn := line63
 refine call_len_dict hd dd (by omega) ⟨.int kvs.length, H, (I.tok _), ⟨_, by rw [hl]⟩, q⟩
theorem k_lenD (hK : X.K = K) (hg : Gl X x) (he : starEach (e :: es) X.env = (false, eval e X.env) :: starEach es X.env) (hpl : (backTo pos (starEach es X.env)).any (·.1) = false) (hx : x = "len") (hm : X.mg x = none) (ha : JA X (e :: es) t) :
 JE X (.Call (.Name x p) (e :: es) [] pos) (tCB (fun xs H Q => rLen K xs H Q ∨ rLenD xs H Q) t) := hK ▸ ⟨by subst hx; exact pe_callB (call_lenA.or call_lenD) hg hm boot_len ha.h (by decide) (by decide) he hpl⟩
end
section
variable {X : Cx}
theorem sorted_gen2 {α : Type} {p : Addr} {f : α → V} {g : α → Value} {pins : List (Addr × Obj)} {s : Shared} {σ : L2.St} {Q : VK} (F : Shared → Hp → List α → Prop) (lt : Hp → Keyed → Keyed → Bool) (O : ∀ H, Tim.Ord (lt H))
 (col : ∀ (R : List Value → Shared → Prop) (E : Value → Shared → Prop), (∀ (s1 : Shared) (H1 : Hp) (zs : List α), Inv X pins σ H1 s1 → F s1 H1 zs → R (zs.map g) s1) → wpAny (model X.prog X.w) X.A.in1 (collect (.ref p)) R E s)
 (each : ∀ s1 H1 zs, F s1 H1 zs → (∀ z ∈ zs, RelV (f z) (g z)) ∧ zs.length ≤ sizeLine)
 (hk : ∀ s1 H1 zs, Inv X pins σ H1 s1 → F s1 H1 zs → 2 ≤ zs.length → ∀ h6 : Heap, (∀ b o, H1 b ≠ none → s1.heap.get? b = some o → h6.get? b = some o) →
  ∃ κ, (∀ Q : SortKind → Shared → Prop, ∀ E, Q κ { s1 with heap := h6 } → wpAny (model X.prog X.w) X.A.in1.in1 (keyKind' (zs.map g).toArray) Q E { s1 with heap := h6 }) ∧ PureLt X.prog X.w X.A.in1.in1 { s1 with heap := h6 } κ (pairsOf (zs.map g)) (lt H1))
 (q : ∀ s1 H1 zs, F s1 H1 zs → ∀ (l : Addr) (ys : List α) (H' : Hp), H1 l = none → L2.Same H1 H' → H' l = some (.lst (ys.map f)) → ys.Perm zs → (ys.map fun z => ((g z, g z) : Keyed)).Pairwise (Tim.Le (lt H1)) → Q (.ref l) H') :
 wpAny (model X.prog X.w) X.A (call (.builtin "sorted") [.ref p]) (EP X pins σ Q) X.xe s := by
 have hsz : (sizeLine : Nat) = 16777216 := sizeLine_eq
 refine Calls.call_function_entry kind_sorted plain_sorted entry_sorted (args_sorted1 _) ?_
 unfold Builtin.«sorted»
 refine wpAny_bind (m := checkCount "sorted" 1 1 _) (wpAny_pure ?_)
 refine wpAny_bind (col _ _ fun s1 H zs I1 hF => ?_)
 obtain ⟨each, hzz⟩ := each s1 H zs hF
 have hk := hk s1 H zs I1 hF
 have q := q s1 H zs hF
 clear hF
 obtain ⟨h', gs, dr, tk, os⟩ := s1
 refine wpAny_bind (wpAny_newList ?_ (by rw [List.length_map]; omega))
 have hoL : (h'.push (seqObj "list" (zs.map g).toArray 0)).get? h'.objs.size = some (seqObj "list" (zs.map g).toArray 0) := Heap.get?_push_size _ rfl
 have hfr : H h'.objs.size = none := I1.hok.fresh (Nat.le_refl _)
 refine wpAny_bind (wpAny_holding (wpAny_call_entry slot_list_sort ⟨_, hoL, rfl⟩ entry_list_sort (sort_any (R := fun out => ∃ ys : List α, out = (ys.map g).toArray ∧ ys.Perm zs ∧ (ys.map fun z => ((g z, g z) : Keyed)).Pairwise (Tim.Le (lt H))) hoL (by rw [List.length_map]; omega) (fun h1 => ⟨zs, rfl, List.Perm.refl _, ?_⟩) (fun h2 h6 old => ?_) fun out ho ⟨ys, hR, hp, hs⟩ => ⟨_, rfl, ?_⟩) (args_list_sort _)))
 · rw [List.length_map] at h1
   match zs, h1 with
   | [], _ => exact List.Pairwise.nil
   | [_], _ => exact List.pairwise_singleton _ _
   | _ :: _ :: _, h => simp at h; omega
 · rw [List.length_map] at h2
   obtain ⟨κ, k1, k2⟩ := hk h2 h6 fun b o hb e => old b o (fun z => hb (by rw [z]; exact hfr)) (Heap.get?_push_of_some _ e)
   refine k1 _ _ ⟨rfl, ?_⟩
   refine Tim.sortRuns_ok (O H) k2 fun v e1 e2 e3 => ⟨e1, ?_, ?_⟩
   · have := e2.length_eq
     rw [Array.length_toList, pairsOf_toList, List.length_zip] at this
     omega
   · have e := pairs_map g zs
     rw [e] at e2
     obtain ⟨ys, h3, h4⟩ := perm_lift (fun z => ((g z, g z) : Keyed)) e2 rfl
     refine ⟨ys, ?_, h3, by rw [h4]; exact e3⟩
     apply Array.toList_inj.mp
     rw [Array.toList_map, ← h4, List.map_map]; simp
 · refine wpAny_pure ⟨_, rfl, ?_⟩
   subst hR
   obtain ⟨n', e'⟩ : ∃ n', (sortedHeap (h'.push (seqObj "list" (zs.map g).toArray 0)) h'.objs.size (zs.map g) (ys.map g).toArray).get? h'.objs.size = some (seqObj "list" (ys.map g).toArray n') := sortedHeap_at hoL
   have keep : ∀ b o, h'.get? b = some o → (sortedHeap (h'.push (seqObj "list" (zs.map g).toArray 0)) h'.objs.size (zs.map g) (ys.map g).toArray).get? b = some o := fun b o e => by
    have hb := Heap.lt_size e
    rw [sortedHeap_old (Nat.ne_of_lt hb) (by rw [Heap.size_push]; exact Nat.lt_succ_of_lt hb)]
    exact Heap.get?_push_of_some _ e
   have vals : ∀ {l : List α}, (∀ z ∈ l, RelV (f z) (g z)) → Vals (l.map f) (l.map g) := fun {l} => by
    induction l with
    | nil => exact fun _ => .nil
    | cons a l ih => exact fun h => .cons (h a (.head _)) (ih fun z hz => h z (.tail _ hz))
   have I2 : Inv X pins σ (upd H h'.objs.size (.lst (ys.map f))) ⟨sortedHeap (h'.push (seqObj "list" (zs.map g).toArray 0)) h'.objs.size (zs.map g) (ys.map g).toArray, gs, dr, tk, os⟩ :=
    I1.laid (t' := tk) keep (Nat.le_refl _) (show ObjOk X.prog X.w _ _ _ (.lst (ys.map f)) from ⟨by rw [List.length_map, hp.length_eq]; exact hzz, ys.map g, n', vals fun z hz => each z (hp.mem_iff.mp hz), e'⟩)
   exact ⟨.ref h'.objs.size, _, I2, rfl, q _ ys _ hfr (Br.Same.upd hfr) upd_same hp hs⟩
open Classical in
theorem lay_pairs {pins : List (Addr × Obj)} {σ : L2.St} {H : Hp} {s : Shared} {h' : Heap} {tk : Nat} {as : List Addr} {qs : List (Int × Int)} (I : Inv X pins σ H s) (keep : ∀ b o, s.heap.get? b = some o → h'.get? b = some o) (rise : as.Pairwise (· < ·))
 (above : ∀ a ∈ as, s.heap.objs.size ≤ a) (pairs : ∀ (j : Nat) (a : Addr), as[j]? = some a → ∃ (q : Int × Int) (t u : Tok), qs[j]? = some q ∧ h'.get? a = some { cls := .type "tuple", data := .seq #[.int q.1 t, .int q.2 u] }) :
 ∃ H1, Inv X pins σ H1 { s with heap := h', toks := tk } ∧ L2.Same H H1 ∧ ∀ (j : Nat) (a : Addr), as[j]? = some a → ∃ q : Int × Int, qs[j]? = some q ∧ H1 a = some (.tup [.int q.1, .int q.2]) := by
 have ndp : ∀ {i j : Nat} {a : Addr}, as[i]? = some a → as[j]? = some a → i = j := fun {i j a} h1 h2 => by
  obtain ⟨l1, e1⟩ := List.getElem?_eq_some_iff.mp h1
  obtain ⟨l2, e2⟩ := List.getElem?_eq_some_iff.mp h2
  rcases Nat.lt_trichotomy i j with z | z | z
  · have := List.pairwise_iff_getElem.mp rise i j l1 l2 z; rw [e1, e2] at this; exact absurd this (Nat.lt_irrefl _)
  · exact z
  · have := List.pairwise_iff_getElem.mp rise j i l2 l1 z; rw [e1, e2] at this; exact absurd this (Nat.lt_irrefl _)
 let H1 : Hp := fun b => if h : ∃ q : Int × Int, ∃ j : Nat, as[j]? = some b ∧ qs[j]? = some q then some (.tup [.int h.choose.1, .int h.choose.2]) else H b
 have at1 : ∀ {j : Nat} {a : Addr} {q : Int × Int}, as[j]? = some a → qs[j]? = some q → H1 a = some (.tup [.int q.1, .int q.2]) := fun {j a q} h1 h2 => by
  have h : ∃ q : Int × Int, ∃ j : Nat, as[j]? = some a ∧ qs[j]? = some q := ⟨q, j, h1, h2⟩
  show (if h : ∃ q : Int × Int, ∃ j : Nat, as[j]? = some a ∧ qs[j]? = some q then some (.tup [.int h.choose.1, .int h.choose.2]) else H a) = _
  rw [dif_pos h]
  obtain ⟨i, h3, h4⟩ := h.choose_spec
  have e := ndp h1 h3
  subst e
  rw [h2] at h4
  cases h4
  rfl
 have off : ∀ {b : Addr}, b < s.heap.objs.size → H1 b = H b := fun {b} hb => by
  show (if h : ∃ q : Int × Int, ∃ j : Nat, as[j]? = some b ∧ qs[j]? = some q then some (.tup [.int h.choose.1, .int h.choose.2]) else H b) = _
  rw [dif_neg]
  rintro ⟨q, j, h1, _⟩
  exact absurd hb (Nat.not_lt.mpr (above b (List.mem_of_getElem? h1)))
 have old : ∀ {b : Addr} {v : HO}, H b = some v → b < s.heap.objs.size := fun {b v} e => by
  by_cases hb : b < s.heap.objs.size
  · exact hb
  · rw [I.hok.fresh (Nat.le_of_not_lt hb)] at e; cases e
 refine ⟨H1, ?_, fun b v e => (off (old e)).trans e, fun j a h => ?_⟩
 · refine I.step (g' := s.gens) (d' := s.drawn) (t' := tk) (ch := []) (fun b hb => nomatch hb) (fun b ob _ _ _ q _ => keep b ob q) (fun b ob _ _ _ q _ => ⟨ob.slots, keep b ob q⟩) (fun b ob _ q n => (off (Heap.lt_size q)).trans n) (fun b ob _ q => ⟨ob, keep b ob q⟩)
    (fun b v q => (off (old q)).trans q) (fun b v v' q => (off (old q)).trans q) (fun b v q => ⟨#[], by rw [off (old q), q]; simp⟩) (fun m hm => ?_) (fun b v q => ?_) I.bare
   · obtain ⟨ob, es, ep, ho, r⟩ := hm
     exact ⟨ob, es, ep, keep _ ob ho, r⟩
   · by_cases hb : b < s.heap.objs.size
     · rw [off hb] at q
       exact (I.hok b v q).stay (fun c' ob hc' q' => keep c' ob q') (fun c' q' => (off (old q')).trans q') fun c' vs q' => (off (old q')).trans q'
     · have q' : (if h : ∃ q : Int × Int, ∃ j : Nat, as[j]? = some b ∧ qs[j]? = some q then some (HO.tup [.int h.choose.1, .int h.choose.2]) else H b) = some v := q
       by_cases hx : ∃ q : Int × Int, ∃ j : Nat, as[j]? = some b ∧ qs[j]? = some q
       · obtain ⟨p, j, h1, h2⟩ := hx
         rw [at1 h1 h2] at q
         cases q
         obtain ⟨p', t, u, h3, h4⟩ := pairs j b h1
         rw [h2] at h3
         cases h3
         exact ⟨by show 2 ≤ sizeLine; decide, [.int p.1 t, .int p.2 u], .cons ⟨t, rfl⟩ (.cons ⟨u, rfl⟩ .nil), ⟨_, h4, rfl, _, rfl⟩⟩
       · rw [dif_neg hx] at q'
         exact absurd (old q') hb
 · obtain ⟨q, _, _, h2, _⟩ := pairs j a h
   exact ⟨q, h2, at1 h h2⟩
def vv2 (ks : List (Int × Int)) : List (Key × V) := ks.map fun q => (.inl q.1, .int q.2)
def tSortIt (td : TE) : TE := fun σ H Q => td σ H fun x H1 => ∃ (a : Addr) (ks : List (Int × Int)), x = .ref a ∧ H1 a = some (.dK (vv2 ks)) ∧
 ∀ (l : Addr) (bs : List Addr) (qs : List (Int × Int)) (H2 : Hp), H1 l = none → L2.Same H1 H2 → H2 l = some (.lst (bs.map V.ref)) → bs.length = qs.length → (∀ (i : Nat) b, bs[i]? = some b → ∃ q : Int × Int, qs[i]? = some q ∧ H2 b = some (.tup [.int q.1, .int q.2])) →
  qs.Perm ks → qs.Pairwise (fun u v => HT.lexLt [v.1, v.2] [u.1, u.2] = false) → Q (.ref l) H2
variable {o : Expr} {td : TE} {apos cpos pos p : Pos} {x : Str}
theorem kv_pairs {P : Program} {w : World} {ks : List (Int × Int)} {vs : List (Key × Value)} (r : KV (vv2 ks) vs) {j : Nat} {k : Key} {v key : Value} (e : vs[j]? = some (k, v)) (hk : (mixKind P w).is k key = true) : ∃ (q : Int × Int) (t u : Tok), ks[j]? = some q ∧ key = .int q.1 t ∧ v = .int q.2 u := by
 have hl := r.length
 have hj : j < (vv2 ks).length := by rw [hl]; exact (List.getElem?_eq_some_iff.mp e).1
 have hj' : j < ks.length := by unfold vv2 at hj; rw [List.length_map] at hj; exact hj
 have hkv : (vv2 ks)[j]? = some (.inl ks[j].1, .int ks[j].2) := by unfold vv2; rw [List.getElem?_map, List.getElem?_eq_getElem hj']; rfl
 obtain ⟨v', h1, h2⟩ := kvGet r hkv
 rw [e] at h1
 cases h1
 obtain ⟨u, rfl⟩ := h2
 obtain ⟨t, rfl⟩ := is_rel hk
 exact ⟨ks[j], t, u, List.getElem?_eq_getElem hj', rfl, rfl⟩
theorem pe_sortIt (ho : PE X o td) (m : M0 X o "items" apos cpos) (hg : Gl X "sorted") (hm : X.mg "sorted" = none) (hc : X.calm = true)
 (he : starEach [.Call (.Attribute o "items" apos) [] [] cpos] X.env = (false, eval (.Call (.Attribute o "items" apos) [] [] cpos) X.env) :: starEach [] X.env) (hpl : (backTo pos (starEach [] X.env)).any (·.1) = false) :
 PE X (.Call (.Name "sorted" p) [.Call (.Attribute o "items" apos) [] [] cpos] [] pos) (tSortIt td) := by
 intro pins s σ H Q I h
 refine wpAny_Call_Name_kw (ld_blt I hg hm boot_sorted ?_ (by decide) (by decide))
 refine PyProof.Rows.callWith_builtin1 ?_ he hpl
 rw [he]
 show wpAny _ _ (spliced ((false, eval (.Call (.Attribute o "items" apos) [] [] cpos) X.env) :: backTo pos (starEach [] X.env))) _ _ s
 refine Calls.spliced_cons ?_
 refine wpAny_Call_method m.base m.few m.line PySem.F.plainAttrs_dict PySem.F.slot_dict_items PySem.F.type_dict_items (thn (ho pins s σ H _ I h) fun u s1 ⟨x, H1, I1, rx, a, ks, ex, e, q1⟩ => ?_)
 subst ex
 obtain rfl : u = Value.ref a := rx
 obtain ⟨t1, t2, t3⟩ := isD_at I1 (.inl ⟨_, .inl e⟩)
 refine ⟨t1, t2, ?_⟩
 rw [m.trees]
 obtain ⟨z, hd, vs, rel, dd⟩ := dk_of I1.hok e
 refine Calls.callWith_builtin rfl (PySem.evalArgs_none ?_)
 refine call_meetsIn PySem.F.slot_dict_items t1 PySem.F.entry_dict_items (PySem.F.args_dict_items_1 _) (meets_dict_items (mixKind X.prog X.w) a t3) ⟨⟨vs, dd⟩, ?_⟩
 obtain ⟨ob, ds, ep, g, ex, dt, rest⟩ := dd
 have gp : ∀ b o', s1.heap.get? b = some o' → ∀ n, (s1.heap.push n).get? b = some o' := fun b o' q n => Heap.get?_push_of_some _ q
 have I2 := I1.kept (t' := s1.toks) (h' := s1.heap.push { cls := .type "dict_items", data := .fields #[.ref a] }) fun b o' q => gp _ _ q _
 have hv : (s1.heap.push { cls := .type "dict_items", data := .fields #[.ref a] }).IsItemsView s1.heap.objs.size a := ⟨_, Heap.get?_push_size _ rfl, rfl, rfl⟩
 have hm2 : (s1.heap.push { cls := .type "dict_items", data := .fields #[.ref a] }).DictAt (mixKind X.prog X.w) a vs ep := ⟨ob, ds, gp _ _ g _, ex, dt, rest⟩
 refine Calls.spliced_nil ?_
 have hvl : vs.length ≤ sizeLine := by rw [← rel.length]; exact z
 refine sorted_gen2 (α := Addr × (Int × Int)) (f := fun z => .ref z.1) (g := fun z => .ref z.1) (fun _ H' zs => L2.Same H1 H' ∧ (∀ z ∈ zs, H' z.1 = some (.tup ([z.2.1, z.2.2].map V.int))) ∧ zs.map (·.2) = ks ∧ zs.length ≤ sizeLine)
  (fun H' x y => HT.lexLt (tkey H' x.1) (tkey H' y.1)) (fun H' => ord_lex fun x => tkey H' x.1) (fun R E hR => ?_) (fun s3 H3 zs hF => ⟨fun z _ => rfl, hF.2.2.2⟩) (fun s3 H3 zs I3 hF h2 h6 old => ?_) (fun s3 H3 zs hF l ys H' n1 q3 e1 hp hs => ?_)
 · refine PySem.W.kdx_collect (A := X.A.in1) (I.ok.hd hc) hv hm2 hvl fun h' tk as keep len G => ?_
   have hkl : as.length = ks.length := by rw [len, ← rel.length]; unfold vv2; rw [List.length_map]
   obtain ⟨H3, I3, s3, at3⟩ := lay_pairs (tk := tk) (qs := ks) I2 keep G.rise (fun a ha => Nat.le_of_lt (G.above a ha)) fun j a hj => by
    obtain ⟨key, k, x, h1, h2, h3⟩ := G.pairs j a hj
    obtain ⟨q, t, u, e1, rfl, rfl⟩ := kv_pairs rel h1 h2
    exact ⟨q, t, u, e1, h3⟩
   have := hR _ H3 (as.zip ks) I3 ⟨s3, fun z hz => ?_, List.map_snd_zip (by omega), by rw [List.length_zip, hkl, Nat.min_self]; rw [← hkl, len]; exact hvl⟩
   · have e : (as.zip ks).map (fun z => Value.ref z.1) = as.map Value.ref := by
      have : (as.zip ks).map (·.1) = as := List.map_fst_zip (by omega)
      calc (as.zip ks).map (fun z => Value.ref z.1) = ((as.zip ks).map (·.1)).map Value.ref := by rw [List.map_map]; rfl
       _ = _ := by rw [this]
     rw [e] at this
     exact this
   · obtain ⟨i, hi, e⟩ := List.getElem_of_mem hz
     have e' : (as.zip ks)[i]? = some z := by rw [List.getElem?_eq_getElem hi, e]
     rw [List.getElem?_zip_eq_some] at e'
     obtain ⟨q, h1, h2⟩ := at3 i z.1 e'.1
     rw [e'.2] at h1; cases h1
     exact h2
 · obtain ⟨_, each, _, _⟩ := hF
   have tup : ∀ z ∈ zs, ∃ its : List Value, IntsAre its [z.2.1, z.2.2] ∧ IsTup h6 z.1 its.toArray := fun z hz => by
    obtain ⟨its, rt, ⟨o, ho, hc, n, hd⟩, _⟩ := I3.tuple (SqT.of (each z hz))
    exact ⟨its, vals_ints rt, o, old z.1 o (by rw [each z hz]; exact fun z => nomatch z) ho, hc, n, hd⟩
   have kt : ∀ l : List (Addr × (Int × Int)), (∀ z ∈ l, z ∈ zs) → ∃ fs : List Value, PySem.W.KatTups h6 (l.map fun z => Value.ref z.1) fs ∧ fs.length = l.length ∧ ∀ v ∈ fs, ∃ n t, v = Value.int n t := fun l => by
    induction l with
    | nil => exact fun _ => ⟨[], trivial, rfl, fun v hv => nomatch hv⟩
    | cons a l ih =>
     intro hl
     obtain ⟨fs, f1, f2, f3⟩ := ih fun b hb => hl b (.tail _ hb)
     obtain ⟨its, hi, o, ho, hc, n, hd⟩ := tup a (hl a (.head _))
     obtain ⟨aa, aw⟩ := a
     cases hi with
     | cons n0 t0 r0 => exact ⟨.int aw.1 t0 :: fs, PySem.W.KatTups.cons ho hc hd (by simp) f1, by rw [List.length_cons, List.length_cons, f2], fun v hv => by
      rcases List.mem_cons.mp hv with z | z
      · exact ⟨_, _, z⟩
      · exact f3 v z⟩
   obtain ⟨fs, f1, f2, f3⟩ := kt zs fun _ h => h
   refine ⟨tuples' true, fun Q E hQ => PySem.W.kat_kind (T := .type "int") f1 (by omega) (fun v hv => by obtain ⟨n, t, rfl⟩ := f3 v hv; exact .now) (by decide) hQ, fun x y hx hy Q E hQ => ?_⟩
   rw [pairs_map] at hx hy
   obtain ⟨z1, m1, e1⟩ := List.mem_map.mp hx
   obtain ⟨z2, m2, e2⟩ := List.mem_map.mp hy
   obtain ⟨it1, i1, o1, ho1, _, n1, hd1⟩ := tup z1 m1
   obtain ⟨it2, i2, o2, ho2, _, n2, hd2⟩ := tup z2 m2
   rw [← e1, ← e2] at hQ ⊢
   have hQ : Q (HT.lexLt (tkey H3 (.ref z1.1)) (tkey H3 (.ref z2.1))) _ := hQ
   rw [tkey_of (each z1 m1), tkey_of (each z2 m2)] at hQ
   refine PySem.W.kat_lt ho1 hd1 ho2 hd2 (katLex_ints rfl ?_ ?_ ?_ hQ)
   · simpa using i1
   · simpa using i2
   · have y1 := i1.length
     have y2 := i2.length
     simp only [List.length_cons, List.length_nil] at y1 y2
     simp; omega
 · obtain ⟨s13, each, hks, _⟩ := hF
   have nl : H1 l = none := by
    cases hq : H1 l with
    | none => rfl
    | some v => have := s13 _ _ hq; rw [n1] at this; cases this
   refine q1 l (ys.map (·.1)) (ys.map (·.2)) H' nl (s13.trans q3) ?_ (by rw [List.length_map, List.length_map]) (fun i b hb => ?_) (by rw [← hks]; exact hp.map _) ?_
   · rw [e1, List.map_map]; rfl
   · rw [List.getElem?_map] at hb
     obtain ⟨z, hz, rfl⟩ := Option.map_eq_some_iff.mp hb
     exact ⟨z.2, by rw [List.getElem?_map, hz]; rfl, q3 _ _ (each z (hp.mem_iff.mp (List.mem_of_getElem? hz)))⟩
   · rw [List.pairwise_map] at hs ⊢
     refine List.Pairwise.imp_of_mem (fun {a b} ha hb h => ?_) hs
     have h : HT.lexLt (tkey H3 (.ref b.1)) (tkey H3 (.ref a.1)) = false := h
     rw [tkey_of (each b (hp.mem_iff.mp hb)), tkey_of (each a (hp.mem_iff.mp ha))] at h
     exact h
theorem k_sortIt (h1 : attributeBase o "items" X.env (eval o X.env) = eval o X.env)
 (h2 : ((backTo cpos (starEach [] X.env)).all (fun x => !x.1) && (backToKw cpos (keywordEach [] X.env)).all (fun x => x.1.isSome)
  && decide (([] : List Expr).length + ([] : List Keyword).length + (if ([] : List Keyword).isEmpty then 0 else 1) < 30)) = true) (h3 : (apos.endLine == cpos.line) = true) (h4 : backTo cpos (starEach [] X.env) = [])
 (hg : Gl X "sorted") (hm : X.mg "sorted" = none) (hc : X.calm = true)
 (he : starEach [.Call (.Attribute o "items" apos) [] [] cpos] X.env = (false, eval (.Call (.Attribute o "items" apos) [] [] cpos) X.env) :: starEach [] X.env) (hpl : (backTo pos (starEach [] X.env)).any (·.1) = false) (ho : JE X o td) :
 JE X (.Call (.Name "sorted" p) [.Call (.Attribute o "items" apos) [] [] cpos] [] pos) (tSortIt td) := ⟨pe_sortIt ho.h ⟨h1, h2, h3, h4⟩ hg hm hc he hpl⟩
end
def dlook : List (Int × Int) → Int → Option Int
 | [], _ => none
 | q :: ks, n => if q.1 = n then some q.2 else dlook ks n
theorem dlook_cons (q : Int × Int) (ks : List (Int × Int)) (n : Int) : dlook (q :: ks) n = if q.1 = n then some q.2 else dlook ks n := rfl
theorem val_vv2 : ∀ (ks : List (Int × Int)) (n : Int), valV (vv2 ks) (.inl n) = (dlook ks n).map V.int
 | [], _ => rfl
 | q :: ks, n => by
  by_cases e : q.1 = n
  · rw [show vv2 (q :: ks) = ((Sum.inl q.1 : Key), V.int q.2) :: vv2 ks from rfl, valV_pos (by show (Sum.inl q.1 : Key) = _; rw [e])]
    rw [dlook_cons, if_pos e]; rfl
  · rw [show vv2 (q :: ks) = ((Sum.inl q.1 : Key), V.int q.2) :: vv2 ks from rfl, valV_neg (fun z => e (by injection z)), val_vv2 ks n]
    rw [dlook_cons, if_neg e]
theorem dlook_none : ∀ {ks : List (Int × Int)} {n : Int}, n ∉ ks.map (·.1) → dlook ks n = none
 | [], _, _ => rfl
 | q :: ks, n, h => by
  rw [dlook_cons, if_neg (fun e => h (by rw [← e]; exact .head _)), dlook_none fun z => h (.tail _ z)]
theorem dlook_some : ∀ {ks : List (Int × Int)} {n c : Int}, dlook ks n = some c → (n, c) ∈ ks
 | q :: ks, n, c, h => by
  rw [dlook_cons] at h
  by_cases e : q.1 = n
  · rw [if_pos e] at h; cases h; rw [← e]; exact .head _
  · rw [if_neg e] at h; exact .tail _ (dlook_some h)
theorem dlook_mem {ks : List (Int × Int)} (nd : (ks.map (·.1)).Nodup) (q : Int × Int) : q ∈ ks ↔ dlook ks q.1 = some q.2 := by
 refine ⟨fun h => ?_, fun h => dlook_some h⟩
 induction ks with
 | nil => cases h
 | cons r ks ih =>
  rw [List.map_cons, List.nodup_cons] at nd
  rw [dlook_cons]
  rcases List.mem_cons.mp h with z | z
  · rw [z, if_pos rfl]
  · rw [if_neg (fun e => nd.1 (by rw [e]; exact List.mem_map.mpr ⟨q, z, rfl⟩))]
    exact ih nd.2 z
def dput (ks : List (Int × Int)) (n m : Int) : List (Int × Int) := if n ∈ ks.map (·.1) then ks.map (fun q => if q.1 = n then (q.1, m) else q) else ks ++ [(n, m)]
theorem vv2_keys (ks : List (Int × Int)) (n : Int) : ((vv2 ks).any fun p => decide (p.1 = (Sum.inl n : Key))) = decide (n ∈ ks.map (·.1)) := by
 induction ks with
 | nil => rfl
 | cons q ks ih =>
  show (decide ((Sum.inl q.1 : Key) = Sum.inl n) || (vv2 ks).any fun p => decide (p.1 = (Sum.inl n : Key))) = _
  rw [ih]
  by_cases e : q.1 = n
  · rw [decide_eq_true (show (Sum.inl q.1 : Key) = Sum.inl n by rw [e]), decide_eq_true (show n ∈ (q :: ks).map (·.1) by rw [← e]; exact .head _)]; rfl
  · rw [decide_eq_false (fun z => e (by injection z))]
    show decide _ = decide _
    by_cases h : n ∈ ks.map (·.1)
    · rw [decide_eq_true h, decide_eq_true (show n ∈ (q :: ks).map (·.1) from .tail _ h)]
    · rw [decide_eq_false h, decide_eq_false (fun z => by
       rcases List.mem_cons.mp z with z | z
       · exact e z.symm
       · exact h z)]
theorem put_vv2 (ks : List (Int × Int)) (n m : Int) : putK (vv2 ks) (.inl n) (.int m) = vv2 (dput ks n m) := by
 unfold putK dput
 rw [vv2_keys]
 by_cases h : n ∈ ks.map (·.1)
 · rw [if_pos (decide_eq_true h), if_pos h]
   unfold vv2
   rw [List.map_map, List.map_map]
   refine List.map_congr_left fun q _ => ?_
   by_cases e : q.1 = n
   · simp [e]
   · have h2 : ¬ ((Sum.inl q.1 : Key) = Sum.inl n) := fun z => e (by injection z)
     simp [e, h2]
 · rw [if_neg (fun z => h (of_decide_eq_true z)), if_neg h]
   unfold vv2
   rw [List.map_append]; rfl
theorem dput_keys (ks : List (Int × Int)) (n m : Int) : (dput ks n m).map (·.1) = if n ∈ ks.map (·.1) then ks.map (·.1) else ks.map (·.1) ++ [n] := by
 unfold dput
 split
 · rw [List.map_map]
   refine List.map_congr_left fun q _ => ?_
   show (if q.1 = n then (q.1, m) else q).1 = q.1
   split <;> rfl
 · rw [List.map_append]; rfl
theorem dput_nodup {ks : List (Int × Int)} (n m : Int) (nd : (ks.map (·.1)).Nodup) : ((dput ks n m).map (·.1)).Nodup := by
 rw [dput_keys]
 split
 · exact nd
 · rename_i h
   refine List.nodup_append.mpr ⟨nd, List.nodup_cons.mpr ⟨fun h => (nomatch h), List.nodup_nil⟩, fun a ha b hb => ?_⟩
   rw [List.mem_singleton.mp hb]
   exact fun e => h (by rw [← e]; exact ha)
theorem dput_len (ks : List (Int × Int)) (n m : Int) : (dput ks n m).length ≤ ks.length + 1 := by
 unfold dput
 split
 · rw [List.length_map]; omega
 · rw [List.length_append]; exact Nat.le_refl _
theorem dlook_app : ∀ (ks : List (Int × Int)) (q : Int × Int) (j : Int), dlook (ks ++ [q]) j = match dlook ks j with | some c => some c | none => if q.1 = j then some q.2 else none
 | [], q, j => rfl
 | r :: ks, q, j => by
  rw [List.cons_append, dlook_cons, dlook_cons]
  by_cases e : r.1 = j
  · rw [if_pos e, if_pos e]
  · rw [if_neg e, if_neg e]; exact dlook_app ks q j
theorem dput_look (ks : List (Int × Int)) (n m j : Int) : dlook (dput ks n m) j = if n = j then some m else dlook ks j := by
 unfold dput
 split
 · rename_i h
   induction ks with
   | nil => simp at h
   | cons q ks ih =>
    rw [List.map_cons, dlook_cons, dlook_cons]
    by_cases e : q.1 = n
    · rw [if_pos e]
      show (if q.1 = j then some m else _) = _
      by_cases e2 : n = j
      · rw [if_pos (e.trans e2), if_pos e2]
      · rw [if_neg (fun z => e2 (e.symm.trans z)), if_neg e2, if_neg (fun z => e2 (e.symm.trans z))]
        by_cases h' : n ∈ ks.map (·.1)
        · rw [ih h', if_neg e2]
        · have : (ks.map fun q => if q.1 = n then (q.1, m) else q) = ks := by
           clear ih h
           induction ks with
           | nil => rfl
           | cons r ks ih2 =>
            rw [List.map_cons, if_neg (fun e => h' (by rw [← e]; exact .head _)), ih2 fun z => h' (.tail _ z)]
          rw [this]
    · rw [if_neg e]
      have h' : n ∈ ks.map (·.1) := by
       rcases List.mem_cons.mp h with z | z
       · exact absurd z.symm e
       · exact z
      by_cases e2 : q.1 = j
      · rw [if_pos e2, if_neg (fun z => e (e2.trans z.symm)), if_pos e2]
      · rw [if_neg e2, if_neg e2, ih h']
 · rename_i h
   rw [dlook_app]
   show (match dlook ks j with | some c => some c | none => if n = j then some m else none) = _
   by_cases e : n = j
   · subst e
     rw [dlook_none h, if_pos rfl]
   · rw [if_neg e]
     cases dlook ks j <;> simp [e]
def Ris (qs : List (Int × Int)) : Prop := qs.Pairwise fun a b => a.1 < b.1
theorem Ris.nodup {qs : List (Int × Int)} (h : Ris qs) : (qs.map (·.1)).Nodup := by
 unfold List.Nodup
 rw [List.pairwise_map]
 exact h.imp fun z e => by omega
theorem ris_uniq : ∀ {qs rs : List (Int × Int)}, Ris qs → Ris rs → (∀ q, q ∈ qs ↔ q ∈ rs) → qs = rs
 | [], [], _, _, _ => rfl
 | [], r :: rs, _, _, h => by have := (h r).mpr (.head _); cases this
 | q :: qs, [], _, _, h => by have := (h q).mp (.head _); cases this
 | q :: qs, r :: rs, h1, h2, h => by
  have h1' := List.pairwise_cons.mp h1
  have h2' := List.pairwise_cons.mp h2
  have e : q = r := by
   rcases List.mem_cons.mp ((h q).mp (.head _)) with z | z
   · exact z
   · rcases List.mem_cons.mp ((h r).mpr (.head _)) with y | y
     · exact y.symm
     · have a := h2'.1 q z
       have b := h1'.1 r y
       omega
  subst e
  have : qs = rs := ris_uniq h1'.2 h2'.2 fun x => by
   have hx := h x
   constructor
   · intro hm
     rcases List.mem_cons.mp (hx.mp (.tail _ hm)) with z | z
     · have := h1'.1 x hm; rw [z] at this; omega
     · exact z
   · intro hm
     rcases List.mem_cons.mp (hx.mpr (.tail _ hm)) with z | z
     · have := h2'.1 x hm; rw [z] at this; omega
     · exact z
  rw [this]
theorem sort_items {ks qs : List (Int × Int)} (nd : (ks.map (·.1)).Nodup) (hp : qs.Perm ks) (hs : qs.Pairwise fun u v => HT.lexLt [v.1, v.2] [u.1, u.2] = false) : Ris qs ∧ ∀ q, q ∈ qs ↔ q ∈ ks := by
 refine ⟨?_, fun q => hp.mem_iff⟩
 have nd' : (qs.map (·.1)).Nodup := (hp.map _).nodup_iff.mpr nd
 unfold List.Nodup at nd'
 rw [List.pairwise_map] at nd'
 unfold Ris
 refine (hs.and nd').imp fun {a b} ⟨h1, h2⟩ => ?_
 rw [HT.lexLt_cons, if_neg (fun e => h2 e.symm)] at h1
 have := of_decide_eq_false h1
 omega
def rTupF (K : PySem.W.Frag) : List V → Hp → VK → Prop := fun xs H Q => ∃ p ys, xs = [.ref p] ∧ SqL K H p ys ∧ ∀ l o H2, H l = none → bareT o → L2.Same H H2 → H2 l = some (.frz o (.tup ys)) → Q (.ref l) H2
section
variable {X : Cx} {K : PySem.W.Frag} {e : Expr} {es : List Expr} {t : TA} {pos p : Pos} {x : Str}
theorem call_tupF : CallR X (.type "tuple") (rTupF X.K) := by
 intro pins s σ H xs us Q I r h
 obtain ⟨p, ys, rfl, hq, q⟩ := h
 obtain ⟨u, rfl, rx⟩ := vals1 r
 cases rx
 obtain ⟨its, r', pl, hz⟩ := I.list hq
 have hlen := r'.length
 refine call_tuple_list pl.isList (fun h' kp => ?_) (by simp only [List.size_toArray] <;> omega)
 have I1 : Inv X pins σ H { s with heap := h' } := I.kept (t' := s.toks) kp
 have hf := I1.hok.fresh (Nat.le_refl h'.objs.size)
 have I2 : Inv X pins σ (upd H h'.objs.size (.frz { cls := .type "tuple", data := .seq its.toArray } (.tup ys))) { s with heap := h'.push { cls := .type "tuple", data := .seq its.toArray } } :=
  I1.laid (t' := s.toks) (fun b o e => Heap.get?_push_of_some _ e) (Nat.le_refl _) ⟨Heap.get?_push_size _ rfl, hz, its, r', IsTup.new _ _⟩
 exact ⟨.ref h'.objs.size, _, I2, rfl, q _ _ _ hf ⟨_, _, rfl⟩ (Br.Same.upd hf) upd_same⟩
theorem k_tupleF (hg : Gl X x) (he : starEach (e :: es) X.env = (false, eval e X.env) :: starEach es X.env) (hpl : (backTo pos (starEach es X.env)).any (·.1) = false) (hK : X.K = K) (hx : x = "tuple") (hm : X.mg x = none) (ha : JA X (e :: es) t) :
 JE X (.Call (.Name x p) (e :: es) [] pos) (tCB (rTupF K) t) := hK ▸ ⟨by subst hx; exact pe_callTy call_tupF hg hm boot_tuple' ha.h (by decide) (by decide) he hpl⟩
end
mutual
inductive RepF (H : Hp) : V → PyData → Prop
 | non : RepF H .non .none
 | bl (b : Bool) : RepF H (.bl b) (.bool b)
 | int (i : Int) : RepF H (.int i) (.int i)
 | str (x : Str) : RepF H (.str x) (.str x)
 | tup {a : Addr} {xs : List V} {ds : List PyData} (h : Rd H a (.tup xs)) (r : RepsF H xs ds) : RepF H (.ref a) (.tuple ds)
 | lst {a : Addr} {xs : List V} {ds : List PyData} (h : H a = some (.lst xs)) (r : RepsF H xs ds) : RepF H (.ref a) (.list ds)
inductive RepsF (H : Hp) : List V → List PyData → Prop
 | nil : RepsF H [] []
 | cons {x : V} {xs : List V} {d : PyData} {ds : List PyData} (h : RepF H x d) (r : RepsF H xs ds) : RepsF H (x :: xs) (d :: ds)
end
section
variable {P : Program} {w : World} {H : Hp} {h : Heap}
mutual
theorem RepF.reads (ok : HOk P w H h) : ∀ {v : V} {d : PyData} {u : Value}, RepF H v d → RelV v u → ∃ as, Reads h u d as
 | _, _, _, .non, r => by cases (show _ = Value.none from r); exact ⟨_, .none⟩
 | _, _, _, .bl b, r => by cases (show _ = Value.bool b from r); exact ⟨_, .bool b⟩
 | _, _, _, .int i, r => by obtain ⟨t, e⟩ := (show ∃ t, _ = Value.int i t from r); subst e; exact ⟨_, .int i t⟩
 | _, _, _, .str x, r => by obtain ⟨t, e⟩ := (show ∃ t, _ = Value.str x t from r); subst e; exact ⟨_, .str x t⟩
 | _, _, _, .tup (a := a) (xs := xs) q rs, r => by
  cases (show _ = Value.ref a from r)
  obtain ⟨_, its, rv, o, h1, h2, n, h3⟩ := (show ObjOk P w H h a (.tup xs) from q.ok ok)
  obtain ⟨as, z⟩ := RepsF.reads ok rs rv
  exact ⟨_, .tuple h1 h2 h3 (by simpa using z)⟩
 | _, _, _, .lst (a := a) (xs := xs) q rs, r => by
  cases (show _ = Value.ref a from r)
  obtain ⟨_, its, n, rv, h1⟩ := (show ObjOk P w H h a (.lst xs) from ok a _ q)
  obtain ⟨as, z⟩ := RepsF.reads ok rs rv
  exact ⟨_, .list h1 rfl rfl (by simpa using z)⟩
theorem RepsF.reads (ok : HOk P w H h) : ∀ {vs : List V} {ds : List PyData} {us : List Value}, RepsF H vs ds → Vals vs us → ∃ as, ReadsAll h us ds as
 | _, _, _, .nil, .nil => ⟨_, .nil⟩
 | _, _, _, .cons q rs, .cons r t => by
  obtain ⟨as, z⟩ := RepF.reads ok q r
  obtain ⟨bs, y⟩ := RepsF.reads ok rs t
  exact ⟨_, .cons z y⟩
end
end
section
variable {X : Cx} {k : Nat}
def rNeF : R2 := fun x y H Q => ∃ d d', RepF H x d ∧ RepF H y d' ∧ Pl d ∧ Pl d' ∧ Q (.bl (!PyData.eqv d d')) H
theorem op_neF (hr : Room k X.A) : OpR X (compareOp .NotEq) rNeF := by
 intro pins s σ H x y v u Q I rx ry h
 obtain ⟨d, d', h1, h2, p1, p2, q⟩ := h
 obtain ⟨as, r1⟩ := h1.reads I.hok rx
 obtain ⟨bs, r2⟩ := h2.reads I.hok ry
 have hu := hr.un
 exact SeqAt.compareNe_reads r1 r2 p1.1 p2.1 (by have := p1.2; omega) ⟨.bl _, H, I, rfl, q⟩
theorem c_neF (hr : Room k X.A) : JCop X .NotEq (fun x y H Q => rNe x y H Q ∨ rNeF x y H Q) := ⟨op_ne.or (op_neF hr)⟩
end
def strT : PyData → Str
 | .none => "None"
 | .bool b => if b then "True" else "False"
 | .int i => toString i
 | .str x => x
 | d => d.shown
section
variable {X : Cx} {K : PySem.W.Frag} {k : Nat}
structure Txt (d : PyData) : Prop where
 show' : d.showable = true
 lay : d.canLay0 = true
 dep : d.depth ≤ 60
 len : d.shown.length ≤ sizeLine
def rStrD : List V → Hp → VK → Prop := fun xs H Q => ∃ v d, xs = [v] ∧ ((Rep H v d ∧ Txt d) ∨ ∃ a, v = .ref a ∧ H a = some (.dK []) ∧ d = .dict []) ∧ Q (.str (strT d)) H
theorem call_strD (hr : Room k X.A) : CallR X (.type "str") rStrD := fun pins s σ H xs us Q I r h => by
 obtain ⟨v, d, rfl, hd, q⟩ := h
 obtain ⟨u, rfl, rx⟩ := vals1 r
 have hun := hr.un
 rcases hd with ⟨rep, tx⟩ | ⟨a, rfl, ha, rfl⟩
 · obtain ⟨as, rd⟩ := Rep.reads I.hok rep rx
   cases rep with
   | non => cases (show u = Value.none from rx); exact PySem.P.str_of_none ⟨.str _, H, I.tok _, ⟨_, rfl⟩, q⟩
   | bl b => cases (show u = Value.bool b from rx); exact PySem.P.str_of_bool ⟨.str _, H, I.tok _, ⟨_, rfl⟩, q⟩
   | int i =>
    obtain ⟨t, e⟩ := (show ∃ t, u = Value.int i t from rx)
    subst e
    exact PySem.P.str_of_int (of_decide_eq_true tx.show') ⟨.str _, H, I.tok _, ⟨_, rfl⟩, q⟩
   | str x =>
    obtain ⟨t, e⟩ := (show ∃ t, u = Value.str x t from rx)
    subst e
    exact PySem.P.str_of_str ⟨.str _, H, I, ⟨_, rfl⟩, q⟩
   | @tup a xs ds ha rs =>
    cases (show u = Value.ref a from rx)
    have := tx.dep
    exact str_of_reads rd tx.show' (PyData.noDict_hsm (PyData.hasDict_of_canLay _ tx.lay)) hr.gd (by omega) (fun _ _ q => q) (fun h' u tk kk => ⟨.str _, H, I.kept (t' := tk) kk, ⟨_, rfl⟩, q⟩) tx.len
   | @lst a xs ds ha rs =>
    cases (show u = Value.ref a from rx)
    have := tx.dep
    exact str_of_reads rd tx.show' (PyData.noDict_hsm (PyData.hasDict_of_canLay _ tx.lay)) hr.gd (by omega) (fun _ _ q => q) (fun h' u tk kk => ⟨.str _, H, I.kept (t' := tk) kk, ⟨_, rfl⟩, q⟩) tx.len
 · cases (show u = Value.ref a from rx)
   obtain ⟨z, hsm, vs, rel, o, es, ep, h1, h2, h3, h4⟩ := (show ObjOk X.prog X.w H s.heap a (.dK []) from I.hok a _ ha)
   have hvs : vs = [] := by cases rel; rfl
   subst hvs
   have hes : es.toList = [] := by
    have := h4.2.1
    generalize es.toList = el at this
    cases this; rfl
   have rd : Reads s.heap (.ref a) (.dict []) [a] := Reads.dict (as := []) (bs := []) h1 h2.1 h3 (by rw [hes]; exact .nil) (by rw [hes]; exact .nil)
   have hd2 : PyData.depth (.dict []) ≤ 2 := by decide
   exact str_of_reads rd rfl (fun _ z => by rw [List.mem_singleton.mp z, beq_self_eq_true] at hsm; cases hsm) hr.gd (by omega) (fun _ _ q => q) (fun h' u tk kk => ⟨.str _, H, I.kept (t' := tk) kk, ⟨_, rfl⟩, q⟩) (by rw [sizeLine_eq]; decide +kernel)
end
structure Sm (dp wt : Nat) (d : PyData) : Prop where
 sh : d.showable = true
 lay : d.canLay0 = true
 lv : d.leavesShort 60 = true
 dep : d.depth ≤ dp
 wgt : d.weight ≤ wt
theorem Sm.txt {dp wt : Nat} {d : PyData} (h : Sm dp wt d) (h1 : dp ≤ 60) (h2 : wt ≤ 200000) : Txt d := by
 have hl := PyData.shown_le 60 (by decide) d h.lv
 have hsz : (sizeLine : Nat) = 16777216 := sizeLine_eq
 have := h.wgt
 have := h.dep
 exact ⟨h.sh, h.lay, by omega, by omega⟩
theorem Sm.mono {dp wt dp' wt' : Nat} {d : PyData} (h : Sm dp wt d) (h1 : dp ≤ dp') (h2 : wt ≤ wt') : Sm dp' wt' d := ⟨h.sh, h.lay, h.lv, Nat.le_trans h.dep h1, Nat.le_trans h.wgt h2⟩
theorem log_small {i : Int} (h : i.natAbs < 10 ^ 45) : i.natAbs.log2 < 150 := by
 by_cases h0 : i.natAbs = 0
 · rw [h0]; decide
 · rw [Nat.log2_lt h0]
   exact Nat.lt_of_lt_of_le h (by decide)
theorem Sm.int {i : Int} (h : i.natAbs < 10 ^ 45) : Sm 1 200 (.int i) := by
 have hl := log_small h
 have e := int_text_length_le10 (k := 45) (by decide) h
 refine ⟨decide_eq_true (by omega), rfl, ?_, by simp [PyData.depth], ?_⟩
 · refine decide_eq_true ?_
   show (Str.ofString (toString i)).length ≤ 60
   rw [PyProof.Rows.ofString_length]; have := e; simp only [String.length] at this; omega
 · show (if i == 0 then 0 else i.natAbs.log2 + 1) ≤ 200
   split <;> omega
theorem Sm.non : Sm 1 200 .none := ⟨rfl, rfl, rfl, by simp [PyData.depth], by simp [PyData.weight]⟩
theorem Sm.bl (b : Bool) : Sm 1 200 (.bool b) := ⟨rfl, rfl, rfl, by simp [PyData.depth], by simp [PyData.weight]⟩
theorem smAll {dp wt : Nat} : ∀ {ds : List PyData}, (∀ d ∈ ds, Sm dp wt d) → PyData.showableAll ds = true ∧ PyData.canLayAll0 ds = true ∧ PyData.leavesShortAll 60 ds = true ∧ PyData.depthAll ds ≤ dp ∧ PyData.weightAll ds ≤ ds.length * (wt + 1)
 | [], _ => ⟨rfl, rfl, rfl, by simp [PyData.depthAll], by simp [PyData.weightAll]⟩
 | d :: ds, h => by
  obtain ⟨a, b, c, e, f⟩ := smAll (ds := ds) fun x hx => h x (.tail _ hx)
  obtain ⟨a', b', c', e', f'⟩ := h d (.head _)
  refine ⟨by simp [PyData.showableAll, a, a'], by simp [PyData.canLayAll0, b, b'], by simp [PyData.leavesShortAll, c, c'], ?_, ?_⟩
  · simp only [PyData.depthAll]; omega
  · simp only [PyData.weightAll, List.length_cons, Nat.succ_mul]; omega
theorem Sm.tuple {dp wt n : Nat} {ds : List PyData} (h : ∀ d ∈ ds, Sm dp wt d) (hn : ds.length ≤ n) : Sm (dp + 1) (n * (wt + 1)) (.tuple ds) := by
 obtain ⟨a, b, c, e, f⟩ := smAll h
 exact ⟨a, b, c, by simp only [PyData.depth]; omega, Nat.le_trans (by simpa [PyData.weight] using f) (Nat.mul_le_mul_right _ hn)⟩
theorem Sm.list {dp wt n : Nat} {ds : List PyData} (h : ∀ d ∈ ds, Sm dp wt d) (hn : ds.length ≤ n) : Sm (dp + 1) (n * (wt + 1)) (.list ds) := by
 obtain ⟨a, b, c, e, f⟩ := smAll h
 exact ⟨a, b, c, by simp only [PyData.depth]; omega, Nat.le_trans (by simpa [PyData.weight] using f) (Nat.mul_le_mul_right _ hn)⟩
end Br
namespace Br
open PySem PySem.Spec PySem.Calls PyProof.Rows L2 HT
end Br
namespace Br
namespace DZ
open PySem PySem.Spec PySem.Calls PyProof.Rows L2 Br.ZM
end DZ
namespace DZ
open PySem PySem.Spec PySem.Calls PyProof.Rows L2
end DZ
end Br
namespace Br
open PySem PySem.Spec PySem.Calls PyProof.Rows L2
end Br
namespace Br
namespace ZL
open PySem PySem.Spec PySem.Calls PyProof.Rows L2
end ZL
end Br
namespace Br
open PySem PySem.Spec PyProof.Rows L2
section
variable {X : Cx} {x : Str} {e : Expr} {es : List Expr} {t : TA} {p pos : Pos} {K : PySem.W.Frag}
theorem valsTy : ∀ {Cs : List String} {us : List Value}, Vals (Cs.map V.ty) us → us = Cs.map Value.type
 | [], _, .nil => rfl
 | _ :: _, _, .cons r t => by rw [List.map_cons, ← valsTy t]; cases r; rfl
end
end Br
namespace Br
open PySem PySem.Spec PySem.Calls PyProof.Rows L2
def rIndexB : V → List V → Hp → VK → Prop := fun x xs H Q => ∃ (p : Addr) (ns : List Bool) (v : Bool) (j : Nat), x = .ref p ∧ xs = [.bl v] ∧ H p = some (.lst (ns.map V.bl)) ∧ ns[j]? = some v ∧ (∀ m, m < j → ns[m]? ≠ some v) ∧ Q (.int j) H
theorem eqGives_bool (a b : Bool) : PySem.MeetsSeq.EqGives (.bool a) (.bool b) (a == b) := fun prog w A E s Q h => PySem.SeqAt.EqAt.bool_bool a b prog w E Q h
theorem mt_indexB {X : Cx} : MtR X "list.index" rIndexB := by
 intro pins s σ H x xs v us Q I rx r h
 obtain ⟨p, ns, n, j, rfl, rfl, hp, hj, hno, q⟩ := h
 cases rx
 obtain ⟨u, rfl, ru⟩ := vals1 r
 obtain rfl : u = Value.bool n := ru
 obtain ⟨hz, its, c, rv, e⟩ := (show ObjOk X.prog X.w H s.heap p (.lst (ns.map V.bl)) from I.hok p _ hp)
 have hl : its.length = ns.length := by rw [← rv.length, List.length_map]
 have hjl : j < ns.length := (List.getElem?_eq_some_iff.mp hj).1
 have hsz : (sizeLine : Nat) = 16777216 := sizeLine_eq
 rw [List.length_map] at hz
 have at' : ∀ (m : Nat) (hm : m < its.toArray.size), ∃ a, its.toArray[m] = .bool a ∧ ns[m]? = some a := fun m hm => by
  have e1 : its[m]? = some its.toArray[m] := by rw [← List.getElem?_toArray, Array.getElem?_eq_getElem hm]
  obtain ⟨a, h1, h2⟩ := vals_bl rv e1
  exact ⟨a, h2, h1⟩
 refine call_meets PySem.F.slot_list_index ⟨_, e, rfl⟩ PySem.F.entry_list_index (PySem.F.args_list_index_2 _ _) (PySem.MeetsSeq.list_index p its.toArray c (.bool n) (isBoolOf n) (fun y hy => ?_) j (by rw [List.size_toArray]; omega) (by omega) ?_ fun m hm hmj => ?_) ⟨e, ⟨.int j, H, I.tok _, ⟨_, rfl⟩, q⟩⟩
 · obtain ⟨m, hm, rfl⟩ := Array.getElem_of_mem hy
   obtain ⟨a, h1, _⟩ := at' m hm
   rw [h1]
   exact eqGives_bool a n
 · obtain ⟨a, h1, h2⟩ := at' j (by rw [List.size_toArray]; omega)
   rw [h1]
   rw [hj] at h2
   injection h2 with h2
   show (a == n) = true
   rw [h2]; simp
 · obtain ⟨a, h1, h2⟩ := at' m hm
   rw [h1]
   show (a == n) = false
   have := hno m hmj
   rw [h2] at this
   simpa using this
section
variable {X : Cx} {K : PySem.W.Frag} {o e : Expr} {to : TE} {t : TA} {apos cpos pos p : Pos}
theorem k_indexB (hK : X.K = K) (hbase : attributeBase o "index" X.env (eval o X.env) = eval o X.env) (hfew : ((backTo cpos (starEach [e] X.env)).all (fun x => !x.1) && (backToKw cpos (keywordEach [] X.env)).all (fun x => x.1.isSome)
 && decide (([e] : List Expr).length + ([] : List Keyword).length + (if ([] : List Keyword).isEmpty then 0 else 1) < 30)) = true) (hline : (apos.endLine == cpos.line) = true) (hs : starEach [e] X.env = (false, eval e X.env) :: starEach [] X.env)
 (hpl : (backTo cpos (starEach [] X.env)).any (·.1) = false) (ho : JE X o to) (ha : JA X [e] t) : JE X (.Call (.Attribute o "index" apos) [e] [] cpos) (tBM K "list" rIndexB to t) :=
 hK ▸ ⟨pe_bm PySem.F.plainAttrs_list PySem.F.slot_list_index PySem.F.type_list_index mt_indexB ho.h ha.h hbase hfew hline hs hpl⟩
end
end Br
namespace Br
def upD (t b : Int) : Int := -(-t / b)
def mostN (need s m : Int) (zs : List Int) : Int := min m (upD (need - zs.sum) s)
def tooLong (need s m more : Int) (rows : List (List Int)) : Prop := ∃ r ∈ rows, r.sum < need ∧ need ≤ r.sum + more ∧ 60 < (r.length : Int) + mostN need s m r
instance (need s m more : Int) (rows : List (List Int)) : Decidable (tooLong need s m more rows) := by unfold tooLong; exact inferInstance
end Br
namespace Br
open PySem PySem.Spec PySem.Calls PyProof.Rows L2
end Br
namespace Br
open PySem PySem.Spec PyProof.Rows L2
end Br
namespace Br
open PySem PySem.Spec PySem.Calls PyProof.Rows L2
end Br
namespace Br
namespace DK
open PySem PySem.Spec PySem.Calls PyProof.Rows L2
end DK
open PySem PySem.Spec PySem.Calls PyProof.Rows L2
end Br
namespace Br
namespace Kas
open PySem PySem.Spec PySem.Calls PyProof.Rows L2
open PySem.W
structure Rel (rel : Nat → Nat → Bool) : Prop where
 irr : ∀ a, rel a a = false
 asy : ∀ a b, rel a b = true → rel b a = false
 tr : ∀ a b c, rel b a = false → rel c b = false → rel c a = false
section
variable {rel : Nat → Nat → Bool} {p : Array Nat} {m a n i j : Nat}
abbrev g (p : Array Nat) (k : Nat) : Nat := p.getD k 0
def Up (rel : Nat → Nat → Bool) (p : Array Nat) (m : Nat) : Prop := ∀ i j, i ≤ j → j < m → rel (g p j) (g p i) = false
def Dn (rel : Nat → Nat → Bool) (p : Array Nat) (m : Nat) : Prop := ∀ i j, i ≤ j → j < m → rel (g p i) (g p j) = false
theorem Up.one (R : Rel rel) : Up rel p 1 := fun i j a b => by
 obtain rfl : i = 0 := by omega
 obtain rfl : j = 0 := by omega
 exact R.irr _
theorem Up.more (R : Rel rel) (h : Up rel p m) (m1 : 1 ≤ m) (e : rel (g p m) (g p (m - 1)) = false) : Up rel p (m + 1) := fun i j a b => by
 by_cases z : j < m
 · exact h i j a z
 obtain rfl : j = m := by omega
 by_cases y : i = j
 · rw [y]; exact R.irr _
 · exact R.tr _ _ _ (h i (j - 1) (by omega) (by omega)) e
theorem Dn.more (R : Rel rel) (h : Dn rel p m) (m1 : 1 ≤ m) (e : rel (g p (m - 1)) (g p m) = false) : Dn rel p (m + 1) := fun i j a b => by
 by_cases z : j < m
 · exact h i j a z
 obtain rfl : j = m := by omega
 by_cases y : i = j
 · rw [y]; exact R.irr _
 · exact R.tr _ _ _ e (h i (j - 1) (by omega) (by omega))
theorem g_rev (hj : j ≤ p.size) (k : Nat) : g (kas_rev p i j) k = if i ≤ k ∧ k < j then g p (i + j - 1 - k) else g p k := by
 have h := getElem?_mirror_all (xs := p) (i := i) hj k
 unfold g kas_rev
 rw [Array.getD_eq_getD_getElem?, h]
 split <;> rw [Array.getD_eq_getD_getElem?]
theorem Dn.up (h : Dn rel p m) (hm : m ≤ p.size) : Up rel (kas_rev p 0 m) m := fun i j a b => by
 rw [g_rev hm, g_rev hm, if_pos (by omega), if_pos (by omega)]
 exact h _ _ (by omega) (by omega)
theorem Up.dn (h : Up rel p m) (hm : m ≤ p.size) : Dn rel (kas_rev p 0 m) m := fun i j a b => by
 rw [g_rev hm, g_rev hm, if_pos (by omega), if_pos (by omega)]
 exact h _ _ (by omega) (by omega)
theorem Dn.rev (h : Dn rel p m) (hm : m ≤ p.size) (he : ∀ i j, a ≤ i → i < m → a ≤ j → j < m → rel (g p i) (g p j) = false) : Dn rel (kas_rev p a m) m := fun i j x y => by
 rw [g_rev hm, g_rev hm]
 split <;> split
 · exact he _ _ (by omega) (by omega) (by omega) (by omega)
 · omega
 · exact h _ _ (by omega) (by omega)
 · exact h _ _ x y
end
section
structure Z where
 prog : Program
 w : World
 A : Around
 s : Shared
 κ : SortKind
 it : Array Keyed
abbrev Z.cmp (z : Z) : Nat → Nat → (Bool → Shared → Prop) → Shared → Prop := kas_cmp z.prog z.w z.A z.κ z.it
variable {z : Z} {rel : Nat → Nat → Bool} {n : Nat} {α β : Type} {p : Array Nat}
structure T (z : Z) (t : KasT α) (G : α → Prop) : Prop where
 h : KasT.kasWp z.cmp t (fun a s' => s' = z.s ∧ G a) z.s
theorem T.ret {a : α} {G : α → Prop} (h : G a) : T z (.ret a) G := ⟨⟨rfl, h⟩⟩
theorem T.bind {t : KasT α} {f : α → KasT β} {G : α → Prop} {R : β → Prop} (h : T z t G) (k : ∀ a, G a → T z (f a) R) : T z (t.bind f) R := ⟨by
 rw [KasT.kasWp_bind]
 exact kas_wp_mono h.h fun a s' ⟨e, g⟩ => e ▸ (k a g).h⟩
structure Ok (z : Z) (rel : Nat → Nat → Bool) (n : Nat) : Prop where
 R : Rel rel
 n2 : 0 < n
 ask : ∀ i j (C : Bool → Shared → Prop), i < n → j < n → C (rel i j) z.s → z.cmp i j C z.s
def Ar (n : Nat) (p : Array Nat) : Prop := p.size = n ∧ p.toList.Perm (List.range n)
theorem Ar.lt (a : Ar n p) (h : 0 < n) (k : Nat) : g p k < n := by
 unfold g
 rw [Array.getD_eq_getD_getElem?]
 cases e : p[k]? with
 | none => exact h
 | some x =>
  have h1 : x ∈ p.toList := by
   have e1 : p.toList[k]? = some x := by rw [Array.getElem?_toList]; exact e
   exact List.mem_of_getElem? e1
  exact List.mem_range.mp (a.2.mem_iff.mp h1)
theorem Ar.rev (a : Ar n p) (i j : Nat) : Ar n (kas_rev p i j) := ⟨(kas_rev_size i j).trans a.1, (Array.perm_iff_toList_perm.mp (mirror_perm _ _ _ _)).trans a.2⟩
theorem T.ask (O : Ok z rel n) (a : Ar n p) {x y : Nat} {k : Bool → KasT α} {G : α → Prop} (h : T z (k (rel (g p x) (g p y))) G) : T z (.ask (p.getD x 0) (p.getD y 0) k) G :=
 ⟨by rw [KasT.kasWp]; exact O.ask _ _ _ (a.lt O.n2 x) (a.lt O.n2 y) h.h⟩
theorem asc_ok (O : Ok z rel n) (a : Ar n p) : ∀ f m, 1 ≤ m → Up rel p m → T z (kas_asc p f m) fun r => m ≤ r ∧ r ≤ m + f ∧ Up rel p r ∧ (r < m + f → rel (g p r) (g p (r - 1)) = true)
 | 0, m, _, u => by rw [kas_asc]; exact T.ret ⟨Nat.le_refl _, Nat.le_refl _, u, fun h => absurd h (Nat.lt_irrefl _)⟩
 | f + 1, m, m1, u => by
  rw [kas_asc]
  refine T.ask O a ?_
  cases e : rel (g p m) (g p (m - 1)) with
  | true => exact T.ret ⟨Nat.le_refl _, by omega, u, fun _ => e⟩
  | false =>
   have := asc_ok O a f (m + 1) (by omega) (u.more O.R m1 e)
   exact ⟨kas_wp_mono this.h fun r s' ⟨e, h1, h2, h3, h4⟩ => ⟨e, by omega, by omega, h3, fun h => h4 (by omega)⟩⟩
structure Fl (rel : Nat → Nat → Bool) (n : Nat) (p : Array Nat) (m q : Nat) : Prop where
 a : Ar n p
 d : Dn rel p m
 l : q + 1 ≤ m
 e : ∀ i j, m - (q + 1) ≤ i → i < m → m - (q + 1) ≤ j → j < m → rel (g p i) (g p j) = false
theorem Fl.turn {m q : Nat} (h : Fl rel n p m q) (hm : m ≤ n) : Ar n (kas_rev p (m - (q + 1)) m) ∧ Dn rel (kas_rev p (m - (q + 1)) m) m := ⟨h.a.rev _ _, h.d.rev (by rw [h.a.1]; exact hm) h.e⟩
theorem desc_ok (O : Ok z rel n) : ∀ f (p : Array Nat) m q, m + f ≤ n → Fl rel n p m q → T z (kas_desc f p m q) fun r => m ≤ r.2.1 ∧ r.2.1 ≤ m + f ∧ Fl rel n r.1 r.2.1 r.2.2
 | 0, p, m, q, hm, h => by rw [kas_desc]; exact T.ret ⟨Nat.le_refl _, Nat.le_refl _, h⟩
 | f + 1, p, m, q, hm, h => by
  rw [kas_desc]
  have m1 : 1 ≤ m := by have := h.l; omega
  have go : ∀ (p' : Array Nat) q', Fl rel n p' (m + 1) q' → T z (kas_desc f p' (m + 1) q') fun r => m ≤ r.2.1 ∧ r.2.1 ≤ m + (f + 1) ∧ Fl rel n r.1 r.2.1 r.2.2 := fun p' q' h' =>
   ⟨kas_wp_mono (desc_ok O f p' (m + 1) q' (by omega) h').h fun r s' ⟨e, h1, h2, h3⟩ => ⟨e, by omega, by omega, h3⟩⟩
  have one : ∀ (p' : Array Nat), Ar n p' → Dn rel p' (m + 1) → Fl rel n p' (m + 1) 0 := fun p' a d => ⟨a, d, by omega, fun i j h1 h2 h3 h4 => by
   obtain rfl : i = j := by omega
   exact O.R.irr _⟩
  refine T.ask O h.a ?_
  cases e : rel (g p m) (g p (m - 1)) with
  | true =>
   have ea := O.R.asy _ _ e
   show T z (if q > 0 then _ else _) _
   split
   · obtain ⟨a1, d1⟩ := h.turn (by omega)
     refine go _ 0 (one _ a1 (d1.more O.R m1 ?_))
     have hs : m ≤ p.size := by rw [h.a.1]; omega
     rw [g_rev hs, g_rev hs, if_pos (by have := h.l; omega), if_neg (by omega)]
     exact O.R.tr _ _ _ ea (h.d _ _ (by omega) (by have := h.l; omega))
   · exact go _ 0 (one _ h.a (h.d.more O.R m1 ea))
  | false =>
   refine T.ask O h.a ?_
   cases e2 : rel (g p (m - 1)) (g p m) with
   | true => exact T.ret ⟨Nat.le_refl _, by show m ≤ _; omega, h⟩
   | false =>
    have d2 := h.d.more O.R m1 e2
    refine go _ (q + 1) ⟨h.a, d2, by have := h.l; omega, fun i j h1 h2 h3 h4 => ?_⟩
    by_cases x : i ≤ j
    · exact d2 i j x h4
    by_cases y : i < m
    · exact h.e _ _ (by omega) (by omega) (by omega) (by omega)
    obtain rfl : i = m := by omega
    exact O.R.tr _ _ _ (h.e _ _ (by omega) (by omega) (by have := h.l; omega) (by omega)) e
theorem tail_ok (O : Ok z rel n) {m : Nat} (a : Ar n p) (d : Dn rel p m) (m1 : 1 ≤ m) (hm : m ≤ n) : T z (kas_tail3 m n p) fun r => 1 ≤ r.1 ∧ r.1 ≤ n ∧ Ar n r.2 ∧ Up rel r.2 r.1 := by
 unfold kas_tail3
 exact (asc_ok O (a.rev 0 m) (n - m) m m1 (d.up (by rw [a.1]; exact hm))).bind fun r ⟨h1, h2, h3, _⟩ => T.ret ⟨by show 1 ≤ r; omega, by show r ≤ n; omega, a.rev _ _, h3⟩
theorem part_ok (O : Ok z rel n) {m : Nat} (a : Ar n p) (d : Dn rel p (m + 1)) (hm : m + 1 ≤ n) : T z (kas_descPart m n p) fun r => 1 ≤ r.1 ∧ r.1 ≤ n ∧ Ar n r.2 ∧ Up rel r.2 r.1 := by
 unfold kas_descPart
 refine (desc_ok O (n - (m + 1)) p (m + 1) 0 (by omega) ⟨a, d, by omega, fun i j h1 h2 h3 h4 => ?_⟩).bind fun r ⟨h1, h2, h3⟩ => ?_
 · obtain rfl : i = j := by omega
   exact O.R.irr _
 · split
   · obtain ⟨a1, d1⟩ := h3.turn (by omega)
     exact tail_ok O a1 d1 (by omega) (by omega)
   · exact tail_ok O h3.a h3.d (by omega) (by omega)
theorem count_ok (O : Ok z rel n) (a : Ar n p) : T z (kas_count n p) fun r => 1 ≤ r.1 ∧ r.1 ≤ n ∧ Ar n r.2 ∧ Up rel r.2 r.1 := by
 unfold kas_count
 have n2 := O.n2
 refine (asc_ok O a (n - 1) 1 (Nat.le_refl _) (Up.one O.R)).bind fun m ⟨h1, h2, h3, h4⟩ => ?_
 split
 · exact T.ret ⟨h1, by omega, a, h3⟩
 · next hn =>
   have hn : m ≠ n := by simpa using hn
   have e := h4 (by omega)
   have ea := O.R.asy _ _ e
   split
   · refine T.ask O a ?_
     cases e2 : rel (g p 0) (g p (m - 1)) with
     | true => exact T.ret ⟨h1, by omega, a, h3⟩
     | false =>
      have hs : m ≤ p.size := by rw [a.1]; omega
      refine part_ok O (a.rev 0 m) ((h3.dn hs).more O.R h1 ?_) (by omega)
      rw [g_rev hs, g_rev hs, if_pos (by omega), if_neg (by omega)]
      rw [show 0 + m - 1 - (m - 1) = 0 by omega]
      exact O.R.tr _ _ _ ea e2
   · refine part_ok O a (Dn.more O.R (fun i j x y => ?_) h1 ea) (by omega)
     obtain rfl : i = j := by omega
     exact O.R.irr _
theorem place_ok (O : Ok z rel n) (a : Ar n p) {k : Nat} (u : Up rel p k) : ∀ f l r, l ≤ r → r ≤ k → r - l ≤ f → (∀ i, i < l → rel (g p k) (g p i) = false) → (∀ i, r ≤ i → i < k → rel (g p i) (g p k) = false) →
 T z (kas_place p k f l r) fun x => x ≤ k ∧ (∀ i, i < x → rel (g p k) (g p i) = false) ∧ ∀ i, x ≤ i → i < k → rel (g p i) (g p k) = false
 | 0, l, r, h1, h2, h3, h4, h5 => by rw [kas_place]; exact T.ret ⟨by omega, h4, fun i x y => h5 i (by omega) y⟩
 | f + 1, l, r, h1, h2, h3, h4, h5 => by
  rw [kas_place]
  split
  · exact T.ret ⟨by omega, h4, fun i x y => h5 i (by omega) y⟩
  · refine T.ask O a ?_
    cases e : rel (g p k) (g p ((l + r) / 2)) with
    | true =>
     refine place_ok O a u f l ((l + r) / 2) (by omega) (by omega) (by omega) h4 fun i x y => ?_
     exact O.R.tr _ _ _ (O.R.asy _ _ e) (u ((l + r) / 2) i x y)
    | false => exact place_ok O a u f ((l + r) / 2 + 1) r (by omega) (by omega) (by omega) (fun i x => O.R.tr _ _ _ (u i ((l + r) / 2) (by omega) (by omega)) e) h5
theorem g_bub {k d : Nat} (hk : k < p.size) (hd : d ≤ k) (i : Nat) : g (bubble p k d) i = if i = k - d then g p k else if k - d < i ∧ i ≤ k then g p (i - 1) else g p i := by
 have h := getElem?_bubble hk d hd i
 simp only [g, Array.getD_eq_getD_getElem?, h]
 split <;> (try split) <;> rfl
theorem bin_ok (O : Ok z rel n) : ∀ f (p : Array Nat) k, k + f = n → Ar n p → Up rel p k → T z (kas_bin f p k) fun p' => Ar n p' ∧ Up rel p' n
 | 0, p, k, h, a, u => by
  rw [kas_bin]
  obtain rfl : k = n := by omega
  exact T.ret ⟨a, u⟩
 | f + 1, p, k, h, a, u => by
  rw [kas_bin]
  refine (place_ok O a u k 0 k (Nat.zero_le _) (Nat.le_refl _) (Nat.le_refl _) (fun i h => nomatch h) fun i x y => by omega).bind fun l ⟨h1, h2, h3⟩ => ?_
  refine bin_ok O f _ (k + 1) (by omega) ⟨(bubble_size _ _ _).trans a.1, (Array.perm_iff_toList_perm.mp (bubble_perm _ _ _)).trans a.2⟩ fun i j x y => ?_
  have hk : k < p.size := by rw [a.1]; omega
  rw [g_bub hk (by omega), g_bub hk (by omega)]
  have e : k - (k - l) = l := by omega
  rw [e]
  by_cases i1 : i = l
  · rw [if_pos i1]
    by_cases j1 : j = l
    · rw [if_pos j1]; exact O.R.irr _
    · rw [if_neg j1, if_pos (by omega)]; exact h3 _ (by omega) (by omega)
  · rw [if_neg i1]
    by_cases j1 : j = l
    · rw [if_pos j1, if_neg (by omega)]; exact h2 _ (by omega)
    · rw [if_neg j1]
      by_cases i2 : l < i
      · rw [if_pos (by omega), if_pos (by omega)]; exact u _ _ (by omega) (by omega)
      · rw [if_neg (show ¬(l < i ∧ i ≤ k) by omega)]
        by_cases j2 : l < j
        · rw [if_pos (by omega)]; exact u _ _ (by omega) (by omega)
        · rw [if_neg (by omega)]; exact u _ _ x (by omega)
theorem sort_ok (O : Ok z rel n) : T z (kas_sort n) fun p => Ar n p ∧ Up rel p n := by
 unfold kas_sort
 refine (count_ok O (p := (List.range n).toArray) ⟨by simp, List.Perm.refl _⟩).bind fun r ⟨h1, h2, h3, h4⟩ => ?_
 split
 · rw [show max r.1 1 = r.1 by omega]; exact bin_ok O _ _ _ (by omega) h3 h4
 · rw [show r.1 = n by omega] at h4; exact T.ret ⟨h3, h4⟩
end
end Kas
namespace Tim
open PySem PySem.Spec PySem.Calls PyProof.Rows L2 PySem.W
theorem sortShortK {prog : Program} {w : World} {A : Around} {E : Value → Shared → Prop} {s : Shared} {κ : SortKind} {kz : Array Keyed} {lt : Keyed → Keyed → Bool} {Q : Unit → SortSt → Prop} (O : Ord lt) (c : PureLt prog w A s κ kz lt) (k2 : 2 ≤ kz.size) (k64 : kz.size < 64)
 (q : ∀ v, failedOf v = none → (arrOf v).toList.Perm kz.toList → (arrOf v).toList.Pairwise (Le lt) → Q () v) : wpS (model prog w) A E s sortRuns' Q (SortSt.mk' κ kz #[] 7 none) := by
 have hit : ∀ {i : Nat} (h : i < kz.size), kas_item kz i = kz[i] := fun {i} h => by
  unfold kas_item
  rw [Array.getD_eq_getD_getElem?, Array.getElem?_eq_getElem h]; rfl
 have hkz : (List.range kz.size).map (kas_item kz) = kz.toList := by
  refine List.ext_getElem (by simp) fun i h1 h2 => ?_
  simp at h1
  rw [List.getElem_map, List.getElem_range, hit h1]; rfl
 have ok : Kas.Ok ⟨prog, w, A, s, κ, kz⟩ (fun i j => lt (kas_item kz i) (kas_item kz j)) kz.size := ⟨⟨fun a => O.irr _, fun a b h => O.asy _ _ h, fun a b c h1 h2 => O.tr _ _ _ h1 h2⟩, by omega, fun i j C hi hj h => by
  have mem : ∀ {i : Nat} (h : i < kz.size), kas_item kz i ∈ kz.toList := fun h => by rw [hit h]; simp
  exact c _ _ (mem hi) (mem hj) _ _ h⟩
 have st : SortSt.mk' κ kz #[] 7 none = kas_st κ kz (List.range kz.size).toArray := by
  unfold kas_st
  have : Array.map (kas_item kz) (List.range kz.size).toArray = kz := by
   apply Array.toList_inj.mp
   rw [Array.toList_map]; exact hkz
  rw [this]
 rw [st]
 refine kas_runs (Q := fun r v s' => s' = s ∧ Q r v) k2 k64 (fun p st' s' hp ha hf ⟨e, h1, h2⟩ => ⟨e, q st' hf ?_ ?_⟩) (Kas.sort_ok ok).h
 · rw [ha, Array.toList_map, ← hkz]; exact h1.2.map _
 · rw [ha, Array.toList_map, List.pairwise_map]
   refine List.pairwise_iff_getElem.mpr fun i j hi hj hij => ?_
   have hj' : j < p.size := by simpa using hj
   have := h2 i j (by omega) (by rw [← h1.1]; exact hj')
   unfold Kas.g at this
   rw [Array.getD_eq_getD_getElem?, Array.getD_eq_getD_getElem?, Array.getElem?_eq_getElem hj', Array.getElem?_eq_getElem (show i < p.size by omega)] at this
   exact this
end Tim
namespace Tim
open PySem PySem.Spec PySem.Calls PyProof.Rows L2
end Tim
open PySem PySem.Spec PySem.Calls PyProof.Rows L2
section
variable {X : Cx}
theorem sorted_gen2S {α : Type} {p : Addr} {f : α → V} {g : α → Value} {pins : List (Addr × Obj)} {s : Shared} {σ : L2.St} {Q : VK} (F : Shared → Hp → List α → Prop) (lt : Hp → Keyed → Keyed → Bool) (O : ∀ H, Tim.Ord (lt H))
 (col : ∀ (R : List Value → Shared → Prop) (E : Value → Shared → Prop), (∀ (s1 : Shared) (H1 : Hp) (zs : List α), Inv X pins σ H1 s1 → F s1 H1 zs → R (zs.map g) s1) → wpAny (model X.prog X.w) X.A.in1 (collect (.ref p)) R E s)
 (each : ∀ s1 H1 zs, F s1 H1 zs → (∀ z ∈ zs, RelV (f z) (g z)) ∧ zs.length < 64)
 (hk : ∀ s1 H1 zs, Inv X pins σ H1 s1 → F s1 H1 zs → 2 ≤ zs.length → ∀ h6 : Heap, (∀ b o, H1 b ≠ none → s1.heap.get? b = some o → h6.get? b = some o) →
  ∃ κ, (∀ Q : SortKind → Shared → Prop, ∀ E, Q κ { s1 with heap := h6 } → wpAny (model X.prog X.w) X.A.in1.in1 (keyKind' (zs.map g).toArray) Q E { s1 with heap := h6 }) ∧ PureLt X.prog X.w X.A.in1.in1 { s1 with heap := h6 } κ (pairsOf (zs.map g)) (lt H1))
 (q : ∀ s1 H1 zs, F s1 H1 zs → ∀ (l : Addr) (ys : List α) (H' : Hp), H1 l = none → L2.Same H1 H' → H' l = some (.lst (ys.map f)) → ys.Perm zs → (ys.map fun z => ((g z, g z) : Keyed)).Pairwise (Tim.Le (lt H1)) → Q (.ref l) H') :
 wpAny (model X.prog X.w) X.A (call (.builtin "sorted") [.ref p]) (EP X pins σ Q) X.xe s := by
 have hsz : (sizeLine : Nat) = 16777216 := sizeLine_eq
 refine Calls.call_function_entry kind_sorted plain_sorted entry_sorted (args_sorted1 _) ?_
 unfold Builtin.«sorted»
 refine wpAny_bind (m := checkCount "sorted" 1 1 _) (wpAny_pure ?_)
 refine wpAny_bind (col _ _ fun s1 H zs I1 hF => ?_)
 obtain ⟨each, hzz⟩ := each s1 H zs hF
 have hk := hk s1 H zs I1 hF
 have q := q s1 H zs hF
 clear hF
 obtain ⟨h', gs, dr, tk, os⟩ := s1
 refine wpAny_bind (wpAny_newList ?_ (by rw [List.length_map]; omega))
 have hoL : (h'.push (seqObj "list" (zs.map g).toArray 0)).get? h'.objs.size = some (seqObj "list" (zs.map g).toArray 0) := Heap.get?_push_size _ rfl
 have hfr : H h'.objs.size = none := I1.hok.fresh (Nat.le_refl _)
 refine wpAny_bind (wpAny_holding (wpAny_call_entry slot_list_sort ⟨_, hoL, rfl⟩ entry_list_sort (sort_any (R := fun out => ∃ ys : List α, out = (ys.map g).toArray ∧ ys.Perm zs ∧ (ys.map fun z => ((g z, g z) : Keyed)).Pairwise (Tim.Le (lt H))) hoL (by rw [List.length_map]; omega) (fun h1 => ⟨zs, rfl, List.Perm.refl _, ?_⟩) (fun h2 h6 old => ?_) fun out ho ⟨ys, hR, hp, hs⟩ => ⟨_, rfl, ?_⟩) (args_list_sort _)))
 · rw [List.length_map] at h1
   match zs, h1 with
   | [], _ => exact List.Pairwise.nil
   | [_], _ => exact List.pairwise_singleton _ _
   | _ :: _ :: _, h => simp at h; omega
 · rw [List.length_map] at h2
   obtain ⟨κ, k1, k2⟩ := hk h2 h6 fun b o hb e => old b o (fun z => hb (by rw [z]; exact hfr)) (Heap.get?_push_of_some _ e)
   refine k1 _ _ ⟨rfl, ?_⟩
   refine Tim.sortShortK (O H) k2 (by rw [← Array.length_toList, pairs_map, List.length_map]; omega) (by rw [← Array.length_toList, pairs_map, List.length_map]; omega) fun v e1 e2 e3 => ⟨e1, ?_, ?_⟩
   · have := e2.length_eq
     rw [Array.length_toList, pairsOf_toList, List.length_zip] at this
     omega
   · have e := pairs_map g zs
     rw [e] at e2
     obtain ⟨ys, h3, h4⟩ := perm_lift (fun z => ((g z, g z) : Keyed)) e2 rfl
     refine ⟨ys, ?_, h3, by rw [h4]; exact e3⟩
     apply Array.toList_inj.mp
     rw [Array.toList_map, ← h4, List.map_map]; simp
 · refine wpAny_pure ⟨_, rfl, ?_⟩
   subst hR
   obtain ⟨n', e'⟩ : ∃ n', (sortedHeap (h'.push (seqObj "list" (zs.map g).toArray 0)) h'.objs.size (zs.map g) (ys.map g).toArray).get? h'.objs.size = some (seqObj "list" (ys.map g).toArray n') := sortedHeap_at hoL
   have keep : ∀ b o, h'.get? b = some o → (sortedHeap (h'.push (seqObj "list" (zs.map g).toArray 0)) h'.objs.size (zs.map g) (ys.map g).toArray).get? b = some o := fun b o e => by
    have hb := Heap.lt_size e
    rw [sortedHeap_old (Nat.ne_of_lt hb) (by rw [Heap.size_push]; exact Nat.lt_succ_of_lt hb)]
    exact Heap.get?_push_of_some _ e
   have vals : ∀ {l : List α}, (∀ z ∈ l, RelV (f z) (g z)) → Vals (l.map f) (l.map g) := fun {l} => by
    induction l with
    | nil => exact fun _ => .nil
    | cons a l ih => exact fun h => .cons (h a (.head _)) (ih fun z hz => h z (.tail _ hz))
   have I2 : Inv X pins σ (upd H h'.objs.size (.lst (ys.map f))) ⟨sortedHeap (h'.push (seqObj "list" (zs.map g).toArray 0)) h'.objs.size (zs.map g) (ys.map g).toArray, gs, dr, tk, os⟩ :=
    I1.laid (t' := tk) keep (Nat.le_refl _) (show ObjOk X.prog X.w _ _ _ (.lst (ys.map f)) from ⟨by rw [List.length_map, hp.length_eq]; omega, ys.map g, n', vals fun z hz => each z (hp.mem_iff.mp hz), e'⟩)
   exact ⟨.ref h'.objs.size, _, I2, rfl, q _ ys _ hfr (Br.Same.upd hfr) upd_same hp hs⟩
end
end Br
namespace Br
open PySem PySem.Spec PySem.Calls PyProof.Rows L2
def SetO (w : World) (a : Addr) (ns : List Int) : HO := .ext fun h => SetI w h a ns
theorem setO_ok {P : Program} {w : World} {H : Hp} {h : Heap} {a : Addr} {ns : List Int} (x : SetI w h a ns) : ObjOk P w H h a (SetO w a ns) :=
 ⟨x, let ⟨o, _, _, _, e, _⟩ := x; ⟨o, e⟩, fun h1 h2 q k => q.at k⟩
section
variable {X : Cx}
theorem inv_draws {pins : List (Addr × Obj)} {σ : L2.St} {H : Hp} {s : Shared} (I : Inv X pins σ H s) (d : _) : Inv X pins σ H { s with drawn := d } := ⟨I.ok, I.os, I.bare, I.base, I.loc, I.cell, I.free, I.freeC, I.pin, I.hok, I.len⟩
def rSortSet (w : World) : List V → Hp → VK → Prop := fun xs H Q => ∃ (p : Addr) (ns : List Int), xs = [.ref p] ∧ H p = some (SetO w p ns) ∧ ns.length < 64 ∧ ∀ (l : Addr) (ms : List Int) (H' : Hp), H l = none → L2.Same H H' → H' l = some (.lst (ms.map V.int)) → ms.Pairwise (· < ·) → (∀ x, x ∈ ms ↔ x ∈ ns) → Q (.ref l) H'
theorem call_sortSet (hc : X.calm = true) : CallR X (.builtin "sorted") (rSortSet X.w) := by
 intro pins s σ H xs us Q I r h
 obtain ⟨p, ns, rfl, hq, hlen, q⟩ := h
 obtain ⟨u, rfl, rx⟩ := vals1 r
 cases rx
 have si : SetI X.w s.heap p ns := (show ObjOk X.prog X.w H s.heap p (SetO X.w p ns) from I.hok p _ hq).1
 have hnd : ns.Nodup := let ⟨_, _, _, _, _, _, _, _, _, n, _⟩ := si; n
 refine sorted_gen2S (α := Int × Tok) (f := fun z => .int z.1) (g := fun z => .int z.1 z.2) (fun _ H' zs => H' = H ∧ (zs.map (·.1)).Perm ns) (fun _ x y => decide (numOf x.1 < numOf y.1)) (fun _ => ord_int fun x => numOf x.1) (fun R E hR => ?_) (fun s3 H3 zs hF => ⟨fun z _ => ⟨z.2, rfl⟩, ?_⟩) (fun s3 H3 zs I3 hF h2 h6 old => ⟨oneType', fun Q E hQ => ?_, fun x y hx hy Q E hQ => ?_⟩) (fun s3 H3 zs hF l ys H' n1 q3 e1 hp hs => ?_)
 · refine set_collect (A := X.A.in1) (I.ok.hd hc) si fun h' d tk vs os k pe iv => ?_
   obtain ⟨zs, z1, z2⟩ : ∃ zs : List (Int × Tok), zs.map (·.1) = os ∧ zs.map (fun z => Value.int z.1 z.2) = vs := by
    clear pe k
    induction iv with
    | nil => exact ⟨[], rfl, rfl⟩
    | cons n t _ ih =>
     obtain ⟨zs, h1, h2⟩ := ih
     exact ⟨(n, t) :: zs, by rw [List.map_cons, h1], by rw [List.map_cons, h2]⟩
   rw [← z2]
   exact hR _ H zs (inv_draws (I.kept (t' := tk) k) d) ⟨rfl, by rw [z1]; exact pe⟩
 · have := hF.2.length_eq
   rw [List.length_map] at this; omega
 · match zs, h2 with
   | z1 :: z2 :: zr, _ =>
    have ii : ∀ l : List (Int × Tok), IntsAre (l.map fun z => Value.int z.1 z.2) (l.map (·.1)) := fun l => by
     induction l with
     | nil => exact .nil
     | cons z l ih => exact .cons _ _ ih
    rw [List.map_cons, List.map_cons, keyKind_ints (ii (z1 :: z2 :: zr))]
    exact wpAny_pure hQ
   | [], h => simp at h
   | [_], h => simp at h
 · rw [pairs_map] at hx hy
   obtain ⟨z1, _, e1⟩ := List.mem_map.mp hx
   obtain ⟨z2, _, e2⟩ := List.mem_map.mp hy
   rw [← e1, ← e2] at hQ ⊢
   rw [keyLt'_oneType]
   exact oneLt_int hQ
 · obtain ⟨rfl, pn⟩ := hF
   have pm : (ys.map (·.1)).Perm ns := (hp.map _).trans pn
   have nd : (ys.map (·.1)).Nodup := pm.nodup_iff.mpr hnd
   refine q l (ys.map (·.1)) H' n1 q3 (by rw [e1, List.map_map]; rfl) ?_ fun x => pm.mem_iff
   have hs' : (ys.map (·.1)).Pairwise fun a b : Int => ¬ b < a := List.pairwise_map.mpr ((List.pairwise_map.mp hs).imp fun {a b} h => of_decide_eq_false h)
   exact (hs'.and nd).imp fun {a b} ⟨h1, h2⟩ => by omega
theorem nodup_len : ∀ {ms ns : List Int}, ms.Nodup → (∀ x ∈ ms, x ∈ ns) → ms.length ≤ ns.length
 | [], _, _, _ => Nat.zero_le _
 | m :: ms, ns, nd, h => by
  rw [List.nodup_cons] at nd
  have hm := h m (.head _)
  have p := List.perm_cons_erase hm
  have := nodup_len (ms := ms) (ns := ns.erase m) nd.2 fun x hx => (List.mem_erase_of_ne (fun z : x = m => nd.1 (by rw [← z]; exact hx))).mpr (h x (.tail _ hx))
  rw [p.length_eq, List.length_cons, List.length_cons]; omega
theorem PE.weak {e : Expr} {t t' : TE} (h : PE X e t) (w : ∀ σ H Q, t' σ H Q → t σ H Q) : PE X e t' := fun pins s σ H Q I q => h pins s σ H Q I (w σ H Q q)
theorem boot_set : bootBuiltins "set" = some (.type "set") := by decide +kernel
def tUp (te : TE) : TE := fun σ H Q => ∃ Q', te σ H Q' ∧ ∀ v H', Q' v H' → Q v H'
theorem PE.up {e : Expr} {te : TE} (h : PE X e te) : PE X e (tUp te) := fun pins s σ H Q I ⟨Q', q, m⟩ => wpAny_mono (h pins s σ H Q' I q) (fun u s' ⟨v, H', I', r, q'⟩ => ⟨v, H', I', r, m v H' q'⟩) fun _ _ x => x
theorem same_none {H H' : Hp} (s : L2.Same H H') {a : Addr} (h : H' a = none) : H a = none := by
 cases e : H a with
 | none => rfl
 | some o => rw [s _ _ e] at h; cases h
end
section
variable {X : Cx}
def rSetN (w : World) (K : PySem.W.Frag) : List V → Hp → VK → Prop := fun xs H Q => ∃ (p : Addr) (ns : List Int), xs = [.ref p] ∧ (SqL K H p (ns.map V.int) ∨ SqT K H p (ns.map V.int)) ∧ ns.length < 2000 ∧ ∀ (d : Addr) (ms : List Int) (H' : Hp), H d = none → L2.Same H H' → H' d = some (SetO w d ms) → (∀ x, x ∈ ms ↔ x ∈ ns) → ms.Nodup → Q (.ref d) H'
theorem call_setN (hc : X.calm = true) : CallR X (.type "set") (rSetN X.w X.K) := by
 rintro pins s σ H xs us Q I r ⟨p, ns, rfl, hq, hlen, q⟩
 obtain ⟨u, rfl, rx⟩ := vals1 r
 cases rx
 obtain ⟨its, o, T, cn, rv, hT, ho, hcl, hd, hz⟩ := seq_obj I hq
 have iv : IntsAre its ns := Br.vals_ints rv
 have hb : (its.toArray).size + 1 < scanBound := by
  have := iv.length
  rw [List.size_toArray, this, show scanBound = 4096 from rfl]; omega
 refine call_setI (I.ok.hd hc) (items := its.toArray) (ns := ns) (by rcases hT with rfl | rfl; exact .inl ⟨o, ho, hcl, cn, hd⟩; exact .inr ⟨o, ho, hcl, cn, hd⟩) (by simpa using iv) hb fun h' tk ms si hm k => ?_
 have nd : ms.Nodup := let ⟨_, _, _, _, _, _, _, _, _, n, _⟩ := si; n
 have fr := I.hok.fresh (Nat.le_refl s.heap.objs.size)
 exact ⟨.ref s.heap.objs.size, _, I.laid (a := s.heap.objs.size) (o := SetO X.w s.heap.objs.size ms) (t' := tk) k (Nat.le_refl _) (setO_ok si), rfl, q _ ms _ fr (Br.Same.upd fr) upd_same hm nd⟩
def tSortSetN (K : PySem.W.Frag) (te : TE) : TE := fun σ H Q => te σ H fun v H1 => ∃ (p : Addr) (ns bs : List Int), v = .ref p ∧ (SqL K H1 p (ns.map V.int) ∨ SqT K H1 p (ns.map V.int)) ∧ ns.length < 2000 ∧ (∀ x ∈ ns, x ∈ bs) ∧ bs.length < 64 ∧ ∀ (l : Addr) (ms : List Int) (H' : Hp), H1 l = none → L2.Same H1 H' → H' l = some (.lst (ms.map V.int)) → ms.Pairwise (· < ·) → (∀ x, x ∈ ms ↔ x ∈ ns) → Q (.ref l) H'
theorem k_sortSetN {K : PySem.W.Frag} {x y : Str} {e : Expr} {te : TE} {p1 p2 p3 p4 : Pos} (hK : X.K = K) (hx : x = "sorted") (hy : y = "set") (hgx : Gl X x) (hgy : Gl X y) (hmx : X.mg x = none) (hmy : X.mg y = none) (hc : X.calm = true)
 (s1 : starEach [e] X.env = (false, eval e X.env) :: starEach [] X.env) (s2 : starEach [.Call (.Name y p1) [e] [] p2] X.env = (false, eval (.Call (.Name y p1) [e] [] p2) X.env) :: starEach [] X.env) (hpl : ∀ pos, (backTo pos (starEach [] X.env)).any (·.1) = false)
 (he : JE X e te) : JE X (.Call (.Name x p3) [.Call (.Name y p1) [e] [] p2] [] p4) (tSortSetN K te) := by
 subst hK hx hy
 refine ⟨PE.weak (pe_callB (call_sortSet hc) hgx hmx boot_sorted (pa_cons (pe_callTy (call_setN hc) hgy hmy boot_set (pa_cons (PE.up he.h) pa_nil s1) (by decide) (by decide) s1 (hpl _)) pa_nil s2) (by decide) (by decide) s2 (hpl _)) fun σ H Q h => ⟨_, h, fun v H1 q => ?_⟩⟩
 obtain ⟨p, ns, bs, rfl, hq, hl, hb, hbl, q⟩ := q
 exact ⟨p, ns, rfl, hq, hl, fun d ms H2 nd s2 e2 hm hnd => ⟨d, ms, rfl, e2, Nat.lt_of_le_of_lt (nodup_len hnd fun x hx => hb x ((hm x).mp hx)) hbl, fun l rs H3 nl s3 e3 pw hr => q l rs H3 (same_none s2 nl) (s2.trans s3) e3 pw fun x => (hr x).trans (hm x)⟩⟩
end
end Br
namespace Br
namespace ZG
open PySem PySem.Spec PySem.Calls PyProof.Rows L2
def SI : Bool → Heap → Addr → Addr → Nat → Prop
 | true, h, c, d, k => h.IsTupleIter c d k
 | false, h, c, d, k => h.IsListIter c d k
def SS : Bool → Heap → Addr → Array Value → Prop
 | true, h, d, xs => h.IsTuple d xs
 | false, h, d, xs => h.IsList d xs
section
variable {prog : Program} {w : World} {A : Around} {E : Value → Shared → Prop} {s : Shared}
structure Zp (f1 f2 : Bool) (h : Heap) (z u o c1 c2 d e : Addr) (xs ys : Array Value) (k : Nat) : Prop where
 zip : IsZip h z u o .none
 its : IsPair h u (.ref c1) (.ref c2)
 own : ∃ a b, IsPair h o a b
 i1 : SI f1 h c1 d k
 i2 : SI f2 h c2 e k
 t1 : SS f1 h d xs
 t2 : SS f2 h e ys
end
end ZG
namespace EG
open PySem PySem.Spec PySem.Calls PyProof.Rows L2
end EG
end Br
namespace Br
open PySem PySem.Spec PySem.Calls PyProof.Rows L2
section
variable {X : Cx} {k : Nat}
def one11 : List (Key × V) := [(Sum.inl 1, V.int 1)]
def rStrK : List V → Hp → VK → Prop := fun xs H Q => rStrD xs H Q ∨ ∃ a, xs = [.ref a] ∧ H a = some (.dK one11) ∧ Q (.str (strT (.dict [(.int 1, .int 1)]))) H
theorem call_strK (hr : Room k X.A) : CallR X (.type "str") rStrK := fun pins s σ H xs us Q I r h => by
 rcases h with h | ⟨a, rfl, ha, q⟩
 · exact call_strD hr pins s σ H xs us Q I r h
 obtain ⟨u, rfl, rx⟩ := vals1 r
 have hun := hr.un
 cases (show u = Value.ref a from rx)
 obtain ⟨z, hsm, vs, rel, o, es, ep, h1, h2, h3, h4⟩ := (show ObjOk X.prog X.w H s.heap a (.dK one11) from I.hok a _ ha)
 have hp := h4.2.1
 have rd : Reads s.heap (.ref a) (.dict [(.int 1, .int 1)]) [a] := by
  cases rel with
  | cons r1 r2 =>
   cases r2
   rename_i q1
   obtain ⟨k1, v1⟩ := q1
   obtain ⟨e1, e2⟩ := r1
   have e1 : (Sum.inl 1 : Key) = k1 := e1
   subst e1
   obtain ⟨t, e2⟩ := (show ∃ t, v1 = Value.int 1 t from e2)
   subst e2
   generalize hes : es.toList = el at hp
   cases hp with
   | @cons e kv es' kvs' hk hv hr' =>
    cases hr'
    obtain ⟨t2, hk⟩ := Value.isInt_shape (show Value.isInt 1 e.key = true from hk)
    have hv : e.val = Value.int 1 t := hv
    exact Reads.dict (as := []) (bs := []) h1 h2.1 h3 (by rw [hes]; simp only [List.map_cons, List.map_nil, hk]; exact .cons (.int 1 t2) .nil) (by rw [hes]; simp only [List.map_cons, List.map_nil, hv]; exact .cons (.int 1 t) .nil)
 have hd2 : PyData.depth (.dict [(.int 1, .int 1)]) ≤ 3 := by decide
 exact str_of_reads rd rfl (fun _ z => by rw [List.mem_singleton.mp z, beq_self_eq_true] at hsm; cases hsm) hr.gd (by omega) (fun _ _ q => q) (fun h' u tk kk => ⟨.str _, H, I.kept (t' := tk) kk, ⟨_, rfl⟩, q⟩) (by rw [sizeLine_eq]; decide +kernel)
theorem j_strK {x : Str} {e : Expr} {es : List Expr} {t : TA} {p pos : Pos} (hr : Room k X.A) (hg : Gl X x) (he : starEach (e :: es) X.env = (false, eval e X.env) :: starEach es X.env) (hpl : (backTo pos (starEach es X.env)).any (·.1) = false) (hx : x = "str") (hm : X.mg x = none) (ha : JA X (e :: es) t) :
 JE X (.Call (.Name x p) (e :: es) [] pos) (tCB rStrK t) := ⟨by subst hx; exact pe_callTy (call_strK hr) hg hm (by decide +kernel) ha.h (by decide) (by decide) he hpl⟩
end
end Br
namespace Br
open PySem PySem.Spec PyProof.Rows L2
section
variable {X : Cx} {x : Str} {e : Expr} {es : List Expr} {t : TA} {p pos : Pos} {K : PySem.W.Frag}
def rIsiA (K : PySem.W.Frag) : List V → Hp → VK → Prop := fun xs H Q => ∃ (z : V) (t : Value) (tp : Addr) (Cs : List String) (b : Bool), xs = [z, .ref tp] ∧ TyOf K H z t ∧ (∀ C, t ≠ .ref C) ∧ H tp = some (.tup (Cs.map V.ty)) ∧ PySem.W.kitAny K t (Cs.map Value.type) = some b ∧ Q (.bl b) H
theorem call_isiA : CallR X (.builtin "isinstance") (rIsiA X.K) := by
 rintro pins s σ H xs us Q I r ⟨z, t, tp, Cs, b, rfl, ty, hno, htp, hk, q⟩
 obtain ⟨u, w', rfl, rx, r2⟩ := vals2 r
 cases r2
 obtain ⟨its, rv, hT, _⟩ := I.tuple (SqT.of htp)
 rw [valsTy rv] at hT
 obtain ⟨⟨oc, od, odt, osl⟩, h1, h2, n, h3⟩ := hT
 have e1 : oc = .type "tuple" := h2
 have e2 : odt = .seq (Cs.map Value.type).toArray n := h3
 subst e1; subst e2
 have fin : ∀ tk, EP X pins σ Q (.bool b) { s with toks := tk } := fun tk => ⟨.bl b, H, I.tok _, rfl, q⟩
 cases ty with
 | non => cases (show u = Value.none from rx); exact PySem.W.kia_tup PySem.W.kitx_none I.kIn True.intro h1 hk (fun z => nomatch z) fin
 | bl y => cases (show u = Value.bool y from rx); exact PySem.W.kia_tup PySem.W.kitx_bool I.kIn True.intro h1 hk (fun z => nomatch z) fin
 | int i => obtain ⟨t, q⟩ := (show ∃ t, u = Value.int i t from rx); cases q; exact PySem.W.kia_tup PySem.W.kitx_int I.kIn True.intro h1 hk (fun z => nomatch z) fin
 | str y => obtain ⟨t, q⟩ := (show ∃ t, u = Value.str y t from rx); cases q; exact PySem.W.kia_tup PySem.W.kitx_str I.kIn True.intro h1 hk (fun z => nomatch z) fin
 | flt y => obtain ⟨t, q⟩ := (show ∃ t, u = Value.float y t from rx); cases q; exact PySem.W.kia_tup PySem.W.kitx_float I.kIn True.intro h1 hk (fun z => nomatch z) fin
 | @lst a xs ea =>
  cases (show u = Value.ref a from rx)
  obtain ⟨_, _, n, _, q1⟩ := (show ObjOk X.prog X.w H s.heap a (.lst xs) from I.hok a _ ea)
  exact PySem.W.kia_tup PySem.W.kitx_list I.kIn ⟨_, q1, rfl⟩ h1 hk (fun z => nomatch z) fin
 | @frz a ob xs ea =>
  cases (show u = Value.ref a from rx)
  obtain ⟨_, _, _, n, _, q1⟩ := (show ObjOk X.prog X.w H s.heap a (.frz ob (.lst xs)) from I.hok a _ ea)
  exact PySem.W.kia_tup PySem.W.kitx_list I.kIn ⟨_, q1, rfl⟩ h1 hk (fun z => nomatch z) fin
 | @tup a xs ea =>
  cases (show u = Value.ref a from rx)
  obtain ⟨_, _, _, o, p1, p2, _⟩ := (show ObjOk X.prog X.w H s.heap a (.tup xs) from I.hok a _ ea)
  exact PySem.W.kia_tup PySem.W.kitx_tuple I.kIn ⟨o, p1, p2⟩ h1 hk (fun z => nomatch z) fin
 | @dK a kvs ea =>
  cases (show u = Value.ref a from rx)
  obtain ⟨_, _, vs, _, o, es, ep, q1, q2, _⟩ := (show ObjOk X.prog X.w H s.heap a (.dK kvs) from I.hok a _ ea)
  exact PySem.W.kia_tup PySem.W.kitx_dict I.kIn ⟨o, q1, q2.1⟩ h1 hk (fun z => nomatch z) fin
 | @dT a kvs ea =>
  cases (show u = Value.ref a from rx)
  obtain ⟨_, _, xs, _, o, es, ep, q1, q2, _⟩ := (show ObjOk X.prog X.w H s.heap a (.dT kvs) from I.hok a _ ea)
  exact PySem.W.kia_tup PySem.W.kitx_dict I.kIn ⟨o, q1, q2.1⟩ h1 hk (fun z => nomatch z) fin
 | ins => exact absurd rfl (hno _)
theorem k_isiA (hK : X.K = K) (hg : Gl X x) (he : starEach (e :: es) X.env = (false, eval e X.env) :: starEach es X.env) (hpl : (backTo pos (starEach es X.env)).any (·.1) = false) (hx : x = "isinstance") (hm : X.mg x = none) (ha : JA X (e :: es) t) :
 JE X (.Call (.Name x p) (e :: es) [] pos) (tCB (rIsiA K) t) := hK ▸ ⟨by subst hx; exact pe_callB call_isiA hg hm boot_isinstance ha.h (by decide) (by decide) he hpl⟩
end
end Br
open PySem PySem.Spec PyProof.Rows L2 Br
local macro_rules | `(tactic| wtm_at "at") => `(tactic| first | exact At.here | (apply At.there; wtm_at "at") | fail)
local macro_rules | `(tactic| wtm_at "K") => `(tactic| first | exact cxC_K | exact cxC_K.trans cxC_K | rfl | fail)
local macro_rules | `(tactic| wtm_at "op") => `(tactic| first | (apply k_addA; wtm_at "K") | apply o_sub | apply o_mulI | apply o_mod | apply o_fdiv | apply o_pow | fail)
local macro_rules | `(tactic| wtm_at "cop") => `(tactic| first | apply c_eq | apply c_ne | apply c_lt | apply c_le | apply c_gt | apply c_ge | apply c_isnotN | apply c_is | (apply k_in; wtm_at "K") | (apply k_notin; wtm_at "K") | fail)
local macro_rules | `(tactic| wtm_at "pe") => `(tactic| first
 | apply j_int
 | (apply j_name; (wtm_at "at"); (rfl); (decide +kernel); (decide +kernel))
 | (apply j_cell; (wtm_at "at"); (rfl); (decide +kernel); (decide +kernel))
 | (apply j_repL; (wtm_at "pe"); (wtm_at "pe"))
 | (apply j_bin; (wtm_at "op"); (wtm_at "pe"); (wtm_at "pe"))
 | (apply k_ix; (wtm_at "K"); (exact fun _ _ => rfl); (wtm_at "pe"); (wtm_at "pe"))
 | wtm_at "call"
 | (apply j_tup; (wtm_at "pa"))
 | (apply j_lst; (wtm_at "pa"))
 | (apply j_chain; (with_unfolding_all rfl); (wtm_at "cop"); (wtm_at "cop"); (wtm_at "pe"); (wtm_at "pe"); (wtm_at "pe"))
 | apply j_bl | apply j_non | apply j_str
 | (apply j_neg; (wtm_at "pe"))
 | (apply k_slS; (wtm_at "K"); (wtm_at "pe"); (wtm_at "po"); (wtm_at "po"))
 | (apply j_not; (wtm_at "pe"))
 | (apply j_one; (wtm_at "pe"))
 | (apply j_and; (wtm_at "pe"); (wtm_at "pe"))
 | apply j_dict0
 | (apply j_comp1; (rfl); (rfl); (intro _; rfl); (wtm_at "nd"); (rfl); (wtm_at "pi"); (intro cC cs cH cfp; wtm_at "pf"); (intro cC cs cH cfp; wtm_at "pe"))
 | (apply k_comp2; (wtm_at "K"); (rfl); (rfl); (intro _; rfl); (wtm_at "nd"); (decide +kernel); (rfl); (rfl); (wtm_at "pi"); (intro cC cs cH cfp; wtm_at "pf"); (intro cC cs cH cfp; wtm_at "pe"))
 | (apply j_dict1; (wtm_at "pe"); (wtm_at "pe"))
 | (apply j_const; (assumption); (rfl); (decide +kernel))
 | (apply j_cls; (assumption); (rfl); (decide +kernel))
 | (apply j_bty (T := "int"); (rfl); (assumption); (decide +kernel); (decide +kernel); (decide +kernel))
 | (apply j_bty (T := "bool"); (rfl); (assumption); (decide +kernel); (decide +kernel); (decide +kernel))
 | (apply j_bty (T := "tuple"); (rfl); (assumption); (decide +kernel); (decide +kernel); (decide +kernel))
 | (apply j_bty (T := "list"); (rfl); (assumption); (decide +kernel); (decide +kernel); (decide +kernel))
 | (apply j_bty (T := "ValueError"); (rfl); (assumption); (decide +kernel); (decide +kernel); (decide +kernel))
 | fail)
local macro_rules | `(tactic| wtm_at "call") => `(tactic| first
 | (apply k_extend; (wtm_at "K"); (rfl); (rfl); (rfl); (rfl); (rfl); (wtm_at "pe"); (wtm_at "pa"))
 | (apply k_append; (wtm_at "K"); (rfl); (rfl); (rfl); (rfl); (rfl); (wtm_at "pe"); (wtm_at "pa"))
 | (apply j_call; (assumption); (wtm_at "room"); (rfl); (decide +kernel); (rfl); (rfl); (wtm_at "pa"))
 | (apply k_isi; (wtm_at "K"); (rfl); (rfl); (rfl); (with_reducible rfl); (assumption); (wtm_at "pa"))
 | (apply k_len; (wtm_at "K"); (rfl); (rfl); (rfl); (with_reducible rfl); (assumption); (wtm_at "pa"))
 | (apply j_abs; (rfl); (rfl); (rfl); (with_reducible rfl); (assumption); (wtm_at "pa"))
 | (apply j_max; (rfl); (rfl); (rfl); (with_reducible rfl); (rfl); (assumption); (wtm_at "pa"))
 | (apply j_min; (rfl); (rfl); (rfl); (with_reducible rfl); (rfl); (assumption); (wtm_at "pa"))
 | (apply k_tuple; (rfl); (rfl); (rfl); (wtm_at "K"); (with_reducible rfl); (assumption); (wtm_at "pa"))
 | (apply k_listc; (rfl); (rfl); (rfl); (wtm_at "K"); (with_reducible rfl); (assumption); (wtm_at "pa"))
 | (apply k_sumS; (rfl); (rfl); (rfl); (wtm_at "K"); (with_reducible rfl); (rfl); (assumption); (wtm_at "pa"))
 | (apply k_all; (wtm_at "K"); (rfl); (rfl); (rfl); (with_reducible rfl); (rfl); (assumption); (wtm_at "pa"))
 | (apply j_callH; (assumption); (wtm_at "roomH"); (rfl); (decide +kernel); (rfl); (rfl); (wtm_at "pa"))
 | fail)
local macro_rules | `(tactic| wtm_at "roomH") => `(tactic| first | assumption | exact RoomH.mark (by assumption) (by decide) | exact RoomH.of (by assumption) (by decide) | exact RoomH.mono (by assumption) (by decide) | fail)
local macro_rules | `(tactic| wtm_at "room") => `(tactic| first | assumption | exact Room.mono (by assumption) (by decide) | fail)
local macro_rules | `(tactic| wtm_at "pa") => `(tactic| first | apply j_nil | (apply j_cons; (rfl); (wtm_at "pe"); (wtm_at "pa")) | fail)
local macro_rules | `(tactic| wtm_at "po") => `(tactic| first | apply j_onone | (apply j_osome; (wtm_at "pe")) | fail)
local macro_rules | `(tactic| wtm_at "pt") => `(tactic| first
 | (apply u_cmp; (decide); (decide); (wtm_at "cop"); (wtm_at "pe"); (wtm_at "pe"))
 | (apply u_or; (wtm_at "pw"))
 | (apply u_not; (wtm_at "pt"))
 | (apply u_call; (wtm_at "pe"))
 | fail)
local macro_rules | `(tactic| wtm_at "pw") => `(tactic| first
 | (apply w_or1; (wtm_at "pt"))
 | (apply w_or; (wtm_at "pt"); (wtm_at "pw"))
 | fail)
local macro_rules | `(tactic| wtm_at "pi") => `(tactic| first
 | (apply i_range1; (with_reducible rfl); (rfl); (assumption); (rfl); (wtm_at "pa"))
 | (apply k_seq; (wtm_at "K"); (wtm_at "pe"))
 | fail)
local macro_rules | `(tactic| wtm_at "pg") => `(tactic| first
 | (apply g_name; (wtm_at "at"); (assumption); (rfl))
 | (apply g_tup2; (wtm_at "at"); (wtm_at "at"); (rfl); (assumption); (rfl); (rfl); (rfl); (rfl); (rfl); (rfl))
 | fail)
local macro_rules | `(tactic| wtm_at "ps") => `(tactic| first
 | (apply s_set; (wtm_at "at"); (assumption); (rfl); (rfl); (wtm_at "pe"))
 | (apply s_setC; (wtm_at "at"); (assumption); (rfl); (rfl); (rfl); (wtm_at "pe"))
 | (apply s_if; (wtm_at "pt"); (wtm_at "pss"); (wtm_at "pss"))
 | (apply s_ret; (wtm_at "pe"))
 | (apply s_for; (exact PassesOwn.never); (rfl); (intro _; rfl); (wtm_at "pi"); (wtm_at "pg"); (wtm_at "pss"))
 | (apply s_expr; (rfl); (wtm_at "pe"))
 | (apply s_unpack2; (wtm_at "at"); (wtm_at "at"); (rfl); (assumption); (rfl); (rfl); (rfl); (rfl); (rfl); (rfl); (rfl); (rfl); (rfl); (wtm_at "pe"))
 | (apply s_ixset; (rfl); (rfl); (rfl); (intro _; rfl); (wtm_at "pe"); (wtm_at "pe"); (wtm_at "pe"))
 | (apply s_raise; (assumption); (rfl); (rfl); (exact throwF); (decide +kernel); (rfl); (wtm_at "pe"))
 | (apply s_try; (assumption); (rfl); (rfl); (rfl); (assumption); (wtm_at "at"); (rfl); (rfl); (decide +kernel); (wtm_at "pssx"); (intro ea; wtm_at "pss"))
 | fail)
local macro_rules | `(tactic| wtm_at "nd") => `(tactic| first | assumption | decide +kernel | fail)
local macro_rules | `(tactic| wtm_at "pf") => `(tactic| first | apply f_nil | (apply f_one; (wtm_at "pt")) | fail)
local macro_rules | `(tactic| wtm_at "pss") => `(tactic| first
 | (apply ss_cons; (wtm_at "ps"); (wtm_at "pss"))
 | apply ss_nil
 | fail)
local macro_rules | `(tactic| wtm_at "pex") => `(tactic| first
 | (apply x_call; (assumption); (wtm_at "room"); (rfl); (decide +kernel); (rfl); (rfl); (rfl); (wtm_at "pa"))
 | fail)
local macro_rules | `(tactic| wtm_at "psx") => `(tactic| first
 | (apply x_ret; (wtm_at "pex"))
 | fail)
local macro_rules | `(tactic| wtm_at "pssx") => `(tactic| first
 | (apply xx_cons; (wtm_at "psx"); (wtm_at "pssx"))
 | apply xx_nil
 | fail)
local macro_rules | `(tactic| wtm_at "body") => `(tactic| (refine' ss_cons ?a ?b; (case a => wtm_at "ps"); (case b => wtm_at "pss")))
local macro_rules | `(tactic| wtm_at "side") => `(tactic| first
 | (with_reducible exact IntMulOk.of_right (by decide))
 | (with_reducible exact IntMulOk.of_left (by decide))
 | (with_reducible refine CMulB.ok (mulB ?_ ?_) <;> omega)
 | (with_reducible refine mulB ?_ ?_ <;> omega)
 | (with_reducible refine divB ?_ ?_ <;> omega)
 | (show (0 : Int) < _; omega)
 | (show (0 : Int) < _; decide)
 | (exact ⟨by omega, by omega, by omega⟩)
 | fail)
local macro_rules | `(tactic| wtm_at "rd1") => `(tactic| first
 | refine ⟨_, rfl, ?_⟩
 | (refine ⟨_, _, rfl, rfl, ?c, ?_⟩; (case c => wtm_at "side"))
 | refine ⟨_, _, rfl, rfl, ?_⟩
 | refine .inl ⟨_, _, rfl, rfl, ?_⟩
 | refine ⟨_, _, rfl, ?_⟩
 | fail)
local macro_rules | `(tactic| wtm_at "rd") => `(tactic| repeat wtm_at "rd1")
namespace K07
def top (i : Nat) : Stmt := PySem.Challenge.pw_brimyard_k07_heaps_made.main.body.getD i (.Pass ⟨0, 0, 0, 0⟩)
abbrev sFolded : Stmt := top 26
abbrev sBegun : Stmt := top 27
abbrev sTake : Stmt := top 28
abbrev sWide : Stmt := top 29
def Mo (ps : List Addr) (H H' : Hp) : Prop := ∀ b o, b ∉ ps → H b = some o → H' b = some o
theorem Mo.refl {ps : List Addr} {H : Hp} : Mo ps H H := fun _ _ _ e => e
theorem Mo.trans {ps : List Addr} {H H' H'' : Hp} (a : Mo ps H H') (b : Mo ps H' H'') : Mo ps H H'' := fun c o n e => b c o n (a c o n e)
theorem Mo.of {ps : List Addr} {H H' : Hp} (s : L2.Same H H') : Mo ps H H' := fun b o _ e => s b o e
theorem Mo.put {ps : List Addr} {H : Hp} {p : Addr} {o : HO} (hp : p ∈ ps) : Mo ps H (L2.upd H p o) := fun b u n e => by rw [upd_ne (fun z => n (by rw [z]; exact hp))]; exact e
def Pot (n : Nat) (H : Hp) (p : Addr) : Prop := ∃ x y z : Int, H p = some (.lst [.int x, .int y, .int z]) ∧ 0 ≤ x ∧ 0 ≤ y ∧ y ≤ n ∧ 0 ≤ z ∧ z < 2147483647
theorem Pot.same {n : Nat} {H H' : Hp} {p : Addr} (h : Pot n H p) (s : L2.Same H H') : Pot n H' p := let ⟨x, y, z, e, a⟩ := h; ⟨x, y, z, s _ _ e, a⟩
theorem Pot.le {n m : Nat} {H : Hp} {p : Addr} (h : Pot n H p) (l : n ≤ m) : Pot m H p := let ⟨x, y, z, e, a, b, c, d⟩ := h; ⟨x, y, z, e, a, b, by omega, d⟩
section
variable {P : Program} {w : World} {K : PySem.W.Frag} {mg : Str → Option Value} {base : Heap}
theorem scBegun : FnScope ["cell", "rest"] ["cell"] (defScope sBegun) := ⟨rfl, rfl, rfl, by decide +kernel, rfl, by decide +kernel, by decide +kernel⟩
def spBegun : Sp := fun vs H Q _ => ∃ c : Int, vs = [.int c] ∧ ∀ (p : Addr) (H' : Hp), H p = none → L2.Same H H' → Pot 0 H' p → Q (.ref p) H'
theorem ok_begun {f : Addr} {fd : FuncData} (F : Fun K "_law_begun" "_law_begun" sBegun f fd) (mA : mg "abs" = none) : FnOk P w K mg base CX0 1 f fd ["cell"] spBegun := by
 refine Br.Fun.j F scBegun (fun vs H Q E h => ?_) (fun cdv A outer s H vs Q E hr h => ?_)
 · obtain ⟨_, rfl, _⟩ := h; rfl
 · obtain ⟨c, rfl, h⟩ := h
   have nd := scBegun.nd
   refine' ⟨_, ?d, ?r⟩
   case d => wtm_at "body"
   case r =>
    have e18 : (10 : Int) ^ Int.toNat 18 = 1000000000000000000 := by decide
    refine ⟨fun σ' H' => H' = H ∧ ∃ r : Int, 0 ≤ r ∧ σ' = [some (.int c), some (.int r)], ?_, ?_⟩
    · wtm_at "rd"
      refine ite2 (fun hc => ?_) (fun hc => ?_)
      · have hc := of_decide_eq_true hc
        rw [e18] at hc
        wtm_at "rd"
        exact ⟨rfl, _, by show (0 : Int) ≤ (if c < 0 then -c else c) - 10 ^ Int.toNat 18 + 1; rw [e18]; omega, rfl⟩
      · exact ⟨rfl, 0, by decide, rfl⟩
    · rintro σ' H' ⟨rfl, r, hr0, rfl⟩
      wtm_at "rd"
      refine ⟨lenLe (n := 3) rfl (by decide), fun l H1 n1 s1 e1 => h l H1 n1 s1 ⟨r, 0, _, e1, hr0, by decide, by decide, Int.emod_nonneg _ (by decide), Int.emod_lt_of_pos _ (by decide)⟩⟩
theorem scTake : FnScope ["pot", "size", "digit", "mixed"] ["pot", "size"] (defScope sTake) := ⟨rfl, rfl, rfl, by decide +kernel, rfl, by decide +kernel, by decide +kernel⟩
def spTake : Sp := fun vs H Q _ => ∃ (p : Addr) (n : Nat) (m : Int), vs = [.ref p, .int m] ∧ Pot n H p ∧ n ≤ 10 ^ 50 ∧ 0 < m ∧ m ≤ 10 ^ 13 ∧ ∀ (r : Int) (H' : Hp), Mo [p] H H' → Pot (n + 1) H' p → 0 ≤ r → r < m → Q (.int r) H'
theorem ok_take {f : Addr} {fd : FuncData} (F : Fun K "_law_take" "_law_take" sTake f fd) : FnOk P w K mg base CX0 1 f fd ["pot", "size"] spTake := by
 refine Br.Fun.j F scTake (fun vs H Q E h => ?_) (fun cdv A outer s H vs Q E hr h => ?_)
 · obtain ⟨_, _, _, rfl, _⟩ := h; rfl
 · obtain ⟨p, n, m, rfl, ⟨x, y, z, hp, hx, hy, hyn, hz, hz1⟩, hn, hm, hm2, h⟩ := h
   have nd := scTake.nd
   refine' ⟨_, ?d, ?r⟩
   case d => wtm_at "body"
   case r =>
    refine ⟨fun σ' H' => H' = H ∧ σ' = [some (.ref p), some (.int m), none, none], ?_, ?_⟩
    · refine ⟨_, rfl, .inl ⟨p, _, 0, _, rfl, rfl, SqL.of hp, (show atI [V.int x, V.int y, V.int z] 0 = some (.int x) from rfl), ?_⟩⟩
      wtm_at "rd"
      refine ite2 (fun hc => ?_) (fun _ => ⟨rfl, rfl⟩)
      refine ⟨_, rfl, .inl ⟨p, _, 0, _, rfl, rfl, SqL.of hp, (show atI [V.int x, V.int y, V.int z] 0 = some (.int x) from rfl), ?_⟩⟩
      wtm_at "rd"
      refine .inl ⟨p, _, 0, _, rfl, rfl, SqL.of hp, (show atI [V.int x, V.int y, V.int z] 0 = some (.int x) from rfl), ?_⟩
      refine ⟨_, rfl, _, _, rfl, rfl, divB hm (by omega), ?_⟩
      refine ⟨_, rfl, p, _, _, 0, rfl, rfl, hp, rfl, ?_⟩
      exact ⟨_, rfl, h _ _ (Mo.put (by simp)) ⟨x / m, y, z, upd_same, Int.ediv_nonneg hx (by omega), hy, by omega, hz, hz1⟩ (Int.emod_nonneg _ (by omega)) (Int.emod_lt_of_pos _ hm)⟩
    · rintro σ' H' ⟨rfl, rfl⟩
      refine ⟨_, rfl, .inl ⟨p, _, 1, _, rfl, rfl, SqL.of hp, (show atI [V.int x, V.int y, V.int z] 1 = some (.int y) from rfl), ?_⟩⟩
      wtm_at "rd"
      refine ⟨p, _, _, 1, rfl, rfl, hp, rfl, ?_⟩
      have e2 : upd H' p (.lst [.int x, .int (y + 1), .int z]) p = some (.lst [.int x, .int (y + 1), .int z]) := upd_same
      have m2 : Mo [p] H' (upd H' p (.lst [.int x, .int (y + 1), .int z])) := Mo.put (by simp)
      show tSeq _ _ _ _ (upd H' p (.lst [.int x, .int (y + 1), .int z]))
      generalize upd H' p (.lst [.int x, .int (y + 1), .int z]) = H2 at e2 m2
      have ix0 : atI [V.int x, V.int (y + 1), V.int z] 1 = some (.int (y + 1)) := rfl
      have ix2 : atI [V.int x, V.int (y + 1), V.int z] 2 = some (.int z) := rfl
      refine ⟨_, rfl, .inl ⟨p, _, 2, _, rfl, rfl, SqL.of e2, ix2, ?_⟩⟩
      refine ⟨_, rfl, .inl ⟨p, _, 1, _, rfl, rfl, SqL.of e2, ix0, ?_⟩⟩
      refine ⟨_, _, rfl, rfl, IntMulOk.of_left (intBits_le_64 (by decide) (by decide)), ?_⟩
      refine ⟨_, rfl, .inl ⟨p, _, 1, _, rfl, rfl, SqL.of e2, ix0, ?_⟩⟩
      refine ⟨_, _, rfl, rfl, CMulB.ok (mulB (by omega) (by omega)), .inl ⟨_, _, rfl, rfl, ?_⟩⟩
      refine ⟨_, rfl, .inl ⟨p, _, 1, _, rfl, rfl, SqL.of e2, ix0, ?_⟩⟩
      refine ⟨_, _, rfl, rfl, IntMulOk.of_left (intBits_le_64 (by decide) (by decide)), .inl ⟨_, _, rfl, rfl, .inl ⟨_, _, rfl, rfl, _, _, rfl, rfl, (show (0 : Int) < 2147483647 by decide), ?_⟩⟩⟩
      have hk0 : 0 ≤ (z + 977 * (y + 1) * (y + 1) + 40693 * (y + 1) + 1) % 2147483647 := Int.emod_nonneg _ (by decide)
      have hk1 : (z + 977 * (y + 1) * (y + 1) + 40693 * (y + 1) + 1) % 2147483647 < 2147483647 := Int.emod_lt_of_pos _ (by decide)
      generalize (z + 977 * (y + 1) * (y + 1) + 40693 * (y + 1) + 1) = kk at hk0 hk1
      refine ⟨_, rfl, _, rfl, _, _, rfl, rfl, IntMulOk.of_left (intBits_le_64 (by omega) (by omega)), _, _, rfl, rfl, (show (0 : Int) < 1000000007 by decide), _, _, rfl, rfl, IntMulOk.of_right (intBits_le_64 (by decide) (by decide)), _, _, rfl, rfl, (show (0 : Int) < 998244353 by decide), ?_⟩
      refine ⟨_, rfl, _, _, rfl, rfl, divB (by decide) (by decide), _, rfl, _, _, rfl, rfl, hm, ?_⟩
      exact h _ _ m2 ⟨x, y + 1, z, e2, hx, by omega, by omega, hz, hz1⟩ (Int.emod_nonneg _ (by omega)) (Int.emod_lt_of_pos _ hm)
theorem scWide : FnScope ["pot", "size", "number", "turn"] ["pot", "size"] (defScope sWide) := ⟨rfl, rfl, rfl, by decide +kernel, rfl, by decide +kernel, by decide +kernel⟩
def spWide : Sp := fun vs H Q _ => ∃ (p : Addr) (n : Nat) (m : Int), vs = [.ref p, .int m] ∧ Pot n H p ∧ n ≤ 10 ^ 49 ∧ 0 < m ∧ m ≤ 10 ^ 13 ∧ ∀ (r : Int) (H' : Hp), Mo [p] H H' → Pot (n + 10) H' p → 0 ≤ r → r < m → Q (.int r) H'
section
local macro_rules | `(tactic| wtm_at "call") => `(tactic| (apply k_bitl; (wtm_at "K"); (rfl); (rfl); (wtm_at "pe")))
theorem ok_wide {f : Addr} {fd : FuncData} (F : Fun K "_law_wide" "_law_wide" sWide f fd) (cT : Callee CX0 P w K mg base "_law_take" 1 ["pot", "size"] spTake) (mR : mg "range" = none) : FnOk P w K mg base CX0 2 f fd ["pot", "size"] spWide := by
 refine Br.Fun.j F scWide (fun vs H Q E h => ?_) (fun cdv A outer s H vs Q E hr h => ?_)
 · obtain ⟨_, _, _, rfl, _⟩ := h; rfl
 · obtain ⟨p, n, m, rfl, hp0, hn, hm, hm2, h⟩ := h
   have nd := scWide.nd
   obtain ⟨x, y, z, hp, _⟩ := id hp0
   refine' ⟨_, ?d, ?r⟩
   case d => wtm_at "body"
   case r =>
    refine ⟨fun σ' H' => H' = H ∧ 10 ^ 6 ≤ m ∧ σ' = [some (.ref p), some (.int m), none, none], ?_, ?_⟩
    · refine ⟨_, rfl, .inl ⟨p, _, 0, _, rfl, rfl, SqL.of hp, (show atI [V.int x, V.int y, V.int z] 0 = some (.int x) from rfl), ?_⟩⟩
      have tk : spTake [.ref p, .int m] H Q E0 := ⟨p, n, m, rfl, hp0, by omega, hm, hm2, fun r H' m1 p1 r0 r1 => h r H' m1 (p1.le (by omega)) r0 r1⟩
      wtm_at "rd"
      refine ite2 (fun hc => ?_) (fun hc => ?_)
      · exact iteT ⟨_, rfl, _, rfl, tk⟩
      · wtm_at "rd"
        refine ite2 (fun hc2 => ⟨_, rfl, _, rfl, tk⟩) (fun hc2 => ⟨rfl, ?_, rfl⟩)
        have e6 : (10 : Int) ^ Int.toNat 6 = 1000000 := by decide
        by_cases z : (10 : Int) ^ 6 ≤ m
        · exact z
        · exact absurd (decide_eq_true (show m < 10 ^ Int.toNat 6 by rw [e6]; omega)) hc2
    · rintro σ' H' ⟨rfl, hm6, rfl⟩
      have hb : Builtin.Int.intBits m ≤ 64 := intBits_le_64 (by omega) (by omega)
      refine ⟨_, rfl, rfl, m, rfl, rfl, ?_⟩
      generalize Builtin.Int.intBits m = bt at hb
      refine ⟨_, _, rfl, rfl, divB (by decide) (by decide), .inl ⟨_, _, rfl, rfl, ?_⟩⟩
      have hq0 : 0 ≤ (bt : Int) / 19 := Int.ediv_nonneg (by omega) (by decide)
      have hq1 : (bt : Int) / 19 ≤ 4 := by omega
      refine ⟨_, rfl, by omega, by omega, for_range (fun i σ G => Mo [p] H' G ∧ Pot (n + i) G p ∧ ∃ (nu : Int) (x3 : Option V), 0 ≤ nu ∧ σ = [some (.ref p), some (.int m), some (.int nu), x3]) ⟨Mo.refl, hp0, 0, none, by decide, rfl⟩ ?_ ?_⟩
      · rintro i σ G hi ⟨mG, pG, nu, x3, hnu, rfl⟩
        have hi7 : i < 8 := by omega
        refine ⟨_, rfl, _, _, rfl, rfl, IntMulOk.of_right (intBits_le_64 (by decide) (by decide)), ?_⟩
        refine ⟨_, rfl, p, n + i, 1000003, rfl, pG, by omega, by decide, by decide, fun r G1 m1 p1 r0 r1 => .inl ⟨_, _, rfl, rfl, ?_⟩⟩
        exact ⟨mG.trans m1, p1, nu * 1000003 + r, _, by omega, rfl⟩
      · rintro σ G ⟨mG, pG, nu, x3, hnu, rfl⟩
        refine ⟨_, rfl, _, rfl, _, _, rfl, rfl, hm, ?_⟩
        exact h _ _ mG (pG.le (by omega)) (Int.emod_nonneg _ (by omega)) (Int.emod_lt_of_pos _ hm)
end
end
section
local macro_rules | `(tactic| wtm_at "pi") => `(tactic| (apply EL.k_enum; (wtm_at "K"); (with_reducible rfl); (rfl); (assumption); (rfl); (wtm_at "pa")))
variable {P : Program} {w : World} {K : PySem.W.Frag} {mg : Str → Option Value} {base : Heap}
theorem scFolded : FnScope ["cells", "many", "found", "k", "cell"] ["cells", "many"] (defScope sFolded) := ⟨rfl, rfl, rfl, by decide +kernel, rfl, by decide +kernel, by decide +kernel⟩
def spFolded (K : PySem.W.Frag) : Sp := fun vs H Q _ => ∃ (a : Addr) (ns : List Int) (k : Int), vs = [.ref a, .int k] ∧ SqL K H a (ns.map V.int) ∧ 1 ≤ k ∧ k ≤ 100 ∧
 ∀ (l : Addr) (zs : List Int) (H' : Hp), H l = none → L2.Same H H' → H' l = some (.lst (zs.map V.int)) → (zs.length : Int) ≤ k → Q (.ref l) H'
theorem ok_folded {f : Addr} {fd : FuncData} (F : Fun K "_law_folded" "_law_folded" sFolded f fd) (mE : mg "enumerate" = none) (mL : mg "len" = none) (mX : mg "max" = none) (mN : mg "min" = none) : FnOk P w K mg base CX0 1 f fd ["cells", "many"] (spFolded K) := by
 refine Br.Fun.j F scFolded (fun vs H Q E h => ?_) (fun cdv A outer s H vs Q E hr h => ?_)
 · obtain ⟨_, _, _, rfl, _⟩ := h; rfl
 · obtain ⟨a, ns, k, rfl, ha, hk1, hk2, h⟩ := h
   have nd := scFolded.nd
   have hsz : (sizeLine : Nat) = 16777216 := sizeLine_eq
   refine' ⟨_, ?d, ?r⟩
   case d => wtm_at "body"
   case r =>
    refine ⟨lenLe (n := 1) rfl (by decide), fun l0 H1 n1 s1 e1 => ?_⟩
    refine ⟨_, rfl, _, rfl, .inl ⟨a, _, rfl, .inl (s1.seq ha), ?_⟩⟩
    wtm_at "rd"
    generalize hL : ((ns.map V.int).length : Int) = Ln
    have hL0 : 0 ≤ Ln := by omega
    generalize hm : (if (if Ln > 1 then Ln else 1) < k then (if Ln > 1 then Ln else 1) else k) = mx
    have hmx : 1 ≤ mx ∧ mx ≤ k := by
     rw [← hm]
     constructor <;> (repeat' split) <;> omega
    have s1a := s1.seq ha
    refine ⟨l0, mx, _, rfl, rfl, e1, by omega, by omega, by rw [hsz, List.length_singleton]; omega, fun l H2 n2 s2 e2 => ?_⟩
    have s12 := s1.trans s2
    have hl0 : H l = none := by
     cases q : H l with
     | none => rfl
     | some o => have := s1 _ _ q; rw [n2] at this; cases this
    refine ⟨_, rfl, a, _, rfl, s12.seq ha, ?_⟩
    have e2' : H2 l = some (.lst ((List.replicate mx.toNat (0 : Int)).map V.int)) := by
     rw [e2]
     congr 2
     induction mx.toNat with
     | zero => rfl
     | succ m ih => rw [List.replicate_succ, List.replicate_succ, List.flatten_cons, ih]; rfl
    refine EL.for_enum (K := K) (a := a) (xs := ns.map V.int) (fun i σ G => L2.Same H G ∧ ∃ (zs : List Int) (x3 x4 : Option V), G l = some (.lst (zs.map V.int)) ∧ (zs.length : Int) = mx ∧ σ = [some (.ref a), some (.int k), some (.ref l), x3, x4])
     ⟨s12, _, none, none, e2', by rw [List.length_replicate]; omega, rfl⟩ (fun i σ G _ ⟨sG, _⟩ => sG.seq ha) ?_ ?_
    · rintro i x σ G T hx ⟨sG, zs, x3, x4, eG, hzl, rfl⟩ nT
      rw [List.getElem?_map] at hx
      obtain ⟨c, hc, rfl⟩ := Option.map_eq_some_iff.mp hx
      have sT : L2.Same G (upd G T (.tup [.int (i : Int), .int c])) := Br.Same.upd nT
      generalize hG1 : upd G T (.tup [.int (i : Int), .int c]) = G1 at sT
      have eT : G1 T = some (.tup [.int (i : Int), .int c]) := by rw [← hG1]; exact upd_same
      have eG1 := sT _ _ eG
      have hlen : ((zs.map V.int).length : Int) = mx := by rw [List.length_map]; exact hzl
      have hm0 := Int.emod_nonneg (i : Int) (show mx ≠ 0 by omega)
      have hm1 := Int.emod_lt_of_pos (i : Int) (show 0 < mx by omega)
      refine ⟨T, _, rfl, SqT.of eT, rfl, _, _, rfl, _, _, rfl, rfl, ?_⟩
      obtain ⟨v, _, hv1, hv2⟩ := atI_ints (zs := zs) (i := (i : Int) % mx) hm0 (by omega)
      refine ⟨_, rfl, _, rfl, _, rfl, .inl ⟨l, _, rfl, .inl (SqL.of eG1), ?_⟩⟩
      rw [hlen]
      refine ⟨_, _, rfl, rfl, (show (0 : Int) < mx by omega), .inl ⟨l, _, _, _, rfl, rfl, SqL.of eG1, hv2, ?_⟩⟩
      refine ⟨_, _, rfl, rfl, IntMulOk.of_right (intBits_le_64 (by decide) (by decide)), _, rfl, .inl ⟨_, _, rfl, rfl, ?_⟩⟩
      refine ⟨_, rfl, _, rfl, _, rfl, .inl ⟨l, _, rfl, .inl (SqL.of eG1), ?_⟩⟩
      rw [hlen]
      refine ⟨_, _, rfl, rfl, (show (0 : Int) < mx by omega), ?_⟩
      have hix : ixN (zs.map V.int).length ((i : Int) % mx) = some ((i : Int) % mx).toNat := by
       unfold ixN
       rw [List.length_map]
       rw [if_pos hm0, if_pos (by omega)]
      refine ⟨l, _, _, _, rfl, rfl, eG1, hix, ?_⟩
      have hle : ∀ o, L2.Same H (upd G1 l o) := fun o b u e => by rw [upd_ne (ne_of_none e hl0)]; exact (sG.trans sT) _ _ e
      exact ⟨hle _, zs.set ((i : Int) % mx).toNat (v * 7 + c), _, _, by rw [upd_same, List.map_set], by rw [List.length_set]; exact hzl, rfl⟩
    · rintro σ G ⟨sG, zs, x3, x4, eG, hzl, rfl⟩
      exact ⟨_, rfl, h l zs G hl0 sG eG (by omega)⟩
end
section
variable {P : Program} {w : World} {K : PySem.W.Frag} {mg : Str → Option Value} {base : Heap}
abbrev sNeed : Stmt := top 30
abbrev sSize : Stmt := top 31
theorem scNeed : FnScope ["pot", "some"] ["pot"] (defScope sNeed) := ⟨rfl, rfl, rfl, by decide +kernel, rfl, by decide +kernel, by decide +kernel⟩
def spNeed : Sp := fun vs H Q _ => ∃ (p : Addr) (n : Nat), vs = [.ref p] ∧ Pot n H p ∧ n ≤ 10 ^ 48 ∧ ∀ (r : Int) (H' : Hp), Mo [p] H H' → Pot (n + 20) H' p → 1 ≤ r → r ≤ 10 ^ 12 → Q (.int r) H'
theorem ok_need {f : Addr} {fd : FuncData} (F : Fun K "_law_need" "_law_need" sNeed f fd) (cT : Callee CX0 P w K mg base "_law_take" 1 ["pot", "size"] spTake) (cW : Callee CX0 P w K mg base "_law_wide" 2 ["pot", "size"] spWide) : FnOk P w K mg base CX0 3 f fd ["pot"] spNeed := by
 refine Br.Fun.j F scNeed (fun vs H Q E h => ?_) (fun cdv A outer s H vs Q E hr h => ?_)
 · obtain ⟨_, _, rfl, _⟩ := h; rfl
 · obtain ⟨p, n, rfl, hp, hn, h⟩ := h
   have nd := scNeed.nd
   refine' ⟨_, ?d, ?r⟩
   case d => wtm_at "body"
   case r =>
    have e12 : (10 : Int) ^ Int.toNat 12 = 1000000000000 := by decide
    refine ⟨_, rfl, p, n, 12, rfl, hp, by omega, by decide, by decide, fun r1 H1 m1 p1 a1 b1 => .inl ⟨_, _, rfl, rfl, ?_⟩⟩
    refine ⟨_, rfl, p, n + 1, 60, rfl, p1, by omega, by decide, by decide, fun r2 H2 m2 p2 a2 b2 => .inl ⟨_, _, rfl, rfl, ?_⟩⟩
    refine ⟨_, rfl, ?_⟩
    wtm_at "rd"
    refine ⟨p, n + 2, _, rfl, p2, by omega, by decide, by decide, fun r3 H3 m3 p3 a3 b3 => .inl ⟨_, _, rfl, rfl, ?_⟩⟩
    wtm_at "rd"
    refine ⟨lenLe (n := 5) rfl (by decide), fun l H4 nl s4 e4 => ?_⟩
    refine ⟨_, rfl, _, rfl, p, n + 12, 5, rfl, p3.same s4, by omega, by decide, by decide, fun r5 H5 m5 p5 a5 b5 => ?_⟩
    obtain ⟨z, hz, _, ez⟩ := atI_ints (zs := [1 + r1, 1 + r2, 100, 1 + r3, 10 ^ 12]) (i := r5) (by omega) (by simp; omega)
    have hlp : l ≠ p := fun z => by obtain ⟨_, _, _, e, _⟩ := p3; rw [z, e] at nl; cases nl
    refine .inl ⟨l, _, _, _, rfl, rfl, SqL.of (m5 _ _ (fun y => hlp (List.mem_singleton.mp y)) e4), ez, ?_⟩
    have hz' : 1 ≤ z ∧ z ≤ 10 ^ 12 := by rw [e12] at b3; simp at hz; omega
    exact h z H5 (m1.trans (m2.trans (m3.trans ((Mo.of s4).trans m5)))) (p5.le (by omega)) hz'.1 hz'.2
end
section
variable {P : Program} {w : World} {K : PySem.W.Frag} {mg : Str → Option Value} {base : Heap}
theorem scSize : FnScope ["pot", "need", "some"] ["pot", "need"] (defScope sSize) := ⟨rfl, rfl, rfl, by decide +kernel, rfl, by decide +kernel, by decide +kernel⟩
def spSize : Sp := fun vs H Q _ => ∃ (p : Addr) (n : Nat) (need : Int), vs = [.ref p, .int need] ∧ Pot n H p ∧ n ≤ 10 ^ 48 ∧ 1 ≤ need ∧ need ≤ 10 ^ 12 ∧ ∀ (r : Int) (H' : Hp), Mo [p] H H' → Pot (n + 20) H' p → 1 ≤ r → r ≤ 10 ^ 12 → Q (.int r) H'
theorem ok_size {f : Addr} {fd : FuncData} (F : Fun K "_law_size" "_law_size" sSize f fd) (cT : Callee CX0 P w K mg base "_law_take" 1 ["pot", "size"] spTake) (cW : Callee CX0 P w K mg base "_law_wide" 2 ["pot", "size"] spWide) (mX : mg "max" = none) (mN : mg "min" = none) : FnOk P w K mg base CX0 3 f fd ["pot", "need"] spSize := by
 refine Br.Fun.j F scSize (fun vs H Q E h => ?_) (fun cdv A outer s H vs Q E hr h => ?_)
 · obtain ⟨_, _, _, rfl, _⟩ := h; rfl
 · obtain ⟨p, n, need, rfl, hp, hn, hd1, hd2, h⟩ := h
   have nd := scSize.nd
   have hsz : (sizeLine : Nat) = 16777216 := sizeLine_eq
   refine' ⟨_, ?d, ?r⟩
   case d => wtm_at "body"
   case r =>
    have e12 : (10 : Int) ^ Int.toNat 12 = 1000000000000 := by decide
    wtm_at "rd"
    refine ⟨p, n, 9, rfl, hp, by omega, by decide, by decide, fun r1 H1 m1 p1 a1 b1 => .inl ⟨_, _, rfl, rfl, ?_⟩⟩
    wtm_at "rd"
    refine ⟨lenLe (n := 8) rfl (by decide), fun l1 H2 n2 s2 e2 => ?_⟩
    have p2 := p1.same s2
    have h1p : l1 ≠ p := fun z => by obtain ⟨_, _, _, e, _⟩ := p1; rw [z, e] at n2; cases n2
    refine ⟨_, rfl, _, rfl, _, rfl, p, n + 1, need, rfl, p2, by omega, by omega, by omega, fun r3 H3 m3 p3 a3 b3 => .inl ⟨_, _, rfl, rfl, ?_⟩⟩
    refine ⟨_, rfl, p, n + 11, 12, rfl, p3, by omega, by decide, by decide, fun r4 H4 m4 p4 a4 b4 => .inl ⟨_, _, rfl, rfl, ?_⟩⟩
    wtm_at "rd"
    refine ⟨lenLe (n := 4) rfl (by decide), fun l2 H5 n5 s5 e5 => ?_⟩
    have e2' := s5 _ _ (m4 _ _ (fun z => h1p (List.mem_singleton.mp z)) (m3 _ _ (fun z => h1p (List.mem_singleton.mp z)) e2))
    refine .inr (.inl ⟨l1, l2, _, _, rfl, rfl, e2', e5, by rw [hsz]; show (8 + 4 : Nat) ≤ _; decide, fun l3 H6 n6 s6 e6 => ?_⟩)
    have p6 := (p4.same s5).same s6
    have h3p : l3 ≠ p := fun z => by obtain ⟨_, _, _, e, _⟩ := p4.same s5; rw [z, e] at n6; cases n6
    wtm_at "rd"
    refine ⟨p, n + 12, 12, rfl, p6, by omega, by decide, by decide, fun r7 H7 m7 p7 a7 b7 => ?_⟩
    obtain ⟨z, _, _, ez⟩ := atI_ints (zs := [need / 2, need / 2 + 1, need / 3 + 1, need - 1, need, need + r1, 1, need / 7, 1 + r3, 1 + r4, need / 4 + 1, need / 5]) (i := r7) (by omega) (by simp; omega)
    refine .inl ⟨l3, _, _, _, rfl, rfl, SqL.of (m7 _ _ (fun y => h3p (List.mem_singleton.mp y)) e6), ez, ?_⟩
    refine ⟨_, _, rfl, _, _, rfl, ?_⟩
    have q1 : 1 ≤ (if (if z < (10 : Int) ^ Int.toNat 12 then z else 10 ^ Int.toNat 12) > 1 then (if z < (10 : Int) ^ Int.toNat 12 then z else 10 ^ Int.toNat 12) else 1) := by (repeat' split) <;> omega
    have q2 : (if (if z < (10 : Int) ^ Int.toNat 12 then z else 10 ^ Int.toNat 12) > 1 then (if z < (10 : Int) ^ Int.toNat 12 then z else 10 ^ Int.toNat 12) else 1) ≤ 10 ^ 12 := by rw [e12]; (repeat' split) <;> omega
    exact h _ H7 (m1.trans ((Mo.of s2).trans (m3.trans (m4.trans ((Mo.of s5).trans ((Mo.of s6).trans m7)))))) (p7.le (by omega)) q1 q2
end
def Kind (H : Hp) (v : V) (q : Int × Int) : Prop := ∃ r : Addr, v = .ref r ∧ H r = some (.tup [.int q.1, .int q.2])
def Kinds (H : Hp) (vs : List V) (qs : List (Int × Int)) : Prop := vs.length = qs.length ∧ ∀ (i : Nat) (v : V), vs[i]? = some v → ∃ q, qs[i]? = some q ∧ Kind H v q
structure HOk8 (need : Int) (qs : List (Int × Int)) : Prop where
 len : qs.length ≤ 16
 n0 : 1 ≤ need
 n1 : need ≤ 10 ^ 12
 bd : ∀ q ∈ qs, 1 ≤ q.1 ∧ q.1 ≤ 10 ^ 12 ∧ 1 ≤ q.2 ∧ q.2 ≤ 10 ^ 13
 ris : Ris qs
def HeapAt (H : Hp) (h : Addr) (need : Int) (qs : List (Int × Int)) : Prop := ∃ (t : Addr) (o : Obj) (vs : List V), H h = some (.tup [.int need, .ref t]) ∧ bareT o ∧ H t = some (.frz o (.tup vs)) ∧ Kinds H vs qs ∧ HOk8 need qs
def IsT (o : HO) : Prop := (∃ xs, o = .tup xs) ∨ ∃ ob xs, o = .frz ob (.tup xs)
theorem Kinds.mo {H H' : Hp} {vs : List V} {qs : List (Int × Int)} (k : Kinds H vs qs) (m : ∀ b o, H b = some o → IsT o → H' b = some o) : Kinds H' vs qs :=
 ⟨k.1, fun i v e => let ⟨q, h1, r, h2, h3⟩ := k.2 i v e; ⟨q, h1, r, h2, m _ _ h3 (.inl ⟨_, rfl⟩)⟩⟩
theorem Kinds.same {H H' : Hp} {vs : List V} {qs : List (Int × Int)} (k : Kinds H vs qs) (s : L2.Same H H') : Kinds H' vs qs := k.mo fun b o e _ => s _ _ e
theorem Kinds.nil {H : Hp} : Kinds H [] [] := ⟨rfl, fun i v e => by simp at e⟩
theorem Kinds.snoc {H : Hp} {vs : List V} {qs : List (Int × Int)} {r : Addr} {q : Int × Int} (k : Kinds H vs qs) (e : H r = some (.tup [.int q.1, .int q.2])) : Kinds H (vs ++ [.ref r]) (qs ++ [q]) := by
 have k1 := k.1
 refine ⟨by rw [List.length_append, List.length_append, k1]; rfl, fun i v h => ?_⟩
 by_cases hi : i < vs.length
 · rw [List.getElem?_append_left hi] at h
   obtain ⟨q', h1, h2⟩ := k.2 i v h
   exact ⟨q', by rw [List.getElem?_append_left (by omega)]; exact h1, h2⟩
 · have hi2 : i = vs.length := by have := (List.getElem?_eq_some_iff.mp h).1; rw [List.length_append] at this; simp at this; omega
   subst hi2
   rw [List.getElem?_append_right (Nat.le_refl _), Nat.sub_self] at h
   simp at h
   exact ⟨q, by rw [k1, List.getElem?_append_right (Nat.le_refl _), Nat.sub_self]; rfl, r, h.symm, e⟩
def Tu (H H' : Hp) : Prop := ∀ b o, H b = some o → IsT o → H' b = some o
theorem Tu.of {H H' : Hp} (s : L2.Same H H') : Tu H H' := fun b o e _ => s b o e
theorem Tu.trans {H H' H'' : Hp} (a : Tu H H') (b : Tu H' H'') : Tu H H'' := fun c o e x => b c o (a c o e x) x
theorem Tu.mo {n : Nat} {p : Addr} {H H' : Hp} (hp : Pot n H p) (m : Mo [p] H H') : Tu H H' := fun b o e x => by
 refine m b o (fun z => ?_) e
 rw [List.mem_singleton.mp z] at e
 obtain ⟨_, _, _, e2, _⟩ := hp
 rcases x with ⟨xs, rfl⟩ | ⟨ob, xs, rfl⟩ <;> (rw [e2] at e; cases e)
theorem HeapAt.tu {H H' : Hp} {h : Addr} {need : Int} {qs : List (Int × Int)} (x : HeapAt H h need qs) (m : Tu H H') : HeapAt H' h need qs :=
 let ⟨t, o, vs, a, bo, b, c, d⟩ := x; ⟨t, o, vs, m _ _ a (.inl ⟨_, rfl⟩), bo, m _ _ b (.inr ⟨_, _, rfl⟩), c.mo m, d⟩
theorem cnt_take {zs : List Int} {i : Nat} {z : Int} (h : zs[i]? = some z) (n : Int) : (zs.take (i + 1)).count n = (zs.take i).count n + (if z = n then 1 else 0) := by
 rw [List.take_add_one, h]
 show (zs.take i ++ [z]).count n = _
 rw [List.count_append]
 by_cases e : z = n
 · rw [if_pos e, e]; simp
 · rw [if_neg e, List.count_cons_of_ne e, List.count_nil]
def CntIs (ks : List (Int × Int)) (zs : List Int) : Prop := ∀ n, dlook ks n = if zs.count n = 0 then none else some ((zs.count n : Nat) : Int)
theorem CntIs.step {ks : List (Int × Int)} {zs : List Int} {i : Nat} {z : Int} (h : CntIs ks (zs.take i)) (e : zs[i]? = some z) : CntIs (dput ks z ((dlook ks z).getD 0 + 1)) (zs.take (i + 1)) := fun n => by
 rw [dput_look, cnt_take e n]
 by_cases hz : z = n
 · subst hz
   rw [if_pos rfl, if_pos rfl, if_neg (by omega), h z]
   by_cases h0 : (zs.take i).count z = 0
   · rw [if_pos h0, h0]; rfl
   · rw [if_neg h0]; show some (((zs.take i).count z : Nat) + 1 : Int) = _; congr 1
 · rw [if_neg hz, if_neg hz, h n]; rfl
section
local macro_rules | `(tactic| wtm_at "pe") => `(tactic| first | (apply j_dget2; (assumption); (rfl); (rfl); (rfl); (rfl); (wtm_at "pe"); (wtm_at "pe"); (wtm_at "pe")) | (apply j_dget; (assumption); (exact fun _ _ => rfl); (wtm_at "pe"); (wtm_at "pe")))
local macro_rules | `(tactic| wtm_at "ps") => `(tactic| (apply s_dput; (assumption); (rfl); (wtm_at "pe"); (wtm_at "pe"); (wtm_at "pe")))
variable {P : Program} {w : World} {K : PySem.W.Frag} {mg : Str → Option Value} {base : Heap}
abbrev sCo : Stmt := top 19
theorem scCo : FnScope ["sizes", "counts", "size"] ["sizes"] (defScope sCo) := ⟨rfl, rfl, rfl, by decide +kernel, rfl, by decide +kernel, by decide +kernel⟩
def spCo (K : PySem.W.Frag) : Sp := fun vs H Q _ => ∃ (a : Addr) (zs : List Int), vs = [.ref a] ∧ (SqT K H a (zs.map V.int) ∨ H a = some (.lst (zs.map V.int))) ∧ zs.length ≤ 200 ∧
 ∀ (d : Addr) (ks : List (Int × Int)) (H' : Hp), H d = none → L2.Same H H' → H' d = some (.dK (vv2 ks)) → (ks.map (·.1)).Nodup → CntIs ks zs → ks.length ≤ 200 → Q (.ref d) H'
theorem ok_co {f : Addr} {fd : FuncData} (F : Fun K "counts_of" "counts_of" sCo f fd) : FnOk P w K mg base CX0 1 f fd ["sizes"] (spCo K) := by
 refine Br.Fun.j F scCo (fun vs H Q E h => ?_) (fun cdv A outer s H vs Q E hr h => ?_)
 · obtain ⟨_, _, rfl, _⟩ := h; rfl
 · obtain ⟨a, zs, rfl, ha, hzl, h⟩ := h
   have nd := scCo.nd
   have hsz : (sizeLine : Nat) = 16777216 := sizeLine_eq
   refine' ⟨_, ?d, ?r⟩
   case d => wtm_at "body"
   case r =>
    refine fun d H1 hd s1 e1 => ?_
    rcases ha with ha | ha
    · refine ⟨_, rfl, a, rfl, .inr ⟨⟨_, seqT s1 ha⟩, ?_⟩⟩
      refine for_tup (K := K) (a := a) (xs := zs.map V.int) (fun i σ G => L2.Same H G ∧ ∃ (ks : List (Int × Int)) (x2 : Option V), G d = some (.dK (vv2 ks)) ∧ (ks.map (·.1)).Nodup ∧ CntIs ks (zs.take i) ∧ ks.length ≤ i ∧ σ = [some (.ref a), some (.ref d), x2])
       ⟨s1, [], none, e1, List.nodup_nil, fun n => rfl, Nat.le_refl _, rfl⟩ (fun i σ G _ ⟨sG, _⟩ => seqT sG ha) ?_ ?_
      · rintro i x σ G hx ⟨sG, ks, x2, eG, hnd, hc, hkl, rfl⟩
        rw [List.getElem?_map] at hx
        obtain ⟨z, hz, rfl⟩ := Option.map_eq_some_iff.mp hx
        have hil : i < zs.length := (List.getElem?_eq_some_iff.mp hz).1
        have dg := DGet.k (k := .inl z) eG
        rw [val_vv2] at dg
        have hlen : (vv2 ks).length = ks.length := by unfold vv2; rw [List.length_map]
        have gd : ((dlook ks z).map V.int).getD (.int 0) = .int ((dlook ks z).getD 0) := by cases dlook ks z <;> rfl
        refine ⟨_, rfl, d, rfl, .inl ⟨_, .inl eG⟩, _, rfl, _, dg, ?_⟩
        rw [gd]
        refine .inl ⟨_, _, rfl, rfl, ?_⟩
        refine ⟨_, rfl, _, rfl, d, _, rfl, DPut.k (k := .inl z) eG (by rw [hlen]; omega), fun b o e => ?_, dput ks z ((dlook ks z).getD 0 + 1), _, by rw [upd_same, put_vv2], dput_nodup _ _ hnd, hc.step hz, ?_, rfl⟩
        · rw [upd_ne (ne_of_none e hd)]; exact sG _ _ e
        · have := dput_len ks z ((dlook ks z).getD 0 + 1); omega
      · rintro σ G ⟨sG, ks, x2, eG, hnd, hc, hkl, rfl⟩
        rw [List.length_map, List.take_length] at hc
        exact ⟨_, rfl, h d ks G hd sG eG hnd hc (by rw [List.length_map] at hkl; omega)⟩
    · refine ⟨_, rfl, a, rfl, .inl ⟨⟨_, SqL.of (s1 _ _ ha)⟩, ?_⟩⟩
      refine for_list (K := K) (a := a) (xs := zs.map V.int) (fun i σ G => L2.Same H G ∧ ∃ (ks : List (Int × Int)) (x2 : Option V), G d = some (.dK (vv2 ks)) ∧ (ks.map (·.1)).Nodup ∧ CntIs ks (zs.take i) ∧ ks.length ≤ i ∧ σ = [some (.ref a), some (.ref d), x2])
       ⟨s1, [], none, e1, List.nodup_nil, fun n => rfl, Nat.le_refl _, rfl⟩ (fun i σ G _ ⟨sG, _⟩ => SqL.of (sG _ _ ha)) ?_ ?_
      · rintro i x σ G hx ⟨sG, ks, x2, eG, hnd, hc, hkl, rfl⟩
        rw [List.getElem?_map] at hx
        obtain ⟨z, hz, rfl⟩ := Option.map_eq_some_iff.mp hx
        have hil : i < zs.length := (List.getElem?_eq_some_iff.mp hz).1
        have dg := DGet.k (k := .inl z) eG
        rw [val_vv2] at dg
        have hlen : (vv2 ks).length = ks.length := by unfold vv2; rw [List.length_map]
        have gd : ((dlook ks z).map V.int).getD (.int 0) = .int ((dlook ks z).getD 0) := by cases dlook ks z <;> rfl
        refine ⟨_, rfl, d, rfl, .inl ⟨_, .inl eG⟩, _, rfl, _, dg, ?_⟩
        rw [gd]
        refine .inl ⟨_, _, rfl, rfl, ?_⟩
        refine ⟨_, rfl, _, rfl, d, _, rfl, DPut.k (k := .inl z) eG (by rw [hlen]; omega), fun b o e => ?_, dput ks z ((dlook ks z).getD 0 + 1), _, by rw [upd_same, put_vv2], dput_nodup _ _ hnd, hc.step hz, ?_, rfl⟩
        · rw [upd_ne (ne_of_none e hd)]; exact sG _ _ e
        · have := dput_len ks z ((dlook ks z).getD 0 + 1); omega
      · rintro σ G ⟨sG, ks, x2, eG, hnd, hc, hkl, rfl⟩
        rw [List.length_map, List.take_length] at hc
        exact ⟨_, rfl, h d ks G hd sG eG hnd hc (by rw [List.length_map] at hkl; omega)⟩
end
def tot (qs : List (Int × Int)) : Int := (qs.map fun q => q.1 * q.2).sum
section
variable {P : Program} {w : World} {K : PySem.W.Frag} {mg : Str → Option Value} {base : Heap}
abbrev sTot : Stmt := top 21
theorem scTot : FnScope ["heap"] ["heap"] (defScope sTot) := ⟨rfl, rfl, rfl, by decide +kernel, rfl, by decide +kernel, by decide +kernel⟩
def spTot : Sp := fun vs H Q _ => ∃ (h : Addr) (need : Int) (qs : List (Int × Int)), vs = [.ref h] ∧ HeapAt H h need qs ∧ ∀ H', L2.Same H H' → Q (.int (tot qs)) H'
theorem ok_tot {f : Addr} {fd : FuncData} (F : Fun K "total_of" "total_of" sTot f fd) (mU : mg "sum" = none) : FnOk P w K mg base CX0 1 f fd ["heap"] spTot := by
 refine Br.Fun.j F scTot (fun vs H Q E h => ?_) (fun cdv A outer s H vs Q E hr h => ?_)
 · obtain ⟨_, _, _, rfl, _⟩ := h; rfl
 · obtain ⟨hp, need, qs, rfl, ⟨t, ob, us, h1, hb, h2, h3, h4⟩, h⟩ := h
   have nd := scTot.nd
   have hul := h3.1
   have hsz : (sizeLine : Nat) = 16777216 := sizeLine_eq
   have hlen := h4.len
   have h2' : SqT K H t us := .inl (.inr ⟨_, h2⟩)
   refine' ⟨_, ?d, ?r⟩
   case d => wtm_at "body"
   case r =>
    refine ⟨_, rfl, .inr (.inl ⟨hp, _, _, _, rfl, rfl, SqT.of h1, (show atI [V.int need, V.ref t] 1 = some (.ref t) from rfl), ?_⟩)⟩
    refine ⟨t, rfl, .inr ⟨⟨_, h2'⟩, ?_⟩⟩
    refine cmp_tup (K := K) (a := t) (xs := us) (fun j ys σ G => G = H ∧ ys = ((qs.map fun q => q.1 * q.2).take j).map V.int ∧ ∃ x y : Option V, σ = [x, y, some (.ref hp)])
     ⟨rfl, rfl, none, none, rfl⟩ (by rw [hul]; omega) (fun j ys σ G _ ⟨e1, e2, _⟩ => ⟨by rw [e1]; exact h2', by rw [e2, List.length_map, List.length_take]; omega⟩) ?_ ?_
    · rintro j x ys σ G N hx ⟨rfl, rfl, x0, y0, rfl⟩ hN
      obtain ⟨q, hq, r, rfl, hrr⟩ := h3.2 j x hx
      obtain ⟨b1, b2, b3, b4⟩ := h4.bd q (List.mem_of_getElem? hq)
      refine ⟨r, _, rfl, SqT.of hrr, rfl, _, _, rfl, _, _, rfl, rfl, ?_⟩
      refine ⟨_, rfl, _, rfl, _, _, rfl, rfl, IntMulOk.of_left (intBits_le_64 (by omega) (by omega)), hN _ _ _ ⟨rfl, ?_, _, _, rfl⟩⟩
      rw [List.take_add_one, List.getElem?_map, hq, List.map_append]; rfl
    rintro ys σ G ⟨eG, rfl, x0, y0, rfl⟩ pl G1 hpl s1 e1
    rw [eG] at s1
    rw [List.take_of_length_le (by rw [List.length_map]; omega)] at e1
    exact ⟨pl, _, rfl, .inl (SqL.of e1), h G1 s1⟩
end
def thingsL (qs : List (Int × Int)) : List Int := qs.flatMap fun q => List.replicate q.2.toNat q.1
theorem things_app (ks : List (Int × Int)) (q : Int × Int) : thingsL (ks ++ [q]) = thingsL ks ++ List.replicate q.2.toNat q.1 := by
 unfold thingsL; rw [List.flatMap_append]; simp
theorem things_len {qs : List (Int × Int)} (h : ∀ q ∈ qs, 0 ≤ q.2) : ((thingsL qs).length : Int) = (qs.map (·.2)).sum := by
 induction qs with
 | nil => rfl
 | cons q qs ih =>
  have := ih fun x hx => h x (.tail _ hx)
  have h0 := h q (.head _)
  unfold thingsL at this ⊢
  rw [List.flatMap_cons, List.length_append, List.length_replicate, List.map_cons, List.sum_cons]
  omega
theorem sum_ge {qs : List (Int × Int)} (h : ∀ q ∈ qs, 0 ≤ q.2) : ∀ {q : Int × Int}, q ∈ qs → q.2 ≤ (qs.map (·.2)).sum := by
 induction qs with
 | nil => intro q hq; cases hq
 | cons r qs ih =>
  intro q hq
  have nn : ∀ l : List (Int × Int), (∀ q ∈ l, 0 ≤ q.2) → 0 ≤ (l.map (·.2)).sum := fun l => by
   induction l with
   | nil => intro _; exact Int.le_refl _
   | cons a l ih => intro h; have := ih fun x hx => h x (.tail _ hx); have := h a (.head _); rw [List.map_cons, List.sum_cons]; omega
  have h1 := nn qs fun x hx => h x (.tail _ hx)
  have h2 := h r (.head _)
  rw [List.map_cons, List.sum_cons]
  rcases List.mem_cons.mp hq with rfl | hq
  · omega
  · have := ih (fun x hx => h x (.tail _ hx)) hq; omega
theorem sum_take_le {qs : List (Int × Int)} (i : Nat) (h : ∀ q ∈ qs, 0 ≤ q.2) : ((qs.take i).map (·.2)).sum ≤ (qs.map (·.2)).sum := by
 have e := congrArg (fun l => (l.map (·.2)).sum) (List.take_append_drop i qs)
 simp only [List.map_append, List.sum_append] at e
 have nn : ∀ l : List (Int × Int), (∀ q ∈ l, 0 ≤ q.2) → 0 ≤ (l.map (·.2)).sum := fun l => by
  induction l with
  | nil => intro _; exact Int.le_refl _
  | cons a l ih => intro h; have := ih fun x hx => h x (.tail _ hx); have := h a (.head _); rw [List.map_cons, List.sum_cons]; omega
 have := nn (qs.drop i) fun x hx => h x (List.mem_of_mem_drop hx)
 omega
section
local macro_rules | `(tactic| wtm_at "ps") => `(tactic| fail)
variable {P : Program} {w : World} {K : PySem.W.Frag} {mg : Str → Option Value} {base : Heap}
abbrev sNThings : Stmt := top 22
theorem scNThings : FnScope ["heap"] ["heap"] (defScope sNThings) := ⟨rfl, rfl, rfl, by decide +kernel, rfl, by decide +kernel, by decide +kernel⟩
def spNThings : Sp := fun vs H Q _ => ∃ (h : Addr) (need : Int) (qs : List (Int × Int)), vs = [.ref h] ∧ HeapAt H h need qs ∧ ∀ H', L2.Same H H' → Q (.int (qs.map (·.2)).sum) H'
theorem ok_nthings {f : Addr} {fd : FuncData} (F : Fun K "number_of_things" "number_of_things" sNThings f fd) (mU : mg "sum" = none) : FnOk P w K mg base CX0 1 f fd ["heap"] spNThings := by
 refine Br.Fun.j F scNThings (fun vs H Q E h => ?_) (fun cdv A outer s H vs Q E hr h => ?_)
 · obtain ⟨_, _, _, rfl, _⟩ := h; rfl
 · obtain ⟨hp, need, qs, rfl, ⟨t, ob, us, h1, hb, h2, h3, h4⟩, h⟩ := h
   have nd := scNThings.nd
   have hul := h3.1
   have hsz : (sizeLine : Nat) = 16777216 := sizeLine_eq
   have hlen := h4.len
   have h2' : SqT K H t us := .inl (.inr ⟨_, h2⟩)
   refine' ⟨_, ?d, ?r⟩
   case d => wtm_at "body"
   case r =>
    refine ⟨_, rfl, .inr (.inl ⟨hp, _, _, _, rfl, rfl, SqT.of h1, (show atI [V.int need, V.ref t] 1 = some (.ref t) from rfl), ?_⟩)⟩
    refine ⟨t, rfl, .inr ⟨⟨_, h2'⟩, ?_⟩⟩
    refine cmp_tup (K := K) (a := t) (xs := us) (fun j ys σ G => G = H ∧ ys = (qs.take j).map (fun q => V.int q.2) ∧ ∃ x y : Option V, σ = [x, y, some (.ref hp)])
     ⟨rfl, rfl, none, none, rfl⟩ (by rw [hul]; omega) (fun j ys σ G _ ⟨e1, e2, _⟩ => ⟨by rw [e1]; exact h2', by rw [e2, List.length_map, List.length_take]; omega⟩) ?_ ?_
    · rintro j x ys σ G N hx ⟨rfl, rfl, x0, y0, rfl⟩ hN
      obtain ⟨q, hq, r, rfl, hrr⟩ := h3.2 j x hx
      refine ⟨r, _, rfl, SqT.of hrr, rfl, _, _, rfl, _, _, rfl, rfl, ?_⟩
      refine ⟨_, rfl, hN _ _ _ ⟨rfl, ?_, _, _, rfl⟩⟩
      rw [List.take_add_one, hq, List.map_append]; rfl
    rintro ys σ G ⟨eG, rfl, x0, y0, rfl⟩ pl G1 hpl s1 e1
    rw [eG] at s1
    rw [hul, List.take_length, show qs.map (fun q => V.int q.2) = (qs.map (·.2)).map V.int by rw [List.map_map]; rfl] at e1
    exact ⟨pl, _, rfl, .inl (SqL.of e1), h G1 s1⟩
end
section
local macro_rules | `(tactic| wtm_at "ps") => `(tactic| (apply s_if; (wtm_at "pt"); (apply ss_cons; (apply s_dead); (apply ss_nil)); (wtm_at "pss")))
variable {P : Program} {w : World} {K : PySem.W.Frag} {mg : Str → Option Value} {base : Heap}
abbrev sRefuse : Stmt := top 23
theorem scRefuse : FnScope ["heap", "most"] ["heap", "most"] (defScope sRefuse) := ⟨rfl, rfl, rfl, by decide +kernel, rfl, by decide +kernel, by decide +kernel⟩
def spRefuse : Sp := fun vs H Q _ => ∃ (h : Addr) (need : Int) (qs : List (Int × Int)), vs = [.ref h, .int 100] ∧ HeapAt H h need qs ∧ (qs.map (·.2)).sum ≤ 100 ∧ ∀ H', L2.Same H H' → Q .non H'
theorem ok_refuse {f : Addr} {fd : FuncData} (F : Fun K "refuse_above" "refuse_above" sRefuse f fd) (cN : Callee CX0 P w K mg base "number_of_things" 1 ["heap"] spNThings) : FnOk P w K mg base CX0 2 f fd ["heap", "most"] spRefuse := by
 refine Br.Fun.j F scRefuse (fun vs H Q E h => ?_) (fun cdv A outer s H vs Q E hr h => ?_)
 · obtain ⟨_, _, _, rfl, _⟩ := h; rfl
 · obtain ⟨hp, need, qs, rfl, hh, hs, h⟩ := h
   have nd := scRefuse.nd
   refine' ⟨_, ?d, ?r⟩
   case d => wtm_at "body"
   case r =>
    refine ⟨_, ?_, fun _ _ h => h⟩
    refine ⟨_, rfl, hp, need, qs, rfl, hh, fun H1 s1 => ?_⟩
    refine ⟨_, rfl, _, _, rfl, rfl, _, rfl, ite2 (fun hc => absurd (of_decide_eq_true hc) (by omega)) (fun _ => ?_)⟩
    exact h H1 s1
end
section
variable {P : Program} {w : World} {K : PySem.W.Frag} {mg : Str → Option Value} {base : Heap}
abbrev sThings : Stmt := top 24
theorem scThings : FnScope ["heap", "things", "size", "many"] ["heap"] (defScope sThings) := ⟨rfl, rfl, rfl, by decide +kernel, rfl, by decide +kernel, by decide +kernel⟩
def spThings : Sp := fun vs H Q _ => ∃ (h : Addr) (need : Int) (qs : List (Int × Int)), vs = [.ref h] ∧ HeapAt H h need qs ∧ (qs.map (·.2)).sum ≤ 100 ∧ ∀ (l : Addr) (H' : Hp), H l = none → L2.Same H H' → H' l = some (.lst ((thingsL qs).map V.int)) → Q (.ref l) H'
theorem ok_things {f : Addr} {fd : FuncData} (F : Fun K "things_of" "things_of" sThings f fd) (cR : Callee CX0 P w K mg base "refuse_above" 2 ["heap", "most"] spRefuse) (g1 : GInt mg "MOST_THINGS" 100) : FnOk P w K mg base CX0 3 f fd ["heap"] spThings := by
 refine Br.Fun.j F scThings (fun vs H Q E h => ?_) (fun cdv A outer s H vs Q E hr h => ?_)
 · obtain ⟨_, _, _, rfl, _⟩ := h; rfl
 · obtain ⟨hp, need, qs, rfl, hh, hs, h⟩ := h
   have nd := scThings.nd
   have hsz : (sizeLine : Nat) = 16777216 := sizeLine_eq
   refine' ⟨_, ?d, ?r⟩
   case d => wtm_at "body"
   case r =>
    refine ⟨_, rfl, hp, need, qs, rfl, hh, hs, fun H1 s1 => ?_⟩
    obtain ⟨t, ob, us, h1, hb, h2, h3, h4⟩ := id hh
    have hul := h3.1
    refine ⟨by simp, fun l H2 nl s2 e2 => ?_⟩
    have nlH : H l = none := by
     cases q : H l with
     | none => rfl
     | some o => have := s1 _ _ q; rw [nl] at this; cases this
    have sq : ∀ {G : Hp}, L2.Same H G → SqT K G t us := fun s => .inl (.inr ⟨_, s _ _ h2⟩)
    have s12 := s1.trans s2
    refine ⟨_, rfl, .inr (.inl ⟨hp, _, _, _, rfl, rfl, SqT.of (s12 _ _ h1), (show atI [V.int need, V.ref t] 1 = some (.ref t) from rfl), ?_⟩)⟩
    refine ⟨t, rfl, .inr ⟨⟨_, sq s12⟩, ?_⟩⟩
    refine for_tup (K := K) (a := t) (xs := us) (fun i σ G => L2.Same H G ∧ G l = some (.lst ((thingsL (qs.take i)).map V.int)) ∧ ∃ x2 x3 : Option V, σ = [some (.ref hp), some (.ref l), x2, x3])
     ⟨s12, e2, none, none, rfl⟩ (fun i σ G _ ⟨sG, _⟩ => sq sG) ?_ ?_
    · rintro i x σ G hx ⟨sG, eG, x2, x3, rfl⟩
      obtain ⟨q, hq, r, rfl, hrr⟩ := h3.2 i x hx
      refine ⟨r, _, rfl, SqT.of (sG _ _ hrr), rfl, _, _, rfl, _, _, rfl, rfl, ?_⟩
      have hqb := h4.bd q (List.mem_of_getElem? hq)
      have hq100 : q.2 ≤ 100 := by
       have := sum_ge (qs := qs) (fun x hx => by have := (h4.bd x hx).2.2.1; omega) (List.mem_of_getElem? hq)
       omega
      have htl : (thingsL (qs.take i)).length ≤ 100 := by
       have e := things_len (qs := qs.take i) fun x hx => by have := (h4.bd x (List.mem_of_mem_take hx)).2.2.1; omega
       have e2 := sum_take_le (qs := qs) i fun x hx => by have := (h4.bd x hx).2.2.1; omega
       omega
      refine ⟨_, rfl, .inl ⟨rfl, _, SqL.of eG⟩, ?_⟩
      refine ⟨_, rfl, lenLe (n := 1) rfl (by decide), fun l1 G1 n1 s1' e1 => ?_⟩
      refine ⟨_, rfl, l1, q.2, _, rfl, rfl, e1, by omega, by omega, by rw [List.length_singleton, hsz]; omega, fun l3 G2 n3 s3 e3 => ?_⟩
      have eG2 := (s1'.trans s3) _ _ eG
      have hfl : (List.replicate q.2.toNat [V.int q.1]).flatten = (List.replicate q.2.toNat q.1).map V.int := by
       rw [List.map_replicate]; induction q.2.toNat with
       | zero => rfl
       | succ n ih => rw [List.replicate_succ, List.flatten_cons, ih, List.replicate_succ]; rfl
      rw [hfl] at e3
      refine ⟨l, l3, _, _, rfl, rfl, eG2, e3, by rw [List.length_map, List.length_map, List.length_replicate, hsz]; omega, fun b o e => ?_, ?_, _, _, rfl⟩
      · rw [upd_ne (ne_of_none e nlH)]; exact (s1'.trans s3) _ _ (sG _ _ e)
      · rw [upd_same, List.take_add_one, hq, show (some q).toList = [q] from rfl, things_app, List.map_append]
    · rintro σ G ⟨sG, eG, x2, x3, rfl⟩
      rw [hul, List.take_length] at eG
      exact ⟨_, rfl, h l G nlH sG eG⟩
end
def isW : PyData → Bool
 | .int _ => true
 | _ => false
def isSz : PyData → Bool
 | .int i => decide (1 ≤ i) && decide (i ≤ 1000000000000)
 | _ => false
section
variable {P : Program} {w : World} {K : PySem.W.Frag} {mg : Str → Option Value} {base : Heap}
abbrev sWhole : Stmt := top 13
theorem scWhole : FnScope ["thing"] ["thing"] (defScope sWhole) := ⟨rfl, rfl, rfl, by decide +kernel, rfl, by decide +kernel, by decide +kernel⟩
def spWhole : Sp := fun vs H Q _ => ∃ v d, vs = [v] ∧ Rep H v d ∧ Q (.bl (isW d)) H
theorem ok_whole {f : Addr} {fd : FuncData} (F : Fun K "is_whole" "is_whole" sWhole f fd) (mI : mg "isinstance" = none) (mN : mg "int" = none) (mB : mg "bool" = none) : FnOk P w K mg base CX0 1 f fd ["thing"] spWhole := by
 refine Br.Fun.j F scWhole (fun vs H Q E h => ?_) (fun cdv A outer s H vs Q E hr h => ?_)
 · obtain ⟨_, _, rfl, _⟩ := h; rfl
 · obtain ⟨v, d, rfl, rep, h⟩ := h
   have nd := scWhole.nd
   refine' ⟨_, ?d, ?r⟩
   case d => wtm_at "body"
   case r =>
    wtm_at "rd"
    cases rep with
    | non => exact Or.inl ⟨_, _, _, _, rfl, .of TyOf.non, rfl, _, rfl, iteF h⟩
    | bl b =>
     refine Or.inl ⟨_, _, _, _, rfl, .of (TyOf.bl _), rfl, _, rfl, iteT ?_⟩
     wtm_at "rd"
     exact Or.inl ⟨_, _, _, _, rfl, .of (TyOf.bl _), rfl, _, rfl, h⟩
    | int i =>
     refine Or.inl ⟨_, _, _, _, rfl, .of (TyOf.int _), rfl, _, rfl, iteT ?_⟩
     wtm_at "rd"
     exact Or.inl ⟨_, _, _, _, rfl, .of (TyOf.int _), rfl, _, rfl, h⟩
    | str x => exact Or.inl ⟨_, _, _, _, rfl, .of (TyOf.str _), rfl, _, rfl, iteF h⟩
    | tup e r => exact Or.inl ⟨_, _, _, _, rfl, .of (TyOf.tup e), rfl, _, rfl, iteF h⟩
    | lst e r => exact Or.inl ⟨_, _, _, _, rfl, .of (TyOf.lst e), rfl, _, rfl, iteF h⟩
abbrev sIsSize : Stmt := top 18
theorem scIsSize : FnScope ["thing"] ["thing"] (defScope sIsSize) := ⟨rfl, rfl, rfl, by decide +kernel, rfl, by decide +kernel, by decide +kernel⟩
def spIsSize : Sp := fun vs H Q _ => ∃ v d, vs = [v] ∧ Rep H v d ∧ Q (.bl (isSz d)) H
theorem ok_isSize {f : Addr} {fd : FuncData} (F : Fun K "is_size" "is_size" sIsSize f fd) (cW : Callee CX0 P w K mg base "is_whole" 1 ["thing"] spWhole) (g2 : GInt mg "GREATEST" 1000000000000) : FnOk P w K mg base CX0 2 f fd ["thing"] spIsSize := by
 refine Br.Fun.j F scIsSize (fun vs H Q E h => ?_) (fun cdv A outer s H vs Q E hr h => ?_)
 · obtain ⟨_, _, rfl, _⟩ := h; rfl
 · obtain ⟨v, d, rfl, rep, h⟩ := h
   have nd := scIsSize.nd
   refine' ⟨_, ?d, ?r⟩
   case d => wtm_at "body"
   case r =>
    refine ⟨_, rfl, v, d, rfl, rep, _, rfl, ite2 (fun hc => ?_) (fun hc => ?_)⟩
    · cases rep with
      | int i =>
       refine ⟨_, rfl, _, _, rfl, rfl, _, rfl, ite2 (fun h1 => ⟨_, _, rfl, rfl, ?_⟩) (fun h1 => ?_)⟩
       · have e2 : isSz (.int i) = decide (i ≤ 1000000000000) := by show (decide (1 ≤ i) && decide (i ≤ 1000000000000)) = _; rw [h1, Bool.true_and]
         rw [e2] at h; exact h
       · have e2 : isSz (.int i) = false := by show (decide (1 ≤ i) && decide (i ≤ 1000000000000)) = _; rw [eq_false_of_ne_true h1]; rfl
         rw [e2] at h; exact h
      | _ => cases hc
    · cases rep with
      | int i => exact absurd rfl hc
      | _ => exact h
end
theorem few_keys {ms bs : List Int} (nd : ms.Nodup) (h : ∀ m ∈ ms, m ∈ bs) : ms.length ≤ bs.length := by
 induction ms generalizing bs with
 | nil => exact Nat.zero_le _
 | cons m ms ih =>
  rw [List.nodup_cons] at nd
  have hm := h m (.head _)
  have := ih (bs := bs.erase m) nd.2 fun x hx => by
   have hne : x ≠ m := fun z => nd.1 (z ▸ hx)
   exact (List.mem_erase_of_ne hne).mpr (h x (.tail _ hx))
  rw [List.length_erase_of_mem hm] at this
  have := List.length_pos_of_mem hm
  rw [List.length_cons]; omega
def PsOf (ps : List (Int × Int)) (zs : List Int) : Prop := ∀ q, q ∈ ps ↔ q.1 ∈ zs ∧ q.2 = ((zs.count q.1 : Nat) : Int)
theorem PsOf.of {ks : List (Int × Int)} {zs : List Int} (nd : (ks.map (·.1)).Nodup) (h : CntIs ks zs) : PsOf ks zs := fun q => by
 rw [dlook_mem nd, h q.1]
 by_cases e : zs.count q.1 = 0
 · rw [if_pos e]
   refine ⟨fun z => (nomatch z), fun z => absurd z.1 (List.count_eq_zero.mp e)⟩
 · rw [if_neg e]
   refine ⟨fun z => ⟨List.count_pos_iff.mp (by omega), by injection z with z; exact z.symm⟩, fun z => by rw [z.2]⟩
theorem isSz_of {n : Int} (h1 : 1 ≤ n) (h2 : n ≤ 10 ^ 12) : isSz (.int n) = true := by
 show (decide (1 ≤ n) && decide (n ≤ 1000000000000)) = true
 rw [decide_eq_true h1, decide_eq_true (by omega)]; rfl
def LsTp (H : Hp) (l : Addr) (vs : List V) : Prop := H l = some (.lst vs) ∨ H l = some (.tup vs)
theorem LsTp.same {H H' : Hp} {l : Addr} {vs : List V} (x : LsTp H l vs) (s : L2.Same H H') : LsTp H' l vs := x.imp (s _ _) (s _ _)
section
local macro_rules | `(tactic| wtm_at "pe") => `(tactic| (apply k_sortIt; (rfl); (rfl); (rfl); (rfl); (rfl); (assumption); (rfl); (rfl); (rfl); (wtm_at "pe")))
local macro_rules | `(tactic| wtm_at "call") => `(tactic| first | (apply k_tupleF; (rfl); (rfl); (rfl); (wtm_at "K"); (with_reducible rfl); (assumption); (wtm_at "pa")) | (apply k_isiA; (wtm_at "K"); (rfl); (rfl); (rfl); (with_reducible rfl); (assumption); (wtm_at "pa")) | (apply k_lenD; (wtm_at "K"); (rfl); (rfl); (rfl); (with_reducible rfl); (assumption); (wtm_at "pa")))
local macro_rules | `(tactic| wtm_at "ps") => `(tactic| (apply s_if; (wtm_at "pt"); (apply ss_cons; (apply s_dead); (apply ss_nil)); (wtm_at "pss")))
variable {P : Program} {w : World} {K : PySem.W.Frag} {mg : Str → Option Value} {base : Heap}
abbrev sMade : Stmt := top 20
theorem scMade : FnScope ["need", "sizes", "counts"] ["need", "sizes"] (defScope sMade) := ⟨rfl, rfl, rfl, by decide +kernel, rfl, by decide +kernel, by decide +kernel⟩
def spMade : Sp := fun vs H Q _ => ∃ (l : Addr) (need : Int) (zs bs : List Int), vs = [.int need, .ref l] ∧ LsTp H l (zs.map V.int) ∧ zs.length ≤ 100 ∧ 1 ≤ need ∧ need ≤ 10 ^ 12 ∧ (∀ z ∈ zs, 1 ≤ z ∧ z ≤ 10 ^ 12 ∧ z ∈ bs) ∧ bs.length ≤ 8 ∧
 ∀ (h' : Addr) (ps : List (Int × Int)) (H' : Hp), L2.Same H H' → HeapAt H' h' need ps → PsOf ps zs → Q (.ref h') H'
theorem ok_made {f : Addr} {fd : FuncData} (F : Fun K "made_heap" "made_heap" sMade f fd) (cS : Callee CX0 P w K mg base "is_size" 2 ["thing"] spIsSize) (cC : Callee CX0 P w K mg base "counts_of" 1 ["sizes"] (spCo K)) (g1 : GInt mg "MOST_KINDS" 8) (g2 : GInt mg "MOST_THINGS" 100)
 (mI : mg "isinstance" = none) (mT : mg "tuple" = none) (mLi : mg "list" = none) (mL : mg "len" = none) (mA : mg "all" = none) (mS : mg "sorted" = none) : FnOk P w K mg base CX0 3 f fd ["need", "sizes"] spMade := by
 refine Br.Fun.j F scMade (fun vs H Q E h => ?_) (fun cdv A outer s H vs Q E hr h => ?_)
 · obtain ⟨_, _, _, _, rfl, _⟩ := h; rfl
 · obtain ⟨l, need, zs, bs, rfl, hl, hzl, n0, n1, hz, hbl, h⟩ := h
   have nd := scMade.nd
   have hsz : (sizeLine : Nat) = 16777216 := sizeLine_eq
   refine' ⟨_, ?d, ?r⟩
   case d => wtm_at "body"
   case r =>
    refine ⟨fun σ' H' => H' = H ∧ σ' = [some (.int need), some (.ref l), none], ?_, ?_⟩
    · refine ⟨_, rfl, _, .int need, rfl, .int need, _, rfl, ?_⟩
      rw [isSz_of n0 n1]
      exact iteF ⟨rfl, rfl⟩
    rintro σ' H' ⟨rfl, rfl⟩
    refine ⟨fun σ' H1 => L2.Same H' H1 ∧ σ' = [some (.int need), some (.ref l), none], ?_, ?_⟩
    · wtm_at "rd"
      refine ⟨lenLe (n := 2) rfl (by decide), fun tp G1 nt q1 e1 => ?_⟩
      have ty : ∃ t, TyOf K G1 (.ref l) (.type t) ∧ PySem.W.kitAny K (.type t) ([(.type "list"), (.type "tuple")] : List Value) = some true := by
       rcases hl with y | y
       · exact ⟨"list", .lst (q1 _ _ y), rfl⟩
       · exact ⟨"tuple", .tup (q1 _ _ y), rfl⟩
      obtain ⟨t, t1, t2⟩ := ty
      refine ⟨_, _, tp, ["list", "tuple"], true, rfl, t1, (fun _ z => nomatch z), e1, t2, _, rfl, iteF ?_⟩
      wtm_at "rd"
      rcases hl with y | y
      · refine .inl (.inl ⟨l, _, rfl, .inl (SqL.of (q1 _ _ y)), ?_⟩)
        refine ⟨_, _, rfl, rfl, _, rfl, ite2 (fun hc => absurd (of_decide_eq_true hc) (by rw [List.length_map]; omega)) (fun _ => ⟨q1, rfl⟩)⟩
      · refine .inl (.inl ⟨l, _, rfl, .inr (SqT.of (q1 _ _ y)), ?_⟩)
        refine ⟨_, _, rfl, rfl, _, rfl, ite2 (fun hc => absurd (of_decide_eq_true hc) (by rw [List.length_map]; omega)) (fun _ => ⟨q1, rfl⟩)⟩
    rintro σ' H1 ⟨s1, rfl⟩
    have hl1 := hl.same s1
    refine ⟨fun σ' H2 => L2.Same H' H2 ∧ σ' = [some (.int need), some (.ref l), none], ?_, ?_⟩
    · rcases hl1 with hl1 | hl1
      · refine ⟨_, rfl, l, rfl, .inl ⟨⟨_, SqL.of hl1⟩, ?_⟩⟩
        refine cmp_list (K := K) (a := l) (xs := zs.map V.int) (fun i ys σ G => G = H1 ∧ ys = (List.replicate i true).map V.bl ∧ ∃ x0 : Option V, σ = [x0, some (.int need), some (.ref l), none])
         ⟨rfl, rfl, none, rfl⟩ (by rw [List.length_map]; omega) (fun i ys σ G _ ⟨eG, e, _⟩ => ⟨by rw [eG]; exact SqL.of hl1, by rw [e, List.length_map, List.length_replicate]; omega⟩) ?_ ?_
        · rintro i v ys σ G N hv ⟨rfl, rfl, x0, rfl⟩ hN
          rw [List.getElem?_map] at hv
          obtain ⟨n, hni, rfl⟩ := Option.map_eq_some_iff.mp hv
          obtain ⟨b1, b2, _⟩ := hz n (List.mem_of_getElem? hni)
          refine ⟨_, rfl, _, .int n, rfl, .int n, hN _ _ _ ⟨rfl, ?_, _, rfl⟩⟩
          rw [isSz_of b1 b2, List.replicate_succ', List.map_append]; rfl
        rintro ys σ G ⟨rfl, rfl, x0, rfl⟩ pl G2 npl s2 e3
        refine ⟨pl, _, rfl, SqL.of e3, ?_⟩
        have hall : (List.replicate (zs.map V.int).length true).all id = true := by rw [List.all_eq_true]; intro x hx; exact List.eq_of_mem_replicate hx
        refine ⟨_, rfl, ite2 (fun hc => absurd (show (!(List.replicate (zs.map V.int).length true).all id) = true from hc) (by rw [hall]; decide)) (fun _ => ⟨s1.trans s2, rfl⟩)⟩
      · refine ⟨_, rfl, l, rfl, .inr ⟨⟨_, SqT.of hl1⟩, ?_⟩⟩
        refine cmp_tup (K := K) (a := l) (xs := zs.map V.int) (fun i ys σ G => G = H1 ∧ ys = (List.replicate i true).map V.bl ∧ ∃ x0 : Option V, σ = [x0, some (.int need), some (.ref l), none])
         ⟨rfl, rfl, none, rfl⟩ (by rw [List.length_map]; omega) (fun i ys σ G _ ⟨eG, e, _⟩ => ⟨by rw [eG]; exact SqT.of hl1, by rw [e, List.length_map, List.length_replicate]; omega⟩) ?_ ?_
        · rintro i v ys σ G N hv ⟨rfl, rfl, x0, rfl⟩ hN
          rw [List.getElem?_map] at hv
          obtain ⟨n, hni, rfl⟩ := Option.map_eq_some_iff.mp hv
          obtain ⟨b1, b2, _⟩ := hz n (List.mem_of_getElem? hni)
          refine ⟨_, rfl, _, .int n, rfl, .int n, hN _ _ _ ⟨rfl, ?_, _, rfl⟩⟩
          rw [isSz_of b1 b2, List.replicate_succ', List.map_append]; rfl
        rintro ys σ G ⟨rfl, rfl, x0, rfl⟩ pl G2 npl s2 e3
        refine ⟨pl, _, rfl, SqL.of e3, ?_⟩
        have hall : (List.replicate (zs.map V.int).length true).all id = true := by rw [List.all_eq_true]; intro x hx; exact List.eq_of_mem_replicate hx
        refine ⟨_, rfl, ite2 (fun hc => absurd (show (!(List.replicate (zs.map V.int).length true).all id) = true from hc) (by rw [hall]; decide)) (fun _ => ⟨s1.trans s2, rfl⟩)⟩
    rintro σ' H2 ⟨s2, rfl⟩
    refine ⟨_, rfl, l, zs, rfl, (hl.same s2).symm.imp SqT.of id, by omega, fun d ks H3 hd s3 e3 hnd hc hkl => ?_⟩
    have hps := PsOf.of hnd hc
    have hk8 : ks.length ≤ 8 := by
     have := few_keys hnd (bs := bs) fun m hm => by
      obtain ⟨q, hq, rfl⟩ := List.mem_map.mp hm
      exact (hz q.1 ((hps q).mp hq).1).2.2
     rw [List.length_map] at this; omega
    have hlen : (vv2 ks).length = ks.length := by unfold vv2; rw [List.length_map]
    refine ⟨fun σ' H4 => H4 = H3 ∧ σ' = [some (.int need), some (.ref l), some (.ref d)], ?_, ?_⟩
    · refine ⟨_, rfl, .inr ⟨d, _, rfl, e3, ?_⟩⟩
      rw [hlen]
      exact ⟨_, _, rfl, rfl, _, rfl, ite2 (fun hc => absurd (of_decide_eq_true hc) (by omega)) (fun _ => ⟨rfl, rfl⟩)⟩
    rintro σ' H4 ⟨rfl, rfl⟩
    refine ⟨_, rfl, _, rfl, d, ks, rfl, e3, fun lb bs2 ps H5 nl s5 e5 hbl2 hbt hpm hpw => ?_⟩
    obtain ⟨si1, si2⟩ := sort_items hnd hpm hpw
    have hk4 : Kinds H5 (bs2.map V.ref) ps := ⟨by rw [List.length_map]; exact hbl2, fun i v e => by
     rw [List.getElem?_map] at e
     obtain ⟨b, hb3, rfl⟩ := Option.map_eq_some_iff.mp e
     obtain ⟨q, e5, e6⟩ := hbt i b hb3
     exact ⟨q, e5, b, rfl, e6⟩⟩
    refine ⟨lb, _, rfl, SqL.of e5, fun tt ob5 H6 n6 b6 s6 e6 => ?_⟩
    refine ⟨lenLe (n := 2) rfl (by decide), fun h' H7 n7 s7 e7 => ?_⟩
    have hpsz : PsOf ps zs := fun q => (si2 q).trans (hps q)
    refine h h' ps H7 (s2.trans (s3.trans (s5.trans (s6.trans s7)))) ⟨tt, ob5, _, e7, b6, s7 _ _ e6, hk4.same (s6.trans s7), ⟨by rw [hpm.length_eq]; omega, n0, n1, fun q hq => ?_, si1⟩⟩ hpsz
    obtain ⟨c1, c2⟩ := (hpsz q).mp hq
    obtain ⟨d1, d2, _⟩ := hz q.1 c1
    have := List.count_pos_iff.mpr c1
    have := List.count_le_length (a := q.1) (l := zs)
    exact ⟨d1, d2, by omega, by omega⟩
end
section
local macro_rules | `(tactic| wtm_at "pe") => `(tactic| (apply k_sortIt; (rfl); (rfl); (rfl); (rfl); (rfl); (assumption); (rfl); (rfl); (rfl); (wtm_at "pe")))
local macro_rules | `(tactic| wtm_at "call") => `(tactic| first | (apply k_tupleF; (rfl); (rfl); (rfl); (wtm_at "K"); (with_reducible rfl); (assumption); (wtm_at "pa")) | (apply k_isiA; (wtm_at "K"); (rfl); (rfl); (rfl); (with_reducible rfl); (assumption); (wtm_at "pa")) | (apply k_lenD; (wtm_at "K"); (rfl); (rfl); (rfl); (with_reducible rfl); (assumption); (wtm_at "pa")))
variable {P : Program} {w : World} {K : PySem.W.Frag} {mg : Str → Option Value} {base : Heap}
theorem TyOf.same {H H' : Hp} {v : V} {t : Value} (x : TyOf K H v t) (s : L2.Same H H') : TyOf K H' v t := by
 cases x with
 | non => exact .non
 | bl b => exact .bl b
 | int i => exact .int i
 | str y => exact .str y
 | flt y => exact .flt y
 | lst e => exact .lst (s _ _ e)
 | frz e => exact .frz (s _ _ e)
 | tup e => exact .tup (s _ _ e)
 | dK e => exact .dK (s _ _ e)
 | dT e => exact .dT (s _ _ e)
 | ins e c a b d m => exact .ins (s _ _ e) c a b d m
def NoSizes (K : PySem.W.Frag) (H : Hp) (v : V) : Prop :=
 (∃ t, TyOf K H v (.type t) ∧ PySem.W.kitAny K (.type t) ([(.type "list"), (.type "tuple")] : List Value) = some false) ∨
 ∃ (l : Addr) (xs : List V) (ds : List PyData), v = .ref l ∧ H l = some (.lst xs) ∧ Reps H xs ds ∧ (100 < ds.length ∨ (ds.length ≤ 100 ∧ ((∃ d ∈ ds, isSz d = false) ∨ ∃ zs ns : List Int, xs = zs.map V.int ∧ (∀ z ∈ zs, 1 ≤ z ∧ z ≤ 10 ^ 12) ∧ ns.Nodup ∧ 8 < ns.length ∧ ∀ n ∈ ns, n ∈ zs)))
def spMadeX (K : PySem.W.Frag) (C : Addr) : Sp := fun vs H _ E => ∃ (v u : V) (d : PyData), vs = [v, u] ∧ Rep H v d ∧ (isSz d = false ∨ (isSz d = true ∧ NoSizes K H u)) ∧ ∀ H', L2.Same H H' → E (.ref C) none H'
theorem ok_madeX {f : Addr} {fd : FuncData} {C B : Addr} (F : Fun K "made_heap" "made_heap" sMade f fd) (eR : ECls K mg "NoHeap" C B) (cS : Callee CX0 P w K mg base "is_size" 2 ["thing"] spIsSize) (cC : Callee CX0 P w K mg base "counts_of" 1 ["sizes"] (spCo K)) (g1 : GInt mg "MOST_KINDS" 8) (g2 : GInt mg "MOST_THINGS" 100)
 (mI : mg "isinstance" = none) (mT : mg "tuple" = none) (mLi : mg "list" = none) (mL : mg "len" = none) (mA : mg "all" = none) (mS : mg "sorted" = none) : FnOk P w K mg base (CXF P w) 3 f fd ["need", "sizes"] (spMadeX K C) := by
 refine Br.Fun.jX F scMade (fun vs H Q E h => ?_) (fun cdv A outer s H vs Q E hr h => ?_)
 · obtain ⟨_, _, _, rfl, _⟩ := h; rfl
 · obtain ⟨v, u, d, rfl, rep, hbad, h⟩ := h
   have nd := scMade.nd
   have hsz : (sizeLine : Nat) = 16777216 := sizeLine_eq
   refine' ⟨_, ?d, ?r⟩
   case d => wtm_at "body"
   case r =>
    by_cases hd : isSz d = true
    · obtain hz : NoSizes K H u := hbad.elim (fun z => absurd hd (by rw [z]; decide)) (fun z => z.2)
      refine ⟨fun σ' H' => H' = H ∧ σ' = [some v, some u, none], ?_, ?_⟩
      · refine ⟨_, rfl, v, d, rfl, rep, _, rfl, ?_⟩
        rw [hd]
        exact iteF ⟨rfl, rfl⟩
      rintro σ' H' ⟨rfl, rfl⟩
      rcases hz with ⟨t, t1, t2⟩ | ⟨l, xs, ds, rfl, hl, hr2, hz⟩
      · refine ⟨fun _ _ => False, ?_, fun _ _ h => h.elim⟩
        wtm_at "rd"
        refine ⟨lenLe (n := 2) rfl (by decide), fun tp G1 nt q1 e1 => ?_⟩
        exact ⟨_, _, tp, ["list", "tuple"], false, rfl, TyOf.same t1 q1, (fun _ z => nomatch z), e1, t2, _, rfl, iteT (h G1 q1)⟩
      have hxl := hr2.length
      by_cases h100 : 100 < ds.length
      · refine ⟨fun _ _ => False, ?_, fun _ _ h => h.elim⟩
        wtm_at "rd"
        refine ⟨lenLe (n := 2) rfl (by decide), fun tp G1 nt q1 e1 => ?_⟩
        refine ⟨_, _, tp, ["list", "tuple"], true, rfl, .lst (q1 _ _ hl), (fun _ z => nomatch z), e1, rfl, _, rfl, iteF ?_⟩
        wtm_at "rd"
        refine .inl (.inl ⟨l, _, rfl, .inl (SqL.of (q1 _ _ hl)), ?_⟩)
        exact ⟨_, _, rfl, rfl, _, rfl, ite2 (fun hc => h G1 q1) (fun hc => absurd (decide_eq_true (by omega)) hc)⟩
      have hz := (hz.resolve_left h100).2
      refine ⟨fun σ' H1 => L2.Same H' H1 ∧ σ' = [some v, some (.ref l), none], ?_, ?_⟩
      · wtm_at "rd"
        refine ⟨lenLe (n := 2) rfl (by decide), fun tp G1 nt q1 e1 => ?_⟩
        refine ⟨_, _, tp, ["list", "tuple"], true, rfl, .lst (q1 _ _ hl), (fun _ z => nomatch z), e1, rfl, _, rfl, iteF ?_⟩
        wtm_at "rd"
        refine .inl (.inl ⟨l, _, rfl, .inl (SqL.of (q1 _ _ hl)), ?_⟩)
        exact ⟨_, _, rfl, rfl, _, rfl, ite2 (fun hc => absurd (of_decide_eq_true hc) (by omega)) (fun hc => ⟨q1, rfl⟩)⟩
      rintro σ' H1 ⟨s1, rfl⟩
      have hl1 := s1 _ _ hl
      refine ⟨fun σ' H2 => L2.Same H' H2 ∧ ds.all isSz = true ∧ σ' = [some v, some (.ref l), none], ?_, ?_⟩
      · refine ⟨_, rfl, l, rfl, .inl ⟨⟨_, SqL.of hl1⟩, ?_⟩⟩
        refine cmp_list (K := K) (a := l) (xs := xs) (fun i ys σ G => G = H1 ∧ ys = ((ds.take i).map isSz).map V.bl ∧ ∃ x0 : Option V, σ = [x0, some v, some (.ref l), none])
         ⟨rfl, rfl, none, rfl⟩ (by omega) (fun i ys σ G _ ⟨eG, e, _⟩ => ⟨by rw [eG]; exact SqL.of hl1, by rw [e, List.length_map, List.length_map, List.length_take]; omega⟩) ?_ ?_
        · rintro i x ys σ G N hv ⟨rfl, rfl, x0, rfl⟩ hN
          obtain ⟨dx, hdx, rx⟩ := hr2.get hv
          refine ⟨_, rfl, _, dx, rfl, rx.mono s1, hN _ _ _ ⟨rfl, ?_, _, rfl⟩⟩
          rw [List.take_add_one, hdx, List.map_append, List.map_append]; rfl
        rintro ys σ G ⟨rfl, rfl, x0, rfl⟩ pl G2 npl s2 e3
        rw [List.take_of_length_le (by omega)] at e3
        refine ⟨pl, _, rfl, SqL.of e3, ?_⟩
        refine ⟨_, rfl, ite2 (fun hc => h G2 (s1.trans s2)) (fun hc => ⟨s1.trans s2, ?_, rfl⟩)⟩
        have hc : ((ds.map isSz).all id) = true := by
         cases q : (ds.map isSz).all id with
         | true => rfl
         | false => exact absurd (show (!(ds.map isSz).all id) = true by rw [q]; rfl) hc
        rw [List.all_map] at hc
        exact hc
      rintro σ' H2 ⟨s2, hall, rfl⟩
      rcases hz with ⟨dx, hdx, hb⟩ | ⟨zs, ns, rfl, hzb, hnd, hn8, hns⟩
      · have := List.all_eq_true.mp hall dx hdx
        rw [hb] at this; cases this
      have hzl : zs.length ≤ 100 := by rw [List.length_map] at hxl; omega
      refine ⟨_, rfl, l, zs, rfl, .inr (s2 _ _ hl), by omega, fun d' ks H3 hd3 s3 e3 hnd3 hc hkl => ?_⟩
      have hps := PsOf.of hnd3 hc
      have hk8 : ns.length ≤ ks.length := by
       have := few_keys hnd (bs := ks.map (·.1)) fun m hm => by
        have hm := hns m hm
        exact List.mem_map.mpr ⟨(m, ((zs.count m : Nat) : Int)), (hps _).mpr ⟨hm, rfl⟩, rfl⟩
       rw [List.length_map] at this; exact this
      have hlen : (vv2 ks).length = ks.length := by unfold vv2; rw [List.length_map]
      refine ⟨fun _ _ => False, ?_, fun _ _ h => h.elim⟩
      refine ⟨_, rfl, .inr ⟨d', _, rfl, e3, ?_⟩⟩
      rw [hlen]
      exact ⟨_, _, rfl, rfl, _, rfl, ite2 (fun hc => h H3 (s2.trans s3)) (fun hc => absurd (decide_eq_true (by omega)) hc)⟩
    · refine ⟨fun _ _ => False, ?_, fun _ _ h => h.elim⟩
      refine ⟨_, rfl, v, d, rfl, rep, _, rfl, ?_⟩
      rw [eq_false_of_ne_true hd]
      exact iteT (h H (L2.Same.refl _))
end
section
local macro_rules | `(tactic| wtm_at "pe") => `(tactic| first | (apply k_indexB; (wtm_at "K"); (rfl); (rfl); (rfl); (rfl); (rfl); (wtm_at "pe"); (wtm_at "pa")) | (apply k_count; (wtm_at "K"); (rfl); (rfl); (rfl); (rfl); (rfl); (wtm_at "pe"); (wtm_at "pa")))
variable {P : Program} {w : World} {K : PySem.W.Frag} {mg : Str → Option Value} {base : Heap}
theorem kitAny_no {C : Addr} : ∀ {Ds : List Addr}, (∀ D ∈ Ds, PySem.W.kitOne K (.ref C) (.ref D) = some false) → PySem.W.kitAny K (.ref C) (Ds.map Value.ref) = some false
 | [], _ => rfl
 | D :: r, h => by
  rw [List.map_cons]
  unfold PySem.W.kitAny
  rw [h D (.head _)]
  exact kitAny_no fun E hE => h E (.tail _ hE)
abbrev sKindE : Stmt := top 32
theorem scKindE : FnScope ["e", "kinds"] ["e"] (defScope sKindE) := ⟨rfl, rfl, rfl, by decide +kernel, rfl, by decide +kernel, by decide +kernel⟩
def spKindE (C : Addr) (n : Int) : Sp := fun vs H Q _ => ∃ ea : Addr, vs = [.ref ea] ∧ H ea = some (ExcO ea C) ∧ ∀ H', L2.Same H H' → Q (.int n) H'
theorem ok_kindE {f : Addr} {fd : FuncData} {C B h1 h2 h3 h4 c1 c2 c3 c4 c5 c6 : Addr} {j : Nat} {x : Str} (F : Fun K "_law_kind" "_law_kind" sKindE f fd) (eR : ECls K mg x C B)
 (i1 : ECls K mg "NoHeap" h1 B) (i2 : ECls K mg "NoLot" h2 B) (i3 : ECls K mg "Unlike" h3 B) (i4 : ECls K mg "TooMany" h4 B)
 (e1 : ECls K mg "NoRatio" c1 B) (e2 : ECls K mg "NoSize" c2 B) (e3 : ECls K mg "TooFew" c3 B) (e4 : ECls K mg "NoText" c4 B) (e5 : ECls K mg "NoRow" c5 B) (e6 : ECls K mg "NoBack" c6 B)
 (b1 b2 b3 b4 : Bool) (k1 : PySem.W.kitOne K (.ref C) (.ref h1) = some b1) (k2 : PySem.W.kitOne K (.ref C) (.ref h2) = some b2) (k3 : PySem.W.kitOne K (.ref C) (.ref h3) = some b3) (k4 : PySem.W.kitOne K (.ref C) (.ref h4) = some b4)
 (hc : [b1, b2, b3, b4, false].count true = 1) (hj : [b1, b2, b3, b4, false][j]? = some true) (hno : ∀ m, m < j → [b1, b2, b3, b4, false][m]? ≠ some true)
 (hn : ∀ D ∈ [c1, c2, c3, c4, c5, c6], C ≠ D ∧ B ≠ D) (mI : mg "isinstance" = none) (mV : mg "ValueError" = none) : FnOkH P w K mg base CX0 1 f fd ["e"] (spKindE C j) := by
 refine Br.Fun.jH F scKindE (fun vs H Q E h => ?_) (fun cdv A outer s H vs Q E hr h => ?_)
 · obtain ⟨_, rfl, _⟩ := h; rfl
 · obtain ⟨ea, rfl, hE, h⟩ := h
   have nd := scKindE.nd
   have hsz : (sizeLine : Nat) = 16777216 := sizeLine_eq
   refine' ⟨_, ?d, ?r⟩
   case d => wtm_at "body"
   case r =>
    have ko : PySem.W.kitAny K (.ref C) ([c1, c2, c3, c4, c5, c6].map Value.ref) = some false := by
     refine kitAny_no fun D hD => ?_
     have n := hn D hD
     simp only [List.mem_cons, List.mem_nil_iff, or_false] at hD
     rcases hD with rfl | rfl | rfl | rfl | rfl | rfl
     · exact eR.other e1 n.1 n.2
     · exact eR.other e2 n.1 n.2
     · exact eR.other e3 n.1 n.2
     · exact eR.other e4 n.1 n.2
     · exact eR.other e5 n.1 n.2
     · exact eR.other e6 n.1 n.2
    refine ⟨.ref ea, rfl, .inr (.inl ⟨_, _, _, _, rfl, .exc hE eR.exc, k1, ?_⟩)⟩
    refine ⟨.ref ea, rfl, .inr (.inl ⟨_, _, _, _, rfl, .exc hE eR.exc, k2, ?_⟩)⟩
    refine ⟨.ref ea, rfl, .inr (.inl ⟨_, _, _, _, rfl, .exc hE eR.exc, k3, ?_⟩)⟩
    refine ⟨.ref ea, rfl, .inr (.inl ⟨_, _, _, _, rfl, .exc hE eR.exc, k4, ?_⟩)⟩
    refine ⟨lenLe (n := 4) rfl (by decide), fun l1 H1 n1 s1 f1 => ?_⟩
    refine ⟨_, rfl, _, rfl, lenLe (n := 6) rfl (by decide), fun tp H2 n2 s2 f2 => ?_⟩
    refine .inr (.inr ⟨ea, C, tp, [c1, c2, c3, c4, c5, c6], false, rfl, s2 _ _ (s1 _ _ hE), eR.exc, f2, ko, ?_⟩)
    refine ⟨lenLe (n := 1) rfl (by decide), fun l2 H3 n3 s3 f3 => ?_⟩
    refine .inr (.inl ⟨l1, l2, _, _, rfl, rfl, s3 _ _ (s2 _ _ f1), f3, by rw [hsz]; simp, fun l3 H4 n4 s4 f4 => ?_⟩)
    have f4 : H4 l3 = some (.lst ([b1, b2, b3, b4, false].map V.bl)) := f4
    have s04 := s1.trans (s2.trans (s3.trans s4))
    refine ⟨_, ?_, fun _ _ h => h⟩
    refine ⟨_, rfl, .inl ⟨rfl, _, SqL.of f4⟩, ?_⟩
    refine .inr ⟨l3, _, true, rfl, rfl, SqL.of f4, ?_⟩
    rw [hc]
    refine ⟨rfl, _, rfl, iteF ?_⟩
    refine ⟨.ref ea, rfl, .inl ⟨_, _, _, _, rfl, .exc (s04 _ _ hE) eR.exc, eR.value, _, rfl, iteF ?_⟩⟩
    exact ⟨_, rfl, .inl ⟨rfl, _, SqL.of f4⟩, l3, _, true, j, rfl, rfl, f4, hj, hno, h H4 s04⟩
theorem ok_kind0 {f : Addr} {fd : FuncData} {B h1 h2 h3 h4 c1 c2 c3 c4 c5 c6 : Addr} (F : Fun K "_law_kind" "_law_kind" sKindE f fd)
 (i1 : ECls K mg "NoHeap" h1 B) (i2 : ECls K mg "NoLot" h2 B) (i3 : ECls K mg "Unlike" h3 B) (i4 : ECls K mg "TooMany" h4 B)
 (e1 : ECls K mg "NoRatio" c1 B) (e2 : ECls K mg "NoSize" c2 B) (e3 : ECls K mg "TooFew" c3 B) (e4 : ECls K mg "NoText" c4 B) (e5 : ECls K mg "NoRow" c5 B) (e6 : ECls K mg "NoBack" c6 B)
 (hn : ∀ D ∈ [c1, c2, c3, c4, c5, c6], h1 ≠ D ∧ B ≠ D) (hh : (h1 ≠ h2 ∧ h1 ≠ h3 ∧ h1 ≠ h4) ∧ B ≠ h2 ∧ B ≠ h3 ∧ B ≠ h4) (mI : mg "isinstance" = none) (mV : mg "ValueError" = none) : FnOkH P w K mg base CX0 1 f fd ["e"] (spKindE h1 0) := by
 obtain ⟨⟨n2, n3, n4⟩, m2, m3, m4⟩ := hh
 exact ok_kindE (j := 0) F i1 i1 i2 i3 i4 e1 e2 e3 e4 e5 e6 true false false false i1.self (i1.other i2 n2 m2) (i1.other i3 n3 m3) (i1.other i4 n4 m4) rfl rfl (fun m hm => absurd hm (Nat.not_lt_zero _)) hn mI mV
end
theorem nin {p b : Addr} (hb : b ≠ p) : b ∉ [p] := fun z => hb (List.mem_singleton.mp z)
theorem Pot.ne {n : Nat} {H : Hp} {p b : Addr} (h : Pot n H p) (e : H b = none) : b ≠ p := fun z => by obtain ⟨_, _, _, q, _⟩ := h; rw [z, q] at e; cases e
section
variable {P : Program} {w : World} {K : PySem.W.Frag} {mg : Str → Option Value} {base : Heap}
abbrev sRow : Stmt := top 33
theorem scRow : FnScope ["pot", "need", "some", "many"] ["pot", "need"] (defScope sRow) := ⟨rfl, rfl, rfl, by decide +kernel, rfl, by decide +kernel, by decide +kernel⟩
def spRow : Sp := fun vs H Q _ => ∃ (p : Addr) (n : Nat) (need : Int), vs = [.ref p, .int need] ∧ Pot n H p ∧ n ≤ 10 ^ 44 ∧ 1 ≤ need ∧ need ≤ 10 ^ 12 ∧ ∀ (a : Addr) (zs bs : List Int) (H' : Hp), Mo [p] H H' → Pot (n + 500) H' p → a ≠ p → H' a = some (.lst (zs.map V.int)) → zs.length ≤ 100 → bs.length ≤ 8 → (∀ z ∈ zs, 1 ≤ z ∧ z ≤ 10 ^ 12 ∧ z ∈ bs) → Q (.ref a) H'
theorem ok_row {f : Addr} {fd : FuncData} (F : Fun K "_law_row" "_law_row" sRow f fd) (cT : Callee CX0 P w K mg base "_law_take" 1 ["pot", "size"] spTake) (cS : Callee CX0 P w K mg base "_law_size" 3 ["pot", "need"] spSize) (mR : mg "range" = none) (mL : mg "len" = none) : FnOk P w K mg base CX0 4 f fd ["pot", "need"] spRow := by
 refine Br.Fun.j F scRow (fun vs H Q E h => ?_) (fun cdv A outer s H vs Q E hr h => ?_)
 · obtain ⟨_, _, _, rfl, _⟩ := h; rfl
 · obtain ⟨p, n, need, rfl, hp, hn, hn0, hn1, h⟩ := h
   have nd := scRow.nd
   have hsz : (sizeLine : Nat) = 16777216 := sizeLine_eq
   refine' ⟨_, ?d, ?r⟩
   case d => wtm_at "body"
   case r =>
    wtm_at "rd"
    refine ⟨p, n, 8, rfl, hp, by omega, by decide, by decide, fun t H1 m1 p1 t0 t1 => .inl ⟨_, _, rfl, rfl, ?_⟩⟩
    refine ⟨_, rfl, by omega, by omega, ?_⟩
    refine cmp_range (lo := 0) (n := (1 + t).toNat) (fun i ys σ G => Mo [p] H1 G ∧ Pot (n + 1 + 20 * i) G p ∧ ∃ (ss : List Int) (x : Option V), ys = ss.map V.int ∧ ss.length = i ∧ (∀ z ∈ ss, 1 ≤ z ∧ z ≤ 10 ^ 12) ∧ σ = [x, some (.ref p), some (.int need), none, none])
     ⟨Mo.of (L2.Same.refl _), p1, [], none, rfl, rfl, fun z hz => (nomatch hz), rfl⟩ (by omega) (fun i ys σ G _ ⟨_, _, ss, _, e, e2, _⟩ => by rw [e, List.length_map, e2]; exact Nat.le_refl _) ?_ ?_
    · rintro i ys σ G N hi ⟨mG, pG, ss, x0, rfl, hsl, hsb, rfl⟩ hN
      have hi5 : i < 8 := by omega
      refine ⟨_, rfl, _, rfl, p, _, need, rfl, pG, by omega, hn0, hn1, fun z G2 m2 p2 z0 z1 => hN _ _ _ ⟨mG.trans m2, p2.le (by omega), ss ++ [z], _, by rw [List.map_append]; rfl, by rw [List.length_append, hsl]; rfl, fun y hy => ?_, rfl⟩⟩
      rcases List.mem_append.mp hy with q | q
      · exact hsb y q
      · rw [List.mem_singleton.mp q]; exact ⟨z0, z1⟩
    rintro ys σ G ⟨mG, pG, ss, x0, rfl, hsl, hsb, rfl⟩ sl G1 nsl s1 e1
    have hsl5 : 1 ≤ ss.length ∧ ss.length ≤ 8 := by omega
    have hslp : sl ≠ p := pG.ne nsl
    have pG1 := (pG.same s1).le (show n + 1 + 20 * (1 + t).toNat ≤ n + 161 by omega)
    refine ⟨_, rfl, p, _, 13, rfl, pG1, by omega, by decide, by decide, fun r1 G2 m2 p2 a0 a1 => ?_⟩
    refine ⟨_, rfl, p, _, 101, rfl, p2, by omega, by decide, by decide, fun r2 G3 m3 p3 b0 b1 => ?_⟩
    refine ⟨lenLe (n := 3) rfl (by decide), fun lm G5 n5 s5 e5 => ?_⟩
    have hlmp : lm ≠ p := p3.ne n5
    refine ⟨_, rfl, p, _, 3, rfl, p3.same s5, by omega, by decide, by decide, fun r4 G6 m6 p6 d0 d1 => ?_⟩
    obtain ⟨mm, hmm, _, emm⟩ := atI_ints (zs := [r1, r2, 100]) (i := r4) (by omega) (by simp; omega)
    have hmm' : 0 ≤ mm ∧ mm ≤ 100 := by simp at hmm; omega
    refine .inl ⟨lm, _, _, _, rfl, rfl, SqL.of (m6 _ _ (nin hlmp) e5), emm, ?_⟩
    have m16 : Mo [p] G1 G6 := m2.trans (m3.trans ((Mo.of s5).trans m6))
    have e6 := m16 _ _ (nin hslp) e1
    have m06 : Mo [p] H G6 := m1.trans (mG.trans ((Mo.of s1).trans m16))
    have p6 := p6.le (show n + 161 + 1 + 1 + 1 ≤ n + 170 by omega)
    wtm_at "rd"
    refine ⟨by omega, by omega, ?_⟩
    refine cmp_range (lo := 0) (n := mm.toNat) (fun i ys σ G => Mo [p] G6 G ∧ Pot (n + 170 + i) G p ∧ ∃ (zs : List Int) (x : Option V), ys = zs.map V.int ∧ zs.length = i ∧ (∀ z ∈ zs, z ∈ ss) ∧ σ = [x, some (.ref p), some (.int need), some (.ref sl), some (.int mm)])
     ⟨Mo.of (L2.Same.refl _), p6, [], none, rfl, rfl, fun z hz => (nomatch hz), rfl⟩ (by omega) (fun i ys σ G _ ⟨_, _, ss, _, e, e2, _⟩ => by rw [e, List.length_map, e2]; exact Nat.le_refl _) ?_ ?_
    · rintro i ys σ G7 N hi ⟨mG7, pG7, zs, x0, rfl, hzl, hzb, rfl⟩ hN
      have e7 := mG7 _ _ (nin hslp) e6
      refine ⟨_, rfl, _, rfl, _, rfl, .inl ⟨sl, _, rfl, .inl (SqL.of e7), ?_⟩⟩
      refine ⟨p, _, _, rfl, pG7, by omega, by rw [List.length_map]; omega, by rw [List.length_map]; omega, fun k G8 m8 p8 k0 k1 => ?_⟩
      rw [List.length_map] at k1
      obtain ⟨z, hz, _, ez⟩ := atI_ints (zs := ss) (i := k) k0 k1
      refine .inl ⟨sl, _, _, _, rfl, rfl, SqL.of (m8 _ _ (nin hslp) e7), ez, hN _ _ _ ⟨mG7.trans m8, p8.le (by omega), zs ++ [z], _, by rw [List.map_append]; rfl, by rw [List.length_append, hzl]; rfl, fun y hy => ?_, rfl⟩⟩
      rcases List.mem_append.mp hy with q | q
      · exact hzb y q
      · rw [List.mem_singleton.mp q]; exact hz
    rintro ys σ G7 ⟨mG7, pG7, zs, x0, rfl, hzl, hzb, rfl⟩ pl G8 npl s8 e8
    exact (h pl zs ss G8 (m06.trans (mG7.trans (Mo.of s8))) ((pG7.same s8).le (by omega)) (pG7.ne npl) e8 (by omega) hsl5.2 fun z hz => ⟨(hsb z (hzb z hz)).1, (hsb z (hzb z hz)).2, hzb z hz⟩)
end
theorem tot_cons (q : Int × Int) (ks : List (Int × Int)) : tot (q :: ks) = q.1 * q.2 + tot ks := by unfold tot; rw [List.map_cons, List.sum_cons]
theorem count_things {qs : List (Int × Int)} (nd : (qs.map (·.1)).Nodup) (n : Int) : (thingsL qs).count n = ((dlook qs n).getD 0).toNat := by
 induction qs with
 | nil => rfl
 | cons q qs ih =>
  rw [List.map_cons, List.nodup_cons] at nd
  have e : thingsL (q :: qs) = List.replicate q.2.toNat q.1 ++ thingsL qs := rfl
  rw [e, List.count_append, ih nd.2, dlook_cons, List.count_replicate]
  by_cases h : q.1 = n
  · subst h
    rw [if_pos rfl, dlook_none nd.1]; simp
  · rw [if_neg h]; simp [h]
theorem sum_things {qs : List (Int × Int)} (h : ∀ q ∈ qs, 0 ≤ q.2) : (thingsL qs).sum = tot qs := by
 induction qs with
 | nil => rfl
 | cons q qs ih =>
  have e : thingsL (q :: qs) = List.replicate q.2.toNat q.1 ++ thingsL qs := rfl
  have hr : ∀ n : Nat, (List.replicate n q.1).sum = q.1 * n := fun n => by
   induction n with
   | zero => simp
   | succ n ih => rw [List.replicate_succ, List.sum_cons, ih, Int.natCast_succ, Int.mul_add]; omega
  rw [e, List.sum_append, ih fun x hx => h x (.tail _ hx), tot_cons, hr, Int.toNat_of_nonneg (h q (.head _))]
theorem mem_things {qs : List (Int × Int)} {z : Int} (h : z ∈ thingsL qs) : ∃ q ∈ qs, q.1 = z := by
 unfold thingsL at h
 obtain ⟨q, hq, hz⟩ := List.mem_flatMap.mp h
 exact ⟨q, hq, (List.eq_of_mem_replicate hz).symm⟩
theorem things_sorted {qs : List (Int × Int)} (h : Ris qs) : (thingsL qs).Pairwise (· ≤ ·) := by
 induction qs with
 | nil => exact List.Pairwise.nil
 | cons q qs ih =>
  have h' := List.pairwise_cons.mp h
  have e : thingsL (q :: qs) = List.replicate q.2.toNat q.1 ++ thingsL qs := rfl
  rw [e, List.pairwise_append]
  refine ⟨List.pairwise_replicate.mpr (.inr (Int.le_refl _)), ih h'.2, fun a ha b hb => ?_⟩
  obtain ⟨r, hr, rfl⟩ := mem_things hb
  rw [List.eq_of_mem_replicate ha]
  exact Int.le_of_lt (h'.1 r hr)
theorem PsOf.look {ps : List (Int × Int)} {zs : List Int} (nd : (ps.map (·.1)).Nodup) (h : PsOf ps zs) (n : Int) : dlook ps n = if n ∈ zs then some ((zs.count n : Nat) : Int) else none := by
 by_cases hn : n ∈ zs
 · rw [if_pos hn]
   exact (dlook_mem nd (n, _)).mp ((h (n, _)).mpr ⟨hn, rfl⟩)
 · rw [if_neg hn]
   cases e : dlook ps n with
   | none => rfl
   | some c => exact absurd ((h (n, c)).mp (dlook_some e)).1 hn
theorem PsOf.uniq {ps qs : List (Int × Int)} {zs : List Int} (h1 : PsOf ps zs) (h2 : PsOf qs zs) (r1 : Ris ps) (r2 : Ris qs) : ps = qs := ris_uniq r1 r2 fun q => (h1 q).trans (h2 q).symm
theorem PsOf.permT {ps : List (Int × Int)} {zs : List Int} (nd : (ps.map (·.1)).Nodup) (h : PsOf ps zs) : (thingsL ps).Perm zs := List.perm_iff_count.mpr fun n => by
 rw [count_things nd, h.look nd]
 by_cases hn : n ∈ zs
 · rw [if_pos hn]; show (((zs.count n : Nat) : Int)).toNat = _; omega
 · rw [if_neg hn, List.count_eq_zero.mpr hn]; rfl
theorem sum_perm {l m : List Int} (h : l.Perm m) : l.sum = m.sum := by
 induction h with
 | nil => rfl
 | cons x _ ih => rw [List.sum_cons, List.sum_cons, ih]
 | swap x y l => rw [List.sum_cons, List.sum_cons, List.sum_cons, List.sum_cons]; omega
 | trans _ _ a b => rw [a, b]
theorem PsOf.tot {ps : List (Int × Int)} {zs : List Int} (nd : (ps.map (·.1)).Nodup) (h : PsOf ps zs) : tot ps = zs.sum := by
 rw [← sum_perm (h.permT nd), sum_things fun q hq => by rw [((h q).mp hq).2]; omega]
theorem sorted_uniq : ∀ {l m : List Int}, l.Perm m → l.Pairwise (· ≤ ·) → m.Pairwise (· ≤ ·) → l = m
 | [], m, h, _, _ => (List.nil_perm.mp h).symm
 | a :: l, [], h, _, _ => absurd (List.perm_nil.mp h) (by simp)
 | a :: l, b :: m, h, hl, hm => by
  have h1 := List.pairwise_cons.mp hl
  have h2 := List.pairwise_cons.mp hm
  have ha : a ∈ b :: m := h.mem_iff.mp (.head _)
  have hb : b ∈ a :: l := h.mem_iff.mpr (.head _)
  have e : a = b := by
   rcases List.mem_cons.mp ha with z | z
   · exact z
   rcases List.mem_cons.mp hb with y | y
   · exact y.symm
   have := h1.1 b y
   have := h2.1 a z
   omega
  subst e
  rw [sorted_uniq ((List.perm_cons a).mp h) h1.2 h2.2]
def dPair (p : Int × Int) : PyData := .tuple [.int p.1, .int p.2]
theorem can_pairs : ∀ ps : List (Int × Int), PyData.canLayAll0 (ps.map dPair) = true
 | [] => rfl
 | p :: r => by rw [List.map_cons]; unfold dPair; simp only [PyData.canLayAll0, PyData.canLay0, Bool.true_and]; exact can_pairs r
theorem dep_pairs : ∀ ps : List (Int × Int), PyData.depthAll (ps.map dPair) ≤ 2
 | [] => by simp [PyData.depthAll]
 | p :: r => by
  have := dep_pairs r
  rw [List.map_cons]; unfold dPair at *; simp only [PyData.depthAll, PyData.depth]; omega
def dHeap (need : Int) (qs : List (Int × Int)) : PyData := .tuple [.int need, .tuple (qs.map dPair)]
theorem pl_heap (need : Int) (qs : List (Int × Int)) : Pl (dHeap need qs) := by
 refine ⟨?_, ?_⟩
 · unfold dHeap; simp only [PyData.canLay0, PyData.canLayAll0, Bool.true_and, Bool.and_true]; exact can_pairs qs
 · have := dep_pairs qs
   unfold dHeap; simp only [PyData.depth, PyData.depthAll]; omega
theorem Kinds.repsF {H : Hp} : ∀ {vs : List V} {qs : List (Int × Int)}, Kinds H vs qs → RepsF H vs (qs.map dPair)
 | [], [], _ => .nil
 | [], _ :: _, h => by have := h.1; simp at this
 | _ :: _, [], h => by have := h.1; simp at this
 | v :: vs, q :: qs, h => by
  obtain ⟨q', e, r, rfl, hr⟩ := h.2 0 v rfl
  simp at e; subst e
  exact .cons (.tup (.inl hr) (.cons (.int _) (.cons (.int _) .nil))) (Kinds.repsF ⟨by simpa using h.1, fun i u e => h.2 (i + 1) u (by simpa using e)⟩)
theorem HeapAt.rep {H : Hp} {h : Addr} {need : Int} {qs : List (Int × Int)} (x : HeapAt H h need qs) : RepF H (.ref h) (dHeap need qs) := by
 obtain ⟨t, o, vs, h1, _, h2, h3, _⟩ := x
 exact .tup (.inl h1) (.cons (.int _) (.cons (.tup (.inr ⟨_, h2⟩) h3.repsF) .nil))
theorem can_ints : ∀ ns : List Int, PyData.canLayAll0 (ns.map PyData.int) = true
 | [] => rfl
 | n :: r => by rw [List.map_cons]; simp only [PyData.canLayAll0, PyData.canLay0, Bool.true_and]; exact can_ints r
theorem dep_ints : ∀ ns : List Int, PyData.depthAll (ns.map PyData.int) ≤ 1
 | [] => by simp [PyData.depthAll]
 | n :: r => by
  have := dep_ints r
  rw [List.map_cons]; simp only [PyData.depthAll, PyData.depth]; omega
theorem pl_ints (ns : List Int) : Pl (.list (ns.map PyData.int)) := ⟨by simp only [PyData.canLay0]; exact can_ints ns, by have := dep_ints ns; simp only [PyData.depth]; omega⟩
theorem repsF_ints {H : Hp} : ∀ ns : List Int, RepsF H (ns.map V.int) (ns.map PyData.int)
 | [] => .nil
 | n :: r => .cons (.int n) (repsF_ints r)
theorem Reps.at2 {vs : List V} {ds : List PyData} {i : Int} (hl : vs.length = ds.length) (h0 : 0 ≤ i) (h1 : i < vs.length) : ∃ v d, atI vs i = some v ∧ d ∈ ds ∧ ∀ H, Reps H vs ds → Rep H v d := by
 have hl1 : i.toNat < vs.length := by omega
 have e : vs[i.toNat]? = some vs[i.toNat] := List.getElem?_eq_getElem hl1
 have e' : ds[i.toNat]? = some ds[i.toNat] := List.getElem?_eq_getElem (by omega)
 have e2 := atI_nat e
 rw [Int.toNat_of_nonneg h0] at e2
 refine ⟨_, _, e2, List.mem_of_getElem? e', fun H r => ?_⟩
 obtain ⟨d, hd, rd⟩ := r.get e
 rw [e'] at hd; cases hd; exact rd
theorem cut_take {zs : List Int} {k : Nat} (h : k ≤ zs.length) : cutV (zs.map V.int) none (some (k : Int)) = (zs.take k).map V.int := by
 unfold cutV
 rw [HT.sIx_nat, HT.sIx_none, List.drop_zero, Nat.sub_zero, ← List.map_take, List.length_map]
 congr 1
 rw [List.take_eq_take_iff]; omega
theorem cutTake {zs : List Int} {k : Nat} : cutV (zs.map V.int) none (some (k : Int)) = (zs.take k).map V.int := by
 by_cases h : k ≤ zs.length
 · exact cut_take h
 · unfold cutV
   rw [HT.sIx_nat, HT.sIx_none, List.drop_zero, Nat.sub_zero, ← List.map_take, List.length_map, Nat.min_eq_right (by omega), List.take_of_length_le (Nat.le_refl _), List.take_of_length_le (by omega)]
theorem cut_drop {zs : List Int} {k : Nat} : cutV (zs.map V.int) (some (k : Int)) none = (zs.drop k).map V.int := by
 unfold cutV
 rw [HT.sIx_nat, HT.sIx_none, List.length_map]
 by_cases h : k ≤ zs.length
 · rw [Nat.min_eq_left h, ← List.map_drop, List.take_of_length_le (by rw [List.length_map, List.length_drop]; exact Nat.le_refl _)]
 · rw [Nat.min_eq_right (by omega), List.drop_of_length_le (show zs.length ≤ k by omega), Nat.sub_self]; rfl
theorem atI_mem {xs : List V} {i : Int} (h0 : 0 ≤ i) (h1 : i < xs.length) : ∃ v, atI xs i = some v ∧ v ∈ xs := by
 have hl : i.toNat < xs.length := by omega
 have e : xs[i.toNat]? = some xs[i.toNat] := List.getElem?_eq_getElem hl
 have e2 := atI_nat e
 rw [Int.toNat_of_nonneg h0] at e2
 exact ⟨_, e2, List.getElem_mem hl⟩
def StrIs (H : Hp) (u : V) (t : Str) : Prop := ∀ (Q : VK) (G : Hp), L2.Same H G → Q (.str t) G → rStrK [u] G Q
section
local macro_rules | `(tactic| wtm_at "pe") => `(tactic| first | (apply j_dict1; (wtm_at "pe"); (wtm_at "pe")) | fail)
variable {P : Program} {w : World} {K : PySem.W.Frag} {mg : Str → Option Value} {base : Heap}
abbrev sOdd : Stmt := top 34
theorem scOdd : FnScope ["pot", "need", "row", "turn", "odd", "at"] ["pot", "need", "row"] (defScope sOdd) := ⟨rfl, rfl, rfl, by decide +kernel, rfl, by decide +kernel, by decide +kernel⟩
def spOdd (K : PySem.W.Frag) : Sp := fun vs H Q _ => ∃ (p : Addr) (n : Nat) (need : Int) (l : Addr) (zs : List Int), vs = [.ref p, .int need, .ref l] ∧ Pot n H p ∧ n ≤ 10 ^ 44 ∧ 1 ≤ need ∧ need ≤ 10 ^ 12 ∧ H l = some (.lst (zs.map V.int)) ∧ l ≠ p ∧ zs.length ≤ 100 ∧ (∀ z ∈ zs, 1 ≤ z ∧ z ≤ 10 ^ 12) ∧
 ∀ (a : Addr) (v u : V) (d : PyData) (t : Str) (H' : Hp), Mo [p] H H' → Pot (n + 10) H' p → H' a = some (.tup [v, u]) → Rep H' v d → (isSz d = false ∨ (isSz d = true ∧ NoSizes K H' u)) → StrIs H' u t → Q (.ref a) H'
theorem ok_odd {f : Addr} {fd : FuncData} (F : Fun K "_law_odd" "_law_odd" sOdd f fd) (cT : Callee CX0 P w K mg base "_law_take" 1 ["pot", "size"] spTake) (mR : mg "range" = none) (mL : mg "len" = none) : FnOk P w K mg base CX0 2 f fd ["pot", "need", "row"] (spOdd K) := by
 refine Br.Fun.j F scOdd (fun vs H Q E h => ?_) (fun cdv A outer s H vs Q E hr h => ?_)
 · obtain ⟨_, _, _, _, _, rfl, _⟩ := h; rfl
 · obtain ⟨p, n, need, l, zs, rfl, hp, hn, hn0, hn1, hl, hlp, hzl, hzb, h⟩ := h
   have nd := scOdd.nd
   have hsz : (sizeLine : Nat) = 16777216 := sizeLine_eq
   refine' ⟨_, ?d, ?r⟩
   case d => wtm_at "body"
   case r =>
    wtm_at "rd"
    refine ⟨p, n, 6, rfl, hp, by omega, by decide, by decide, fun t H1 m1 p1 t0 t1 => ?_⟩
    wtm_at "rd"
    refine ⟨lenLe (n := 1) rfl (by decide), fun tt H2 n2 s2 e2 => ?_⟩
    refine ⟨lenLe (n := 1) rfl (by decide), fun tl H3 n3 s3 e3 => ?_⟩
    wtm_at "rd"
    refine ⟨lenLe (n := 10) rfl (by decide), fun lo H4 n4 s4 e4 => ?_⟩
    have p2 := p1.same s2
    have p3 := p2.same s3
    have p4 := p3.same s4
    have ntt : tt ≠ p := p1.ne n2
    have ntl : tl ≠ p := p2.ne n3
    have nlo : lo ≠ p := p3.ne n4
    refine ⟨_, rfl, p, n + 1, 10, rfl, p4, by omega, by decide, by decide, fun r H5 m5 p5 a5 b5 => ?_⟩
    have e12 : (10 : Int) ^ Int.toNat 12 = 1000000000000 := by decide
    have e50 : (10 : Int) ^ Int.toNat 50 = 100000000000000000000000000000000000000000000000000 := by decide
    obtain ⟨v, d, hv, hd, rd⟩ := K07.Reps.at2 (vs := [V.int 0, V.int (0 - 1), V.int (10 ^ Int.toNat 12 + 1), .bl true, .bl false, .non, .str "1", .ref tt, .ref tl, V.int (10 ^ Int.toNat 50)])
     (ds := [.int 0, .int (0 - 1), .int (10 ^ Int.toNat 12 + 1), .bool true, .bool false, .none, .str "1", .tuple [.int 1], .list [.int 1], .int (10 ^ Int.toNat 50)]) rfl a5 b5
    have ett5 := m5 _ _ (nin ntt) (s4 _ _ (s3 _ _ e2))
    have etl5 := m5 _ _ (nin ntl) (s4 _ _ e3)
    have m15 : Mo [p] H H5 := m1.trans ((Mo.of (s2.trans (s3.trans s4))).trans m5)
    have hl5 := m15 _ _ (nin hlp) hl
    have rdat : ∀ {G : Hp}, Mo [p] H5 G → Rep G v d := fun {G} m => rd G (.cons (.int _) (.cons (.int _) (.cons (.int _) (.cons (.bl _) (.cons (.bl _) (.cons .non (.cons (.str _) (.cons (.tup (m _ _ (nin ntt) ett5) (.cons (.int _) .nil)) (.cons (.lst (m _ _ (nin ntl) etl5) (.cons (.int _) .nil)) (.cons (.int _) .nil))))))))))
    have hdn : isSz d = false ∧ Sm 2 201 d := by
     rw [e12, e50] at hd
     simp only [List.mem_cons, List.not_mem_nil, or_false] at hd
     rcases hd with rfl | rfl | rfl | rfl | rfl | rfl | rfl | rfl | rfl | rfl
     all_goals exact ⟨by decide +kernel, ⟨by decide +kernel, by decide +kernel, by decide +kernel, by decide +kernel, by decide +kernel⟩⟩
    obtain ⟨hdz, hds⟩ := hdn
    clear hd rd
    refine .inl ⟨lo, _, _, _, rfl, rfl, SqL.of (m5 _ _ (nin nlo) e4), hv, ?_⟩
    refine ⟨_, rfl, _, rfl, .inl ⟨l, _, rfl, .inl (SqL.of hl5), .inl ⟨_, _, rfl, rfl, ?_⟩⟩⟩
    refine ⟨p, n + 2, _, rfl, p5, by omega, by omega, by rw [List.length_map]; omega, fun at' H6 m6 p6 a6 b6 => ?_⟩
    have hl6 := m6 _ _ (nin hlp) hl5
    have m16 := m15.trans m6
    have rd6 := rdat m6
    have Rz : ∀ G : Hp, Reps G (zs.map V.int) (zs.map PyData.int) := fun G => Reps.ints zs
    have Sz : ∀ d ∈ zs.map PyData.int, Sm 2 201 d := fun d hd => by
     obtain ⟨z, hz, rfl⟩ := List.mem_map.mp hd
     have := hzb z hz
     exact (Sm.int (by omega)).mono (by decide) (by decide)
    have Lst : ∀ {G : Hp} {b : Addr} {xs : List V} {ds : List PyData}, G b = some (.lst xs) → Reps G xs ds → (∀ d ∈ ds, Sm 2 201 d) → ds.length ≤ 202 → StrIs G (.ref b) (strT (.list ds)) := fun {G b xs ds} e R S hn Q G' s q => .inl ⟨_, _, rfl, .inl ⟨.lst (s _ _ e) (R.mono s), (Sm.list (n := 202) S hn).txt (by decide) (by decide)⟩, q⟩
    have hneed : isSz (.int need) = true := isSz_of hn0 hn1
    rw [List.length_map] at b6
    refine ⟨fun σ' G => G = H6 ∧ σ' = [some (.ref p), some (.int need), some (.ref l), some (.int t), some v, some (.int at')], ?_, ?_⟩
    · refine ⟨_, rfl, rfl, _, rfl, ite2 (fun _ => ?_) (fun _ => ⟨rfl, rfl⟩)⟩
      refine ⟨_, rfl, _, rfl, lenLe (n := 2) rfl (by decide), fun b1 G1 n1 t1 f1 => ?_⟩
      exact h b1 v (.ref l) d _ G1 (m16.trans (Mo.of t1)) ((p6.same t1).le (by omega)) f1 (rd6.mono t1) (.inl hdz) (Lst (t1 _ _ hl6) (Rz _) Sz (by rw [List.length_map]; omega))
    rintro σ' G ⟨rfl, rfl⟩
    obtain ⟨k, rfl⟩ := Int.eq_ofNat_of_zero_le a6
    refine ⟨fun σ' G' => G' = G ∧ σ' = [some (.ref p), some (.int need), some (.ref l), some (.int t), some v, some (.int k)], ?_, ?_⟩
    · refine ⟨_, rfl, _, _, rfl, rfl, _, rfl, ite2 (fun _ => ?_) (fun _ => ⟨rfl, rfl⟩)⟩
      refine ⟨_, rfl, ?_⟩
      wtm_at "rd"
      refine ⟨l, _, rfl, .inl ⟨SqL.of hl6, fun l1 G1 n1 q1 f1 => ?_⟩⟩
      rw [cut_take (by omega)] at f1
      refine ⟨_, rfl, lenLe (n := 1) rfl (by decide), fun l2 G2 n2 q2 f2 => ?_⟩
      refine .inr (.inl ⟨l1, l2, _, _, rfl, rfl, q2 _ _ f1, f2, by rw [hsz, List.length_map, List.length_take]; simp only [List.length_cons, List.length_nil]; omega, fun l3 G3 n3 q3 f3 => ?_⟩)
      refine ⟨_, rfl, ?_⟩
      wtm_at "rd"
      have q13 := q1.trans (q2.trans q3)
      refine ⟨l, _, rfl, .inl ⟨SqL.of (q13 _ _ hl6), fun l4 G4 n4 q4 f4 => ?_⟩⟩
      rw [show ((k : Int) + 1) = ((k + 1 : Nat) : Int) by omega, cut_drop] at f4
      refine .inr (.inl ⟨l3, l4, _, _, rfl, rfl, q4 _ _ f3, f4, by rw [hsz, List.length_append, List.length_map, List.length_map, List.length_take, List.length_drop]; simp only [List.length_cons, List.length_nil]; omega, fun l5 G5 n5 q5 f5 => ?_⟩)
      have q15 := q13.trans (q4.trans q5)
      refine ⟨lenLe (n := 2) rfl (by decide), fun b1 G6 n6 t1 f6 => ?_⟩
      have q16 := q15.trans t1
      have RR : Reps G6 (((zs.take k).map V.int ++ [v]) ++ (zs.drop (k + 1)).map V.int) (((zs.take k).map PyData.int ++ [d]) ++ (zs.drop (k + 1)).map PyData.int) := ((Reps.ints _).append (.cons (rd6.mono q16) .nil)).append (Reps.ints _)
      have SS : ∀ x ∈ (((zs.take k).map PyData.int ++ [d]) ++ (zs.drop (k + 1)).map PyData.int), Sm 2 201 x := fun x hx => by
       rcases List.mem_append.mp hx with y | y
       · rcases List.mem_append.mp y with y | y
         · exact Sz x (List.mem_of_mem_take (show x ∈ (zs.map PyData.int).take k from by rw [← List.map_take]; exact y))
         · rw [List.mem_singleton.mp y]; exact hds
       · exact Sz x (List.mem_of_mem_drop (by rwa [List.map_drop] at y))
      have hln : (((zs.take k).map PyData.int ++ [d]) ++ (zs.drop (k + 1)).map PyData.int).length ≤ 102 := by
       rw [List.length_append, List.length_append, List.length_map, List.length_map, List.length_take, List.length_drop]; simp only [List.length_cons, List.length_nil]; omega
      have hmd : d ∈ (((zs.take k).map PyData.int ++ [d]) ++ (zs.drop (k + 1)).map PyData.int) := by simp
      refine h b1 (.int need) (.ref l5) (.int need) _ G6 (m16.trans (Mo.of q16)) ((p6.same q16).le (by omega)) f6 (.int _) (.inr ⟨hneed, .inr ⟨l5, _, _, rfl, t1 _ _ f5, RR, ?_⟩⟩) (Lst (t1 _ _ f5) RR SS (by omega))
      generalize (((zs.take k).map PyData.int ++ [d]) ++ (zs.drop (k + 1)).map PyData.int) = ds' at hmd
      by_cases z : 100 < ds'.length
      · exact .inl z
      · exact .inr ⟨by omega, .inl ⟨d, hmd, hdz⟩⟩
    rintro σ' G ⟨rfl, rfl⟩
    refine ⟨fun σ' G' => G' = G ∧ σ' = [some (.ref p), some (.int need), some (.ref l), some (.int t), some v, some (.int k)], ?_, ?_⟩
    · refine ⟨_, rfl, rfl, _, rfl, ite2 (fun _ => ?_) (fun _ => ⟨rfl, rfl⟩)⟩
      refine ⟨_, rfl, ?_⟩
      wtm_at "rd"
      refine ⟨by decide, by decide, ?_⟩
      refine cmp_range (lo := 0) (n := 9) (fun i ys σ G' => G' = G ∧ ys = ((List.range i).map fun k : Nat => ((k : Int) + 1)).map V.int ∧ ∃ x : Option V, σ = [x, some (.ref p), some (.int need), some (.ref l), some (.int t), some v, some (.int k)])
       ⟨rfl, rfl, none, rfl⟩ (by omega) (fun i ys σ G' _ ⟨_, e, _⟩ => by rw [e, List.length_map, List.length_map, List.length_range]; exact Nat.le_refl _) ?_ ?_
      · rintro i ys σ G' N hi ⟨rfl, rfl, x0, rfl⟩ hN
        refine ⟨_, rfl, .inl ⟨_, _, rfl, rfl, hN _ _ _ ⟨rfl, ?_, _, rfl⟩⟩⟩
        rw [List.range_succ, List.map_append, List.map_append, Int.zero_add]; rfl
      rintro ys σ G' ⟨rfl, rfl, x0, rfl⟩ l1 G1 n1 q1 f1
      refine ⟨_, rfl, ?_⟩
      wtm_at "rd"
      refine ⟨l, _, rfl, .inl ⟨SqL.of (q1 _ _ hl6), fun l2 G2 n2 q2 f2 => ?_⟩⟩
      rw [cut_take (by omega)] at f2
      wtm_at "rd"
      refine ⟨l2, _, rfl, .inl ⟨SqL.of f2, fun l3 G3 n3 q3 f3 => ?_⟩⟩
      rw [show (91 : Int) = ((91 : Nat) : Int) from rfl, cutTake] at f3
      refine .inr (.inl ⟨l1, l3, _, _, rfl, rfl, q3 _ _ (q2 _ _ f1), f3, by rw [hsz, List.length_map, List.length_map, List.length_range, List.length_map, List.length_take]; omega, fun l5 G5 n5 q5 f5 => ?_⟩)
      have q15 := q1.trans (q2.trans (q3.trans q5))
      refine ⟨lenLe (n := 2) rfl (by decide), fun b1 G6 n6 t1 f6 => ?_⟩
      have q16 := q15.trans t1
      rw [← List.map_append] at f5
      have hbb : ∀ z ∈ ((List.range 9).map fun k : Nat => ((k : Int) + 1)) ++ (zs.take k).take 91, 1 ≤ z ∧ z ≤ 10 ^ 12 := fun z hz => by
       rcases List.mem_append.mp hz with y | y
       · obtain ⟨j, hj, rfl⟩ := List.mem_map.mp y
         have := List.mem_range.mp hj
         omega
       · exact hzb z (List.mem_of_mem_take (List.mem_of_mem_take y))
      have hln : (((List.range 9).map fun k : Nat => ((k : Int) + 1)) ++ (zs.take k).take 91).length ≤ 100 := by
       rw [List.length_append, List.length_map, List.length_range, List.length_take]; omega
      refine h b1 (.int need) (.ref l5) (.int need) _ G6 (m16.trans (Mo.of q16)) ((p6.same q16).le (by omega)) f6 (.int _) (.inr ⟨hneed, .inr ⟨l5, _, _, rfl, t1 _ _ f5, Reps.ints _, .inr ⟨by rw [List.length_map]; exact hln, .inr ⟨_, (List.range 9).map fun k : Nat => ((k : Int) + 1), rfl, hbb, ?_, by decide, fun n hn => List.mem_append_left _ hn⟩⟩⟩⟩) (Lst (t1 _ _ f5) (Reps.ints _) (fun d hd => ?_) (by rw [List.length_map]; omega))
      · decide
      · obtain ⟨z, hz, rfl⟩ := List.mem_map.mp hd
        have := hbb z hz
        exact (Sm.int (by omega)).mono (by decide) (by decide)
    rintro σ' G ⟨rfl, rfl⟩
    refine ⟨fun σ' G' => G' = G ∧ σ' = [some (.ref p), some (.int need), some (.ref l), some (.int t), some v, some (.int k)], ?_, ?_⟩
    · refine ⟨_, rfl, rfl, _, rfl, ite2 (fun _ => ?_) (fun _ => ⟨rfl, rfl⟩)⟩
      refine ⟨_, rfl, ?_⟩
      wtm_at "rd"
      refine ⟨lenLe (n := 1) rfl (by decide), fun l1 G1 n1 q1 f1 => ?_⟩
      refine ⟨l1, 101, _, rfl, rfl, f1, by omega, by omega, by rw [List.length_singleton, hsz]; omega, fun l2 G2 n2 q2 f2 => ?_⟩
      rw [show (List.replicate (101 : Int).toNat [V.int 1]).flatten = (List.replicate 101 (1 : Int)).map V.int from rfl] at f2
      have q12 := q1.trans q2
      refine .inr (.inl ⟨l, l2, _, _, rfl, rfl, q12 _ _ hl6, f2, by rw [hsz, List.length_map, List.length_map, List.length_replicate]; omega, fun l3 G3 n3 q3 f3 => ?_⟩)
      rw [← List.map_append] at f3
      wtm_at "rd"
      refine ⟨l3, _, rfl, .inl ⟨SqL.of f3, fun l4 G4 n4 q4 f4 => ?_⟩⟩
      rw [show (101 : Int) = ((101 : Nat) : Int) from rfl, cut_take (by rw [List.length_append, List.length_replicate]; omega)] at f4
      refine ⟨_, rfl, ?_⟩
      wtm_at "rd"
      refine ⟨l, _, rfl, .inl ⟨SqL.of (q4 _ _ (q3 _ _ (q12 _ _ hl6))), fun l5 G5 n5 q5 f5 => ?_⟩⟩
      rw [cut_take (by omega)] at f5
      refine .inr (.inl ⟨l4, l5, _, _, rfl, rfl, q5 _ _ f4, f5, by rw [hsz, List.length_map, List.length_map, List.length_take, List.length_take]; omega, fun l6 G6 n6 q6 f6 => ?_⟩)
      rw [← List.map_append] at f6
      refine ⟨lenLe (n := 2) rfl (by decide), fun b1 G7 n7 t1 f7 => ?_⟩
      have q16 := q12.trans (q3.trans (q4.trans (q5.trans (q6.trans t1))))
      have hln : 100 < ((zs ++ List.replicate 101 (1 : Int)).take 101 ++ zs.take k).length ∧ ((zs ++ List.replicate 101 (1 : Int)).take 101 ++ zs.take k).length ≤ 202 := by
       rw [List.length_append, List.length_take, List.length_append, List.length_replicate, List.length_take]; omega
      have hbb : ∀ z ∈ (zs ++ List.replicate 101 (1 : Int)).take 101 ++ zs.take k, 1 ≤ z ∧ z ≤ 10 ^ 12 := fun z hz => by
       rcases List.mem_append.mp hz with y | y
       · rcases List.mem_append.mp (List.mem_of_mem_take y) with y | y
         · exact hzb z y
         · rw [List.eq_of_mem_replicate y]; decide
       · exact hzb z (List.mem_of_mem_take y)
      refine h b1 (.int need) (.ref l6) (.int need) _ G7 (m16.trans (Mo.of q16)) ((p6.same q16).le (by omega)) f7 (.int _) (.inr ⟨hneed, .inr ⟨l6, _, _, rfl, t1 _ _ f6, Reps.ints _, .inl (by rw [List.length_map]; exact hln.1)⟩⟩) (Lst (t1 _ _ f6) (Reps.ints _) (fun d hd => ?_) (by rw [List.length_map]; exact hln.2))
      obtain ⟨z, hz, rfl⟩ := List.mem_map.mp hd
      have := hbb z hz
      exact (Sm.int (by omega)).mono (by decide) (by decide)
    rintro σ' G ⟨rfl, rfl⟩
    refine ⟨_, rfl, ?_⟩
    wtm_at "rd"
    refine fun d0 G1 n1 q1 f1 => ?_
    refine fun d1 n2 => ⟨upd_same, [(Sum.inl 1, V.int 1)], rfl, by decide, ?_⟩
    have p61 := p6.same q1
    have nd0 : d0 ≠ p := p6.ne n1
    have nd1 : d1 ≠ p := p61.ne n2
    have q2 : L2.Same G1 (upd (upd G1 d1 (.dK [])) d1 (.dK (mergeK [] [(Sum.inl 1, V.int 1)]))) := fun b o e => by
     rw [upd_ne (ne_of_none e n2), upd_ne (ne_of_none e n2)]; exact e
    have f2 : (upd (upd G1 d1 (.dK [])) d1 (.dK (mergeK [] [(Sum.inl 1, V.int 1)]))) d1 = some (.dK one11) := by rw [upd_same]; rfl
    generalize (upd (upd G1 d1 (.dK [])) d1 (.dK (mergeK [] [(Sum.inl 1, V.int 1)]))) = G2 at q2 f2
    refine ⟨lenLe (n := 6) rfl (by decide), fun lo2 G3 n3 q3 f3 => ?_⟩
    have p62 := p61.same q2
    have nlo2 : lo2 ≠ p := p62.ne n3
    refine ⟨_, rfl, p, _, 6, rfl, p62.same q3, by omega, by decide, by decide, fun r' H7 m7 p7 a7 b7 => ?_⟩
    have hl6' : r' < ([V.non, V.int 5, V.str "1 2", V.ref d0, V.ref d1, V.bl true].length : Int) := b7
    obtain ⟨u, hu, hmem⟩ := K07.atI_mem a7 hl6'
    refine .inl ⟨lo2, _, _, _, rfl, rfl, SqL.of (m7 _ _ (nin nlo2) f3), hu, ?_⟩
    refine ⟨lenLe (n := 2) rfl (by decide), fun b1 G8 n8 t8 f8 => ?_⟩
    have g0 : G8 d0 = some (.dK []) := t8 _ _ (m7 _ _ (nin nd0) (q3 _ _ (q2 _ _ f1)))
    have g1 : G8 d1 = some (.dK one11) := t8 _ _ (m7 _ _ (nin nd1) (q3 _ _ f2))
    have m68 : Mo [p] G G8 := (Mo.of (q1.trans (q2.trans q3))).trans (m7.trans (Mo.of t8))
    have small : ∀ {v : V} {d : PyData}, (∀ G', Rep G' v d) → Sm 2 201 d → StrIs G8 v (strT d) := fun {v d} r s Q G' _ q => .inl ⟨_, _, rfl, .inl ⟨r G', s.txt (by decide) (by decide)⟩, q⟩
    have key : ∃ (t : String) (tx : Str), TyOf K G8 u (.type t) ∧ PySem.W.kitAny K (.type t) ([(.type "list"), (.type "tuple")] : List Value) = some false ∧ StrIs G8 u tx := by
     simp only [List.mem_cons, List.not_mem_nil, or_false] at hmem
     rcases hmem with rfl | rfl | rfl | rfl | rfl | rfl
     · exact ⟨"NoneType", _, .non, rfl, small (fun _ => .non) (Sm.non.mono (by decide) (by decide))⟩
     · exact ⟨"int", _, .int _, rfl, small (fun _ => .int _) ((Sm.int (by decide)).mono (by decide) (by decide))⟩
     · exact ⟨"str", _, .str _, rfl, small (fun _ => .str _) ⟨by decide +kernel, by decide +kernel, by decide +kernel, by decide +kernel, by decide +kernel⟩⟩
     · exact ⟨"dict", _, .dK g0, rfl, fun Q G' s q => .inl ⟨_, _, rfl, .inr ⟨d0, rfl, s _ _ g0, rfl⟩, q⟩⟩
     · exact ⟨"dict", _, .dK g1, rfl, fun Q G' s q => .inr ⟨d1, rfl, s _ _ g1, q⟩⟩
     · exact ⟨"bool", _, .bl _, rfl, small (fun _ => .bl _) ((Sm.bl _).mono (by decide) (by decide))⟩
    obtain ⟨ty, tx, k1, k2, k3⟩ := key
    exact h b1 (.int need) u (.int need) tx G8 (m16.trans m68) ((p7.same t8).le (by omega)) f8 (.int _) (.inr ⟨hneed, .inl ⟨ty, k1, k2⟩⟩) k3
end
section
variable {P : Program} {w : World} {K : PySem.W.Frag} {mg : Str → Option Value} {base : Heap}
abbrev sTold : Stmt := top 35
theorem scTold : FnScope ["need", "row", "e"] ["need", "row"] (defScope sTold) := ⟨rfl, rfl, rfl, by decide +kernel, rfl, by decide +kernel, by decide +kernel⟩
def spTold (K : PySem.W.Frag) : Sp := fun vs H Q _ => ∃ (v u : V) (d : PyData), vs = [v, u] ∧ Rep H v d ∧ (isSz d = false ∨ (isSz d = true ∧ NoSizes K H u)) ∧ ∀ H', L2.Same H H' → Q (.int 0) H'
theorem ok_told {f : Addr} {fd : FuncData} {B c1 : Addr} (F : Fun K "_law_told" "_law_told" sTold f fd) (cM : Callee (CXF P w) P w K mg base "made_heap" 3 ["need", "sizes"] (spMadeX K c1))
 (cR : CalleeH CX0 P w K mg base "_law_kind" 1 ["e"] (spKindE c1 0)) (i1 : ECls K mg "NoHeap" c1 B) (bB : BCls K mg "BrimError" B) : FnOk P w K mg base CX0 4 f fd ["need", "row"] (spTold K) := by
 refine Br.Fun.j F scTold (fun vs H Q E h => ?_) (fun cdv A outer s H vs Q E hr h => ?_)
 · obtain ⟨_, _, _, rfl, _⟩ := h; rfl
 · obtain ⟨v, u, d, rfl, rep, hb, h⟩ := h
   have nd := scTold.nd
   refine' ⟨_, ?d, ?r⟩
   case d => wtm_at "body"
   case r =>
    refine ⟨_, rfl, _, rfl, v, u, d, rfl, rep, hb, fun H1 s1 => ⟨i1.caught bB, c1, rfl, fun ea hea => ?_⟩⟩
    exact ⟨_, rfl, ea, rfl, upd_same, fun H2 s2 => h H2 (s1.trans ((Br.Same.upd hea).trans s2))⟩
end
section
local macro_rules | `(tactic| wtm_at "cop") => `(tactic| (apply c_neF; assumption))
local macro_rules | `(tactic| wtm_at "call") => `(tactic| first
 | (apply k_sortSetN; (wtm_at "K"); (with_reducible rfl); (with_reducible rfl); (rfl); (rfl); (assumption); (assumption); (rfl); (rfl); (rfl); (intro _; rfl); (wtm_at "pe"))
 | (apply k_sortedI; (rfl); (rfl); (rfl); (wtm_at "K"); (with_reducible rfl); (rfl); (assumption); (wtm_at "pa"))
 | (apply j_strK; (assumption); (rfl); (rfl); (rfl); (with_reducible rfl); (assumption); (wtm_at "pa")))
local macro_rules | `(tactic| wtm_at "pe") => `(tactic| (apply k_count; (wtm_at "K"); (rfl); (rfl); (rfl); (rfl); (rfl); (wtm_at "pe"); (wtm_at "pa")))
variable {P : Program} {w : World} {K : PySem.W.Frag} {mg : Str → Option Value} {base : Heap}
abbrev sLaw : Stmt := top 36
theorem scLaw : FnScope ["script", "cell", "pot", "need", "row", "due", "handed", "found", "things", "turn", "odd_need", "odd_row", "kept"] ["script"] (defScope sLaw) := ⟨rfl, rfl, rfl, by decide +kernel, rfl, by decide +kernel, by decide +kernel⟩
def spLaw (K : PySem.W.Frag) : Sp := fun vs H Q _ => ∃ (a : Addr) (ns : List Int), vs = [.ref a] ∧ SqL K H a (ns.map V.int) ∧ ns.length ≤ 63 ∧ ∀ H', Q (.bl true) H'
theorem ok_law {f : Addr} {fd : FuncData} (F : Fun K "law" "law" sLaw f fd) (cF : Callee CX0 P w K mg base "_law_folded" 1 ["cells", "many"] (spFolded K)) (cB : Callee CX0 P w K mg base "_law_begun" 1 ["cell"] spBegun) (cT : Callee CX0 P w K mg base "_law_take" 1 ["pot", "size"] spTake)
 (cN : Callee CX0 P w K mg base "_law_need" 3 ["pot"] spNeed) (cR : Callee CX0 P w K mg base "_law_row" 4 ["pot", "need"] spRow) (cO : Callee CX0 P w K mg base "_law_odd" 2 ["pot", "need", "row"] (spOdd K)) (cD : Callee CX0 P w K mg base "_law_told" 4 ["need", "row"] (spTold K))
 (cM : Callee CX0 P w K mg base "made_heap" 3 ["need", "sizes"] spMade) (cG : Callee CX0 P w K mg base "things_of" 3 ["heap"] spThings) (cS : Callee CX0 P w K mg base "total_of" 1 ["heap"] spTot)
 (mI : mg "isinstance" = none) (mT : mg "tuple" = none) (mL : mg "list" = none) (mSo : mg "sorted" = none) (mSe : mg "set" = none) (mSu : mg "sum" = none) (mSt : mg "str" = none) (mR : mg "range" = none) : FnOk P w K mg base CX0 5 f fd ["script"] (spLaw K) := by
 refine Br.Fun.j F scLaw (fun vs H Q E h => ?_) (fun cdv A outer s H vs Q E hr h => ?_)
 · obtain ⟨_, _, rfl, _⟩ := h; rfl
 · obtain ⟨a, ns, rfl, hS, hlen, k⟩ := h
   have nd := scLaw.nd
   have hsz : (sizeLine : Nat) = 16777216 := sizeLine_eq
   refine' ⟨_, ?d, ?r⟩
   case d => wtm_at "body"
   case r =>
    refine ⟨_, rfl, a, ns, 5, rfl, hS, by decide, by decide, fun l cs H1 nl s1 e1 hzl => ?_⟩
    refine ⟨l, rfl, .inl ⟨⟨_, SqL.of e1⟩, ?_⟩⟩
    refine for_list (K := K) (a := l) (xs := cs.map V.int) (fun i σ G => L2.Same H1 G ∧ ∃ x1 x2 x3 x4 x5 x6 x7 x8 x9 xa xb xc : Option V, σ = [some (.ref a), x1, x2, x3, x4, x5, x6, x7, x8, x9, xa, xb, xc])
     ⟨L2.Same.refl _, none, none, none, none, none, none, none, none, none, none, none, none, rfl⟩ (fun i σ G _ ⟨sG, _⟩ => SqL.of (sG _ _ e1)) ?_ ?_
    · rintro i x σ G hx ⟨sG, x1, x2, x3, x4, x5, x6, x7, x8, x9, xa, xb, xc, rfl⟩
      rw [List.getElem?_map] at hx
      obtain ⟨c, hc, rfl⟩ := Option.map_eq_some_iff.mp hx
      refine ⟨_, rfl, c, rfl, fun p G1 np q1 p1 => ?_⟩
      refine ⟨_, rfl, p, _, rfl, p1, by decide, fun need G2 m2 p2 b0 b1 => ?_⟩
      refine ⟨_, rfl, _, rfl, p, _, need, rfl, p2, by decide, b0, b1, fun rw_ zs bs G3 m3 p3 nrp e3 hzl2 hbl hzb => ?_⟩
      refine ⟨_, rfl, _, rfl, rw_, zs, bs, rfl, .inl (SqL.of e3), by omega, fun x hx => (hzb x hx).2.2, by omega, fun sl ms G4 n4 q4 e4 pw hm => ?_⟩
      refine ⟨sl, rfl, .inl ⟨⟨_, SqL.of e4⟩, ?_⟩⟩
      refine cmp_list (K := K) (a := sl) (xs := ms.map V.int) (fun j ys σ G' => L2.Same G4 G' ∧ Kinds G' ys ((ms.take j).map fun m => (m, ((zs.count m : Nat) : Int))) ∧ ∃ x : Option V, σ = [x, some (.ref a), some (.int c), some (.ref p), some (.int need), some (.ref rw_), x5, x6, x7, x8, x9, xa, xb, xc])
       ⟨.refl _, Kinds.nil, none, rfl⟩ (by rw [List.length_map]; have := few_keys (ms := ms) (bs := bs) (pw.imp fun h => Int.ne_of_lt h) (fun m h => (hzb m ((hm m).mp h)).2.2); omega) (fun j ys σ G' hj ⟨sG', kk, _⟩ => ⟨SqL.of (sG' _ _ e4), by rw [kk.1, List.length_map, List.length_take]; omega⟩) ?_ ?_
      · rintro j x ys σ G' N hx ⟨sG', kk, x0, rfl⟩ hN
        rw [List.getElem?_map] at hx
        obtain ⟨m, hmj, rfl⟩ := Option.map_eq_some_iff.mp hx
        refine ⟨_, rfl, _, rfl, .inl ⟨rfl, _, SqL.of (sG' _ _ (q4 _ _ e3))⟩, ?_⟩
        refine ⟨_, rfl, .inl ⟨rw_, zs, m, rfl, rfl, SqL.of (sG' _ _ (q4 _ _ e3)), ?_⟩⟩
        refine ⟨lenLe (n := 2) rfl (by decide), fun r G5 nr s5 e5 => hN _ _ _ ⟨sG'.trans s5, ?_, _, rfl⟩⟩
        rw [List.take_add_one, hmj, List.map_append]
        exact (kk.same s5).snoc e5
      rintro ys σ G' ⟨sG', kk, x0, rfl⟩ pl G5 npl s5 e5
      rw [List.take_of_length_le (by rw [List.length_map]; exact Nat.le_refl _)] at kk
      refine ⟨pl, _, rfl, SqL.of e5, fun tt G6 ntt s6 e6 => ?_⟩
      refine ⟨lenLe (n := 2) rfl (by decide), fun du G7 ndu s7 e7 => ?_⟩
      have kk7 := (kk.same s5).same (s6.trans s7)
      have s37 := q4.trans (sG'.trans (s5.trans (s6.trans s7)))
      have p7 := p3.same s37
      have e37 := s37 _ _ e3
      have rqs : Ris (ms.map fun m => (m, ((zs.count m : Nat) : Int))) := by
       unfold Ris; rw [List.pairwise_map]; exact pw
      have hqs : PsOf (ms.map fun m => (m, ((zs.count m : Nat) : Int))) zs := fun q => by
       rw [List.mem_map]
       refine ⟨?_, fun z => ⟨q.1, (hm _).mpr z.1, by rw [← z.2]⟩⟩
       rintro ⟨m, hmm, rfl⟩
       exact ⟨(hm m).mp hmm, rfl⟩
      refine ⟨_, rfl, rw_, _, rfl, .inl (SqL.of e37), fun la G8 nla s8 e8 => ?_⟩
      refine ⟨_, rfl, rw_, _, rfl, SqL.of (s8 _ _ e37), fun ta G9 nta s9 e9 => ?_⟩
      refine ⟨lenLe (n := 2) rfl (by decide), fun lp GA nlp sA eA => ?_⟩
      have p8 := p7.same s8
      have p9 := p8.same s9
      have pA := p9.same sA
      refine ⟨_, rfl, p, _, 2, rfl, pA, by omega, by decide, by decide, fun wy GB mB pB wa wb => ?_⟩
      have hhd : ∃ hd : Addr, atI [V.ref la, V.ref ta] wy = some (.ref hd) ∧ LsTp GB hd (zs.map V.int) := by
       have gl : GB la = some (.lst (zs.map V.int)) := mB _ _ (nin (p7.ne nla)) (sA _ _ (s9 _ _ e8))
       have gt : GB ta = some (.tup (zs.map V.int)) := mB _ _ (nin (p8.ne nta)) (sA _ _ e9)
       have wb : wy < 2 := wb
       by_cases z : wy = 0
       · subst z; exact ⟨la, rfl, .inl gl⟩
       · rw [show wy = 1 by omega]; exact ⟨ta, rfl, .inr gt⟩
      obtain ⟨hd, hat, hlt⟩ := hhd
      refine .inl ⟨lp, _, _, _, rfl, rfl, SqL.of (mB _ _ (nin (p9.ne nlp)) eA), hat, ?_⟩
      refine ⟨_, rfl, _, rfl, hd, need, zs, bs, rfl, hlt, hzl2, b0, b1, hzb, hbl, fun hp ps GC sC hh hps => ?_⟩
      obtain ⟨kt, ko, kvs, kh1, _, _, _, kok⟩ := id hh
      have eps := hps.uniq hqs kok.ris rqs
      have m3B : Mo [p] G3 GB := (Mo.of (s37.trans (s8.trans (s9.trans sA)))).trans mB
      have eB := m3B _ _ (nin nrp) e3
      have eC := sC _ _ eB
      have pC := pB.same sC
      have mduB : Mo [p] G7 GB := (Mo.of (s8.trans (s9.trans sA))).trans mB
      have hdue : RepF GC (.ref du) (dHeap need ps) := by
       rw [eps]
       have tu : Tu G7 GC := (Tu.mo p7 mduB).trans (Tu.of sC)
       exact .tup (.inl (tu _ _ e7 (.inl ⟨_, rfl⟩))) (.cons (.int _) (.cons (.tup (.inl (tu _ _ (s7 _ _ e6) (.inl ⟨_, rfl⟩))) (kk7.mo tu).repsF) .nil))
      have pt := hps.permT kok.ris.nodup
      have tlen : (ps.map (·.2)).sum ≤ 100 := by
       have := things_len (qs := ps) fun q hq => by have := (kok.bd q hq).2.2.1; omega
       have := pt.length_eq
       omega
      refine ⟨fun σ' G' => L2.Same GC G' ∧ σ' = [some (.ref a), some (.int c), some (.ref p), some (.int need), some (.ref rw_), some (.ref du), some (.ref hd), some (.ref hp), x8, x9, xa, xb, xc], ?_, ?_⟩
      · refine ⟨_, rfl, .inl ⟨_, _, _, _, rfl, .of (TyOf.tup kh1), rfl, _, rfl, iteF ?_⟩⟩
        refine ⟨_, rfl, _, rfl, .inr ⟨_, _, hh.rep, hdue, pl_heap _ _, pl_heap _ _, ?_⟩⟩
        rw [SeqAt.eqv_refl _ (pl_heap _ _).1]
        refine ⟨_, rfl, iteF ?_⟩
        have hltC := hlt.same sC
        refine ⟨_, rfl, hd, _, rfl, hltC.imp SqL.of SqT.of, fun lD GD nD sD eD => ?_⟩
        refine ⟨_, rfl, .inr ⟨_, _, .lst eD (repsF_ints _), .lst (sD _ _ eC) (repsF_ints _), pl_ints _, pl_ints _, ?_⟩⟩
        rw [SeqAt.eqv_refl _ (pl_ints _).1]
        refine ⟨_, rfl, iteF ?_⟩
        refine ⟨_, rfl, hp, need, ps, rfl, hh.tu (Tu.of sD), fun GE sE => ?_⟩
        refine ⟨_, rfl, rw_, zs, rfl, .inl (SqL.of (sE _ _ (sD _ _ eC))), .inl ⟨rfl, ?_⟩⟩
        rw [show tot ps = zs.sum from hps.tot kok.ris.nodup, decide_eq_true rfl]
        exact ⟨_, rfl, iteF ⟨sD.trans sE, rfl⟩⟩
      rintro σ' GD ⟨sD, rfl⟩
      refine ⟨_, rfl, hp, need, ps, rfl, hh.tu (Tu.of sD), tlen, fun tl GE ntl sE eE => ?_⟩
      have ntlD := ntl
      refine ⟨fun σ' G' => L2.Same GE G' ∧ σ' = [some (.ref a), some (.int c), some (.ref p), some (.int need), some (.ref rw_), some (.ref du), some (.ref hd), some (.ref hp), some (.ref tl), x9, xa, xb, xc], ?_, ?_⟩
      · refine ⟨_, rfl, .inl ⟨_, _, _, _, rfl, .of (TyOf.lst eE), rfl, _, rfl, iteF ?_⟩⟩
        refine ⟨_, rfl, _, rfl, .inr ⟨rw_, zs, rfl, .inl (SqL.of (sE _ _ (sD _ _ eC))), fun l9 ms2 GF nF sF eF pm pw2 => ?_⟩⟩
        have em : ms2 = thingsL ps := sorted_uniq (pm.trans pt.symm) pw2 (things_sorted kok.ris)
        subst em
        refine .inr ⟨_, _, .lst (sF _ _ eE) (repsF_ints _), .lst eF (repsF_ints _), pl_ints _, pl_ints _, ?_⟩
        rw [SeqAt.eqv_refl _ (pl_ints _).1]
        exact ⟨_, rfl, iteF ⟨sF, rfl⟩⟩
      rintro σ' GF ⟨sF, rfl⟩
      have eF := sF _ _ eE
      have tne : ∀ b o, GD b = some o → b ≠ tl := fun b o e z => by rw [z, ntlD] at e; cases e
      refine ⟨_, rfl, .inl ⟨rfl, _, SqL.of eF⟩, tl, _, _, rfl, rfl, eF, by rw [List.length_map]; have := pt.length_eq; omega, ?_⟩
      have sX : L2.Same GD (upd GF tl (.lst ((thingsL ps).map V.int ++ [V.int 0]))) := fun b o e => by
       rw [upd_ne (tne b o e)]; exact sF _ _ (sE _ _ e)
      generalize (upd GF tl (.lst ((thingsL ps).map V.int ++ [V.int 0]))) = GX at sX
      have sCX := sD.trans sX
      refine ⟨fun σ' G' => L2.Same GX G' ∧ σ' = [some (.ref a), some (.int c), some (.ref p), some (.int need), some (.ref rw_), some (.ref du), some (.ref hd), some (.ref hp), some (.ref tl), x9, xa, xb, xc], ?_, ?_⟩
      · refine ⟨_, rfl, hp, need, ps, rfl, hh.tu (Tu.of sCX), tlen, fun t2 GY nY sY eY => ?_⟩
        refine ⟨_, rfl, .inr ⟨rw_, zs, rfl, .inl (SqL.of (sY _ _ (sCX _ _ eC))), fun l9 ms2 GZ nZ sZ eZ pm pw2 => ?_⟩⟩
        have em : ms2 = thingsL ps := sorted_uniq (pm.trans pt.symm) pw2 (things_sorted kok.ris)
        subst em
        refine .inr ⟨_, _, .lst (sZ _ _ eY) (repsF_ints _), .lst eZ (repsF_ints _), pl_ints _, pl_ints _, ?_⟩
        rw [SeqAt.eqv_refl _ (pl_ints _).1]
        exact ⟨_, rfl, iteF ⟨sY.trans sZ, rfl⟩⟩
      rintro σ' GY ⟨sY, rfl⟩
      have sCY := sCX.trans sY
      have eY := sCY _ _ eC
      have pY := (pC.same sCY).le (show _ ≤ 600 by omega)
      have m1Y : Mo [p] G1 GY := m2.trans (m3.trans (m3B.trans (Mo.of (sC.trans sCY))))
      have s1Y : ∀ {G' : Hp}, Mo [p] GY G' → L2.Same H1 G' := fun {G'} m b o e => by
       have e0 := sG _ _ e
       exact m b o (nin (fun z => by rw [z, np] at e0; cases e0)) (m1Y b o (nin (fun z => by rw [z, np] at e0; cases e0)) (q1 _ _ e0))
      refine ⟨_, rfl, by decide, by decide, for_range (fun j σ G' => Mo [p] GY G' ∧ Pot (600 + 10 * j) G' p ∧ ∃ y1 y2 y3 y4 : Option V, σ = [some (.ref a), some (.int c), some (.ref p), some (.int need), some (.ref rw_), some (.ref du), some (.ref hd), some (.ref hp), some (.ref tl), y1, y2, y3, y4]) ⟨Mo.of (L2.Same.refl _), pY, _, _, _, _, rfl⟩ ?_ ?_⟩
      · rintro j σ G' hj ⟨mG, pG, y1, y2, y3, y4, rfl⟩
        have eG := mG _ _ (nin nrp) eY
        have hj3 : j < 3 := hj
        refine ⟨_, rfl, _, rfl, _, rfl, p, _, need, rw_, zs, rfl, pG, by omega, b0, b1, eG, nrp, hzl2, fun z hz => ⟨(hzb z hz).1, (hzb z hz).2.1⟩, fun ot v u d t GH mH pH eH rv hbad hst => ?_⟩
        refine ⟨ot, _, rfl, SqT.of eH, rfl, _, _, rfl, _, _, rfl, rfl, ?_⟩
        refine ⟨_, rfl, hst _ _ (L2.Same.refl _) ?_⟩
        refine ⟨fun σ' G2 => L2.Same GH G2 ∧ σ' = [some (.ref a), some (.int c), some (.ref p), some (.int need), some (.ref rw_), some (.ref du), some (.ref hd), some (.ref hp), some (.ref tl), some (.int (0 + j)), some v, some u, some (.str t)], ?_, ?_⟩
        · refine ⟨_, rfl, _, rfl, v, u, d, rfl, rv, hbad, fun G2 s2 => .inl ⟨rfl, ?_⟩⟩
          rw [decide_eq_true rfl]
          refine ⟨_, rfl, iteF ?_⟩
          refine ⟨_, rfl, hst _ _ s2 ?_⟩
          refine ⟨_, rfl, .inl ⟨rfl, ?_⟩⟩
          rw [decide_eq_true rfl]
          exact ⟨_, rfl, iteF ⟨s2, rfl⟩⟩
        rintro σ' G2 ⟨s2, rfl⟩
        exact ⟨mG.trans (mH.trans (Mo.of s2)), (pH.same s2).le (by omega), _, _, _, _, rfl⟩
      · rintro σ G' ⟨mG, pG, y1, y2, y3, y4, rfl⟩
        exact ⟨s1Y mG, _, _, _, _, _, _, _, _, _, _, _, _, rfl⟩
    · rintro σ G ⟨sG, x1, x2, x3, x4, x5, x6, x7, x8, x9, xa, xb, xc, rfl⟩
      exact k _
end
abbrev GAt (K : PySem.W.Frag) (x : Str) (v : Value) : Prop := PySem.W.nsIn K mainGlobals x = some (some v)
abbrev NAt (K : PySem.W.Frag) (x : Str) : Prop := PySem.W.nsIn K mainGlobals x = some none
def DfAt (K : PySem.W.Frag) (x : Str) (st : Stmt) : Prop := ∃ f oc od kV dc pm an cd ct sl, GAt K x (.ref f) ∧ K.lookup f = some ⟨oc, od, .func (PySem.W.fnOf x x (defArgs st) (defBody st) (defScope st) .none kV dc pm an cd ct), sl⟩ ∧ PySem.W.codeIn K cd x = true ∧ PySem.W.keepIn K (.ref f) = true
theorem DfAt.of {K : PySem.W.Frag} {x : Str} {st : Stmt} {f : Addr} {oc kV dc pm cd ct : Value} {od an : Option Addr} {sl : Array (Option Value)} (a : PySem.W.nsIn K mainGlobals x = some (some (.ref f))) (l : K.lookup f = some ⟨oc, od, .func (PySem.W.fnOf x x (defArgs st) (defBody st) (defScope st) .none kV dc pm an cd ct), sl⟩) (c : PySem.W.codeIn K cd x = true) (k : PySem.W.keepIn K (.ref f) = true) : DfAt K x st := ⟨_, _, _, _, _, _, _, _, _, _, a, l, c, k⟩
theorem DfAt.cal {K : PySem.W.Frag} {h : Heap} {mg : Str → Option Value} {x : Str} {st : Stmt} {CX : CXT} {k : Nat} {ps : List Str} {sp : Sp} (d : DfAt K x st) (P : Program) (w : World) (base : Heap) (X : K.In h) (G : h.Ns mainGlobals mg) (ok : ∀ {f : Addr} {fd : FuncData}, Fun K x x st f fd → FnOk P w K mg base CX k f fd ps sp)
 (b : ∀ (kV doc pm : Value) (an : Option Addr) (cdv ct : Value) (us : List Value), us.length = ps.length → bindArgs (PySem.W.fnOf x x (defArgs st) (defBody st) (defScope st) .none kV doc pm an cdv ct) ⟨us, []⟩ = pure (ps.zip us)) : Callee CX P w K mg base x k ps sp :=
 let ⟨_, _, _, _, _, _, _, _, _, _, a, l, c, k⟩ := d; ⟨_, _, ok (fun_mk l c k), PySem.W.mg_of X G a, k, (fun_mk l c k).binds b⟩
theorem DfAt.calH {K : PySem.W.Frag} {h : Heap} {mg : Str → Option Value} {x : Str} {st : Stmt} {CX : CXT} {k : Nat} {ps : List Str} {sp : Sp} (d : DfAt K x st) (P : Program) (w : World) (base : Heap) (X : K.In h) (G : h.Ns mainGlobals mg) (ok : ∀ {f : Addr} {fd : FuncData}, Fun K x x st f fd → FnOkH P w K mg base CX k f fd ps sp)
 (b : ∀ (kV doc pm : Value) (an : Option Addr) (cdv ct : Value) (us : List Value), us.length = ps.length → bindArgs (PySem.W.fnOf x x (defArgs st) (defBody st) (defScope st) .none kV doc pm an cdv ct) ⟨us, []⟩ = pure (ps.zip us)) : CalleeH CX P w K mg base x k ps sp :=
 let ⟨_, _, _, _, _, _, _, _, _, _, a, l, c, k⟩ := d; ⟨_, _, ok (fun_mk l c k), PySem.W.mg_of X G a, k, (fun_mk l c k).binds b⟩
local macro_rules | `(tactic| wtm_at "b1") => `(tactic| exact fun _ _ _ _ _ _ us hl => match us, hl with | [_], _ => rfl)
local macro_rules | `(tactic| wtm_at "b2") => `(tactic| exact fun _ _ _ _ _ _ us hl => match us, hl with | [_, _], _ => rfl)
local macro_rules | `(tactic| wtm_at "b3") => `(tactic| exact fun _ _ _ _ _ _ us hl => match us, hl with | [_, _, _], _ => rfl)
theorem all_mk {l : PySem.W.OpenLaw} {w : World} {K : PySem.W.Frag} {h : Heap} {mg : Str → Option Value} {fa : Addr} (X : K.In h) (G : h.Ns mainGlobals mg) (hfa : mg "law" = some (.ref fa)) {tgM1 tgM2 tgM3 : Tok}
 {cB cNoRatio cNoHeap cNoLot cUnlike cTooMany cNoSize cTooFew cNoText cNoRow cNoBack : Addr}
 (d1 : DfAt K "_law_begun" sBegun)
 (d2 : DfAt K "_law_take" sTake)
 (d3 : DfAt K "_law_wide" sWide)
 (d4 : DfAt K "_law_folded" sFolded)
 (d5 : DfAt K "_law_need" sNeed)
 (d6 : DfAt K "_law_size" sSize)
 (d7 : DfAt K "counts_of" sCo)
 (d8 : DfAt K "total_of" sTot)
 (d9 : DfAt K "number_of_things" sNThings)
 (d10 : DfAt K "refuse_above" sRefuse)
 (d11 : DfAt K "things_of" sThings)
 (d12 : DfAt K "is_whole" sWhole)
 (d13 : DfAt K "is_size" sIsSize)
 (d14 : DfAt K "made_heap" sMade)
 (d16 : DfAt K "_law_kind" sKindE)
 (d17 : DfAt K "_law_row" sRow)
 (d18 : DfAt K "_law_odd" sOdd)
 (d19 : DfAt K "_law_told" sTold)
 (d20 : DfAt K "law" sLaw)
 (gB : GAt K "BrimError" (.ref cB))
 (gNoRatio : GAt K "NoRatio" (.ref cNoRatio))
 (gNoHeap : GAt K "NoHeap" (.ref cNoHeap))
 (gNoLot : GAt K "NoLot" (.ref cNoLot))
 (gUnlike : GAt K "Unlike" (.ref cUnlike))
 (gTooMany : GAt K "TooMany" (.ref cTooMany))
 (gNoSize : GAt K "NoSize" (.ref cNoSize))
 (gTooFew : GAt K "TooFew" (.ref cTooFew))
 (gNoText : GAt K "NoText" (.ref cNoText))
 (gNoRow : GAt K "NoRow" (.ref cNoRow))
 (gNoBack : GAt K "NoBack" (.ref cNoBack))
 (uB1 : (PySem.W.clsIn K cB).isSome = true) (uB2 : PySem.W.typeIn K (.ref cB) = some (.type "type")) (uB3 : PySem.W.mroIn K cB (.type "BaseException") = some true)
 (uNoRatio : eclsIn K cNoRatio cB = true)
 (uNoHeap : eclsIn K cNoHeap cB = true)
 (uNoLot : eclsIn K cNoLot cB = true)
 (uUnlike : eclsIn K cUnlike cB = true)
 (uTooMany : eclsIn K cTooMany cB = true)
 (uNoSize : eclsIn K cNoSize cB = true)
 (uTooFew : eclsIn K cTooFew cB = true)
 (uNoText : eclsIn K cNoText cB = true)
 (uNoRow : eclsIn K cNoRow cB = true)
 (uNoBack : eclsIn K cNoBack cB = true)
 (gM1 : PySem.W.nsIn K mainGlobals "GREATEST" = some (some (.int 1000000000000 tgM1)))
 (gM2 : PySem.W.nsIn K mainGlobals "MOST_KINDS" = some (some (.int 8 tgM2)))
 (gM3 : PySem.W.nsIn K mainGlobals "MOST_THINGS" = some (some (.int 100 tgM3)))
 (hdis : ∀ D ∈ [cNoRatio, cNoSize, cTooFew, cNoText, cNoRow, cNoBack], cNoHeap ≠ D ∧ cB ≠ D)
 (hdis2 : (cNoHeap ≠ cNoLot ∧ cNoHeap ≠ cUnlike ∧ cNoHeap ≠ cTooMany) ∧ cB ≠ cNoLot ∧ cB ≠ cUnlike ∧ cB ≠ cTooMany)
 (n_abs : NAt K "abs")
 (n_range : NAt K "range")
 (n_enumerate : NAt K "enumerate")
 (n_len : NAt K "len")
 (n_max : NAt K "max")
 (n_min : NAt K "min")
 (n_sum : NAt K "sum")
 (n_isinstance : NAt K "isinstance")
 (n_int : NAt K "int")
 (n_bool : NAt K "bool")
 (n_tuple : NAt K "tuple")
 (n_list : NAt K "list")
 (n_all : NAt K "all")
 (n_sorted : NAt K "sorted")
 (n_ValueError : NAt K "ValueError")
 (n_set : NAt K "set")
 (n_str : NAt K "str") :
 ∃ fd : FuncData, (∀ (s : Shared) (v : Value), BindsTo s fd ⟨[v], []⟩ [("script", v)]) ∧ ∀ base : Heap, K.In base → base.Ns mainGlobals mg → FnOk l.prog w K mg base CX0 5 fa fd ["script"] (spLaw K) := by
 obtain ⟨fL, oc, od, kV, dc, pm, an, cd, ct, sl, aL, lL, cL, kL⟩ := d20
 have e := hfa.symm.trans (PySem.W.mg_of X G aL)
 cases e
 have F20 := fun_mk (st := sLaw) lL cL kL
 have z_abs := PySem.W.mg_none_of X G n_abs
 have z_range := PySem.W.mg_none_of X G n_range
 have z_enumerate := PySem.W.mg_none_of X G n_enumerate
 have z_len := PySem.W.mg_none_of X G n_len
 have z_max := PySem.W.mg_none_of X G n_max
 have z_min := PySem.W.mg_none_of X G n_min
 have z_sum := PySem.W.mg_none_of X G n_sum
 have z_isinstance := PySem.W.mg_none_of X G n_isinstance
 have z_int := PySem.W.mg_none_of X G n_int
 have z_bool := PySem.W.mg_none_of X G n_bool
 have z_tuple := PySem.W.mg_none_of X G n_tuple
 have z_list := PySem.W.mg_none_of X G n_list
 have z_all := PySem.W.mg_none_of X G n_all
 have z_sorted := PySem.W.mg_none_of X G n_sorted
 have z_ValueError := PySem.W.mg_none_of X G n_ValueError
 have z_set := PySem.W.mg_none_of X G n_set
 have z_str := PySem.W.mg_none_of X G n_str
 have bB : BCls K mg "BrimError" cB := ⟨PySem.W.mg_of X G gB, uB1, uB2, uB3⟩
 have eNoRatio : ECls K mg "NoRatio" cNoRatio cB := ⟨PySem.W.mg_of X G gNoRatio, uNoRatio⟩
 have eNoHeap : ECls K mg "NoHeap" cNoHeap cB := ⟨PySem.W.mg_of X G gNoHeap, uNoHeap⟩
 have eNoLot : ECls K mg "NoLot" cNoLot cB := ⟨PySem.W.mg_of X G gNoLot, uNoLot⟩
 have eUnlike : ECls K mg "Unlike" cUnlike cB := ⟨PySem.W.mg_of X G gUnlike, uUnlike⟩
 have eTooMany : ECls K mg "TooMany" cTooMany cB := ⟨PySem.W.mg_of X G gTooMany, uTooMany⟩
 have eNoSize : ECls K mg "NoSize" cNoSize cB := ⟨PySem.W.mg_of X G gNoSize, uNoSize⟩
 have eTooFew : ECls K mg "TooFew" cTooFew cB := ⟨PySem.W.mg_of X G gTooFew, uTooFew⟩
 have eNoText : ECls K mg "NoText" cNoText cB := ⟨PySem.W.mg_of X G gNoText, uNoText⟩
 have eNoRow : ECls K mg "NoRow" cNoRow cB := ⟨PySem.W.mg_of X G gNoRow, uNoRow⟩
 have eNoBack : ECls K mg "NoBack" cNoBack cB := ⟨PySem.W.mg_of X G gNoBack, uNoBack⟩
 refine ⟨PySem.W.fnOf "law" "law" (defArgs sLaw) (defBody sLaw) (defScope sLaw) .none kV dc pm an cd ct, fun s v => .of_eq rfl, fun base _ _ => ?_⟩
 have C1 := d1.cal l.prog w base X G (fun F => ok_begun F z_abs) (by wtm_at "b1")
 have C2 := d2.cal l.prog w base X G (fun F => ok_take F) (by wtm_at "b2")
 have C3 := d3.cal l.prog w base X G (fun F => ok_wide F C2 z_range) (by wtm_at "b2")
 have C4 := d4.cal l.prog w base X G (fun F => ok_folded F z_enumerate z_len z_max z_min) (by wtm_at "b2")
 have C5 := d5.cal l.prog w base X G (fun F => ok_need F C2 C3) (by wtm_at "b1")
 have C6 := d6.cal l.prog w base X G (fun F => ok_size F C2 C3 z_max z_min) (by wtm_at "b2")
 have C7 := d7.cal l.prog w base X G (fun F => ok_co F) (by wtm_at "b1")
 have C8 := d8.cal l.prog w base X G (fun F => ok_tot F z_sum) (by wtm_at "b1")
 have C9 := d9.cal l.prog w base X G (fun F => ok_nthings F z_sum) (by wtm_at "b1")
 have C10 := d10.cal l.prog w base X G (fun F => ok_refuse F C9) (by wtm_at "b2")
 have C11 := d11.cal l.prog w base X G (fun F => ok_things F C10 ⟨⟨_, PySem.W.mg_of X G gM3⟩⟩) (by wtm_at "b1")
 have C12 := d12.cal l.prog w base X G (fun F => ok_whole F z_isinstance z_int z_bool) (by wtm_at "b1")
 have C13 := d13.cal l.prog w base X G (fun F => ok_isSize F C12 ⟨⟨_, PySem.W.mg_of X G gM1⟩⟩) (by wtm_at "b1")
 have C14 := d14.cal l.prog w base X G (fun F => ok_made F C13 C7 ⟨⟨_, PySem.W.mg_of X G gM2⟩⟩ ⟨⟨_, PySem.W.mg_of X G gM3⟩⟩ z_isinstance z_tuple z_list z_len z_all z_sorted) (by wtm_at "b2")
 have C15 := d14.cal l.prog w base X G (fun F => ok_madeX F eNoHeap C13 C7 ⟨⟨_, PySem.W.mg_of X G gM2⟩⟩ ⟨⟨_, PySem.W.mg_of X G gM3⟩⟩ z_isinstance z_tuple z_list z_len z_all z_sorted) (by wtm_at "b2")
 have C16 := d16.calH l.prog w base X G (fun F => ok_kind0 F eNoHeap eNoLot eUnlike eTooMany eNoRatio eNoSize eTooFew eNoText eNoRow eNoBack hdis hdis2 z_isinstance z_ValueError) (by wtm_at "b1")
 have C17 := d17.cal l.prog w base X G (fun F => ok_row F C2 C6 z_range z_len) (by wtm_at "b2")
 have C18 := d18.cal l.prog w base X G (fun F => ok_odd F C2 z_range z_len) (by wtm_at "b3")
 have C19 := d19.cal l.prog w base X G (fun F => ok_told F C15 C16 eNoHeap bB) (by wtm_at "b2")
 exact ok_law F20 C4 C1 C2 C5 C17 C18 C19 C14 C11 C8 z_isinstance z_tuple z_list z_sorted z_set z_sum z_str z_range
theorem walk {l : PySem.W.OpenLaw} {q : Program} {loose : List Str} {XP : (Str → Option Value) → Heap → Prop} {YP : World → Heap → Prop} {d : DefRec} {K : Params → PySem.W.Frag} (hn : l.most = some 63) (hdf : d.params.defaults = [])
 (hY : ∀ (w : World) (h : Heap), YP w h → (K w.params).In h)
 (F : ∀ (w : World) (mg : Str → Option Value) (fa : Addr) (h : Heap), (K w.params).In h → h.Ns mainGlobals mg → mg d.name = some (.ref fa) →
  ∃ fd : FuncData, (∀ (s : Shared) (u : Value), BindsTo s fd ⟨[u], []⟩ [("script", u)]) ∧ ∀ base : Heap, (K w.params).In base → base.Ns mainGlobals mg → FnOk l.prog w (K w.params) mg base CX0 5 fa fd ["script"] (spLaw (K w.params))) :
 PySem.W.WalkO q loose XP YP l.row.toRowW d [] (fun f vs => PySem.call f vs) :=
 L2.walk_of (n := 63) (k := 5) (x := "script") (CX := fun _ => CX0) (sp := fun w => spLaw (K w.params)) hn (by decide) hdf ⟨rfl, by decide, by decide, rfl⟩ hY F (fun _ _ a ns hl _ hS => ⟨a, ns, rfl, hS, hl, fun _ => rfl⟩) fun _ _ _ _ _ z => z
end K07
local macro_rules | `(tactic| wtm_at "keq") => `(tactic| (show _ = _; k_is))
local macro_rules | `(tactic| wtm_at "dat") => `(tactic| (refine' K07.DfAt.of ?a ?l ?c ?k; (case a => k_is); (case l => k_is); (case c => k_is); (case k => k_is)))
def PySem.W.Fast.tw544268124768718695 : Nat := 0
def PySem.W.Fast.tw11947602108452173131 : Nat := 0
def PySem.W.Fast.tw8602215130660728598 : Nat := 0
def PySem.W.Fast.tw16952325076867768709 : Nat := 0
def PySem.W.Fast.tw11320053482396220347 : Nat := 0
def PySem.W.Fast.tw8834035058358141264 : Nat := 0
def PySem.W.Fast.tw10392318206320847811 : Nat := 0
def PySem.W.Fast.tw16962592908296480786 : Nat := 0
def PySem.W.Fast.tw13198136290384086673 : Nat := 0
def PySem.W.Fast.tw10068223884823982291 : Nat := 0
def PySem.W.Fast.tw14990736182611860926 : Nat := 0
def PySem.W.Fast.tw7789690903320949011 : Nat := 0
def PySem.W.Fast.tw16287620342159502312 : Nat := 0
def PySem.W.Fast.tw5991881040430493152 : Nat := 0
def PySem.W.Fast.tw2076524964232097271 : Nat := 0
def PySem.W.Fast.tw4603238472185797390 : Nat := 0
def PySem.W.Fast.tw5289553778376575537 : Nat := 0
def PySem.W.Fast.tw9317447707720301730 : Nat := 0
def PySem.W.Fast.tw5555366979300423074 : Nat := 0
open PySem PySem.W PyProof.Rows
set_option maxRecDepth 100000 in
set_option maxHeartbeats 0 in
theorem PySem.Challenge.cw_brimyard_k07_heaps_made_holds : PySem.Challenge.rw_brimyard_k07_heaps_made.Holds := by
 w_on; refine holds_law (by decide +kernel) fun said => ?_
 k_head; (case hw => w_witness2)
 k_fill
 refine K07.walk (l := PySem.Challenge.rw_brimyard_k07_heaps_made) rfl rfl (fun w h Y => PySem.W.kIn_of Y) ?F
 case F =>
  intro w mg fa h KX G hmg
  refine' K07.all_mk KX G hmg ?d1 ?d2 ?d3 ?d4 ?d5 ?d6 ?d7 ?d8 ?d9 ?d10 ?d11 ?d12 ?d13 ?d14 ?d16 ?d17 ?d18 ?d19 ?d20 ?gB ?gNoRatio ?gNoHeap ?gNoLot ?gUnlike ?gTooMany ?gNoSize ?gTooFew ?gNoText ?gNoRow ?gNoBack ?uB1 ?uB2 ?uB3 ?uNoRatio ?uNoHeap ?uNoLot ?uUnlike ?uTooMany ?uNoSize ?uTooFew ?uNoText ?uNoRow ?uNoBack ?gM1 ?gM2 ?gM3 ?hdis ?hdis2 ?n_abs ?n_range ?n_enumerate ?n_len ?n_max ?n_min ?n_sum ?n_isinstance ?n_int ?n_bool ?n_tuple ?n_list ?n_all ?n_sorted ?n_ValueError ?n_set ?n_str
  (case d1 | d2 | d3 | d4 | d5 | d6 | d7 | d8 | d9 | d10 | d11 | d12 | d13 | d14 | d16 | d17 | d18 | d19 | d20 => wtm_at "dat")
  (case gB | gNoRatio | gNoHeap | gNoLot | gUnlike | gTooMany | gNoSize | gTooFew | gNoText | gNoRow | gNoBack => wtm_at "keq")
  (case uB1 => kernel_rfl)
  (case uB2 | uB3 => k_is)
  (case uNoRatio | uNoHeap | uNoLot | uUnlike | uTooMany | uNoSize | uTooFew | uNoText | uNoRow | uNoBack => kernel_rfl)
  (case gM1 | gM2 | gM3 => k_is)
  (case hdis | hdis2 => decide)
  (case n_abs | n_range | n_enumerate | n_len | n_max | n_min | n_sum | n_isinstance | n_int | n_bool | n_tuple | n_list | n_all | n_sorted | n_ValueError | n_set | n_str => wtm_at "keq")
