import PyProof.Rows.All
import Wide.All
import OpenK.AllK
import Wide.FinOn
import Lean
import PyProof.EqAt
import PyProof.EqKinds
import PyProof.TupleCall
import PyProof.NeData
import KE.KSortTup
import PyProof.Rows.FStr
import PyProof.AutoIntG2
import PyProof.DictTruth
import PyProof.Rows.CountFlat
import PyProof.Rows.SeqMore
import PyProof.DictWalks
import KE.KItemsList
import PyProof.ReprRoads
import PyProof.ReprLen
import PyProof.Rows.ReprOcc
import KE.KRevIter
import KE.KRevSl
import PyProof.DictCompW
import PySem.Challenge.RW_brimyard_k60_whole_ahead_of_changed_heap
set_option Elab.async false
set_option linter.all false
set_option maxRecDepth 100000
namespace L2
open PySem PySem.Spec PyProof.Rows
abbrev Key := Sum Int Str
def keyIs : Key → Value → Bool
 | .inl k, v => Value.isInt k v
 | .inr x, v => Value.isStrOf x v
def keyH (w : World) : Key → Int
 | .inl k => hashInt k
 | .inr x => hashStr w x
theorem keyIs_shape : ∀ {k : Key} {v : Value}, keyIs k v = true → (∃ i t, k = Sum.inl i ∧ v = Value.int i t) ∨ (∃ x t, k = Sum.inr x ∧ v = Value.str x t)
 | .inl i, v, h => by
  obtain ⟨t, e⟩ := Value.isInt_shape (k := i) (v := v) h
  exact .inl ⟨i, t, rfl, e⟩
 | .inr x, v, h => by
  obtain ⟨t, e⟩ := Value.isStrOf_shape (x := x) (v := v) h
  exact .inr ⟨x, t, rfl, e⟩
theorem keyIs_int (i : Int) (t : Tok) : keyIs (.inl i) (.int i t) = true := by simp [keyIs, Value.isInt]
theorem keyIs_str (x : Str) (t : Tok) : keyIs (.inr x) (.str x t) = true := by simp [keyIs, Value.isStrOf]
theorem key_ll (a b : Int) : decide ((Sum.inl a : Key) = Sum.inl b) = (a == b) := by
 by_cases e : a = b
 · subst e; simp
 · have h : ¬ (Sum.inl a : Key) = Sum.inl b := fun q => e (Sum.inl.inj q)
   rw [decide_eq_false h]
   exact (beq_eq_false_iff_ne.mpr e).symm
theorem key_rr (a b : Str) : decide ((Sum.inr a : Key) = Sum.inr b) = decide (a = b) := by
 by_cases e : a = b
 · subst e; simp
 · have h : ¬ (Sum.inr a : Key) = Sum.inr b := fun q => e (Sum.inr.inj q)
   rw [decide_eq_false h, decide_eq_false e]
theorem key_lr (a : Int) (b : Str) : decide ((Sum.inl a : Key) = Sum.inr b) = false := decide_eq_false (fun q => nomatch q)
theorem key_rl (a : Str) (b : Int) : decide ((Sum.inr a : Key) = Sum.inl b) = false := decide_eq_false (fun q => nomatch q)
def mixKind (prog : Program) (w : World) : PySem.KeyKind prog w Key where
 is := keyIs
 hash := keyH w
 inj := fun v a b ha hb => by
  rcases keyIs_shape ha with ⟨i, t, rfl, rfl⟩ | ⟨x, t, rfl, rfl⟩
  · rcases keyIs_shape hb with ⟨j, u, rfl, e⟩ | ⟨y, u, rfl, e⟩
    · injection e with e1 _; rw [e1]
    · exact nomatch e
  · rcases keyIs_shape hb with ⟨j, u, rfl, e⟩ | ⟨y, u, rfl, e⟩
    · exact nomatch e
    · injection e with e1 _; rw [e1]
 byValue := fun k v h => by
  rcases keyIs_shape h with ⟨i, t, rfl, rfl⟩ | ⟨x, t, rfl, rfl⟩ <;> rfl
 pyHash := fun hv h => by
  rcases keyIs_shape hv with ⟨i, t, rfl, rfl⟩ | ⟨x, t, rfl, rfl⟩
  · exact wpAny_pyHash_int h
  · exact wpAny_pyHash_str h
 eqBool := fun hu hv h => by
  rcases keyIs_shape hu with ⟨i, t, rfl, rfl⟩ | ⟨x, t, rfl, rfl⟩
  · rcases keyIs_shape hv with ⟨j, u, rfl, rfl⟩ | ⟨y, u, rfl, rfl⟩
    · rw [key_ll] at h; exact wpAny_eqBool_int h
    · rw [key_lr] at h; exact SeqAt.EqAt.int_str i t y u _ _ _ _ h
  · rcases keyIs_shape hv with ⟨j, u, rfl, rfl⟩ | ⟨y, u, rfl, rfl⟩
    · rw [key_rl] at h; exact SeqAt.EqAt.str_int x t j u _ _ _ _ h
    · rw [key_rr] at h; exact wpAny_eqBool_str h
 «strs» := fun k x t v h => by
  rcases keyIs_shape h with ⟨i, u, rfl, e⟩ | ⟨y, u, rfl, e⟩
  · exact nomatch e
  · injection e with e1 _
    subst e1
    cases v <;> rfl
theorem mixKind_int (prog : Program) (w : World) (i : Int) (t : Tok) : (mixKind prog w).is (.inl i) (.int i t) = true := keyIs_int i t
theorem mixKind_str (prog : Program) (w : World) (x : Str) (t : Tok) : (mixKind prog w).is (.inr x) (.str x t) = true := keyIs_str x t
inductive V where
 | non | bl (b : Bool) | int (i : Int) | str (x : Str) | byt (b : Array UInt8) | flt (b : UInt64) | ref (a : Addr) | ty (n : String)
 deriving DecidableEq
def RelV : V → Value → Prop
 | .non, u => u = Value.none
 | .bl b, u => u = Value.bool b
 | .int i, u => ∃ t, u = Value.int i t
 | .str x, u => ∃ t, u = Value.str x t
 | .byt b, u => ∃ t, u = Value.bytes b t
 | .flt b, u => ∃ t, u = Value.float b t
 | .ref a, u => u = Value.ref a
 | .ty n, u => u = Value.type n
abbrev Vals : List V → List Value → Prop := Paired RelV
theorem Vals.length {xs : List V} {us : List Value} (r : Vals xs us) : xs.length = us.length := Paired.length r
theorem Vals.get : ∀ {xs : List V} {us : List Value} {i : Nat} {x : V}, Vals xs us → xs[i]? = some x → ∃ u, us[i]? = some u ∧ RelV x u
 | _, _, _, _, .nil, e => by simp at e
 | _, _, 0, _, .cons r _, e => by simp at e; subst e; exact ⟨_, rfl, r⟩
 | _, _, i + 1, x, .cons _ t, e => by
  obtain ⟨u, h1, h2⟩ := Vals.get (i := i) (x := x) t (by simpa using e)
  exact ⟨u, by simpa using h1, h2⟩
theorem Vals.append : ∀ {xs ys : List V} {us ws : List Value}, Vals xs us → Vals ys ws → Vals (xs ++ ys) (us ++ ws)
 | _, _, _, _, .nil, s => s
 | _, _, _, _, .cons r t, s => .cons r (Vals.append t s)
theorem Vals.take : ∀ {xs : List V} {us : List Value} (n : Nat), Vals xs us → Vals (xs.take n) (us.take n)
 | _, _, 0, _ => .nil
 | _, _, _ + 1, .nil => .nil
 | _, _, n + 1, .cons r t => .cons r (Vals.take n t)
theorem Vals.drop : ∀ {xs : List V} {us : List Value} (n : Nat), Vals xs us → Vals (xs.drop n) (us.drop n)
 | _, _, 0, r => r
 | _, _, _ + 1, .nil => .nil
 | _, _, n + 1, .cons _ t => Vals.drop n t
def RelO : Option V → Option Value → Prop
 | some v, some u => RelV v u
 | none, none => True
 | _, _ => False
def KV {κ : Type} : List (κ × V) → List (κ × Value) → Prop := Paired fun (p : κ × V) (q : κ × Value) => p.1 = q.1 ∧ RelV p.2 q.2
def kV : Key → V
 | .inl i => .int i
 | .inr x => .str x
inductive HO where
 | lst (xs : List V)
 | tup (xs : List V)
 | dK (kvs : List (Key × V)) | dT (kvs : List (List Key × V))
 | set (S : Int → Bool) (n : Nat)
 | ins (C dx : Addr) (fs : List (Str × V))
 | own (x : Addr)
 | xd (fs : List (Str × V))
 | met (f x : Addr)
 | rng (lo hi : Int)
 | frz (o : Obj) (u : HO)
 | tbl (ps : Array Value)
 | ext (φ : Heap → Prop)
abbrev Hp := Addr → Option HO
def upd (H : Hp) (a : Addr) (o : HO) : Hp := fun b => if b = a then some o else H b
theorem upd_same {H : Hp} {a : Addr} {o : HO} : upd H a o a = some o := by unfold upd; rw [if_pos rfl]
theorem upd_ne {H : Hp} {a b : Addr} {o : HO} (h : b ≠ a) : upd H a o b = H b := by unfold upd; rw [if_neg h]
theorem upd_upd {H : Hp} {a : Addr} {o u : HO} : upd (upd H a o) a u = upd H a u := by
 funext b; unfold upd; split <;> rfl
theorem ne_of {H : Hp} {a b : Addr} {o u : HO} (h : H a = some o) (h' : H b = some u) (d : o ≠ u) : a ≠ b := by
 intro e; subst e; rw [h] at h'; exact d (Option.some.inj h')
theorem ne_of_none {H : Hp} {a b : Addr} {o : HO} (h : H a = some o) (h' : H b = none) : a ≠ b := by
 intro e; subst e; rw [h] at h'; cases h'
section
variable (P : Program) (w : World)
def ObjOk (H : Hp) (h : Heap) (a : Addr) : HO → Prop
 | .lst xs => xs.length ≤ sizeLine ∧ ∃ (its : List Value) (n : Nat), Vals xs its ∧ h.get? a = some { cls := .type "list", data := .seq its.toArray n }
 | .tup xs => xs.length ≤ sizeLine ∧ ∃ its : List Value, Vals xs its ∧ IsTup h a its.toArray
 | .dK kvs => kvs.length ≤ sizeLine ∧ (a == sysModules) = false ∧ ∃ vs, KV kvs vs ∧ h.DictOf (mixKind P w) a vs
 | .dT kvs => kvs.length ≤ sizeLine ∧ (a == sysModules) = false ∧ ∃ xs : List (List Key × Addr × Value),
  Paired (fun (p : List Key × V) (q : List Key × Addr × Value) => p.1 = q.1 ∧ H q.2.1 = some (.tup (p.1.map kV)) ∧ RelV p.2 q.2.2) kvs xs ∧
  ∃ o es ep, h.get? a = some o ∧ o.ExactDict ∧ o.data = .dict es ep ∧ es.toList = xs.map (entryOfKey (tupleKind (mixKind P w))) ∧ (xs.map (·.1)).Nodup
 | .set S n => h.SetOf (intKind P w) a S n
 | .ins C dx fs => H dx = some (.own a) ∧ fs.length ≤ 1000 ∧ dx ≠ a ∧ h.get? a = some (PySem.W.instObj C dx) ∧
  ∃ mA, h.Ns1 dx mA ∧ (∀ f, RelO (fs.lookup f) (mA f)) ∧ PySem.Within mA (fs.map (·.1))
 | .own _ => ∃ o, h.get? a = some o
 | .xd fs => ∃ mA, h.Ns1 a mA ∧ ∀ f, RelO (fs.lookup f) (mA f)
 | .rng lo hi => ∃ t u v, h.get? a = some { cls := .type "range", data := .fields #[.int lo t, .int hi u, .int 1 v] }
 | .frz o u => h.get? a = some o ∧ ObjOk H h a u
 | .tbl ps => h.get? a = some { cls := .none, data := .fields ps }
 | .met f x => h.get? a = some (PySem.W.methodObj (.ref f) (.ref x))
 | .ext φ => φ h ∧ (∃ o, h.get? a = some o) ∧ ∀ h1 h2 : Heap, φ h1 → (∀ o, h1.get? a = some o → h2.get? a = some o) → φ h2
def HOk (H : Hp) (h : Heap) : Prop := ∀ a o, H a = some o → ObjOk P w H h a o
end
section
variable {P : Program} {w : World} {H H' : Hp} {h h' : Heap} {a : Addr} {o : HO}
theorem ObjOk.lt (x : ObjOk P w H h a o) : a < h.objs.size := by
 cases o with
 | lst xs => obtain ⟨_, _, _, _, e⟩ := x; exact Heap.lt_size e
 | tup xs => obtain ⟨_, _, _, p⟩ := x; exact p.lt
 | dK kvs => obtain ⟨_, _, _, _, o, _, _, e, _⟩ := x; exact Heap.lt_size e
 | dT kvs => obtain ⟨_, _, _, _, o, _, _, e, _⟩ := x; exact Heap.lt_size e
 | set S n => obtain ⟨o, _, _, _, e, _⟩ := x; exact Heap.lt_size e
 | ins C dx fs => obtain ⟨_, _, _, e, _⟩ := x; exact Heap.lt_size e
 | own y => obtain ⟨_, e⟩ := x; exact Heap.lt_size e
 | xd fs => obtain ⟨_, ⟨_, _, _, e, _⟩, _⟩ := x; exact Heap.lt_size e
 | rng lo hi => obtain ⟨_, _, _, e⟩ := x; exact Heap.lt_size e
 | frz ob u => obtain ⟨e, _⟩ := x; exact Heap.lt_size e
 | tbl ps => exact Heap.lt_size (show h.get? a = some _ from x)
 | met f y => exact Heap.lt_size (show h.get? a = some _ from x)
 | ext φ => obtain ⟨_, ⟨_, e⟩, _⟩ := x; exact Heap.lt_size e
theorem Paired.mapP {α β : Type} {F G : α → β → Prop} : ∀ {l₁ : List α} {l₂ : List β}, Paired F l₁ l₂ → (∀ a b, F a b → G a b) → Paired G l₁ l₂
 | _, _, .nil, _ => .nil
 | _, _, .cons r t, f => .cons (f _ _ r) (Paired.mapP t f)
theorem ObjOk.stay (x : ObjOk P w H h a o) (k : ∀ b u, (b = a ∨ H b = some (.own a)) → h.get? b = some u → h'.get? b = some u)
 (ho : ∀ b, H b = some (.own a) → H' b = some (.own a)) (ht : ∀ b xs, H b = some (.tup xs) → H' b = some (.tup xs)) : ObjOk P w H' h' a o := by
 induction o with
 | lst xs => obtain ⟨z, its, n, r, e⟩ := x; exact ⟨z, its, n, r, k _ _ (.inl rfl) e⟩
 | tup xs => obtain ⟨z, its, r, ob, e, c⟩ := x; exact ⟨z, its, r, ob, k _ _ (.inl rfl) e, c⟩
 | dK kvs => obtain ⟨z, y, vs, r, ob, es, ep, e, c⟩ := x; exact ⟨z, y, vs, r, ob, es, ep, k _ _ (.inl rfl) e, c⟩
 | dT kvs =>
  obtain ⟨z, y, xs, r, ob, es, ep, e, c⟩ := x
  exact ⟨z, y, xs, Paired.mapP r fun p q z => ⟨z.1, ht _ _ z.2.1, z.2.2⟩, ob, es, ep, k _ _ (.inl rfl) e, c⟩
 | set S n => obtain ⟨ob, es, ep, t, e, c⟩ := x; exact ⟨ob, es, ep, t, k _ _ (.inl rfl) e, c⟩
 | ins C dx fs =>
  obtain ⟨d, z, ne, e, mA, ⟨od, es, ep, e2, c⟩, r⟩ := x
  exact ⟨ho _ d, z, ne, k _ _ (.inl rfl) e, mA, ⟨od, es, ep, k _ _ (.inr d) e2, c⟩, r⟩
 | own y => obtain ⟨ob, e⟩ := x; exact ⟨ob, k _ _ (.inl rfl) e⟩
 | xd fs => obtain ⟨mA, ⟨od, es, ep, e, c⟩, r⟩ := x; exact ⟨mA, ⟨od, es, ep, k _ _ (.inl rfl) e, c⟩, r⟩
 | rng lo hi => obtain ⟨t, u, v, e⟩ := x; exact ⟨t, u, v, k _ _ (.inl rfl) e⟩
 | frz ob u ih => obtain ⟨e, q⟩ := x; exact ⟨k _ _ (.inl rfl) e, ih q⟩
 | tbl ps =>
  have e : h.get? a = some { cls := .none, data := .fields ps } := x
  show h'.get? a = some { cls := .none, data := .fields ps }
  exact k a _ (.inl rfl) e
 | met f y =>
  have e : h.get? a = some (PySem.W.methodObj (.ref f) (.ref y)) := x
  show h'.get? a = some (PySem.W.methodObj (.ref f) (.ref y))
  exact k a _ (.inl rfl) e
 | ext φ => obtain ⟨p, ⟨o, e⟩, st⟩ := x; exact ⟨st _ _ p fun o q => k _ _ (.inl rfl) q, ⟨o, k _ _ (.inl rfl) e⟩, st⟩
theorem HOk.lt (x : HOk P w H h) (e : H a = some o) : a < h.objs.size := (x a o e).lt
theorem HOk.fresh (x : HOk P w H h) (e : h.objs.size ≤ a) : H a = none := by
 cases q : H a with
 | none => rfl
 | some u => exact absurd (Nat.lt_of_lt_of_le (x.lt q) e) (Nat.lt_irrefl _)
theorem HOk.kept (x : HOk P w H h) (k : ∀ b u, h.get? b = some u → h'.get? b = some u) : HOk P w H h' := fun a o e =>
 (x a o e).stay (fun b u _ q => k b u q) (fun _ q => q) fun _ _ q => q
theorem HOk.laid (x : HOk P w H h) (k : ∀ b u, h.get? b = some u → h'.get? b = some u) (hp : h.objs.size ≤ a) (new : ObjOk P w (upd H a o) h' a o) : HOk P w (upd H a o) h' := fun b u e => by
 have hn := x.fresh hp
 by_cases hb : b = a
 · subst hb; rw [upd_same] at e; cases e; exact new
 · rw [upd_ne hb] at e
   exact (x b u e).stay (fun c v _ q => k c v q) (fun c q => by rw [upd_ne (ne_of_none q hn)]; exact q) fun c xs q => by rw [upd_ne (ne_of_none q hn)]; exact q
end
def Rd (H : Hp) (a : Addr) (u : HO) : Prop := H a = some u ∨ ∃ o, H a = some (.frz o u)
theorem Rd.ok {P : Program} {w : World} {H : Hp} {h : Heap} {a : Addr} {u : HO} (r : Rd H a u) (x : HOk P w H h) : ObjOk P w H h a u := by
 rcases r with r | ⟨o, r⟩
 · exact x a u r
 · obtain ⟨_, q⟩ := x a _ r
   exact q
def Mut : Option HO → Prop
 | some (.lst _) => True
 | some (.dK _) => True
 | some (.dT _) => True
 | some (.set _ _) => True
 | some (.ins _ _ _) => True
 | some (.ext _) => True
 | _ => False
section
variable {P : Program} {w : World} {H : Hp} {h h' : Heap} {x e : Addr} {o' : HO}
theorem HOk.write (ok : HOk P w H h) (mu : Mut (H x)) (he : e = x ∨ H e = some (.own x)) (k : ∀ b u, b ≠ e → h.get? b = some u → h'.get? b = some u) (heo : ∃ u, h'.get? e = some u)
 (new : ObjOk P w (upd H x o') h' x o') : HOk P w (upd H x o') h' := fun b u q => by
 have nown : ∀ c y, H c = some (.own y) → c ≠ x := fun c y r z => by subst z; rw [r] at mu; exact mu
 have ntup : ∀ c xs, H c = some (.tup xs) → c ≠ x := fun c xs r z => by subst z; rw [r] at mu; exact mu
 by_cases hb : b = x
 · subst hb; rw [upd_same] at q; cases q; exact new
 · rw [upd_ne hb] at q
   by_cases hbe : b = e
   · have q' : H b = some (.own x) := by
      rcases he with z | z
      · exact absurd (hbe.trans z) hb
      · rw [hbe]; exact z
     rw [q] at q'; cases q'
     obtain ⟨v, hv⟩ := heo
     exact ⟨v, by rw [hbe]; exact hv⟩
   · refine (ok b u q).stay (fun c v hc r => k c v ?_ r) (fun c r => by rw [upd_ne (nown c b r)]; exact r) fun c xs r => by rw [upd_ne (ntup c xs r)]; exact r
     rcases hc with rfl | hc
     · exact hbe
     · rintro rfl
       rcases he with z | z
       · exact nown c b hc z
       · rw [hc] at z; cases z; exact hb rfl
end
structure Un (fs ex : List Addr) (H H' : Hp) (h h' : Heap) : Prop where
 keep : ∀ b o, h.get? b = some o → H b = none → b ∉ fs → b ∉ ex → h'.get? b = some o
 slot : ∀ b o, h.get? b = some o → H b = none → b ∈ fs → b ∉ ex → ∃ sl, h'.get? b = some { o with slots := sl }
 free : ∀ b o, h.get? b = some o → H b = none → b ∉ ex → H' b = none
 there : ∀ b o, h.get? b = some o → b ∉ ex → ∃ o', h'.get? b = some o'
 tups : ∀ b xs, H b = some (.tup xs) → H' b = some (.tup xs)
 frzs : ∀ b o u, H b = some (.frz o u) → H' b = some (.frz o u)
 tbls : ∀ b ps, H b = some (.tbl ps) → ∃ more, H' b = some (.tbl (ps ++ more))
section
variable {fs fs' ex ex' : List Addr} {H H1 H2 : Hp} {h h1 h2 h' : Heap} {a x e : Addr} {o : HO}
theorem Un.any (u : Un fs ex H H1 h h1) {b : Addr} {ob : Obj} (q : h.get? b = some ob) (n : H b = none) (hx : b ∉ ex) : ∃ sl, h1.get? b = some { ob with slots := sl } := by
 by_cases hb : b ∈ fs
 · exact u.slot b ob q n hb hx
 · exact ⟨ob.slots, u.keep b ob q n hb hx⟩
theorem Un.kept (k : ∀ b u, h.get? b = some u → h'.get? b = some u) : Un fs ex H H h h' :=
 ⟨fun b ob q _ _ _ => k b ob q, fun b ob q _ _ _ => ⟨ob.slots, k b ob q⟩, fun _ _ _ n _ => n, fun b ob q _ => ⟨ob, k b ob q⟩, fun _ _ q => q, fun _ _ _ q => q, fun _ ps q => ⟨#[], by rw [q]; simp⟩⟩
theorem Un.refl : Un fs ex H H h h := Un.kept fun _ _ q => q
theorem Un.laid (k : ∀ b u, h.get? b = some u → h'.get? b = some u) (hp : h.objs.size ≤ a) (hn : H a = none) : Un fs ex H (upd H a o) h h' where
 keep := fun b u q _ _ _ => k b u q
 slot := fun b u q _ _ _ => ⟨u.slots, k b u q⟩
 free := fun b u q n _ => by rw [upd_ne (Nat.ne_of_lt (Nat.lt_of_lt_of_le (Heap.lt_size q) hp))]; exact n
 there := fun b u q _ => ⟨u, k b u q⟩
 tups := fun b xs q => by rw [upd_ne (ne_of_none q hn)]; exact q
 frzs := fun b u xs q => by rw [upd_ne (ne_of_none q hn)]; exact q
 tbls := fun b ps q => ⟨#[], by rw [upd_ne (ne_of_none q hn), q]; simp⟩
theorem Un.write (mu : Mut (H x)) (he : e = x ∨ H e = some (.own x)) (k : ∀ b u, b ≠ e → h.get? b = some u → h'.get? b = some u) (heo : ∃ u, h'.get? e = some u) : Un fs ex H (upd H x o) h h' := by
 have hx : ∀ b, H b = none → b ≠ x := fun b n z => by subst z; rw [n] at mu; exact mu
 have hb : ∀ b, H b = none → b ≠ e := fun b n z => by
  subst z
  rcases he with r | r
  · exact hx b n r
  · rw [n] at r; cases r
 have hm : ∀ b u, H b = some u → ¬ Mut (some u) → b ≠ x := fun b u q nm z => by subst z; rw [q] at mu; exact nm mu
 refine ⟨fun b u q n _ _ => k b u (hb b n) q, fun b u q n _ _ => ⟨u.slots, k b u (hb b n) q⟩, fun b u q n _ => by rw [upd_ne (hx b n)]; exact n, fun b u q _ => ?_,
  fun b xs q => by rw [upd_ne (hm b _ q fun z => z)]; exact q, fun b u xs q => by rw [upd_ne (hm b _ q fun z => z)]; exact q, fun b ps q => ⟨#[], by rw [upd_ne (hm b _ q fun z => z), q]; simp⟩⟩
 by_cases hbe : b = e
 · subst hbe; exact heo
 · exact ⟨u, k b u hbe q⟩
end
def trk (h : Heap) (H : Hp) : List Addr := (List.range h.objs.size).filter fun a => (H a).isSome
def hidT (h : Heap) (H : Hp) : Heap := PySem.W.hideAll h (trk h H)
theorem hidT_size (h : Heap) (H : Hp) : (hidT h H).objs.size = h.objs.size := PySem.W.hideAll_size _ _
theorem hidT_get {h : Heap} {H : Hp} {b : Addr} {o : Obj} (e : h.get? b = some o) (n : H b = none) : (hidT h H).get? b = some o :=
 PySem.W.hideAll_get _ e fun hm => by
  have q : (H b).isSome = true := (List.mem_filter.mp hm).2
  rw [n] at q; simp at q
theorem of_hidT {h : Heap} {H : Hp} {b : Addr} {o : Obj} (e : (hidT h H).get? b = some o) : h.get? b = some o ∧ H b = none := by
 have e' : h.get? b = some o := PySem.W.of_hideAll (trk h H) e
 refine ⟨e', ?_⟩
 cases q : H b with
 | none => rfl
 | some x =>
  have hm : b ∈ trk h H := List.mem_filter.mpr ⟨List.mem_range.mpr (Heap.lt_size e'), by simp [q]⟩
  have z : (hidT h H).get? b = none := PySem.W.hideAll_none (trk h H) hm
  rw [z] at e; cases e
structure Mod (K : PySem.W.Frag) (mg : Str → Option Value) (base : Heap) : Prop where
 kin : K.In base
 glob : base.Ns mainGlobals mg
 blt : ∃ mb, base.Ns builtinsNs mb ∧ ∀ x : Str, x ≠ "__name__" → mb x = bootBuiltins x
 nolimit : base.NoLimit
structure Cx where
 prog : Program
 w : World
 K : PySem.W.Frag
 mg : Str → Option Value
 base : Heap
 A : Around
 N : List Str
 s₀ : Shared
 H₀ : Hp
 env : Env
 outer : List Env
 stack : List Env
 ex : List Addr
 fn : Str → Bool
 calm : Bool
 pn : List (Addr × Obj)
 xe : Value → Shared → Prop
def frs (l : List Env) : List Addr := l.filterMap (·.frame)
abbrev Cx.fs (X : Cx) : List Addr := frs X.outer
def Vis (sc : Scope) (x : Str) : Prop := sc.names.lookup x = some .local ∨ sc.names.lookup x = some .cell ∨ sc.names.lookup x = some .free
def Loc (sc : Scope) (x : Str) : Prop := sc.names.lookup x = some .local ∨ sc.names.lookup x = some .cell
def Look (env : Env) (h : Heap) (m : Str → Option Value) (x : Str) (u : Value) : Prop :=
 (env.kindOf x = some .local ∧ m x = some u) ∨ ((env.kindOf x = some .cell ∨ env.kindOf x = some .free) ∧ ∃ c, env.cells.lookup x = some c ∧ h.IsCell c (some u))
structure Cx.Ok (X : Cx) : Prop where
 mod : Mod X.K X.mg X.base
 kind : X.env.scope.kind = .function
 glob : X.env.globals = mainGlobals
 blt : X.env.builtins = builtinsNs
 above : X.s₀.heap.objs.size ≤ X.env.locals
 inj : ∀ x y c, X.env.cells.lookup x = some c → X.env.cells.lookup y = some c → x = y
 has : ∀ x, (X.env.kindOf x = some .cell ∨ X.env.kindOf x = some .free) → ∃ c, X.env.cells.lookup x = some c
 cab : ∀ x c, X.fn x = true → X.env.cells.lookup x = some c → X.s₀.heap.objs.size ≤ c
 hd : X.calm = true → X.A.handled = none
 frames : X.A.frames = some X.stack
 stk : X.stack = X.outer ∨ (X.stack = X.env :: X.outer ∧ X.env.frame = some X.env.locals)
 exf : ∀ b ∈ X.ex, b ≠ X.env.locals ∧ ∀ x c, X.env.cells.lookup x = some c → c ≠ b
 bs : ∀ b o, X.base.get? b = some o → X.s₀.heap.get? b = some o ∧ X.H₀ b = none
 bsz : X.base.objs.size ≤ X.s₀.heap.objs.size
 noex : ∀ b o, X.base.get? b = some o → b ∉ X.ex
 exfs : ∀ b ∈ X.ex, b ∉ X.fs
 funs : X.s₀.heap.FunFrames X.base X.outer
 frf : ∀ b ∈ X.fs, X.H₀ b = none
structure Inv (X : Cx) (pins : List (Addr × Obj)) (σ : List (Option V)) (H : Hp) (s : Shared) : Prop where
 ok : X.Ok
 os : s.os = X.s₀.os
 bare : AllBare s.gens
 base : Un X.fs X.ex X.H₀ H X.s₀.heap s.heap
 loc : ∃ m, s.heap.Ns X.env.locals m ∧ ∀ (i : Nat) (x : Str) (v : V), X.N[i]? = some x → σ[i]? = some (some v) → Vis X.env.scope x → ∃ u, RelV v u ∧ Look X.env s.heap m x u
 cell : ∀ x c, X.env.cells.lookup x = some c → ∃ v, s.heap.IsCell c v
 free : H X.env.locals = none
 freeC : ∀ x c, X.env.cells.lookup x = some c → H c = none
 pin : ∀ p ∈ X.pn ++ pins, s.heap.get? p.1 = some p.2 ∧ H p.1 = none ∧ p.1 ≠ X.env.locals ∧ p.1 ∉ X.fs ∧ ∀ v, p.2.data ≠ .cell v
 hok : HOk X.prog X.w H s.heap
 len : σ.length = X.N.length
section
variable {X : Cx} {pins : List (Addr × Obj)} {σ : List (Option V)} {H H' : Hp} {s : Shared} {h' : Heap}
theorem Cx.Ok.nofr (ok : X.Ok) {b : Addr} {o : Obj} (e : X.base.get? b = some o) : b ∉ X.fs := fun hb => by
 have := (ok.funs.mem hb).1
 rw [e] at this; cases this
theorem Inv.bs (I : Inv X pins σ H s) : ∀ b o, X.base.get? b = some o → s.heap.get? b = some o ∧ H b = none := fun b o e =>
 ⟨I.base.keep b o (I.ok.bs b o e).1 (I.ok.bs b o e).2 (I.ok.nofr e) (I.ok.noex b o e), I.base.free b o (I.ok.bs b o e).1 (I.ok.bs b o e).2 (I.ok.noex b o e)⟩
theorem Inv.bk (I : Inv X pins σ H s) : ∀ b o, X.base.get? b = some o → s.heap.get? b = some o := fun b o e => (I.bs b o e).1
theorem Inv.mod (I : Inv X pins σ H s) : Mod X.K X.mg X.base := I.ok.mod
theorem Inv.kIn (I : Inv X pins σ H s) : X.K.In s.heap := I.ok.mod.kin.keeps I.bk
theorem Inv.lt (I : Inv X pins σ H s) : X.env.locals < s.heap.objs.size := let ⟨_, hn, _⟩ := I.loc; hn.lt
theorem Inv.sz (I : Inv X pins σ H s) : X.s₀.heap.objs.size ≤ s.heap.objs.size := Nat.le_trans I.ok.above (Nat.le_of_lt I.lt)
theorem Inv.nofs (I : Inv X pins σ H s) {a : Addr} (h : s.heap.objs.size ≤ a) : a ∉ X.fs := fun hb => by
 obtain ⟨_, o, ho, _⟩ := I.ok.funs.mem hb
 exact absurd (Nat.lt_of_lt_of_le (Heap.lt_size ho) (Nat.le_trans I.sz h)) (Nat.lt_irrefl _)
theorem Inv.cne (I : Inv X pins σ H s) : ∀ x c, X.env.cells.lookup x = some c → c ≠ X.env.locals := fun x c e z => by
 obtain ⟨v, o, ho, hd⟩ := I.cell x c e
 obtain ⟨m, ⟨o', es, ep, ho', hd', _⟩, _⟩ := I.loc
 rw [z, ho'] at ho; cases ho; rw [hd'] at hd; cases hd
theorem Inv.funs (I : Inv X pins σ H s) : s.heap.FunFrames X.base X.outer := by
 have all : ∀ (l : List Env), (∀ b ∈ frs l, b ∈ X.fs) → X.s₀.heap.FunFrames X.base l → s.heap.FunFrames X.base l := by
  intro l
  induction l with
  | nil => intro _ _; trivial
  | cons env r ih =>
   intro hs hl
   obtain ⟨hk, ⟨L, o, hf, hn, ho, hd⟩, hr⟩ := hl
   have hL : L ∈ X.fs := hs L (by unfold frs; rw [List.filterMap_cons, hf]; exact List.mem_cons_self)
   obtain ⟨sl, e⟩ := I.base.slot L o ho (I.ok.frf L hL) hL fun z => I.ok.exfs L z hL
   exact ⟨hk, ⟨L, _, hf, hn, e, hd⟩, ih (fun b hb => hs b (by unfold frs; rw [List.filterMap_cons, hf]; exact List.mem_cons_of_mem _ hb)) hr⟩
 exact all X.outer (fun _ hb => hb) I.ok.funs
theorem Inv.stack (I : Inv X pins σ H s) : s.heap.FunFrames X.base X.stack := by
 rcases I.ok.stk with e | ⟨e, hf⟩
 · rw [e]; exact I.funs
 · rw [e]
   obtain ⟨m, hn, _⟩ := I.loc
   refine .cons (by rw [I.ok.kind]; decide) hf hn ?_ I.funs
   exact Heap.get?_none_of_le (Nat.le_trans I.ok.bsz I.ok.above)
theorem Inv.stkSub (I : Inv X pins σ H s) : ∀ b ∈ frs X.stack, b ∈ X.env.locals :: X.fs := fun b hb => by
 rcases I.ok.stk with e | ⟨e, hf⟩
 · rw [e] at hb; exact List.mem_cons_of_mem _ hb
 · rw [e] at hb
   unfold frs at hb
   rw [List.filterMap_cons, hf] at hb
   exact hb
theorem Inv.stkFree (I : Inv X pins σ H s) : ∀ b ∈ frs X.stack, H b = none := fun b hb => by
 rcases List.mem_cons.mp (I.stkSub b hb) with e | hb
 · rw [e]; exact I.free
 · obtain ⟨_, o, ho, _⟩ := I.ok.funs.mem hb
   exact I.base.free b o ho (I.ok.frf b hb) fun z => I.ok.exfs b z hb
theorem Inv.step {g' : Array GenState} {t' : Nat} {d' : Drawn} {ch : List Addr} (I : Inv X pins σ H s)
 (hch : ∀ b ∈ ch, (b ∈ X.ex ∨ X.s₀.heap.objs.size ≤ b) ∧ b ≠ X.env.locals ∧ (∀ x c, X.env.cells.lookup x = some c → c ≠ b) ∧ ∀ p ∈ X.pn ++ pins, p.1 ≠ b)
 (keep : ∀ b o, b ≠ X.env.locals → b ∉ X.fs → b ∉ ch → s.heap.get? b = some o → H b = none → h'.get? b = some o)
 (slot : ∀ b o, b ≠ X.env.locals → b ∈ X.fs → b ∉ ch → s.heap.get? b = some o → H b = none → ∃ sl, h'.get? b = some { o with slots := sl }) (free : ∀ b o, b ∉ ch → s.heap.get? b = some o → H b = none → H' b = none)
 (there : ∀ b o, b ∉ ch → s.heap.get? b = some o → ∃ o', h'.get? b = some o')
 (tups : ∀ b xs, H b = some (.tup xs) → H' b = some (.tup xs)) (frzs : ∀ b o u, H b = some (.frz o u) → H' b = some (.frz o u)) (tbls : ∀ b ps, H b = some (.tbl ps) → ∃ more, H' b = some (.tbl (ps ++ more)))
 (ns : ∀ m, s.heap.Ns X.env.locals m → h'.Ns X.env.locals m) (hok : HOk X.prog X.w H' h') (hg : AllBare g') :
 Inv X pins σ H' { s with heap := h', gens := g', drawn := d', toks := t' } := by
 have neL : ∀ b o, X.s₀.heap.get? b = some o → b ≠ X.env.locals := fun b o e => Nat.ne_of_lt (Nat.lt_of_lt_of_le (Heap.lt_size e) I.ok.above)
 have neC : ∀ b o, X.s₀.heap.get? b = some o → b ∉ X.ex → b ∉ ch := fun b o e hx hb => by
  rcases (hch b hb).1 with z | z
  · exact hx z
  · exact absurd (Nat.lt_of_lt_of_le (Heap.lt_size e) z) (Nat.lt_irrefl _)
 have cellK : ∀ x c, X.env.cells.lookup x = some c → ∀ v, s.heap.IsCell c v → h'.IsCell c v := fun x c e v ⟨o, ho, hd⟩ => by
  have nch : c ∉ ch := fun z => (hch c z).2.2.1 x c e rfl
  by_cases hc : c ∈ X.fs
  · obtain ⟨sl, q⟩ := slot c o (I.cne x c e) hc nch ho (I.freeC x c e)
    exact ⟨_, q, hd⟩
  · exact ⟨o, keep c o (I.cne x c e) hc nch ho (I.freeC x c e), hd⟩
 refine ⟨I.ok, I.os, hg, ⟨fun b o e n hb hx => ?_, fun b o e n hb hx => ?_, fun b o e n hx => ?_, fun b o e hx => ?_, fun b xs e => tups b xs (I.base.tups b xs e), fun b o xs e => frzs b o xs (I.base.frzs b o xs e), fun b ps e => ?_⟩, ?_, fun x c e => ?_, ?_, fun x c e => ?_, fun p hp => ?_, hok, I.len⟩
 · exact keep b o (neL b o e) hb (neC b o e hx) (I.base.keep b o e n hb hx) (I.base.free b o e n hx)
 · obtain ⟨sl, e1⟩ := I.base.slot b o e n hb hx
   obtain ⟨sl', e2⟩ := slot b _ (neL b o e) hb (neC b o e hx) e1 (I.base.free b o e n hx)
   exact ⟨sl', e2⟩
 · obtain ⟨o', e1⟩ := I.base.there b o e hx
   exact free b o' (neC b o e hx) e1 (I.base.free b o e n hx)
 · obtain ⟨o', e1⟩ := I.base.there b o e hx
   exact there b o' (neC b o e hx) e1
 · obtain ⟨m1, e1⟩ := I.base.tbls b ps e
   obtain ⟨m2, e2⟩ := tbls b _ e1
   exact ⟨m1 ++ m2, by rw [e2, Array.append_assoc]⟩
 · obtain ⟨m, hn, hl⟩ := I.loc
   refine ⟨m, ns m hn, fun i x v e1 e2 e3 => ?_⟩
   obtain ⟨u, r, l⟩ := hl i x v e1 e2 e3
   refine ⟨u, r, ?_⟩
   rcases l with l | ⟨k, c, e, z⟩
   · exact .inl l
   · exact .inr ⟨k, c, e, cellK x c e _ z⟩
 · obtain ⟨v, z⟩ := I.cell x c e
   exact ⟨v, cellK x c e v z⟩
 · obtain ⟨m, ⟨o, _, _, ho, _⟩, _⟩ := I.loc
   exact free _ o (fun z => (hch _ z).2.1 rfl) ho I.free
 · obtain ⟨v, o, ho, hd⟩ := I.cell x c e
   exact free c o (fun z => (hch c z).2.2.1 x c e rfl) ho (I.freeC x c e)
 · obtain ⟨e, n, ne, nf, d⟩ := I.pin p hp
   have nch : p.1 ∉ ch := fun z => (hch p.1 z).2.2.2 p hp rfl
   exact ⟨keep p.1 p.2 ne nf nch e n, free p.1 p.2 nch e n, ne, nf, d⟩
theorem Inv.un {t' : Nat} (I : Inv X pins σ H s) (u : Un X.fs [] H H' s.heap h') (hok : HOk X.prog X.w H' h') : Inv X pins σ H' { s with heap := h', toks := t' } := by
 obtain ⟨m, ⟨o, es, ep, ho, r⟩, _⟩ := id I.loc
 obtain ⟨sl, hL⟩ := u.any ho I.free (by simp)
 exact I.step (g' := s.gens) (d' := s.drawn) (ch := []) (fun _ z => nomatch z) (fun b o _ hb _ e n => u.keep b o e n hb (by simp)) (fun b o _ hb _ e n => u.slot b o e n hb (by simp)) (fun b o _ e n => u.free b o e n (by simp)) (fun b o _ e => u.there b o e (by simp)) u.tups u.frzs u.tbls (fun m' hm => by
  obtain ⟨o', es', ep', ho', r'⟩ := hm
  rw [ho] at ho'; cases ho'
  exact ⟨_, es', ep', hL, r'⟩) hok I.bare
theorem Inv.call {g' : Array GenState} {t' : Nat} {d' : Drawn} {ch : List Addr} (I : Inv X pins σ H s) (u : Un (frs X.stack) ch H H' s.heap h') (hok : HOk X.prog X.w H' h') (hg : AllBare g')
 (hch : ∀ b ∈ ch, (b ∈ X.ex ∨ X.s₀.heap.objs.size ≤ b) ∧ b ≠ X.env.locals ∧ (∀ x c, X.env.cells.lookup x = some c → c ≠ b) ∧ ∀ p ∈ X.pn ++ pins, p.1 ≠ b) :
 Inv X pins σ H' { s with heap := h', gens := g', drawn := d', toks := t' } := by
 obtain ⟨m, ⟨o, es, ep, ho, r⟩, _⟩ := id I.loc
 obtain ⟨sl, hL⟩ := u.any ho I.free fun z => (hch _ z).2.1 rfl
 exact I.step (ch := ch) hch (fun b o hL hb hc e n => u.keep b o e n (fun z => (List.mem_cons.mp (I.stkSub b z)).elim hL hb) hc) (fun b o _ _ hc e n => u.any e n hc) (fun b o hc e n => u.free b o e n hc) (fun b o hc e => u.there b o e hc) u.tups u.frzs u.tbls (fun m' hm => by
  obtain ⟨o', es', ep', ho', r'⟩ := hm
  rw [ho] at ho'; cases ho'
  exact ⟨_, es', ep', hL, r'⟩) hok hg
theorem Inv.turned {t' : Nat} {it : Addr} (I : Inv X pins σ H s) (k : ∀ b o, b ≠ it → s.heap.get? b = some o → h'.get? b = some o) (hn : H it = none) (hL : it ≠ X.env.locals)
 (h1 : it ∈ X.ex ∨ X.s₀.heap.objs.size ≤ it) (h2 : ∀ x c, X.env.cells.lookup x = some c → c ≠ it) (h3 : ∀ p ∈ X.pn ++ pins, p.1 ≠ it) : Inv X pins σ H { s with heap := h', toks := t' } := by
 have nit : ∀ b u, H b = some u → b ≠ it := fun b u e z => by rw [z, hn] at e; cases e
 refine I.step (g' := s.gens) (d' := s.drawn) (ch := [it]) (fun b hb => ?_) (fun b o _ _ hc e _ => k b o (fun z => hc (by simp [z])) e) (fun b o _ _ hc e _ => ⟨o.slots, k b o (fun z => hc (by simp [z])) e⟩) (fun _ _ _ _ n => n)
  (fun b o hc e => ⟨o, k b o (fun z => hc (by simp [z])) e⟩) (fun _ _ e => e) (fun _ _ _ e => e) (fun b ps e => ⟨#[], by rw [e]; simp⟩) (fun m hm => ?_) (fun b u e => ?_) I.bare
 · have e : b = it := by simpa using hb
   subst e
   exact ⟨h1, hL, h2, h3⟩
 · obtain ⟨o, es, ep, ho, r⟩ := hm
   exact ⟨o, es, ep, k _ o (Ne.symm hL) ho, r⟩
 · refine (I.hok b u e).stay (fun c v hc q => k c v ?_ q) (fun _ q => q) fun _ _ q => q
   rcases hc with z | z
   · rw [z]; exact nit b u e
   · exact nit c _ z
theorem Inv.tok (I : Inv X pins σ H s) (t : Nat) : Inv X pins σ H { s with toks := t } := I.un (h' := s.heap) (t' := t) Un.refl I.hok
theorem Inv.kept {t' : Nat} (I : Inv X pins σ H s) (k : ∀ b u, s.heap.get? b = some u → h'.get? b = some u) : Inv X pins σ H { s with heap := h', toks := t' } := I.un (Un.kept k) (I.hok.kept k)
theorem Inv.laid {a : Addr} {o : HO} {t' : Nat} (I : Inv X pins σ H s) (k : ∀ b u, s.heap.get? b = some u → h'.get? b = some u) (hp : s.heap.objs.size ≤ a) (new : ObjOk X.prog X.w (upd H a o) h' a o) :
 Inv X pins σ (upd H a o) { s with heap := h', toks := t' } := I.un (Un.laid k hp (I.hok.fresh hp)) (I.hok.laid k hp new)
theorem Inv.write {x e : Addr} {o : HO} {t' : Nat} (I : Inv X pins σ H s) (mu : Mut (H x)) (he : e = x ∨ H e = some (.own x)) (k : ∀ b u, b ≠ e → s.heap.get? b = some u → h'.get? b = some u) (heo : ∃ u, h'.get? e = some u)
 (new : ObjOk X.prog X.w (upd H x o) h' x o) : Inv X pins σ (upd H x o) { s with heap := h', toks := t' } := I.un (Un.write mu he k heo) (I.hok.write mu he k heo new)
theorem Inv.pins_of {pins' : List (Addr × Obj)} (I : Inv X pins σ H s) (h : ∀ p ∈ pins', s.heap.get? p.1 = some p.2 ∧ H p.1 = none ∧ p.1 ≠ X.env.locals ∧ p.1 ∉ X.fs ∧ ∀ v, p.2.data ≠ .cell v) : Inv X pins' σ H s :=
 ⟨I.ok, I.os, I.bare, I.base, I.loc, I.cell, I.free, I.freeC, fun p hp => (List.mem_append.mp hp).elim (fun z => I.pin p (List.mem_append_left _ z)) (h p), I.hok, I.len⟩
theorem nodup_ix {N : List Str} (hN : N.Nodup) {i j : Nat} {x : Str} (a : N[i]? = some x) (b : N[j]? = some x) : i = j := by
 obtain ⟨h1, e1⟩ := List.getElem?_eq_some_iff.mp a
 obtain ⟨h2, e2⟩ := List.getElem?_eq_some_iff.mp b
 exact (List.getElem_inj hN).mp (e1.trans e2.symm)
theorem store_ok2 {M : Model} {A : Around} {E : Value → Shared → Prop} {i : Nat} {x : Str} {v : V} {u : Value} {Q : Unit → Shared → Prop} (I : Inv X pins σ H s) (hN : X.N.Nodup) (hi : X.N[i]? = some x) (hx : Loc X.env.scope x) (r : RelV v u)
 (h : ∀ s', Inv X pins (σ.set i (some v)) H s' → (∃ a, Heap.SameBut a s.heap s'.heap ∧ (a = X.env.locals ∨ X.env.cells.lookup x = some a)) → Q () s') (hf : X.fn x = true ∨ X.env.scope.names.lookup x = some .local := by first | exact .inl rfl | exact .inr rfl | assumption) : wpAny M A (storeName X.env x u) Q E s := by
 obtain ⟨m, hn, hl⟩ := id I.loc
 have hcls : (X.env.scope.kind == .class || (X.env.scope.kind == .module && X.env.locals != X.env.globals)) = false := by rw [I.ok.kind]; rfl
 have hiσ : i < σ.length := by rw [I.len]; exact (List.getElem?_eq_some_iff.mp hi).1
 have cne := I.cne
 have tracked : ∀ {a : Addr} {h' : Heap}, (∃ o, s.heap.get? a = some o ∧ H a = none) → Heap.SameBut a s.heap h' → HOk X.prog X.w H h' := fun {a h'} ha hs b ob e => by
  obtain ⟨_, _, hfree⟩ := ha
  refine (I.hok b ob e).stay (fun c w' hc q => (hs.2 c ?_).trans q) (fun _ q => q) fun _ _ q => q
  rintro rfl
  rcases hc with rfl | hc
  · rw [hfree] at e; cases e
  · rw [hfree] at hc; cases hc
 rcases hx with hk | hk
 · refine wpAny_storeName_local hk hn (fun h' hn' hs => ?_) hcls
   obtain ⟨oL, _, _, hoL, _⟩ := id hn
   refine h _ ⟨I.ok, I.os, I.bare, ⟨fun b o e n hb hx => ?_, fun b o e n hb hx => ?_, I.base.free, fun b o e hx => ?_, I.base.tups, I.base.frzs, I.base.tbls⟩, ⟨_, hn', fun j y v' e1 e2 e3 => ?_⟩, fun y c e => ?_, I.free, I.freeC, fun p hp => ?_, tracked ⟨oL, hoL, I.free⟩ hs, by simpa using I.len⟩ ⟨_, hs, .inl rfl⟩
   · exact (hs.2 b (Nat.ne_of_lt (Nat.lt_of_lt_of_le (Heap.lt_size e) I.ok.above))).trans (I.base.keep b o e n hb hx)
   · obtain ⟨sl, e1⟩ := I.base.slot b o e n hb hx
     exact ⟨sl, (hs.2 b (Nat.ne_of_lt (Nat.lt_of_lt_of_le (Heap.lt_size e) I.ok.above))).trans e1⟩
   · obtain ⟨o', e1⟩ := I.base.there b o e hx
     exact ⟨o', (hs.2 b (Nat.ne_of_lt (Nat.lt_of_lt_of_le (Heap.lt_size e) I.ok.above))).trans e1⟩
   · by_cases hj : j = i
     · subst hj
       rw [hi] at e1; cases e1
       rw [List.getElem?_set_self hiσ] at e2
       cases e2
       exact ⟨u, r, .inl ⟨hk, by simp⟩⟩
     · rw [List.getElem?_set_ne (Ne.symm hj)] at e2
       obtain ⟨u', r', q⟩ := hl j y v' e1 e2 e3
       refine ⟨u', r', ?_⟩
       rcases q with ⟨k, e⟩ | ⟨k, c, e, z⟩
       · refine .inl ⟨k, ?_⟩
         have : y ≠ x := fun e => hj (nodup_ix hN e1 (e ▸ hi))
         simp [this, e]
       · exact .inr ⟨k, c, e, z.sameBut hs (cne y c e)⟩
   · obtain ⟨w', z⟩ := I.cell y c e
     exact ⟨w', z.sameBut hs (cne y c e)⟩
   · obtain ⟨e, n, ne, nf, d⟩ := I.pin p hp
     exact ⟨(hs.2 p.1 ne).trans e, n, ne, nf, d⟩
 · have hfn : X.fn x = true := by
    rcases hf with z | z
    · exact z
    · rw [z] at hk; cases hk
   obtain ⟨c, hc⟩ := I.ok.has x (.inl hk)
   obtain ⟨w', z⟩ := I.cell x c hc
   refine wpAny_storeName_cell I.ok.kind hk hc z (fun h' hc' hs => ?_)
   obtain ⟨oc, hoc, hocd⟩ := id z
   refine h { s with heap := h' } ⟨I.ok, I.os, I.bare, ⟨fun b o e n hb hx => ?_, fun b o e n hb hx => ?_, I.base.free, fun b o e hx => ?_, I.base.tups, I.base.frzs, I.base.tbls⟩, ⟨m, hn.sameBut hs (Ne.symm (cne x c hc)), fun j y v' e1 e2 e3 => ?_⟩, fun y c' e => ?_, I.free, I.freeC, fun p hp => ?_, tracked ⟨oc, hoc, I.freeC x c hc⟩ hs, by simpa using I.len⟩ ⟨c, hs, .inr hc⟩
   · exact (hs.2 b (Nat.ne_of_lt (Nat.lt_of_lt_of_le (Heap.lt_size e) (I.ok.cab x c hfn hc)))).trans (I.base.keep b o e n hb hx)
   · obtain ⟨sl, e1⟩ := I.base.slot b o e n hb hx
     exact ⟨sl, (hs.2 b (Nat.ne_of_lt (Nat.lt_of_lt_of_le (Heap.lt_size e) (I.ok.cab x c hfn hc)))).trans e1⟩
   · obtain ⟨o', e1⟩ := I.base.there b o e hx
     exact ⟨o', (hs.2 b (Nat.ne_of_lt (Nat.lt_of_lt_of_le (Heap.lt_size e) (I.ok.cab x c hfn hc)))).trans e1⟩
   · by_cases hj : j = i
     · subst hj
       rw [hi] at e1; cases e1
       rw [List.getElem?_set_self hiσ] at e2
       cases e2
       exact ⟨u, r, .inr ⟨.inl hk, c, hc, hc'⟩⟩
     · rw [List.getElem?_set_ne (Ne.symm hj)] at e2
       obtain ⟨u', r', q⟩ := hl j y v' e1 e2 e3
       refine ⟨u', r', ?_⟩
       rcases q with q | ⟨k, c', e, z'⟩
       · exact .inl q
       · refine .inr ⟨k, c', e, z'.sameBut hs ?_⟩
         rintro rfl
         exact hj (nodup_ix hN e1 (I.ok.inj _ _ _ e hc ▸ hi))
   · by_cases hcc : c' = c
     · subst hcc; exact ⟨_, hc'⟩
     · obtain ⟨w2, z2⟩ := I.cell y c' e
       exact ⟨w2, z2.sameBut hs hcc⟩
   · obtain ⟨e, n, ne, nf, d⟩ := I.pin p hp
     refine ⟨(hs.2 p.1 ?_).trans e, n, ne, nf, d⟩
     intro q
     rw [q, hoc] at e
     have q' : oc = p.2 := Option.some.inj e
     exact d w' (by rw [← q']; exact hocd)
theorem store_ok {M : Model} {A : Around} {E : Value → Shared → Prop} {i : Nat} {x : Str} {v : V} {u : Value} {Q : Unit → Shared → Prop} (I : Inv X pins σ H s) (hN : X.N.Nodup) (hi : X.N[i]? = some x) (hx : Loc X.env.scope x) (r : RelV v u)
 (h : ∀ s', Inv X pins (σ.set i (some v)) H s' → Q () s') (hf : X.fn x = true ∨ X.env.scope.names.lookup x = some .local := by first | exact .inl rfl | exact .inr rfl | assumption) : wpAny M A (storeName X.env x u) Q E s :=
 store_ok2 I hN hi hx r (fun s' I' _ => h s' I') hf
theorem Inv.call' {s' : Shared} {ch : List Addr} (I : Inv X pins σ H s) (ho : s'.os = s.os) (u : Un (frs X.stack) ch H H' s.heap s'.heap) (hok : HOk X.prog X.w H' s'.heap) (hg : AllBare s'.gens)
 (hch : ∀ b ∈ ch, (b ∈ X.ex ∨ X.s₀.heap.objs.size ≤ b) ∧ b ≠ X.env.locals ∧ (∀ x c, X.env.cells.lookup x = some c → c ≠ b) ∧ ∀ p ∈ X.pn ++ pins, p.1 ≠ b) : Inv X pins σ H' s' := by
 obtain ⟨h', g', d', t', o'⟩ := s'
 have e : o' = s.os := ho
 subst e
 exact I.call (g' := g') (t' := t') (d' := d') u hok hg hch
end
abbrev XK := Value → Option Addr → Hp → Prop
abbrev St := List (Option V)
abbrev VK := V → Hp → Prop
abbrev TE := St → Hp → VK → Prop
abbrev TT := St → Hp → (Bool → Hp → Prop) → Prop
abbrev TA := St → Hp → (List V → Hp → Prop) → Prop
structure Ends where
 nx : St → Hp → Prop
 rt : VK
 bk : St → Hp → Prop := fun _ _ => False
 ct : St → Hp → Prop := fun _ _ => False
abbrev TS := Ends → St → Hp → Prop
def EP (X : Cx) (pins : List (Addr × Obj)) (σ : St) (Q : VK) (u : Value) (s' : Shared) : Prop := ∃ v H', Inv X pins σ H' s' ∧ RelV v u ∧ Q v H'
def TP (X : Cx) (pins : List (Addr × Obj)) (σ : St) (Q : Bool → Hp → Prop) (b : Bool) (s' : Shared) : Prop := ∃ H', Inv X pins σ H' s' ∧ Q b H'
def AP (X : Cx) (pins : List (Addr × Obj)) (σ : St) (Q : List V → Hp → Prop) (us : List Value) (s' : Shared) : Prop := ∃ vs H', Inv X pins σ H' s' ∧ Vals vs us ∧ Q vs H'
def SP (X : Cx) (pins : List (Addr × Obj)) (D : Ends) (f : Flow) (s' : Shared) : Prop :=
 match f with
 | .next => ∃ σ' H', Inv X pins σ' H' s' ∧ D.nx σ' H'
 | .brk => ∃ σ' H', Inv X pins σ' H' s' ∧ D.bk σ' H'
 | .cont => ∃ σ' H', Inv X pins σ' H' s' ∧ D.ct σ' H'
 | .ret u => ∃ v σ' H', Inv X pins σ' H' s' ∧ RelV v u ∧ D.rt v H'
def PE (X : Cx) (e : Expr) (t : TE) : Prop :=
 ∀ (pins : List (Addr × Obj)) (s : Shared) (σ : St) (H : Hp) (Q : VK), Inv X pins σ H s → t σ H Q → wpAny (model X.prog X.w) X.A (eval e X.env) (EP X pins σ Q) X.xe s
def PT (X : Cx) (e : Expr) (t : TT) : Prop :=
 ∀ (pins : List (Addr × Obj)) (s : Shared) (σ : St) (H : Hp) (Q : Bool → Hp → Prop), Inv X pins σ H s → t σ H Q → wpAny (model X.prog X.w) X.A (isTrue e X.env (eval e X.env)) (TP X pins σ Q) X.xe s
def PW (X : Cx) (e : Expr) (t : TT) : Prop :=
 ∀ (whole : Sem Value) (pins : List (Addr × Obj)) (s : Shared) (σ : St) (H : Hp) (Q : Bool → Hp → Prop), Inv X pins σ H s → t σ H Q → wpAny (model X.prog X.w) X.A (isTrue e X.env whole) (TP X pins σ Q) X.xe s
theorem PW.pt {X : Cx} {e : Expr} {t : TT} (h : PW X e t) : PT X e t := h _
def PA (X : Cx) (es : List Expr) (t : TA) : Prop :=
 ∀ (pos : Pos) (pins : List (Addr × Obj)) (s : Shared) (σ : St) (H : Hp) (Q : List V → Hp → Prop), Inv X pins σ H s → t σ H Q → wpAny (model X.prog X.w) X.A (spliced (backTo pos (starEach es X.env))) (AP X pins σ Q) X.xe s
def PS (X : Cx) (st : Stmt) (t : TS) : Prop :=
 ∀ (pins : List (Addr × Obj)) (s : Shared) (σ : St) (H : Hp) (D : Ends), Inv X pins σ H s → t D σ H → wpAny (model X.prog X.w) X.A (exec st X.env) (SP X pins D) X.xe s
def PSs (X : Cx) (st : List Stmt) (t : TS) : Prop :=
 ∀ (pins : List (Addr × Obj)) (s : Shared) (σ : St) (H : Hp) (D : Ends), Inv X pins σ H s → t D σ H → wpAny (model X.prog X.w) X.A (execs st X.env) (SP X pins D) X.xe s
theorem thn {α : Type} {t : Sem α} {Q Q' : α → Shared → Prop} {M : Model} {A : Around} {E : Value → Shared → Prop} {s : Shared} (h : wpAny M A t Q E s) (hQ : ∀ a s, Q a s → Q' a s) : wpAny M A t Q' E s := wpAny_mono h hQ fun _ _ x => x
section
variable {X : Cx}
def tVar (i : Nat) : TE := fun σ H Q => ∃ v, σ[i]? = some (some v) ∧ Q v H
def tC (v : V) : TE := fun _ H Q => Q v H
theorem pe_var {i : Nat} {x : Str} {pos : Pos} (hN : X.N[i]? = some x) (hv : Vis X.env.scope x) (hd : (x == ("__debug__" : Str)) = false := by decide) (hcd : (x == ("__classdict__" : Str)) = false := by decide) : PE X (.Name x pos) (tVar i) := by
 intro pins s σ H Q I h
 obtain ⟨v, e, h⟩ := h
 obtain ⟨m, hn, hl⟩ := I.loc
 obtain ⟨u, r, l⟩ := hl i x v hN e hv
 have fin : EP X pins σ Q u s := ⟨v, H, I, r, h⟩
 rcases l with ⟨hk, hm⟩ | ⟨hk, c, hc, hcell⟩
 · exact wpAny_Name (wpAny_loadName_local I.ok.kind hk hn hm fin) hd
 · rcases hk with hk | hk
   · exact wpAny_Name (wpAny_loadName_cell I.ok.kind hk hc hcell fin) hd
   · exact wpAny_Name (wpAny_loadName_free I.ok.kind hk hc hcell fin hcd) hd
theorem pe_int {i j pos} : PE X (.Constant (.int i) j pos) (tC (.int i)) := fun _ _ _ H _ I h => wpAny_Constant_int ⟨.int i, H, I.tok _, ⟨_, rfl⟩, h⟩
theorem pe_bl {b j pos} : PE X (.Constant (.bool b) j pos) (tC (.bl b)) := fun _ _ _ H _ I h => Constant_bool ⟨.bl b, H, I, rfl, h⟩
theorem pe_non {j pos} : PE X (.Constant .none j pos) (tC .non) := fun _ _ _ H _ I h => Constant_none ⟨.non, H, I, rfl, h⟩
theorem pe_str {x j pos} : PE X (.Constant (.str x) j pos) (tC (.str x)) := fun _ _ _ H _ I h => Calls.Constant_str ⟨.str x, H, I.tok _, ⟨_, rfl⟩, h⟩
def Gl (X : Cx) (x : Str) : Prop := X.env.kindOf x = some .globalImplicit
theorem ld_glob {E : Value → Shared → Prop} {pins : List (Addr × Obj)} {s : Shared} {σ : St} {H : Hp} {x : Str} {u : Value} {pos : Pos} {Q : Value → Shared → Prop} (I : Inv X pins σ H s) (hg : Gl X x) (hm : X.mg x = some u) (h : Q u s)
 (hd : (x == ("__debug__" : Str)) = false := by decide) : wpAny (model X.prog X.w) X.A (eval (.Name x pos) X.env) Q E s :=
 Calls.Name_function_global I.ok.kind hg (Calls.loadGlobal_global (by rw [I.ok.glob]; exact I.mod.glob.keeps I.bk) hm h) hd
theorem ld_blt {E : Value → Shared → Prop} {pins : List (Addr × Obj)} {s : Shared} {σ : St} {H : Hp} {x : Str} {u : Value} {pos : Pos} {Q : Value → Shared → Prop} (I : Inv X pins σ H s) (hg : Gl X x) (hm : X.mg x = none) (hv : bootBuiltins x = some u) (h : Q u s)
 (hn : x ≠ "__name__" := by decide) (hd : (x == ("__debug__" : Str)) = false := by decide) : wpAny (model X.prog X.w) X.A (eval (.Name x pos) X.env) Q E s := by
 obtain ⟨mb, h1, h2⟩ := I.mod.blt
 exact Calls.Name_function_global I.ok.kind hg (Calls.loadGlobal_builtin (by rw [I.ok.glob]; exact I.mod.glob.keeps I.bk) hm (by rw [I.ok.blt]; exact h1.keeps I.bk) ((h2 x hn).trans hv) h) hd
theorem pe_glob {x : Str} {v : V} {u : Value} {pos : Pos} (hg : Gl X x) (hm : X.mg x = some u) (r : RelV v u) (hd : (x == ("__debug__" : Str)) = false := by decide) : PE X (.Name x pos) (tC v) :=
 fun _ _ _ H _ I h => ld_glob I hg hm ⟨v, H, I, r, h⟩ hd
theorem pe_bltn {x : Str} {v : V} {u : Value} {pos : Pos} (hg : Gl X x) (hm : X.mg x = none) (hv : bootBuiltins x = some u) (r : RelV v u) (hn : x ≠ "__name__" := by decide) (hd : (x == ("__debug__" : Str)) = false := by decide) : PE X (.Name x pos) (tC v) :=
 fun _ _ _ H _ I h => ld_blt I hg hm hv ⟨v, H, I, r, h⟩ hn hd
variable {a b : Expr} {ta tb : TE} {pos : Pos}
def tB (t : TE) : TT := fun σ H Q => t σ H fun x H1 => ∃ c, x = .bl c ∧ Q c H1
theorem pt_val {e : Expr} {t : TE} (h : PE X e t) (he : ∀ whole, isTrue e X.env whole = (do let v ← whole; standAt e.pos; holding [v] (truthy v)) := by intro _; rfl) : PT X e (tB t) := by
 intro pins s σ H Q I hw
 refine isTrue_plain (thn (h pins s σ H _ I hw) fun v s1 ⟨x, H1, I1, r1, q1⟩ => ?_) (he _)
 obtain ⟨d, rfl, q⟩ := q1
 cases r1
 exact wpAny_truthy_bool ⟨H1, I1, q⟩
variable {tA tB' : TT} {rest : List Expr}
def tOr (t u : TT) : TT := fun σ H Q => t σ H fun c H1 => if c = true then Q true H1 else u σ H1 Q
def tNot (t : TT) : TT := fun σ H Q => t σ H fun c H1 => Q (!c) H1
theorem pw_or1 (ha : PT X a tA) : PW X (.BoolOp .Or [a] pos) tA := by
 intro wh pins s σ H Q I h
 refine isTrue_or (thn (ha pins s σ H Q I h) fun c s1 e => ?_)
 cases c with
 | false => exact isTrue_or_nil e
 | true => exact e
theorem pw_or (ha : PT X a tA) (hb : PW X (.BoolOp .Or (b :: rest) pos) tB') : PW X (.BoolOp .Or (a :: b :: rest) pos) (tOr tA tB') := by
 intro wh pins s σ H Q I h
 refine isTrue_or (thn (ha pins s σ H _ I h) fun c s1 ⟨H1, I1, q1⟩ => ?_)
 cases c with
 | true => exact ⟨H1, I1, q1⟩
 | false => exact hb wh pins s1 σ H1 Q I1 q1
theorem pt_not (ha : PT X a tA) : PT X (.UnaryOp .Not a pos) (tNot tA) := by
 intro pins s σ H Q I h
 exact isTrue_not (ha pins s σ H (fun c H1 => Q (!c) H1) I h)
def tAndV (ta tb : TE) : TE := fun σ H Q => ta σ H fun x H1 => ∃ c, x = .bl c ∧ if c = true then tb σ H1 Q else Q (.bl false) H1
def tNotV (ta : TE) : TE := fun σ H Q => ta σ H fun x H1 => ∃ c, x = .bl c ∧ Q (.bl (!c)) H1
theorem pe_one {op} {t : TE} (h : PE X a t) : PE X (.BoolOp op [a] pos) t := fun pins s σ H Q I hw => BoolOp_one (h pins s σ H Q I hw)
theorem pe_and (ha : PE X a ta) (hb : PE X (.BoolOp .And (b :: rest) pos) tb) : PE X (.BoolOp .And (a :: b :: rest) pos) (tAndV ta tb) := by
 intro pins s σ H Q I h
 refine BoolOp_and (thn (ha pins s σ H _ I h) fun v s1 ⟨x, H1, I1, r1, q1⟩ => ?_)
 obtain ⟨c, rfl, q1⟩ := q1
 cases r1
 refine wpAny_truthy_bool ?_
 cases c with
 | true => exact hb pins s1 σ H1 Q I1 q1
 | false => exact ⟨.bl false, H1, I1, rfl, q1⟩
theorem pe_not (ha : PE X a ta) : PE X (.UnaryOp .Not a pos) (tNotV ta) := by
 intro pins s σ H Q I h
 refine UnaryOp_ (thn (ha pins s σ H _ I h) fun v s1 ⟨x, H1, I1, r1, q1⟩ => ?_)
 obtain ⟨c, rfl, q1⟩ := q1
 cases r1
 exact not_of (wpAny_truthy_bool ⟨.bl (!c), H1, I1, rfl, q1⟩)
end
def SqL (K : PySem.W.Frag) (H : Hp) (a : Addr) (xs : List V) : Prop :=
 Rd H a (.lst xs) ∨
  ∃ (o : Obj) (its : Array Value) (n : Nat), K.lookup a = some o ∧ o.cls = .type "list" ∧ o.dict = none ∧ o.data = .seq its n ∧ its.size ≤ sizeLine ∧ Vals xs its.toList
def SqT (K : PySem.W.Frag) (H : Hp) (a : Addr) (xs : List V) : Prop :=
 Rd H a (.tup xs) ∨
  ∃ (o : Obj) (its : Array Value) (n : Nat), K.lookup a = some o ∧ o.cls = .type "tuple" ∧ o.data = .seq its n ∧ its.size ≤ sizeLine ∧ Vals xs its.toList
def absV : Value → Option V
 | .none => some .non
 | .bool b => some (.bl b)
 | .int i _ => some (.int i)
 | .str x _ => some (.str x)
 | .bytes b _ => some (.byt b)
 | .float b _ => some (.flt b)
 | .ref a => some (.ref a)
 | .type n => some (.ty n)
 | _ => none
theorem RelV.abs {x : V} {u : Value} (r : RelV x u) : absV u = some x := by
 cases x with
 | non => cases r; rfl
 | bl _ => cases r; rfl
 | int _ => obtain ⟨t, rfl⟩ := r; rfl
 | str _ => obtain ⟨t, rfl⟩ := r; rfl
 | byt _ => obtain ⟨t, rfl⟩ := r; rfl
 | flt _ => obtain ⟨t, rfl⟩ := r; rfl
 | ref _ => cases r; rfl
 | ty _ => cases r; rfl
theorem RelV.inj {x y : V} {u : Value} (r : RelV x u) (q : RelV y u) : x = y := Option.some.inj (r.abs.symm.trans q.abs)
theorem Vals.inj : ∀ {xs ys : List V} {us : List Value}, Vals xs us → Vals ys us → xs = ys
 | _, _, _, .nil, .nil => rfl
 | _, _, _, .cons r t, .cons r' t' => by rw [r.inj r', Vals.inj t t']
section
variable {X : Cx} {pins : List (Addr × Obj)} {σ : St} {H : Hp} {s : Shared} {a : Addr} {xs ys : List V}
theorem SqL.of {K : PySem.W.Frag} (h : H a = some (.lst xs)) : SqL K H a xs := .inl (.inl h)
theorem SqT.of {K : PySem.W.Frag} (h : H a = some (.tup xs)) : SqT K H a xs := .inl (.inl h)
theorem Inv.list (I : Inv X pins σ H s) (h : SqL X.K H a xs) : ∃ its : List Value, Vals xs its ∧ PlainL s.heap a its.toArray ∧ xs.length ≤ sizeLine := by
 rcases h with h | ⟨o, its, n, hk, hc, hd, hs, hz, r⟩
 · obtain ⟨z, its, n, r, e⟩ := h.ok I.hok
   exact ⟨its, r, ⟨_, n, e, rfl, rfl, rfl⟩, z⟩
 · refine ⟨its.toList, r, ⟨o, n, I.kIn a o hk, hc, hd, by simpa using hs⟩, ?_⟩
   have e := r.length
   simp only [Array.length_toList] at e
   omega
theorem Inv.tuple (I : Inv X pins σ H s) (h : SqT X.K H a xs) : ∃ its : List Value, Vals xs its ∧ IsTup s.heap a its.toArray ∧ xs.length ≤ sizeLine := by
 rcases h with h | ⟨o, its, n, hk, hc, hs, hz, r⟩
 · obtain ⟨z, its, r, p⟩ := h.ok I.hok
   exact ⟨its, r, p, z⟩
 · refine ⟨its.toList, r, ⟨o, I.kIn a o hk, hc, n, by simpa using hs⟩, ?_⟩
   have e := r.length
   simp only [Array.length_toList] at e
   omega
theorem Inv.list_inj (I : Inv X pins σ H s) (h : SqL X.K H a xs) (h' : SqL X.K H a ys) : xs = ys := by
 obtain ⟨its, r, ⟨o, n, e, _, _, d⟩, _⟩ := I.list h
 obtain ⟨its', r', ⟨o', n', e', _, _, d'⟩, _⟩ := I.list h'
 rw [e] at e'; cases e'
 rw [d] at d'
 injection d' with d1 _
 have : its = its' := by simpa using congrArg Array.toList d1
 subst this
 exact r.inj r'
theorem Inv.tuple_inj (I : Inv X pins σ H s) (h : SqT X.K H a xs) (h' : SqT X.K H a ys) : xs = ys := by
 obtain ⟨its, r, ⟨o, e, _, n, d⟩, _⟩ := I.tuple h
 obtain ⟨its', r', ⟨o', e', _, n', d'⟩, _⟩ := I.tuple h'
 rw [e] at e'; cases e'
 rw [d] at d'
 injection d' with d1 _
 have : its = its' := by simpa using congrArg Array.toList d1
 subst this
 exact r.inj r'
end
abbrev Cx.wish (X : Cx) (E : Value → Shared → Prop) : Cx := { X with xe := E }
abbrev Cx.nox (X : Cx) : Cx := X.wish fun _ _ => False
theorem Cx.Ok.wish {X : Cx} (ok : X.Ok) (E : Value → Shared → Prop) : (X.wish E).Ok :=
 ⟨ok.mod, ok.kind, ok.glob, ok.blt, ok.above, ok.inj, ok.has, ok.cab, ok.hd, ok.frames, ok.stk, ok.exf, ok.bs, ok.bsz, ok.noex, ok.exfs, ok.funs, ok.frf⟩
theorem Cx.Ok.unwish {X : Cx} {E : Value → Shared → Prop} (ok : (X.wish E).Ok) : X.Ok :=
 ⟨ok.mod, ok.kind, ok.glob, ok.blt, ok.above, ok.inj, ok.has, ok.cab, ok.hd, ok.frames, ok.stk, ok.exf, ok.bs, ok.bsz, ok.noex, ok.exfs, ok.funs, ok.frf⟩
section
variable {X : Cx} {pins : List (Addr × Obj)} {σ : St} {H : Hp} {s : Shared} {E : Value → Shared → Prop}
theorem Inv.wish (I : Inv X pins σ H s) (E : Value → Shared → Prop) : Inv (X.wish E) pins σ H s := ⟨I.ok.wish E, I.os, I.bare, I.base, I.loc, I.cell, I.free, I.freeC, I.pin, I.hok, I.len⟩
theorem Inv.unwish (I : Inv (X.wish E) pins σ H s) : Inv X pins σ H s := ⟨I.ok.unwish, I.os, I.bare, I.base, I.loc, I.cell, I.free, I.freeC, I.pin, I.hok, I.len⟩
theorem SP.unwish {D : Ends} {f : Flow} {s' : Shared} (h : SP (X.wish E) pins D f s') : SP X pins D f s' := by
 cases f with
 | next => obtain ⟨σ', H', I, q⟩ := h; exact ⟨σ', H', I.unwish, q⟩
 | brk => obtain ⟨σ', H', I, q⟩ := h; exact ⟨σ', H', I.unwish, q⟩
 | cont => obtain ⟨σ', H', I, q⟩ := h; exact ⟨σ', H', I.unwish, q⟩
 | ret u => obtain ⟨v, σ', H', I, r, q⟩ := h; exact ⟨v, σ', H', I.unwish, r, q⟩
theorem PSs.nox {st : List Stmt} {t : TS} (h : PSs X.nox st t) : PSs X st t := fun pins s σ H D I hw =>
 wpAny_mono (h pins s σ H D (I.wish _) hw) (fun _ _ q => q.unwish) fun _ _ z => False.elim z
end
section
variable {X : Cx} {st : Stmt} {rest : List Stmt} {t u : TS} {e : Expr} {te : TE} {pos : Pos}
def tNext : TS := fun D σ H => D.nx σ H
def tSeq (t u : TS) : TS := fun D σ H => t { D with nx := u D } σ H
theorem pss_nil : PSs X [] tNext := fun _ _ σ H _ I h => wpAny_execs_nil ⟨σ, H, I, h⟩
theorem pss_cons (h1 : PS X st t) (h2 : PSs X rest u) : PSs X (st :: rest) (tSeq t u) := by
 intro pins s σ H D I h
 refine wpAny_execs_cons (thn (h1 pins s σ H { D with nx := u D } I h) fun f s1 q => ?_)
 cases f with
 | next =>
  obtain ⟨σ', H', I', q⟩ := q
  exact h2 pins s1 σ' H' D I' q
 | ret v => exact q
 | brk => exact q
 | cont => exact q
theorem Inv.quiet {pins : List (Addr × Obj)} {σ : St} {H : Hp} {s : Shared} (I : Inv X pins σ H s) : interactive X.env = false := by simp [interactive, I.ok.kind]
def tDrop (te : TE) : TS := fun D σ H => te σ H fun _ H1 => D.nx σ H1
theorem ps_expr (he : PE X e te) (hs : swapsWith e none pos.line X.env = pure false := by rfl) : PS X (.Expr e pos) (tDrop te) := by
 intro pins s σ H D I h
 exact wpAny_Expr_any (thn (he pins s σ H _ I h) fun v s1 ⟨x, H1, I1, r1, q1⟩ => ⟨σ, H1, I1, q1⟩) I.quiet hs
def tRet (te : TE) : TS := fun D σ H => te σ H D.rt
theorem ps_ret (he : PE X e te) : PS X (.Return (some e) pos) (tRet te) := by
 intro pins s σ H D I h
 exact wpAny_Return_some (thn (he pins s σ H _ I h) fun v s1 ⟨x, H1, I1, r1, q1⟩ => ⟨x, σ, H1, I1, r1, q1⟩)
def tIfS (c : TT) (t u : TS) : TS := fun D σ H => c σ H fun b H1 => if b = true then t D σ H1 else u D σ H1
theorem ps_if {c : Expr} {a b : List Stmt} {tc : TT} (hc : PT X c tc) (ha : PSs X a t) (hb : PSs X b u) : PS X (.If c a b pos) (tIfS tc t u) := by
 intro pins s σ H D I h
 refine wpAny_If (thn (hc pins s σ H _ I h) fun d s1 ⟨H1, I1, q1⟩ => ?_)
 cases d with
 | true => exact ha pins s1 σ H1 D I1 q1
 | false => exact hb pins s1 σ H1 D I1 q1
end
abbrev TG := V → St → Hp → (St → Hp → Prop) → Prop
abbrev TGs := List V → St → Hp → (St → Hp → Prop) → Prop
def PG (X : Cx) (target : Expr) (t : TG) : Prop :=
 ∀ (pins : List (Addr × Obj)) (s : Shared) (σ : St) (H : Hp) (v : V) (u : Value) (Q : St → Hp → Prop), Inv X pins σ H s → RelV v u → t v σ H Q →
  wpAny (model X.prog X.w) X.A (assign target X.env u) (fun _ s' => ∃ σ' H', Inv X pins σ' H' s' ∧ Q σ' H') X.xe s
def PGs (X : Cx) (ts : List Expr) (t : TGs) : Prop :=
 ∀ (pins : List (Addr × Obj)) (s : Shared) (σ : St) (H : Hp) (vs : List V) (us : List Value) (Q : St → Hp → Prop), Inv X pins σ H s → Vals vs us → t vs σ H Q →
  wpAny (model X.prog X.w) X.A (assignInOrder ((assignEach ts X.env).map (·.2)) us) (fun _ s' => ∃ σ' H', Inv X pins σ' H' s' ∧ Q σ' H') X.xe s
abbrev TIp := V → V → Hp → VK → Prop
def PIp (X : Cx) (op : Operator) (t : TIp) : Prop :=
 ∀ (pins : List (Addr × Obj)) (s : Shared) (σ : St) (H : Hp) (x y : V) (v u : Value) (Q : VK), Inv X pins σ H s → RelV x v → RelV y u → t x y H Q →
  wpAny (model X.prog X.w) X.A (inplaceOp op v u) (EP X pins σ Q) X.xe s
section
variable {X : Cx} {pos : Pos}
def gName (i : Nat) : TG := fun v σ H Q => Q (σ.set i (some v)) H
theorem pg_name {i : Nat} {x : Str} (hN : X.N.Nodup) (hi : X.N[i]? = some x) (hx : Loc X.env.scope x) (hf : X.fn x = true ∨ X.env.scope.names.lookup x = some .local := by first | exact .inl rfl | exact .inr rfl | assumption) : PG X (.Name x pos) (gName i) := by
 intro pins s σ H v u Q I r h
 exact wpAny_assign_Name (store_ok I hN hi hx r (fun s' I' => ⟨_, H, I', h⟩) hf)
def gNil : TGs := fun vs σ H Q => vs = [] ∧ Q σ H
def gCons (t : TG) (u : TGs) : TGs := fun vs σ H Q => ∃ v r, vs = v :: r ∧ t v σ H fun σ' H' => u r σ' H' Q
theorem pgs_nil : PGs X [] gNil := by
 intro pins s σ H vs us Q I r h
 obtain ⟨e, h⟩ := h
 subst e
 cases r
 exact assignInOrder_nil ⟨σ, H, I, h⟩
theorem pgs_cons {e : Expr} {es : List Expr} {t : TG} {u : TGs} (h1 : PG X e t) (h2 : PGs X es u)
 (hs : (assignEach (e :: es) X.env).map (·.2) = assign e X.env :: (assignEach es X.env).map (·.2) := by rfl) : PGs X (e :: es) (gCons t u) := by
 intro pins s σ H vs us Q I r h
 obtain ⟨v, vr, e1, h⟩ := h
 subst e1
 cases r with
 | cons r rr =>
  rw [hs]
  refine assignInOrder_cons (thn (h1 pins s σ H _ _ _ I r h) fun _ s1 ⟨σ1, H1, I1, q1⟩ => ?_)
  exact h2 pins s1 σ1 H1 _ _ Q I1 rr q1
def gTup (K : PySem.W.Frag) (n : Nat) (t : TGs) : TG := fun v σ H Q => ∃ a xs, v = .ref a ∧ SqT K H a xs ∧ xs.length = n ∧ t xs σ H Q
theorem pg_tup {es : List Expr} {k : Nat} {t : TGs} {n : Nat} (hc : X.calm = true) (h : PGs X es t)
 (hn : (assignEach es X.env).length = n := by rfl) (hst : (assignEach es X.env).findIdx? (·.1) = none := by rfl) : PG X (.Tuple es k pos) (gTup X.K n t) := by
 intro pins s σ H v u Q I r hw
 obtain ⟨a, xs, e1, hq, hl, hw⟩ := hw
 subst e1
 cases r
 obtain ⟨its, rv, ht, hz⟩ := I.tuple hq
 refine assign_Tuple_tuple (I.ok.hd hc) ht (by simp [hn, ← hl, rv.length]) hst fun h' hx => ?_
 have I1 : Inv X pins σ H { s with heap := h' } := I.kept (t' := s.toks) fun b o e => hx b o (Nat.ne_of_lt (Heap.lt_size e)) e
 exact h pins _ σ H xs _ Q I1 (by simpa using rv) hw
def tAsg (te : TE) (g : TG) : TS := fun D σ H => te σ H fun x H1 => g x σ H1 D.nx
theorem ps_asg {tg e : Expr} {te : TE} {g : TG} (he : PE X e te) (hg : PG X tg g) (hs : swapsWithSole [tg] e pos.line X.env = pure false := by rfl) (hw : swappedStores [tg] e X.env = pure none := by rfl)
 (h1 : (assignEach [tg] X.env).map (·.2) = [assign tg X.env] := by rfl) : PS X (.Assign [tg] e pos) (tAsg te g) := by
 intro pins s σ H D I h
 refine wpAny_Assign_stores (thn (he pins s σ H _ I h) fun v s1 ⟨x, H1, I1, r1, q1⟩ => ?_) hs hw
 rw [h1]
 exact thn (hg pins s1 σ H1 x v _ I1 r1 q1) fun _ s2 q => q
theorem ps_set {i : Nat} {x : Str} {e : Expr} {te : TE} {pos' : Pos} (hN : X.N.Nodup) (hi : X.N[i]? = some x) (hx : Loc X.env.scope x) (he : PE X e te) (hs : swapsWith e (some (.Name x pos')) pos.line X.env = pure false := by rfl) (hf : X.fn x = true ∨ X.env.scope.names.lookup x = some .local := by first | exact .inl rfl | exact .inr rfl | assumption) :
 PS X (.Assign [.Name x pos'] e pos) (tAsg te (gName i)) := by
 intro pins s σ H D I h
 refine wpAny_Assign_Name (thn (he pins s σ H _ I h) fun v s1 ⟨y, H1, I1, r1, q1⟩ => ?_) hs
 exact store_ok I1 hN hi hx r1 (fun s2 I2 => ⟨_, H1, I2, q1⟩) hf
def tAug (i : Nat) (te : TE) (ti : TIp) : TS := fun D σ H => ∃ x, σ[i]? = some (some x) ∧ te σ H fun y H1 => ti x y H1 fun z H2 => D.nx (σ.set i (some z)) H2
theorem ps_aug {i : Nat} {x : Str} {e : Expr} {te : TE} {op : Operator} {ti : TIp} {pos' : Pos} (hN : X.N.Nodup) (hi : X.N[i]? = some x) (hx : Loc X.env.scope x) (he : PE X e te) (ho : PIp X op ti) (hf : X.fn x = true ∨ X.env.scope.names.lookup x = some .local := by first | exact .inl rfl | exact .inr rfl | assumption) :
 PS X (.AugAssign (.Name x pos') op e pos) (tAug i te ti) := by
 intro pins s σ H D I h
 obtain ⟨v, e1, h⟩ := h
 obtain ⟨m, hn, hl⟩ := I.loc
 have vis : Vis X.env.scope x := by rcases hx with k | k; exact .inl k; exact .inr (.inl k)
 obtain ⟨u, r, l⟩ := hl i x v hi e1 vis
 refine wpAny_AugAssign_Name ?_
 have go : wpAny (model X.prog X.w) X.A (eval e X.env) (fun w s₂ => wpAny (model X.prog X.w) X.A (inplaceOp op u w) (fun r s₃ => wpAny (model X.prog X.w) X.A (storeName X.env x r) (fun _ => SP X pins D .next) X.xe s₃) X.xe s₂) X.xe s := by
  refine thn (he pins s σ H _ I h) fun w s1 ⟨y, H1, I1, r1, q1⟩ => ?_
  refine thn (ho pins s1 σ H1 v y u w _ I1 r r1 q1) fun z s2 ⟨zv, H2, I2, r2, q2⟩ => ?_
  exact store_ok I2 hN hi hx r2 (fun s3 I3 => ⟨_, H2, I3, q2⟩) hf
 rcases l with ⟨hk, hm⟩ | ⟨hk, c, hc, hcell⟩
 · exact wpAny_loadName_local I.ok.kind hk hn hm go
 · rcases hk with hk | hk
   · exact wpAny_loadName_cell I.ok.kind hk hc hcell go
   · rcases hx with k | k
     · have : X.env.scope.names.lookup x = some .free := hk
       rw [k] at this; cases this
     · have : X.env.scope.names.lookup x = some .free := hk
       rw [k] at this; cases this
def ipI (f : Int → Int → Int) : TIp := fun x y H Q => ∃ i j, x = .int i ∧ y = .int j ∧ Q (.int (f i j)) H
theorem ip_sub : PIp X .Sub (ipI fun i j => i - j) := by
 intro pins s σ H x y v u Q I r1 r2 h
 obtain ⟨i, j, e1, e2, q⟩ := h
 subst e1; subst e2
 obtain ⟨t, rfl⟩ := r1
 obtain ⟨t', rfl⟩ := r2
 exact isub_int ⟨.int _, H, I.tok _, ⟨_, rfl⟩, q⟩
def tWhile (c : TT) (tb : TS) : TS := fun D σ H => ∃ W : Nat → St → Hp → Prop, (∃ m, W m σ H) ∧ ∀ m σ H, W m σ H →
 c σ H fun b H1 => if b = true then ∃ N : St → Hp → Prop, (∀ σ' H', N σ' H' → ∃ m', m' < m ∧ W m' σ' H') ∧ tb { D with nx := N, ct := N, bk := D.nx } σ H1 else D.nx σ H1
theorem ps_while {c : Expr} {body : List Stmt} {tc : TT} {tb : TS} (hp : PassesOwn (model X.prog X.w) X.A X.env X.xe) (hc : PT X c tc) (hb : PSs X body tb) : PS X (.While c body [] pos) (tWhile tc tb) := by
 intro pins s σ H D I h
 obtain ⟨W, ⟨m0, w0⟩, turn⟩ := h
 refine wpAny_While (codeAny_whileLoop (fun n s' => ∃ σ' H', Inv X pins σ' H' s' ∧ W n σ' H') ?_ m0 ⟨σ, H, I, w0⟩)
 rintro n s1 ⟨σ1, H1, I1, w1⟩
 refine wpAny_passesOwn hp (thn (hc pins s1 σ1 H1 _ I1 (turn n σ1 H1 w1)) fun b s2 ⟨H2, I2, q2⟩ => ?_)
 cases b with
 | true =>
  obtain ⟨N, hN, q2⟩ := q2
  rw [if_pos rfl]
  refine wpAny_passesOwn hp (thn (hb pins s2 σ1 H2 _ I2 q2) fun f s3 q3 => ?_)
  cases f with
  | next =>
   obtain ⟨σ3, H3, I3, n3⟩ := q3
   obtain ⟨m', hm, w3⟩ := hN σ3 H3 n3
   exact ⟨m', hm, σ3, H3, I3, w3⟩
  | cont =>
   obtain ⟨σ3, H3, I3, n3⟩ := q3
   obtain ⟨m', hm, w3⟩ := hN σ3 H3 n3
   exact ⟨m', hm, σ3, H3, I3, w3⟩
  | brk => exact q3
  | ret v => exact q3
 | false =>
  rw [if_neg Bool.false_ne_true]
  exact wpAny_execs_nil ⟨σ1, H2, I2, q2⟩
end
structure It where
 go : Nat → Hp → Prop
 yld : Nat → Hp → V → Hp → Prop
 stop : Nat → Hp → Prop
def FpOk (X : Cx) (pins : List (Addr × Obj)) (H : Hp) (b : Addr) : Prop :=
 H b = none ∧ b ≠ X.env.locals ∧ b ∉ X.fs ∧ (b ∈ X.ex ∨ X.s₀.heap.objs.size ≤ b) ∧ (∀ x c, X.env.cells.lookup x = some c → c ≠ b) ∧ ∀ p ∈ X.pn ++ pins, p.1 ≠ b
theorem Inv.fpOk {X : Cx} {pins : List (Addr × Obj)} {σ : St} {H H' : Hp} {s : Shared} {b : Addr} (I : Inv X pins σ H s) (hb : s.heap.objs.size ≤ b) (hn : H' b = none) : FpOk X pins H' b := by
 refine ⟨hn, Nat.ne_of_gt (Nat.lt_of_lt_of_le I.lt hb), I.nofs hb, .inr (Nat.le_trans I.sz hb), fun x c e z => ?_, fun p hp z => ?_⟩
 · obtain ⟨v, q⟩ := I.cell x c e
   exact absurd (Nat.lt_of_lt_of_le q.lt (by rw [z]; exact hb)) (Nat.lt_irrefl _)
 · exact absurd (Nat.lt_of_lt_of_le (Heap.lt_size (I.pin p hp).1) (by rw [z]; exact hb)) (Nat.lt_irrefl _)
structure Turn (P : Program) (w : World) (K : PySem.W.Frag) (tg : Expr) (J : It) (fp : List Addr) (it : Addr) (tn : Nat → Heap → Prop) : Prop where
 mem : it ∈ fp
 obj : ∀ i h, tn i h → ∀ b ∈ fp, ∃ o, h.get? b = some o ∧ ∀ v, o.data ≠ .cell v
 keep : ∀ i h h', tn i h → (∀ b ∈ fp, ∀ o, h.get? b = some o → h'.get? b = some o) → tn i h'
 item : ∀ (X : Cx), X.prog = P → X.w = w → X.K = K → X.calm = true → ∀ (i : Nat) (pins : List (Addr × Obj)) (s : Shared) (σ : St) (H : Hp) (E : Value → Shared → Prop), Inv X pins σ H s → (∀ b ∈ fp, FpOk X pins H b) → tn i s.heap → J.go i H →
  wpAny (model P w) X.A (pyNext (.ref it)) (fun r s1 => ∃ u, r = some u ∧
   wpAny (model P w) X.A (letOwnedTupleGo tg (.ref it) u) (fun _ s2 => ∃ x H', Inv X pins σ H' s2 ∧ RelV x u ∧ J.yld i H x H' ∧ tn (i + 1) s2.heap ∧ ∀ b ∈ fp, H' b = none) E s1) E s
 done : ∀ (X : Cx), X.prog = P → X.w = w → X.K = K → X.calm = true → ∀ (i : Nat) (pins : List (Addr × Obj)) (s : Shared) (σ : St) (H : Hp) (E : Value → Shared → Prop), Inv X pins σ H s → (∀ b ∈ fp, FpOk X pins H b) → tn i s.heap → J.stop i H →
  wpAny (model P w) X.A (pyNext (.ref it)) (fun r s1 => r = none ∧ Inv X pins σ H s1) E s
 self : ∀ (A : Around) (i : Nat) (s : Shared) (Q : Value → Shared → Prop) (E : Value → Shared → Prop), tn i s.heap → Q (.ref it) s → wpAny (model P w) A (pyIter (.ref it)) Q E s
abbrev TI := St → Hp → (It → Hp → Prop) → Prop
def PIE (X : Cx) (pins : List (Addr × Obj)) (σ : St) (tg : Expr) (R : It → Hp → Prop) (itv : Value) (s2 : Shared) : Prop :=
 ∃ (it : Addr) (fp : List Addr) (tn : Nat → Heap → Prop) (J : It) (H' : Hp), itv = .ref it ∧ Inv X pins σ H' s2 ∧ Turn X.prog X.w X.K tg J fp it tn ∧ tn 0 s2.heap ∧ (∀ b ∈ fp, FpOk X pins H' b) ∧ R J H'
def PI (X : Cx) (tg iter : Expr) (wi : TI) : Prop :=
 ∀ (pins : List (Addr × Obj)) (s : Shared) (σ : St) (H : Hp) (R : It → Hp → Prop), Inv X pins σ H s → wi σ H R →
  wpAny (model X.prog X.w) X.A (eval iter X.env) (fun v s1 => wpAny (model X.prog X.w) X.A (pyIter v) (PIE X pins σ tg R) X.xe s1) X.xe s
theorem go_of {M : Model} {A : Around} {E : Value → Shared → Prop} {s : Shared} {tg : Expr} {it : Addr} {u : Value} {o : Obj} {n : String} {vs : Array Value} {Q : Unit → Shared → Prop} (ho : s.heap.get? it = some o) (hc : o.cls = .type n) (hd : o.data = .fields vs)
 (hn : ["enumerate", "zip", "dict_itemiterator", "dict_reverseitemiterator", "odict_iterator", "itertools.zip_longest", "itertools.pairwise"].contains n = false) (hQ : Q () s) : wpAny M A (letOwnedTupleGo tg (.ref it) u) Q E s := by
 unfold letOwnedTupleGo
 cases tg <;> first
  | exact wpAny_pure hQ
  | (cases u <;> first
   | exact wpAny_pure hQ
   | (refine wpAny_bind (wpAny_load ho ?_)
      rw [hc, hd]
      show wpAny M A (if (["enumerate", "zip", "dict_itemiterator", "dict_reverseitemiterator", "odict_iterator", "itertools.zip_longest", "itertools.pairwise"].contains n && vs[0]? == some (rawInt _)) = true then _ else _) Q E s
      rw [if_neg (by intro h; rw [hn, Bool.false_and] at h; cases h)]
      exact wpAny_pure hQ))
def Itl (K : PySem.W.Frag) (a : Addr) : It :=
 ⟨fun i H => ∃ xs x, SqL K H a xs ∧ xs[i]? = some x, fun i H x H' => H' = H ∧ ∀ xs, SqL K H a xs → xs[i]? = some x, fun i H => ∃ xs, SqL K H a xs ∧ xs.length ≤ i⟩
def Itt (K : PySem.W.Frag) (a : Addr) : It :=
 ⟨fun i H => ∃ xs x, SqT K H a xs ∧ xs[i]? = some x, fun i H x H' => H' = H ∧ ∀ xs, SqT K H a xs → xs[i]? = some x, fun i H => ∃ xs, SqT K H a xs ∧ xs.length ≤ i⟩
def Itr (lo : Int) (n : Nat) : It := ⟨fun i _ => i < n, fun i H x H' => H' = H ∧ x = .int (lo + i), fun i _ => n ≤ i⟩
theorem turn_list {P : Program} {w : World} {K : PySem.W.Frag} {tg : Expr} (a it : Addr) : Turn P w K tg (Itl K a) [it] it (fun i h => h.IsListIter it a i) where
 mem := by simp
 obj := fun i h st b hb => by
  have e : b = it := by simpa using hb
  subst e
  obtain ⟨o, e, c, d⟩ := st
  exact ⟨o, e, fun v z => by rw [d] at z; cases z⟩
 keep := fun i h h' st k => st.at fun o e => k it (by simp) o e
 item := by
  intro X hP hw hK hc i pins s σ H E I hf st hg
  subst hP hw hK
  obtain ⟨xs, x, hq, hx⟩ := hg
  obtain ⟨its, rv, p, hz⟩ := I.list hq
  obtain ⟨u, hu, ru⟩ := rv.get hx
  obtain ⟨f0, f1, f2, f3, f4, f5⟩ := hf it (by simp)
  refine wpAny_pyNext_list_item st p.isList (x := u) (by simpa using hu) fun h' st' sb => ?_
  have I1 : Inv X pins σ H { s with heap := h' } := I.turned (t' := s.toks) (fun b o hb e => (sb.2 b hb).trans e) f0 f1 f3 f4 f5
  obtain ⟨o, e, c, d⟩ := id st'
  exact ⟨u, rfl, go_of (s := { s with heap := h' }) e c d (by decide) ⟨x, H, I1, ru, ⟨rfl, fun ys hy => by rw [I.list_inj hy hq]; exact hx⟩, st', fun b hb => (hf b hb).1⟩⟩
 done := by
  intro X hP hw hK hc i pins s σ H E I hf st hg
  subst hP hw hK
  obtain ⟨xs, hq, hx⟩ := hg
  obtain ⟨its, rv, p, hz⟩ := I.list hq
  obtain ⟨f0, f1, f2, f3, f4, f5⟩ := hf it (by simp)
  have hl := rv.length
  exact wpAny_pyNext_list_end (I.ok.hd hc) st p.isList (by simp; omega) fun h' eb => ⟨rfl, I.turned (t' := s.toks) (fun b o hb e => eb b o hb e) f0 f1 f3 f4 f5⟩
 self := fun _ _ _ _ _ st h => wpAny_pyIter_listiter st h
theorem turn_tuple {P : Program} {w : World} {K : PySem.W.Frag} {tg : Expr} (a it : Addr) : Turn P w K tg (Itt K a) [it] it (fun i h => h.IsTupleIter it a i) where
 mem := by simp
 obj := fun i h st b hb => by
  have e : b = it := by simpa using hb
  subst e
  obtain ⟨o, e, c, d⟩ := st
  exact ⟨o, e, fun v z => by rw [d] at z; cases z⟩
 keep := fun i h h' st k => st.at fun o e => k it (by simp) o e
 item := by
  intro X hP hw hK hc i pins s σ H E I hf st hg
  subst hP hw hK
  obtain ⟨xs, x, hq, hx⟩ := hg
  obtain ⟨its, rv, p, hz⟩ := I.tuple hq
  obtain ⟨u, hu, ru⟩ := rv.get hx
  obtain ⟨f0, f1, f2, f3, f4, f5⟩ := hf it (by simp)
  refine wpAny_pyNext_tuple_item st (show s.heap.IsTuple a its.toArray from p) (x := u) (by simpa using hu) fun h' st' sb => ?_
  have I1 : Inv X pins σ H { s with heap := h' } := I.turned (t' := s.toks) (fun b o hb e => (sb.2 b hb).trans e) f0 f1 f3 f4 f5
  obtain ⟨o, e, c, d⟩ := id st'
  exact ⟨u, rfl, go_of (s := { s with heap := h' }) e c d (by decide) ⟨x, H, I1, ru, ⟨rfl, fun ys hy => by rw [I.tuple_inj hy hq]; exact hx⟩, st', fun b hb => (hf b hb).1⟩⟩
 done := by
  intro X hP hw hK hc i pins s σ H E I hf st hg
  subst hP hw hK
  obtain ⟨xs, hq, hx⟩ := hg
  obtain ⟨its, rv, p, hz⟩ := I.tuple hq
  obtain ⟨f0, f1, f2, f3, f4, f5⟩ := hf it (by simp)
  have hl := rv.length
  exact wpAny_pyNext_tuple_end (I.ok.hd hc) st (show s.heap.IsTuple a its.toArray from p) (by simp; omega) fun h' eb => ⟨rfl, I.turned (t' := s.toks) (fun b o hb e => eb b o hb e) f0 f1 f3 f4 f5⟩
 self := fun _ _ _ _ _ st h => wpAny_pyIter_tupleiter st h
theorem turn_range {P : Program} {w : World} {K : PySem.W.Frag} {tg : Expr} (it : Addr) (lo : Int) (n : Nat) : Turn P w K tg (Itr lo n) [it] it (fun i h => IsRangeIter h it (lo + (i : Nat) * 1) ((n : Int) - (i : Nat)) 1) where
 mem := by simp
 obj := fun i h st b hb => by
  have e : b = it := by simpa using hb
  subst e
  exact ⟨_, st, fun v z => by
   have z' : Data.fields _ = Data.cell v := z
   cases z'⟩
 keep := fun i h h' st k => k it (by simp) _ st
 item := by
  intro X hP hw hK hc i pins s σ H E I hf st hg
  subst hP hw hK
  obtain ⟨f0, f1, f2, f3, f4, f5⟩ := hf it (by simp)
  have W := Walks.range (prog := X.prog) (w := X.w) (I.ok.hd hc) it lo 1 n
  refine W.item i s _ _ hg st fun v h' tk hv st' kk => ?_
  obtain ⟨t, rfl⟩ := hv
  have I1 : Inv X pins σ H { s with heap := h', toks := tk } := I.turned (fun b o hb e => kk b o (by simpa using hb) e) f0 f1 f3 f4 f5
  refine ⟨_, rfl, go_of (s := { s with heap := h', toks := tk }) (n := "range_iterator") st' rfl rfl (by decide) ⟨.int (lo + i), H, I1, ⟨t, ?_⟩, ⟨rfl, rfl⟩, st', fun b hb => (hf b hb).1⟩⟩
  rw [Int.mul_one]
 done := by
  intro X hP hw hK hc i pins s σ H E I hf st hg
  subst hP hw hK
  obtain ⟨f0, f1, f2, f3, f4, f5⟩ := hf it (by simp)
  exact wpAny_pyNext_range_end (I.ok.hd hc) st (by have : n ≤ i := hg; omega) fun h' eb => ⟨rfl, I.turned (t' := s.toks) (fun b o hb e => eb b o hb e) f0 f1 f3 f4 f5⟩
 self := fun _ _ _ _ _ st h => wpAny_pyIter_rangeiter st h
section
variable {X : Cx} {tg : Expr}
theorem range_it {pins : List (Addr × Obj)} {σ : St} {H : Hp} {s : Shared} {R : It → Hp → Prop} {E : Value → Shared → Prop} {lo hi : Int} {t u v : Tok} {tk : Nat} (I : Inv X pins σ H s) (h1 : -(2 ^ 62) ≤ lo) (h2 : lo < 2 ^ 62) (h3 : -(2 ^ 62) ≤ hi) (h4 : hi < 2 ^ 62)
 (q : R (Itr lo (hi - lo).toNat) H) : wpAny (model X.prog X.w) X.A (pyIter (.ref s.heap.objs.size)) (PIE X pins σ tg R) E { s with heap := s.heap.push { cls := .type "range", data := .fields #[.int lo t, .int hi u, .int 1 v] }, toks := tk } := by
 refine wpAny_pyIter_range (IsRange.new ..) (small_one h1 h2 h3 h4) ?_
 have I1 : Inv X pins σ H { s with heap := s.heap.push { cls := .type "range", data := .fields #[.int lo t, .int hi u, .int 1 v] }, toks := tk } := I.kept fun b o e => Heap.get?_push_of_some _ e
 refine ⟨(s.heap.push { cls := .type "range", data := .fields #[.int lo t, .int hi u, .int 1 v] }).objs.size, [(s.heap.push { cls := .type "range", data := .fields #[.int lo t, .int hi u, .int 1 v] }).objs.size], _, _, H, rfl,
  I1.kept (t' := tk) fun b o e => Heap.get?_push_of_some _ e, turn_range _ lo (hi - lo).toNat, ?_, fun b hb => ?_, q⟩
 · have e1 : lo + ((0 : Nat) : Int) * 1 = lo := by simp
   have e2 : (((hi - lo).toNat : Nat) : Int) - ((0 : Nat) : Int) = Builtin.Range.rangeSize lo hi 1 := by rw [rangeSize_one]; split <;> omega
   show IsRangeIter _ _ (lo + ((0 : Nat) : Int) * 1) ((((hi - lo).toNat : Nat) : Int) - ((0 : Nat) : Int)) 1
   rw [e1, e2]
   exact Heap.get?_push_size _ rfl
 · have e : b = (s.heap.push { cls := .type "range", data := .fields #[.int lo t, .int hi u, .int 1 v] }).objs.size := by simpa using hb
   subst e
   exact I1.fpOk (Nat.le_refl _) (I1.hok.fresh (Nat.le_refl _))
def iRng1 (ta : TA) : TI := fun σ H R => ta σ H fun vs H1 => ∃ j : Int, vs = [.int j] ∧ -(2 ^ 62) ≤ j ∧ j < 2 ^ 62 ∧ R (Itr 0 j.toNat) H1
theorem pi_range1 {a : Expr} {ta : TA} {p pos : Pos} (hg : Gl X "range") (hm : X.mg "range" = none) (ha : PA X [a] ta) (hs : starEach [a] X.env = [(false, eval a X.env)] := by rfl) : PI X tg (.Call (.Name "range" p) [a] [] pos) (iRng1 ta) := by
 intro pins s σ H R I h
 refine Call_ (ld_blt I hg hm boot_range (PyProof.Rows.callWith_type1 (thn (ha pos pins s σ H _ I h) fun us s1 ⟨vs, H1, I1, r1, q1⟩ => ?_) hs rfl))
 obtain ⟨j, e, q1, q2, q⟩ := q1
 subst e
 cases r1 with
 | cons r rr =>
  cases rr
  obtain ⟨t, rfl⟩ := r
  exact call_range_1 (range_it I1 (by omega) (by omega) q1 q2 (by simpa using q))
def tFor (wi : TI) (g : TG) (tb : TS) : TS := fun D σ H => wi σ H fun J H1 => ∃ W : Nat → Nat → St → Hp → Prop, (∃ m, W 0 m σ H1) ∧ ∀ i m σ H, W i m σ H →
 (J.stop i H ∧ D.nx σ H) ∨ (J.go i H ∧ ∃ N : St → Hp → Prop, (∀ σ' H', N σ' H' → ∃ m', m' < m ∧ W (i + 1) m' σ' H') ∧ ∀ x H', J.yld i H x H' → g x σ H' fun σ2 H2 => tb { D with nx := N, ct := N, bk := D.nx } σ2 H2)
def pinsAt (fp : List Addr) (h : Heap) : List (Addr × Obj) := fp.filterMap fun b => (h.get? b).map fun o => (b, o)
theorem mem_pinsAt {fp : List Addr} {h : Heap} {b : Addr} {o : Obj} (hb : b ∈ fp) (e : h.get? b = some o) : (b, o) ∈ pinsAt fp h := List.mem_filterMap.mpr ⟨b, hb, by rw [e]; rfl⟩
theorem of_pinsAt {fp : List Addr} {h : Heap} {p : Addr × Obj} (hp : p ∈ pinsAt fp h) : p.1 ∈ fp ∧ h.get? p.1 = some p.2 := by
 obtain ⟨b, hb, e⟩ := List.mem_filterMap.mp hp
 cases q : h.get? b with
 | none => rw [q] at e; cases e
 | some o =>
  rw [q] at e
  have e' : (b, o) = p := Option.some.inj e
  subst e'
  exact ⟨hb, q⟩
theorem Inv.pinned {pins : List (Addr × Obj)} {σ : St} {H : Hp} {s : Shared} {fp : List Addr} (I : Inv X pins σ H s) (hf : ∀ b ∈ fp, FpOk X pins H b) (ho : ∀ b ∈ fp, ∃ o, s.heap.get? b = some o ∧ ∀ v, o.data ≠ .cell v) : Inv X (pins ++ pinsAt fp s.heap) σ H s :=
 I.pins_of fun p hp => (List.mem_append.mp hp).elim (fun z => I.pin p (List.mem_append_right _ z)) fun z => by
  obtain ⟨hb, e⟩ := of_pinsAt z
  obtain ⟨f0, f1, f2, _⟩ := hf p.1 hb
  obtain ⟨o, e', d⟩ := ho p.1 hb
  rw [e] at e'; cases e'
  exact ⟨e, f0, f1, f2, d⟩
theorem Inv.unpinned {pins pl : List (Addr × Obj)} {σ : St} {H : Hp} {s : Shared} (I : Inv X (pins ++ pl) σ H s) : Inv X pins σ H s := I.pins_of fun p hp => I.pin p (List.mem_append_right _ (List.mem_append_left _ hp))
theorem ps_for {iter : Expr} {body : List Stmt} {wi : TI} {g : TG} {tb : TS} {pos : Pos} (hp : PassesOwn (model X.prog X.w) X.A X.env X.xe) (hc : X.calm = true) (hi : PI X tg iter wi) (hg : PG X tg g) (hb : PSs X body tb)
 (hs : ∀ x, foldedSetIterable iter X.env x = pure x := by intro _; rfl) : PS X (.For tg iter body [] pos) (tFor wi g tb) := by
 intro pins s σ H D I h
 refine wpAny_For (thn (hi pins s σ H _ I h) fun v s1 h1 => thn h1 fun itv s2 h2 => ?_) hs
 obtain ⟨it, fp, tn, J, H2, e, I2, T, st2, f2, W, ⟨m0, w0⟩, turn⟩ := h2
 subst e
 -- what stays true of the iterator's objects through the loop
 have stat : ∀ {H' : Hp}, (∀ b ∈ fp, H' b = none) → ∀ b ∈ fp, FpOk X pins H' b := fun hn b hb => ⟨hn b hb, (f2 b hb).2⟩
 refine codeAny_forLoop_any (fun n s' => ∃ i σ' H', Inv X pins σ' H' s' ∧ tn i s'.heap ∧ (∀ b ∈ fp, H' b = none) ∧ W i n σ' H') ?_ m0 ⟨0, σ, H2, I2, st2, fun b hb => (f2 b hb).1, w0⟩
 rintro n s3 ⟨i, σ3, H3, I3, st3, fr3, w3⟩
 rcases turn i n σ3 H3 w3 with ⟨stop, qn⟩ | ⟨go, N, hN, step⟩
 · refine wpAny_passesOwn hp (thn (T.done X rfl rfl rfl hc i pins s3 σ3 H3 X.xe I3 (stat fr3) st3 stop) fun r s4 ⟨hr, I4⟩ => ?_)
   subst hr
   exact wpAny_execs_nil ⟨σ3, H3, I4, qn⟩
 · refine wpAny_passesOwn hp (thn (T.item X rfl rfl rfl hc i pins s3 σ3 H3 X.xe I3 (stat fr3) st3 go) fun r s4 ⟨u, hr, h4⟩ => ?_)
   subst hr
   refine wpAny_passesOwn hp (thn h4 fun _ s5 ⟨x, H5, I5, r5, y5, st5, fr5⟩ => ?_)
   have I5' := I5.pinned (stat fr5) (T.obj _ _ st5)
   refine wpAny_passesOwn hp (thn (hg _ s5 σ3 H5 x u _ I5' r5 (step x H5 y5)) fun _ s6 ⟨σ6, H6, I6, q6⟩ => ?_)
   refine wpAny_passesOwn hp (thn (hb _ s6 σ6 H6 _ I6 q6) fun f s7 q7 => ?_)
   have again : ∀ {σ7 : St} {H7 : Hp}, Inv X (pins ++ pinsAt fp s5.heap) σ7 H7 s7 → N σ7 H7 → ∃ m, m < n ∧ ∃ i σ' H', Inv X pins σ' H' s7 ∧ tn i s7.heap ∧ (∀ b ∈ fp, H' b = none) ∧ W i m σ' H' := fun {σ7 H7} I7 n7 => by
    obtain ⟨m', hm, w7⟩ := hN σ7 H7 n7
    refine ⟨m', hm, i + 1, σ7, H7, I7.unpinned, T.keep _ _ _ st5 fun b hb o e => (I7.pin (b, o) (List.mem_append_right _ (List.mem_append_right _ (mem_pinsAt hb e)))).1, fun b hb => ?_, w7⟩
    obtain ⟨o, e, d⟩ := T.obj _ _ st5 b hb
    exact (I7.pin (b, o) (List.mem_append_right _ (List.mem_append_right _ (mem_pinsAt hb e)))).2.1
   cases f with
   | next => obtain ⟨σ7, H7, I7, n7⟩ := q7; exact again I7 n7
   | cont => obtain ⟨σ7, H7, I7, n7⟩ := q7; exact again I7 n7
   | brk => obtain ⟨σ7, H7, I7, q7⟩ := q7; exact ⟨σ7, H7, I7.unpinned, q7⟩
   | ret v => obtain ⟨x7, σ7, H7, I7, r7, q7⟩ := q7; exact ⟨x7, σ7, H7, I7.unpinned, r7, q7⟩
end
theorem for_list {K : PySem.W.Frag} {a : Addr} {xs : List V} {g : TG} {tb : TS} {D : Ends} {σ : St} {H : Hp} (Pv : Nat → St → Hp → Prop) (h0 : Pv 0 σ H) (hl : ∀ i σ H, i ≤ xs.length → Pv i σ H → SqL K H a xs)
 (hs : ∀ i x σ H, xs[i]? = some x → Pv i σ H → g x σ H fun σ2 H2 => tb { D with nx := Pv (i + 1), ct := Pv (i + 1), bk := D.nx } σ2 H2) (hd : ∀ σ H, Pv xs.length σ H → D.nx σ H) :
 ∃ W : Nat → Nat → St → Hp → Prop, (∃ m, W 0 m σ H) ∧ ∀ i m σ H, W i m σ H →
  ((Itl K a).stop i H ∧ D.nx σ H) ∨ ((Itl K a).go i H ∧ ∃ N : St → Hp → Prop, (∀ σ' H', N σ' H' → ∃ m', m' < m ∧ W (i + 1) m' σ' H') ∧ ∀ x H', (Itl K a).yld i H x H' → g x σ H' fun σ2 H2 => tb { D with nx := N, ct := N, bk := D.nx } σ2 H2) := by
 refine ⟨fun i m σ H => m = xs.length - i ∧ i ≤ xs.length ∧ Pv i σ H, ⟨xs.length, by simp, Nat.zero_le _, h0⟩, ?_⟩
 rintro i m σ H ⟨rfl, hi, p⟩
 have q := hl i σ H hi p
 by_cases hlt : i < xs.length
 · refine .inr ⟨⟨xs, xs[i], q, by simp [hlt]⟩, Pv (i + 1), fun σ' H' p' => ⟨xs.length - (i + 1), by omega, rfl, hlt, p'⟩, fun x H' y => ?_⟩
   obtain ⟨e, y⟩ := y
   subst e
   exact hs i x σ _ (y xs q) p
 · have e : i = xs.length := by omega
   subst e
   exact .inl ⟨⟨xs, q, Nat.le_refl _⟩, hd σ H p⟩
theorem for_tup {K : PySem.W.Frag} {a : Addr} {xs : List V} {g : TG} {tb : TS} {D : Ends} {σ : St} {H : Hp} (Pv : Nat → St → Hp → Prop) (h0 : Pv 0 σ H) (hl : ∀ i σ H, i ≤ xs.length → Pv i σ H → SqT K H a xs)
 (hs : ∀ i x σ H, xs[i]? = some x → Pv i σ H → g x σ H fun σ2 H2 => tb { D with nx := Pv (i + 1), ct := Pv (i + 1), bk := D.nx } σ2 H2) (hd : ∀ σ H, Pv xs.length σ H → D.nx σ H) :
 ∃ W : Nat → Nat → St → Hp → Prop, (∃ m, W 0 m σ H) ∧ ∀ i m σ H, W i m σ H →
  ((Itt K a).stop i H ∧ D.nx σ H) ∨ ((Itt K a).go i H ∧ ∃ N : St → Hp → Prop, (∀ σ' H', N σ' H' → ∃ m', m' < m ∧ W (i + 1) m' σ' H') ∧ ∀ x H', (Itt K a).yld i H x H' → g x σ H' fun σ2 H2 => tb { D with nx := N, ct := N, bk := D.nx } σ2 H2) := by
 refine ⟨fun i m σ H => m = xs.length - i ∧ i ≤ xs.length ∧ Pv i σ H, ⟨xs.length, by simp, Nat.zero_le _, h0⟩, ?_⟩
 rintro i m σ H ⟨rfl, hi, p⟩
 have q := hl i σ H hi p
 by_cases hlt : i < xs.length
 · refine .inr ⟨⟨xs, xs[i], q, by simp [hlt]⟩, Pv (i + 1), fun σ' H' p' => ⟨xs.length - (i + 1), by omega, rfl, hlt, p'⟩, fun x H' y => ?_⟩
   obtain ⟨e, y⟩ := y
   subst e
   exact hs i x σ _ (y xs q) p
 · have e : i = xs.length := by omega
   subst e
   exact .inl ⟨⟨xs, q, Nat.le_refl _⟩, hd σ H p⟩
theorem for_range {lo : Int} {n : Nat} {g : TG} {tb : TS} {D : Ends} {σ : St} {H : Hp} (Pv : Nat → St → Hp → Prop) (h0 : Pv 0 σ H)
 (hs : ∀ i σ H, i < n → Pv i σ H → g (.int (lo + i)) σ H fun σ2 H2 => tb { D with nx := Pv (i + 1), ct := Pv (i + 1), bk := D.nx } σ2 H2) (hd : ∀ σ H, Pv n σ H → D.nx σ H) :
 ∃ W : Nat → Nat → St → Hp → Prop, (∃ m, W 0 m σ H) ∧ ∀ i m σ H, W i m σ H →
  ((Itr lo n).stop i H ∧ D.nx σ H) ∨ ((Itr lo n).go i H ∧ ∃ N : St → Hp → Prop, (∀ σ' H', N σ' H' → ∃ m', m' < m ∧ W (i + 1) m' σ' H') ∧ ∀ x H', (Itr lo n).yld i H x H' → g x σ H' fun σ2 H2 => tb { D with nx := N, ct := N, bk := D.nx } σ2 H2) := by
 refine ⟨fun i m σ H => m = n - i ∧ i ≤ n ∧ Pv i σ H, ⟨n, by simp, Nat.zero_le _, h0⟩, ?_⟩
 rintro i m σ H ⟨rfl, hi, p⟩
 by_cases hlt : i < n
 · refine .inr ⟨hlt, Pv (i + 1), fun σ' H' p' => ⟨n - (i + 1), by omega, rfl, hlt, p'⟩, fun x H' y => ?_⟩
   obtain ⟨e, y⟩ := y
   subst e y
   exact hs i σ _ hlt p
 · have e : i = n := by omega
   subst e
   exact .inl ⟨Nat.le_refl _, hd σ H p⟩
abbrev R2 := V → V → Hp → VK → Prop
def OpR (X : Cx) (f : Value → Value → Sem Value) (r : R2) : Prop :=
 ∀ (pins : List (Addr × Obj)) (s : Shared) (σ : St) (H : Hp) (x y : V) (v u : Value) (Q : VK), Inv X pins σ H s → RelV x v → RelV y u → r x y H Q →
  wpAny (model X.prog X.w) X.A (f v u) (EP X pins σ Q) X.xe s
def UnR (X : Cx) (f : Value → Sem Value) (r : V → Hp → VK → Prop) : Prop :=
 ∀ (pins : List (Addr × Obj)) (s : Shared) (σ : St) (H : Hp) (x : V) (v : Value) (Q : VK), Inv X pins σ H s → RelV x v → r x H Q →
  wpAny (model X.prog X.w) X.A (f v) (EP X pins σ Q) X.xe s
def CallR (X : Cx) (f : Value) (r : List V → Hp → VK → Prop) : Prop :=
 ∀ (pins : List (Addr × Obj)) (s : Shared) (σ : St) (H : Hp) (xs : List V) (us : List Value) (Q : VK), Inv X pins σ H s → Vals xs us → r xs H Q →
  wpAny (model X.prog X.w) X.A (call f us) (EP X pins σ Q) X.xe s
def tOp (r : R2) (ta tb : TE) : TE := fun σ H Q => ta σ H fun x H1 => tb σ H1 fun y H2 => r x y H2 Q
def tUn (r : V → Hp → VK → Prop) (ta : TE) : TE := fun σ H Q => ta σ H fun x H1 => r x H1 Q
def rI (C : Int → Int → Prop) (g : Int → Int → V) : R2 := fun x y H Q => ∃ i j, x = .int i ∧ y = .int j ∧ C i j ∧ Q (g i j) H
def rI0 (g : Int → Int → V) : R2 := fun x y H Q => ∃ i j, x = .int i ∧ y = .int j ∧ Q (g i j) H
def rU (g : Int → V) : V → Hp → VK → Prop := fun x H Q => ∃ i, x = .int i ∧ Q (g i) H
section
variable {X : Cx} {a b c : Expr} {ta tb tc : TE} {pos : Pos}
theorem binT (ha : PE X a ta) (hb : PE X b tb) {pins : List (Addr × Obj)} {s : Shared} {σ : St} {H : Hp} {R : V → V → Hp → Prop} (I : Inv X pins σ H s)
 (h : ta σ H fun x H1 => tb σ H1 fun y H2 => R x y H2) {Q : Value → Shared → Prop} {f : Value → Value → Sem Value}
 (hf : ∀ v u s2 x y H2, Inv X pins σ H2 s2 → RelV x v → RelV y u → R x y H2 → wpAny (model X.prog X.w) X.A (f v u) Q X.xe s2) :
 wpAny (model X.prog X.w) X.A (eval a X.env) (fun v s₁ => wpAny (model X.prog X.w) X.A (eval b X.env) (fun u s₂ => wpAny (model X.prog X.w) X.A (f v u) Q X.xe s₂) X.xe s₁) X.xe s := by
 refine thn (ha pins s σ H _ I h) fun v s1 ⟨x, H1, I1, r1, q1⟩ => ?_
 refine thn (hb pins s1 σ H1 _ I1 q1) fun u s2 ⟨y, H2, I2, r2, q2⟩ => ?_
 exact hf v u s2 x y H2 I2 r1 r2 q2
theorem pe_op {op : Operator} {r : R2} (ho : OpR X (binaryOp op) r) (ha : PE X a ta) (hb : PE X b tb) : PE X (.BinOp a op b pos) (tOp r ta tb) := by
 intro pins s σ H Q I h
 exact wpAny_BinOp (binT ha hb I h fun v u s2 x y H2 I2 rx ry q => ho pins s2 σ H2 x y v u Q I2 rx ry q)
theorem pe_un {op : UnaryOp} {r : V → Hp → VK → Prop} (ho : UnR X (unaryOp op) r) (ha : PE X a ta) : PE X (.UnaryOp op a pos) (tUn r ta) := by
 intro pins s σ H Q I h
 exact UnaryOp_ (thn (ha pins s σ H _ I h) fun v s1 ⟨x, H1, I1, r1, q1⟩ => ho pins s1 σ H1 x v Q I1 r1 q1)
theorem opI {f : Value → Value → Sem Value} {C : Int → Int → Prop} {g : Int → Int → Int}
 (rule : ∀ (i j : Int) (t u : Tok) (s : Shared) (Q : Value → Shared → Prop) (E : Value → Shared → Prop), C i j → Q (.int (g i j) s.toks) { s with toks := s.toks + 1 } → wpAny (model X.prog X.w) X.A (f (.int i t) (.int j u)) Q E s) :
 OpR X f (rI C fun i j => .int (g i j)) := by
 intro pins s σ H x y v u Q I rx ry h
 obtain ⟨i, j, rfl, rfl, hc, q⟩ := h
 obtain ⟨t, rfl⟩ := rx
 obtain ⟨t', rfl⟩ := ry
 exact rule i j t t' s _ _ hc ⟨.int (g i j), H, I.tok _, ⟨_, rfl⟩, q⟩
theorem opI0 {f : Value → Value → Sem Value} {g : Int → Int → Int}
 (rule : ∀ (i j : Int) (t u : Tok) (s : Shared) (Q : Value → Shared → Prop) (E : Value → Shared → Prop), Q (.int (g i j) s.toks) { s with toks := s.toks + 1 } → wpAny (model X.prog X.w) X.A (f (.int i t) (.int j u)) Q E s) :
 OpR X f (rI0 fun i j => .int (g i j)) := by
 intro pins s σ H x y v u Q I rx ry h
 obtain ⟨i, j, rfl, rfl, q⟩ := h
 obtain ⟨t, rfl⟩ := rx
 obtain ⟨t', rfl⟩ := ry
 exact rule i j t t' s _ _ ⟨.int (g i j), H, I.tok _, ⟨_, rfl⟩, q⟩
theorem opB0 {f : Value → Value → Sem Value} {g : Int → Int → Bool}
 (rule : ∀ (i j : Int) (t u : Tok) (s : Shared) (Q : Value → Shared → Prop) (E : Value → Shared → Prop), Q (.bool (g i j)) s → wpAny (model X.prog X.w) X.A (f (.int i t) (.int j u)) Q E s) :
 OpR X f (rI0 fun i j => .bl (g i j)) := by
 intro pins s σ H x y v u Q I rx ry h
 obtain ⟨i, j, rfl, rfl, q⟩ := h
 obtain ⟨t, rfl⟩ := rx
 obtain ⟨t', rfl⟩ := ry
 exact rule i j t t' s _ _ ⟨.bl (g i j), H, I, rfl, q⟩
def CPow (i j : Int) : Prop := 0 ≤ j ∧ j ≤ 1000000 ∧ i.natAbs < 2 ^ 64
theorem op_add : OpR X (binaryOp .Add) (rI0 fun i j => .int (i + j)) := opI0 fun _ _ _ _ _ _ _ q => add_int q
theorem op_sub : OpR X (binaryOp .Sub) (rI0 fun i j => .int (i - j)) := opI0 fun _ _ _ _ _ _ _ q => sub_int q
theorem op_mod : OpR X (binaryOp .Mod) (rI (fun _ j => 0 < j) fun i j => .int (i % j)) := opI fun i j _ _ _ _ _ hc q => by
 have h1 : (0 : Int) < j := hc
 exact mod_int' (by omega) (by rw [Int.fmod_eq_emod_of_nonneg i (by omega)]; exact q)
theorem op_pow : OpR X (binaryOp .Pow) (rI CPow fun i j => .int (i ^ j.toNat)) := opI fun _ _ _ _ _ _ _ hc q => pow_int_small hc.1 hc.2.1 hc.2.2 q
theorem unI {f : Value → Sem Value} {g : Int → Int}
 (rule : ∀ (i : Int) (t : Tok) (s : Shared) (Q : Value → Shared → Prop) (E : Value → Shared → Prop), Q (.int (g i) s.toks) { s with toks := s.toks + 1 } → wpAny (model X.prog X.w) X.A (f (.int i t)) Q E s) :
 UnR X f (rU fun i => .int (g i)) := by
 intro pins s σ H x v Q I rx h
 obtain ⟨i, rfl, q⟩ := h
 obtain ⟨t, rfl⟩ := rx
 exact rule i t s _ _ ⟨.int (g i), H, I.tok _, ⟨_, rfl⟩, q⟩
theorem un_neg : UnR X (unaryOp .USub) (rU fun i => .int (-i)) := unI fun _ _ _ _ _ q => neg_int q
end
def scal : V → V → Bool
 | .non, .non => true | .non, .int _ => true | .int _, .non => true | .non, .bl _ => true | .bl _, .non => true | .non, .str _ => true | .str _, .non => true
 | .int _, .int _ => true | .bl _, .bl _ => true | .str _, .str _ => true | .byt _, .byt _ => true
 | .int _, .str _ => true | .str _, .int _ => true | .bl _, .str _ => true | .str _, .bl _ => true
 | _, _ => false
def rEq : R2 := fun x y H Q => scal x y = true ∧ Q (.bl (decide (x = y))) H
def rNe : R2 := fun x y H Q => scal x y = true ∧ Q (.bl (!decide (x = y))) H
theorem dec_int {i j : Int} : decide (V.int i = V.int j) = (i == j) := by
 rw [Bool.eq_iff_iff]
 simp
theorem dec_bl {i j : Bool} : decide (V.bl i = V.bl j) = (i == j) := by
 rw [Bool.eq_iff_iff]
 simp
theorem dec_str {i j : Str} : decide (V.str i = V.str j) = (i == j) := by
 rw [Bool.eq_iff_iff]
 simp
theorem dec_byt {i j : Array UInt8} : decide (V.byt i = V.byt j) = (i.toList == j.toList) := by
 rw [Bool.eq_iff_iff]
 cases i
 cases j
 simp
section
variable {X : Cx} {a b c : Expr} {ta tb tc : TE} {pos : Pos}
theorem fin_bl {pins : List (Addr × Obj)} {σ : St} {H : Hp} {s : Shared} {Q : VK} {k k' : Bool} (I : Inv X pins σ H s) (q : Q (.bl k) H) (e : k = k') : EP X pins σ Q (.bool k') s := by
 subst e
 exact ⟨.bl k, H, I, rfl, q⟩
theorem op_eq : OpR X (compareOp .Eq) rEq := by
 intro pins s σ H x y v u Q I rx ry h
 obtain ⟨hs, q⟩ := h
 cases x with
 | non =>
  cases rx
  cases y with
  | non => cases ry; exact PySem.EqNone.eq_none_none (fin_bl I q (by simp))
  | bl j => cases ry; exact PySem.EqNone.eq_none_bool (fin_bl I q (by simp))
  | int j => obtain ⟨t', rfl⟩ := ry; exact PySem.EqNone.eq_none_int (fin_bl I q (by simp))
  | str j => obtain ⟨t', rfl⟩ := ry; exact PySem.EqNone.eq_none_str (fin_bl I q (by simp))
  | _ => exact absurd (show false = true from hs) Bool.false_ne_true
 | bl i =>
  cases rx
  cases y with
  | non => cases ry; exact PySem.EqNone.eq_bool_none (fin_bl I q (by simp))
  | bl j => cases ry; exact eq_bool (fin_bl I q dec_bl)
  | str j => obtain ⟨t', rfl⟩ := ry; exact PySem.EqMixed.eq_bool_str (fin_bl I q (by simp))
  | _ => exact absurd (show false = true from hs) Bool.false_ne_true
 | int i =>
  obtain ⟨t, rfl⟩ := rx
  cases y with
  | non => cases ry; exact PySem.EqNone.eq_int_none (fin_bl I q (by simp))
  | int j => obtain ⟨t', rfl⟩ := ry; exact eq_int (fin_bl I q dec_int)
  | str j => obtain ⟨t', rfl⟩ := ry; exact PySem.EqMixed.eq_int_str (fin_bl I q (by simp))
  | _ => exact absurd (show false = true from hs) Bool.false_ne_true
 | str i =>
  obtain ⟨t, rfl⟩ := rx
  cases y with
  | non => cases ry; exact PySem.EqNone.eq_str_none (fin_bl I q (by simp))
  | bl j => cases ry; exact PySem.EqMixed.eq_str_bool (fin_bl I q (by simp))
  | int j => obtain ⟨t', rfl⟩ := ry; exact PySem.EqMixed.eq_str_int (fin_bl I q (by simp))
  | str j => obtain ⟨t', rfl⟩ := ry; exact eq_str (fin_bl I q dec_str)
  | _ => exact absurd (show false = true from hs) Bool.false_ne_true
 | byt i =>
  obtain ⟨t, rfl⟩ := rx
  cases y with
  | byt j => obtain ⟨t', rfl⟩ := ry; exact PySem.W.eq_bytes (fin_bl I q dec_byt)
  | _ => exact absurd (show false = true from hs) Bool.false_ne_true
 | _ => cases y <;> exact absurd (show false = true from hs) Bool.false_ne_true
theorem op_ne : OpR X (compareOp .NotEq) rNe := by
 intro pins s σ H x y v u Q I rx ry h
 obtain ⟨hs, q⟩ := h
 cases x with
 | non =>
  cases rx
  cases y with
  | non => cases ry; exact PySem.EqNone.ne_none_none (fin_bl I q (by simp))
  | bl j => cases ry; exact PySem.EqNone.ne_none_bool (fin_bl I q (by simp))
  | int j => obtain ⟨t', rfl⟩ := ry; exact PySem.EqNone.ne_none_int (fin_bl I q (by simp))
  | str j => obtain ⟨t', rfl⟩ := ry; exact PySem.EqNone.ne_none_str (fin_bl I q (by simp))
  | _ => exact absurd (show false = true from hs) Bool.false_ne_true
 | bl i =>
  cases rx
  cases y with
  | non => cases ry; exact PySem.EqNone.ne_bool_none (fin_bl I q (by simp))
  | bl j => cases ry; exact ne_bool (fin_bl I q (congrArg not dec_bl))
  | str j => obtain ⟨t', rfl⟩ := ry; exact PySem.EqMixed.ne_bool_str (fin_bl I q (by simp))
  | _ => exact absurd (show false = true from hs) Bool.false_ne_true
 | int i =>
  obtain ⟨t, rfl⟩ := rx
  cases y with
  | non => cases ry; exact PySem.EqNone.ne_int_none (fin_bl I q (by simp))
  | int j => obtain ⟨t', rfl⟩ := ry; exact ne_int (fin_bl I q (congrArg not dec_int))
  | str j => obtain ⟨t', rfl⟩ := ry; exact PySem.EqMixed.ne_int_str (fin_bl I q (by simp))
  | _ => exact absurd (show false = true from hs) Bool.false_ne_true
 | str i =>
  obtain ⟨t, rfl⟩ := rx
  cases y with
  | non => cases ry; exact PySem.EqNone.ne_str_none (fin_bl I q (by simp))
  | bl j => cases ry; exact PySem.EqMixed.ne_str_bool (fin_bl I q (by simp))
  | int j => obtain ⟨t', rfl⟩ := ry; exact PySem.EqMixed.ne_str_int (fin_bl I q (by simp))
  | str j => obtain ⟨t', rfl⟩ := ry; exact ne_str (fin_bl I q (congrArg not dec_str))
  | _ => exact absurd (show false = true from hs) Bool.false_ne_true
 | byt i =>
  obtain ⟨t, rfl⟩ := rx
  cases y with
  | byt j => obtain ⟨t', rfl⟩ := ry; exact PySem.W.ne_bytes (fin_bl I q (congrArg not dec_byt))
  | _ => exact absurd (show false = true from hs) Bool.false_ne_true
 | _ => cases y <;> exact absurd (show false = true from hs) Bool.false_ne_true
theorem op_lt : OpR X (compareOp .Lt) (rI0 fun i j => .bl (decide (i < j))) := opB0 fun _ _ _ _ _ _ _ q => lt_int q
theorem op_le : OpR X (compareOp .LtE) (rI0 fun i j => .bl (decide (i ≤ j))) := opB0 fun _ _ _ _ _ _ _ q => le_int q
theorem op_gt : OpR X (compareOp .Gt) (rI0 fun i j => .bl (decide (j < i))) := opB0 fun _ _ _ _ _ _ _ q => gt_int q
theorem op_ge : OpR X (compareOp .GtE) (rI0 fun i j => .bl (decide (j ≤ i))) := opB0 fun _ _ _ _ _ _ _ q => ge_int q
theorem op_isN : OpR X (compareOp .Is) (fun x y H Q => y = .non ∧ Q (.bl (decide (x = .non))) H) := by
 intro pins s σ H x y v u Q I rx ry h
 obtain ⟨rfl, q⟩ := h
 cases ry
 refine is_none_gen (fin_bl I q ?_)
 cases x <;> first
  | (cases rx; rfl)
  | (obtain ⟨t, rfl⟩ := rx; rfl)
theorem op_notN : OpR X (compareOp .IsNot) (fun x y H Q => y = .non ∧ Q (.bl (!decide (x = .non))) H) := by
 intro pins s σ H x y v u Q I rx ry h
 obtain ⟨rfl, q⟩ := h
 cases ry
 refine isnot_none_gen (fin_bl I q ?_)
 cases x <;> first
  | (cases rx; rfl)
  | (obtain ⟨t, rfl⟩ := rx; rfl)
theorem OpR.or {f : Value → Value → Sem Value} {r r' : R2} (h : OpR X f r) (h' : OpR X f r') : OpR X f (fun x y H Q => r x y H Q ∨ r' x y H Q) := by
 intro pins s σ H x y v u Q I rx ry q
 rcases q with q | q
 · exact h pins s σ H x y v u Q I rx ry q
 · exact h' pins s σ H x y v u Q I rx ry q
theorem nomark (b : Expr) {op : CmpOp} (h : op ≠ .In := by decide) (h2 : op ≠ .NotIn := by decide) : behindInMarks op b = false := by
 have e1 : (op == CmpOp.In) = false := by cases op <;> first | rfl | exact absurd rfl h
 have e2 : (op == CmpOp.NotIn) = false := by cases op <;> first | rfl | exact absurd rfl h2
 cases b <;> simp [behindInMarks, e1, e2]
theorem pe_cmpR {op : CmpOp} {r : R2} (ho : OpR X (compareOp op) r) (ha : PE X a ta) (hb : PE X b tb) (hm : behindInMarks op b = false) : PE X (.Compare a [op] [b] pos) (tOp r ta tb) := by
 intro pins s σ H Q I h
 exact wpAny_Compare1 (binT ha hb I h fun v u s2 x y H2 I2 rx ry q => ho pins s2 σ H2 x y v u Q I2 rx ry q) hm
def tTest (t : TE) : TT := fun σ H Q => t σ H fun x H' => ∃ k, x = .bl k ∧ Q k H'
theorem pt_cmpR {op : CmpOp} {r : R2} (ho : OpR X (compareOp op) r) (ha : PE X a ta) (hb : PE X b tb) (hm : behindInMarks op b = false) : PT X (.Compare a [op] [b] pos) (tTest (tOp r ta tb)) := by
 intro pins s σ H Q I h
 refine wpAny_isTrue_Compare1 (thn (ha pins s σ H _ I h) fun v s1 ⟨x, H1, I1, r1, q1⟩ => thn (hb pins s1 σ H1 _ I1 q1) fun u s2 ⟨y, H2, I2, r2, q2⟩ =>
  thn (ho pins s2 σ H2 x y v u _ I2 r1 r2 q2) fun c s3 ⟨z, H3, I3, r3, k, e, q3⟩ => ?_) hm
 subst e
 cases r3
 exact wpAny_truthy_bool ⟨H3, I3, q3⟩
def tChain (r r' : R2) (ta tb tc : TE) : TE := fun σ H Q => ta σ H fun x H1 => tb σ H1 fun y H2 => r x y H2 fun z H3 => ∃ k, z = .bl k ∧
 (if k = true then tc σ H3 fun w' H4 => r' y w' H4 Q else Q (.bl false) H3)
theorem pe_chain {op op' : CmpOp} {r r' : R2} (ho : OpR X (compareOp op) r) (ho' : OpR X (compareOp op') r') (ha : PE X a ta) (hb : PE X b tb) (hc : PE X c tc)
 (hm : lastMarks [op, op'] [b, c] = false := by with_unfolding_all rfl) : PE X (.Compare a [op, op'] [b, c] pos) (tChain r r' ta tb tc) := by
 intro pins s σ H Q I h
 refine Compare_chain (thn (ha pins s σ H _ I h) fun v s1 ⟨x, H1, I1, r1, q1⟩ => chain_link (thn (hb pins s1 σ H1 _ I1 q1) fun u s2 ⟨y, H2, I2, r2, q2⟩ =>
  thn (ho pins s2 σ H2 x y v u _ I2 r1 r2 q2) fun d s3 ⟨z, H3, I3, r3, k, e, q3⟩ => ?_)) hm
 subst e
 cases r3
 refine wpAny_truthy_bool ?_
 cases k with
 | false => exact ite_ff ⟨.bl false, H3, I3, rfl, q3⟩
 | true => exact ite_tt (chain_last (thn (hc pins s3 σ H3 _ I3 q3) fun w' s4 ⟨z', H4, I4, r4, q4⟩ => ho' pins s4 σ H4 y z' u w' Q I4 r2 r4 q4))
theorem pt_chain {op op' : CmpOp} {r r' : R2} (ho : OpR X (compareOp op) r) (ho' : OpR X (compareOp op') r') (ha : PE X a ta) (hb : PE X b tb) (hc : PE X c tc)
 (hm : lastMarks [op, op'] [b, c] = false := by with_unfolding_all rfl) : PT X (.Compare a [op, op'] [b, c] pos) (tTest (tChain r r' ta tb tc)) := by
 intro pins s σ H Q I h
 refine isTrue_chain (thn (ha pins s σ H _ I h) fun v s1 ⟨x, H1, I1, r1, q1⟩ => test_link (thn (hb pins s1 σ H1 _ I1 q1) fun u s2 ⟨y, H2, I2, r2, q2⟩ =>
  thn (ho pins s2 σ H2 x y v u _ I2 r1 r2 q2) fun d s3 ⟨z, H3, I3, r3, k, e, q3⟩ => ?_)) hm
 subst e
 cases r3
 refine wpAny_truthy_bool ?_
 cases k with
 | false =>
  obtain ⟨k', e', q'⟩ := q3
  cases e'
  exact ite_ff ⟨H3, I3, q'⟩
 | true =>
  refine ite_tt (test_last (thn (hc pins s3 σ H3 _ I3 q3) fun w' s4 ⟨z', H4, I4, r4, q4⟩ => thn (ho' pins s4 σ H4 y z' u w' _ I4 r2 r4 q4) fun d' s5 ⟨z2, H5, I5, r5, k2, e2, q5⟩ => ?_))
  subst e2
  cases r5
  exact wpAny_truthy_bool ⟨H5, I5, q5⟩
theorem line63 : (sizeLine : Nat) < 2 ^ 63 := by rw [sizeLine_eq]; decide
theorem vals1 {x : V} {us : List Value} (r : Vals [x] us) : ∃ u, us = [u] ∧ RelV x u := by
 cases r with
 | cons r1 r2 => cases r2; exact ⟨_, rfl, r1⟩
theorem vals2 {x y : V} {us : List Value} (r : Vals [x, y] us) : ∃ u w', us = [u, w'] ∧ RelV x u ∧ RelV y w' := by
 cases r with
 | cons r1 r2 =>
  cases r2 with
  | cons r3 r4 => cases r4; exact ⟨_, _, rfl, r1, r3⟩
theorem call_max2 (hc : X.calm = true) : CallR X (.builtin "max") (fun xs H Q => ∃ i j, xs = [.int i, .int j] ∧ Q (.int (if j > i then j else i)) H) := by
 intro pins s σ H xs us Q I r h
 obtain ⟨i, j, rfl, q⟩ := h
 obtain ⟨u, w', rfl, ⟨t, rfl⟩, ⟨t', rfl⟩⟩ := vals2 r
 refine max_two_ints (I.ok.hd hc) fun h' tk k => ⟨_, H, I.kept k, ?_, q⟩
 by_cases hj : j > i
 · rw [if_pos hj, if_pos hj]; exact ⟨_, rfl⟩
 · rw [if_neg hj, if_neg hj]; exact ⟨_, rfl⟩
theorem call_min2 (hc : X.calm = true) : CallR X (.builtin "min") (fun xs H Q => ∃ i j, xs = [.int i, .int j] ∧ Q (.int (if j < i then j else i)) H) := by
 intro pins s σ H xs us Q I r h
 obtain ⟨i, j, rfl, q⟩ := h
 obtain ⟨u, w', rfl, ⟨t, rfl⟩, ⟨t', rfl⟩⟩ := vals2 r
 refine min_two_ints (I.ok.hd hc) fun h' tk k => ⟨_, H, I.kept k, ?_, q⟩
 by_cases hj : j < i
 · rw [if_pos hj, if_pos hj]; exact ⟨_, rfl⟩
 · rw [if_neg hj, if_neg hj]; exact ⟨_, rfl⟩
end
structure ObjM (h : Heap) (x dx C : Addr) (mA : Str → Option Value) : Prop where
 obj : h.get? x = some (PySem.W.instObj C dx)
 ns : h.Ns1 dx mA
 ne : dx ≠ x
theorem lookIn_ns {h : Heap} {dx : Addr} {mA : Str → Option Value} (n : h.Ns1 dx mA) : ∃ od, h.get? dx = some od ∧ ∀ name, PySem.W.lookIn name od = some (mA name) := by
 obtain ⟨o, es, ep, ho, hd, hk, _, hm⟩ := n
 refine ⟨o, ho, fun name => ?_⟩
 have e := hm name
 unfold nsFind findBy at e
 rw [← Array.find?_toList] at e
 unfold PySem.W.lookIn
 rw [hd]
 dsimp only
 split
 · rename_i y q
   rw [q] at e
   exact congrArg some e
 · rename_i q
   rw [q] at e
   have a : es.toList.any (·.refKey) = false := by
    rw [List.any_eq_false]
    intro y hy
    obtain ⟨z, t, hkey⟩ := hk y (Array.mem_toList_iff.mp hy)
    simp [DictEntry.refKey, hkey]
   have a' : ¬ es.toList.any (·.refKey) = true := by rw [a]; exact Bool.false_ne_true
   rw [if_neg a']
   exact congrArg some e
theorem ObjM.look {h : Heap} {x dx C : Addr} {mA : Str → Option Value} (I : ObjM h x dx C mA) : ∃ od, PySem.W.InstAt h x (PySem.W.instObj C dx) C (some od) ∧ ∀ name, PySem.W.lookIn name od = some (mA name) :=
 let ⟨od, ho, hl⟩ := lookIn_ns I.ns
 ⟨od, ⟨I.obj, rfl, rfl, ho⟩, hl⟩
theorem RelO.some_of {v : V} {o : Option Value} (r : RelO (some v) o) : ∃ u, o = some u ∧ RelV v u := by
 cases o with
 | none => exact (show False from r).elim
 | some u => exact ⟨u, rfl, r⟩
section
variable {P : Program} {w : World} {H H' : Hp} {h h' : Heap} {a C dx : Addr} {fs fs' : List (Str × V)}
theorem ins_get (hok : HOk P w H h) (e : H a = some (.ins C dx fs)) : ∃ mA, ObjM h a dx C mA ∧ (∀ f, RelO (fs.lookup f) (mA f)) ∧ PySem.Within mA (fs.map (·.1)) ∧ fs.length ≤ 1000 ∧ H dx = some (.own a) := by
 obtain ⟨d, z, ne, ob, mA, n, r, q⟩ := (show ObjOk P w H h a (.ins C dx fs) from hok a _ e)
 exact ⟨mA, ⟨ob, n, ne⟩, r, q, z, d⟩
end
structure Cls (K : PySem.W.Frag) (C : Addr) : Prop where
 pg : PySem.W.plainGet K C Str.empty = true
 hd : PySem.W.hasDictIn K C = true
 po : PySem.W.plainOver K C = true
 sa : PySem.W.findIn K (.ref C) "__setattr__" = some (some (.builtin "object.__setattr__"))
theorem Cls.get {K : PySem.W.Frag} {C : Addr} (c : Cls K C) (f : Str) : PySem.W.plainGet K C f = true := c.pg
section
variable {X : Cx} {pins : List (Addr × Obj)} {σ : St} {H : Hp} {s : Shared} {A : Around} {E : Value → Shared → Prop} {Q : Value → Shared → Prop} {c : Value} {b : Bool}
inductive TyOf (K : PySem.W.Frag) (H : Hp) : V → Value → Prop where
 | non : TyOf K H .non (.type "NoneType")
 | bl (x : Bool) : TyOf K H (.bl x) (.type "bool")
 | int (i : Int) : TyOf K H (.int i) (.type "int")
 | str (x : Str) : TyOf K H (.str x) (.type "str")
 | flt (x : UInt64) : TyOf K H (.flt x) (.type "float")
 | lst {a : Addr} {xs : List V} (e : H a = some (.lst xs)) : TyOf K H (.ref a) (.type "list")
 | frz {a : Addr} {o : Obj} {xs : List V} (e : H a = some (.frz o (.lst xs))) : TyOf K H (.ref a) (.type "list")
 | tup {a : Addr} {xs : List V} (e : H a = some (.tup xs)) : TyOf K H (.ref a) (.type "tuple")
 | dK {a : Addr} {kvs : List (Key × V)} (e : H a = some (.dK kvs)) : TyOf K H (.ref a) (.type "dict")
 | dT {a : Addr} {kvs : List (List Key × V)} (e : H a = some (.dT kvs)) : TyOf K H (.ref a) (.type "dict")
 | ins {a C dx : Addr} {fs : List (Str × V)} (e : H a = some (.ins C dx fs)) (cl : Cls K C) (ha : PySem.W.findIn K (.ref C) "__class__" = some (some (.builtin "object.__class__")))
  (hn : PySem.W.specialIn K (.builtin "object.__class__") "__get__" = some (some (.builtin "getset_descriptor.__get__"))) (htk : PySem.W.takesIn K (.builtin "object.__class__") = some true)
  (hm : PySem.W.mroIn K C (.type "object") = some true) : TyOf K H (.ref a) (.ref C)
theorem isinst_ok {x : V} {u t : Value} (I : Inv X pins σ H s) (rx : RelV x u) (ty : TyOf X.K H x t) (e : PySem.W.kitOne X.K t c = some b) (h : ∀ tk, Q (.bool b) { s with toks := tk }) :
 wpAny (model X.prog X.w) A (call (.builtin "isinstance") [u, c]) Q E s := by
 cases ty with
 | non => cases (show u = Value.none from rx); exact PySem.W.kia_one PySem.W.kitx_none I.kIn True.intro e (fun z => nomatch z) h
 | bl y => cases (show u = Value.bool y from rx); exact PySem.W.kia_one PySem.W.kitx_bool I.kIn True.intro e (fun z => nomatch z) h
 | int i => obtain ⟨t, q⟩ := (show ∃ t, u = Value.int i t from rx); cases q; exact PySem.W.kia_one PySem.W.kitx_int I.kIn True.intro e (fun z => nomatch z) h
 | str y => obtain ⟨t, q⟩ := (show ∃ t, u = Value.str y t from rx); cases q; exact PySem.W.kia_one PySem.W.kitx_str I.kIn True.intro e (fun z => nomatch z) h
 | flt y => obtain ⟨t, q⟩ := (show ∃ t, u = Value.float y t from rx); cases q; exact PySem.W.kia_one PySem.W.kitx_float I.kIn True.intro e (fun z => nomatch z) h
 | @lst a xs ea =>
  cases (show u = Value.ref a from rx)
  obtain ⟨_, _, n, _, h1⟩ := (show ObjOk X.prog X.w H s.heap a (.lst xs) from I.hok a _ ea)
  exact PySem.W.kia_one PySem.W.kitx_list I.kIn ⟨_, h1, rfl⟩ e (fun z => nomatch z) h
 | @frz a ob xs ea =>
  cases (show u = Value.ref a from rx)
  obtain ⟨_, _, _, n, _, h1⟩ := (show ObjOk X.prog X.w H s.heap a (.frz ob (.lst xs)) from I.hok a _ ea)
  exact PySem.W.kia_one PySem.W.kitx_list I.kIn ⟨_, h1, rfl⟩ e (fun z => nomatch z) h
 | @tup a xs ea =>
  cases (show u = Value.ref a from rx)
  obtain ⟨_, _, _, p⟩ := (show ObjOk X.prog X.w H s.heap a (.tup xs) from I.hok a _ ea)
  obtain ⟨o, h1, h2, _⟩ := p
  exact PySem.W.kia_one PySem.W.kitx_tuple I.kIn ⟨o, h1, h2⟩ e (fun z => nomatch z) h
 | @dK a kvs ea =>
  cases (show u = Value.ref a from rx)
  obtain ⟨_, _, vs, _, p⟩ := (show ObjOk X.prog X.w H s.heap a (.dK kvs) from I.hok a _ ea)
  obtain ⟨o, es, ep, h1, h2, _⟩ := p
  exact PySem.W.kia_one PySem.W.kitx_dict I.kIn ⟨o, h1, h2.1⟩ e (fun z => nomatch z) h
 | @dT a kvs ea =>
  cases (show u = Value.ref a from rx)
  obtain ⟨_, _, xs, _, o, es, ep, h1, h2, _⟩ := (show ObjOk X.prog X.w H s.heap a (.dT kvs) from I.hok a _ ea)
  exact PySem.W.kia_one PySem.W.kitx_dict I.kIn ⟨o, h1, h2.1⟩ e (fun z => nomatch z) h
 | @ins a C dx fs ea cl ha hn htk hm =>
  cases (show u = Value.ref a from rx)
  obtain ⟨mA, O, _⟩ := ins_get I.hok ea
  obtain ⟨od, J, _⟩ := O.look
  exact PySem.W.kia_one (PySem.W.kitx_own (cl.get _) cl.hd ha hn htk hm) I.kIn J e (fun z => nomatch z) h
end
structure Room (k : Nat) (A : Around) : Prop where
 hd : A.handled = none
 dp : A.depth + 3 * k + 5 < recursionLimit
 un : A.units + 16 * k + 200 < cLine
theorem Room.mono {j k : Nat} {A : Around} (r : Room k A) (h : j ≤ k) : Room j A := ⟨r.hd, by have := r.dp; omega, by have := r.un; omega⟩
theorem Room.deeper {k : Nat} {A : Around} (r : Room (k + 1) A) (env : Env) : Room k (A.deeper env) :=
 ⟨r.hd, by have := r.dp; show A.depth + 1 + 3 * k + 5 < _; omega, by have := r.un; show A.units + 3 + 16 * k + 200 < _; omega⟩
theorem Room.depth {k : Nat} {A : Around} (r : Room k A) : A.depth < recursionLimit := by have := r.dp; omega
def tNil : TA := fun _ H Q => Q [] H
def tCons (ta : TE) (tr : TA) : TA := fun σ H Q => ta σ H fun x H1 => tr σ H1 fun xs H2 => Q (x :: xs) H2
section
variable {X : Cx} {e : Expr} {es : List Expr} {te : TE} {t : TA} {pos : Pos}
theorem pa_nil : PA X [] tNil := fun _ _ _ _ H Q I h => Calls.spliced_nil ⟨[], H, I, .nil, h⟩
theorem pa_cons (ha : PE X e te) (hr : PA X es t) (hs : starEach (e :: es) X.env = (false, eval e X.env) :: starEach es X.env := by rfl) : PA X (e :: es) (tCons te t) := by
 intro pos pins s σ H Q I h
 rw [hs]
 show wpAny _ _ (spliced ((false, eval e X.env) :: backTo pos (starEach es X.env))) _ _ s
 refine Calls.spliced_cons (thn (ha pins s σ H _ I h) fun u s1 ⟨x, H1, I1, r1, q1⟩ => ?_)
 exact thn (hr pos pins s1 σ H1 _ I1 q1) fun us s2 ⟨xs, H2, I2, r2, q2⟩ => ⟨x :: xs, H2, I2, .cons r1 r2, q2⟩
end
abbrev Sp := List V → Hp → VK → XK → Prop
abbrev CXT := List Env → Hp → Shared → XK → Value → Shared → Prop
structure Env0 (P : Program) (w : World) (K : PySem.W.Frag) (mg : Str → Option Value) (base : Heap) (A : Around) (outer : List Env) (s : Shared) (H : Hp) : Prop where
 frames : A.frames = some outer
 mod : Mod K mg base
 bs : ∀ b o, base.get? b = some o → s.heap.get? b = some o ∧ H b = none
 bsz : base.objs.size ≤ s.heap.objs.size
 funs : s.heap.FunFrames base outer
 frf : ∀ b ∈ frs outer, H b = none
 hok : HOk P w H s.heap
 bare : AllBare s.gens
def CE (outer : List Env) (P : Program) (w : World) (H : Hp) (s : Shared) (Q : VK) (u : Value) (s' : Shared) : Prop :=
 ∃ v H', s'.os = s.os ∧ AllBare s'.gens ∧ Un (frs outer) [] H H' s.heap s'.heap ∧ HOk P w H' s'.heap ∧ RelV v u ∧ Q v H'
def CR (CX : CXT) (outer : List Env) (P : Program) (w : World) (H : Hp) (s : Shared) (Q : VK) (E : XK) (r : Result) (s' : Shared) : Prop :=
 match r with
 | .ok (.ret u) => CE outer P w H s Q u s'
 | .ok _ => False
 | .error e => CX outer H s E e s'
structure FnOk (P : Program) (w : World) (K : PySem.W.Frag) (mg : Str → Option Value) (base : Heap) (CX : CXT) (k : Nat) (f : Addr) (fd : FuncData) (ps : List Str) (sp : Sp) : Prop where
 len : ∀ vs H Q E, sp vs H Q E → vs.length = ps.length
 run : ∀ (A : Around) (outer : List Env) (s : Shared) (H : Hp) (args : Args) (us : List Value) (vs : List V) (Q : VK) (E : XK), Room k A → Env0 P w K mg base A outer s H → BindsTo s fd args (ps.zip us) → Vals vs us → sp vs H Q E →
  codeAny (model P w) A (.call (.ref f) args) (CR CX outer P w H s Q E) s
section
variable {X : Cx} {pins : List (Addr × Obj)} {σ : St} {H : Hp} {s s' : Shared}
theorem Inv.env0 (I : Inv X pins σ H s) : Env0 X.prog X.w X.K X.mg X.base X.A X.stack s H :=
 ⟨I.ok.frames, I.ok.mod, I.bs, Nat.le_trans I.ok.bsz I.sz, I.stack, I.stkFree, I.hok, I.bare⟩
theorem Inv.after {Q : VK} {u : Value} (I : Inv X pins σ H s) (h : CE X.stack X.prog X.w H s Q u s') : EP X pins σ Q u s' := by
 obtain ⟨v, H', os, bare, un, hok, r, q⟩ := h
 obtain ⟨hh, g, d, t, os'⟩ := s'
 obtain rfl : os' = s.os := os
 exact ⟨v, H', I.call (h' := hh) (g' := g) (d' := d) (t' := t) (ch := []) un hok bare (fun b z => absurd z (by simp)), r, q⟩
end
def tCall (sp : Sp) (dvs : List V) (E : XK) (t : TA) : TE := fun σ H Q => t σ H fun vs H1 => sp (vs ++ dvs) H1 Q E
def Binds (K : PySem.W.Frag) (fd : FuncData) (ps : List Str) (ds : List Value) : Prop :=
 ∀ (s : Shared) (us : List Value), K.In s.heap → (us ++ ds).length = ps.length → BindsTo s fd ⟨us, []⟩ (ps.zip (us ++ ds))
theorem Binds.all {K : PySem.W.Frag} {fd : FuncData} {ps : List Str} (h : ∀ us : List Value, us.length = ps.length → bindArgs fd ⟨us, []⟩ = pure (ps.zip us)) : Binds K fd ps [] := fun s us _ hl => by
 rw [List.append_nil] at hl ⊢
 exact .of_eq (h us hl)
def Passes (CX : CXT) (X : Cx) (E : XK) : Prop := ∀ (pins : List (Addr × Obj)) (σ : St) (H : Hp) (s : Shared) (e : Value) (s' : Shared), Inv X pins σ H s → CX X.stack H s E e s' → X.xe e s'
section
variable {X : Cx} {CX : CXT} {k : Nat} {f C : Addr} {fd : FuncData} {ps : List Str} {sp : Sp} {dvs : List V} {ds : List Value} {E : XK} {x m : Str} {p pos apos : Pos} {e o : Expr} {es : List Expr} {ta : TE} {t : TA}
theorem run_fn {pins : List (Addr × Obj)} {σ : St} {H : Hp} {s : Shared} {Q : VK} {us : List Value} {vs : List V} (F : FnOk X.prog X.w X.K X.mg X.base CX k f fd ps sp) (hr : Room k X.A) (hb : Binds X.K fd ps ds) (hd : Vals dvs ds) (hx : Passes CX X E)
 (I : Inv X pins σ H s) (r : Vals vs us) (h : sp (vs ++ dvs) H Q E) : wpAny (model X.prog X.w) X.A (call (.ref f) us) (EP X pins σ Q) X.xe s := by
 have r2 : Vals (vs ++ dvs) (us ++ ds) := r.append hd
 have hl : (us ++ ds).length = ps.length := by rw [← r2.length]; exact F.len _ _ _ _ h
 refine wpAny_call (codeAny_mono (F.run X.A X.stack s H ⟨us, []⟩ (us ++ ds) (vs ++ dvs) Q E hr I.env0 (hb s us I.kIn hl) r2 h) fun r s' hq => ?_)
 cases r with
 | error e => exact hx pins σ H s e s' I hq
 | ok fl =>
  cases fl with
  | ret u => exact I.after hq
  | next => exact False.elim hq
  | brk => exact False.elim hq
  | cont => exact False.elim hq
theorem pe_call (F : FnOk X.prog X.w X.K X.mg X.base CX k f fd ps sp) (hr : Room k X.A) (hg : Gl X x) (hm : X.mg x = some (.ref f)) (hk : PySem.W.keepIn X.K (.ref f) = true) (hb : Binds X.K fd ps ds) (hd : Vals dvs ds) (hx : Passes CX X E)
 (ha : PA X (e :: es) t) (hdb : (x == ("__debug__" : Str)) = false := by decide) (he : starEach (e :: es) X.env = (false, eval e X.env) :: starEach es X.env := by rfl) (hpl : (backTo pos (starEach es X.env)).any (·.1) = false := by rfl) :
 PE X (.Call (.Name x p) (e :: es) [] pos) (tCall sp dvs E t) := by
 intro pins s σ H Q I h
 refine wpAny_Call_Name_kw (ld_glob I hg hm ?_ hdb)
 refine PySem.W.callWith_K (h₀ := X.base) I.ok.mod.kin hk (thn (ha pos pins s σ H _ I h) fun us s1 ⟨vs, H1, I1, r, q⟩ => ⟨I1.kIn, ?_⟩) he hpl
 exact run_fn F hr hb hd hx I1 r q
end
structure FnScope (N P : List Str) (sc : Scope) : Prop where
 kind : sc.kind = .function
 co : sc.isCoroutine = false
 gen : sc.isGenerator = false
 nd : N.Nodup
 pre : N.take P.length = P
 par : ∀ x ∈ P, sc.names.lookup x = some .local ∨ sc.names.lookup x = some .cell
 nofree : ∀ y ∈ sc.names, y.2 ≠ .free
theorem bindL_out {kindOf : Str → Option NameKind} {x : Str} : ∀ {binds : List (Str × Value)} {m : Str → Option Value}, (∀ v, (x, v) ∉ binds) → bindL kindOf binds m x = m x
 | [], _, _ => rfl
 | (n, v) :: r, m, h => by
  unfold bindL
  rw [bindL_out fun w hw => h w (List.mem_cons_of_mem _ hw)]
  split
  · have : x ≠ n := by rintro rfl; exact h v List.mem_cons_self
    simp [this]
  · rfl
theorem bindC_out {kindOf : Str → Option NameKind} {x : Str} : ∀ {binds : List (Str × Value)} {m : Str → Option Value}, (∀ v, (x, v) ∉ binds) → bindC kindOf binds m x = m x
 | [], _, _ => rfl
 | (n, v) :: r, m, h => by
  unfold bindC
  rw [bindC_out fun w hw => h w (List.mem_cons_of_mem _ hw)]
  split
  · rfl
  · have : x ≠ n := by rintro rfl; exact h v List.mem_cons_self
    simp [this]
theorem bindL_get {kindOf : Str → Option NameKind} {x : Str} {v : Value} : ∀ {P : List Str} {vs : List Value} {i : Nat} {m : Str → Option Value}, P.Nodup → P[i]? = some x → vs[i]? = some v → kindOf x = some .local →
 bindL kindOf (P.zip vs) m x = some v
 | [], _, _, _, _, h, _, _ => by simp at h
 | _ :: _, [], _, _, _, _, h, _ => by simp at h
 | p :: P, w :: vs, 0, m, nd, h1, h2, hk => by
  simp at h1 h2; subst h1; subst h2
  show bindL kindOf ((p, w) :: P.zip vs) m p = _
  unfold bindL
  rw [bindL_out fun v hv => (List.nodup_cons.mp nd).1 (List.of_mem_zip hv).1, if_pos hk]
  simp
 | p :: P, w :: vs, i + 1, m, nd, h1, h2, hk => by
  show bindL kindOf ((p, w) :: P.zip vs) m x = _
  unfold bindL
  exact bindL_get (i := i) (List.nodup_cons.mp nd).2 (by simpa using h1) (by simpa using h2) hk
theorem bindC_get {kindOf : Str → Option NameKind} {x : Str} {v : Value} : ∀ {P : List Str} {vs : List Value} {i : Nat} {m : Str → Option Value}, P.Nodup → P[i]? = some x → vs[i]? = some v → kindOf x ≠ some .local →
 bindC kindOf (P.zip vs) m x = some v
 | [], _, _, _, _, h, _, _ => by simp at h
 | _ :: _, [], _, _, _, _, h, _ => by simp at h
 | p :: P, w :: vs, 0, m, nd, h1, h2, hk => by
  simp at h1 h2; subst h1; subst h2
  show bindC kindOf ((p, w) :: P.zip vs) m p = _
  unfold bindC
  rw [bindC_out fun v hv => (List.nodup_cons.mp nd).1 (List.of_mem_zip hv).1, if_neg hk]
  simp
 | p :: P, w :: vs, i + 1, m, nd, h1, h2, hk => by
  show bindC kindOf ((p, w) :: P.zip vs) m x = _
  unfold bindC
  exact bindC_get (i := i) (List.nodup_cons.mp nd).2 (by simpa using h1) (by simpa using h2) hk
def start (N : List Str) (vs : List V) : St := vs.map some ++ List.replicate (N.length - vs.length) none
def cxOf (CX : CXT) (P : Program) (w : World) (K : PySem.W.Frag) (mg : Str → Option Value) (base : Heap) (N : List Str) (qual : Str) (scope : Scope) (f : Addr) (cd : Value) (A : Around) (outer : List Env) (s : Shared) (H : Hp) (E : XK) : Cx where
 prog := P
 w := w
 K := K
 mg := mg
 base := base
 A := A.deeper (envOfC qual scope s.heap.objs.size f cd)
 N := N
 s₀ := s
 H₀ := H
 env := envOfC qual scope s.heap.objs.size f cd
 outer := outer
 stack := envOfC qual scope s.heap.objs.size f cd :: outer
 ex := []
 calm := true
 fn := fun _ => true
 pn := []
 xe := fun e s' => wpAny (model P w) (A.deeper (envOfC qual scope s.heap.objs.size f cd)) (leaving (envOfC qual scope s.heap.objs.size f cd) e) (fun _ s'' => CX outer H s E e s'') (fun e' s'' => CX outer H s E e' s'') s'
theorem cell_has {sc : Scope} {n : Nat} {x : Str} (h : sc.names.lookup x = some .cell) : ∃ c, (cellsFrom n sc.names []).lookup x = some c := by
 have q := PySem.W.cellsFrom_some sc.names n [] (.inl h)
 exact Option.isSome_iff_exists.mp q
theorem inv_start {CX : CXT} {P : Program} {w : World} {K : PySem.W.Frag} {mg : Str → Option Value} {base : Heap} {N ps : List Str} {qual : Str} {scope : Scope} {f : Addr} {cd : Value} {A : Around} {outer : List Env} {s s1 : Shared} {H : Hp} {E : XK} {us : List Value} {vs : List V}
 (S : FnScope N ps scope) (hd : A.handled = none) (e0 : Env0 P w K mg base A outer s H) (hl : vs.length = ps.length) (r : Vals vs us)
 (x : InCallC s s.heap.objs.size (bindL (envOfC qual scope s.heap.objs.size f cd).kindOf (ps.zip us) fun _ => none) (cellsFrom (s.heap.objs.size + 1) scope.names []) (bindC (envOfC qual scope s.heap.objs.size f cd).kindOf (ps.zip us) fun _ => none) s1) :
 Inv (cxOf CX P w K mg base N qual scope f cd A outer s H E) [] (start N vs) H s1 := by
 have hpl : ps.length ≤ N.length := by have := congrArg List.length S.pre; rw [List.length_take] at this; omega
 obtain ⟨h1, tk, rfl, hk⟩ := x.done
 have noA : ∀ b : Addr, b ∉ (cxOf CX P w K mg base N qual scope f cd A outer s H E).ex := fun b z => absurd (show b ∈ ([] : List Addr) from z) (by simp)
 refine ⟨⟨e0.mod, S.kind, rfl, rfl, Nat.le_refl _, fun y z c h1 h2 => ?_, fun y hy => ?_, fun y c _ h => ?_, fun _ => hd, Around.frames_deeper e0.frames, .inr ⟨rfl, rfl⟩, fun b z => absurd z (noA b), e0.bs, e0.bsz, fun b _ _ => noA b, fun b z => absurd z (noA b), e0.funs, e0.frf⟩,
  rfl, e0.bare, Un.kept hk, ⟨_, x.toInCall.ns, fun i y v h1 h2 h3 => ?_⟩, fun y c h => ⟨_, x.cell y c h⟩, e0.hok.fresh (Nat.le_refl _), fun y c h => ?_, fun p hp => absurd (show p ∈ ([] : List (Addr × Obj)) from hp) (by simp), e0.hok.kept hk, ?_⟩
 · exact name_of_addr x.apart (PySem.mem_of_lookup h1) (PySem.mem_of_lookup h2)
 · have hy : scope.names.lookup y = some .cell ∨ scope.names.lookup y = some .free := hy
   rcases hy with hy | hy
   · exact cell_has hy
   · exact absurd rfl (S.nofree _ (PySem.mem_of_lookup hy))
 · exact Nat.le_of_lt (x.above y c (PySem.mem_of_lookup h))
 · have hi : i < vs.length := by
    unfold start at h2
    by_cases hi : i < vs.length
    · exact hi
    · rw [List.getElem?_append_right (by simpa using hi)] at h2
      rw [List.getElem?_replicate] at h2
      split at h2 <;> cases h2
   have ha : vs[i]? = some v := by
    unfold start at h2
    rw [List.getElem?_append_left (by simpa using hi), List.getElem?_map] at h2
    cases e : vs[i]? with
    | none => rw [e] at h2; cases h2
    | some a => rw [e] at h2; cases h2; rfl
   obtain ⟨u, hu, rv⟩ := r.get ha
   have hp : ps[i]? = some y := by
    rw [← S.pre, List.getElem?_take_of_lt (by omega)]; exact h1
   have ndP : ps.Nodup := by rw [← S.pre]; exact S.nd.sublist (List.take_sublist _ _)
   refine ⟨u, rv, ?_⟩
   rcases S.par y (List.mem_of_getElem? hp) with k | k
   · exact .inl ⟨k, bindL_get ndP hp hu k⟩
   · obtain ⟨c, e⟩ := cell_has (n := s.heap.objs.size + 1) k
     refine .inr ⟨.inl k, c, e, ?_⟩
     have q := x.cell y c e
     rw [bindC_get ndP hp hu (by show scope.names.lookup y ≠ _; rw [k]; decide)] at q
     exact q
 · exact e0.hok.fresh (Nat.le_of_lt (x.above y c (PySem.mem_of_lookup h)))
 · unfold start
   show _ = N.length
   rw [List.length_append, List.length_map, List.length_replicate]
   omega
theorem fn_of {CX : CXT} {P : Program} {w : World} {K : PySem.W.Frag} {mg : Str → Option Value} {base : Heap} {k : Nat} {f : Addr} {name qual : Str} {params : Arguments} {body : List Stmt} {scope : Scope} {dV kV doc pm cdv ct oc : Value} {an od : Option Addr}
 {osl : Array (Option Value)} {N ps : List Str} {sp : Sp} (lk : K.lookup f = some ⟨oc, od, .func (PySem.W.fnOf name qual params body scope dV kV doc pm an cdv ct), osl⟩) (hcd : PySem.W.codeIn K cdv qual = true) (S : FnScope N ps scope)
 (len : ∀ vs H Q E, sp vs H Q E → vs.length = ps.length)
 (hbody : ∀ (A : Around) (outer : List Env) (s : Shared) (H : Hp) (vs : List V) (Q : VK) (E : XK), Room k (A.deeper (envOfC qual scope s.heap.objs.size f cdv)) → sp vs H Q E →
  ∃ t, PSs (cxOf CX P w K mg base N qual scope f cdv A outer s H E) body t ∧ t { nx := fun _ H' => Q .non H', rt := Q } (start N vs) H) :
 FnOk P w K mg base CX (k + 1) f (PySem.W.fnOf name qual params body scope dV kV doc pm an cdv ct) ps sp := by
 refine ⟨len, fun A outer s H args us vs Q E hr e0 hb r hsp => ?_⟩
 have hl := len _ _ _ _ hsp
 have KX : K.In s.heap := e0.mod.kin.keeps fun b o e => (e0.bs b o e).1
 have lim : s.heap.NoLimit := e0.mod.nolimit.keeps fun b o e => (e0.bs b o e).1
 have hkind : ∀ y ∈ ps.zip us, scope.names.lookup y.1 = some .local ∨ (scope.names.lookup y.1 = some .cell ∧ ((cellsFrom (s.heap.objs.size + 1) scope.names []).lookup y.1).isSome = true) := fun ⟨n, v⟩ hy => by
  rcases S.par n (List.of_mem_zip hy).1 with q | q
  · exact .inl q
  · exact .inr ⟨q, PySem.W.cellsFrom_some _ _ _ (.inl q)⟩
 refine codeAny_call_function hr.depth (KX _ _ lk) rfl S.co S.gen rfl (PySem.W.codeRec_of KX hcd) (hb _ _ _ _ ?_)
 refine wpAny_newFunctionEnv_cells S.kind hkind fun env he s1 x => ?_
 subst he
 refine ⟨lim.keeps x.toInCall.keep, codeAny_func ?_⟩
 obtain ⟨t, ht, hq⟩ := hbody A outer s H vs Q E (hr.deeper _) hsp
 have I : Inv (cxOf CX P w K mg base N qual scope f cdv A outer s H E) [] (start N vs) H s1 := inv_start S hr.hd e0 hl r x
 refine wpAny_mono (ht [] s1 (start N vs) H _ I hq) (fun fl s' hs => ?_) fun e s' hs => hs
 have fin : ∀ {σ' : St} {H' : Hp} {v : V} {u : Value}, Inv (cxOf CX P w K mg base N qual scope f cdv A outer s H E) [] σ' H' s' → RelV v u → Q v H' → CE outer P w H s Q u s' :=
  fun {σ' H' v u} J rv q => ⟨v, H', J.os, J.bare, J.base, J.hok, rv, q⟩
 cases fl with
 | ret u =>
  obtain ⟨v, σ', H', J, rv, q⟩ := hs
  exact fin J rv q
 | next =>
  obtain ⟨σ', H', J, q⟩ := hs
  exact fin (v := V.non) (u := Value.none) J rfl q
 | brk =>
  obtain ⟨_, _, _, q⟩ := hs
  exact False.elim q
 | cont =>
  obtain ⟨_, _, _, q⟩ := hs
  exact False.elim q
section
variable {X : Cx} {x : Str} {p pos : Pos} {e : Expr} {es : List Expr} {t : TA} {id T : String} {r : List V → Hp → VK → Prop}
def tCB (r : List V → Hp → VK → Prop) (t : TA) : TE := fun σ H Q => t σ H fun vs H1 => r vs H1 Q
theorem pe_callB (hc : CallR X (.builtin id) r) (hg : Gl X x) (hm : X.mg x = none) (hv : bootBuiltins x = some (.builtin id)) (ha : PA X (e :: es) t) (hn : x ≠ "__name__" := by decide) (hdb : (x == ("__debug__" : Str)) = false := by decide)
 (he : starEach (e :: es) X.env = (false, eval e X.env) :: starEach es X.env := by rfl) (hpl : (backTo pos (starEach es X.env)).any (·.1) = false := by rfl) : PE X (.Call (.Name x p) (e :: es) [] pos) (tCB r t) := by
 intro pins s σ H Q I h
 refine wpAny_Call_Name_kw (ld_blt I hg hm hv ?_ hn hdb)
 exact PyProof.Rows.callWith_builtin1 (thn (ha pos pins s σ H _ I h) fun us s1 ⟨vs, H1, I1, r1, q1⟩ => hc pins s1 σ H1 vs us Q I1 r1 q1) he hpl
theorem pe_callTy (hc : CallR X (.type T) r) (hg : Gl X x) (hm : X.mg x = none) (hv : bootBuiltins x = some (.type T)) (ha : PA X (e :: es) t) (hn : x ≠ "__name__" := by decide) (hdb : (x == ("__debug__" : Str)) = false := by decide)
 (he : starEach (e :: es) X.env = (false, eval e X.env) :: starEach es X.env := by rfl) (hpl : (backTo pos (starEach es X.env)).any (·.1) = false := by rfl) : PE X (.Call (.Name x p) (e :: es) [] pos) (tCB r t) := by
 intro pins s σ H Q I h
 refine wpAny_Call_Name_kw (ld_blt I hg hm hv ?_ hn hdb)
 exact PyProof.Rows.callWith_type1 (thn (ha pos pins s σ H _ I h) fun us s1 ⟨vs, H1, I1, r1, q1⟩ => hc pins s1 σ H1 vs us Q I1 r1 q1) he hpl
end
end L2
namespace HT
open PySem PyProof.Rows
def lexLt : List Int → List Int → Bool
 | [], [] => false
 | [], _ :: _ => true
 | _ :: _, [] => false
 | x :: xs, y :: ys => if x = y then lexLt xs ys else decide (x < y)
theorem lexLt_cons (x y : Int) (xs ys : List Int) : lexLt (x :: xs) (y :: ys) = if x = y then lexLt xs ys else decide (x < y) := rfl
theorem lexLt_nil_nil : lexLt [] [] = false := rfl
theorem lexLt_nil_cons (y : Int) (ys : List Int) : lexLt [] (y :: ys) = true := rfl
theorem lexLt_cons_nil (x : Int) (xs : List Int) : lexLt (x :: xs) [] = false := rfl
theorem eqAt_int (A : Around) (s : Shared) (a : Int) (t : Tok) (c : Int) (u : Tok) : ∃ e, SeqAt.EqAt A s (.int a t) (.int c u) e ∧ (e = true ↔ a = c) :=
 ⟨(a == c), SeqAt.EqAt.int_int a t c u, by simp⟩
theorem rcLt_int (A : Around) (s : Shared) (a : Int) (t : Tok) (c : Int) (u : Tok) (prog : Program) (w : World) (E : Value → Shared → Prop) (Q : Value → Shared → Prop) (h : Q (.bool (decide (a < c))) s) :
 wpAny (model prog w) A (richCompare .Lt (.int a t) (.int c u)) Q E s :=
 (PyProof.Rows.lt_int h : wpAny (model prog w) A (compareOp .Lt (.int a t) (.int c u)) Q E s)
section
open PySem.SeqAt
open PySem.AutoSeq1 (wpAny_loadPart')
open PySem.MeetsSeq PySem.MeetsSeq2 PySem.MeetsSeq3
theorem tuple_lt_ints (l b : Addr) (items items2 : Array Value) (n n2 : Nat) (dd dd2 : Option Addr) (sl sl2 : Array (Option Value)) (ns ms : List Int) (hi : IntsAre items.toList ns) (hj : IntsAre items2.toList ms) :
 Meets (Builtin.«tuple.__lt__» ⟨[.ref l, .ref b], []⟩)
  (fun _ R s => s.heap.get? l = some { cls := .type "tuple", dict := dd, data := .seq items n, slots := sl } ∧ s.heap.get? b = some { cls := .type "tuple", dict := dd2, data := .seq items2 n2, slots := sl2 } ∧
   R (.ok (.ret (.bool (lexLt ns ms)))) s) :=
 .of_wp fun prog w A R s h => by
  obtain ⟨hp, g, d, tk, os⟩ := s; obtain ⟨hl, hb, h⟩ := h
  have f2 := AutoSeq1.sub_tuple_tuple
  have z1 : items.size = ns.length := by rw [← hi.length]; simp
  have z2 : items2.size = ms.length := by rw [← hj.length]; simp
  wp_walk using wpAny_loadPart' hl, wpAny_loadPart' hb, wpAny_forIn_list _ (fun rest b s' => b.1 = none ∧ s' = ⟨hp, g, d, tk, os⟩ ∧ ∃ (vs ws : List Value) (ns' ms' : List Int), rest = vs.zip ws ∧
   IntsAre vs ns' ∧ IntsAre ws ms' ∧ ns'.length + items2.size = ms'.length + items.size ∧ R (.ok (.ret (.bool (lexLt ns' ms')))) ⟨hp, g, d, tk, os⟩) _
  case turn =>
   rintro ⟨y, x⟩ rest b s' ⟨hb', rfl, vs, ws, ns', ms', hz, hvi, hwi, hlen, hR⟩
   cases hvi with
   | nil => rw [List.zip_nil_left] at hz; cases hz
   | cons a t hvi' =>
    cases hwi with
    | nil => rw [List.zip_nil_right] at hz; cases hz
    | cons c u hwi' =>
     rw [List.zip_cons_cons] at hz
     injection hz with hyx hrest
     injection hyx with hy hx
     subst hy hx
     rw [lexLt_cons] at hR
     simp only [List.length_cons] at hlen
     obtain ⟨e, he, hiff⟩ := eqAt_int A.in1 ⟨hp, g, d, tk, os⟩ a t c u
     refine wpAny_bind (he prog w _ _ ?_)
     cases e with
     | true =>
      rw [if_pos (hiff.mp rfl)] at hR
      wp_walk
      exact ⟨rfl, rfl, _, _, _, _, hrest, hvi', hwi', by omega, hR⟩
     | false =>
      rw [if_neg (fun q => absurd (hiff.mpr q) Bool.false_ne_true)] at hR
      have hri := rcLt_int A.in1 ⟨hp, g, d, tk, os⟩ a t c u prog w
      wp_walk using hri
      exact ⟨_, rfl, by simpa using hR⟩
  case fin =>
   rintro ⟨b1, b2⟩ s' ⟨hb', rfl, vs, ws, ns', ms', hz, hvi, hwi, hlen, hR⟩
   simp only at hb'
   subst hb'
   have hv : lexLt ns' ms' = decide (items.size < items2.size) := by
    cases hvi with
    | nil =>
     cases hwi with
     | nil =>
      simp only [List.length_nil] at hlen
      rw [lexLt_nil_nil]
      exact (decide_eq_false (by omega)).symm
     | cons c u hw =>
      simp only [List.length_nil, List.length_cons] at hlen
      rw [lexLt_nil_cons]
      exact (decide_eq_true (by omega)).symm
    | cons a t hv =>
     cases hwi with
     | nil =>
      simp only [List.length_nil, List.length_cons] at hlen
      rw [lexLt_cons_nil]
      exact (decide_eq_false (by omega)).symm
     | cons c u hw =>
      rw [List.zip_cons_cons] at hz
      cases hz
   rw [hv] at hR
   wp_walk
   exact ⟨_, rfl, by simpa [Builtin.Tuple.tupleCompareSizes] using hR⟩
  case h =>
   exact ⟨rfl, rfl, items.toList, items2.toList, ns, ms, rfl, hi, hj, by omega, h⟩
end
section
variable {prog : Program} {w : World} {A : Around} {E : Value → Shared → Prop} {s : Shared}
theorem lt_tupInts {l b : Addr} {items items2 : Array Value} {ns ms : List Int} {Q : Value → Shared → Prop} (hl : IsTup s.heap l items) (hb : IsTup s.heap b items2) (hi : IntsAre items.toList ns) (hj : IntsAre items2.toList ms)
 (hu : A.units < cLine) (h : Q (.bool (lexLt ns ms)) s) : wpAny (model prog w) A (compareOp .Lt (.ref l) (.ref b)) Q E s := by
 obtain ⟨⟨cls, dd, data, sl⟩, ho, hc, n, hd⟩ := id hl
 obtain ⟨⟨cls2, dd2, data2, sl2⟩, ho2, hc2, n2, hd2⟩ := id hb
 simp only at hc hd hc2 hd2
 subst hc hd hc2 hd2
 exact richCompare_meets_room (op := .Lt) ⟨_, ho, rfl⟩ ⟨_, ho2, rfl⟩ PySem.F.slot_tuple_lt PySem.F.entry_tuple_lt (PySem.F.args_tuple_lt_2 _ _) (tuple_lt_ints l b items items2 n n2 dd dd2 sl sl2 ns ms hi hj)
  ⟨ho, ho2, show Value.bool (lexLt ns ms) ≠ Value.notImplemented ∧ Q (.bool (lexLt ns ms)) s from ⟨(fun x => nomatch x), h⟩⟩ hu
theorem cat_tup {t b : Addr} {vs ws : List Value} {Q : Value → Shared → Prop} (ht : IsTup s.heap t vs.toArray) (hb : IsTup s.heap b ws.toArray) (hv : vs ≠ [])
 (h1 : ws = [] → Q (.ref t) s) (h2 : ws ≠ [] → Q (.ref s.heap.objs.size) { s with heap := s.heap.push { cls := .type "tuple", data := .seq (vs ++ ws).toArray } })
 (hsz : vs.length + ws.length ≤ sizeLine) : wpAny (model prog w) A (binaryOp .Add (.ref t) (.ref b)) Q E s := by
 obtain ⟨⟨cls, dd, data, sl⟩, ho, hc, n, hd⟩ := id ht
 obtain ⟨⟨cls2, dd2, data2, sl2⟩, ho2, hc2, n2, hd2⟩ := id hb
 simp only at hc hd hc2 hd2
 subst hc hd hc2 hd2
 have e : vs.toArray ++ ws.toArray = (vs ++ ws).toArray := by simp
 by_cases hw : ws = []
 · exact concat_meets ⟨_, ho, rfl⟩ ⟨_, ho2, rfl⟩ noFill_tuple_add seq_tuple_add PySem.F.slot_tuple_add PySem.F.entry_tuple_add (PySem.F.args_tuple_add_2 _ _)
    (tuple_addW1 t b vs.toArray ws.toArray n n2 dd dd2 sl sl2 (by simpa using hv) (by simp [hw])) ⟨ho, ho2, h1 hw⟩
 · refine concat_meets ⟨_, ho, rfl⟩ ⟨_, ho2, rfl⟩ noFill_tuple_add seq_tuple_add PySem.F.slot_tuple_add PySem.F.entry_tuple_add (PySem.F.args_tuple_add_2 _ _)
    (tuple_addW2 t b vs.toArray ws.toArray n n2 dd dd2 sl sl2 (by simpa using hv) (by simpa using hw) (by rw [List.size_toArray, List.size_toArray]; exact hsz)) ⟨ho, ho2, ?_⟩
   rw [e]
   exact h2 hw
def sIx (n d : Nat) : Option Int → Nat
 | none => d
 | some v => if v < 0 then (v + (n : Int)).toNat else min v.toNat n
theorem sIx_none (n d : Nat) : sIx n d none = d := rfl
theorem sIx_nat (n d k : Nat) : sIx n d (some (k : Int)) = min k n := by
 show (if (k : Int) < 0 then ((k : Int) + (n : Int)).toNat else min (k : Int).toNat n) = min k n
 rw [if_neg (by omega), Int.toNat_natCast]
theorem sIx_le (n d : Nat) (hd : d ≤ n) (o : Option Int) : sIx n d o ≤ n := by
 cases o with
 | none => exact hd
 | some v =>
  show (if v < 0 then (v + (n : Int)).toNat else min v.toNat n) ≤ n
  by_cases hv : v < 0
  · rw [if_pos hv]; omega
  · rw [if_neg hv]; exact Nat.min_le_right _ _
theorem clip_eq (v : Int) (n d : Nat) : (if v < 0 then max (v + (n : Int)) 0 else min v (n : Int)) = ((sIx n d (some v) : Nat) : Int) := by
 show (if v < 0 then max (v + (n : Int)) 0 else min v (n : Int)) = (((if v < 0 then (v + (n : Int)).toNat else min v.toNat n) : Nat) : Int)
 by_cases hv : v < 0
 · simp only [if_pos hv]; omega
 · simp only [if_neg hv]; omega
theorem adjust_gen (lo hi : Option Int) (n : Nat) : Builtin.Slice.sliceAdjust lo hi 1 (n : Int) = (((sIx n 0 lo : Nat) : Int), ((sIx n n hi : Nat) : Int)) := by
 have h1 : ¬ ((1 : Int) < 0) := by omega
 unfold Builtin.Slice.sliceAdjust
 simp only [h1, if_false]
 refine Prod.ext ?_ ?_
 · cases lo with
   | none => rfl
   | some v => exact clip_eq v n 0
 · cases hi with
   | none => rfl
   | some v => exact clip_eq v n n
theorem places_gen (i j : Nat) : Builtin.Slice.slicePlaces (i : Int) (j : Int) 1 = j - i := by
 unfold Builtin.Slice.slicePlaces
 have h1 : (1 : Int) > 0 := by omega
 simp only [h1, if_true, Int.ediv_one]
 split <;> omega
theorem slicePart_ {v : Value} {o : Option Int} {Q : Option Int → Shared → Prop} (p : IsPart v o) (h : Q o s) : wpAny (model prog w) A (Builtin.Slice.slicePartIndex v) Q E s := by
 cases p with
 | none => exact slicePart_none h
 | int i t => exact slicePart_int h
theorem sliceApplied_gen {sl : Addr} {vl vu : Value} {lo hi : Option Int} {n : Nat} {Q : Int × Int × Nat → Shared → Prop} (hs : s.heap.IsSliceOf sl vl vu .none) (pl : IsPart vl lo) (pu : IsPart vu hi)
 (h : Q (((sIx n 0 lo : Nat) : Int), 1, sIx n n hi - sIx n 0 lo) s) : wpAny (model prog w) A (Builtin.Slice.sliceApplied (.ref sl) (pure (n : Int))) Q E s := by
 obtain ⟨os, hos, hcs, hds⟩ := id hs
 unfold Builtin.Slice.sliceApplied Builtin.Slice.sliceFields
 refine wpAny_bind (wpAny_bind (wpAny_field hos hds (x := vl) rfl (wpAny_bind (wpAny_field hos hds (x := vu) rfl (wpAny_bind (wpAny_field hos hds (x := .none) rfl (wpAny_pure ?_)))))))
 refine wpAny_bind (slicePart_none ?_)
 show wpAny _ _ (if ((1 : Int) == 0) = true then _ else _) _ _ s
 rw [if_neg (by decide)]
 refine wpAny_bind (slicePart_ pl (wpAny_bind (slicePart_ pu (wpAny_bind (wpAny_pure ?_)))))
 show wpAny _ _ (match Builtin.Slice.sliceAdjust lo hi 1 (n : Int) with | (lo, hi) => pure (lo, (1 : Int), Builtin.Slice.slicePlaces lo hi 1)) _ _ s
 rw [adjust_gen lo hi n]
 show wpAny _ _ (pure (((sIx n 0 lo : Nat) : Int), (1 : Int), Builtin.Slice.slicePlaces ((sIx n 0 lo : Nat) : Int) ((sIx n n hi : Nat) : Int) 1)) _ _ s
 rw [places_gen]
 exact wpAny_pure h
theorem pick_gen (xs : Array Value) (i k : Nat) : ((List.range k).filterMap fun (m : Nat) => xs[((i : Int) + (m : Int) * 1).toNat]?).toArray = ((xs.toList.drop i).take k).toArray := by
 have e : (fun (m : Nat) => xs[((i : Int) + (m : Int) * 1).toNat]?) = fun m => xs[i + m]? := by
  funext m
  have : ((i : Int) + (m : Int) * 1).toNat = i + m := by omega
  rw [this]
 rw [e]
 have := pick_run xs i k
 rw [List.filterMap_map] at this
 have e2 : ((fun x => xs[x]?) ∘ fun x => i + x) = fun m => xs[i + m]? := rfl
 rw [e2] at this
 rw [this]
theorem getItem_tuple_cut {t sl : Addr} {items : Array Value} {vl vu : Value} {lo hi : Option Int} {Q : Value → Shared → Prop} (ht : IsTup s.heap t items) (hs : s.heap.IsSliceOf sl vl vu .none) (pl : IsPart vl lo) (pu : IsPart vu hi)
 (hw : ¬ (sIx items.size 0 lo = 0 ∧ sIx items.size items.size hi = items.size))
 (h : Q (.ref s.heap.objs.size) { s with heap := s.heap.push { cls := .type "tuple", data := .seq ((items.toList.drop (sIx items.size 0 lo)).take (sIx items.size items.size hi - sIx items.size 0 lo)).toArray } })
 (hsz : items.size ≤ sizeLine) : wpAny (model prog w) A (getItem (.ref t) (.ref sl)) Q E s := by
 have htake : sizeOk (.seq ((items.toList.drop (sIx items.size 0 lo)).take (sIx items.size items.size hi - sIx items.size 0 lo)).toArray) := by
  show ((items.toList.drop (sIx items.size 0 lo)).take (sIx items.size items.size hi - sIx items.size 0 lo)).toArray.size ≤ sizeLine
  rw [List.size_toArray, List.length_take, List.length_drop, Array.length_toList]
  omega
 have hj : sIx items.size items.size hi ≤ items.size := sIx_le _ _ (Nat.le_refl _) hi
 obtain ⟨os, hos, hcs, hds⟩ := id hs
 have hTs : s.TypeIs (.ref sl) "slice" := ⟨os, hos, hcs⟩
 unfold getItem
 try with_reducible refine wpAny_holding ?_
 first | refine wpAny_bind (wpAny_pure ?_) | skip
 refine wpAny_bind (wpAny_sequenceKey ht.typeIs (by decide) ?_)
 refine wpAny_bind (wpAny_callSpecial?_slot (name := Str.ofString "__getitem__") ht.typeIs PyProof.Rows.slot_tuple_getitem
  (wpAny_call_entry PyProof.Rows.slot_tuple_getitem ht.typeIs entry_tuple_getitem ?_ (args_tuple_getitem _ _)))
 show wpAny _ _ (Builtin.Tuple.tupleItemsOf (.ref t) >>= _) _ _ s
 refine wpAny_bind (tupleItemsOf_ ht ?_)
 refine wpAny_bind (wpAny_typeOf hTs ?_)
 rw [if_pos (by decide)]
 refine wpAny_bind (sliceApplied_gen hs pl pu ?_)
 have hno : ¬ ((((sIx items.size 0 lo : Nat) : Int) == 0 && (1 : Int) == 1 && (sIx items.size items.size hi - sIx items.size 0 lo) == items.size) = true) := by
  intro q
  rw [Bool.and_eq_true, Bool.and_eq_true] at q
  have q1 : ((sIx items.size 0 lo : Nat) : Int) = 0 := eq_of_beq q.1.1
  have q2 : sIx items.size items.size hi - sIx items.size 0 lo = items.size := eq_of_beq q.2
  exact hw ⟨by omega, by omega⟩
 show wpAny _ _ (if (((sIx items.size 0 lo : Nat) : Int) == 0 && (1 : Int) == 1 && (sIx items.size items.size hi - sIx items.size 0 lo) == items.size) = true then _ else _) _ _ s
 rw [if_neg hno, pick_gen]
 first
  | exact wpAny_bind (m := Builtin.Tuple.tupleExact _) (wpAny_newObj_type (wpAny_pure ⟨_, rfl, wpAny_pure h⟩) htake)
  | exact wpAny_bind (m := Builtin.Tuple.tupleExact _) (wpAny_newObj_type (wpAny_bind (wpAny_pure (wpAny_pure ⟨_, rfl, wpAny_pure h⟩))) htake)
  | exact wpAny_bind (wpAny_bind (m := Builtin.Tuple.tupleExact _) (wpAny_newObj_type (wpAny_pure (wpAny_pure ⟨_, rfl, wpAny_pure h⟩)) htake))
  | exact wpAny_bind (wpAny_bind (m := Builtin.Tuple.tupleExact _) (wpAny_newObj_type (wpAny_pure ⟨_, rfl, wpAny_pure h⟩) htake))
end
end HT
namespace L2
open PySem PySem.Spec PyProof.Rows
abbrev TO := St → Hp → (Option Int → Hp → Prop) → Prop
def PO (X : Cx) (e : Option Expr) (t : TO) : Prop :=
 ∀ (pins : List (Addr × Obj)) (s : Shared) (σ : St) (H : Hp) (Q : Option Int → Hp → Prop), Inv X pins σ H s → t σ H Q →
  wpAny (model X.prog X.w) X.A (evalPart e X.env) (fun u s' => ∃ o H', Inv X pins σ H' s' ∧ IsPart u o ∧ Q o H') X.xe s
def tNoPart : TO := fun _ H Q => Q none H
def tPart (t : TE) : TO := fun σ H Q => t σ H fun x H1 => ∃ i, x = .int i ∧ Q (some i) H1
theorem intsAre_of {ns : List Int} : ∀ {us : List Value}, Vals (ns.map V.int) us → IntsAre us ns := by
 induction ns with
 | nil => intro us r; rw [List.map_nil] at r; cases r; exact .nil
 | cons n ns ih =>
  intro us r
  rw [List.map_cons] at r
  cases r with
  | cons r1 r2 =>
   obtain ⟨t, e⟩ := r1
   subst e
   exact .cons n t (ih r2)
section
variable {X : Cx} {e : Expr} {te : TE} {lo hi : Option Expr} {tl th : TO} {pos p2 : Pos}
theorem po_none : PO X none tNoPart := by
 intro pins s σ H Q I h
 rw [evalPart_none]
 exact wpAny_pure ⟨none, H, I, .none, h⟩
theorem po_some (h : PE X e te) : PO X (some e) (tPart te) := by
 intro pins s σ H Q I hw
 rw [evalPart_some]
 refine thn (h pins s σ H _ I hw) fun u s1 ⟨x, H1, I1, r1, q1⟩ => ?_
 obtain ⟨i, rfl, q⟩ := q1
 obtain ⟨t, rfl⟩ := r1
 exact ⟨some i, H1, I1, .int i t, q⟩
def SlR (X : Cx) (r : V → Option Int → Option Int → Hp → VK → Prop) : Prop :=
 ∀ (pins : List (Addr × Obj)) (s : Shared) (σ : St) (H : Hp) (x : V) (v vl vu : Value) (lo hi : Option Int) (sl : Addr) (Q : VK), Inv X pins σ H s → RelV x v → s.heap.IsSliceOf sl vl vu .none → IsPart vl lo → IsPart vu hi → r x lo hi H Q →
  ∃ T id, typeLookup (.type T) "__getitem__" = pure (some (.builtin id)) ∧ s.TypeIs v T ∧ wpAny (model X.prog X.w) X.A (getItem v (.ref sl)) (EP X pins σ Q) X.xe s
def tSl (r : V → Option Int → Option Int → Hp → VK → Prop) (te : TE) (tl th : TO) : TE := fun σ H Q => te σ H fun x H1 => tl σ H1 fun l H2 => th σ H2 fun u H3 => r x l u H3 Q
theorem pe_slice {r : V → Option Int → Option Int → Hp → VK → Prop} (hr : SlR X r) (he : PE X e te) (hl : PO X lo tl) (hu : PO X hi th) : PE X (.Subscript e (.Slice lo hi none p2) pos) (tSl r te tl th) := by
 intro pins s σ H Q I h
 refine Subscript_ (thn (he pins s σ H _ I h) fun v s1 ⟨x, H1, I1, r1, q1⟩ => ?_)
 refine wpAny_Slice (thn (hl pins s1 σ H1 _ I1 q1) fun vl s2 ⟨l, H2, I2, pl, q2⟩ => thn (hu pins s2 σ H2 _ I2 q2) fun vu s3 ⟨u, H3, I3, pu, q3⟩ => ?_)
 rw [evalPart_none]
 refine wpAny_pure ?_
 have I4 : Inv X pins σ H3 { s3 with heap := s3.heap.push { cls := .type "slice", data := .fields #[vl, vu, .none] } } := I3.kept (t' := s3.toks) fun b ob q => Heap.get?_push_of_some _ q
 obtain ⟨T, id, hT, ht, hg⟩ := hr pins { s3 with heap := s3.heap.push { cls := .type "slice", data := .fields #[vl, vu, .none] } } σ H3 x v vl vu l u s3.heap.objs.size Q I4 r1 (Heap.IsSliceOf.new ..) pl pu q3
 show wpAny (model X.prog X.w) X.A (subscriptTail e (.Slice lo hi none p2) v (.ref s3.heap.objs.size)) (EP X pins σ Q) X.xe { s3 with heap := s3.heap.push { cls := .type "slice", data := .fields #[vl, vu, .none] } }
 exact tail_any (ops := [.ref s3.heap.objs.size, v]) ht hT hg (by with_unfolding_all rfl)
def cutV (xs : List V) (lo hi : Option Int) : List V := (xs.drop (HT.sIx xs.length 0 lo)).take (HT.sIx xs.length xs.length hi - HT.sIx xs.length 0 lo)
theorem cutV_length (xs : List V) (lo hi : Option Int) : (cutV xs lo hi).length ≤ xs.length := by
 unfold cutV
 rw [List.length_take, List.length_drop]
 omega
def rSlT (K : PySem.W.Frag) : V → Option Int → Option Int → Hp → VK → Prop := fun x lo hi H Q => ∃ a xs, x = .ref a ∧ SqT K H a xs ∧
 ¬ (HT.sIx xs.length 0 lo = 0 ∧ HT.sIx xs.length xs.length hi = xs.length) ∧ ∀ p, H p = none → Q (.ref p) (upd H p (.tup (cutV xs lo hi)))
theorem sl_tup : SlR X (rSlT X.K) := by
 intro pins s σ H x v vl vu lo hi sl Q I rx hs pl pu h
 obtain ⟨a, xs, rfl, hx, hw, q⟩ := h
 cases rx
 obtain ⟨its, r, ht, hz⟩ := I.tuple hx
 have hlen : its.toArray.size = xs.length := by rw [List.size_toArray]; exact r.length.symm
 refine ⟨"tuple", _, PyProof.Rows.slot_tuple_getitem.lookup, ht.typeIs, ?_⟩
 refine HT.getItem_tuple_cut ht hs pl pu (by rw [hlen]; exact hw) ?_ (by rw [hlen]; exact hz)
 rw [hlen]
 refine ⟨.ref s.heap.objs.size, _, I.laid (t' := s.toks) (o := .tup (cutV xs lo hi)) (fun b ob q => Heap.get?_push_of_some _ q) (Nat.le_refl _) ?_, rfl, q _ (I.hok.fresh (Nat.le_refl _))⟩
 exact ⟨Nat.le_trans (cutV_length xs lo hi) hz, _, (r.drop (HT.sIx xs.length 0 lo)).take (HT.sIx xs.length xs.length hi - HT.sIx xs.length 0 lo), IsTup.new _ _⟩
def rCatT (K : PySem.W.Frag) : R2 := fun x y H Q => ∃ a b xs ys, x = .ref a ∧ y = .ref b ∧ SqT K H a xs ∧ SqT K H b ys ∧ xs ≠ [] ∧ xs.length + ys.length ≤ sizeLine ∧
 (ys = [] → Q (.ref a) H) ∧ (ys ≠ [] → ∀ p, H p = none → Q (.ref p) (upd H p (.tup (xs ++ ys))))
theorem Vals.nil_iff {xs : List V} {us : List Value} (r : Vals xs us) : us = [] ↔ xs = [] := by
 cases r with
 | nil => simp
 | cons _ _ => simp
theorem op_catT : OpR X (binaryOp .Add) (rCatT X.K) := by
 intro pins s σ H x y v u Q I rx ry h
 obtain ⟨a, b, xs, ys, rfl, rfl, ha, hb, hx, hz, q1, q2⟩ := h
 cases rx
 cases ry
 obtain ⟨its, r1, p1, _⟩ := I.tuple ha
 obtain ⟨its2, r2, p2, _⟩ := I.tuple hb
 refine HT.cat_tup p1 p2 (fun z => hx (r1.nil_iff.mp z)) (fun z => ⟨.ref a, H, I, rfl, q1 (r2.nil_iff.mp z)⟩) (fun z => ?_) (by rw [← r1.length, ← r2.length]; exact hz)
 refine ⟨.ref s.heap.objs.size, _, I.laid (t' := s.toks) (o := .tup (xs ++ ys)) (fun b ob q => Heap.get?_push_of_some _ q) (Nat.le_refl _) ?_, rfl, q2 (fun w => z (r2.nil_iff.mpr w)) _ (I.hok.fresh (Nat.le_refl _))⟩
 exact ⟨by rw [List.length_append]; exact hz, _, r1.append r2, IsTup.new _ _⟩
end
def ixN (n : Nat) (i : Int) : Option Nat := if 0 ≤ i then (if i < n then some i.toNat else none) else if -(n : Int) ≤ i then some (i + n).toNat else none
def atI {α : Type} (xs : List α) (i : Int) : Option α := (ixN xs.length i).bind fun j => xs[j]?
theorem ixN_seq {n : Nat} {i : Int} {j : Nat} (h : ixN n i = some j) : seqIndex? i n = some j ∧ j < n ∧ -(n : Int) ≤ i ∧ i < n := by
 unfold ixN at h
 by_cases h0 : 0 ≤ i
 · rw [if_pos h0] at h
   by_cases h1 : i < n
   · rw [if_pos h1] at h
     have e : i.toNat = j := Option.some.inj h
     exact ⟨by rw [seqIndex_of h0 h1, e], by omega, by omega, h1⟩
   · rw [if_neg h1] at h; cases h
 · rw [if_neg h0] at h
   by_cases h1 : -(n : Int) ≤ i
   · rw [if_pos h1] at h
     have e : (i + n).toNat = j := Option.some.inj h
     exact ⟨by rw [seqIndex_neg (by omega) h1, e], by omega, h1, by omega⟩
   · rw [if_neg h1] at h; cases h
theorem atI_get {α : Type} {xs : List α} {i : Int} {v : α} (h : atI xs i = some v) : ∃ j, seqIndex? i xs.length = some j ∧ xs[j]? = some v ∧ j < xs.length ∧ -(xs.length : Int) ≤ i ∧ i < xs.length := by
 unfold atI at h
 cases e : ixN xs.length i with
 | none => rw [e] at h; cases h
 | some j =>
  rw [e] at h
  obtain ⟨h1, h2, h3, h4⟩ := ixN_seq e
  exact ⟨j, h1, h, h2, h3, h4⟩
theorem atI_nat {α : Type} {xs : List α} {j : Nat} {v : α} (h : xs[j]? = some v) : atI xs (j : Int) = some v := by
 have hj : j < xs.length := (List.getElem?_eq_some_iff.mp h).1
 have e : ixN xs.length (j : Int) = some j := by
  unfold ixN
  rw [if_pos (by omega), if_pos (by omega)]; simp
 unfold atI; rw [e]; exact h
theorem atI_last {α : Type} (xs : List α) (v : α) : atI (xs ++ [v]) (-1) = some v := by
 have hl : (xs ++ [v]).length = xs.length + 1 := by simp
 have e : ixN (xs ++ [v]).length (-1) = some xs.length := by
  unfold ixN
  rw [hl, if_neg (by decide), if_pos (by omega)]
  congr 1
  omega
 unfold atI
 rw [e]
 show (xs ++ [v])[xs.length]? = some v
 simp
def PlainIx (b : Expr) : Prop := ∀ o i, subscripted b false o i = operate [o, i] (getItem o i)
def IxR (X : Cx) (r : R2) : Prop :=
 ∀ (value slice : Expr) (pins : List (Addr × Obj)) (s : Shared) (σ : St) (H : Hp) (x y : V) (v u : Value) (Q : VK), Inv X pins σ H s → RelV x v → RelV y u → r x y H Q →
  subscripted slice false v u = operate [v, u] (getItem v u) → wpAny (model X.prog X.w) X.A (subscriptTail value slice v u) (EP X pins σ Q) X.xe s
def MtR (X : Cx) (id : String) (r : V → List V → Hp → VK → Prop) : Prop :=
 ∀ (pins : List (Addr × Obj)) (s : Shared) (σ : St) (H : Hp) (x : V) (xs : List V) (v : Value) (us : List Value) (Q : VK), Inv X pins σ H s → RelV x v → Vals xs us → r x xs H Q →
  wpAny (model X.prog X.w) X.A (call (.builtin id) (v :: us)) (EP X pins σ Q) X.xe s
section
variable {X : Cx} {a b : Expr} {ta tb : TE} {pos : Pos}
theorem IxR.or {r r' : R2} (h : IxR X r) (h' : IxR X r') : IxR X (fun x y H Q => r x y H Q ∨ r' x y H Q) := by
 intro value slice pins s σ H x y v u Q I rx ry q hs
 rcases q with q | q
 · exact h value slice pins s σ H x y v u Q I rx ry q hs
 · exact h' value slice pins s σ H x y v u Q I rx ry q hs
theorem pe_ix {r : R2} (hr : IxR X r) (ha : PE X a ta) (hb : PE X b tb) (hs : PlainIx b) : PE X (.Subscript a b pos) (tOp r ta tb) := by
 intro pins s σ H Q I h
 exact Subscript_ (binT ha hb I h fun v u s2 x y H2 I2 rx ry q => hr a b pins s2 σ H2 x y v u Q I2 rx ry q (hs _ _))
def rIxL (K : PySem.W.Frag) : R2 := fun x y H Q => ∃ p xs i v, x = .ref p ∧ y = .int i ∧ SqL K H p xs ∧ atI xs i = some v ∧ Q v H
def rIxT (K : PySem.W.Frag) : R2 := fun x y H Q => ∃ p xs i v, x = .ref p ∧ y = .int i ∧ SqT K H p xs ∧ atI xs i = some v ∧ Q v H
def rIxS : R2 := fun x y H Q => ∃ z i c, x = .str z ∧ y = .int i ∧ z.length ≤ sizeLine ∧ atI z.cps.toList i = some c ∧ Q (.str ⟨#[c]⟩) H
theorem ix_list : IxR X (rIxL X.K) := by
 intro value slice pins s σ H x y v u Q I rx ry h hs
 obtain ⟨p, xs, i, z, rfl, rfl, hq, he, q⟩ := h
 cases rx
 obtain ⟨t, rfl⟩ := ry
 obtain ⟨its, r, pl, hz⟩ := I.list hq
 obtain ⟨j, h1, h2, h3, h4, h5⟩ := atI_get he
 obtain ⟨w, ew, rw'⟩ := r.get h2
 have hl := r.length
 have hn := line63
 have fin : EP X pins σ Q w s := ⟨z, H, I, rw', q⟩
 by_cases h0 : 0 ≤ i
 · have hj : i.toNat = j := by
    rw [seqIndex_of h0 h5] at h1
    exact Option.some.inj h1
   exact item_listR pl.isList h0 (by omega) (by rw [hj]; simpa using ew) fin hs
 · have hj : (i + (its.toArray.size : Int)).toNat = j := by
    rw [seqIndex_neg (by omega) h4] at h1
    rw [List.size_toArray, ← hl]
    exact Option.some.inj h1
   exact subscriptTail_builtinR (x := w) pl.isList.typeIs slot_list_getitem.lookup
    (wpAny_getItem_list_neg (Q := fun r s' => r = w ∧ EP X pins σ Q r s') pl.isList (by omega) (by rw [List.size_toArray] <;> omega) (by omega) (by rw [hj]; simpa using ew) ⟨rfl, fin⟩) hs
theorem ix_tup : IxR X (rIxT X.K) := by
 intro value slice pins s σ H x y v u Q I rx ry h hs
 obtain ⟨p, xs, i, z, rfl, rfl, hq, he, q⟩ := h
 cases rx
 obtain ⟨t, rfl⟩ := ry
 obtain ⟨its, r, pl, hz⟩ := I.tuple hq
 obtain ⟨j, h1, h2, h3, h4, h5⟩ := atI_get he
 obtain ⟨w, ew, rw'⟩ := r.get h2
 have hl := r.length
 have hn := line63
 have fin : EP X pins σ Q w s := ⟨z, H, I, rw', q⟩
 exact subscriptTail_builtinR (x := w) pl.typeIs slot_tuple_getitem.lookup
  (getItem_tuple (j := j) (Q := fun r s' => r = w ∧ EP X pins σ Q r s') pl (by omega) (by omega) (by rw [List.size_toArray, ← hl]; exact h1) (by simpa using ew) ⟨rfl, fin⟩) hs
theorem ix_str : IxR X rIxS := by
 intro value slice pins s σ H x y v u Q I rx ry h hs
 obtain ⟨z, i, c, rfl, rfl, hz, he, q⟩ := h
 obtain ⟨t, rfl⟩ := rx
 obtain ⟨t', rfl⟩ := ry
 obtain ⟨j, h1, h2, h3, h4, h5⟩ := atI_get he
 have hl : z.cps.toList.length = z.length := by simp [Str.length]
 rw [hl] at h1 h4 h5
 have hn := line63
 exact tail_any (typeIs_str s z t) slot_str_getitem.lookup (getItem_str (c := c) (by
  have e1 : decide (i < -(2 ^ 63 : Int)) = false := decide_eq_false (by omega)
  have e2 : decide (i ≥ 2 ^ 63) = false := decide_eq_false (by omega)
  rw [e1, e2, Bool.or_false]) (by rw [h1]; simpa using h2) ⟨.str ⟨#[c]⟩, H, I.tok _, ⟨_, rfl⟩, q⟩) hs
def rIx (K : PySem.W.Frag) : R2 := fun x y H Q => rIxL K x y H Q ∨ rIxT K x y H Q ∨ rIxS x y H Q
theorem ix_seq : IxR X (rIx X.K) := ix_list.or (ix_tup.or ix_str)
theorem slice_bounds (lo hi : Option Int) (n : Nat) : (sliceBounds lo hi none n).1 = ((HT.sIx n 0 lo : Nat) : Int) ∧ (sliceBounds lo hi none n).2.1 = ((HT.sIx n n hi : Nat) : Int) ∧ (sliceBounds lo hi none n).2.2 = 1 := by
 refine ⟨?_, ?_, rfl⟩
 · cases lo with
   | none => simp [sliceBounds, HT.sIx]
   | some i =>
    simp only [sliceBounds, HT.sIx, Option.getD_none, show (1 : Int) > 0 by decide, if_true]
    by_cases h : i < 0
    · simp only [h, if_true] <;> omega
    · simp only [h, if_false] <;> omega
 · cases hi with
   | none => simp [sliceBounds, HT.sIx]
   | some i =>
    simp only [sliceBounds, HT.sIx, Option.getD_none, show (1 : Int) > 0 by decide, if_true]
    by_cases h : i < 0
    · simp only [h, if_true] <;> omega
    · simp only [h, if_false] <;> omega
theorem slicePick_cut (its : List Value) (lo hi : Option Int) : slicePick its.toArray lo hi none = ((its.drop (HT.sIx its.length 0 lo)).take (HT.sIx its.length its.length hi - HT.sIx its.length 0 lo)).toArray := by
 obtain ⟨h1, h2, h3⟩ := slice_bounds lo hi its.toArray.size
 unfold slicePick
 rw [h1, h2, h3]
 simp only [sliceRange_one, pick_run, List.size_toArray] <;> rfl
def rSlL (K : PySem.W.Frag) : V → Option Int → Option Int → Hp → VK → Prop := fun x lo hi H Q => ∃ a xs, x = .ref a ∧ SqL K H a xs ∧ ∀ p, H p = none → Q (.ref p) (upd H p (.lst (cutV xs lo hi)))
theorem sl_list : SlR X (rSlL X.K) := by
 intro pins s σ H x v vl vu lo hi sl Q I rx hs pl pu h
 obtain ⟨a, xs, rfl, hx, q⟩ := h
 cases rx
 obtain ⟨its, r, ht, hz⟩ := I.list hx
 have hlen := r.length
 refine ⟨"list", _, slot_list_getitem.lookup, ht.isList.typeIs, ?_⟩
 refine wpAny_getItem_list_slice ht.isList hs pl pu .none (by simp) ?_ (by rw [List.size_toArray] <;> omega)
 rw [slicePick_cut, ← hlen]
 refine ⟨.ref s.heap.objs.size, _, I.laid (t' := s.toks) (o := .lst (cutV xs lo hi)) (fun b ob q => Heap.get?_push_of_some _ q) (Nat.le_refl _) ?_, rfl, q _ (I.hok.fresh (Nat.le_refl _))⟩
 exact ⟨Nat.le_trans (cutV_length xs lo hi) hz, _, 0, (r.drop (HT.sIx xs.length 0 lo)).take (HT.sIx xs.length xs.length hi - HT.sIx xs.length 0 lo), Heap.get?_push_size _ rfl⟩
theorem call_len_seq : CallR X (.builtin "len") (fun xs H Q => ∃ p ys, xs = [.ref p] ∧ (SqL X.K H p ys ∨ SqT X.K H p ys) ∧ Q (.int ys.length) H) := by
 intro pins s σ H xs us Q I r h
 obtain ⟨p, ys, rfl, hq, q⟩ := h
 obtain ⟨u, rfl, rx⟩ := vals1 r
 cases rx
 have hn := line63
 rcases hq with hq | hq
 · obtain ⟨its, r', pl, hz⟩ := I.list hq
   have hlen := r'.length
   exact Calls.call_len_list pl.isList (by simp only [List.size_toArray] <;> omega) ⟨.int ys.length, H, I.tok _, ⟨s.toks + 1, by rw [List.size_toArray, hlen]⟩, q⟩
 · obtain ⟨its, r', pl, hz⟩ := I.tuple hq
   have hlen := r'.length
   exact len_tuple pl (by simp only [List.size_toArray] <;> omega) ⟨.int ys.length, H, I.tok _, ⟨s.toks + 1, by rw [List.size_toArray, hlen]⟩, q⟩
theorem call_len_str : CallR X (.builtin "len") (fun xs H Q => ∃ z, xs = [.str z] ∧ z.length ≤ sizeLine ∧ Q (.int z.length) H) := by
 intro pins s σ H xs us Q I r h
 obtain ⟨z, rfl, hz, q⟩ := h
 obtain ⟨u, rfl, t, rfl⟩ := vals1 r
 have hn := line63
 exact len_str (by omega) ⟨.int z.length, H, I.tok _, ⟨_, rfl⟩, q⟩
theorem CallR.or {f : Value} {r r' : List V → Hp → VK → Prop} (h : CallR X f r) (h' : CallR X f r') : CallR X f (fun xs H Q => r xs H Q ∨ r' xs H Q) := by
 intro pins s σ H xs us Q I rs q
 rcases q with q | q
 · exact h pins s σ H xs us Q I rs q
 · exact h' pins s σ H xs us Q I rs q
theorem call_tuple_of : CallR X (.type "tuple") (fun xs H Q => ∃ p ys, xs = [.ref p] ∧ ((SqL X.K H p ys ∧ ∀ l, H l = none → Q (.ref l) (upd H l (.tup ys))) ∨ (SqT X.K H p ys ∧ Q (.ref p) H))) := by
 intro pins s σ H xs us Q I r h
 obtain ⟨p, ys, rfl, h⟩ := h
 obtain ⟨u, rfl, rx⟩ := vals1 r
 cases rx
 rcases h with ⟨hq, q⟩ | ⟨hq, q⟩
 · obtain ⟨its, r', pl, hz⟩ := I.list hq
   have hlen := r'.length
   refine call_tuple_list pl.isList (fun h' kp => ?_) (by simp only [List.size_toArray] <;> omega)
   have I1 : Inv X pins σ H { s with heap := h' } := I.kept (t' := s.toks) kp
   have I2 : Inv X pins σ (upd H h'.objs.size (.tup ys)) { s with heap := h'.push { cls := .type "tuple", data := .seq its.toArray } } :=
    I1.laid (t' := s.toks) (fun b o e => Heap.get?_push_of_some _ e) (Nat.le_refl _) (show ObjOk X.prog X.w _ _ _ (.tup ys) from ⟨hz, its, r', IsTup.new _ _⟩)
   exact ⟨.ref h'.objs.size, _, I2, rfl, q _ (I1.hok.fresh (Nat.le_refl _))⟩
 · obtain ⟨its, r', pl, hz⟩ := I.tuple hq
   exact call_tuple_same pl ⟨.ref p, H, I, rfl, q⟩
def tyV (K : PySem.W.Frag) (T : String) (x : V) (H : Hp) : Prop := match x with
 | .str _ => T = "str"
 | .int _ => T = "int"
 | .ref p => (T = "list" ∧ ∃ xs, SqL K H p xs) ∨ (T = "tuple" ∧ ∃ o, K.lookup p = some o ∧ o.cls = .type "tuple" ∧ o.dict = none) ∨
  (T = "dict" ∧ ((∃ kvs, H p = some (.dK kvs)) ∨ ∃ kvs, H p = some (.dT kvs))) ∨ (T = "set" ∧ ∃ S n, H p = some (.set S n))
 | _ => False
theorem tyV_is {pins : List (Addr × Obj)} {σ : St} {H : Hp} {s : Shared} {T : String} {x : V} {v : Value} (I : Inv X pins σ H s) (r : RelV x v) (ty : tyV X.K T x H) :
 s.TypeIs v T ∧ ∀ a, v = .ref a → ∃ ob, s.heap.get? a = some ob ∧ ob.dict = none := by
 cases x with
 | str z =>
  obtain ⟨t, rfl⟩ := r
  cases (show T = "str" from ty)
  exact ⟨typeIs_str s z t, fun _ e => nomatch e⟩
 | int i =>
  obtain ⟨t, rfl⟩ := r
  cases (show T = "int" from ty)
  exact ⟨typeIs_int s i t, fun _ e => nomatch e⟩
 | ref p =>
  cases r
  rcases ty with ⟨rfl, xs, hq⟩ | ⟨rfl, o, hk, hc, hd⟩ | ⟨rfl, hk⟩ | ⟨rfl, S, n, hk⟩
  · obtain ⟨its, _, pl, _⟩ := I.list hq
    refine ⟨pl.isList.typeIs, fun a e => ?_⟩
    cases e
    obtain ⟨o, n, e, c, hd, _⟩ := pl
    exact ⟨o, e, hd⟩
  · refine ⟨⟨o, I.kIn p o hk, hc⟩, fun a e => ?_⟩
    cases e
    exact ⟨o, I.kIn _ o hk, hd⟩
  · have z : ∃ o, s.heap.get? p = some o ∧ o.ExactDict := by
     rcases hk with ⟨kvs, hk⟩ | ⟨kvs, hk⟩
     · obtain ⟨_, _, _, _, o, _, _, e, ex, _⟩ := I.hok p _ hk
       exact ⟨o, e, ex⟩
     · obtain ⟨_, _, _, _, o, _, _, e, ex, _⟩ := I.hok p _ hk
       exact ⟨o, e, ex⟩
    obtain ⟨o, e, ex⟩ := z
    refine ⟨⟨o, e, ex.1⟩, fun a e2 => ?_⟩
    cases e2
    exact ⟨o, e, ex.2.1⟩
  · obtain ⟨o, _, _, _, e, ex, _⟩ := I.hok p _ hk
    refine ⟨⟨o, e, ex.1⟩, fun a e2 => ?_⟩
    cases e2
    exact ⟨o, e, ex.2.1⟩
 | _ => exact False.elim ty
def tBM (K : PySem.W.Frag) (T : String) (r : V → List V → Hp → VK → Prop) (to : TE) (t : TA) : TE := fun σ H Q => to σ H fun x H1 => tyV K T x H1 ∧ t σ H1 fun xs H2 => r x xs H2 Q
variable {o e : Expr} {es : List Expr} {to : TE} {t : TA} {name : Str} {apos cpos : Pos} {T id : String} {r : V → List V → Hp → VK → Prop}
theorem pe_bm (pa : PlainAttrs T) (slot : Slot T name id) (hty : typeOf (.builtin id) = pure (.type "method_descriptor")) (hm : MtR X id r) (ho : PE X o to) (ha : PA X (e :: es) t)
 (hbase : attributeBase o name X.env (eval o X.env) = eval o X.env := by rfl)
 (hfew : ((backTo cpos (starEach (e :: es) X.env)).all (fun x => !x.1) && (backToKw cpos (keywordEach [] X.env)).all (fun x => x.1.isSome)
  && decide ((e :: es).length + ([] : List Keyword).length + (if ([] : List Keyword).isEmpty then 0 else 1) < 30)) = true := by rfl)
 (hline : (apos.endLine == cpos.line) = true := by rfl) (hs : starEach (e :: es) X.env = (false, eval e X.env) :: starEach es X.env := by rfl) (hplain : (backTo cpos (starEach es X.env)).any (·.1) = false := by rfl) :
 PE X (.Call (.Attribute o name apos) (e :: es) [] cpos) (tBM X.K T r to t) := by
 intro pins s σ H Q I h
 refine wpAny_Call_method_late hbase hfew hline rfl (thn (ho pins s σ H _ I h) fun v s1 ⟨x, H1, I1, r1, ty, q1⟩ => ?_)
 obtain ⟨h1, h2⟩ := tyV_is I1 r1 ty
 refine ⟨T, id, pa, slot, hty, h1, h2, ?_⟩
 have hA := ha cpos pins s1 σ H1 _ I1 q1
 rw [hs] at hA ⊢
 refine Calls.callWith_builtin (by show (false || (backTo cpos (starEach es X.env)).any (·.1)) = false; rw [hplain] <;> rfl) (Calls.evalArgs_plain ?_)
 exact thn hA fun us s2 ⟨vs, H2, I2, r2, q2⟩ => hm pins s2 σ H2 x vs v us Q I2 r1 r2 q2
end
def MtM (X : Cx) (id : String) (r : V → List V → Hp → VK → Prop) : Prop :=
 ∀ (pins : List (Addr × Obj)) (s : Shared) (σ : St) (H : Hp) (x : V) (xs : List V) (v : Value) (us : List Value) (Q : VK), Inv X pins σ H s → RelV x v → Vals xs us → r x xs H Q →
  wpAny (model X.prog X.w) X.A (call (.builtin id) (v :: us)) (EP X pins σ Q) X.xe s
theorem Vals.one : ∀ {x : V} {us : List Value}, Vals [x] us → ∃ u, us = [u] ∧ RelV x u
 | _, _, .cons r .nil => ⟨_, rfl, r⟩
theorem Vals.rep {xs : List V} {us : List Value} (h : Vals xs us) : ∀ k : Nat, Vals (List.replicate k xs).flatten (List.replicate k us).flatten
 | 0 => .nil
 | k + 1 => by
  rw [List.replicate_succ, List.replicate_succ, List.flatten_cons, List.flatten_cons]
  exact Vals.append h (Vals.rep h k)
theorem foldl_rep (its : List Value) : ∀ (k : Nat) (acc : List Value),
 List.foldl (fun x1 x2 => x1 ++ x2) acc.toArray (List.replicate k its.toArray) = (acc ++ (List.replicate k its).flatten).toArray
 | 0, acc => by simp
 | k + 1, acc => by
  have e : acc.toArray ++ its.toArray = (acc ++ its).toArray := by simp
  have e2 : (acc ++ its) ++ (List.replicate k its).flatten = acc ++ (List.replicate (k + 1) its).flatten := by
   rw [List.replicate_succ, List.flatten_cons, List.append_assoc]
  rw [← e2, ← foldl_rep its k (acc ++ its), ← e, List.replicate_succ, List.foldl_cons]
section
variable {X : Cx} {pins : List (Addr × Obj)} {σ : St} {H : Hp} {s : Shared} {l b : Addr} {xs ys zs : List V}
theorem Inv.lset {its its' : List Value} {n : Nat} {f : Array Value → Array Value} {t' : Nat} (I : Inv X pins σ H s) (hH : H l = some (.lst xs))
 (e : s.heap.get? l = some { cls := .type "list", data := .seq its.toArray n }) (hf : f its.toArray = its'.toArray) (hv : Vals ys its') (hz : ys.length ≤ sizeLine) :
 Inv X pins σ (upd H l (.lst ys)) { s with heap := s.heap.update l (Obj.mapSeq f), toks := t' } := by
 have q := PySem.IsL.update e f
 rw [hf] at q
 refine I.write (x := l) (e := l) (by rw [hH]; exact trivial) (.inl rfl) (fun b' u hb hu => (Heap.get?_update_other s.heap (Obj.mapSeq f) (Ne.symm hb)).trans hu) ⟨_, q⟩ ?_
 exact ⟨hz, its', _, hv, q⟩
theorem Inv.lnew {its : List Value} {t' : Nat} (I : Inv X pins σ H s) (hv : Vals ys its) (hz : ys.length ≤ sizeLine) :
 Inv X pins σ (upd H s.heap.objs.size (.lst ys)) { s with heap := s.heap.push { cls := .type "list", data := .seq its.toArray }, toks := t' } :=
 I.laid (fun _ _ q => Heap.get?_push_of_some _ q) (Nat.le_refl _) ⟨hz, its, 0, hv, Heap.get?_push_size _ rfl⟩
theorem Inv.fresh (I : Inv X pins σ H s) : H s.heap.objs.size = none := I.hok.fresh (Nat.le_refl _)
theorem Inv.lstM (I : Inv X pins σ H s) (hH : H l = some (.lst xs)) : xs.length ≤ sizeLine ∧ ∃ (its : List Value) (n : Nat), Vals xs its ∧ xs.length = its.length ∧ s.heap.get? l = some { cls := .type "list", data := .seq its.toArray n } := by
 obtain ⟨z, its, n, r, e⟩ := I.hok l _ hH
 exact ⟨z, its, n, r, r.length, e⟩
theorem notLongL {n : Nat} (h : n ≤ sizeLine) : Builtin.List.listTooLong n = false := by
 unfold Builtin.List.listTooLong
 exact decide_eq_false (by omega)
end
section
variable {X : Cx}
def rAppend : V → List V → Hp → VK → Prop := fun x vs H Q => ∃ l xs y, x = .ref l ∧ vs = [y] ∧ H l = some (.lst xs) ∧ xs.length < sizeLine ∧ Q .non (upd H l (.lst (xs ++ [y])))
theorem mt_append : MtM X "list.append" rAppend := by
 intro pins s σ H x vs v us Q I rx rv h
 obtain ⟨l, xs, y, rfl, rfl, hH, hz, q⟩ := h
 cases rx
 obtain ⟨u, rfl, ru⟩ := rv.one
 obtain ⟨z, its, n, r, hl, e⟩ := I.lstM hH
 refine call_meets F.slot_list_append ⟨_, e, rfl⟩ F.entry_list_append (F.args_list_append_2 _ _) (PySem.list_append l its.toArray n u (by rw [List.size_toArray]; omega)) ⟨e, ?_⟩
 refine ⟨.non, _, I.lset (its' := its ++ [u]) hH e (by simp) (r.append (.cons ru .nil)) ?_, rfl, q⟩
 rw [List.length_append, List.length_singleton]
 omega
def rExtend : V → List V → Hp → VK → Prop := fun x vs H Q => ∃ l b xs zs, x = .ref l ∧ vs = [.ref b] ∧ H l = some (.lst xs) ∧ H b = some (.lst zs) ∧ xs.length + zs.length ≤ sizeLine ∧ Q .non (upd H l (.lst (xs ++ zs)))
theorem mt_extend : MtM X "list.extend" rExtend := by
 intro pins s σ H x vs v us Q I rx rv h
 obtain ⟨l, b, xs, zs, rfl, rfl, hH, hB, hz, q⟩ := h
 cases rx
 obtain ⟨u, rfl, ru⟩ := rv.one
 cases ru
 obtain ⟨z, its, n, r, hl, e⟩ := I.lstM hH
 obtain ⟨z2, its2, n2, r2, hl2, e2⟩ := I.lstM hB
 have hsz : its.toArray.size + its2.toArray.size ≤ sizeLine := by rw [List.size_toArray, List.size_toArray]; omega
 have hlong : ¬ (!its.toArray.isEmpty && Builtin.List.listTooLong (its.toArray.size + its2.toArray.size)) = true := by
  rw [notLongL hsz, Bool.and_false]
  exact Bool.false_ne_true
 refine call_meets F.slot_list_extend ⟨_, e, rfl⟩ F.entry_list_extend (F.args_list_extend_2 _ _)
  (AutoSeq1.list_extend_list_list_0 l its.toArray n b its2.toArray n2 hlong (by rw [List.size_toArray]; omega) (by omega)) ⟨e, e2, ?_⟩
 refine ⟨.non, _, I.lset (its' := its ++ its2) hH e (by simp) (r.append r2) ?_, rfl, q⟩
 rw [List.length_append]
 omega
def rCat : R2 := fun x y H Q => ∃ l b xs zs, x = .ref l ∧ y = .ref b ∧ H l = some (.lst xs) ∧ H b = some (.lst zs) ∧ xs.length + zs.length ≤ sizeLine ∧ ∀ p, H p = none → Q (.ref p) (upd H p (.lst (xs ++ zs)))
theorem op_cat : OpR X (binaryOp .Add) rCat := by
 intro pins s σ H x y v u Q I rx ry h
 obtain ⟨l, b, xs, zs, rfl, rfl, hH, hB, hz, q⟩ := h
 cases rx
 cases ry
 obtain ⟨z, its, n, r, hl, e⟩ := I.lstM hH
 obtain ⟨z2, its2, n2, r2, hl2, e2⟩ := I.lstM hB
 refine PySem.P.add_list e e2 ?_ (by rw [List.size_toArray, List.size_toArray]; omega)
 have ea : its.toArray ++ its2.toArray = (its ++ its2).toArray := by simp
 rw [ea]
 exact ⟨.ref _, _, I.lnew (t' := s.toks) (r.append r2) (by rw [List.length_append]; omega), rfl, q _ I.fresh⟩
def rRep : R2 := fun x y H Q => ∃ l k xs, x = .ref l ∧ y = .int k ∧ H l = some (.lst xs) ∧ -(2 ^ 63) ≤ k ∧ k < 2 ^ 63 ∧ xs.length * k.toNat ≤ sizeLine ∧
 ∀ p, H p = none → Q (.ref p) (upd H p (.lst (List.replicate k.toNat xs).flatten))
theorem len_rep {α : Type} (xs : List α) (k : Nat) : (List.replicate k xs).flatten.length = k * xs.length := by
 induction k with
 | zero => simp
 | succ k ih => rw [List.replicate_succ, List.flatten_cons, List.length_append, ih, Nat.succ_mul, Nat.add_comm]
theorem op_rep : OpR X (binaryOp .Mult) rRep := by
 intro pins s σ H x y v u Q I rx ry h
 obtain ⟨l, k, xs, rfl, rfl, hH, h1, h2, hz, q⟩ := h
 cases rx
 obtain ⟨t, rfl⟩ := ry
 obtain ⟨z, its, n, r, hl, e⟩ := I.lstM hH
 have hlen : its.toArray.size * k.toNat ≤ sizeLine := by rw [List.size_toArray, ← hl]; exact hz
 have hcap : ¬ its.toArray.size * k.toNat > (2 ^ 63 - 1) / 8 := by
  have : (sizeLine : Nat) ≤ (2 ^ 63 - 1) / 8 := by decide
  omega
 have hfit : ¬ (!Builtin.List.listFitsIndex k) = true := by
  rw [fitsIndex_both h1 h2]
  exact Bool.false_ne_true
 have hlong : ¬ Builtin.List.listTooLong (its.toArray.size * k.toNat) = true := by
  rw [notLongL hlen]
  exact Bool.false_ne_true
 have hnew : List.foldl (fun x1 x2 => x1 ++ x2) #[] (List.replicate (if its.toArray.isEmpty = true then 0 else k.toNat) its.toArray) = (List.replicate k.toNat its).flatten.toArray := by
  have f0 : ∀ m : Nat, List.foldl (fun x1 x2 => x1 ++ x2) #[] (List.replicate m its.toArray) = (List.replicate m its).flatten.toArray := fun m => by
   have := foldl_rep its m []
   rw [List.nil_append] at this
   exact this
  rw [f0]
  cases its with
  | nil => simp
  | cons a r' => rw [if_neg (by simp)]
 refine wpAny_binaryOp_repeat_ref (T := "list") (U := "int") (by decide) ⟨_, e, rfl⟩ (fun s' => typeIs_int s' k t) noFill_list_mul F.fills_int_mul F.slot_int_rmul repeat_list F.slot_int_index.lookup
  (call_meets F.slot_int_rmul (typeIs_int s k t) F.entry_int_rmul (F.args_int_rmul_2 _ _) (int___rmul___int_list k t l its.toArray n)
   ⟨e, rfl, ⟨_, e, rfl⟩, call_meets F.slot_list_mul ⟨_, e, rfl⟩ F.entry_list_mul (F.args_list_mul_2 _ _) (AutoListH.list___mul___list_int_3 l its.toArray n k t hfit hcap hlong) ⟨e, ?_⟩⟩)
 rw [hnew]
 exact ⟨.ref _, _, I.lnew (t' := s.toks) (r.rep k.toNat) (by rw [len_rep, Nat.mul_comm]; exact hz), rfl, q _ I.fresh⟩
end
end L2
namespace Att
open PySem PySem.W PySem.Calls PyProof.Rows
theorem ints_of_wellAll {P : Params} {h : Heap} : ∀ (ns : List Int) (vs : List Value), WellAll P h vs (ns.map WData.int) → IntsAre vs ns := by
 intro ns
 induction ns with
 | nil =>
  intro vs w
  rw [List.map_nil] at w
  cases w
  exact .nil
 | cons n ns ih =>
  intro vs w
  rw [List.map_cons] at w
  cases w with
  | cons a b =>
   cases a
   exact .cons _ _ (ih _ b)
theorem script_of {l : OpenLaw} {n : Nat} (hn : l.most = some n) {P : Params} {h : Heap} {args : List WData} {vals : List Value}
 (hpre : l.row.toRowW.claim.pre args = true) (hwl : WellAll P h vals args) :
 ∃ a vs ns, vals = [Value.ref a] ∧ args = [WData.list (ns.map WData.int)] ∧ h.get? a = some { cls := .type "list", data := .seq vs.toArray } ∧ IntsAre vs ns ∧ ns.length ≤ n := by
 have hsh : WShape.hasAll [] args [.list .int] = true := (pre_splitW hpre).1
 have hc : l.pre.holds [] { args := args } = true := (pre_splitW hpre).2
 obtain ⟨d, r, rfl, h1, h2⟩ := hasAllW_cons hsh
 obtain rfl := hasAllW_nil h2
 obtain ⟨xs, rfl, h3⟩ := hasW_list h1
 obtain ⟨ns, rfl⟩ := items_int h3
 have hlen : ns.length ≤ n := by
  unfold OpenLaw.pre at hc
  have h4 : (WTm.not (.lt (.lit (.int (n : Int))) (.len (.arg 0)))).holds [] { args := [.list (ns.map .int)] } = true := by
   have h4 := (holds_andW hc).1
   rw [hn] at h4
   exact h4
  have h5 := condW_of h4 (w_not (w_lt w_lit (w_len_list (w_arg rfl))))
  rw [List.length_map] at h5
  refine Nat.le_of_not_lt fun q => ?_
  have q' : (n : Int) < ((ns.length : Nat) : Int) := by omega
  first
   | (rw [decide_eq_true q'] at h5; exact absurd h5 (by decide))
   | (simp at h5; omega)
 cases hwl with
 | cons w1 w2 =>
  cases w2
  cases w1 with
  | list ho hall => exact ⟨_, _, ns, rfl, rfl, ho, ints_of_wellAll ns _ hall, hlen⟩
theorem post_true (l : OpenLaw) (args : List WData) : l.row.toRowW.claim.post args (.bool true) args = true :=
 postW_of (r := l.row.toRowW) (X := (true == true))
  (show WShape.has [] (.bool true) .bool = true by first | rfl | decide | simp [WShape.has, WShape.arms, WShape.armsAll])
  (show (WTm.eq .res (.lit (.bool true))).value [] { args := args, res := some (.bool true), after := args } = some (.bool (true == true)) from w_eq_bool (w_res rfl) w_lit) rfl
theorem attach_call {l : OpenLaw} {n : Nat} {q : Program} {loose : List Str} {XP : (Str → Option Value) → Heap → Prop} {YP : World → Heap → Prop} {d : DefRec}
 (hn : l.most = some n) (hdf : d.params.defaults = [])
 (call : ∀ (w : World) (s₀ s₁ : Shared) (mg mb : Str → Option Value) (fa : Addr) (o : Obj) (pm cd doc : Value) (a : Addr) (vs : List Value) (ns : List Int),
  Ground q loose [] XP w s₀ mg mb s₁.heap → YP w s₁.heap →
  s₁.heap.get? fa = some o → o.data = .func (docDef d.name d.params d.body d.scope pm cd doc) → s₁.heap.CodeRec cd d.name → mg d.name = some (.ref fa) →
  s₁.heap.get? a = some { cls := .type "list", data := .seq vs.toArray } → IntsAre vs ns → ns.length ≤ n → s₁.gens = #[] →
  codeAny (model l.prog w) callerA (.call (.ref fa) ⟨[.ref a], []⟩) (fun r s' => r = .ok (.ret (.bool true)) ∧ OldK s₁.heap s'.heap ∧ s'.os = s₁.os ∧ AllBare s'.gens) s₁) :
 WalkO q loose XP YP l.row.toRowW d [] (fun f vs => PySem.call f vs) := by
 intro w s₀ s₁ mg mb G Y fa o pm cd doc dV kV ho hd hcd hD hmg hg args vals as hpre hlay hrd hwl hlo
 obtain rfl : dV = .none := Dflts.none hD hdf
 obtain rfl : kV = .none := Dflts.noKw hD
 obtain ⟨a, vs, ns, rfl, rfl, hobj, hints, hlen⟩ := script_of hn hpre hwl
 refine enter_call (codeAny_mono (call w s₀ s₁ mg mb fa o pm cd doc a vs ns G Y ho (fd_plain hd) hcd hmg hobj hints hlen hg) fun r s' hq => ?_)
 obtain ⟨rfl, h2, h3, h4⟩ := hq
 exact ⟨.inl ⟨.bool true, .bool true, [], rfl, fun _ => rfl, .bool true, post_true l _, fun _ => ⟨List.Pairwise.nil, fun _ hm => (nomatch hm)⟩⟩, h2, h3, h4⟩
end Att
namespace L2
open PySem PySem.Spec PyProof.Rows
theorem vals_ints : ∀ {vs : List Value} {ns : List Int}, IntsAre vs ns → Vals (ns.map V.int) vs
 | _, _, .nil => .nil
 | _, _, .cons n t h => .cons ⟨t, rfl⟩ (vals_ints h)
def Only (H : Hp) : Prop := ∀ b, H b = none ∨ ∃ o xs, H b = some (.frz o (.lst xs))
theorem law_call {P : Program} {w : World} {K : PySem.W.Frag} {mg mb : Str → Option Value} {CX : CXT} {k : Nat} {fa a : Addr} {fd : FuncData} {x : Str} {sp : Sp} {s₁ : Shared} {vs : List Value} {ns : List Int}
 (KX : K.In s₁.heap) (hns : s₁.heap.Ns mainGlobals mg) (hb : s₁.heap.Ns builtinsNs mb) (hbb : ∀ x : Str, x ≠ "__name__" → mb x = bootBuiltins x) (hlim : s₁.heap.NoLimit) (hg : s₁.gens = #[])
 (ha : s₁.heap.get? a = some { cls := .type "list", data := .seq vs.toArray }) (hi : IntsAre vs ns) (hl : ns.length ≤ sizeLine) (hr : Room k callerA)
 (F : ∀ base : Heap, K.In base → base.Ns mainGlobals mg → FnOk P w K mg base CX k fa fd [x] sp) (hbind : ∀ (s : Shared) (u : Value), BindsTo s fd ⟨[u], []⟩ [(x, u)])
 (hsp : ∀ H : Hp, Only H → SqL K H a (ns.map V.int) → sp [.ref a] H (fun v _ => v = .bl true) fun _ _ _ => False)
 (hCX : ∀ H e s', CX [] H s₁ (fun _ _ _ => False) e s' → False) :
 codeAny (model P w) callerA (.call (.ref fa) ⟨[.ref a], []⟩) (fun r s' => r = .ok (.ret (.bool true)) ∧ OldK s₁.heap s'.heap ∧ s'.os = s₁.os ∧ AllBare s'.gens) s₁ := by
 have rv := vals_ints hi
 have lenV := hi.length
 -- from an abstract heap in which nothing but the script may be tracked
 have core : ∀ H : Hp, Only H → SqL K H a (ns.map V.int) → HOk P w H s₁.heap → (∀ b, H b ≠ none → b = a) → (H a ≠ none → K.lookup a = none) →
  codeAny (model P w) callerA (.call (.ref fa) ⟨[.ref a], []⟩) (fun r s' => r = .ok (.ret (.bool true)) ∧ OldK s₁.heap s'.heap ∧ s'.os = s₁.os ∧ AllBare s'.gens) s₁ := by
  intro H hO hS hok hA hK
  have base_of : ∀ {b : Addr} {o : Obj}, s₁.heap.get? b = some o → H b = none → (hidT s₁.heap H).get? b = some o := fun e n => hidT_get e n
  have noA : ∀ {b : Addr} {o : Obj} {es : Array DictEntry} {ep : Nat}, s₁.heap.get? b = some o → o.data = .dict es ep → H b = none := fun {b o es ep} e d => by
   cases q : H b with
   | none => rfl
   | some u =>
    have e' : b = a := hA b (by rw [q]; simp)
    subst e'
    rw [ha] at e; cases e
    have d' : Data.seq vs.toArray _ = Data.dict es ep := d
    cases d'
  have nsK : ∀ {b : Addr} {m : Str → Option Value}, s₁.heap.Ns b m → (hidT s₁.heap H).Ns b m := fun {b m} ⟨o, es, ep, e, d, r⟩ => ⟨o, es, ep, base_of e (noA e d), d, r⟩
  have hKb : K.In (hidT s₁.heap H) := fun b o e => base_of (KX b o e) (by
   cases q : H b with
   | none => rfl
   | some u =>
    have e' : b = a := hA b (by rw [q]; simp)
    subst e'
    rw [hK (by rw [q]; simp)] at e; cases e)
  have hM : Mod K mg (hidT s₁.heap H) := ⟨hKb, nsK hns, ⟨mb, nsK hb, hbb⟩, let ⟨mc, h1, h2⟩ := hlim; ⟨mc, nsK h1, h2⟩⟩
  have e0 : Env0 P w K mg (hidT s₁.heap H) callerA [] s₁ H := ⟨rfl, hM, fun b o e => of_hidT e, Nat.le_of_eq (hidT_size _ _), trivial, fun b hb => absurd (show b ∈ ([] : List Addr) from hb) (by simp), hok, .of_eq hg⟩
  refine codeAny_mono ((F _ hKb (nsK hns)).run callerA [] s₁ H ⟨[.ref a], []⟩ [.ref a] [.ref a] _ _ hr e0 (hbind s₁ (.ref a)) (.cons rfl .nil) (hsp H hO hS)) fun r s' h => ?_
  cases r with
  | error e => exact (hCX H e s' h).elim
  | ok fl =>
   cases fl with
   | next => exact False.elim h
   | brk => exact False.elim h
   | cont => exact False.elim h
   | ret u =>
    obtain ⟨v, H', os, bare, un, hok', r', q⟩ := h
    have q' : v = .bl true := q
    subst q'
    obtain rfl : u = Value.bool true := r'
    refine ⟨rfl, OldK.of_keep fun b o e => ?_, os, bare⟩
    cases q : H b with
    | none => exact un.keep b o e q (by intro z; exact absurd (show b ∈ ([] : List Addr) from z) (by simp)) (by simp)
    | some u =>
     rcases hO b with z | ⟨ob, xs, z⟩
     · rw [q] at z; cases z
     · have z2 := un.frzs b ob _ z
       obtain ⟨e1, _⟩ := hok b _ z
       obtain ⟨e2, _⟩ := hok' b _ z2
       rw [e] at e1; cases e1
       exact e2
 cases hk : K.lookup a with
 | some o =>
  -- the script is one of the module's own objects
  have e := KX a o hk
  rw [ha] at e
  cases e
  refine core (fun _ => none) (fun _ => .inl rfl) (.inr ⟨_, vs.toArray, _, hk, rfl, rfl, rfl, by rw [List.size_toArray, lenV]; exact hl, by simpa using rv⟩) (fun b u z => by have z' : (none : Option HO) = some u := z; cases z') (fun b z => absurd rfl z) fun z => absurd rfl z
 | none =>
  refine core (fun b => if b = a then some (.frz { cls := .type "list", data := .seq vs.toArray } (.lst (ns.map V.int))) else none) (fun b => ?_) (.inl (.inr ⟨{ cls := .type "list", data := .seq vs.toArray }, if_pos rfl⟩)) (fun b u z => ?_) (fun b z => ?_) fun _ => hk
  · by_cases hb : b = a
    · exact .inr ⟨_, _, if_pos hb⟩
    · exact .inl (if_neg hb)
  · by_cases hb : b = a
    · have z' := (if_pos hb).symm.trans z
      cases z'
      subst hb
      exact ⟨ha, by rw [List.length_map]; exact hl, vs, _, rv, ha⟩
    · have z' := (if_neg hb).symm.trans z
      cases z'
  · by_cases hb : b = a
    · exact hb
    · exact absurd (if_neg hb) z
theorem walk_of {l : PySem.W.OpenLaw} {n k : Nat} {q : Program} {loose : List Str} {XP : (Str → Option Value) → Heap → Prop} {YP : World → Heap → Prop} {d : DefRec} {K : Params → PySem.W.Frag} {CX : World → CXT} {sp : World → Sp} {x : Str}
 (hn : l.most = some n) (hn2 : n ≤ sizeLine) (hdf : d.params.defaults = []) (hr : Room k callerA)
 (hY : ∀ (w : World) (h : Heap), YP w h → (K w.params).In h)
 (F : ∀ (w : World) (mg : Str → Option Value) (fa : Addr) (h : Heap), (K w.params).In h → h.Ns mainGlobals mg → mg d.name = some (.ref fa) →
  ∃ fd : FuncData, (∀ (s : Shared) (u : Value), BindsTo s fd ⟨[u], []⟩ [(x, u)]) ∧
   ∀ base : Heap, (K w.params).In base → base.Ns mainGlobals mg → FnOk l.prog w (K w.params) mg base (CX w) k fa fd [x] (sp w))
 (hsp : ∀ (w : World) (H : Hp) (a : Addr) (ns : List Int), ns.length ≤ n → Only H → SqL (K w.params) H a (ns.map V.int) → sp w [.ref a] H (fun v _ => v = .bl true) fun _ _ _ => False)
 (hCX : ∀ (w : World) (H : Hp) (s : Shared) (e : Value) (s' : Shared), CX w [] H s (fun _ _ _ => False) e s' → False) :
 PySem.W.WalkO q loose XP YP l.row.toRowW d [] (fun f vs => PySem.call f vs) := by
 refine Att.attach_call hn hdf fun w s₀ s₁ mg mb fa o pm cd doc a vs ns G Y ho hd hcd hmg hobj hints hlen hg => ?_
 have KX := hY w _ Y
 obtain ⟨fd, hb, hF⟩ := F w mg fa _ KX G.T.g hmg
 exact law_call KX G.T.g G.T.b G.T.builtins G.T.nolimit hg hobj hints (Nat.le_trans hlen hn2) hr hF hb (fun H hO hS => hsp w H a ns hlen hO hS) fun H e s' => hCX w H s₁ e s'
def defArgs (s : Stmt) : Arguments := match s with
 | .FunctionDef _ a _ _ _ _ _ _ _ _ => a
 | _ => { posonlyargs := [], args := [], vararg := none, kwonlyargs := [], kw_defaults := [], kwarg := none, defaults := [] }
def defBody (s : Stmt) : List Stmt := match s with
 | .FunctionDef _ _ b _ _ _ _ _ _ _ => b
 | _ => []
def defScope (s : Stmt) : Scope := match s with
 | .FunctionDef _ _ _ _ _ _ sc _ _ _ => sc
 | _ => { kind := .function, names := [], isGenerator := false, isCoroutine := false }
abbrev CX0 : CXT := fun _ _ _ _ _ _ => False
abbrev E0 : XK := fun _ _ _ => False
theorem pass0 {X : Cx} : Passes CX0 X E0 := fun _ _ _ _ _ _ _ h => h.elim
structure Fun (K : PySem.W.Frag) (x qual : Str) (st : Stmt) (f : Addr) (fd : FuncData) : Prop where
 ex : ∃ (oc : Value) (od : Option Addr) (kV doc pm : Value) (an : Option Addr) (cdv ct : Value) (osl : Array (Option Value)),
  fd = PySem.W.fnOf x qual (defArgs st) (defBody st) (defScope st) .none kV doc pm an cdv ct ∧ K.lookup f = some ⟨oc, od, .func fd, osl⟩ ∧ PySem.W.codeIn K cdv qual = true
 kp : PySem.W.keepIn K (.ref f) = true
section
variable {P : Program} {w : World} {K : PySem.W.Frag} {mg : Str → Option Value} {base : Heap}
theorem Fun.ok {x qual : Str} {st : Stmt} {f : Addr} {fd : FuncData} {N ps : List Str} {k : Nat} {sp : Sp} (F : Fun K x qual st f fd) (S : FnScope N ps (defScope st)) (len : ∀ vs H Q E, sp vs H Q E → vs.length = ps.length)
 (hbody : ∀ (cdv : Value) (A : Around) (outer : List Env) (s : Shared) (H : Hp) (vs : List V) (Q : VK) (E : XK), Room k (A.deeper (envOfC qual (defScope st) s.heap.objs.size f cdv)) → sp vs H Q E →
  ∃ t, PSs (cxOf CX0 P w K mg base N qual (defScope st) f cdv A outer s H E).nox (defBody st) t ∧ t { nx := fun _ H' => Q .non H', rt := Q } (start N vs) H) : FnOk P w K mg base CX0 (k + 1) f fd ps sp := by
 obtain ⟨oc, od, kV, doc, pm, an, cdv, ct, osl, rfl, lk, hcd⟩ := F.ex
 refine fn_of lk hcd S len fun A outer s H vs Q E hr hsp => ?_
 obtain ⟨t, h, q⟩ := hbody cdv A outer s H vs Q E hr hsp
 exact ⟨t, h.nox, q⟩
theorem Fun.binds {x qual : Str} {st : Stmt} {f : Addr} {fd : FuncData} {ps : List Str} (F : Fun K x qual st f fd)
 (h : ∀ (kV doc pm : Value) (an : Option Addr) (cdv ct : Value) (us : List Value), us.length = ps.length → bindArgs (PySem.W.fnOf x qual (defArgs st) (defBody st) (defScope st) .none kV doc pm an cdv ct) ⟨us, []⟩ = pure (ps.zip us)) : Binds K fd ps [] := by
 obtain ⟨oc, od, kV, doc, pm, an, cdv, ct, osl, rfl, lk, hcd⟩ := F.ex
 exact .all (h kV doc pm an cdv ct)
theorem fun_mk {x qual : Str} {st : Stmt} {f : Addr} {oc : Value} {od an : Option Addr} {osl : Array (Option Value)} {kV doc pm cdv ct : Value} (l : K.lookup f = some ⟨oc, od, .func (PySem.W.fnOf x qual (defArgs st) (defBody st) (defScope st) .none kV doc pm an cdv ct), osl⟩)
 (c : PySem.W.codeIn K cdv qual = true) (k : PySem.W.keepIn K (.ref f) = true) : Fun K x qual st f (PySem.W.fnOf x qual (defArgs st) (defBody st) (defScope st) .none kV doc pm an cdv ct) := ⟨⟨oc, od, kV, doc, pm, an, cdv, ct, osl, rfl, l, c⟩, k⟩
end
theorem iteF {A B : Prop} (h : B) : if false = true then A else B := by
 rw [if_neg Bool.false_ne_true]
 exact h
theorem iteT {A B : Prop} (h : A) : if true = true then A else B := by
 rw [if_pos rfl]
 exact h
theorem ite2 {c A B : Prop} [Decidable c] (h1 : c → A) (h2 : ¬ c → B) : if c then A else B := by
 by_cases h : c
 · rw [if_pos h]
   exact h1 h
 · rw [if_neg h]
   exact h2 h
def Same (H H' : Hp) : Prop := ∀ b o, H b = some o → H' b = some o
theorem Same.refl (H : Hp) : Same H H := fun _ _ h => h
theorem Same.trans {H H1 H2 : Hp} (a : Same H H1) (b : Same H1 H2) : Same H H2 := fun c o h => b c o (a c o h)
theorem Same.seq {K : PySem.W.Frag} {H H' : Hp} {a : Addr} {xs : List V} (e : Same H H') (h : SqL K H a xs) : SqL K H' a xs := by
 rcases h with (h | ⟨o, h⟩) | h
 · exact .inl (.inl (e _ _ h))
 · exact .inl (.inr ⟨o, e _ _ h⟩)
 · exact .inr h
section
variable {κ : Type} [DecidableEq κ]
def valV (kvs : List (κ × V)) (k : κ) : Option V := (kvs.find? fun kv => decide (kv.1 = k)).map (·.2)
def putK (kvs : List (κ × V)) (k : κ) (v : V) : List (κ × V) :=
 if (kvs.any fun kv => decide (kv.1 = k)) = true then kvs.map (fun kv => if kv.1 = k then (kv.1, v) else kv) else kvs ++ [(k, v)]
theorem valV_pos {p : κ × V} {r : List (κ × V)} {k : κ} (e : p.1 = k) : valV (p :: r) k = some p.2 := by simp [valV, List.find?_cons, e]
theorem valV_neg {p : κ × V} {r : List (κ × V)} {k : κ} (e : ¬ p.1 = k) : valV (p :: r) k = valV r k := by simp [valV, List.find?_cons, e]
theorem valV_any (k : κ) : ∀ kvs : List (κ × V), (kvs.any fun kv => decide (kv.1 = k)) = (valV kvs k).isSome
 | [] => rfl
 | p :: r => by
  rw [List.any_cons]
  by_cases e : p.1 = k
  · simp only [valV_pos e, decide_eq_true e, Bool.true_or, Option.isSome_some]
  · rw [valV_neg e, decide_eq_false e, Bool.false_or]; exact valV_any k r
theorem length_putK (kvs : List (κ × V)) (k : κ) (v : V) : (putK kvs k v).length ≤ kvs.length + 1 := by
 unfold putK
 split
 · rw [List.length_map]; omega
 · rw [List.length_append, List.length_cons, List.length_nil]; omega
theorem RelO.isSome_eq {o : Option V} {u : Option Value} (r : RelO o u) : o.isSome = u.isSome := by
 cases o with
 | none => cases u with
  | none => rfl
  | some _ => exact (show False from r).elim
 | some _ => cases u with
  | none => exact (show False from r).elim
  | some _ => rfl
theorem RelO.getD {o : Option V} {u : Option Value} {d : V} {d' : Value} (r : RelO o u) (rd : RelV d d') : RelV (o.getD d) (u.getD d') := by
 cases o with
 | none => cases u with
  | none => exact rd
  | some _ => exact (show False from r).elim
 | some _ => cases u with
  | none => exact (show False from r).elim
  | some _ => exact r
theorem KV.val {kvs : List (κ × V)} {vs : List (κ × Value)} (r : KV kvs vs) (k : κ) : RelO (valV kvs k) (valueAt vs k) := by
 unfold KV at r
 induction r with
 | nil => exact True.intro
 | @cons p q ps qs h t ih =>
  obtain ⟨h1, h2⟩ := h
  by_cases e : p.1 = k
  · have e' : q.1 = k := h1.symm.trans e
    have b : valueAt (q :: qs) k = some q.2 := by simp [valueAt, List.find?_cons, e']
    rw [valV_pos e, b]; exact h2
  · have e' : ¬ q.1 = k := fun z => e (h1.trans z)
    have b : valueAt (q :: qs) k = valueAt qs k := by simp [valueAt, List.find?_cons, e']
    rw [valV_neg e, b]; exact ih
theorem KV.any {kvs : List (κ × V)} {vs : List (κ × Value)} (r : KV kvs vs) (k : κ) : (kvs.any fun kv => decide (kv.1 = k)) = vs.any fun kv => decide (kv.1 = k) := by
 unfold KV at r
 induction r with
 | nil => rfl
 | cons h t ih => rw [List.any_cons, List.any_cons, ih, h.1]
theorem KV.repl {kvs : List (κ × V)} {vs : List (κ × Value)} (r : KV kvs vs) (k : κ) {y : V} {u : Value} (ry : RelV y u) :
 KV (kvs.map fun kv => if kv.1 = k then (kv.1, y) else kv) (vs.map fun kv => if kv.1 = k then (kv.1, u) else kv) := by
 unfold KV at r ⊢
 induction r with
 | nil => exact .nil
 | @cons p q ps qs h t ih =>
  rw [List.map_cons, List.map_cons]
  refine .cons ?_ ih
  obtain ⟨h1, h2⟩ := h
  by_cases e : p.1 = k
  · rw [if_pos e, if_pos (h1.symm.trans e)]; exact ⟨h1, ry⟩
  · rw [if_neg e, if_neg (fun z => e (h1.trans z))]; exact ⟨h1, h2⟩
theorem KV.put {kvs : List (κ × V)} {vs : List (κ × Value)} (r : KV kvs vs) (k : κ) {y : V} {u : Value} (ry : RelV y u) : KV (putK kvs k y) (stored vs k u) := by
 unfold putK stored
 rw [r.any k]
 by_cases e : (vs.any fun kv => decide (kv.1 = k)) = true
 · rw [if_pos e, if_pos e]; exact r.repl k ry
 · rw [if_neg e, if_neg e]; exact Paired.snoc r ⟨rfl, ry⟩
theorem KV.length {kvs : List (κ × V)} {vs : List (κ × Value)} (r : KV kvs vs) : kvs.length = vs.length := Paired.length r
end
theorem kV_is {P : Program} {w : World} {k : Key} {u : Value} (r : RelV (kV k) u) : (mixKind P w).is k u = true := by
 cases k with
 | inl i => obtain ⟨t, e⟩ := (show ∃ t, u = Value.int i t from r); subst e; exact mixKind_int P w i t
 | inr x => obtain ⟨t, e⟩ := (show ∃ t, u = Value.str x t from r); subst e; exact mixKind_str P w x t
theorem items_are {P : Program} {w : World} : ∀ {ks : List Key} {us : List Value}, Vals (ks.map kV) us → ItemsAre (mixKind P w) ks us
 | [], _, r => by rw [List.map_nil] at r; cases r; exact .nil
 | k :: ks, _, r => by
  rw [List.map_cons] at r
  cases r with
  | cons h t => exact .cons (kV_is h) (items_are t)
abbrev KT (H : Hp) : List (List Key × V) → List (List Key × Addr × Value) → Prop := Paired fun p q => p.1 = q.1 ∧ H q.2.1 = some (.tup (p.1.map kV)) ∧ RelV p.2 q.2.2
theorem KT.val {H : Hp} {kvs : List (List Key × V)} {xs : List (List Key × Addr × Value)} (r : KT H kvs xs) (k : List Key) : RelO (valV kvs k) ((atKey xs k).map (·.2)) := by
 induction r with
 | nil => exact True.intro
 | @cons p q ps qs h t ih =>
  obtain ⟨h1, _, h2⟩ := h
  by_cases e : p.1 = k
  · have e' : q.1 = k := h1.symm.trans e
    have b : atKey (q :: qs) k = some q.2 := by simp [atKey, List.find?_cons, e']
    rw [valV_pos e, b]; exact h2
  · have e' : ¬ q.1 = k := fun z => e (h1.trans z)
    have b : atKey (q :: qs) k = atKey qs k := by simp [atKey, List.find?_cons, e']
    rw [valV_neg e, b]; exact ih
theorem KT.repl {H : Hp} {kvs : List (List Key × V)} {xs : List (List Key × Addr × Value)} (r : KT H kvs xs) (k : List Key) {y : V} {u : Value} (ry : RelV y u) :
 KT H (kvs.map fun kv => if kv.1 = k then (kv.1, y) else kv) (xs.map (putAt k u)) := by
 induction r with
 | nil => exact .nil
 | @cons p q ps qs h t ih =>
  rw [List.map_cons, List.map_cons]
  refine .cons ?_ ih
  obtain ⟨h1, h2, h3⟩ := h
  unfold putAt
  by_cases e : p.1 = k
  · rw [if_pos e, if_pos (h1.symm.trans e)]; exact ⟨h1, h2, ry⟩
  · rw [if_neg e, if_neg (fun z => e (h1.trans z))]; exact ⟨h1, h2, h3⟩
theorem KT.put {H : Hp} {kvs : List (List Key × V)} {xs : List (List Key × Addr × Value)} (r : KT H kvs xs) (k : List Key) {b : Addr} {y : V} {u : Value} (hb : H b = some (.tup (k.map kV))) (ry : RelV y u) :
 KT H (putK kvs k y) (storedH xs k b u) := by
 have e : (kvs.any fun kv => decide (kv.1 = k)) = (atKey xs k).isSome := by
  rw [valV_any, (r.val k).isSome_eq, Option.isSome_map]
 unfold putK storedH
 rw [e]
 by_cases q : (atKey xs k).isSome = true
 · rw [if_pos q, if_pos q]; exact r.repl k ry
 · rw [if_neg q, if_neg q]; exact Paired.snoc r ⟨rfl, hb, ry⟩
theorem KT.keeps {H H' : Hp} {kvs : List (List Key × V)} {xs : List (List Key × Addr × Value)} (r : KT H kvs xs) (ht : ∀ b ys, H b = some (.tup ys) → H' b = some (.tup ys)) : KT H' kvs xs :=
 Paired.mapP r fun _ _ z => ⟨z.1, ht _ _ z.2.1, z.2.2⟩
section
variable {P : Program} {w : World} {H : Hp} {h : Heap} {a : Addr}
theorem rd_of {u : HO} (ok : HOk P w H h) (e : Rd H a u) : ObjOk P w H h a u := e.ok ok
theorem dk_rd {kvs : List (Key × V)} (ok : HOk P w H h) (e : Rd H a (.dK kvs)) : kvs.length ≤ sizeLine ∧ (a == sysModules) = false ∧ ∃ vs, KV kvs vs ∧ h.DictOf (mixKind P w) a vs :=
 show ObjOk P w H h a (.dK kvs) from rd_of ok e
theorem dk_of {kvs : List (Key × V)} (ok : HOk P w H h) (e : H a = some (.dK kvs)) : kvs.length ≤ sizeLine ∧ (a == sysModules) = false ∧ ∃ vs, KV kvs vs ∧ h.DictOf (mixKind P w) a vs := dk_rd ok (.inl e)
theorem key_of {ks : List Key} (ok : HOk P w H h) (e : H a = some (.tup (ks.map kV))) : (tupleKind (mixKind P w)).is h ks a := by
 obtain ⟨_, its, r, o, h1, h2, n, h3⟩ := (show ObjOk P w H h a (.tup (ks.map kV)) from ok a _ e)
 exact ⟨o, its.toArray, n, h1, h2, h3, by simpa using items_are r⟩
theorem dt_rd {kvs : List (List Key × V)} (ok : HOk P w H h) (e : Rd H a (.dT kvs)) : kvs.length ≤ sizeLine ∧ (a == sysModules) = false ∧
 ∃ xs, KT H kvs xs ∧ h.DictOfH (tupleKind (mixKind P w)) a xs := by
 obtain ⟨z, y, xs, r, o, es, ep, h1, h2, h3, h4, h5⟩ := (show ObjOk P w H h a (.dT kvs) from rd_of ok e)
 refine ⟨z, y, xs, r, o, es, ep, h1, h2, h3, h4, fun x hx => ?_, h5⟩
 have all : ∀ {l : List (List Key × V)} {m : List (List Key × Addr × Value)}, KT H l m → ∀ x ∈ m, (tupleKind (mixKind P w)).is h x.1 x.2.1 := by
  intro l m q
  induction q with
  | nil => intro x hx; exact nomatch hx
  | @cons p q ps qs hq t ih =>
   intro x hx
   rcases List.mem_cons.mp hx with e | hx
   · subst e
     exact key_of ok (by rw [← hq.1]; exact hq.2.1)
   · exact ih x hx
 exact all r x hx
theorem dt_of {kvs : List (List Key × V)} (ok : HOk P w H h) (e : H a = some (.dT kvs)) : kvs.length ≤ sizeLine ∧ (a == sysModules) = false ∧
 ∃ xs, KT H kvs xs ∧ h.DictOfH (tupleKind (mixKind P w)) a xs := dt_rd ok (.inl e)
end
def DGet (H : Hp) (a : Addr) (y : V) (r : Option V) : Prop :=
 (∃ kvs k, Rd H a (.dK kvs) ∧ y = kV k ∧ r = valV kvs k) ∨ ∃ kvs k b, Rd H a (.dT kvs) ∧ y = .ref b ∧ H b = some (.tup (k.map kV)) ∧ r = valV kvs k
def DPut (H : Hp) (a : Addr) (y v : V) (H' : Hp) : Prop :=
 (∃ kvs k, H a = some (.dK kvs) ∧ y = kV k ∧ kvs.length < sizeLine ∧ H' = upd H a (.dK (putK kvs k v))) ∨
 ∃ kvs k b, H a = some (.dT kvs) ∧ y = .ref b ∧ H b = some (.tup (k.map kV)) ∧ kvs.length < sizeLine ∧ H' = upd H a (.dT (putK kvs k v))
theorem DGet.k {H : Hp} {a : Addr} {kvs : List (Key × V)} {k : Key} (e : H a = some (.dK kvs)) : DGet H a (kV k) (valV kvs k) := .inl ⟨kvs, k, .inl e, rfl, rfl⟩
theorem DGet.t {H : Hp} {a b : Addr} {kvs : List (List Key × V)} {k : List Key} (e : H a = some (.dT kvs)) (eb : H b = some (.tup (k.map kV))) : DGet H a (.ref b) (valV kvs k) := .inr ⟨kvs, k, b, .inl e, rfl, eb, rfl⟩
theorem DPut.k {H : Hp} {a : Addr} {kvs : List (Key × V)} {k : Key} {v : V} (e : H a = some (.dK kvs)) (hl : kvs.length < sizeLine) : DPut H a (kV k) v (upd H a (.dK (putK kvs k v))) := .inl ⟨kvs, k, e, rfl, hl, rfl⟩
theorem DPut.t {H : Hp} {a b : Addr} {kvs : List (List Key × V)} {k : List Key} {v : V} (e : H a = some (.dT kvs)) (eb : H b = some (.tup (k.map kV))) (hl : kvs.length < sizeLine) :
 DPut H a (.ref b) v (upd H a (.dT (putK kvs k v))) := .inr ⟨kvs, k, b, e, rfl, eb, hl, rfl⟩
section
variable {X : Cx} {pins : List (Addr × Obj)} {σ : St} {H : Hp} {s : Shared} {a : Addr} {y v : V} {u r : Value} {o : Option V} {A : Around} {E : Value → Shared → Prop}
theorem Inv.big (I : Inv X pins σ H s) : sysModules < s.heap.objs.size := by
 have h : mainGlobals < s.heap.objs.size := (I.mod.glob.keeps I.bk).lt
 exact Nat.lt_trans (by decide) h
theorem d_getItem {Q : Value → Shared → Prop} (hu : A.units + 1 < cLine) (I : Inv X pins σ H s) (g : DGet H a y (some v)) (ry : RelV y u) (h : ∀ w' s', Inv X pins σ H s' → RelV v w' → Q w' s') :
 wpAny (model X.prog X.w) A (getItem (.ref a) u) Q E s := by
 rcases g with ⟨kvs, k, e, ey, l⟩ | ⟨kvs, k, b, e, ey, eb, l⟩
 · subst ey
   obtain ⟨z, hd, vs, rel, dd⟩ := dk_rd I.hok e
   obtain ⟨w', hw, rw'⟩ := RelO.some_of (v := v) (o := valueAt vs k) (by rw [l]; exact rel.val k)
   exact wpAny_getItem_of (kV_is ry) dd.mapOf hw (h w' _ (I.tok _) rw')
 · subst ey
   cases (show u = Value.ref b from ry)
   obtain ⟨z, hd, xs, rel, dd⟩ := dt_rd I.hok e
   obtain ⟨w', hw, rw'⟩ := RelO.some_of (v := v) (o := (atKey xs k).map (·.2)) (by rw [l]; exact rel.val k)
   obtain ⟨p, hp, hp2⟩ := Option.map_eq_some_iff.mp hw
   refine wpAny_getItem_heap (tupleKind_room_in1 hu) (key_of I.hok eb) dd hp ?_
   rw [hp2]
   exact h w' _ (I.tok _) rw'
theorem d_in {Q : Value → Shared → Prop} (hu : A.units + 1 < cLine) (I : Inv X pins σ H s) (g : DGet H a y o) (ry : RelV y u) (h : ∀ s', Inv X pins σ H s' → Q (.bool o.isSome) s') :
 wpAny (model X.prog X.w) A (compareOp .In u (.ref a)) Q E s := by
 rcases g with ⟨kvs, k, e, ey, l⟩ | ⟨kvs, k, b, e, ey, eb, l⟩
 · subst ey
   obtain ⟨z, hd, vs, rel, dd⟩ := dk_rd I.hok e
   refine wpAny_in_of (kV_is ry) hd dd.mapOf ?_
   rw [← (rel.val k).isSome_eq, ← l]
   exact h _ (I.tok _)
 · subst ey
   cases (show u = Value.ref b from ry)
   obtain ⟨z, hd, xs, rel, dd⟩ := dt_rd I.hok e
   refine wpAny_in_heap (tupleKind_room_in1 hu) (key_of I.hok eb) hd dd ?_
   have q := (rel.val k).isSome_eq
   rw [Option.isSome_map] at q
   rw [← q, ← l]
   exact h _ (I.tok _)
theorem d_write {h' : Heap} {t' : Nat} {ob : HO} (I : Inv X pins σ H s) (mu : Mut (H a)) (hs : Heap.SameBut a s.heap h') (he : ∃ q, h'.get? a = some q) (new : ObjOk X.prog X.w (upd H a ob) h' a ob) :
 Inv X pins σ (upd H a ob) { s with heap := h', toks := t' } :=
 I.write (x := a) (e := a) mu (.inl rfl) (fun b q hb z => (hs.2 b hb).trans z) he new
theorem dk_new {P : Program} {w : World} {H' : Hp} {h' : Heap} {kvs : List (Key × V)} {vs : List (Key × Value)} (z : kvs.length ≤ sizeLine) (hd : (a == sysModules) = false) (rel : KV kvs vs) (dd : h'.DictOf (mixKind P w) a vs) :
 ObjOk P w H' h' a (.dK kvs) := ⟨z, hd, vs, rel, dd⟩
theorem d_setItem {H' : Hp} {Q : Unit → Shared → Prop} (hu : A.units + 1 < cLine) (I : Inv X pins σ H s) (g : DPut H a y v H') (ry : RelV y u) (rv : RelV v r) (h : ∀ s', Inv X pins σ H' s' → Q () s') :
 wpAny (model X.prog X.w) A (setItem (.ref a) u r) Q E s := by
 rcases g with ⟨kvs, k, e, ey, l, eH⟩ | ⟨kvs, k, b, e, ey, eb, l, eH⟩
 · subst ey eH
   obtain ⟨z, hd, vs, rel, dd⟩ := dk_of I.hok e
   have hz : vs.length ≤ sizeLine := by rw [← rel.length]; exact z
   have hl : (putK kvs k v).length ≤ sizeLine := by have := length_putK kvs k v; omega
   refine wpAny_setItem_pairs (hsz := hz) (kV_is ry) dd fun h' dd' hs => h _ ?_
   have he : ∃ q, h'.get? a = some q := let ⟨q, _, _, hq, _⟩ := dd'; ⟨q, hq⟩
   exact d_write I (by rw [e]; exact True.intro) hs he (dk_new hl hd (rel.put k rv) dd')
 · subst ey eH
   cases (show u = Value.ref b from ry)
   obtain ⟨z, hd, xs, rel, dd⟩ := dt_of I.hok e
   have hz : xs.length ≤ sizeLine := by rw [← Paired.length rel]; exact z
   have hl : (putK kvs k v).length ≤ sizeLine := by have := length_putK kvs k v; omega
   refine wpAny_setItem_heap (hsz := hz) (tupleKind_room_in1 hu) (key_of I.hok eb) dd fun h' dd' hs => h _ ?_
   obtain ⟨q, es, ep, hq, h2, h3, h4, _, h5⟩ := dd'
   refine d_write I (by rw [e]; exact True.intro) hs ⟨q, hq⟩ ⟨hl, hd, _, (rel.put k eb rv).keeps fun c ys ec => ?_, q, es, ep, hq, h2, h3, h4, h5⟩
   rw [upd_ne (ne_of ec e (fun z => nomatch z))]
   exact ec
end
def NoSl (i : Expr) : Prop := ∀ ov iv, subscripted i false ov iv = operate [ov, iv] (getItem ov iv)
theorem subD_of {prog : Program} {w : World} {A : Around} {E : Value → Shared → Prop} {s : Shared} {env : Env} {value slice : Expr} {pos : Pos} {T id : String} {Q : Value → Shared → Prop}
 (hl : typeLookup (.type T) "__getitem__" = pure (some (.builtin id))) (hs : NoSl slice)
 (h : wpAny (model prog w) A (eval value env) (fun o s₁ => wpAny (model prog w) A (eval slice env) (fun i s₂ => s₂.TypeIs o T ∧ wpAny (model prog w) A (getItem o i) Q E s₂) E s₁) E s) :
 wpAny (model prog w) A (eval (.Subscript value slice pos) env) Q E s := by
 refine Subscript_ (wpAny_mono h (fun o s₁ h₁ => wpAny_mono h₁ (fun i s₂ h₂ => ?_) fun _ _ x => x) fun _ _ x => x)
 obtain ⟨hT, h₂⟩ := h₂
 unfold subscriptTail
 refine wpAny_bind ?_
 rw [getitemInPython_of_ne hT.not_modules]
 refine wpAny_bind (wpAny_specialOf hT hl ?_)
 have fin : wpAny (model prog w) A (subscripted slice false o i) (fun r s₃ => wpAny (model prog w) A (letTemporaryGo value o r >>= fun _ => pure r) Q E s₃) E s₂ := by
  rw [hs o i]
  exact wpAny_operating (wpAny_mono h₂ (fun r s₃ h₃ => wpAny_bind (wpAny_letTemporaryGo (wpAny_pure h₃))) fun _ _ x => x)
 first
  | exact wpAny_pure (wpAny_bind fin)
  | exact wpAny_bind (wpAny_pure (wpAny_bind fin))
  | exact wpAny_bind fin
theorem dict_typeIs {X : Cx} {pins : List (Addr × Obj)} {σ : St} {H : Hp} {s : Shared} {a : Addr} {y : V} {o : Option V} (I : Inv X pins σ H s) (g : DGet H a y o) : s.TypeIs (.ref a) "dict" := by
 rcases g with ⟨kvs, k, e, _, _⟩ | ⟨kvs, k, b, e, _, _, _⟩
 · obtain ⟨_, _, vs, _, dd⟩ := dk_rd I.hok e
   exact dd.typeIs
 · obtain ⟨_, _, xs, _, dd⟩ := dt_rd I.hok e
   exact dd.typeIs
def tDGet (td ty : TE) : TE := fun σ H Q => td σ H fun x H1 => ty σ H1 fun y H2 => ∃ a v, x = .ref a ∧ DGet H2 a y (some v) ∧ Q v H2
def sDPut (td ty tv : TE) : TS := fun D σ H => tv σ H fun v H1 => td σ H1 fun x H2 => ty σ H2 fun y H3 => ∃ a H4, x = .ref a ∧ DPut H3 a y v H4 ∧ D.nx σ H4
section
variable {X : Cx} {o i e value : Expr} {pos pos' tpos : Pos} {td ty tv : TE}
theorem pe_dget (hu : X.A.units + 1 < cLine) (ho : PE X o td) (hi : PE X i ty) (hs : NoSl i) : PE X (.Subscript o i pos) (tDGet td ty) := by
 intro pins s σ H Q I h
 refine subD_of PySem.F.slot_dict_getitem.lookup hs (thn (ho pins s σ H _ I h) fun u s1 ⟨x, H1, I1, rx, q1⟩ => thn (hi pins s1 σ H1 _ I1 q1) fun iv s2 ⟨y, H2, I2, ry, a, v, ex, g, q2⟩ => ?_)
 subst ex
 obtain rfl : u = Value.ref a := rx
 exact ⟨dict_typeIs I2 g, d_getItem hu I2 g ry fun w' s3 I3 rw' => ⟨v, H2, I3, rw', q2⟩⟩
theorem ps_dput (hu : X.A.units + 1 < cLine) (ho : PE X o td) (hi : PE X i ty) (hv : PE X value tv) (hs : swapsWith value (some (.Subscript o i pos')) pos.line X.env = pure false) :
 PS X (.Assign [.Subscript o i pos'] value pos) (sDPut td ty tv) := by
 intro pins s σ H D I h
 refine wpAny_Assign_Subscript (thn (hv pins s σ H _ I h) fun r s1 ⟨v, H1, I1, rv, q1⟩ => thn (ho pins s1 σ H1 _ I1 q1) fun u s2 ⟨x, H2, I2, rx, q2⟩ => thn (hi pins s2 σ H2 _ I2 q2) fun iv s3 ⟨y, H3, I3, ry, a, H4, ex, g, q3⟩ => ?_) hs
 subst ex
 obtain rfl : u = Value.ref a := rx
 exact d_setItem hu I3 g ry rv fun s4 I4 => ⟨σ, H4, I4, q3⟩
end
theorem dk_empty {P : Program} {w : World} {H : Hp} (h : Heap) (hb : sysModules < h.objs.size) : ObjOk P w H (h.push { cls := .type "dict", data := .dict #[] }) h.objs.size (.dK []) :=
 ⟨Nat.zero_le _, beq_eq_false_iff_ne.mpr (Ne.symm (Nat.ne_of_lt hb)), [], .nil, Heap.DictOf.new h⟩
def tDNewK : TE := fun _ H Q => ∀ p, H p = none → Q (.ref p) (upd H p (.dK []))
section
variable {X : Cx} {pos : Pos}
theorem pe_dnewK : PE X (.Dict [] [] pos) tDNewK := fun pins s σ H Q I h =>
 wpAny_Dict_empty ⟨.ref s.heap.objs.size, _, I.laid (a := s.heap.objs.size) (o := .dK []) (t' := s.toks) (fun _ _ q => Heap.get?_push_of_some _ q) (Nat.le_refl _) (dk_empty s.heap I.big), rfl, h _ (I.hok.fresh (Nat.le_refl _))⟩
end
def tPairs : List (TE × TE) → St → Hp → (List (V × V) → Hp → Prop) → Prop
 | [], _, H, Q => Q [] H
 | (tk, tv) :: r, σ, H, Q => tk σ H fun x H1 => tv σ H1 fun y H2 => tPairs r σ H2 fun ps H3 => Q ((x, y) :: ps) H3
abbrev VV : List (V × V) → List (Value × Value) → Prop := Paired fun p q => RelV p.1 q.1 ∧ RelV p.2 q.2
def PPs (X : Cx) (pos : Pos) (keys : List (Option Expr)) (values : List Expr) (trs : List (TE × TE)) : Prop :=
 ∀ (pins : List (Addr × Obj)) (s : Shared) (σ : St) (H : Hp) (Q : List (V × V) → Hp → Prop), Inv X pins σ H s → tPairs trs σ H Q →
  wpAny (model X.prog X.w) X.A (evalPairs (pairTrees keys values X.env pos)) (fun vs s' => ∃ ps H', Inv X pins σ H' s' ∧ VV ps vs ∧ Q ps H') X.xe s
theorem pps_nil {X : Cx} {pos : Pos} : PPs X pos [] [] [] := fun pins s σ H Q I h => pairTrees_nil_walk ⟨[], H, I, .nil, h⟩
theorem pps_cons {X : Cx} {pos : Pos} {k v : Expr} {ks : List (Option Expr)} {vs : List Expr} {tk tv : TE} {trs : List (TE × TE)} (hk : PE X k tk) (hv : PE X v tv) (hr : PPs X pos ks vs trs) :
 PPs X pos (some k :: ks) (v :: vs) ((tk, tv) :: trs) := fun pins s σ H Q I h =>
 pairTrees_cons_walk (thn (hk pins s σ H _ I h) fun u s1 ⟨x, H1, I1, rx, q1⟩ => thn (hv pins s1 σ H1 _ I1 q1) fun w2 s2 ⟨y, H2, I2, ry, q2⟩ =>
  thn (hr pins s2 σ H2 _ I2 q2) fun ws s3 ⟨ps, H3, I3, rel, q3⟩ => ⟨(x, y) :: ps, H3, I3, .cons ⟨rx, ry⟩ rel, q3⟩)
def mergeK (kvs more : List (Key × V)) : List (Key × V) := more.foldl (fun acc kv => putK acc kv.1 kv.2) kvs
theorem KV.merge : ∀ {more : List (Key × V)} {rs : List (Key × Value)} {kvs : List (Key × V)} {vs : List (Key × Value)}, KV more rs → KV kvs vs → KV (mergeK kvs more) (merged vs rs) := by
 intro more rs kvs vs r
 unfold KV at r
 induction r generalizing kvs vs with
 | nil => intro q; exact q
 | @cons p q ps qs h t ih =>
  intro r0
  have e : KV (putK kvs p.1 p.2) (stored vs q.1 q.2) := by
   have := r0.put p.1 h.2
   rw [← h.1]; exact this
  exact ih e
theorem length_mergeK : ∀ (more kvs : List (Key × V)), (mergeK kvs more).length ≤ kvs.length + more.length
 | [], kvs => by show kvs.length ≤ kvs.length + 0; omega
 | p :: r, kvs => by
  have h1 := length_mergeK r (putK kvs p.1 p.2)
  have h2 := length_putK kvs p.1 p.2
  show (mergeK (putK kvs p.1 p.2) r).length ≤ _
  rw [List.length_cons]; omega
theorem carries_of {P : Program} {w : World} : ∀ {kvs : List (Key × V)} {ws : List (Value × Value)}, VV (kvs.map fun kv => (kV kv.1, kv.2)) ws → ∃ rs, Carries (mixKind P w) ws rs ∧ KV kvs rs
 | [], _, r => by rw [List.map_nil] at r; cases r; exact ⟨[], True.intro, .nil⟩
 | p :: kvs, _, r => by
  rw [List.map_cons] at r
  cases r with
  | @cons a b as bs h t =>
   obtain ⟨rs, c, q⟩ := carries_of (P := P) (w := w) t
   obtain ⟨b1, b2⟩ := b
   exact ⟨(p.1, b2) :: rs, ⟨kV_is h.1, rfl, c⟩, .cons ⟨rfl, h.2⟩ q⟩
def tDisp (trs : List (TE × TE)) : TE := fun σ H Q => ∀ p, H p = none → tPairs trs σ (upd H p (.dK [])) fun ps H2 => H2 p = some (.dK []) ∧ ∃ kvs : List (Key × V), ps = kvs.map (fun kv => (kV kv.1, kv.2)) ∧ kvs.length ≤ 15 ∧ Q (.ref p) (upd H2 p (.dK (mergeK [] kvs)))
theorem pe_disp {X : Cx} {pos : Pos} {keys : List (Option Expr)} {values : List Expr} {trs : List (TE × TE)} (h : PPs X pos keys values trs) (hall : keys.all (·.isSome) = true) (hl : keys.length = values.length) (h0 : keys ≠ [])
 (h15 : keys.length ≤ 15) : PE X (.Dict keys values pos) (tDisp trs) := by
 intro pins s σ H Q I q
 have hn := I.hok.fresh (Nat.le_refl s.heap.objs.size)
 have I1 := I.laid (a := s.heap.objs.size) (o := .dK []) (h' := s.heap.push { cls := .type "dict", data := .dict #[] }) (t' := s.toks) (fun _ _ q => Heap.get?_push_of_some _ q) (Nat.le_refl _) (dk_empty s.heap I.big)
 refine wpAny_Dict_walk (knd := mixKind X.prog X.w) hall hl h0 h15 (thn (h pins _ σ _ _ I1 (q _ hn)) fun ws s2 ⟨ps, H2, I2, rel, e, kvs, ep, lk, q2⟩ => ?_)
 subst ep
 obtain ⟨rs, c, rk⟩ := carries_of (P := X.prog) (w := X.w) rel
 obtain ⟨z, hd, vs0, r0, dd⟩ := dk_of I2.hok e
 cases r0
 refine ⟨rs, c, dd, fun h' dd' hs => ⟨.ref s.heap.objs.size, _, ?_, rfl, q2⟩⟩
 have hz : (mergeK [] kvs).length ≤ sizeLine := by
  have h1 := length_mergeK kvs []
  rw [List.length_nil] at h1
  rw [sizeLine_eq]; omega
 have he : ∃ q, h'.get? s.heap.objs.size = some q := let ⟨q, _, _, hq, _⟩ := dd'; ⟨q, hq⟩
 exact d_write I2 (by rw [e]; exact True.intro) hs he (dk_new hz hd (rk.merge .nil) dd')
structure M2 (X : Cx) (o : Expr) (m : Str) (apos : Pos) (e f : Expr) (cpos : Pos) : Prop where
 base : attributeBase o m X.env (eval o X.env) = eval o X.env
 few : ((backTo cpos (starEach [e, f] X.env)).all (fun x => !x.1) && (backToKw cpos (keywordEach [] X.env)).all (fun x => x.1.isSome)
  && decide (([e, f] : List Expr).length + ([] : List Keyword).length + (if ([] : List Keyword).isEmpty then 0 else 1) < 30)) = true
 line : (apos.endLine == cpos.line) = true
 trees : backTo cpos (starEach [e, f] X.env) = [(false, eval e X.env), (false, eval f X.env)]
def IsD (H : Hp) (a : Addr) : Prop := (∃ kvs, Rd H a (.dK kvs)) ∨ ∃ kvs, Rd H a (.dT kvs)
theorem isD_at {X : Cx} {pins : List (Addr × Obj)} {σ : St} {H : Hp} {s : Shared} {a : Addr} (I : Inv X pins σ H s) (d : IsD H a) :
 s.TypeIs (.ref a) "dict" ∧ (∀ b, Value.ref a = .ref b → ∃ ob, s.heap.get? b = some ob ∧ ob.dict = none) ∧ (a == sysModules) = false := by
 rcases d with ⟨kvs, e⟩ | ⟨kvs, e⟩
 · obtain ⟨_, hd, vs, _, dd⟩ := dk_rd I.hok e
   refine ⟨dd.typeIs, fun b q => ?_, hd⟩
   cases q
   obtain ⟨ob, _, _, h1, h2, _⟩ := dd
   exact ⟨ob, h1, h2.2.1⟩
 · obtain ⟨_, hd, xs, _, dd⟩ := dt_rd I.hok e
   refine ⟨dd.typeIs, fun b q => ?_, hd⟩
   cases q
   obtain ⟨ob, _, _, h1, h2, _⟩ := dd
   exact ⟨ob, h1, h2.2.1⟩
section
variable {X : Cx} {pins : List (Addr × Obj)} {σ : St} {H : Hp} {s : Shared} {a : Addr} {y d : V} {u r : Value} {o : Option V} {A : Around} {E : Value → Shared → Prop}
theorem d_get2 {Q : Value → Shared → Prop} (hu : A.units + 1 < cLine) (I : Inv X pins σ H s) (g : DGet H a y o) (ry : RelV y u) (rd : RelV d r) (h : ∀ w' s', Inv X pins σ H s' → RelV (o.getD d) w' → Q w' s') :
 wpAny (model X.prog X.w) A (call (.builtin "dict.get") [.ref a, u, r]) Q E s := by
 rcases g with ⟨kvs, k, e, ey, l⟩ | ⟨kvs, k, b, e, ey, eb, l⟩
 · subst ey
   obtain ⟨z, hd, vs, rel, dd⟩ := dk_rd I.hok e
   refine call_meetsIn PySem.F.slot_dict_get dd.typeIs PySem.F.entry_dict_get (PySem.F.args_dict_get_3 _ _ _) (meets_dict_get_default (mixKind X.prog X.w) a (kV_is ry) hd r) ⟨_, dd.mapOf, h _ _ (I.tok _) ?_⟩
   rw [l]
   exact (rel.val k).getD rd
 · subst ey
   cases (show u = Value.ref b from ry)
   obtain ⟨z, hd, xs, rel, dd⟩ := dt_rd I.hok e
   refine call_meetsIn PySem.F.slot_dict_get dd.typeIs PySem.F.entry_dict_get (PySem.F.args_dict_get_3 _ _ _) (meetsH_dict_get_default (tupleKind (mixKind X.prog X.w)) a b hd r) ⟨tupleKind_room_in1 hu, k, xs, key_of I.hok eb, dd, h _ _ (I.tok _) ?_⟩
   rw [l]
   exact (rel.val k).getD rd
end
def tDGet2 (td ty tx : TE) : TE := fun σ H Q => td σ H fun x H1 => ∃ a, x = .ref a ∧ IsD H1 a ∧ ty σ H1 fun y H2 => tx σ H2 fun z H3 => ∃ o, DGet H3 a y o ∧ Q (o.getD z) H3
section
variable {X : Cx} {o e f : Expr} {apos cpos : Pos} {td ty tx : TE}
theorem pe_dget2 (hu : X.A.units + 1 < cLine) (ho : PE X o td) (he : PE X e ty) (hf : PE X f tx) (m : M2 X o "get" apos e f cpos) : PE X (.Call (.Attribute o "get" apos) [e, f] [] cpos) (tDGet2 td ty tx) := by
 intro pins s σ H Q I h
 refine wpAny_Call_method m.base m.few m.line PySem.F.plainAttrs_dict PySem.F.slot_dict_get PySem.F.type_dict_get (thn (ho pins s σ H _ I h) fun u s1 ⟨x, H1, I1, rx, a, ex, d, q1⟩ => ?_)
 subst ex
 obtain rfl : u = Value.ref a := rx
 obtain ⟨t1, t2, _⟩ := isD_at I1 d
 refine ⟨t1, t2, ?_⟩
 rw [m.trees]
 refine Calls.callWith_builtin rfl (Calls.evalArgs_plain (Calls.spliced_cons (thn (he pins s1 σ H1 _ I1 q1) fun iv s2 ⟨y, H2, I2, ry, q2⟩ =>
  Calls.spliced_cons (thn (hf pins s2 σ H2 _ I2 q2) fun fv s3 ⟨z, H3, I3, rz, ov, g, q3⟩ => Calls.spliced_nil ?_))))
 exact d_get2 hu I3 g ry rz fun w' s4 I4 rw' => ⟨_, H3, I4, rw', q3⟩
end
end L2
set_option maxHeartbeats 4000000
namespace Br
open PySem PySem.Spec PyProof.Rows L2
structure Callee (CX : CXT) (P : Program) (w : World) (K : PySem.W.Frag) (mg : Str → Option Value) (base : Heap) (x : Str) (k : Nat) (ps : List Str) (sp : Sp) : Prop where
 ex : ∃ f fd, FnOk P w K mg base CX k f fd ps sp ∧ mg x = some (.ref f) ∧ PySem.W.keepIn K (.ref f) = true ∧ Binds K fd ps []
section
variable {X : Cx} {CX : CXT} {k : Nat} {ps : List Str} {sp : Sp} {E : XK} {x : Str} {p pos : Pos} {e : Expr} {es : List Expr} {t : TA}
theorem pe_callS (c : Callee CX0 X.prog X.w X.K X.mg X.base x k ps sp) (hr : Room k X.A) (hg : Gl X x) (ha : PA X (e :: es) t) (hdb : (x == ("__debug__" : Str)) = false := by decide)
 (he : starEach (e :: es) X.env = (false, eval e X.env) :: starEach es X.env := by rfl) (hpl : (backTo pos (starEach es X.env)).any (·.1) = false := by rfl) :
 PE X (.Call (.Name x p) (e :: es) [] pos) (tCall sp [] E0 t) := by
 obtain ⟨f, fd, F, hm, hk, hb⟩ := c.ex
 exact pe_call F hr hg hm hk hb .nil pass0 ha hdb he hpl
end
section
variable {X : Cx} {a b : Expr} {ta tb : TE} {pos : Pos}
def CDivB (i j : Int) : Prop := 0 < j ∧ j < 2 ^ 8000
theorem log2_of {y : Int} (h0 : 0 < y) (h1 : y < 2 ^ 8000) : y.natAbs.log2 < 9000 := by
 have h : y.natAbs < 2 ^ 8000 := by
  have e : ((2 : Int) ^ 8000) = ((2 ^ 8000 : Nat) : Int) := by norm_cast
  rw [e] at h1
  omega
 have h2 : y.natAbs.log2 < 8000 := (Nat.log2_lt (by omega)).mpr h
 omega
theorem op_fdivB : OpR X (binaryOp .FloorDiv) (rI CDivB fun i j => .int (i / j)) := opI fun i j _ _ _ _ _ hc q => by
 have e : i / j = i.fdiv j := (Int.fdiv_eq_ediv_of_nonneg _ (Int.le_of_lt hc.1)).symm
 rw [e] at q
 exact floordiv_int (Int.ne_of_gt hc.1) q (.inl (PyProof.noPylong_of_log2 (log2_of hc.1 hc.2)))
def CMulB (i j : Int) : Prop := i.natAbs < 2 ^ 8000 ∧ j.natAbs < 2 ^ 8000
theorem bits_of {i : Int} (h : i.natAbs < 2 ^ 8000) : Builtin.Int.intBits i ≤ 2 ^ 20 := Nat.le_trans (intBits_le h) (by decide)
end
inductive At : List Str → Nat → Str → Prop where
 | here {x : Str} {l : List Str} : At (x :: l) 0 x
 | there {x y : Str} {l : List Str} {i : Nat} : At l i x → At (y :: l) (i + 1) x
theorem At.get : ∀ {l : List Str} {i : Nat} {x : Str}, At l i x → l[i]? = some x
 | _, _, _, .here => rfl
 | _, _, _, .there h => by simpa using h.get
section
variable {X : Cx} {a b c e o : Expr} {es rest : List Expr} {ta tb tc te to : TE} {tA tB' : TT} {t : TA} {pos p apos p2 : Pos} {x : Str} {i : Nat} {N : List Str}
theorem r_name (h : At X.N i x) (hk : X.env.scope.names.lookup x = some .local) (hd : (x == ("__debug__" : Str)) = false) (hcd : (x == ("__classdict__" : Str)) = false) : PE X (.Name x pos) (tVar i) := pe_var h.get (.inl hk) hd hcd
theorem r_bin {op : Operator} {r : R2} (ho : OpR X (binaryOp op) r) (ha : PE X a ta) (hb : PE X b tb) : PE X (.BinOp a op b pos) (tOp r ta tb) := pe_op ho ha hb
theorem r_cmp {op : CmpOp} {r : R2} (h1 : op ≠ .In) (h2 : op ≠ .NotIn) (ho : OpR X (compareOp op) r) (ha : PE X a ta) (hb : PE X b tb) : PE X (.Compare a [op] [b] pos) (tOp r ta tb) := pe_cmpR ho ha hb (nomark _ h1 h2)
theorem t_cmp {op : CmpOp} {r : R2} (h1 : op ≠ .In) (h2 : op ≠ .NotIn) (ho : OpR X (compareOp op) r) (ha : PE X a ta) (hb : PE X b tb) : PT X (.Compare a [op] [b] pos) (tTest (tOp r ta tb)) := pt_cmpR ho ha hb (nomark _ h1 h2)
theorem r_neg (ha : PE X a ta) : PE X (.UnaryOp .USub a pos) (tUn (rU fun i => .int (-i)) ta) := pe_un un_neg ha
theorem t_call {f : Expr} {ks : List Keyword} (h : PE X (.Call f es ks pos) te) : PT X (.Call f es ks pos) (tB te) := pt_val h (fun _ => rfl)
theorem r_ix (hs : PlainIx b) (ha : PE X a ta) (hb : PE X b tb) : PE X (.Subscript a b pos) (tOp (rIx X.K) ta tb) := pe_ix ix_seq ha hb hs
theorem r_acons (hs : starEach (e :: es) X.env = (false, eval e X.env) :: starEach es X.env) (ha : PE X e te) (hr : PA X es t) : PA X (e :: es) (tCons te t) := pa_cons ha hr hs
theorem r_call {k : Nat} {ps : List Str} {sp : Sp} (c : Callee CX0 X.prog X.w X.K X.mg X.base x k ps sp) (hr : Room k X.A) (hg : Gl X x) (hdb : (x == ("__debug__" : Str)) = false)
 (he : starEach (e :: es) X.env = (false, eval e X.env) :: starEach es X.env) (hpl : (backTo pos (starEach es X.env)).any (·.1) = false) (ha : PA X (e :: es) t) : PE X (.Call (.Name x p) (e :: es) [] pos) (tCall sp [] E0 t) := pe_callS c hr hg ha hdb he hpl
def rLen (K : PySem.W.Frag) : List V → Hp → VK → Prop := fun xs H Q => (∃ p ys, xs = [.ref p] ∧ (SqL K H p ys ∨ SqT K H p ys) ∧ Q (.int ys.length) H) ∨ ∃ z, xs = [.str z] ∧ z.length ≤ sizeLine ∧ Q (.int z.length) H
theorem call_lenA : CallR X (.builtin "len") (rLen X.K) := by
 intro pins s σ H xs us Q I r h
 rcases h with h | h
 · exact call_len_seq pins s σ H xs us Q I r h
 · exact call_len_str pins s σ H xs us Q I r h
section
variable (hg : Gl X x) (he : starEach (e :: es) X.env = (false, eval e X.env) :: starEach es X.env) (hpl : (backTo pos (starEach es X.env)).any (·.1) = false)
include hg he hpl
theorem r_len (hx : x = "len") (hm : X.mg x = none) (ha : PA X (e :: es) t) : PE X (.Call (.Name x p) (e :: es) [] pos) (tCB (rLen X.K) t) := by subst hx; exact pe_callB call_lenA hg hm PySem.boot_len ha (by decide) (by decide) he hpl
theorem r_max (hx : x = "max") (hc : X.calm = true) (hm : X.mg x = none) (ha : PA X (e :: es) t) : PE X (.Call (.Name x p) (e :: es) [] pos) (tCB (fun xs H Q => ∃ i j, xs = [.int i, .int j] ∧ Q (.int (if j > i then j else i)) H) t) := by subst hx; exact pe_callB (call_max2 hc) hg hm boot_max ha (by decide) (by decide) he hpl
theorem r_min (hx : x = "min") (hc : X.calm = true) (hm : X.mg x = none) (ha : PA X (e :: es) t) : PE X (.Call (.Name x p) (e :: es) [] pos) (tCB (fun xs H Q => ∃ i j, xs = [.int i, .int j] ∧ Q (.int (if j < i then j else i)) H) t) := by subst hx; exact pe_callB (call_min2 hc) hg hm boot_min ha (by decide) (by decide) he hpl
end
variable {st : Stmt} {sts : List Stmt} {t1 t2 : TS}
theorem r_ret (he : PE X e te) : PS X (.Return (some e) pos) (tRet te) := ps_ret he
theorem r_set (h : At X.N i x) (hN : X.N.Nodup) (hk : X.env.scope.names.lookup x = some .local) (hs : swapsWith e (some (.Name x p)) pos.line X.env = pure false) (he : PE X e te) : PS X (.Assign [.Name x p] e pos) (tAsg te (gName i)) :=
 ps_set hN h.get (.inl hk) he hs (.inr hk)
theorem r_expr (hs : swapsWith e none pos.line X.env = pure false) (he : PE X e te) : PS X (.Expr e pos) (tDrop te) := ps_expr he hs
theorem r_for {iter tg : Expr} {body : List Stmt} {wi : TI} {g : TG} {tb : TS} (hp : PassesOwn (model X.prog X.w) X.A X.env X.xe) (hc : X.calm = true) (hs : ∀ x, foldedSetIterable iter X.env x = pure x) (hi : PI X tg iter wi) (hg : PG X tg g) (hb : PSs X body tb) : PS X (.For tg iter body [] pos) (tFor wi g tb) := ps_for hp hc hi hg hb hs
theorem r_while {body : List Stmt} {tb : TS} (hp : PassesOwn (model X.prog X.w) X.A X.env X.xe) (hc : PT X c tA) (hb : PSs X body tb) : PS X (.While c body [] pos) (tWhile tA tb) := ps_while hp hc hb
theorem r_gname (h : At X.N i x) (hN : X.N.Nodup) (hk : X.env.scope.names.lookup x = some .local) : PG X (.Name x pos) (gName i) := pg_name hN h.get (.inl hk) (.inr hk)
theorem r_irange1 {tg : Expr} (hx : x = "range") (hg : Gl X x) (hm : X.mg x = none) (hs : starEach [a] X.env = [(false, eval a X.env)]) (ha : PA X [a] t) : PI X tg (.Call (.Name x p) [a] [] pos) (iRng1 t) := by subst hx; exact pi_range1 hg hm ha hs
theorem r_append {cpos : Pos} (hbase : attributeBase o "append" X.env (eval o X.env) = eval o X.env) (hfew : ((backTo cpos (starEach [e] X.env)).all (fun x => !x.1) && (backToKw cpos (keywordEach [] X.env)).all (fun x => x.1.isSome)
 && decide (([e] : List Expr).length + ([] : List Keyword).length + (if ([] : List Keyword).isEmpty then 0 else 1) < 30)) = true) (hline : (apos.endLine == cpos.line) = true) (hs : starEach [e] X.env = (false, eval e X.env) :: starEach [] X.env)
 (hpl : (backTo cpos (starEach [] X.env)).any (·.1) = false) (ho : PE X o to) (ha : PA X [e] t) : PE X (.Call (.Attribute o "append" apos) [e] [] cpos) (tBM X.K "list" rAppend to t) :=
 pe_bm PySem.F.plainAttrs_list PySem.F.slot_list_append PySem.F.type_list_append mt_append ho ha hbase hfew hline hs hpl
end
def tMid (t : TS) : TS := fun D σ H => ∃ M : L2.St → Hp → Prop, t { D with nx := M } σ H ∧ ∀ σ' H', M σ' H' → D.nx σ' H'
theorem ps_mid {X : Cx} {st : Stmt} {t : TS} (h : PS X st t) : PS X st (tMid t) := by
 intro pins s σ H D I hq
 obtain ⟨M, h1, h2⟩ := hq
 refine thn (h pins s σ H { D with nx := M } I h1) fun f s1 q => ?_
 cases f with
 | next =>
  obtain ⟨σ', H', I', q⟩ := q
  exact ⟨σ', H', I', h2 _ _ q⟩
 | ret v => exact q
 | brk => exact q
 | cont => exact q
theorem r_ifM {X : Cx} {c : Expr} {tA : TT} {t1 t2 : TS} {pos : Pos} {aa bb : List Stmt} (hc : PT X c tA) (ha : PSs X aa t1) (hb : PSs X bb t2) : PS X (.If c aa bb pos) (tMid (tIfS tA t1 t2)) := ps_mid (ps_if hc ha hb)
theorem atI_ints {zs : List Int} {i : Int} (h0 : 0 ≤ i) (h1 : i < zs.length) : ∃ z, z ∈ zs ∧ zs[i.toNat]? = some z ∧ atI (zs.map V.int) i = some (V.int z) := by
 have hl : i.toNat < zs.length := by omega
 have e : zs[i.toNat]? = some zs[i.toNat] := List.getElem?_eq_getElem hl
 have e1 : (zs.map V.int)[i.toNat]? = some (V.int zs[i.toNat]) := by rw [List.getElem?_map, e]; rfl
 have e2 := atI_nat e1
 rw [Int.toNat_of_nonneg h0] at e2
 exact ⟨_, List.getElem_mem hl, e, e2⟩
theorem Same.upd {H : Hp} {p : Addr} {o : HO} (h : H p = none) : L2.Same H (upd H p o) := fun b u e => by rw [upd_ne (ne_of_none e h)]; exact e
theorem lenLe {n : Nat} {xs : List V} (h : xs.length = n) (h2 : n ≤ 1000) : xs.length ≤ sizeLine := by rw [h]; exact Nat.le_trans h2 (by decide)
theorem lt250 {n : Nat} (h : n < 2 ^ 250) : n < 2 ^ 8000 := Nat.lt_of_lt_of_le h (Nat.pow_le_pow_right (by decide) (by decide))
theorem ilt250 {n : Int} (h : n < 2 ^ 250) : n < 2 ^ 8000 := by
 have e : ((2 : Int) ^ 8000) = ((2 ^ 8000 : Nat) : Int) := by norm_cast
 have e2 : ((2 : Int) ^ 250) = ((2 ^ 250 : Nat) : Int) := by norm_cast
 rw [e2] at h
 rw [e]
 exact Int.lt_of_lt_of_le h (Int.ofNat_le.mpr (Nat.pow_le_pow_right (by decide) (by decide)))
theorem mulB {i j : Int} (h1 : i.natAbs < 2 ^ 250) (h2 : j.natAbs < 2 ^ 250) : CMulB i j := ⟨lt250 h1, lt250 h2⟩
theorem divB {i j : Int} (h1 : 0 < j) (h2 : j < 2 ^ 250) : CDivB i j := ⟨h1, ilt250 h2⟩
section
variable {X : Cx} {a b c e o : Expr} {es rest : List Expr} {ta tb tc te to : TE} {t : TA} {pos p apos p2 : Pos} {x : Str} {i j : Nat}
theorem op_isnotB : OpR X (compareOp .IsNot) (fun x y H Q => ∃ a b : Bool, x = .bl a ∧ y = .bl b ∧ Q (.bl (!decide (a = b))) H) := by
 intro pins s σ H x y v u Q I rx ry h
 obtain ⟨a, b, rfl, rfl, q⟩ := h
 cases rx
 cases ry
 exact wpAny_isNot_plain rfl (fin_bl I q (by cases a <;> cases b <;> rfl))
theorem r_dict1 (ha : PE X a ta) (hb : PE X b tb) : PE X (.Dict [some a] [b] pos) (tDisp [(ta, tb)]) := pe_disp (pps_cons ha hb pps_nil) rfl rfl (by simp) (show 1 ≤ 15 by decide)
theorem r_unpack2 {y : Str} {px py pt : Pos} {kt : Nat} (hi : At X.N i x) (hj : At X.N j y) (hc : X.calm = true) (hN : X.N.Nodup) (hx : X.env.scope.names.lookup x = some .local) (hy : X.env.scope.names.lookup y = some .local)
 (h1 : (assignEach [.Name x px, .Name y py] X.env).map (·.2) = assign (.Name x px) X.env :: (assignEach [.Name y py] X.env).map (·.2))
 (h2 : (assignEach [.Name y py] X.env).map (·.2) = assign (.Name y py) X.env :: (assignEach [] X.env).map (·.2))
 (hn : (assignEach [.Name x px, .Name y py] X.env).length = 2) (hst : (assignEach [.Name x px, .Name y py] X.env).findIdx? (·.1) = none)
 (hs : swapsWithSole [.Tuple [.Name x px, .Name y py] kt pt] e pos.line X.env = pure false) (hw : swappedStores [.Tuple [.Name x px, .Name y py] kt pt] e X.env = pure none)
 (h3 : (assignEach [.Tuple [.Name x px, .Name y py] kt pt] X.env).map (·.2) = [assign (.Tuple [.Name x px, .Name y py] kt pt) X.env]) (he : PE X e te) :
 PS X (.Assign [.Tuple [.Name x px, .Name y py] kt pt] e pos) (tAsg te (gTup X.K 2 (gCons (gName i) (gCons (gName j) gNil)))) :=
 ps_asg he (pg_tup hc (pgs_cons (pg_name hN hi.get (.inl hx) (.inr hx)) (pgs_cons (pg_name hN hj.get (.inl hy) (.inr hy)) pgs_nil h2) h1) hn hst) hs hw h3
def tTupS (t : TA) : TE := fun σ H Q => t σ H fun xs H1 => xs.length ≤ sizeLine ∧ ∀ p H2, H1 p = none → L2.Same H1 H2 → H2 p = some (.tup xs) → Q (.ref p) H2
def tLstS (t : TA) : TE := fun σ H Q => t σ H fun xs H1 => xs.length ≤ sizeLine ∧ ∀ p H2, H1 p = none → L2.Same H1 H2 → H2 p = some (.lst xs) → Q (.ref p) H2
def rCatS : R2 := fun x y H Q => ∃ l b xs zs, x = .ref l ∧ y = .ref b ∧ H l = some (.lst xs) ∧ H b = some (.lst zs) ∧ xs.length + zs.length ≤ sizeLine ∧ ∀ p H2, H p = none → L2.Same H H2 → H2 p = some (.lst (xs ++ zs)) → Q (.ref p) H2
def tDNewS : TE := fun _ H Q => ∀ p H2, H p = none → L2.Same H H2 → H2 p = some (.dK []) → Q (.ref p) H2
theorem r_tupS {k : Nat} (h : PA X es t) : PE X (.Tuple es k pos) (tTupS t) := fun pins s σ H Q I q => wpAny_Tuple_spliced (thn (h pos pins s σ H _ I q) fun us s1 ⟨xs, H1, I1, r, z, q⟩ => ⟨by rw [← r.length]; exact z, by
 have hf : H1 s1.heap.objs.size = none := I1.hok.fresh (Nat.le_refl _)
 refine ⟨.ref s1.heap.objs.size, upd H1 s1.heap.objs.size (.tup xs), I1.laid (t' := s1.toks) (fun b u e => Heap.get?_push_of_some _ e) (Nat.le_refl _) ?_, rfl, q _ _ hf (Br.Same.upd hf) upd_same⟩
 exact ⟨z, us, r, ⟨_, Heap.get?_push_size _ rfl, rfl, _, rfl⟩⟩⟩)
theorem r_lstS (h : PA X es t) : PE X (.List es pos) (tLstS t) := fun pins s σ H Q I q => wpAny_List_spliced (thn (h pos pins s σ H _ I q) fun us s1 ⟨xs, H1, I1, r, z, q⟩ => ⟨by rw [← r.length]; exact z, by
 have hf : H1 s1.heap.objs.size = none := I1.hok.fresh (Nat.le_refl _)
 refine ⟨.ref s1.heap.objs.size, upd H1 s1.heap.objs.size (.lst xs), I1.laid (t' := s1.toks) (fun b u e => Heap.get?_push_of_some _ e) (Nat.le_refl _) ?_, rfl, q _ _ hf (Br.Same.upd hf) upd_same⟩
 exact ⟨z, us, 0, r, Heap.get?_push_size _ rfl⟩⟩)
theorem op_catS : OpR X (binaryOp .Add) rCatS := fun pins s σ H x y v u Q I rx ry h => by
 obtain ⟨l, b, xs, zs, e1, e2, h1, h2, hz, q⟩ := h
 exact op_cat pins s σ H x y v u Q I rx ry ⟨l, b, xs, zs, e1, e2, h1, h2, hz, fun p hp => q p _ hp (Br.Same.upd hp) upd_same⟩
theorem r_dict0S : PE X (.Dict [] [] pos) tDNewS := fun pins s σ H Q I q => pe_dnewK pins s σ H Q I fun p hp => q p _ hp (Br.Same.upd hp) upd_same
end
end Br
namespace Br
open PySem PySem.Spec PySem.Calls PyProof.Rows L2 PySem.W PySem.Builtin.Getset_descriptor
structure ExcC (K : Frag) (C : Addr) : Prop where
 ga : findIn K (.ref C) "__getattribute__" = some (some (.builtin "BaseException.__getattribute__"))
 hk : findIn K (.ref C) "__getattr__" = some none
 ha : findIn K (.ref C) "__class__" = some (some (.builtin "object.__class__"))
 hn : specialIn K (.builtin "object.__class__") "__get__" = some (some (.builtin "getset_descriptor.__get__"))
 htk : takesIn K (.builtin "object.__class__") = some true
 hm : mroIn K C (.type "object") = some true
 hb : mroIn K C (.type "BaseException") = some true
def ExcAt (e C : Addr) (h : Heap) : Prop := ∃ o, h.get? e = some o ∧ o.cls = .ref C
theorem ExcAt.ty {M : Model} {e C : Addr} {h : Heap} (x : ExcAt e C h) : Looks M h (typeOf (.ref e)) (.ref C) := by
 obtain ⟨o, h1, h2⟩ := x
 rw [← h2]
 exact (Looks.ld h1).andThen .now
section
variable {prog : Program} {w : World} {A : Around} {E : Value → Shared → Prop} {s : Shared} {K : Frag} {x C : Addr}
theorem ExcC.finds {M : Model} {h : Heap} (T : ExcC K C) (X : K.In h) : Looks M h (Builtin.ObjectAttr.find (.ref x) (.ref C) "__class__") (.bind (.builtin "getset_descriptor.__get__") (.builtin "object.__class__")) := by
 have d : Looks M h (Builtin.ObjectAttr.dataDescriptor? (some (.builtin "object.__class__")) (some (.builtin "getset_descriptor.__get__"))) (some (.builtin "getset_descriptor.__get__", .builtin "object.__class__")) :=
  (looks_takesIn (M := M) X T.htk).andThen .now
 exact (looks_findIn (M := M) X T.ha).andThen (Looks.andThen (looks_specialIn (M := M) X T.hn) (d.andThen (Looks.tag .now)))
theorem exc_get {R : Result → Shared → Prop} {tp : Value} (X : K.In s.heap) (I : ExcAt x C s.heap) (hm : mroIn K C (.type "object") = some true) (h : R (.ok (.ret (.ref C))) s) :
 codeAny (model prog w) A (.call (.builtin "getset_descriptor.__get__") ⟨[.builtin "object.__class__", .ref x, tp], []⟩) R s := by
 have ob := fun {Q' : Value → Shared → Prop} {E' : Value → Shared → Prop} {A' : Around} => (fun q : Q' (.ref C) s => I.ty (M := model prog w) A' Q' E' s (fun _ _ e => e) q)
 have mr := fun {Q' : Bool → Shared → Prop} {E' : Value → Shared → Prop} {A' : Around} => (fun q : Q' true s => looks_mroIn (M := model prog w) X hm A' Q' E' s (fun _ _ e => e) q)
 apply codeAny_call_builtin KF.slot_gs.plain KF.entry_gs
 refine KF.slot_gs.check _ _ _ _ _ _ _ _ KF.type_class (KF.args_gs _ _ _) ?_
 wp_walk using ob, mr
 rw [show (".".intercalate ("object.__class__".cutAt '.').dropLast) = "object" from by decide +kernel]
 wp_walk using mr
 refine ⟨Code.quiet_builtin _ (by decide +kernel), codeAny_builtin KF.entry_class ?_⟩
 wp_walk using ob
 exact h
theorem exc_cls {Q : Option Value → Shared → Prop} (T : ExcC K C) (X : K.In s.heap) (I : ExcAt x C s.heap) (h : Q (some (.ref C)) { s with toks := s.toks + 1 }) : wpAny (model prog w) A (getAttr? (.ref x) "__class__") Q E s := by
 have L0 := I.ty (M := model prog w)
 have L1 := looks_findIn (M := model prog w) X T.ga
 have L2 := looks_findIn (M := model prog w) X T.hk
 have L3 := T.finds (M := model prog w) (x := x) X
 have L4 := looks_mroIn (M := model prog w) X T.hb
 obtain ⟨hh, g, d, t, os⟩ := s
 unfold getAttr? getAttrBy? getAttrBy
 refine wpAny_bind (wpAny_mkText (wpAny_bind (wpAny_attempt (wpAny_holding ?_))))
 refine wpAny_bind (L0.at (wpAny_bind (L1.at ?_)))
 show wpAny _ _ (getAttrByItsOwn _ _ _ _ _ _) _ _ _
 unfold getAttrByItsOwn hookBefore
 rw [if_pos (show onTheHeap (Value.ref C) = true from rfl)]
 refine wpAny_bind (L2.at (wpAny_bind (wpAny_attempt (wpAny_holding ?_))))
 show wpAny _ _ (boundAndCalled _ _ _) _ _ _
 unfold boundAndCalled
 rw [F.attr_ValueError.ga.bind]
 refine wpAny_bind (wpAny_pure ?_)
 show wpAny _ _ (call (.builtin "BaseException.__getattribute__") [.ref x, .str "__class__" t]) _ _ _
 have hsp : splitId "BaseException.__getattribute__" = some ("BaseException", "__getattribute__") := by decide +kernel
 have hkk : builtinKind "BaseException.__getattribute__" = some .slot := by decide +kernel
 have ha := F.args_bexc_ga (.ref x) (.str "__class__" t)
 refine wpAny_call (codeAny_call_builtin F.attr_ValueError.ga.plain F.entry_bexc_ga ?_)
 simp only [checkBuiltinCall, hkk, hsp]
 refine wpAny_bind ?_
 · unfold isInstance
   refine wpAny_bind (L0.at (L4.at ?_))
   simp only [Bool.not_true, Bool.false_eq_true, if_false]
   repeat (any_goals (first | assumption | wp_step))
   obtain ⟨oe, he, hce⟩ := id I
   refine wpAny_loadPart_at he ?_
   rw [hce]
   refine wpAny_pure (wpAny_bind (L3.at ?_))
   show wpAny _ _ (do ret (← holding [_] (call _ [_, _, _]))) _ _ _
   refine wpAny_bind (wpAny_holding (wpAny_call (exc_get X I T.hm (wpAny_pure ?_))))
   exact handed_on rfl (wpAny_pure h)
theorem ExcC.cls {h : Heap} (T : ExcC K C) (X : K.In h) : ∃ (c : Value) (d : Option Addr) (cd : ClassData) (sl : Array (Option Value)), h.get? C = some ⟨c, d, .cls cd, sl⟩ := by
 obtain ⟨cd, q, _⟩ := Option.bind_eq_some_iff.mp T.hm
 unfold clsIn at q
 split at q
 · rename_i ho
   exact ⟨_, _, _, _, X _ _ ho⟩
 · cases q
theorem ExcC.isType {M : Model} {h : Heap} (T : ExcC K C) (X : K.In h) : Looks M h (isType (.ref C)) true := fun A Q E s k z => by
 obtain ⟨c, d, cd, sl, ho⟩ := T.cls X
 unfold PySem.isType loadHead
 exact wpAny_bind (wpAny_loadPart (k _ _ ho) (wpAny_pure z))
theorem kitx_exc (T : ExcC K C) : KitX K (.ref x) (.ref C) (ExcAt x C) where
 ty := fun _ _ _ p => p.ty
 it := fun _ _ X _ => T.isType X
 ne := fun h tp dd its n sl X htp => by
  obtain ⟨c, d, cd, sl', hc⟩ := T.cls X
  refine Bool.eq_false_iff.mpr fun q => ?_
  rw [Value.ref.inj (beq_iff_eq.mp q), htp] at hc
  cases hc
 ca := fun X p k => exc_cls T X p k
end
end Br
namespace Br
open PySem PySem.Spec PySem.Calls PyProof.Rows L2
section
variable {P : Program} {w : World} {H H' : Hp} {h h' : Heap} {a : Addr} {o : HO}
theorem objGot (x : ObjOk P w H h a o) : ∃ ob, h.get? a = some ob := by
 cases o with
 | lst xs => obtain ⟨_, _, _, _, e⟩ := x; exact ⟨_, e⟩
 | tup xs => obtain ⟨_, _, _, ob, e, _⟩ := x; exact ⟨_, e⟩
 | dK kvs => obtain ⟨_, _, _, _, o, _, _, e, _⟩ := x; exact ⟨_, e⟩
 | dT kvs => obtain ⟨_, _, _, _, o, _, _, e, _⟩ := x; exact ⟨_, e⟩
 | set S n => obtain ⟨o, _, _, _, e, _⟩ := x; exact ⟨_, e⟩
 | ins C dx fs => obtain ⟨_, _, _, e, _⟩ := x; exact ⟨_, e⟩
 | own y => obtain ⟨_, e⟩ := x; exact ⟨_, e⟩
 | xd fs => obtain ⟨_, ⟨_, _, _, e, _⟩, _⟩ := x; exact ⟨_, e⟩
 | rng lo hi => obtain ⟨_, _, _, e⟩ := x; exact ⟨_, e⟩
 | frz ob u => obtain ⟨e, _⟩ := x; exact ⟨_, e⟩
 | tbl ps => exact ⟨_, (show h.get? a = some _ from x)⟩
 | met f y => exact ⟨_, (show h.get? a = some _ from x)⟩
 | ext φ => obtain ⟨_, ⟨_, e⟩, _⟩ := x; exact ⟨_, e⟩
theorem hokNone (x : HOk P w H h) (e : h.get? a = none) : H a = none := by
 cases q : H a with
 | none => rfl
 | some o =>
  obtain ⟨ob, z⟩ := objGot (x a o q)
  rw [e] at z; cases z
end
def FrOk (l : List Env) (h : Heap) : Prop := ∀ env ∈ l, env.scope.kind ≠ .module ∧ ∃ L o, env.frame = some L ∧ h.get? L = some o ∧ ∀ vs, o.data ≠ .fields vs
structure Fly (l : List Env) (e T : Addr) (cls : Value) (h : Heap) : Prop where
 fr : FrOk l h
 ne : T ≠ e
 at_ : ∃ oe vs oT ts a0, h.get? e = some oe ∧ oe.cls = cls ∧ oe.data = .fields vs ∧ vs[0]? = some a0 ∧ vs[1]? = some (.ref T) ∧ h.get? T = some oT ∧ oT.data = .fields ts ∧ ts[3]? = some .none
theorem funFr {l : List Env} {h B : Heap} : FrOk l h → (∀ b ∈ frs l, B.get? b = none) → h.FunFrames B l := by
 induction l with
 | nil => intro _ _; trivial
 | cons env r ih =>
  intro f hB
  obtain ⟨hk, L, o, hf, ho, hd⟩ := f env (.head _)
  refine ⟨hk, ⟨L, o, hf, hB L (List.mem_filterMap.mpr ⟨env, .head _, hf⟩), ho, hd⟩, ih (fun e he => f e (.tail _ he)) fun b hb => hB b ?_⟩
  obtain ⟨e, he, h2⟩ := List.mem_filterMap.mp hb
  exact List.mem_filterMap.mpr ⟨e, .tail _ he, h2⟩
theorem frOf {l : List Env} {h B : Heap} : h.FunFrames B l → FrOk l h := by
 induction l with
 | nil => intro _ _ z; cases z
 | cons env r ih =>
  rintro ⟨hk, ⟨L, o, hf, _, ho, hd⟩, hr⟩ e he
  rcases List.mem_cons.mp he with rfl | he
  · exact ⟨hk, L, o, hf, ho, hd⟩
  · exact ih hr e he
theorem FrOk.mem {l : List Env} {h : Heap} (f : FrOk l h) {b : Addr} (hb : b ∈ frs l) : ∃ o, h.get? b = some o ∧ ∀ vs, o.data ≠ .fields vs := by
 obtain ⟨e, he, h2⟩ := List.mem_filterMap.mp hb
 obtain ⟨_, L, o, hf, ho, hd⟩ := f e he
 rw [h2] at hf; cases hf
 exact ⟨o, ho, hd⟩
def grd (l : List Env) (e T : Addr) (h : Heap) : Heap := PySem.W.hideAll h (e :: T :: frs l)
theorem grd_of {l : List Env} {e T b : Addr} {h : Heap} {o : Obj} (q : (grd l e T h).get? b = some o) : h.get? b = some o := PySem.W.of_hideAll _ q
theorem grd_none {l : List Env} {e T b : Addr} {h : Heap} (q : b = e ∨ b = T ∨ b ∈ frs l) : (grd l e T h).get? b = none := by
 refine PySem.W.hideAll_none _ ?_
 rcases q with rfl | rfl | q
 · exact .head _
 · exact .tail _ (.head _)
 · exact .tail _ (.tail _ q)
theorem grd_get {l : List Env} {e T b : Addr} {h : Heap} {o : Obj} (q : h.get? b = some o) (h1 : b ≠ e) (h2 : b ≠ T) (h3 : b ∉ frs l) : (grd l e T h).get? b = some o := by
 refine PySem.W.hideAll_get _ q fun z => ?_
 rcases List.mem_cons.mp z with z | z
 · exact h1 z
 · rcases List.mem_cons.mp z with z | z
   · exact h2 z
   · exact h3 z
theorem Fly.flying {l : List Env} {e T : Addr} {cls : Value} {h : Heap} (f : Fly l e T cls h) : ∃ a0, Heap.FlyingW (grd l e T h) l e cls a0 h := by
 obtain ⟨oe, vs, oT, ts, a0, h1, h2, h3, h4, h5, h6, h7, h8⟩ := f.at_
 exact ⟨a0, fun b o q => grd_of q, grd_none (.inl rfl), funFr f.fr fun b hb => grd_none (.inr (.inr hb)), oe, vs, T, oT, ts, h1, ⟨h2, h4⟩, h3, h5, grd_none (.inr (.inl rfl)), f.ne, h6, h7, h8⟩
structure Past (l : List Env) (e T : Addr) (h h' : Heap) : Prop where
 keep : ∀ b o, h.get? b = some o → b ≠ e → b ≠ T → b ∉ frs l → h'.get? b = some o
 slot : ∀ b o, h.get? b = some o → b ∈ frs l → ∃ sl, h'.get? b = some { o with slots := sl }
 there : ∀ b o, h.get? b = some o → b ≠ T → ∃ o', h'.get? b = some o'
theorem Past.of {l l' : List Env} {e T : Addr} {cls a0 : Value} {h h2 : Heap} (f : FrOk l h) (hf : Heap.FlyingW (grd l e T h) l' e cls a0 h2) (u : h.UpToSlots h2) :
 ∃ T', Fly l' e T' cls h2 ∧ Past l e T h h2 ∧ (T' = T ∨ h.get? T' = none) := by
 obtain ⟨st, ne, ff, oe, vs, T', oT, ts, h1, ⟨h2', h4⟩, h3, h5, hb, hne, h6, h7, h8⟩ := hf
 have hs : ∀ b o, h.get? b = some o → b ∈ frs l → ∃ sl, h2.get? b = some { o with slots := sl } := fun b o q hb => by
  obtain ⟨o', q', hd⟩ := f.mem hb
  rw [q] at q'; cases q'
  exact u b o q hd
 refine ⟨T', ⟨frOf ff, hne, oe, vs, oT, ts, a0, h1, h2', h3, h4, h5, h6, h7, h8⟩, ⟨fun b o q n1 n2 n3 => st b o (grd_get q n1 n2 n3), hs, fun b o q n2 => ?_⟩, ?_⟩
 · by_cases n1 : b = e
   · subst n1; exact ⟨_, h1⟩
   · by_cases n3 : b ∈ frs l
     · obtain ⟨sl, z⟩ := hs b o q n3
       exact ⟨_, z⟩
     · exact ⟨o, st b o (grd_get q n1 n2 n3)⟩
 · cases q : h.get? T' with
   | none => exact .inr rfl
   | some o =>
    by_cases n2 : T' = T
    · exact .inl n2
    · by_cases n3 : T' ∈ frs l
      · obtain ⟨o', q', hd⟩ := f.mem n3
        obtain ⟨sl, z⟩ := hs T' o' q' n3
        rw [h6] at z; cases z
        exact absurd h7 (hd ts)
      · rw [grd_get q hne n2 n3] at hb; cases hb
section
variable {M : Model} {A : Around} {E : Value → Shared → Prop} {s : Shared} {env : Env} {outer : List Env} {e T : Addr} {cls : Value} {Q : Unit → Shared → Prop}
theorem fly_leave (hfr : A.frames = some (env :: outer)) (hf : env.frame.isSome = true) (f : Fly (env :: outer) e T cls s.heap)
 (k : ∀ h' T', Fly outer e T' cls h' → Past (env :: outer) e T s.heap h' → (T' = T ∨ s.heap.get? T' = none) → Q () { s with heap := h' }) : wpAny M A (leaving env (.ref e)) Q E s := by
 obtain ⟨L, hf⟩ := Option.isSome_iff_exists.mp hf
 obtain ⟨a0, F⟩ := f.flying
 refine wpAny_leaves_onW hfr hf F fun h' F' u => ?_
 obtain ⟨T', x, y, z⟩ := Past.of f.fr F' u
 exact k h' T' x y z
theorem fly_note (hfr : A.frames = some (env :: outer)) (hf : env.frame.isSome = true) (f : Fly (env :: outer) e T cls s.heap)
 (k : ∀ h' T', Fly (env :: outer) e T' cls h' → Past (env :: outer) e T s.heap h' → (T' = T ∨ s.heap.get? T' = none) → Q () { s with heap := h' }) :
 wpAny M A (noteFrame (.ref e) env) (fun _ s' => wpAny M A (setFlight (.ref e) none) Q E s') E s := by
 obtain ⟨L, hf⟩ := Option.isSome_iff_exists.mp hf
 obtain ⟨a0, F⟩ := f.flying
 refine wpAny_looks_onW hfr hf F fun h1 F1 u1 => wpAny_landsW F1 fun h2 F2 u2 => ?_
 obtain ⟨T', x, y, z⟩ := Past.of f.fr F2 (u1.trans u2)
 exact k h2 T' x y z
theorem fly_land (f : Fly outer e T cls s.heap) (k : ∀ h' T', Fly outer e T' cls h' → Past outer e T s.heap h' → (T' = T ∨ s.heap.get? T' = none) → Q () { s with heap := h' }) : wpAny M A (setFlight (.ref e) none) Q E s := by
 obtain ⟨a0, F⟩ := f.flying
 refine lands_againW F fun h1 F1 u1 => ?_
 obtain ⟨T', x, y, z⟩ := Past.of f.fr F1 u1
 exact k h1 T' x y z
theorem fly_begin {h : Heap} {args : List Value} (hfr : A.frames = some (env :: outer)) (hf : env.frame.isSome = true) (f : FrOk (env :: outer) h) (hx : Heap.MadeExcOf h s.heap e cls args)
 (k : ∀ h' T', Fly outer e T' cls h' → (∀ b o, h.get? b = some o → b ∉ frs (env :: outer) → h'.get? b = some o) → (∀ b o, h.get? b = some o → b ∈ frs (env :: outer) → ∃ sl, h'.get? b = some { o with slots := sl }) → h.get? T' = none → Q () { s with heap := h' }) :
 wpAny M A (leaving env (.ref e)) Q E s := by
 obtain ⟨L, hf⟩ := Option.isSome_iff_exists.mp hf
 have hb : ∀ b ∈ frs (env :: outer), (PySem.W.hideAll h (frs (env :: outer))).get? b = none := fun b hb => PySem.W.hideAll_none _ hb
 refine wpAny_leaves_madeW (base := PySem.W.hideAll h (frs (env :: outer))) hfr hf (fun b o q => PySem.W.of_hideAll _ q) (funFr f hb) hx fun h' t F _ _ u => ?_
 obtain ⟨st, ne, ff, oe, vs, T', oT, ts, h1, ⟨h2', h4⟩, h3, h5, hbT, hne, h6, h7, h8⟩ := F
 have hs : ∀ b o, h.get? b = some o → b ∈ frs (env :: outer) → ∃ sl, h'.get? b = some { o with slots := sl } := fun b o q hb => by
  obtain ⟨o', q', hd⟩ := f.mem hb
  rw [q] at q'; cases q'
  exact u b o (hx.keeps b o q) hd
 refine k h' T' ⟨frOf ff, hne, oe, vs, oT, ts, _, h1, h2', h3, h4, h5, h6, h7, h8⟩ (fun b o q n => st b o (PySem.W.hideAll_get _ q n)) hs ?_
 cases q : h.get? T' with
 | none => rfl
 | some o =>
  by_cases n3 : T' ∈ frs (env :: outer)
  · obtain ⟨o', q', hd⟩ := f.mem n3
    obtain ⟨sl, z⟩ := hs T' o' q' n3
    rw [h6] at z; cases z
    exact absurd h7 (hd ts)
  · rw [PySem.W.hideAll_get _ q n3] at hbT; cases hbT
end
def CXF (P : Program) (w : World) : CXT := fun outer H s E e s' => ∃ (ea T : Addr) (cls : Value) (H' : Hp), e = .ref ea ∧ s'.os = s.os ∧ AllBare s'.gens ∧ Un (frs outer) [] H H' s.heap s'.heap ∧ HOk P w H' s'.heap ∧
 s.heap.get? ea = none ∧ s.heap.get? T = none ∧ H' ea = none ∧ H' T = none ∧ Fly outer ea T cls s'.heap ∧ E cls none H'
section
variable {P : Program} {w : World} {H : Hp} {l : List Env} {e T : Addr} {h h' : Heap}
theorem Past.hok (p : Past l e T h h') (ok : HOk P w H h) (he : H e = none) (hT : H T = none) (hf : ∀ b ∈ frs l, H b = none) : HOk P w H h' := fun a o q => by
 refine (ok a o q).stay (fun b u hb z => p.keep b u z ?_ ?_ ?_) (fun _ z => z) fun _ _ z => z
 · rintro rfl
   rcases hb with rfl | hb
   · rw [he] at q; cases q
   · rw [he] at hb; cases hb
 · rintro rfl
   rcases hb with rfl | hb
   · rw [hT] at q; cases q
   · rw [hT] at hb; cases hb
 · intro hm
   rcases hb with rfl | hb
   · rw [hf _ hm] at q; cases q
   · rw [hf _ hm] at hb; cases hb
theorem Past.un {fs : List Addr} {h0 : Heap} {H0 : Hp} (p : Past l e T h h') (u : Un fs [] H0 H h0 h) (h1 : h0.get? e = none) (h2 : h0.get? T = none) (hl : ∀ b ∈ frs l, b ∈ fs ∨ h0.get? b = none) : Un fs [] H0 H h0 h' := by
 have n1 : ∀ {b o}, h0.get? b = some o → b ≠ e := fun q z => by rw [z, h1] at q; cases q
 have n2 : ∀ {b o}, h0.get? b = some o → b ≠ T := fun q z => by rw [z, h2] at q; cases q
 have n3 : ∀ {b o}, h0.get? b = some o → b ∈ frs l → b ∈ fs := fun {b o} q z => by
  rcases hl _ z with y | y
  · exact y
  · rw [y] at q; cases q
 refine ⟨fun b o q n hb _ => ?_, fun b o q n hb _ => ?_, u.free, fun b o q _ => ?_, u.tups, u.frzs, u.tbls⟩
 · exact p.keep b o (u.keep b o q n hb (by simp)) (n1 q) (n2 q) fun z => hb (n3 q z)
 · obtain ⟨sl, q1⟩ := u.slot b o q n hb (by simp)
   by_cases z : b ∈ frs l
   · obtain ⟨sl', q2⟩ := p.slot b _ q1 z
     exact ⟨sl', q2⟩
   · exact ⟨sl, p.keep b _ q1 (n1 q) (n2 q) z⟩
 · obtain ⟨o', q1⟩ := u.there b o q (by simp)
   exact p.there b o' q1 (n2 q)
end
section
variable {P : Program} {w : World} {K : PySem.W.Frag} {mg : Str → Option Value} {base : Heap} {N : List Str} {qual : Str} {scope : Scope} {f : Addr} {cd : Value} {A : Around} {outer : List Env} {s : Shared} {H : Hp} {E : XK}
theorem passF : Passes (CXF P w) (cxOf (CXF P w) P w K mg base N qual scope f cd A outer s H E) E := by
 intro pins σ H1 s1 e s2 I h
 obtain ⟨ea, T, cls, H2, rfl, os, bare, un, hok, he, hT, he2, hT2, fly, hE⟩ := h
 have J := I.call' os un hok bare (fun _ z => nomatch z)
 have b0 : ∀ b o, s.heap.get? b = some o → ∃ o', s1.heap.get? b = some o' := fun b o q => I.base.there b o q (by show b ∉ ([] : List Addr); simp)
 have n0 : ∀ b, s1.heap.get? b = none → s.heap.get? b = none := fun b q => by
  cases z : s.heap.get? b with
  | none => rfl
  | some o => obtain ⟨o', y⟩ := b0 b o z; rw [q] at y; cases y
 refine fly_leave (env := envOfC qual scope s.heap.objs.size f cd) (outer := outer) I.ok.frames rfl fly fun h' T' f' p hT' => ?_
 have hT3 : s.heap.get? T' = none := by
  rcases hT' with rfl | z
  · exact n0 _ hT
  · cases y : s.heap.get? T' with
    | none => rfl
    | some o =>
     obtain ⟨o', x⟩ := J.base.there T' o y (by show T' ∉ ([] : List Addr); simp)
     rw [z] at x; cases x
 have hT4 : H2 T' = none := by
  rcases hT' with rfl | z
  · exact hT2
  · exact hokNone hok z
 refine ⟨ea, T', cls, H2, rfl, J.os, bare, p.un J.base (n0 _ he) (n0 _ hT) fun b hb => ?_, p.hok hok he2 hT2 J.stkFree, n0 _ he, hT3, he2, hT4, f', hE⟩
 have hb' : b ∈ s.heap.objs.size :: frs outer := J.stkSub b hb
 rcases List.mem_cons.mp hb' with z | z
 · exact .inr (by rw [z]; exact Heap.get?_none_of_le (Nat.le_refl _))
 · exact .inl z
def Throws (X : Cx) (E : XK) : Prop := ∀ (pins : List (Addr × Obj)) (σ : L2.St) (H : Hp) (s : Shared) (h' : Heap) (e : Addr) (cls : Value) (args : List Value), Inv X pins σ H s → Heap.MadeExcOf s.heap h' e cls args → E cls none H → X.xe (.ref e) { s with heap := h' }
theorem throwF : Throws (cxOf (CXF P w) P w K mg base N qual scope f cd A outer s H E) E := by
 intro pins σ H1 s1 h1 e cls args I hx hE
 have fr : FrOk (envOfC qual scope s.heap.objs.size f cd :: outer) s1.heap := frOf I.stack
 have hb0 : ∀ b, s1.heap.get? b = none → s.heap.get? b = none := fun b q => by
  cases z : s.heap.get? b with
  | none => rfl
  | some o => obtain ⟨o', y⟩ := I.base.there b o z (by show b ∉ ([] : List Addr); simp); rw [q] at y; cases y
 refine fly_begin (env := envOfC qual scope s.heap.objs.size f cd) (outer := outer) (h := s1.heap) I.ok.frames rfl fr hx fun h' T' f' keep slot hT => ?_
 have hl : ∀ b ∈ frs (envOfC qual scope s.heap.objs.size f cd :: outer), b ∈ frs outer ∨ s.heap.get? b = none := fun b hb => by
  have hb' : b ∈ s.heap.objs.size :: frs outer := I.stkSub b hb
  rcases List.mem_cons.mp hb' with z | z
  · exact .inr (by rw [z]; exact Heap.get?_none_of_le (Nat.le_refl _))
  · exact .inl z
 have hfree : ∀ b ∈ frs (envOfC qual scope s.heap.objs.size f cd :: outer), H1 b = none := I.stkFree
 have un : Un (frs outer) [] H H1 s.heap h' := by
  have u := I.base
  refine ⟨fun b o q n hb _ => ?_, fun b o q n hb _ => ?_, fun b o q n _ => u.free b o q n (by show b ∉ ([] : List Addr); simp), fun b o q _ => ?_, u.tups, u.frzs, u.tbls⟩
  · refine keep b o (u.keep b o q n hb (by show b ∉ ([] : List Addr); simp)) fun z => ?_
    rcases hl b z with y | y
    · exact hb y
    · rw [y] at q; cases q
  · obtain ⟨sl, q1⟩ := u.slot b o q n hb (by show b ∉ ([] : List Addr); simp)
    by_cases z : b ∈ frs (envOfC qual scope s.heap.objs.size f cd :: outer)
    · obtain ⟨sl', q2⟩ := slot b _ q1 z
      exact ⟨sl', q2⟩
    · exact ⟨sl, keep b _ q1 z⟩
  · obtain ⟨o', q1⟩ := u.there b o q (by show b ∉ ([] : List Addr); simp)
    by_cases z : b ∈ frs (envOfC qual scope s.heap.objs.size f cd :: outer)
    · obtain ⟨sl', q2⟩ := slot b _ q1 z
      exact ⟨_, q2⟩
    · exact ⟨_, keep b _ q1 z⟩
 have hok : HOk P w H1 h' := fun a o q => by
  refine (I.hok a o q).stay (fun b u hb z => keep b u z fun hm => ?_) (fun _ z => z) fun _ _ z => z
  rcases hb with rfl | hb
  · rw [hfree _ hm] at q; cases q
  · rw [hfree _ hm] at hb; cases hb
 exact ⟨e, T', cls, H1, rfl, I.os, I.bare, un, hok, hb0 e hx.new, hb0 T' hT, hokNone I.hok hx.new, hokNone I.hok hT, f', hE⟩
end
structure OwnE (K : PySem.W.Frag) (C : Addr) : Prop where
 q : PySem.W.excIn K C [.type "ValueError", .type "Exception", .type "BaseException", .type "object"] "ValueError.__new__" = true
theorem OwnE.obj {K : PySem.W.Frag} {C : Addr} {h : Heap} (O : OwnE K C) (X : K.In h) : ∃ bm N nm q bs hdct sn sub ab col dd k0 k1 k2 k3 k5 mN, h.get? C = some (excClassObj nm q C N bs bm hdct sn sub ab col dd k0 k1 k2 k3 k5 "ValueError.__new__") ∧ h.Ns N mN ∧ mN "__init__" = none ∧
 OwnTail h [.type "ValueError", .type "Exception", .type "BaseException", .type "object"] bm := by
 have q := O.q
 unfold PySem.W.excIn at q
 split at q
 · rename_i dd cl sl lk
   split at q
   · rename_i C1 bm a0 a1 a2 a3 n a5 em es
     simp only [Bool.and_eq_true, beq_iff_eq, Bool.not_eq_true'] at q
     obtain ⟨⟨⟨⟨⟨e1, e2⟩, e3⟩, e4⟩, e5⟩, e6⟩ := q
     subst e1; subst e2
     obtain ⟨c1, c2, c3, c4, c5, c6, c7, c8, c9, c10, c11⟩ := cl
     dsimp only at em e3 e5 e6
     subst em; subst e3
     have hsl : sl = #[a0, a1, a2, a3, some (.builtin "ValueError.__new__"), a5] := by
      cases sl with
      | mk l => simp only at es; rw [es]
     subst hsl
     exact ⟨bm, c4, c1, c5, c2, c6, c7, c8, c9, c10, dd, a0, a1, a2, a3, a5, _, X _ _ lk, .of_isNs (PySem.W.isNs_of_in X e5), PySem.W.nsMap_none_of_in X e5 e6, PySem.W.tail_of_in X e4⟩
   · cases q
 · cases q
section
variable {X : Cx} {x : Str} {C : Addr} {e0 : Expr} {te : TE} {np cpos pos : Pos} {E : XK}
def tRaise (C : Addr) (E : XK) (te : TE) : TS := fun _ σ H => te σ H fun _ H1 => E (.ref C) none H1
theorem ps_raise (O : OwnE X.K C) (hm : X.mg x = some (.ref C)) (hg : Gl X x) (hc : X.calm = true) (ht : Throws X E) (he : PE X e0 te) (hdb : (x == ("__debug__" : Str)) = false := by decide)
 (hst : starEach [e0] X.env = [(false, eval e0 X.env)] := by rfl) : PS X (.Raise (some (.Call (.Name x np) [e0] [] cpos)) none pos) (tRaise C E te) := by
 intro pins s σ H D I h
 obtain ⟨bm, N, nm, q, bs, hdct, sn, sub, ab, col, dd, k0, k1, k2, k3, k5, mN, hC, hN, hni, T⟩ := O.obj I.ok.mod.kin
 refine wpAny_Raise_call_subT (C := C) (nm := nm) (q := q) (N := N) (bs := bs) (bm := bm) (hdct := hdct) (sn := sn) (sub := sub) (ab := ab) (col := col) (dd := dd) (k0 := k0) (k1 := k1) (k2 := k2) (k3 := k3) (k5 := k5)
  F.excBase_ValueError (mN := mN) (T.hasType F.excBase_ValueError.hasBase) (I.ok.hd hc) (by rw [hst]; rfl) hni (ld_glob I hg hm ⟨rfl, ?_⟩ hdb)
 rw [hst]
 refine Calls.evalArgs_plain (Calls.spliced_cons (thn (he pins s σ H _ I h) fun u s1 ⟨v, H1, I1, r1, q1⟩ => Calls.spliced_nil ?_))
 exact ⟨rfl, by show 1 ≤ sizeLine; decide, I1.bk _ _ hC, hN.keeps I1.bk, T.keeps I1.bk, fun h' e hx => ht pins σ H1 s1 h' e _ _ I1 hx q1⟩
def ExcO (e C : Addr) : HO := .ext (ExcAt e C)
theorem excO_ok {P : Program} {w : World} {H : Hp} {h : Heap} {e C : Addr} (x : ExcAt e C h) : ObjOk P w H h e (ExcO e C) := by
 obtain ⟨o, h1, h2⟩ := id x
 exact ⟨x, ⟨o, h1⟩, fun a b ⟨o', q1, q2⟩ k => ⟨o', k o' q1, q2⟩⟩
inductive TyX (K : PySem.W.Frag) (H : Hp) : V → Value → Prop where
 | of {v : V} {t : Value} (h : TyOf K H v t) : TyX K H v t
 | exc {e C : Addr} (h : H e = some (ExcO e C)) (T : ExcC K C) : TyX K H (.ref e) (.ref C)
theorem isinstX {pins : List (Addr × Obj)} {σ : L2.St} {H : Hp} {s : Shared} {A : Around} {Eo : Value → Shared → Prop} {Q : Value → Shared → Prop} {c : Value} {b : Bool} {y : V} {u t : Value} (I : Inv X pins σ H s) (rx : RelV y u) (ty : TyX X.K H y t) (hk : PySem.W.kitOne X.K t c = some b)
 (h : ∀ tk, Q (.bool b) { s with toks := tk }) : wpAny (model X.prog X.w) A (call (.builtin "isinstance") [u, c]) Q Eo s := by
 cases ty with
 | of z => exact isinst_ok I rx z hk h
 | @exc e C z T =>
  cases (show u = Value.ref e from rx)
  obtain ⟨p, _⟩ := (show ObjOk X.prog X.w H s.heap e (ExcO e C) from I.hok e _ z)
  exact PySem.W.kia_one (kitx_exc T) I.kIn p hk (fun z => nomatch z) h
theorem isinstXs {pins : List (Addr × Obj)} {σ : L2.St} {H : Hp} {s : Shared} {A : Around} {Eo : Value → Shared → Prop} {Q : Value → Shared → Prop} {its : List Value} {tp : Addr} {b : Bool} {e C : Addr} {u : Value} (I : Inv X pins σ H s) (z : H e = some (ExcO e C)) (T : ExcC X.K C)
 (htp : IsTup s.heap tp its.toArray) (hk : PySem.W.kitAny X.K (.ref C) its = some b) (h : ∀ tk, Q (.bool b) { s with toks := tk }) : wpAny (model X.prog X.w) A (call (.builtin "isinstance") [.ref e, .ref tp]) Q Eo s := by
 obtain ⟨p, _⟩ := (show ObjOk X.prog X.w H s.heap e (ExcO e C) from I.hok e _ z)
 obtain ⟨⟨oc, od, odt, osl⟩, h1, h2, n, h3⟩ := htp
 have e1 : oc = .type "tuple" := h2
 have e2 : odt = .seq its.toArray n := h3
 subst e1; subst e2
 exact PySem.W.kia_tup (kitx_exc T) I.kIn p h1 hk (fun z => nomatch z) h
end
section
variable {X : Cx} {pins : List (Addr × Obj)} {σ : L2.St} {H : Hp} {s : Shared} {h' : Heap} {ea T : Addr} {cls : Value}
theorem nsNe {h : Heap} {a b : Addr} {m : Str → Option Value} {o : Obj} {vs : Array Value} (n : h.Ns a m) (e : h.get? b = some o) (d : o.data = .fields vs) : a ≠ b := by
 rintro rfl
 obtain ⟨o', es, ep, h1, h2, _⟩ := n
 rw [e] at h1; cases h1
 rw [d] at h2; cases h2
theorem cellNe {h : Heap} {a b : Addr} {v : Option Value} {o : Obj} {vs : Array Value} (n : h.IsCell a v) (e : h.get? b = some o) (d : o.data = .fields vs) : a ≠ b := by
 rintro rfl
 obtain ⟨o', h1, h2⟩ := n
 rw [e] at h1; cases h1
 rw [d] at h2; cases h2
structure Apart (X : Cx) (pins : List (Addr × Obj)) (H : Hp) (ea T : Addr) : Prop where
 pin : ∀ p ∈ X.pn ++ pins, p.1 ≠ ea ∧ p.1 ≠ T
 s0 : X.s₀.heap.get? ea = none
 t0 : X.s₀.heap.get? T = none
 he : H ea = none
 hT : H T = none
theorem invPast (I : Inv X pins σ H s) (a : Apart X pins H ea T) (f : Fly X.stack ea T cls s.heap) (p : Past X.stack ea T s.heap h') : Inv X pins σ H { s with heap := h' } := by
 obtain ⟨oe, vs, oT, ts, a0, f1, f2, f3, f4, f5, f6, f7, f8⟩ := f.at_
 obtain ⟨m, hn, hl⟩ := I.loc
 have z0 : ∀ b o, X.s₀.heap.get? b = some o → b ≠ ea ∧ b ≠ T ∧ (b ∈ frs X.stack → b ∈ X.fs) := fun b o q => by
  refine ⟨fun z => (by rw [z, a.s0] at q; cases q), fun z => (by rw [z, a.t0] at q; cases q), fun z => ?_⟩
  rcases List.mem_cons.mp (I.stkSub b z) with y | y
  · exact absurd y (Nat.ne_of_lt (Nat.lt_of_lt_of_le (Heap.lt_size q) I.ok.above))
  · exact y
 have any : ∀ b o, s.heap.get? b = some o → b ≠ ea → b ≠ T → ∃ sl, h'.get? b = some { o with slots := sl } := fun b o q n1 n2 => by
  by_cases z : b ∈ frs X.stack
  · exact p.slot b o q z
  · exact ⟨o.slots, p.keep b o q n1 n2 z⟩
 have hn' : h'.Ns X.env.locals m := by
  obtain ⟨o, es, ep, h1, h2, r⟩ := id hn
  obtain ⟨sl, q⟩ := any _ o h1 (nsNe hn f1 f3) (nsNe hn f6 f7)
  exact ⟨_, es, ep, q, h2, r⟩
 have cel : ∀ x c v, X.env.cells.lookup x = some c → s.heap.IsCell c v → h'.IsCell c v := fun x c v e y => by
  obtain ⟨o, h1, h2⟩ := id y
  obtain ⟨sl, q⟩ := any c o h1 (cellNe y f1 f3) (cellNe y f6 f7)
  exact ⟨_, q, h2⟩
 refine ⟨I.ok, I.os, I.bare, ⟨fun b o q n hb hx => ?_, fun b o q n hb hx => ?_, I.base.free, fun b o q hx => ?_, I.base.tups, I.base.frzs, I.base.tbls⟩, ⟨m, hn', fun i x v e1 e2 e3 => ?_⟩, fun x c e => ?_, I.free, I.freeC, fun pp hp => ?_, p.hok I.hok a.he a.hT I.stkFree, I.len⟩
 · obtain ⟨n1, n2, n3⟩ := z0 b o q
   exact p.keep b o (I.base.keep b o q n hb hx) n1 n2 fun z => hb (n3 z)
 · obtain ⟨n1, n2, n3⟩ := z0 b o q
   obtain ⟨sl, q1⟩ := I.base.slot b o q n hb hx
   obtain ⟨sl', q2⟩ := any b _ q1 n1 n2
   exact ⟨sl', q2⟩
 · obtain ⟨n1, n2, n3⟩ := z0 b o q
   obtain ⟨o', q1⟩ := I.base.there b o q hx
   exact p.there b o' q1 n2
 · obtain ⟨u, r, l⟩ := hl i x v e1 e2 e3
   refine ⟨u, r, ?_⟩
   rcases l with l | ⟨k, c, e, y⟩
   · exact .inl l
   · exact .inr ⟨k, c, e, cel x c _ e y⟩
 · obtain ⟨v, y⟩ := I.cell x c e
   exact ⟨v, cel x c v e y⟩
 · obtain ⟨q, n, ne, nf, d⟩ := I.pin pp hp
   refine ⟨p.keep _ _ q (a.pin pp hp).1 (a.pin pp hp).2 fun z => ?_, n, ne, nf, d⟩
   rcases List.mem_cons.mp (I.stkSub _ z) with y | y
   · exact ne y
   · exact nf y
theorem invTrack {o : HO} (I : Inv X pins σ H s) (a : Apart X pins H ea T) (f : Fly X.stack ea T cls s.heap) (new : ObjOk X.prog X.w (upd H ea o) s.heap ea o) : Inv X pins σ (upd H ea o) s := by
 obtain ⟨oe, vs, oT, ts, a0, f1, f2, f3, f4, f5, f6, f7, f8⟩ := f.at_
 obtain ⟨m, hn, hl⟩ := I.loc
 have nt : ∀ b u, H b = some u → b ≠ ea := fun b u q z => by rw [z, a.he] at q; cases q
 refine ⟨I.ok, I.os, I.bare, ⟨I.base.keep, I.base.slot, fun b o' q n hx => ?_, I.base.there, fun b xs q => ?_, fun b u xs q => ?_, fun b ps q => ?_⟩, I.loc, I.cell, ?_, fun x c e => ?_, fun pp hp => ?_, fun b u q => ?_, I.len⟩
 · rw [upd_ne (fun z => by rw [z, a.s0] at q; cases q)]; exact I.base.free b o' q n hx
 · have := I.base.tups b xs q; rw [upd_ne (nt b _ this)]; exact this
 · have := I.base.frzs b u xs q; rw [upd_ne (nt b _ this)]; exact this
 · obtain ⟨more, q1⟩ := I.base.tbls b ps q; exact ⟨more, by rw [upd_ne (nt b _ q1)]; exact q1⟩
 · rw [upd_ne (nsNe hn f1 f3)]; exact I.free
 · obtain ⟨v, y⟩ := I.cell x c e
   rw [upd_ne (cellNe y f1 f3)]; exact I.freeC x c e
 · obtain ⟨q, n, ne, nf, d⟩ := I.pin pp hp
   exact ⟨q, by rw [upd_ne (a.pin pp hp).1]; exact n, ne, nf, d⟩
 · by_cases z : b = ea
   · subst z; rw [upd_same] at q; cases q; exact new
   · rw [upd_ne z] at q
     exact (I.hok b u q).stay (fun c v _ y => y) (fun c y => by rw [upd_ne (nt c _ y)]; exact y) fun c xs y => by rw [upd_ne (nt c _ y)]; exact y
end
abbrev XS := Value → L2.St → Hp → Prop
abbrev TSx := Ends → XS → L2.St → Hp → Prop
abbrev TEx := L2.St → Hp → VK → XS → Prop
def XP (X : Cx) (pins : List (Addr × Obj)) (E : XS) (e : Value) (s' : Shared) : Prop := ∃ (ea T : Addr) (cls : Value) (σ' : L2.St) (H' : Hp), e = .ref ea ∧ Inv X pins σ' H' s' ∧ Apart X pins H' ea T ∧ Fly X.stack ea T cls s'.heap ∧ E cls σ' H'
def PEx (X : Cx) (e : Expr) (t : TEx) : Prop :=
 ∀ (pins : List (Addr × Obj)) (s : Shared) (σ : L2.St) (H : Hp) (Q : VK) (E : XS), Inv X pins σ H s → t σ H Q E → wpAny (model X.prog X.w) X.A (eval e X.env) (EP X pins σ Q) (XP X pins E) s
def PSx (X : Cx) (st : Stmt) (t : TSx) : Prop :=
 ∀ (pins : List (Addr × Obj)) (s : Shared) (σ : L2.St) (H : Hp) (D : Ends) (E : XS), Inv X pins σ H s → t D E σ H → wpAny (model X.prog X.w) X.A (exec st X.env) (SP X pins D) (XP X pins E) s
def PSsx (X : Cx) (st : List Stmt) (t : TSx) : Prop :=
 ∀ (pins : List (Addr × Obj)) (s : Shared) (σ : L2.St) (H : Hp) (D : Ends) (E : XS), Inv X pins σ H s → t D E σ H → wpAny (model X.prog X.w) X.A (execs st X.env) (SP X pins D) (XP X pins E) s
section
variable {X : Cx} {st : Stmt} {sts : List Stmt} {e : Expr} {es : List Expr} {pos p : Pos} {x : Str}
def tNextx : TSx := fun D _ σ H => D.nx σ H
def tSeqx (t u : TSx) : TSx := fun D E σ H => t { D with nx := fun σ' H' => u D E σ' H' } E σ H
theorem pssx_nil : PSsx X [] tNextx := fun _ _ σ H _ _ I h => wpAny_execs_nil ⟨σ, H, I, h⟩
theorem pssx_cons {t u : TSx} (h1 : PSx X st t) (h2 : PSsx X sts u) : PSsx X (st :: sts) (tSeqx t u) := by
 intro pins s σ H D E I h
 refine wpAny_execs_cons (thn (h1 pins s σ H { D with nx := fun σ' H' => u D E σ' H' } E I h) fun f s1 q => ?_)
 cases f with
 | next =>
  obtain ⟨σ', H', I', q⟩ := q
  exact h2 pins s1 σ' H' D E I' q
 | ret v => exact q
 | brk => exact q
 | cont => exact q
def tSetx (i : Nat) (te : TEx) : TSx := fun D E σ H => te σ H (fun v H1 => D.nx (σ.set i (some v)) H1) E
theorem psx_set {i : Nat} {te : TEx} {pos' : Pos} (hN : X.N.Nodup) (hi : At X.N i x) (hx : X.env.scope.names.lookup x = some .local) (hs : swapsWith e (some (.Name x pos')) pos.line X.env = pure false) (he : PEx X e te) : PSx X (.Assign [.Name x pos'] e pos) (tSetx i te) := by
 intro pins s σ H D E I h
 refine wpAny_Assign_Name (thn (he pins s σ H _ E I h) fun v s1 ⟨y, H1, I1, r1, q1⟩ => ?_) hs
 exact store_ok I1 hN hi.get (.inl hx) r1 (fun s2 I2 => ⟨_, H1, I2, q1⟩) (.inr hx)
def tCallx (sp : Sp) (t : TA) : TEx := fun σ H Q E => t σ H fun vs H1 => sp vs H1 Q fun cls _ H2 => E cls σ H2
theorem pex_call {k : Nat} {ps : List Str} {sp : Sp} {t : TA} (c : Callee (CXF X.prog X.w) X.prog X.w X.K X.mg X.base x k ps sp) (hr : Room k X.A) (hg : Gl X x) (hdb : (x == ("__debug__" : Str)) = false)
 (he : starEach (e :: es) X.env = (false, eval e X.env) :: starEach es X.env) (hpl : (backTo pos (starEach es X.env)).any (·.1) = false) (hex : X.ex = []) (ha : PA X.nox (e :: es) t) : PEx X (.Call (.Name x p) (e :: es) [] pos) (tCallx sp t) := by
 intro pins s σ H Q E I h
 obtain ⟨f, fd, F, hm, hk, hb⟩ := c.ex
 refine wpAny_Call_Name_kw (ld_glob I hg hm ?_ hdb)
 refine PySem.W.callWith_K (h₀ := X.base) I.ok.mod.kin hk (wpAny_mono (ha pos pins s σ H _ (I.wish _) h) (fun us s1 ⟨vs, H1, I0, r, q⟩ => ?_) fun _ _ z => False.elim z) he hpl
 have I1 := I0.unwish
 refine ⟨I1.kIn, ?_⟩
 have hl : (us ++ []).length = ps.length := by rw [List.append_nil, ← r.length]; exact F.len _ _ _ _ q
 have hb' := hb s1 us I1.kIn hl
 rw [List.append_nil] at hb'
 refine wpAny_call (codeAny_mono (F.run X.A X.stack s1 H1 ⟨us, []⟩ us vs Q _ hr I1.env0 hb' r q) fun rr s' hq => ?_)
 cases rr with
 | error ev =>
  obtain ⟨ea, T, cls, H2, rfl, os, bare, un, hok, he', hT, he2, hT2, fly, hE⟩ := hq
  have old : ∀ b, s1.heap.get? b = none → X.s₀.heap.get? b = none := fun b z => by
   cases y : X.s₀.heap.get? b with
   | none => rfl
   | some o =>
    obtain ⟨o', q'⟩ := I1.base.there b o y (by rw [hex]; simp)
    rw [z] at q'; cases q'
  exact ⟨ea, T, cls, σ, H2, rfl, I1.call' os un hok bare (fun _ z => nomatch z), ⟨fun pp hp => ⟨fun z => (by have := (I1.pin pp hp).1; rw [z, he'] at this; cases this), fun z => (by have := (I1.pin pp hp).1; rw [z, hT] at this; cases this)⟩, old _ he', old _ hT, he2, hT2⟩, fly, hE⟩
 | ok fl =>
  cases fl with
  | ret u => exact I1.after hq
  | next => exact False.elim hq
  | brk => exact False.elim hq
  | cont => exact False.elim hq
theorem Apart.next {pins : List (Addr × Obj)} {σ : L2.St} {H : Hp} {s : Shared} {ea T T' : Addr} (a : Apart X pins H ea T) (I : Inv X pins σ H s) (hex : X.ex = []) (h : T' = T ∨ s.heap.get? T' = none) : Apart X pins H ea T' := by
 rcases h with rfl | z
 · exact a
 · refine ⟨fun p hp => ⟨(a.pin p hp).1, fun y => (by have q := (I.pin p hp).1; rw [y, z] at q; cases q)⟩, a.s0, ?_, a.he, hokNone I.hok z⟩
   cases y : X.s₀.heap.get? T' with
   | none => rfl
   | some o =>
    obtain ⟨o', q⟩ := I.base.there T' o y (by rw [hex]; simp)
    rw [z] at q; cases q
abbrev mkd (X : Cx) (ea : Addr) : Cx := { X with A := X.A.mark (some (.ref ea)), calm := false, xe := fun _ _ => False }
theorem mkd_inv {pins : List (Addr × Obj)} {σ : L2.St} {H : Hp} {s : Shared} {ea : Addr} (I : Inv X pins σ H s) : Inv (mkd X ea) pins σ H s :=
 ⟨⟨I.ok.mod, I.ok.kind, I.ok.glob, I.ok.blt, I.ok.above, I.ok.inj, I.ok.has, I.ok.cab, fun z => (by cases z), I.ok.frames, I.ok.stk, I.ok.exf, I.ok.bs, I.ok.bsz, I.ok.noex, I.ok.exfs, I.ok.funs, I.ok.frf⟩, I.os, I.bare, I.base, I.loc, I.cell, I.free, I.freeC, I.pin, I.hok, I.len⟩
theorem unmkd {pins : List (Addr × Obj)} {σ σ' : L2.St} {H H' : Hp} {s s' : Shared} {ea : Addr} (I : Inv (mkd X ea) pins σ H s) (I0 : Inv X pins σ' H' s') : Inv X pins σ H s :=
 ⟨I0.ok, I.os, I.bare, I.base, I.loc, I.cell, I.free, I.freeC, I.pin, I.hok, I.len⟩
end
def mroE (C B : Addr) : List Value := [.ref C, .ref B, .type "ValueError", .type "Exception", .type "BaseException", .type "object"]
def eclsIn (K : PySem.W.Frag) (C B : Addr) : Bool :=
 PySem.W.excIn K C [.type "ValueError", .type "Exception", .type "BaseException", .type "object"] "ValueError.__new__" &&
 (PySem.W.findIn K (.ref C) "__getattribute__" == some (some (.builtin "BaseException.__getattribute__"))) && (PySem.W.findIn K (.ref C) "__getattr__" == some none) &&
 (PySem.W.findIn K (.ref C) "__class__" == some (some (.builtin "object.__class__"))) && (PySem.W.specialIn K (.builtin "object.__class__") "__get__" == some (some (.builtin "getset_descriptor.__get__"))) &&
 (PySem.W.takesIn K (.builtin "object.__class__") == some true) && ((PySem.W.clsIn K C).map (·.mro) == some (mroE C B)) && (PySem.W.typeIn K (.ref C) == some (.type "type"))
structure ECls (K : PySem.W.Frag) (mg : Str → Option Value) (x : Str) (C B : Addr) : Prop where
 mgx : mg x = some (.ref C)
 inK : eclsIn K C B = true
section
variable {K : PySem.W.Frag} {mg : Str → Option Value} {x y : Str} {C D B : Addr}
theorem eclsIn_all (h : eclsIn K C B = true) : OwnE K C ∧ ExcC K C ∧ (∃ cd, PySem.W.clsIn K C = some cd ∧ cd.mro = mroE C B) ∧ PySem.W.typeIn K (.ref C) = some (.type "type") := by
 unfold eclsIn at h
 simp only [Bool.and_eq_true, beq_iff_eq] at h
 obtain ⟨⟨⟨⟨⟨⟨⟨h1, h2⟩, h3⟩, h4⟩, h5⟩, h6⟩, h7⟩, h8⟩ := h
 obtain ⟨cd, q1, q2⟩ := Option.map_eq_some_iff.mp h7
 have mro : ∀ b : Value, PySem.W.mroIn K C b = some ((mroE C B).contains b) := fun b => by
  unfold PySem.W.mroIn
  rw [q1, Option.bind_some, q2]
  rfl
 refine ⟨⟨h1⟩, ⟨h2, h3, h4, h5, h6, ?_, ?_⟩, ⟨cd, q1, q2⟩, h8⟩
 · rw [mro]; simp [mroE]
 · rw [mro]; simp [mroE]
theorem eclsMro (h : eclsIn K C B = true) (b : Value) : PySem.W.mroIn K C b = some ((mroE C B).contains b) := by
 obtain ⟨_, _, ⟨cd, q1, q2⟩, _⟩ := eclsIn_all h
 unfold PySem.W.mroIn
 rw [q1, Option.bind_some, q2]
 rfl
theorem ECls.own (e : ECls K mg x C B) : OwnE K C := (eclsIn_all e.inK).1
structure BCls (K : PySem.W.Frag) (mg : Str → Option Value) (x : Str) (B : Addr) : Prop where
 mgx : mg x = some (.ref B)
 cls : (PySem.W.clsIn K B).isSome = true
 ty : PySem.W.typeIn K (.ref B) = some (.type "type")
 exc : PySem.W.mroIn K B (.type "BaseException") = some true
end
section
variable {P : Program} {w : World} {K : PySem.W.Frag} {mg : Str → Option Value} {base : Heap}
theorem Fun.okX {x qual : Str} {st : Stmt} {f : Addr} {fd : FuncData} {N ps : List Str} {k : Nat} {sp : Sp} (F : Fun K x qual st f fd) (S : FnScope N ps (defScope st)) (len : ∀ vs H Q E, sp vs H Q E → vs.length = ps.length)
 (hbody : ∀ (cdv : Value) (A : Around) (outer : List Env) (s : Shared) (H : Hp) (vs : List V) (Q : VK) (E : XK), Room k (A.deeper (envOfC qual (defScope st) s.heap.objs.size f cdv)) → sp vs H Q E →
  ∃ t, PSs (cxOf (CXF P w) P w K mg base N qual (defScope st) f cdv A outer s H E) (defBody st) t ∧ t { nx := fun _ H' => Q .non H', rt := Q } (start N vs) H) : FnOk P w K mg base (CXF P w) (k + 1) f fd ps sp := by
 obtain ⟨oc, od, kV, doc, pm, an, cdv, ct, osl, rfl, lk, hcd⟩ := F.ex
 exact fn_of lk hcd S len fun A outer s H vs Q E hr hsp => hbody cdv A outer s H vs Q E hr hsp
end
section
variable {X : Cx} {x n : Str} {C B : Addr} {e e0 : Expr} {es : List Expr} {te : TE} {t : TA} {np cpos pos p hpos : Pos} {E : XK} {i : Nat}
theorem r_raise (ec : ECls X.K X.mg x C B) (hg : Gl X x) (hc : X.calm = true) (ht : Throws X E) (hdb : (x == ("__debug__" : Str)) = false) (hst : starEach [e0] X.env = [(false, eval e0 X.env)]) (he : PE X e0 te) :
 PS X (.Raise (some (.Call (.Name x np) [e0] [] cpos)) none pos) (tRaise C E te) := ps_raise ec.own ec.mgx hg hc ht he hdb hst
theorem r_bty {T : String} (hg : Gl X x) (hm : X.mg x = none) (hv : bootBuiltins x = some (.type T)) (hn : x ≠ "__name__") (hdb : (x == ("__debug__" : Str)) = false) : PE X (.Name x pos) (tC (.ty T)) := pe_bltn hg hm hv rfl hn hdb
def rIsi (K : PySem.W.Frag) : List V → Hp → VK → Prop := fun xs H Q => (∃ z ty c b, xs = [z, .ty c] ∧ TyX K H z ty ∧ PySem.W.kitOne K ty (.type c) = some b ∧ Q (.bl b) H) ∨
 (∃ z ty C b, xs = [z, .ref C] ∧ TyX K H z ty ∧ PySem.W.kitOne K ty (.ref C) = some b ∧ Q (.bl b) H) ∨
 ∃ (e C tp : Addr) (Cs : List Addr) (b : Bool), xs = [.ref e, .ref tp] ∧ H e = some (ExcO e C) ∧ ExcC K C ∧ H tp = some (.tup (Cs.map V.ref)) ∧ PySem.W.kitAny K (.ref C) (Cs.map Value.ref) = some b ∧ Q (.bl b) H
theorem valsRef : ∀ {Cs : List Addr} {us : List Value}, Vals (Cs.map V.ref) us → us = Cs.map Value.ref
 | [], _, .nil => rfl
 | _ :: _, _, .cons r t => by rw [List.map_cons, ← valsRef t]; cases r; rfl
theorem call_isiX : CallR X (.builtin "isinstance") (rIsi X.K) := by
 intro pins s σ H xs us Q I r h
 rcases h with ⟨z, ty, c, b, rfl, ht, hk, q⟩ | ⟨z, ty, C, b, rfl, ht, hk, q⟩ | ⟨e, C, tp, Cs, b, rfl, he, T, htp, hk, q⟩
 · obtain ⟨u, w', rfl, r1, r2⟩ := vals2 r
   cases r2
   exact isinstX I r1 ht hk fun tk => ⟨.bl b, H, I.tok _, rfl, q⟩
 · obtain ⟨u, w', rfl, r1, r2⟩ := vals2 r
   cases r2
   exact isinstX I r1 ht hk fun tk => ⟨.bl b, H, I.tok _, rfl, q⟩
 · obtain ⟨u, w', rfl, r1, r2⟩ := vals2 r
   cases r1
   cases r2
   obtain ⟨its, rv, hT, _⟩ := I.tuple (SqT.of htp)
   rw [valsRef rv] at hT
   exact isinstXs (u := .none) I he T hT hk fun tk => ⟨.bl b, H, I.tok _, rfl, q⟩
theorem r_isiX (hx : x = "isinstance") (hg : Gl X x) (he : starEach (e :: es) X.env = (false, eval e X.env) :: starEach es X.env) (hpl : (backTo pos (starEach es X.env)).any (·.1) = false) (hm : X.mg x = none) (ha : PA X (e :: es) t) :
 PE X (.Call (.Name x p) (e :: es) [] pos) (tCB (rIsi X.K) t) := by subst hx; exact pe_callB call_isiX hg hm boot_isinstance ha (by decide) (by decide) he hpl
theorem r_callX {k : Nat} {ps : List Str} {sp : Sp} (c : Callee (CXF X.prog X.w) X.prog X.w X.K X.mg X.base x k ps sp) (hx : Passes (CXF X.prog X.w) X E) (hr : Room k X.A) (hg : Gl X x) (hdb : (x == ("__debug__" : Str)) = false)
 (he : starEach (e :: es) X.env = (false, eval e X.env) :: starEach es X.env) (hpl : (backTo pos (starEach es X.env)).any (·.1) = false) (ha : PA X (e :: es) t) : PE X (.Call (.Name x p) (e :: es) [] pos) (tCall sp [] E t) := by
 obtain ⟨f, fd, F, hm, hk, hb⟩ := c.ex
 exact pe_call F hr hg hm hk hb .nil hx ha hdb he hpl
end
def Bd (n : Nat) (i : Int) : Prop := i.natAbs < 2 ^ n
theorem Bd.mono {m n : Nat} {i : Int} (h : Bd m i) (hm : m ≤ n) : Bd n i := Nat.lt_of_lt_of_le h (Nat.pow_le_pow_right (by decide) hm)
structure JE (X : Cx) (e : Expr) (t : TE) : Prop where h : PE X e t
structure JT (X : Cx) (e : Expr) (t : TT) : Prop where h : PT X e t
structure JW (X : Cx) (e : Expr) (t : TT) : Prop where h : PW X e t
structure JA (X : Cx) (es : List Expr) (t : TA) : Prop where h : PA X es t
structure JO (X : Cx) (e : Option Expr) (t : TO) : Prop where h : PO X e t
structure JI (X : Cx) (tg it : Expr) (t : TI) : Prop where h : PI X tg it t
structure JG (X : Cx) (tg : Expr) (t : TG) : Prop where h : PG X tg t
structure JS (X : Cx) (st : Stmt) (t : TS) : Prop where h : PS X st t
structure JSs (X : Cx) (st : List Stmt) (t : TS) : Prop where h : PSs X st t
structure JEx (X : Cx) (e : Expr) (t : TEx) : Prop where h : PEx X e t
structure JSx (X : Cx) (st : Stmt) (t : TSx) : Prop where h : PSx X st t
structure JSsx (X : Cx) (st : List Stmt) (t : TSx) : Prop where h : PSsx X st t
structure JOp (X : Cx) (op : Operator) (r : R2) : Prop where h : OpR X (binaryOp op) r
structure JCop (X : Cx) (op : CmpOp) (r : R2) : Prop where h : OpR X (compareOp op) r
section
variable {X : Cx} {a b c e o e0 : Expr} {es rest : List Expr} {ta tb tc te to : TE} {tA tB' : TT} {t : TA} {pos p apos p2 cpos np hpos : Pos} {x n : Str} {i j : Nat} {N : List Str} {C B : Addr} {E : XK}
theorem j_int {k : Int} {q : Nat} : JE X (.Constant (.int k) q pos) (tC (.int k)) := ⟨pe_int⟩
theorem j_bl {k : Bool} {q : Nat} : JE X (.Constant (.bool k) q pos) (tC (.bl k)) := ⟨pe_bl⟩
theorem j_non {q : Nat} : JE X (.Constant .none q pos) (tC .non) := ⟨pe_non⟩
theorem j_str {k : Str} {q : Nat} : JE X (.Constant (.str k) q pos) (tC (.str k)) := ⟨pe_str⟩
theorem j_name (h : At X.N i x) (hk : X.env.scope.names.lookup x = some .local) (hd : (x == ("__debug__" : Str)) = false) (hcd : (x == ("__classdict__" : Str)) = false) : JE X (.Name x pos) (tVar i) := ⟨r_name h hk hd hcd⟩
theorem j_bin {op : Operator} {r : R2} (ho : JOp X op r) (ha : JE X a ta) (hb : JE X b tb) : JE X (.BinOp a op b pos) (tOp r ta tb) := ⟨r_bin ho.h ha.h hb.h⟩
theorem o_sub : JOp X .Sub (rI0 fun i j => .int (i - j)) := ⟨op_sub⟩
theorem o_mod : JOp X .Mod (rI (fun _ j => 0 < j) fun i j => .int (i % j)) := ⟨op_mod⟩
theorem o_fdiv : JOp X .FloorDiv (rI CDivB fun i j => .int (i / j)) := ⟨op_fdivB⟩
theorem o_pow : JOp X .Pow (rI CPow fun i j => .int (i ^ j.toNat)) := ⟨op_pow⟩
theorem c_eq : JCop X .Eq rEq := ⟨op_eq⟩
theorem c_lt : JCop X .Lt (rI0 fun i j => .bl (decide (i < j))) := ⟨op_lt⟩
theorem c_le : JCop X .LtE (rI0 fun i j => .bl (decide (i ≤ j))) := ⟨op_le⟩
theorem c_gt : JCop X .Gt (rI0 fun i j => .bl (decide (j < i))) := ⟨op_gt⟩
theorem c_ge : JCop X .GtE (rI0 fun i j => .bl (decide (j ≤ i))) := ⟨op_ge⟩
theorem c_isnot : JCop X .IsNot (fun x y H Q => ∃ a b : Bool, x = .bl a ∧ y = .bl b ∧ Q (.bl (!decide (a = b))) H) := ⟨op_isnotB⟩
theorem j_ix (hs : PlainIx b) (ha : JE X a ta) (hb : JE X b tb) : JE X (.Subscript a b pos) (tOp (rIx X.K) ta tb) := ⟨r_ix hs ha.h hb.h⟩
theorem j_onone : JO X none tNoPart := ⟨po_none⟩
theorem j_osome (h : JE X e te) : JO X (some e) (tPart te) := ⟨po_some h.h⟩
theorem j_tup {k : Nat} (h : JA X es t) : JE X (.Tuple es k pos) (tTupS t) := ⟨r_tupS h.h⟩
theorem j_lst (h : JA X es t) : JE X (.List es pos) (tLstS t) := ⟨r_lstS h.h⟩
theorem j_dict0 : JE X (.Dict [] [] pos) tDNewS := ⟨r_dict0S⟩
theorem j_dict1 (ha : JE X a ta) (hb : JE X b tb) : JE X (.Dict [some a] [b] pos) (tDisp [(ta, tb)]) := ⟨r_dict1 ha.h hb.h⟩
theorem j_cmp {op : CmpOp} {r : R2} (h1 : op ≠ .In) (h2 : op ≠ .NotIn) (ho : JCop X op r) (ha : JE X a ta) (hb : JE X b tb) : JE X (.Compare a [op] [b] pos) (tOp r ta tb) := ⟨r_cmp h1 h2 ho.h ha.h hb.h⟩
theorem j_neg (ha : JE X a ta) : JE X (.UnaryOp .USub a pos) (tUn (rU fun i => .int (-i)) ta) := ⟨r_neg ha.h⟩
theorem j_not (ha : JE X a ta) : JE X (.UnaryOp .Not a pos) (tNotV ta) := ⟨pe_not ha.h⟩
theorem j_and (ha : JE X a ta) (hb : JE X (.BoolOp .And (b :: rest) pos) tb) : JE X (.BoolOp .And (a :: b :: rest) pos) (tAndV ta tb) := ⟨pe_and ha.h hb.h⟩
theorem j_one {op} (h : JE X a ta) : JE X (.BoolOp op [a] pos) ta := ⟨pe_one h.h⟩
theorem j_bty {T : String} (hg : Gl X x) (hm : X.mg x = none) (hv : bootBuiltins x = some (.type T)) (hn : x ≠ "__name__") (hdb : (x == ("__debug__" : Str)) = false) : JE X (.Name x pos) (tC (.ty T)) := ⟨r_bty hg hm hv hn hdb⟩
theorem j_append {cpos : Pos} (hbase : attributeBase o "append" X.env (eval o X.env) = eval o X.env) (hfew : ((backTo cpos (starEach [e] X.env)).all (fun x => !x.1) && (backToKw cpos (keywordEach [] X.env)).all (fun x => x.1.isSome)
 && decide (([e] : List Expr).length + ([] : List Keyword).length + (if ([] : List Keyword).isEmpty then 0 else 1) < 30)) = true) (hline : (apos.endLine == cpos.line) = true) (hs : starEach [e] X.env = (false, eval e X.env) :: starEach [] X.env)
 (hpl : (backTo cpos (starEach [] X.env)).any (·.1) = false) (ho : JE X o to) (ha : JA X [e] t) : JE X (.Call (.Attribute o "append" apos) [e] [] cpos) (tBM X.K "list" rAppend to t) := ⟨r_append hbase hfew hline hs hpl ho.h ha.h⟩
theorem j_call {k : Nat} {ps : List Str} {sp : Sp} (c : Callee CX0 X.prog X.w X.K X.mg X.base x k ps sp) (hr : Room k X.A) (hg : Gl X x) (hdb : (x == ("__debug__" : Str)) = false)
 (he : starEach (e :: es) X.env = (false, eval e X.env) :: starEach es X.env) (hpl : (backTo pos (starEach es X.env)).any (·.1) = false) (ha : JA X (e :: es) t) : JE X (.Call (.Name x p) (e :: es) [] pos) (tCall sp [] E0 t) := ⟨r_call c hr hg hdb he hpl ha.h⟩
theorem j_callX {k : Nat} {ps : List Str} {sp : Sp} (c : Callee (CXF X.prog X.w) X.prog X.w X.K X.mg X.base x k ps sp) (hx : Passes (CXF X.prog X.w) X E) (hr : Room k X.A) (hg : Gl X x) (hdb : (x == ("__debug__" : Str)) = false)
 (he : starEach (e :: es) X.env = (false, eval e X.env) :: starEach es X.env) (hpl : (backTo pos (starEach es X.env)).any (·.1) = false) (ha : JA X (e :: es) t) : JE X (.Call (.Name x p) (e :: es) [] pos) (tCall sp [] E t) := ⟨r_callX c hx hr hg hdb he hpl ha.h⟩
section
variable (hg : Gl X x) (he : starEach (e :: es) X.env = (false, eval e X.env) :: starEach es X.env) (hpl : (backTo pos (starEach es X.env)).any (·.1) = false)
include hg he hpl
theorem j_isi (hx : x = "isinstance") (hm : X.mg x = none) (ha : JA X (e :: es) t) : JE X (.Call (.Name x p) (e :: es) [] pos) (tCB (rIsi X.K) t) := ⟨r_isiX hx hg he hpl hm ha.h⟩
theorem j_len (hx : x = "len") (hm : X.mg x = none) (ha : JA X (e :: es) t) : JE X (.Call (.Name x p) (e :: es) [] pos) (tCB (rLen X.K) t) := ⟨r_len hg he hpl hx hm ha.h⟩
theorem j_max (hx : x = "max") (hc : X.calm = true) (hm : X.mg x = none) (ha : JA X (e :: es) t) : JE X (.Call (.Name x p) (e :: es) [] pos) (tCB (fun xs H Q => ∃ i j, xs = [.int i, .int j] ∧ Q (.int (if j > i then j else i)) H) t) := ⟨r_max hg he hpl hx hc hm ha.h⟩
theorem j_min (hx : x = "min") (hc : X.calm = true) (hm : X.mg x = none) (ha : JA X (e :: es) t) : JE X (.Call (.Name x p) (e :: es) [] pos) (tCB (fun xs H Q => ∃ i j, xs = [.int i, .int j] ∧ Q (.int (if j < i then j else i)) H) t) := ⟨r_min hg he hpl hx hc hm ha.h⟩
end
theorem j_nil : JA X [] tNil := ⟨pa_nil⟩
theorem j_cons (hs : starEach (e :: es) X.env = (false, eval e X.env) :: starEach es X.env) (ha : JE X e te) (hr : JA X es t) : JA X (e :: es) (tCons te t) := ⟨r_acons hs ha.h hr.h⟩
theorem u_cmp {op : CmpOp} {r : R2} (h1 : op ≠ .In) (h2 : op ≠ .NotIn) (ho : JCop X op r) (ha : JE X a ta) (hb : JE X b tb) : JT X (.Compare a [op] [b] pos) (tTest (tOp r ta tb)) := ⟨t_cmp h1 h2 ho.h ha.h hb.h⟩
theorem u_or (h : JW X (.BoolOp .Or es pos) tA) : JT X (.BoolOp .Or es pos) tA := ⟨h.h.pt⟩
theorem u_not (ha : JT X a tA) : JT X (.UnaryOp .Not a pos) (tNot tA) := ⟨pt_not ha.h⟩
theorem u_call {f : Expr} {ks : List Keyword} (h : JE X (.Call f es ks pos) te) : JT X (.Call f es ks pos) (tB te) := ⟨t_call h.h⟩
theorem w_or1 (ha : JT X a tA) : JW X (.BoolOp .Or [a] pos) tA := ⟨pw_or1 ha.h⟩
theorem w_or (ha : JT X a tA) (hb : JW X (.BoolOp .Or (b :: rest) pos) tB') : JW X (.BoolOp .Or (a :: b :: rest) pos) (tOr tA tB') := ⟨pw_or ha.h hb.h⟩
theorem i_range1 {tg : Expr} (hx : x = "range") (hg : Gl X x) (hm : X.mg x = none) (hs : starEach [a] X.env = [(false, eval a X.env)]) (ha : JA X [a] t) : JI X tg (.Call (.Name x p) [a] [] pos) (iRng1 t) := ⟨r_irange1 hx hg hm hs ha.h⟩
theorem g_name (h : At X.N i x) (hN : X.N.Nodup) (hk : X.env.scope.names.lookup x = some .local) : JG X (.Name x pos) (gName i) := ⟨r_gname h hN hk⟩
variable {st : Stmt} {sts : List Stmt} {t1 t2 : TS}
theorem s_ret (he : JE X e te) : JS X (.Return (some e) pos) (tRet te) := ⟨r_ret he.h⟩
theorem s_set (h : At X.N i x) (hN : X.N.Nodup) (hk : X.env.scope.names.lookup x = some .local) (hs : swapsWith e (some (.Name x p)) pos.line X.env = pure false) (he : JE X e te) : JS X (.Assign [.Name x p] e pos) (tAsg te (gName i)) := ⟨r_set h hN hk hs he.h⟩
theorem s_expr (hs : swapsWith e none pos.line X.env = pure false) (he : JE X e te) : JS X (.Expr e pos) (tDrop te) := ⟨r_expr hs he.h⟩
theorem s_if {aa bb : List Stmt} (hc : JT X c tA) (ha : JSs X aa t1) (hb : JSs X bb t2) : JS X (.If c aa bb pos) (tMid (tIfS tA t1 t2)) := ⟨r_ifM hc.h ha.h hb.h⟩
theorem s_for {iter tg : Expr} {body : List Stmt} {wi : TI} {g : TG} {tb : TS} (hp : PassesOwn (model X.prog X.w) X.A X.env X.xe) (hc : X.calm = true) (hs : ∀ x, foldedSetIterable iter X.env x = pure x) (hi : JI X tg iter wi) (hg : JG X tg g) (hb : JSs X body tb) : JS X (.For tg iter body [] pos) (tFor wi g tb) := ⟨r_for hp hc hs hi.h hg.h hb.h⟩
theorem s_while {body : List Stmt} {tb : TS} (hp : PassesOwn (model X.prog X.w) X.A X.env X.xe) (hc : JT X c tA) (hb : JSs X body tb) : JS X (.While c body [] pos) (tWhile tA tb) := ⟨r_while hp hc.h hb.h⟩
theorem s_unpack2 {y : Str} {px py pt : Pos} {kt : Nat} (hi : At X.N i x) (hj : At X.N j y) (hc : X.calm = true) (hN : X.N.Nodup) (hx : X.env.scope.names.lookup x = some .local) (hy : X.env.scope.names.lookup y = some .local)
 (h1 : (assignEach [.Name x px, .Name y py] X.env).map (·.2) = assign (.Name x px) X.env :: (assignEach [.Name y py] X.env).map (·.2))
 (h2 : (assignEach [.Name y py] X.env).map (·.2) = assign (.Name y py) X.env :: (assignEach [] X.env).map (·.2))
 (hn : (assignEach [.Name x px, .Name y py] X.env).length = 2) (hst : (assignEach [.Name x px, .Name y py] X.env).findIdx? (·.1) = none)
 (hs : swapsWithSole [.Tuple [.Name x px, .Name y py] kt pt] e pos.line X.env = pure false) (hw : swappedStores [.Tuple [.Name x px, .Name y py] kt pt] e X.env = pure none)
 (h3 : (assignEach [.Tuple [.Name x px, .Name y py] kt pt] X.env).map (·.2) = [assign (.Tuple [.Name x px, .Name y py] kt pt) X.env]) (he : JE X e te) :
 JS X (.Assign [.Tuple [.Name x px, .Name y py] kt pt] e pos) (tAsg te (gTup X.K 2 (gCons (gName i) (gCons (gName j) gNil)))) := ⟨r_unpack2 hi hj hc hN hx hy h1 h2 hn hst hs hw h3 he.h⟩
theorem s_raise (ec : ECls X.K X.mg x C B) (hg : Gl X x) (hc : X.calm = true) (ht : Throws X E) (hdb : (x == ("__debug__" : Str)) = false) (hst : starEach [e0] X.env = [(false, eval e0 X.env)]) (he : JE X e0 te) :
 JS X (.Raise (some (.Call (.Name x np) [e0] [] cpos)) none pos) (tRaise C E te) := ⟨r_raise ec hg hc ht hdb hst he.h⟩
theorem ss_nil : JSs X [] tNext := ⟨pss_nil⟩
theorem ss_cons (h1 : JS X st t1) (h2 : JSs X sts t2) : JSs X (st :: sts) (tSeq t1 t2) := ⟨pss_cons h1.h h2.h⟩
theorem x_call {k : Nat} {ps : List Str} {sp : Sp} (c : Callee (CXF X.prog X.w) X.prog X.w X.K X.mg X.base x k ps sp) (hr : Room k X.A) (hg : Gl X x) (hdb : (x == ("__debug__" : Str)) = false)
 (he : starEach (e :: es) X.env = (false, eval e X.env) :: starEach es X.env) (hpl : (backTo pos (starEach es X.env)).any (·.1) = false) (hex : X.ex = []) (ha : JA X.nox (e :: es) t) : JEx X (.Call (.Name x p) (e :: es) [] pos) (tCallx sp t) := ⟨pex_call c hr hg hdb he hpl hex ha.h⟩
theorem x_set {tx : TEx} (hN : X.N.Nodup) (hi : At X.N i x) (hx : X.env.scope.names.lookup x = some .local) (hs : swapsWith e (some (.Name x p)) pos.line X.env = pure false) (he : JEx X e tx) : JSx X (.Assign [.Name x p] e pos) (tSetx i tx) := ⟨psx_set hN hi hx hs he.h⟩
theorem xx_nil : JSsx X [] tNextx := ⟨pssx_nil⟩
theorem xx_cons {u1 u2 : TSx} (h1 : JSx X st u1) (h2 : JSsx X sts u2) : JSsx X (st :: sts) (tSeqx u1 u2) := ⟨pssx_cons h1.h h2.h⟩
end
section
variable {P : Program} {w : World} {K : PySem.W.Frag} {mg : Str → Option Value} {base : Heap} {x qual : Str} {st : Stmt} {f : Addr} {fd : FuncData} {N ps : List Str} {k : Nat} {sp : Sp}
theorem Fun.j (F : Fun K x qual st f fd) (S : FnScope N ps (defScope st)) (len : ∀ vs H Q E, sp vs H Q E → vs.length = ps.length)
 (hbody : ∀ (cdv : Value) (A : Around) (outer : List Env) (s : Shared) (H : Hp) (vs : List V) (Q : VK) (E : XK), Room k (A.deeper (envOfC qual (defScope st) s.heap.objs.size f cdv)) → sp vs H Q E →
  ∃ t, JSs (cxOf CX0 P w K mg base N qual (defScope st) f cdv A outer s H E).nox (defBody st) t ∧ t { nx := fun _ H' => Q .non H', rt := Q } (start N vs) H) : FnOk P w K mg base CX0 (k + 1) f fd ps sp :=
 L2.Fun.ok F S len fun cdv A outer s H vs Q E hr h => let ⟨t, a, b⟩ := hbody cdv A outer s H vs Q E hr h; ⟨t, a.h, b⟩
theorem Fun.jX (F : Fun K x qual st f fd) (S : FnScope N ps (defScope st)) (len : ∀ vs H Q E, sp vs H Q E → vs.length = ps.length)
 (hbody : ∀ (cdv : Value) (A : Around) (outer : List Env) (s : Shared) (H : Hp) (vs : List V) (Q : VK) (E : XK), Room k (A.deeper (envOfC qual (defScope st) s.heap.objs.size f cdv)) → sp vs H Q E →
  ∃ t, JSs (cxOf (CXF P w) P w K mg base N qual (defScope st) f cdv A outer s H E) (defBody st) t ∧ t { nx := fun _ H' => Q .non H', rt := Q } (start N vs) H) : FnOk P w K mg base (CXF P w) (k + 1) f fd ps sp :=
 Br.Fun.okX F S len fun cdv A outer s H vs Q E hr h => let ⟨t, a, b⟩ := hbody cdv A outer s H vs Q E hr h; ⟨t, a.h, b⟩
end
end Br
namespace Br
end Br
namespace Br
open PySem PySem.Spec PySem.Calls PyProof.Rows L2
mutual
inductive Rep (H : Hp) : V → PyData → Prop
 | non : Rep H .non .none
 | bl (b : Bool) : Rep H (.bl b) (.bool b)
 | int (i : Int) : Rep H (.int i) (.int i)
 | str (x : Str) : Rep H (.str x) (.str x)
 | tup {a : Addr} {xs : List V} {ds : List PyData} (h : H a = some (.tup xs)) (r : Reps H xs ds) : Rep H (.ref a) (.tuple ds)
 | lst {a : Addr} {xs : List V} {ds : List PyData} (h : H a = some (.lst xs)) (r : Reps H xs ds) : Rep H (.ref a) (.list ds)
inductive Reps (H : Hp) : List V → List PyData → Prop
 | nil : Reps H [] []
 | cons {x : V} {xs : List V} {d : PyData} {ds : List PyData} (h : Rep H x d) (r : Reps H xs ds) : Reps H (x :: xs) (d :: ds)
end
def Pl (d : PyData) : Prop := d.canLay0 = true ∧ d.depth ≤ 60
theorem passF0 {X : Cx} : Passes (CXF X.prog X.w) X E0 := fun _ _ _ _ _ _ _ ⟨_, _, _, _, _, _, _, _, _, _, _, _, _, _, hE⟩ => hE.elim
section
variable {prog : Program} {w : World} {A : Around} {R : Result → Shared → Prop} {s : Shared}
abbrev testsOf (ifs : List Expr) (env : Env) : Sem Bool := forIn ifs true fun c r => if r = true then do let ok ← isTrue c env (eval c env); pure (ForInStep.yield ok) else pure (ForInStep.yield r)
theorem compLoop_go {elt target iter : Expr} {ifs : List Expr} {scope : Scope} {pos : Pos} {it acc : Value} {env : Env} (I : Nat → Shared → Prop)
 (turn : ∀ n s, I n s → wpAny (model prog w) A (pyNext it) (fun r s₁ => match r with
  | none => R (.ok .next) s₁
  | some v => wpAny (model prog w) A (letOwnedTupleGo target it v) (fun _ s₁ => wpAny (model prog w) A (assign target env v) (fun _ s₂ =>
   wpAny (model prog w) A (testsOf ifs env) (fun ok s₃ =>
    if ok = true then wpAny (model prog w) A (eval elt env) (fun x s₄ =>
     wpAny (model prog w) A (call (.builtin "list.append") [acc, x]) (fun _ s₅ => ∃ m, m < n ∧ I m s₅) (fun _ _ => False) s₄) (fun _ _ => False) s₃
    else ∃ m, m < n ∧ I m s₃) (fun _ _ => False) s₂) (fun _ _ => False) s₁) (fun _ _ => False) s₁) (fun _ _ => False) s)
 (n : Nat) (h : I n s) :
 codeAny (model prog w) A (.compLoop (.ListComp elt [⟨target, iter, ifs, 0⟩] scope pos) 0 it acc env) R s := by
 refine codeAny_loop rfl I (fun n s hI => ?_) n h
 show wpAny _ A ((compTurn (.ListComp elt [⟨target, iter, ifs, 0⟩] scope pos) 0 it acc env).onRaise (fun x => do noteFrame x env; theTreesLotGoes x)) _ _ s
 refine wpAny_noted (wpAny_mono (E := fun _ _ => False) ?_ (fun _ _ q => q) fun _ _ f => f.elim)
 rw [compTurn_list]
 refine wpAny_bind (wpAny_standAt (wpAny_bind (thn (turn n s hI) fun r s₁ h₁ => ?_)))
 cases r with
 | none => exact wpAny_pure h₁
 | some v =>
  refine wpAny_bind (thn h₁ fun _ s₁ h₁ => wpAny_bind (thn h₁ fun _ s₂ h₂ => wpAny_bind (thn h₂ fun ok s₃ h₃ => ?_)))
  cases ok with
  | false => exact wpAny_pure ⟨rfl, h₃⟩
  | true => exact wpAny_bind (wpAny_bind (thn h₃ fun x s₄ h₄ => wpAny_bind (thn h₄ fun _ s₅ h₅ => wpAny_pure (wpAny_pure ⟨rfl, h₅⟩))))
end
def clOf (scope : Scope) (env : Env) : List (Str × Addr) := (scope.names.filter fun x => x.2 == NameKind.free).reverse.map fun x => (x.1, (env.cells.lookup x.1).getD 0)
theorem closure_go {env : Env} : ∀ (l : List (Str × NameKind)) (cs : List (Str × Addr)), (∀ y ∈ l, y.2 = .free → ∃ c, env.cells.lookup y.1 = some c) →
 (forIn l cs fun (x : Str × NameKind) cs => (do
  if x.2 == .free then do let c ← cellOf env x.1; pure (ForInStep.yield ((x.1, c) :: cs)) else pure (ForInStep.yield cs) : Sem _)) =
  pure (((l.filter fun x => x.2 == NameKind.free).reverse.map fun x => (x.1, (env.cells.lookup x.1).getD 0)) ++ cs)
 | [], cs, _ => rfl
 | (n, k) :: r, cs, h => by
  have ih := fun cs => closure_go r cs fun y hy => h y (.tail _ hy)
  rw [List.forIn_cons]
  by_cases hk : k = .free
  · subst hk
    obtain ⟨c, hc⟩ := h (n, .free) (.head _) rfl
    have e1 : cellOf env n = pure c := by unfold cellOf; rw [show env.cells.lookup n = some c from hc]
    show ((do let c ← cellOf env n; pure (ForInStep.yield ((n, c) :: cs)) : Sem _) >>= _) = _
    rw [e1]
    show (forIn r ((n, c) :: cs) _ : Sem _) = _
    rw [ih]
    simp [hc, show env.cells.lookup n = some c from hc]
  · have e : (k == NameKind.free) = false := by cases k <;> first | rfl | exact absurd rfl hk
    show ((if (k == NameKind.free) = true then _ else pure (ForInStep.yield cs) : Sem _) >>= _) = _
    rw [e]
    show (forIn r cs _ : Sem _) = _
    rw [ih]
    simp [e]
theorem closure_of {scope : Scope} {env : Env} (h : ∀ y ∈ scope.names, y.2 = .free → ∃ c, env.cells.lookup y.1 = some c) : closureFor scope env = pure (clOf scope env) := by
 have q := closure_go (env := env) scope.names [] h
 rw [List.append_nil] at q
 exact (congrArg (fun t : Sem (List (Str × Addr)) => t >>= fun a => pure a) q).trans rfl
theorem clOf_sub {scope : Scope} {env : Env} (h : ∀ y ∈ scope.names, y.2 = .free → ∃ c, env.cells.lookup y.1 = some c) {x : Str} {c : Addr} (e : (clOf scope env).lookup x = some c) : env.cells.lookup x = some c ∧ (x, NameKind.free) ∈ scope.names := by
 have hm := PySem.mem_of_lookup e
 unfold clOf at hm
 obtain ⟨⟨n, k⟩, hy, e2⟩ := List.mem_map.mp hm
 have hf := List.mem_filter.mp (List.mem_reverse.mp hy)
 have hk : k = .free := by have := hf.2; cases k <;> first | rfl | (cases this)
 subst hk
 obtain ⟨c', hc⟩ := h (n, .free) hf.1 rfl
 injection e2 with e3 e4
 have e3 : n = x := e3
 subst e3
 have hc : env.cells.lookup n = some c' := hc
 have e4 : (env.cells.lookup n).getD 0 = c := e4
 rw [hc] at e4
 exact ⟨by rw [hc, ← e4]; rfl, hf.1⟩
theorem lookup_some_of_mem {l : List (Str × Addr)} {x : Str} {c : Addr} (h : (x, c) ∈ l) : ∃ c', l.lookup x = some c' := by
 induction l with
 | nil => cases h
 | cons a r ih =>
  obtain ⟨n, d⟩ := a
  rw [List.lookup_cons]
  cases e : x == n with
  | true => exact ⟨d, rfl⟩
  | false =>
   rcases List.mem_cons.mp h with z | z
   · injection z with z1 z2
     rw [z1] at e; simp at e
   · exact ih z
theorem clOf_has {scope : Scope} {env : Env} (h : ∀ y ∈ scope.names, y.2 = .free → ∃ c, env.cells.lookup y.1 = some c) {x : Str} (hx : (x, NameKind.free) ∈ scope.names) : ∃ c, (clOf scope env).lookup x = some c :=
 lookup_some_of_mem (c := (env.cells.lookup x).getD 0) (List.mem_map.mpr ⟨(x, .free), List.mem_reverse.mpr (List.mem_filter.mpr ⟨hx, rfl⟩), rfl⟩)
theorem relabel_mem {env : Env} : ∀ {names : List (Str × NameKind)} {x : Str} {k : NameKind}, (names.map fun (n, k) => if (k == NameKind.free && env.scope.kind == .function && env.kindOf n == some .cell) then (n, NameKind.cell) else (n, k)).lookup x = some k →
 ∃ k0, names.lookup x = some k0 ∧ (k0 = k ∨ (k0 = .free ∧ k = .cell))
 | [], _, _, h => by simp at h
 | (n, k0) :: r, x, k, h => by
  have ih := @relabel_mem env r x k
  rw [List.map_cons] at h
  have h : List.lookup x ((if (k0 == NameKind.free && env.scope.kind == .function && env.kindOf n == some .cell) = true then (n, NameKind.cell) else (n, k0)) :: _) = _ := h
  rw [List.lookup_cons]
  by_cases hc : (k0 == NameKind.free && env.scope.kind == .function && env.kindOf n == some .cell) = true
  · rw [if_pos hc, List.lookup_cons] at h
    cases e : x == n with
    | true =>
     rw [e] at h
     cases h
     refine ⟨k0, rfl, .inr ⟨?_, rfl⟩⟩
     revert hc
     cases k0 <;> first | (intro _; rfl) | (intro hc; exact absurd hc (by simp))
    | false => rw [e] at h; exact ih h
  · rw [if_neg hc, List.lookup_cons] at h
    cases e : x == n with
    | true => rw [e] at h; cases h; exact ⟨k0, rfl, .inl rfl⟩
    | false => rw [e] at h; exact ih h
def dotS (y : Str) : Str := ⟨(33 :: y.cps.toList).toArray⟩
def hid (scope : Scope) (y : Str) : Str := match scope.names.lookup y with
 | some .local => dotS y
 | _ => y
theorem hid_cases (scope : Scope) (y : Str) : (scope.names.lookup y = some .local ∧ hid scope y = dotS y) ∨ (scope.names.lookup y ≠ some .local ∧ hid scope y = y) := by
 unfold hid
 split
 · rename_i e; exact .inl ⟨e, rfl⟩
 · rename_i e; exact .inr ⟨fun z => e z, rfl⟩
def cxC (X : Cx) (Nc : List Str) (scope : Scope) (C : Addr) (s : Shared) (H : Hp) (fp : List Addr) : Cx :=
 { X with N := Nc ++ X.N.map (hid scope), s₀ := s, H₀ := H, env := compEnvC scope (clOf scope X.env) C X.env, outer := X.stack, ex := fp, fn := fun _ => false, pn := [], xe := fun _ _ => False }
structure CompS (X : Cx) (scope : Scope) : Prop where
 kind : scope.kind = .function
 nocell : ∀ y ∈ scope.names, y.2 ≠ .cell
 names : ∀ y ∈ scope.names, y.2 = .local → scope.names.lookup y.1 = some .local
 free : ∀ y ∈ scope.names, y.2 = .free → X.env.kindOf y.1 = some .cell ∨ X.env.kindOf y.1 = some .free
 dot : ∀ y, scope.names.lookup (dotS y) = none
 nd : (X.N.map (hid scope)).Nodup
def PIfs (X : Cx) (ifs : List Expr) (t : TT) : Prop :=
 ∀ (pins : List (Addr × Obj)) (s : Shared) (σ : L2.St) (H : Hp) (Q : Bool → Hp → Prop), Inv X pins σ H s → t σ H Q → wpAny (model X.prog X.w) X.A (testsOf ifs X.env) (TP X pins σ Q) X.xe s
def tYes : TT := fun _ H Q => Q true H
section
variable {X : Cx} {tt : TT} {c : Expr}
theorem pifs_nil : PIfs X [] tYes := fun pins s σ H Q I h => wpAny_tests_nil ⟨H, I, h⟩
theorem pifs_one (h : PT X c tt) : PIfs X [c] tt := fun pins s σ H Q I q => wpAny_tests_one (h pins s σ H Q I q)
end
section
variable {X : Cx} {pins : List (Addr × Obj)} {σ : L2.St} {H : Hp} {s : Shared}
def Cmp (J : It) (g : TG) (tt : TT) (te : TE) (σ0 : L2.St) (H0 : Hp) (Z : List V → Hp → Prop) : Prop :=
 ∃ W : Nat → Nat → List V → L2.St → Hp → Prop, (∃ m, W 0 m [] σ0 H0) ∧ ∀ i m ys σ' H', W i m ys σ' H' → ys.length ≤ sizeLine ∧
  ((J.stop i H' ∧ Z ys H') ∨
   (J.go i H' ∧ ∀ x H2, J.yld i H' x H2 → g x σ' H2 fun σ3 H3 => tt σ3 H3 fun b H4 => if b = true then te σ3 H4 fun y H5 => ∃ m', m' < m ∧ W (i + 1) m' (ys ++ [y]) σ3 H5 else ∃ m', m' < m ∧ W (i + 1) m' ys σ3 H4))
theorem inv_block {Nc : List Str} {scope : Scope} {fp : List Addr} {h1 : Heap} {D C : Addr} {t' : Nat} (I : Inv X pins σ H s) (S : CompS X scope) (hf : ∀ b ∈ fp, FpOk X pins H b) (hob : ∀ b ∈ fp, ∃ o, s.heap.get? b = some o)
 (hC : s.heap.objs.size ≤ C) (old : ∀ b o, s.heap.get? b = some o → h1.get? b = some o) (hn : h1.Ns C fun _ => none) :
 Inv (cxC X Nc scope C s H fp) [] (List.replicate Nc.length none ++ σ) H { s with heap := h1, toks := t' } := by
 have hcells : ∀ y ∈ scope.names, y.2 = .free → ∃ c, X.env.cells.lookup y.1 = some c := fun y hy e => I.ok.has y.1 (S.free y hy e)
 have hsub : ∀ {x : Str} {c : Addr}, (clOf scope X.env).lookup x = some c → X.env.cells.lookup x = some c := fun e => (clOf_sub hcells e).1
 have hlt : ∀ x c, X.env.cells.lookup x = some c → c < s.heap.objs.size := fun x c e => let ⟨v, q⟩ := I.cell x c e; q.lt
 refine ⟨⟨I.ok.mod, S.kind, I.ok.glob, I.ok.blt, hC, fun x y c e1 e2 => I.ok.inj x y c (hsub e1) (hsub e2), fun x hx => ?_, fun x c z _ => ?_, I.ok.hd, I.ok.frames, .inl rfl, fun b hb => ⟨?_, fun x c e => (hf b hb).2.2.2.2.1 x c (hsub e)⟩, I.bs, ?_, ?_, ?_, I.stack, I.stkFree⟩,
  rfl, I.bare, Un.kept old, ⟨_, hn, fun i x v e1 e2 e3 => ?_⟩, fun x c e => ?_, I.hok.fresh hC, fun x c e => I.freeC x c (hsub e), fun p hp => absurd (show p ∈ ([] : List (Addr × Obj)) from hp) (by simp), I.hok.kept old, ?_⟩
 · have hx : (relabel scope X.env).names.lookup x = some .cell ∨ (relabel scope X.env).names.lookup x = some .free := hx
   have go : ∀ k, (k = .cell ∨ k = .free) → (relabel scope X.env).names.lookup x = some k → ∃ c, (clOf scope X.env).lookup x = some c := fun k hk e => by
    obtain ⟨k0, e0, h0⟩ := relabel_mem (env := X.env) (names := scope.names) e
    have hm := PySem.mem_of_lookup e0
    have : k0 = .free := by
     rcases h0 with h0 | h0
     · subst h0
       rcases hk with hk | hk
       · exact absurd hk (S.nocell _ hm)
       · exact hk
     · exact h0.1
    subst this
    exact clOf_has hcells hm
   rcases hx with e | e
   · exact go _ (.inl rfl) e
   · exact go _ (.inr rfl) e
 · have z : false = true := z
   cases z
 · obtain ⟨o, e⟩ := hob b hb
   exact Nat.ne_of_lt (Nat.lt_of_lt_of_le (Heap.lt_size e) hC)
 · exact Nat.le_trans I.ok.bsz I.sz
 · intro b o e hb
   rcases (hf b hb).2.2.2.1 with z | z
   · exact I.ok.noex b o e z
   · exact absurd (Nat.lt_of_lt_of_le (Heap.lt_size e) (Nat.le_trans I.ok.bsz z)) (Nat.lt_irrefl _)
 · intro b hb hm
   rcases List.mem_cons.mp (I.stkSub b hm) with z | z
   · exact (hf b hb).2.1 z
   · exact (hf b hb).2.2.1 z
 · have e1 : (Nc ++ X.N.map (hid scope))[i]? = some x := e1
   have e3 : Vis (relabel scope X.env) x := e3
   have hi : Nc.length ≤ i := by
    refine Nat.not_lt.mp fun z => ?_
    rw [List.getElem?_append_left (by simpa using z), List.getElem?_replicate] at e2
    split at e2 <;> cases e2
   rw [List.getElem?_append_right hi] at e1
   rw [List.getElem?_append_right (by simpa using hi), List.length_replicate] at e2
   rw [List.getElem?_map] at e1
   obtain ⟨x0, ex0, hx0⟩ := Option.map_eq_some_iff.mp e1
   have dotn : ∀ y k, (relabel scope X.env).names.lookup (dotS y) ≠ some k := fun y k e => by
    obtain ⟨k0, e0, _⟩ := relabel_mem (env := X.env) (names := scope.names) e
    rw [S.dot] at e0; cases e0
   have hxx : x0 = x ∧ scope.names.lookup x ≠ some .local := by
    rcases hid_cases scope x0 with ⟨_, h2⟩ | ⟨h1, h2⟩
    · rw [h2] at hx0
      subst hx0
      rcases e3 with e | e | e <;> exact absurd e (dotn _ _)
    · rw [h2] at hx0
      subst hx0
      exact ⟨rfl, h1⟩
   obtain ⟨hx1, hnl⟩ := hxx
   rw [hx1] at ex0
   have e1 := ex0
   have hfree : (x, NameKind.free) ∈ scope.names ∧ (relabel scope X.env).names.lookup x ≠ some .local := by
    have go : ∀ k, (relabel scope X.env).names.lookup x = some k → (k = .local ∨ k = .cell ∨ k = .free) → (x, NameKind.free) ∈ scope.names ∧ k ≠ .local := fun k e hk => by
     obtain ⟨k0, e0, h0⟩ := relabel_mem (env := X.env) (names := scope.names) e
     have hm := PySem.mem_of_lookup e0
     rcases h0 with h0 | h0
     · subst h0
       rcases hk with hk | hk | hk
       · subst hk; exact absurd e0 hnl
       · exact absurd hk (S.nocell _ hm)
       · subst hk; exact ⟨hm, by decide⟩
     · obtain ⟨a, b⟩ := h0
       subst a; subst b
       exact ⟨hm, by decide⟩
    rcases e3 with e | e | e
    · exact absurd rfl (go _ e (.inl rfl)).2
    · exact ⟨(go _ e (.inr (.inl rfl))).1, by rw [e]; decide⟩
    · exact ⟨(go _ e (.inr (.inr rfl))).1, by rw [e]; decide⟩
   have hk := S.free _ hfree.1 rfl
   obtain ⟨m, hm, hl⟩ := I.loc
   obtain ⟨u, r, l⟩ := hl (i - Nc.length) x v e1 e2 (.inr hk)
   refine ⟨u, r, ?_⟩
   rcases l with ⟨z, _⟩ | ⟨_, c, hc, z⟩
   · have z : X.env.kindOf x = some .local := z
     rcases hk with hk | hk
     · have hk : X.env.kindOf x = some .cell := hk
       rw [hk] at z; cases z
     · have hk : X.env.kindOf x = some .free := hk
       rw [hk] at z; cases z
   · obtain ⟨c', hc'⟩ := clOf_has hcells hfree.1
     have q := hsub hc'
     rw [hc] at q; cases q
     obtain ⟨o, ho, hd⟩ := z
     refine .inr ⟨?_, c, hc', o, old _ _ ho, hd⟩
     rcases e3 with e | e | e
     · exact absurd e hfree.2
     · exact .inl e
     · exact .inr e
 · obtain ⟨v, o, ho, hd⟩ := I.cell x c (hsub e)
   exact ⟨v, o, old _ _ ho, hd⟩
 · show (List.replicate Nc.length none ++ σ).length = (Nc ++ X.N.map (hid scope)).length
   rw [List.length_append, List.length_append, List.length_replicate, List.length_map, I.len]
end
section
variable {X : Cx} {pins : List (Addr × Obj)} {σ : L2.St} {H2 : Hp} {s2 : Shared} {tg iter elt : Expr} {ifs : List Expr} {scope : Scope} {pos : Pos} {Nc : List Str} {g : TG} {tt : TT} {te : TE}
theorem comp_block {it : Addr} {fp : List Addr} {tn : Nat → Heap → Prop} {J : It} {Z : List V → Hp → Prop} {E : Value → Shared → Prop} {RR : Value → Addr → Result → Shared → Prop}
 (hc : X.calm = true) (S : CompS X scope) (I2 : Inv X pins σ H2 s2) (T : Turn X.prog X.w X.K tg J fp it tn) (st2 : tn 0 s2.heap) (f2 : ∀ b ∈ fp, FpOk X pins H2 b)
 (hg : ∀ C s H fp, PG (cxC X Nc scope C s H fp) tg g) (ht : ∀ C s H fp, PIfs (cxC X Nc scope C s H fp) ifs tt) (he : ∀ C s H fp, PE (cxC X Nc scope C s H fp) elt te)
 (h : Cmp J g tt te (List.replicate Nc.length none ++ σ) H2 Z)
 (hRR : ∀ D C s' H3 ys, Inv X pins σ (upd H3 D (.lst ys)) s' → H3 D = none → Z ys H3 → (∃ m, s'.heap.Ns C m) → FpOk X pins (upd H3 D (.lst ys)) C → RR (.ref D) C (.ok .next) s') :
 wpAny (model X.prog X.w) X.A (newList []) (fun acc s₃ => wpAny (model X.prog X.w) X.A (newFunctionEnv scope X.env.globals (clOf scope X.env) [] X.env.qual none .none (some X.env)) (fun cenv s₄ =>
  codeAny (model X.prog X.w) X.A (.compStart (.ListComp elt [⟨tg, iter, ifs, 0⟩] scope pos) 0 (.ref it) acc { cenv with scope := relabel scope X.env }) (RR acc cenv.locals) s₄) E s₃) E s2 := by
 refine wpAny_newObj_type (wpAny_newFunctionEnv S.nocell (by intro y hy; simp at hy) (fun h₁ hns₁ hsb₁ => ?_) S.kind)
 dsimp only at hns₁ hsb₁ ⊢
 generalize hH2 : s2.heap.push { cls := .type "list", dict := none, data := .seq ([] : List Value).toArray } = G at hns₁ hsb₁ ⊢
 have hC : G.objs.size = s2.heap.objs.size + 1 := by rw [← hH2, Heap.size_push]
 generalize hD0 : s2.heap.objs.size = D at *
 generalize hC0 : G.objs.size = C at *
 have hDC : D ≠ C := by omega
 have below : ∀ (b : Nat) o, s2.heap.get? b = some o → b < D := fun b o e => hD0 ▸ Heap.lt_size e
 have belC : ∀ (b : Nat) o, s2.heap.get? b = some o → b ≠ C := fun b o e => by have := below b o e; omega
 have belD : ∀ (b : Nat) o, s2.heap.get? b = some o → b ≠ D := fun b o e => by have := below b o e; omega
 have old : ∀ b o, s2.heap.get? b = some o → h₁.get? b = some o := fun b o e => hsb₁.extBut b o (belC b o e) (by
  have q := Heap.get?_push_of_some { cls := .type (if (some X.env).isSome then "dict" else "frame"), data := .dict #[] } (hH2 ▸ Heap.get?_push_of_some _ e : G.get? b = some o)
  exact q)
 have hacc : h₁.PlainList D #[] := ⟨_, hsb₁.extBut _ _ hDC (Heap.get?_push_of_some _ (by rw [← hH2, ← hD0]; exact Heap.get?_push_size _ rfl))⟩
 obtain ⟨W, ⟨m0, w0⟩, turn⟩ := h
 have hob : ∀ b ∈ fp, ∃ o, s2.heap.get? b = some o := fun b hb => let ⟨o, e, _⟩ := T.obj _ _ st2 b hb; ⟨o, e⟩
 have hfpD : ∀ b : Nat, b ∈ fp → b < D := fun b hb => let ⟨o, e⟩ := hob b hb; below b o e
 have hfpN : ∀ b : Nat, b ∈ fp → b ≠ D := fun b hb => Nat.ne_of_lt (hfpD b hb)
 have hcells : ∀ y ∈ scope.names, y.2 = .free → ∃ c, X.env.cells.lookup y.1 = some c := fun y hy e => I2.ok.has y.1 (S.free y hy e)
 have hsub : ∀ {x : Str} {c : Addr}, (clOf scope X.env).lookup x = some c → X.env.cells.lookup x = some c := fun e => (clOf_sub hcells e).1
 have hclt : ∀ x c, (clOf scope X.env).lookup x = some c → c < D := fun x c e => let ⟨v, q⟩ := I2.cell x c (hsub e); hD0 ▸ q.lt
 have hn0 : h₁.Ns C fun _ => none := hns₁
 have IB : Inv (cxC X Nc scope C s2 H2 fp) [] (List.replicate Nc.length none ++ σ) H2 { s2 with heap := h₁, toks := s2.toks + ([] : List (Str × Value)).length } :=
  inv_block (D := D) I2 S f2 hob (by omega) old hn0
 have hfs : ∀ b : Nat, D ≤ b → b ∉ (cxC X Nc scope C s2 H2 fp).fs := fun b hb hm => by
  obtain ⟨_, o, ho, _⟩ := IB.ok.funs.mem hm
  exact absurd (Nat.lt_of_lt_of_le (below b o ho) hb) (Nat.lt_irrefl _)
 have stat : ∀ {H' : Hp} {ps : List (Addr × Obj)}, (∀ p ∈ ps, Nat.le D p.1) → (∀ b ∈ fp, H' b = none) → ∀ b ∈ fp, FpOk (cxC X Nc scope C s2 H2 fp) ps H' b := fun {H' ps} hps hn b hb =>
  ⟨hn b hb, (let ⟨o, e⟩ := hob b hb; belC b o e), IB.ok.exfs b hb, .inl hb, fun x c e => (f2 b hb).2.2.2.2.1 x c (hsub e), fun p hp => Nat.ne_of_gt (Nat.lt_of_lt_of_le (hfpD b hb) (hps p hp))⟩
 have loop : ∀ s₃ : Shared, s₃ = { s2 with heap := h₁, toks := s2.toks + ([] : List (Str × Value)).length } →
  codeAny (model X.prog X.w) X.A (.compLoop (.ListComp elt [⟨tg, iter, ifs, 0⟩] scope pos) 0 (.ref it) (.ref D) (compEnvC scope (clOf scope X.env) C X.env)) (RR (.ref D) C) s₃ := by
  rintro s₃ rfl
  refine compLoop_go (fun n s' => ∃ i ys σ' H' us k, Inv (cxC X Nc scope C s2 H2 fp) [(D, { cls := .type "list", data := .seq (us : List Value).toArray k })] σ' H' s' ∧ Vals ys us ∧ tn i s'.heap ∧ (∀ b ∈ fp, H' b = none) ∧ W i n ys σ' H') ?_ m0 ?_
  · rintro n s3 ⟨i, ys, σ3, H3, us, k, I3, rv, st3, fr3, w3⟩
    obtain ⟨hz, tu⟩ := turn i n ys σ3 H3 w3
    have hps : ∀ p ∈ [((D : Addr), ({ cls := .type "list", data := .seq (us : List Value).toArray k } : Obj))], Nat.le D p.1 := fun p hp => by
     rcases List.mem_singleton.mp hp with rfl
     exact Nat.le_refl _
    rcases tu with ⟨stop, z⟩ | ⟨go, step⟩
    · refine thn (T.done (cxC X Nc scope C s2 H2 fp) rfl rfl rfl hc i _ s3 σ3 H3 (fun _ _ => False) I3 (stat hps fr3) st3 stop) fun r s4 ⟨hr, I4⟩ => ?_
      subst hr
      obtain ⟨eD, nD, _, _, _⟩ := I4.pin (D, { cls := .type "list", data := .seq (us : List Value).toArray k }) (List.mem_append_right _ (List.mem_singleton.mpr rfl))
      have eD : s4.heap.get? D = _ := eD
      have nD : H3 D = none := nD
      have u4 : Un (frs X.stack) fp H2 H3 s2.heap s4.heap := I4.base
      have hH2D : H2 D = none := I2.hok.fresh (by omega)
      have u5 : Un (frs X.stack) fp H2 (upd H3 D (.lst ys)) s2.heap s4.heap :=
       ⟨u4.keep, u4.slot, fun b o e n x => by rw [upd_ne (belD b o e)]; exact u4.free b o e n x, u4.there, fun b xs e => by rw [upd_ne (ne_of_none e hH2D)]; exact u4.tups b xs e,
        fun b o u e => by rw [upd_ne (ne_of_none e hH2D)]; exact u4.frzs b o u e, fun b ps e => by rw [upd_ne (ne_of_none e hH2D)]; exact u4.tbls b ps e⟩
      have hok : HOk X.prog X.w (upd H3 D (.lst ys)) s4.heap := fun b o e => by
       by_cases hb : b = D
       · subst hb; rw [upd_same] at e; cases e
         exact ⟨hz, us, k, rv, eD⟩
       · rw [upd_ne hb] at e
         exact (I4.hok b o e).stay (fun _ _ _ q => q) (fun c q => by rw [upd_ne (ne_of_none q nD)]; exact q) fun c xs q => by rw [upd_ne (ne_of_none q nD)]; exact q
      have I5 : Inv X pins σ (upd H3 D (.lst ys)) s4 := I2.call' (ch := fp) I4.os u5 hok I4.bare fun b hb => let ⟨a0, a1, a2, a3, a4, a5⟩ := f2 b hb; ⟨a3, a1, a4, a5⟩
      obtain ⟨m, hm, _⟩ := I4.loc
      refine hRR D C s4 H3 ys I5 nD z ⟨m, hm⟩ (I2.fpOk (by omega) ?_)
      rw [upd_ne (Ne.symm hDC)]; exact I4.free
    · refine thn (T.item (cxC X Nc scope C s2 H2 fp) rfl rfl rfl hc i _ s3 σ3 H3 (fun _ _ => False) I3 (stat hps fr3) st3 go) fun r s4 ⟨u, hr, h4⟩ => ?_
      subst hr
      refine thn h4 fun _ s5 ⟨x, H5, I5, r5, y5, st5, fr5⟩ => ?_
      have I5' := I5.pinned (stat hps fr5) (T.obj _ _ st5)
      refine thn (hg C s2 H2 fp _ s5 σ3 H5 x u _ I5' r5 (step x H5 y5)) fun _ s6 ⟨σ6, H6, I6, q6⟩ => ?_
      refine thn (ht C s2 H2 fp _ s6 σ6 H6 _ I6 q6) fun ok s7 ⟨H7, I7, q7⟩ => ?_
      have tnK : ∀ {σ' : L2.St} {H' : Hp} {s' : Shared}, Inv (cxC X Nc scope C s2 H2 fp) ([(D, { cls := .type "list", data := .seq (us : List Value).toArray k })] ++ pinsAt fp s5.heap) σ' H' s' → tn (i + 1) s'.heap ∧ (∀ b ∈ fp, H' b = none) ∧ (∀ b ∈ fp, ∀ o, s5.heap.get? b = some o → s'.heap.get? b = some o) := fun {σ' H' s'} I' =>
       ⟨T.keep _ _ _ st5 fun b hb o e => (I'.pin (b, o) (List.mem_append_right _ (List.mem_append_right _ (mem_pinsAt hb e)))).1, fun b hb => by
        obtain ⟨o, e, d⟩ := T.obj _ _ st5 b hb
        exact (I'.pin (b, o) (List.mem_append_right _ (List.mem_append_right _ (mem_pinsAt hb e)))).2.1, fun b hb o e => (I'.pin (b, o) (List.mem_append_right _ (List.mem_append_right _ (mem_pinsAt hb e)))).1⟩
      cases ok with
      | false =>
       have q7 : ∃ m', m' < n ∧ W (i + 1) m' ys σ6 H7 := q7
       obtain ⟨m', hm, w7⟩ := q7
       obtain ⟨k1, k2, _⟩ := tnK I7
       exact ⟨m', hm, i + 1, ys, σ6, H7, us, k, I7.unpinned, rv, k1, k2, w7⟩
      | true =>
       have q7 : te σ6 H7 fun y H5 => ∃ m', m' < n ∧ W (i + 1) m' (ys ++ [y]) σ6 H5 := q7
       refine thn (he C s2 H2 fp _ s7 σ6 H7 _ I7 q7) fun y s8 ⟨yv, H8, I8, r8, m', hm, w8⟩ => ?_
       obtain ⟨k1, k2, k3⟩ := tnK I8
       obtain ⟨eD, nD, _, nfD, _⟩ := I8.pin (D, { cls := .type "list", data := .seq (us : List Value).toArray k }) (List.mem_append_right _ (List.mem_append_left _ (List.mem_singleton.mpr rfl)))
       have eD : s8.heap.get? D = _ := eD
       have pl : s8.heap.PlainList D us.toArray := ⟨k, eD⟩
       refine wpAny_list_append_plain (hsz := by have := rv.length; simp; omega) pl fun h₉ hl₉ hs₉ => ?_
       obtain ⟨k9, e9⟩ := hl₉
       have I9 : Inv (cxC X Nc scope C s2 H2 fp) [] σ6 H8 { s8 with heap := h₉ } := (I8.pins_of (pins' := []) (fun p hp => nomatch hp)).turned (t' := s8.toks) (it := D) (fun b o hb e => (hs₉.2 b hb).trans e) nD hDC (.inr (by show s2.heap.objs.size ≤ D; omega))
        (fun x c e => Nat.ne_of_lt (hclt x c e)) (fun p hp => absurd (show p ∈ ([] : List (Addr × Obj)) from hp) (by simp))
       refine ⟨m', hm, i + 1, ys ++ [yv], σ6, H8, us ++ [y], k9, I9.pins_of fun p hp => ?_, rv.append (.cons r8 .nil), T.keep _ _ _ k1 fun b hb o e => (hs₉.2 b (hfpN b hb)).trans e, k2, w8⟩
       rcases List.mem_singleton.mp hp with rfl
       refine ⟨?_, nD, hDC, nfD, fun v z => by cases z⟩
       show h₉.get? D = _
       rw [e9]; simp
  · obtain ⟨k, e⟩ := hacc
    refine ⟨0, [], _, H2, [], k, IB.pins_of fun p hp => ?_, .nil, T.keep _ _ _ st2 fun b hb o e => old b o e, fun b hb => (f2 b hb).1, w0⟩
    rcases List.mem_singleton.mp hp with rfl
    exact ⟨e, I2.hok.fresh (by omega), hDC, hfs D (Nat.le_refl _), fun v z => by cases z⟩
 exact codeAny_compStart_list (loop _ rfl) (T.self _ 0 _ _ _ (T.keep _ _ _ st2 fun b hb o e => old b o e) (loop _ rfl))
def tComp (n : Nat) (wi : TI) (g : TG) (tt : TT) (te : TE) : TE := fun σ H Q => wi σ H fun J H1 => Cmp J g tt te (List.replicate n none ++ σ) H1 fun ys H' => ∀ p H2, H' p = none → L2.Same H' H2 → H2 p = some (.lst ys) → Q (.ref p) H2
theorem pe_comp {wi : TI} (hc : X.calm = true) (S : CompS X scope) (hs : ∀ x, foldedSetIterable iter X.env x = pure x) (hi : PI X tg iter wi)
 (hg : ∀ C s H fp, PG (cxC X Nc scope C s H fp) tg g) (ht : ∀ C s H fp, PIfs (cxC X Nc scope C s H fp) ifs tt) (he : ∀ C s H fp, PE (cxC X Nc scope C s H fp) elt te) :
 PE X (.ListComp elt [⟨tg, iter, ifs, 0⟩] scope pos) (tComp Nc.length wi g tt te) := by
 intro pins s σ H Q I h
 rw [eval_ListComp]
 have hcells : ∀ y ∈ scope.names, y.2 = .free → ∃ c, X.env.cells.lookup y.1 = some c := fun y hy e => I.ok.has y.1 (S.free y hy e)
 refine wpAny_comprehension_free (use := none) rfl hs (closure_of hcells) S.kind S.names (thn (hi pins s σ H _ I h) fun v s1 h1 => thn h1 fun itv s2 h2 => ?_)
 obtain ⟨it, fp, tn, J, H2, e, I2, T, st2, f2, z⟩ := h2
 subst e
 refine comp_block (RR := fun acc C => compPost (model X.prog X.w) X.A X.xe none (EP X pins σ Q) acc C) hc S I2 T st2 f2 hg ht he z fun D C s' H3 ys I' hD hz hm hf => ?_
 obtain ⟨m, hm⟩ := hm
 exact ⟨m, hm, fun h' sb => ⟨.ref D, _, I'.turned (t' := s'.toks) (it := C) (fun b o hb e => (sb.2 b hb).trans e) hf.1 hf.2.1 hf.2.2.2.1 hf.2.2.2.2.1 hf.2.2.2.2.2, rfl, hz D _ hD (Br.Same.upd hD) upd_same⟩⟩
theorem ps_setComp {wi : TI} {i : Nat} {y : Str} {py spos : Pos} (hc : X.calm = true) (S : CompS X scope) (hs : ∀ x, foldedSetIterable iter X.env x = pure x) (hN : X.N.Nodup) (hy : X.N[i]? = some y) (hl : Loc X.env.scope y) (hf : X.fn y = true ∨ X.env.scope.names.lookup y = some .local)
 (hsw : swapsWith (.ListComp elt [⟨tg, iter, ifs, 0⟩] scope pos) (some (.Name y py)) spos.line X.env = pure true) (hi : PI X tg iter wi)
 (hg : ∀ C s H fp, PG (cxC X Nc scope C s H fp) tg g) (ht : ∀ C s H fp, PIfs (cxC X Nc scope C s H fp) ifs tt) (he : ∀ C s H fp, PE (cxC X Nc scope C s H fp) elt te) :
 PS X (.Assign [.Name y py] (.ListComp elt [⟨tg, iter, ifs, 0⟩] scope pos) spos) (tAsg (tComp Nc.length wi g tt te) (gName i)) := by
 intro pins s σ H D I h
 have hcells : ∀ y ∈ scope.names, y.2 = .free → ∃ c, X.env.cells.lookup y.1 = some c := fun y hy e => I.ok.has y.1 (S.free y hy e)
 rw [exec_Assign_Name_used _ _ _ _ hsw]
 refine wpAny_bind (wpAny_standAt (wpAny_bind ?_))
 show wpAny _ X.A (do let _ ← comprehension (.ListComp elt [⟨tg, iter, ifs, 0⟩] scope pos) scope X.env _ (newList []) false (eval iter X.env) (some (assign (.Name y py) X.env))) _ _ s
 refine wpAny_bind (wpAny_mono (wpAny_comprehension_free (use := some (assign (.Name y py) X.env)) (Q := fun _ s' => SP X pins D .next s') rfl hs (closure_of hcells) S.kind S.names
  (thn (hi pins s σ H _ I h) fun v s1 h1 => thn h1 fun itv s2 h2 => ?_)) (fun _ s' hq => wpAny_pure (wpAny_pure hq)) fun _ _ e => e)
 obtain ⟨it, fp, tn, J, H2, e, I2, T, st2, f2, z⟩ := h2
 subst e
 refine comp_block (RR := fun acc C => compPost (model X.prog X.w) X.A X.xe (some (assign (.Name y py) X.env)) (fun _ s' => SP X pins D .next s') acc C) hc S I2 T st2 f2 hg ht he z fun Dd C s' H3 ys I' hD hz hm hf' => ?_
 obtain ⟨m, hm⟩ := hm
 show wpAny _ X.A (assign (.Name y py) X.env (.ref Dd)) _ _ _
 refine wpAny_assign_Name (store_ok2 (v := .ref Dd) I' hN hy hl rfl (fun s'' I'' ch => ?_) hf)
 obtain ⟨a, sb, ha⟩ := ch
 have hCa : C ≠ a := by
  rcases ha with rfl | ha
  · exact hf'.2.1
  · exact fun z => hf'.2.2.2.2.1 _ _ ha z.symm
 refine ⟨m, hm.sameBut sb hCa, fun h' sb' => ?_⟩
 exact ⟨_, _, I''.turned (t' := s''.toks) (it := C) (fun b o hb e => (sb'.2 b hb).trans e) hf'.1 hf'.2.1 hf'.2.2.2.1 hf'.2.2.2.2.1 hf'.2.2.2.2.2, hz Dd _ hD (Br.Same.upd hD) upd_same⟩
end
section
variable {X : Cx}
theorem vals_bl : ∀ {bs : List Bool} {its : List Value} {i : Nat} {v : Value}, Vals (bs.map V.bl) its → its[i]? = some v → ∃ b, bs[i]? = some b ∧ v = .bool b
 | [], _, i, v, r, e => by cases r; simp at e
 | b :: bs, _, i, v, r, e => by
  cases r with
  | cons r rr =>
   cases i with
   | zero => simp at e; subst e; exact ⟨b, rfl, r⟩
   | succ i =>
    obtain ⟨b', h1, h2⟩ := vals_bl (i := i) rr (by simpa using e)
    exact ⟨b', by simpa using h1, h2⟩
theorem range_all {bs : List Bool} : ((List.range bs.length).all fun i => bs.getD i false) = bs.all id := by
 rw [Bool.eq_iff_iff]
 simp only [List.all_eq_true, List.mem_range, id]
 constructor
 · intro h b hb
   obtain ⟨i, hi, e⟩ := List.getElem_of_mem hb
   have q := h i hi
   rw [List.getD_eq_getElem?_getD, List.getElem?_eq_getElem hi, e] at q
   simpa using q
 · intro h i hi
   rw [List.getD_eq_getElem?_getD, List.getElem?_eq_getElem hi]
   exact h _ (List.getElem_mem hi)
def rAll (K : PySem.W.Frag) (f : List Bool → Bool) : List V → Hp → VK → Prop := fun xs H Q => ∃ p bs, xs = [.ref p] ∧ SqL K H p (bs.map V.bl) ∧ Q (.bl (f bs)) H
theorem truth_bl {prog : Program} {w : World} {A : Around} {bs : List Bool} {its : List Value} (r : Vals (bs.map V.bl) its) : TruthOf prog w A (fun i v => its.toArray[i]? = some v) fun i => bs.getD i false := by
 intro i v s Q E e q
 obtain ⟨b, hb, rfl⟩ := vals_bl r (by simpa using e)
 have q : Q (bs.getD i false) s := q
 rw [List.getD_eq_getElem?_getD, hb] at q
 exact wpAny_truthy_bool q
theorem call_all (hc : X.calm = true) : CallR X (.builtin "all") (rAll X.K fun bs => bs.all id) := by
 intro pins s σ H xs us Q I r h
 obtain ⟨p, bs, rfl, hq, q⟩ := h
 obtain ⟨u, rfl, rx⟩ := vals1 r
 cases rx
 obtain ⟨its, r', pl, hz⟩ := I.list hq
 have hp : p < s.heap.objs.size := by obtain ⟨_, _, e, _⟩ := pl; exact Heap.lt_size e
 have hl : its.length = bs.length := by rw [← r'.length, List.length_map]
 refine call_all_walk (wpAny_pyIter_list pl.isList ⟨s.heap.objs.size, _, _, _, _, _, fun i => bs.getD i false, rfl, Walks.list (A := X.A.in1) (I.ok.hd hc) s.heap.objs.size p (Nat.ne_of_lt hp) its.toArray, ⟨⟨_, Heap.get?_push_size _ rfl, rfl, rfl⟩, pl.isList.at fun o e => Heap.get?_push_of_some _ e⟩, truth_bl r', fun h' tk hk => ?_⟩)
 rw [List.size_toArray, hl, range_all]
 exact ⟨.bl _, H, I.kept fun b o e => hk b o (fun z => absurd (Heap.lt_size e) (by rw [List.mem_singleton.mp z]; exact Nat.lt_irrefl _)) (Heap.get?_push_of_some _ e), rfl, q⟩
theorem boot_all : bootBuiltins "all" = some (.builtin "all") := by decide +kernel
end
structure JIfs (X : Cx) (es : List Expr) (t : TT) : Prop where h : PIfs X es t
def nodupB : List Str → Bool
 | [] => true
 | x :: r => !(r.any fun y => x == y) && nodupB r
theorem nodupB_of : ∀ {l : List Str}, nodupB l = true → l.Nodup
 | [], _ => List.nodup_nil
 | x :: r, h => by
  unfold nodupB at h
  simp only [Bool.and_eq_true, Bool.not_eq_true', List.any_eq_false] at h
  refine List.nodup_cons.mpr ⟨fun hm => ?_, nodupB_of h.2⟩
  have := h.1 x hm
  simp at this
def compB (names0 : List (Str × NameKind)) (N : List Str) (scope : Scope) : Bool :=
 scope.kind == .function && scope.names.all (fun y => y.2 != .cell) && scope.names.all (fun y => y.2 != .local || scope.names.lookup y.1 == some .local) && scope.names.all (fun y => y.2 != .free || names0.lookup y.1 == some .cell || names0.lookup y.1 == some .free) && scope.names.all (fun y => y.1.cps.toList.head? != some 33) && nodupB (N.map (hid scope))
theorem kind_eq {a b : NameKind} (h : (a == b) = true) : a = b := by cases a <;> cases b <;> first | rfl | cases h
theorem okind_eq {a b : Option NameKind} (h : (a == b) = true) : a = b := by
 cases a <;> cases b
 · rfl
 · cases h
 · cases h
 · exact congrArg some (kind_eq h)
theorem CompS.of {X : Cx} {scope : Scope} (h : compB X.env.scope.names X.N scope = true) : CompS X scope := by
 unfold compB at h
 simp only [Bool.and_eq_true, List.all_eq_true, Bool.or_eq_true] at h
 obtain ⟨⟨⟨⟨⟨h1, h2⟩, h3⟩, h4⟩, h5⟩, h6⟩ := h
 refine ⟨?_, fun y hy z => ?_, fun y hy z => ?_, fun y hy z => ?_, ?_, nodupB_of h6⟩
 · revert h1; cases scope.kind <;> intro h1 <;> first | rfl | cases h1
 · have q := h2 y hy; rw [z] at q; cases q
 · rcases h3 y hy with q | q
   · rw [z] at q; cases q
   · exact okind_eq q
 · rcases h4 y hy with (q | q) | q
   · rw [z] at q; cases q
   · exact .inl (okind_eq q)
   · exact .inr (okind_eq q)
 · intro y
   cases e : scope.names.lookup (dotS y) with
   | none => rfl
   | some k =>
    have hm := PySem.mem_of_lookup e
    have := h5 _ hm
    have hd : (dotS y).cps.toList.head? = some 33 := rfl
    rw [hd] at this
    exact absurd this (by decide)
section
variable {X : Cx} {a b c e o elt iter tg : Expr} {es ifs : List Expr} {ta tb te : TE} {tt : TT} {t : TA} {wi : TI} {g : TG} {pos p spos : Pos} {x : Str} {i : Nat} {Nc : List Str} {scope : Scope}
theorem f_nil : JIfs X [] tYes := ⟨pifs_nil⟩
theorem f_one (h : JT X c tt) : JIfs X [c] tt := ⟨pifs_one h.h⟩
theorem j_cell (h : At X.N i x) (hk : X.env.scope.names.lookup x = some .cell) (hd : (x == ("__debug__" : Str)) = false) (hcd : (x == ("__classdict__" : Str)) = false) : JE X (.Name x pos) (tVar i) := ⟨pe_var h.get (.inr (.inl hk)) hd hcd⟩
theorem s_setC (h : At X.N i x) (hN : X.N.Nodup) (hk : X.env.scope.names.lookup x = some .cell) (hf : X.fn x = true) (hs : swapsWith e (some (.Name x p)) pos.line X.env = pure false) (he : JE X e te) : JS X (.Assign [.Name x p] e pos) (tAsg te (gName i)) := ⟨ps_set hN h.get (.inr hk) he.h hs (.inl hf)⟩
section
variable (hg : Gl X x) (he : starEach (e :: es) X.env = (false, eval e X.env) :: starEach es X.env) (hpl : (backTo pos (starEach es X.env)).any (·.1) = false)
include hg he hpl
theorem j_all (hx : x = "all") (hc : X.calm = true) (hm : X.mg x = none) (ha : JA X (e :: es) t) : JE X (.Call (.Name x p) (e :: es) [] pos) (tCB (rAll X.K fun bs => bs.all id) t) := ⟨by subst hx; exact pe_callB (call_all hc) hg hm boot_all ha.h (by decide) (by decide) he hpl⟩
end
end
section
variable {K : PySem.W.Frag} {a : Addr} {xs : List V} {g : TG} {tt : TT} {te : TE} {σ0 : L2.St} {H0 : Hp} {Z : List V → Hp → Prop}
theorem cmp_list (Pv : Nat → List V → L2.St → Hp → Prop) (h0 : Pv 0 [] σ0 H0) (hz : xs.length ≤ sizeLine) (hl : ∀ i ys σ H, i ≤ xs.length → Pv i ys σ H → SqL K H a xs ∧ ys.length ≤ i)
 (hs : ∀ i x ys σ H (N : List V → L2.St → Hp → Prop), xs[i]? = some x → Pv i ys σ H → (∀ ys' σ' H', Pv (i + 1) ys' σ' H' → N ys' σ' H') →
  g x σ H fun σ3 H3 => tt σ3 H3 fun b H4 => if b = true then te σ3 H4 fun y H5 => N (ys ++ [y]) σ3 H5 else N ys σ3 H4)
 (hd : ∀ ys σ H, Pv xs.length ys σ H → Z ys H) : Cmp (Itl K a) g tt te σ0 H0 Z := by
 refine ⟨fun i m ys σ H => m = xs.length - i ∧ i ≤ xs.length ∧ Pv i ys σ H, ⟨xs.length, by simp, Nat.zero_le _, h0⟩, ?_⟩
 rintro i m ys σ H ⟨rfl, hi, p⟩
 obtain ⟨q, hy⟩ := hl i ys σ H hi p
 refine ⟨by omega, ?_⟩
 by_cases hlt : i < xs.length
 · refine .inr ⟨⟨xs, xs[i], q, by simp [hlt]⟩, fun x H' y => ?_⟩
   obtain ⟨e, y⟩ := y
   subst e
   exact hs i x ys σ _ (fun ys' σ' H' => ∃ m', m' < xs.length - i ∧ m' = xs.length - (i + 1) ∧ i + 1 ≤ xs.length ∧ Pv (i + 1) ys' σ' H') (y xs q) p fun ys' σ' H' p' => ⟨xs.length - (i + 1), by omega, rfl, hlt, p'⟩
 · have e : i = xs.length := by omega
   subst e
   exact .inl ⟨⟨xs, q, Nat.le_refl _⟩, hd ys σ H p⟩
end
section
variable {X : Cx} {elt iter : Expr} {ifs : List Expr} {te : TE} {tt : TT} {wi : TI} {pos p px py pt spos : Pos} {x y z : Str} {i k : Nat} {scope : Scope}
theorem loc_C {C : Addr} {s : Shared} {H : Hp} {fp : List Addr} {Nc : List Str} (hk : scope.names.lookup x = some .local) : (cxC X Nc scope C s H fp).env.scope.names.lookup x = some .local := lookup_relabel_local hk
theorem not_mem_of (S : CompS X scope) (hk : scope.names.lookup x = some .local) : x ∉ X.N.map (hid scope) := fun h => by
 obtain ⟨y, _, e⟩ := List.mem_map.mp h
 rcases hid_cases scope y with ⟨_, h2⟩ | ⟨h1, h2⟩
 · rw [h2] at e; rw [← e, S.dot] at hk; cases hk
 · rw [h2] at e; exact h1 (e ▸ hk)
theorem g_C1 (S : CompS X scope) (hN : X.N.Nodup) (hk : scope.names.lookup x = some .local) (C : Addr) (s : Shared) (H : Hp) (fp : List Addr) : PG (cxC X [x] scope C s H fp) (.Name x px) (gName 0) :=
 pg_name (X := cxC X [x] scope C s H fp) (List.nodup_cons.mpr ⟨not_mem_of S hk, S.nd⟩) rfl (.inl (loc_C hk)) (.inr (loc_C hk))
theorem g_C2 (hc : X.calm = true) (S : CompS X scope) (hN : X.N.Nodup) (hxy : x ≠ y) (hx : scope.names.lookup x = some .local) (hy : scope.names.lookup y = some .local) (C : Addr) (s : Shared) (H : Hp) (fp : List Addr) :
 PG (cxC X [x, y] scope C s H fp) (.Tuple [.Name x px, .Name y py] k pt) (gTup X.K 2 (gCons (gName 0) (gCons (gName 1) gNil))) := by
 have nd : (cxC X [x, y] scope C s H fp).N.Nodup := List.nodup_cons.mpr ⟨fun h => by
  rcases List.mem_cons.mp h with h | h
  · exact hxy h
  · exact not_mem_of S hx h, List.nodup_cons.mpr ⟨not_mem_of S hy, S.nd⟩⟩
 exact pg_tup (X := cxC X [x, y] scope C s H fp) hc (pgs_cons (pg_name nd rfl (.inl (loc_C hx)) (.inr (loc_C hx))) (pgs_cons (pg_name nd rfl (.inl (loc_C hy)) (.inr (loc_C hy))) pgs_nil))
theorem j_comp1 (hc : X.calm = true) (S : compB X.env.scope.names X.N scope = true) (hs : ∀ x, foldedSetIterable iter X.env x = pure x) (hN : X.N.Nodup) (hk : scope.names.lookup x = some .local) (hi : JI X (.Name x px) iter wi)
 (ht : ∀ C s H fp, JIfs (cxC X [x] scope C s H fp) ifs tt) (he : ∀ C s H fp, JE (cxC X [x] scope C s H fp) elt te) : JE X (.ListComp elt [⟨.Name x px, iter, ifs, 0⟩] scope pos) (tComp 1 wi (gName 0) tt te) :=
 ⟨pe_comp (Nc := [x]) hc (.of S) hs hi.h (g_C1 (.of S) hN hk) (fun C s H fp => (ht C s H fp).h) fun C s H fp => (he C s H fp).h⟩
theorem j_comp2 (hc : X.calm = true) (S : compB X.env.scope.names X.N scope = true) (hs : ∀ x, foldedSetIterable iter X.env x = pure x) (hN : X.N.Nodup) (hxy : x ≠ y) (hx : scope.names.lookup x = some .local) (hy : scope.names.lookup y = some .local)
 (hi : JI X (.Tuple [.Name x px, .Name y py] k pt) iter wi) (ht : ∀ C s H fp, JIfs (cxC X [x, y] scope C s H fp) ifs tt) (he : ∀ C s H fp, JE (cxC X [x, y] scope C s H fp) elt te) :
 JE X (.ListComp elt [⟨.Tuple [.Name x px, .Name y py] k pt, iter, ifs, 0⟩] scope pos) (tComp 2 wi (gTup X.K 2 (gCons (gName 0) (gCons (gName 1) gNil))) tt te) :=
 ⟨pe_comp (Nc := [x, y]) hc (.of S) hs hi.h (g_C2 hc (.of S) hN hxy hx hy) (fun C s H fp => (ht C s H fp).h) fun C s H fp => (he C s H fp).h⟩
theorem s_comp2 (hc : X.calm = true) (S : compB X.env.scope.names X.N scope = true) (hs : ∀ x, foldedSetIterable iter X.env x = pure x) (hN : X.N.Nodup) (hxy : x ≠ y) (hx : scope.names.lookup x = some .local) (hy : scope.names.lookup y = some .local) (h : At X.N i z) (hz : X.env.scope.names.lookup z = some .local)
 (hsw : swapsWith (.ListComp elt [⟨.Tuple [.Name x px, .Name y py] k pt, iter, ifs, 0⟩] scope pos) (some (.Name z p)) spos.line X.env = pure true) (hi : JI X (.Tuple [.Name x px, .Name y py] k pt) iter wi)
 (ht : ∀ C s H fp, JIfs (cxC X [x, y] scope C s H fp) ifs tt) (he : ∀ C s H fp, JE (cxC X [x, y] scope C s H fp) elt te) :
 JS X (.Assign [.Name z p] (.ListComp elt [⟨.Tuple [.Name x px, .Name y py] k pt, iter, ifs, 0⟩] scope pos) spos) (tAsg (tComp 2 wi (gTup X.K 2 (gCons (gName 0) (gCons (gName 1) gNil))) tt te) (gName i)) :=
 ⟨ps_setComp (Nc := [x, y]) hc (.of S) hs hN h.get (.inl hz) (.inr hz) hsw hi.h (g_C2 hc (.of S) hN hxy hx hy) (fun C s H fp => (ht C s H fp).h) fun C s H fp => (he C s H fp).h⟩
end
theorem cxC_K {X : Cx} {Nc : List Str} {scope : Scope} {C : Addr} {s : Shared} {H : Hp} {fp : List Addr} : (cxC X Nc scope C s H fp).K = X.K := rfl
section
variable {X : Cx} {K : PySem.W.Frag} (hK : X.K = K) {a b c e o elt iter : Expr} {es ifs : List Expr} {ta tb te to : TE} {tt : TT} {t : TA} {wi : TI} {pos p px py pt spos apos cpos p2 : Pos} {x y z : Str} {i k : Nat} {scope : Scope}
include hK
theorem k_ix (hs : PlainIx b) (ha : JE X a ta) (hb : JE X b tb) : JE X (.Subscript a b pos) (tOp (rIx K) ta tb) := hK ▸ j_ix hs ha hb
theorem k_append {cpos : Pos} (hbase : attributeBase o "append" X.env (eval o X.env) = eval o X.env) (hfew : ((backTo cpos (starEach [e] X.env)).all (fun x => !x.1) && (backToKw cpos (keywordEach [] X.env)).all (fun x => x.1.isSome)
 && decide (([e] : List Expr).length + ([] : List Keyword).length + (if ([] : List Keyword).isEmpty then 0 else 1) < 30)) = true) (hline : (apos.endLine == cpos.line) = true) (hs : starEach [e] X.env = (false, eval e X.env) :: starEach [] X.env)
 (hpl : (backTo cpos (starEach [] X.env)).any (·.1) = false) (ho : JE X o to) (ha : JA X [e] t) : JE X (.Call (.Attribute o "append" apos) [e] [] cpos) (tBM K "list" rAppend to t) := hK ▸ j_append hbase hfew hline hs hpl ho ha
theorem k_comp2 (hc : X.calm = true) (S : compB X.env.scope.names X.N scope = true) (hs : ∀ x, foldedSetIterable iter X.env x = pure x) (hN : X.N.Nodup) (hxy : x ≠ y) (hx : scope.names.lookup x = some .local) (hy : scope.names.lookup y = some .local)
 (hi : JI X (.Tuple [.Name x px, .Name y py] k pt) iter wi) (ht : ∀ C s H fp, JIfs (cxC X [x, y] scope C s H fp) ifs tt) (he : ∀ C s H fp, JE (cxC X [x, y] scope C s H fp) elt te) :
 JE X (.ListComp elt [⟨.Tuple [.Name x px, .Name y py] k pt, iter, ifs, 0⟩] scope pos) (tComp 2 wi (gTup K 2 (gCons (gName 0) (gCons (gName 1) gNil))) tt te) := hK ▸ j_comp2 hc S hs hN hxy hx hy hi ht he
section
variable (hg : Gl X x) (he : starEach (e :: es) X.env = (false, eval e X.env) :: starEach es X.env) (hpl : (backTo pos (starEach es X.env)).any (·.1) = false)
include hg he hpl
theorem k_isi (hx : x = "isinstance") (hm : X.mg x = none) (ha : JA X (e :: es) t) : JE X (.Call (.Name x p) (e :: es) [] pos) (tCB (rIsi K) t) := hK ▸ j_isi hg he hpl hx hm ha
theorem k_len (hx : x = "len") (hm : X.mg x = none) (ha : JA X (e :: es) t) : JE X (.Call (.Name x p) (e :: es) [] pos) (tCB (rLen K) t) := hK ▸ j_len hg he hpl hx hm ha
theorem k_all (hx : x = "all") (hc : X.calm = true) (hm : X.mg x = none) (ha : JA X (e :: es) t) : JE X (.Call (.Name x p) (e :: es) [] pos) (tCB (rAll K fun bs => bs.all id) t) := hK ▸ j_all hg he hpl hx hc hm ha
end
end
def ikv (ks : List (Int × V)) : List (Key × V) := ks.map fun q => (.inl q.1, q.2)
def rSortD : List V → Hp → VK → Prop := fun xs H Q => ∃ (p : Addr) (ks : List (Int × V)), xs = [.ref p] ∧ H p = some (.dK (ikv ks)) ∧ ks.length < 64 ∧
 ∀ (l : Addr) (ns : List Int) (H' : Hp), H l = none → L2.Same H H' → H' l = some (.lst (ns.map V.int)) → ns.Perm (ks.map (·.1)) → ns.Pairwise (· ≤ ·) → Q (.ref l) H'
theorem ints_vals : ∀ {vs : List Value} {ns : List Int}, IntsAre vs ns → Vals (ns.map V.int) vs
 | _, _, .nil => .nil
 | _, _, .cons n t r => .cons ⟨t, rfl⟩ (ints_vals r)
theorem kv_get : ∀ {ks : List (Int × V)} {vs : List (Key × Value)} {i : Nat} {k : Key} {x : Value}, KV (ikv ks) vs → vs[i]? = some (k, x) → ∃ q, ks[i]? = some q ∧ k = .inl q.1
 | [], _, i, k, x, r, e => by cases r; simp at e
 | q :: ks, _, i, k, x, r, e => by
  cases r with
  | cons r rr =>
   cases i with
   | zero => simp at e; subst e; exact ⟨q, rfl, r.1.symm⟩
   | succ i =>
    obtain ⟨q', h1, h2⟩ := kv_get (ks := ks) (i := i) rr (by simpa using e)
    exact ⟨q', by simpa using h1, h2⟩
theorem ints_of_get : ∀ {vs : List Value} {ns : List Int}, vs.length = ns.length → (∀ (j : Nat) (v : Value), vs[j]? = some v → ∃ n t, ns[j]? = some n ∧ v = .int n t) → IntsAre vs ns
 | [], [], _, _ => .nil
 | [], _ :: _, h, _ => by simp at h
 | _ :: _, [], h, _ => by simp at h
 | v :: vs, n :: ns, h, g => by
  obtain ⟨n', t, e1, e2⟩ := g 0 v rfl
  simp at e1; subst e1; subst e2
  exact .cons n t (ints_of_get (by simpa using h) fun j u e => by
   obtain ⟨n', t', e1, e2⟩ := g (j + 1) u (by simpa using e)
   exact ⟨n', t', by simpa using e1, e2⟩)
section
variable {X : Cx}
theorem call_sortD (hc : X.calm = true) : CallR X (.builtin "sorted") rSortD := by
 intro pins s σ H xs us Q I r h
 obtain ⟨p, ks, rfl, hq, h64, q⟩ := h
 obtain ⟨u, rfl, rx⟩ := vals1 r
 cases rx
 obtain ⟨hz, lo, vs, kv, dd⟩ := (show ObjOk X.prog X.w H s.heap p (.dK (ikv ks)) from I.hok p _ hq)
 obtain ⟨ep, hat⟩ := dd.dictAt
 have hl : vs.length = ks.length := by
  have := Paired.length kv
  rw [← this]; unfold ikv; rw [List.length_map]
 have hsz : (sizeLine : Nat) = 16777216 := sizeLine_eq
 refine Calls.call_function_entry kind_sorted plain_sorted entry_sorted (args_sorted1 _) ?_
 unfold Builtin.«sorted»
 refine wpAny_bind (m := checkCount "sorted" 1 1 _) (wpAny_pure ?_)
 refine wpAny_bind (PySem.W.kdu_collect (A := X.A.in1) (PySem.W.kdl_dict (knd := mixKind X.prog X.w) (kvs := vs) (ep := ep) lo) (I.ok.hd hc) hat (by omega) fun h' tk acc hk hacc => ?_)
 have hI : IntsAre acc.toList (ks.map (·.1)) := ints_of_get (by rw [Array.length_toList, List.length_map, hacc.1, hl]) fun j v e => by
  obtain ⟨k, x, e1, e2⟩ := hacc.2 j v (by rw [← Array.getElem?_toList]; exact e)
  obtain ⟨q', h1, h2⟩ := kv_get kv e1
  subst h2
  have e2 : keyIs (.inl q'.1) v = true := e2
  rcases keyIs_shape e2 with ⟨i, t, ek, e3⟩ | ⟨y, t, ek, e3⟩
  · subst e3
    injection ek with ek
    exact ⟨_, t, by rw [List.getElem?_map, h1]; rfl, by show Value.int i t = Value.int q'.1 t; rw [ek]⟩
  · cases ek
 have hal : acc.toList.length = ks.length := by rw [Array.length_toList, hacc.1, hl]
 refine wpAny_bind (wpAny_newList ?_ (by rw [hal]; omega))
 have hoL : (h'.push (seqObj "list" acc.toList.toArray 0)).get? h'.objs.size = some (seqObj "list" acc.toList.toArray 0) := Heap.get?_push_size _ rfl
 refine wpAny_bind (wpAny_holding (wpAny_call_entry slot_list_sort ⟨_, hoL, rfl⟩ entry_list_sort (list_sort_tree hoL hI (by omega) fun out ns' a1 a2 a3 => ⟨_, rfl, ?_⟩) (args_list_sort _)))
 refine wpAny_pure ⟨_, rfl, ?_⟩
 obtain ⟨n', e'⟩ : ∃ n', (sortedHeap (h'.push (seqObj "list" acc.toList.toArray 0)) h'.objs.size acc.toList out).get? h'.objs.size = some (seqObj "list" out n') := sortedHeap_at hoL
 have I1 : Inv X pins σ H { s with heap := h', toks := tk } := I.kept hk
 have hfr : H h'.objs.size = none := I1.hok.fresh (Nat.le_refl _)
 have keep : ∀ b o, h'.get? b = some o → (sortedHeap (h'.push (seqObj "list" acc.toList.toArray 0)) h'.objs.size acc.toList out).get? b = some o := fun b o e => by
  have hb := Heap.lt_size e
  rw [sortedHeap_old (Nat.ne_of_lt hb) (by rw [Heap.size_push]; exact Nat.lt_succ_of_lt hb)]
  exact Heap.get?_push_of_some _ e
 have hlen : ns'.length ≤ sizeLine := by rw [a2.length_eq, List.length_map]; omega
 have I2 : Inv X pins σ (upd H h'.objs.size (.lst (ns'.map V.int))) { s with heap := sortedHeap (h'.push (seqObj "list" acc.toList.toArray 0)) h'.objs.size acc.toList out, toks := tk } :=
  I1.laid (t' := tk) keep (Nat.le_refl _) (show ObjOk X.prog X.w _ _ _ (.lst (ns'.map V.int)) from ⟨by rw [List.length_map]; exact hlen, out.toList, n', ints_vals a1, by simpa using e'⟩)
 exact ⟨.ref h'.objs.size, _, I2, rfl, q _ _ _ hfr (Br.Same.upd hfr) upd_same a2 a3⟩
theorem boot_sorted : bootBuiltins "sorted" = some (.builtin "sorted") := by decide +kernel
def iSeq (K : PySem.W.Frag) (tl : TE) : TI := fun σ H R => tl σ H fun x H1 => ∃ a, x = .ref a ∧ (((∃ xs, SqL K H1 a xs) ∧ R (Itl K a) H1) ∨ ((∃ xs, SqT K H1 a xs) ∧ R (Itt K a) H1))
theorem pi_seq {tg l : Expr} {tl : TE} (hl : PE X l tl) : PI X tg l (iSeq X.K tl) := by
 intro pins s σ H R I h
 refine thn (hl pins s σ H _ I h) fun v s1 ⟨x, H1, I1, r1, q1⟩ => ?_
 obtain ⟨a, e, q1⟩ := q1
 subst e
 cases r1
 rcases q1 with ⟨⟨xs, hq⟩, q⟩ | ⟨⟨xs, hq⟩, q⟩
 · obtain ⟨its, rv, p, hz⟩ := I1.list hq
   refine wpAny_pyIter_list p.isList ?_
   refine ⟨s1.heap.objs.size, [s1.heap.objs.size], _, _, H1, rfl, I1.kept (t' := s1.toks) fun b o e => Heap.get?_push_of_some _ e, turn_list a _, ⟨_, Heap.get?_push_size _ rfl, rfl, rfl⟩, fun b hb => ?_, q⟩
   have e : b = s1.heap.objs.size := by simpa using hb
   subst e
   exact I1.fpOk (Nat.le_refl _) (I1.hok.fresh (Nat.le_refl _))
 · obtain ⟨its, rv, p, hz⟩ := I1.tuple hq
   refine wpAny_pyIter_tuple (show s1.heap.IsTuple a its.toArray from p) ?_
   refine ⟨s1.heap.objs.size, [s1.heap.objs.size], _, _, H1, rfl, I1.kept (t' := s1.toks) fun b o e => Heap.get?_push_of_some _ e, turn_tuple a _, ⟨_, Heap.get?_push_size _ rfl, rfl, rfl⟩, fun b hb => ?_, q⟩
   have e : b = s1.heap.objs.size := by simpa using hb
   subst e
   exact I1.fpOk (Nat.le_refl _) (I1.hok.fresh (Nat.le_refl _))
def rSlS (K : PySem.W.Frag) : V → Option Int → Option Int → Hp → VK → Prop := fun x lo hi H Q => ∃ a xs, x = .ref a ∧ ((SqL K H a xs ∧ ∀ p H2, H p = none → L2.Same H H2 → H2 p = some (.lst (cutV xs lo hi)) → Q (.ref p) H2) ∨
 (SqT K H a xs ∧ ¬ (HT.sIx xs.length 0 lo = 0 ∧ HT.sIx xs.length xs.length hi = xs.length) ∧ ∀ p H2, H p = none → L2.Same H H2 → H2 p = some (.tup (cutV xs lo hi)) → Q (.ref p) H2))
theorem sl_S : SlR X (rSlS X.K) := by
 intro pins s σ H x v vl vu lo hi sl Q I rx hs pl pu h
 obtain ⟨a, xs, rfl, h⟩ := h
 rcases h with ⟨hx, q⟩ | ⟨hx, hn, q⟩
 · exact sl_list pins s σ H _ v vl vu lo hi sl Q I rx hs pl pu ⟨a, xs, rfl, hx, fun p hp => q p _ hp (Br.Same.upd hp) upd_same⟩
 · exact sl_tup pins s σ H _ v vl vu lo hi sl Q I rx hs pl pu ⟨a, xs, rfl, hx, hn, fun p hp => q p _ hp (Br.Same.upd hp) upd_same⟩
def rCatTS (K : PySem.W.Frag) : R2 := fun x y H Q => ∃ a b xs ys, x = .ref a ∧ y = .ref b ∧ SqT K H a xs ∧ SqT K H b ys ∧ xs ≠ [] ∧ xs.length + ys.length ≤ sizeLine ∧ ∀ p H2, L2.Same H H2 → SqT K H2 p (xs ++ ys) → Q (.ref p) H2
theorem op_catTS : OpR X (binaryOp .Add) (rCatTS X.K) := fun pins s σ H x y v u Q I rx ry h => by
 obtain ⟨a, b, xs, ys, e1, e2, h1, h2, hx, hz, q⟩ := h
 refine op_catT pins s σ H x y v u Q I rx ry ⟨a, b, xs, ys, e1, e2, h1, h2, hx, hz, fun e => ?_, fun _ p hp => q p _ (Br.Same.upd hp) (SqT.of upd_same)⟩
 subst e
 exact q a H (L2.Same.refl _) (by rw [List.append_nil]; exact h1)
def rTupOf (K : PySem.W.Frag) : List V → Hp → VK → Prop := fun xs H Q => ∃ p ys, xs = [.ref p] ∧ SqL K H p ys ∧ ∀ l H2, H l = none → L2.Same H H2 → H2 l = some (.tup ys) → Q (.ref l) H2
theorem call_tupS : CallR X (.type "tuple") (rTupOf X.K) := fun pins s σ H xs us Q I r h => by
 obtain ⟨p, ys, e, hq, q⟩ := h
 exact call_tuple_of pins s σ H xs us Q I r ⟨p, ys, e, .inl ⟨hq, fun l hl => q l _ hl (Br.Same.upd hl) upd_same⟩⟩
theorem op_mulI : OpR X (binaryOp .Mult) (rI IntMulOk fun i j => .int (i * j)) := opI fun _ _ _ _ _ _ _ hc q => mul_int q hc
theorem CMulB.ok {i j : Int} (h : CMulB i j) : IntMulOk i j := IntMulOk.of_bits (bits_of h.1) (bits_of h.2)
theorem boot_tuple' : bootBuiltins "tuple" = some (.type "tuple") := by decide +kernel
end
section
variable {X : Cx} {K : PySem.W.Frag} (hK : X.K = K) {a b c e o d value elt iter : Expr} {es ifs : List Expr} {ta tb te to td ty tv : TE} {tt : TT} {t : TA} {wi : TI} {pos p px py pt spos apos cpos p2 pos' : Pos} {x y z : Str} {i j k : Nat} {scope : Scope}
theorem o_mulI : JOp X .Mult (rI IntMulOk fun i j => .int (i * j)) := ⟨op_mulI⟩
theorem k_seq (hK : X.K = K) {tg l : Expr} {tl : TE} (hl : JE X l tl) : JI X tg l (iSeq K tl) := hK ▸ ⟨pi_seq hl.h⟩
theorem k_slS (hK : X.K = K) {lo hi : Option Expr} {tl th : TO} (he : JE X e te) (hl : JO X lo tl) (hu : JO X hi th) : JE X (.Subscript e (.Slice lo hi none p2) pos) (tSl (rSlS K) te tl th) := hK ▸ ⟨pe_slice sl_S he.h hl.h hu.h⟩
theorem j_dget (hr : Room k X.A) (hs : NoSl b) (ho : JE X (.Name "counts" p) td) (hi : JE X b ty) : JE X (.Subscript (.Name "counts" p) b pos) (tDGet td ty) := ⟨pe_dget (by have := hr.un; omega) ho.h hi.h hs⟩
theorem s_dput (hr : Room k X.A) (hs : swapsWith value (some (.Subscript (.Name "counts" p) b pos')) pos.line X.env = pure false) (ho : JE X (.Name "counts" p) td) (hi : JE X b ty) (hv : JE X value tv) : JS X (.Assign [.Subscript (.Name "counts" p) b pos'] value pos) (sDPut td ty tv) :=
 ⟨ps_dput (by have := hr.un; omega) ho.h hi.h hv.h hs⟩
theorem s_unpackC {kt : Nat} (hi : At X.N i x) (hj : At X.N j y) (hc : X.calm = true) (hN : X.N.Nodup) (hx : Loc X.env.scope x) (hy : Loc X.env.scope y) (hfx : X.fn x = true) (hfy : X.fn y = true)
 (h1 : (assignEach [.Name x px, .Name y py] X.env).map (·.2) = assign (.Name x px) X.env :: (assignEach [.Name y py] X.env).map (·.2))
 (h2 : (assignEach [.Name y py] X.env).map (·.2) = assign (.Name y py) X.env :: (assignEach [] X.env).map (·.2))
 (hn : (assignEach [.Name x px, .Name y py] X.env).length = 2) (hst : (assignEach [.Name x px, .Name y py] X.env).findIdx? (·.1) = none)
 (hs : swapsWithSole [.Tuple [.Name x px, .Name y py] kt pt] e pos.line X.env = pure false) (hw : swappedStores [.Tuple [.Name x px, .Name y py] kt pt] e X.env = pure none)
 (h3 : (assignEach [.Tuple [.Name x px, .Name y py] kt pt] X.env).map (·.2) = [assign (.Tuple [.Name x px, .Name y py] kt pt) X.env]) (he : JE X e te) :
 JS X (.Assign [.Tuple [.Name x px, .Name y py] kt pt] e pos) (tAsg te (gTup X.K 2 (gCons (gName i) (gCons (gName j) gNil)))) :=
 ⟨ps_asg he.h (pg_tup hc (pgs_cons (pg_name hN hi.get hx (.inl hfx)) (pgs_cons (pg_name hN hj.get hy (.inl hfy)) pgs_nil h2) h1) hn hst) hs hw h3⟩
section
variable (hg : Gl X x) (he : starEach (e :: es) X.env = (false, eval e X.env) :: starEach es X.env) (hpl : (backTo pos (starEach es X.env)).any (·.1) = false)
include hg he hpl
theorem j_sorted (hx : x = "sorted") (hc : X.calm = true) (hm : X.mg x = none) (ha : JA X (e :: es) t) : JE X (.Call (.Name x p) (e :: es) [] pos) (tCB rSortD t) := ⟨by subst hx; exact pe_callB (call_sortD hc) hg hm boot_sorted ha.h (by decide) (by decide) he hpl⟩
theorem k_tuple (hK : X.K = K) (hx : x = "tuple") (hm : X.mg x = none) (ha : JA X (e :: es) t) : JE X (.Call (.Name x p) (e :: es) [] pos) (tCB (rTupOf K) t) := hK ▸ ⟨by subst hx; exact pe_callTy call_tupS hg hm boot_tuple' ha.h (by decide) (by decide) he hpl⟩
end
end
section
variable {K : PySem.W.Frag} {a : Addr} {xs : List V} {g : TG} {tt : TT} {te : TE} {σ0 : L2.St} {H0 : Hp} {Z : List V → Hp → Prop}
theorem cmp_tup (Pv : Nat → List V → L2.St → Hp → Prop) (h0 : Pv 0 [] σ0 H0) (hz : xs.length ≤ sizeLine) (hl : ∀ i ys σ H, i ≤ xs.length → Pv i ys σ H → SqT K H a xs ∧ ys.length ≤ i)
 (hs : ∀ i x ys σ H (N : List V → L2.St → Hp → Prop), xs[i]? = some x → Pv i ys σ H → (∀ ys' σ' H', Pv (i + 1) ys' σ' H' → N ys' σ' H') →
  g x σ H fun σ3 H3 => tt σ3 H3 fun b H4 => if b = true then te σ3 H4 fun y H5 => N (ys ++ [y]) σ3 H5 else N ys σ3 H4)
 (hd : ∀ ys σ H, Pv xs.length ys σ H → Z ys H) : Cmp (Itt K a) g tt te σ0 H0 Z := by
 refine ⟨fun i m ys σ H => m = xs.length - i ∧ i ≤ xs.length ∧ Pv i ys σ H, ⟨xs.length, by simp, Nat.zero_le _, h0⟩, ?_⟩
 rintro i m ys σ H ⟨rfl, hi, p⟩
 obtain ⟨q, hy⟩ := hl i ys σ H hi p
 refine ⟨by omega, ?_⟩
 by_cases hlt : i < xs.length
 · refine .inr ⟨⟨xs, xs[i], q, by simp [hlt]⟩, fun x H' y => ?_⟩
   obtain ⟨e, y⟩ := y
   subst e
   exact hs i x ys σ _ (fun ys' σ' H' => ∃ m', m' < xs.length - i ∧ m' = xs.length - (i + 1) ∧ i + 1 ≤ xs.length ∧ Pv (i + 1) ys' σ' H') (y xs q) p fun ys' σ' H' p' => ⟨xs.length - (i + 1), by omega, rfl, hlt, p'⟩
 · have e : i = xs.length := by omega
   subst e
   exact .inl ⟨⟨xs, q, Nat.le_refl _⟩, hd ys σ H p⟩
end
section
variable {prog : Program} {w : World} {A : Around} {E : Value → Shared → Prop} {s : Shared}
theorem tsetAt {c : Addr} {o : Obj} {fs : Array Value} {i : Nat} {x : Value} {Q : Unit → Shared → Prop} (e1 : s.heap.get? c = some o) (e2 : o.data = .fields fs) (hi : i < fs.size)
 (go : ∀ g o', g.get? c = some o' → o'.cls = o.cls → o'.data = .fields (fs.set! i x) → Heap.SameBut c s.heap g → Q () { s with heap := g }) : wpAny (model prog w) A (setField (.ref c) i x) Q E s := by
 refine wpAny_setField e1 e2 hi ?_
 have f : (o.mapFields fun a => a.set! i x).data = .fields (fs.set! i x) := Obj.data_mapFields e2 _
 exact go _ _ (Heap.get?_update_self _ e1 (Obj.isFreed_of_fields f)) (Obj.cls_mapFields ..) f (Heap.SameBut.update ..)
theorem tstep {c d : Addr} {k : Nat} {zs : Array Value} {v : Value} {Q : Value → Shared → Prop} (hI : s.heap.IsTupleIter c d k) (hT : s.heap.IsTuple d zs) (hv : zs[k]? = some v)
 (go : ∀ g, g.IsTupleIter c d (k + 1) → Heap.SameBut c s.heap g → Q v { s with heap := g }) : wpAny (model prog w) A (Builtin.«tuple_iterator.__next__» ⟨[.ref c], []⟩) (fun fin s' => ∃ u, fin = .done (.ret u) ∧ Q u s') E s := by
 have hI' := hI
 obtain ⟨oc, q1, q2, q3⟩ := hI'
 have hT' := hT
 obtain ⟨od, p1, _, nd, p3⟩ := hT'
 have at_ : zs[((k : Nat) : Int).toNat]? = some v := by simpa using hv
 wp_walk using wpAny_field q1 q3 (x := .ref d) rfl, wpAny_field q1 q3 (x := .int k 0) rfl, wpAny_seqItems p1 p3
 rw [at_]
 refine wpAny_bind (tsetAt q1 q3 (by simp) fun g o' a1 a2 a3 sb => ?_)
 wp_walk
 exact ⟨_, rfl, go g ⟨o', a1, a2.trans q2, by rw [a3]; simp [rawInt]⟩ sb⟩
theorem tstop {c d : Addr} {k : Nat} {zs : Array Value} {Q : PySem.Fin → Shared → Prop} (hh : A.handled = none) (hI : s.heap.IsTupleIter c d k) (hT : s.heap.IsTuple d zs) (hv : zs[k]? = none)
 (go : ∀ g e, Heap.ExtBut c s.heap g → (∃ o, g.get? e = some o ∧ o.cls = .type "StopIteration") → E (.ref e) { s with heap := g }) : wpAny (model prog w) A (Builtin.«tuple_iterator.__next__» ⟨[.ref c], []⟩) Q E s := by
 have hI' := hI
 obtain ⟨oc, q1, q2, q3⟩ := hI'
 have hT' := hT
 obtain ⟨od, p1, _, nd, p3⟩ := hT'
 have at_ : zs[((k : Nat) : Int).toNat]? = none := by simpa using hv
 wp_walk using wpAny_field q1 q3 (x := .ref d) rfl, wpAny_field q1 q3 (x := .int k 0) rfl, wpAny_seqItems p1 p3
 rw [at_]
 refine wpAny_bind (wpAny_rule (wpAny_bind (tsetAt q1 q3 (by simp) fun g o' a1 a2 a3 sb => ?_)))
 wp_walk
 unfold raiseNew
 wp_walk using wpAny_handled
 rw [hh]
 wp_walk
 exact go _ _ ((sb.extBut.push _).push _) ⟨_, Heap.get?_push_size _ rfl, rfl⟩
theorem tnext {c d : Addr} {k : Nat} {zs : Array Value} {v : Value} {Q : Value → Shared → Prop} (hI : s.heap.IsTupleIter c d k) (hT : s.heap.IsTuple d zs) (hv : zs[k]? = some v)
 (go : ∀ g, g.IsTupleIter c d (k + 1) → Heap.SameBut c s.heap g → Q v { s with heap := g }) : wpAny (model prog w) A (Builtin.SmallTypes.nextOf (.ref c)) Q E s := by
 have sl := F.slot_tuple_iterator_next
 unfold Builtin.SmallTypes.nextOf
 refine wpAny_bind (wpAny_callSpecial?_slot (name := Str.ofString "__next__") hI.typeIs sl (wpAny_call_entry sl hI.typeIs F.entry_tuple_iterator_next ?_ (F.args_tuple_iterator_next_1 _)))
 exact wpAny_mono (tstep (Q := fun u s' => u = v ∧ Q v s') hI hT hv fun g a b => ⟨rfl, go g a b⟩) (fun fin s' ⟨u, e, e2, q⟩ => ⟨u, e, wpAny_pure (e2 ▸ q)⟩) fun _ _ z => z
theorem tnone {c d : Addr} {k : Nat} {zs : Array Value} {Q : Value → Shared → Prop} (hh : A.handled = none) (hI : s.heap.IsTupleIter c d k) (hT : s.heap.IsTuple d zs) (hv : zs[k]? = none)
 (go : ∀ g e, Heap.ExtBut c s.heap g → (∃ o, g.get? e = some o ∧ o.cls = .type "StopIteration") → E (.ref e) { s with heap := g }) : wpAny (model prog w) A (Builtin.SmallTypes.nextOf (.ref c)) Q E s := by
 have sl := F.slot_tuple_iterator_next
 unfold Builtin.SmallTypes.nextOf
 refine wpAny_bind (wpAny_callSpecial?_slot (name := Str.ofString "__next__") hI.typeIs sl (wpAny_call_entry sl hI.typeIs F.entry_tuple_iterator_next ?_ (F.args_tuple_iterator_next_1 _)))
 exact tstop hh hI hT hv go
structure Ap (z u o c1 c2 d e : Addr) : Prop where
 ne : [z, u, o, c1, c2].Nodup
 nd : ∀ b ∈ [z, u, o, c1, c2], d ≠ b ∧ e ≠ b
theorem Ap.all {z u o c1 c2 d e : Addr} (P : Ap z u o c1 c2 d e) : z ≠ u ∧ z ≠ o ∧ z ≠ c1 ∧ z ≠ c2 ∧ u ≠ o ∧ u ≠ c1 ∧ u ≠ c2 ∧ o ≠ c1 ∧ o ≠ c2 ∧ c1 ≠ c2 := by
 have h := P.ne
 simp only [List.nodup_cons, List.mem_cons, List.mem_nil_iff, or_false, not_or] at h
 exact ⟨h.1.1, h.1.2.1, h.1.2.2.1, h.1.2.2.2, h.2.1.1, h.2.1.2.1, h.2.1.2.2, h.2.2.1.1, h.2.2.1.2, h.2.2.2.1⟩
theorem zdraw {z u o c1 c2 : Addr} {x y : Value} {J1 J2 : Heap → Prop} {Q : Value → Shared → Prop} (ne : [z, u, o, c1, c2].Nodup) (hz : IsZip s.heap z u o .none) (hu : IsPair s.heap u (.ref c1) (.ref c2)) (ho : ∃ a b, IsPair s.heap o a b)
 (s1 : ∀ g, Heap.SameBut z s.heap g → ∀ {R : Value → Shared → Prop} {E' : Value → Shared → Prop}, (∀ g', J1 g' → Heap.SameBut c1 g g' → R x { s with heap := g' }) → wpAny (model prog w) A (Builtin.SmallTypes.nextOf (.ref c1)) R E' { s with heap := g })
 (s2 : ∀ g, (∀ q ob, q ≠ z → q ≠ c1 → q ≠ o → s.heap.get? q = some ob → g.get? q = some ob) → ∀ {R : Value → Shared → Prop} {E' : Value → Shared → Prop}, (∀ g', J2 g' → Heap.SameBut c2 g g' → R y { s with heap := g' }) → wpAny (model prog w) A (Builtin.SmallTypes.nextOf (.ref c2)) R E' { s with heap := g })
 (m1 : ∀ g g', J1 g → (∀ ob, g.get? c1 = some ob → g'.get? c1 = some ob) → J1 g') (m2 : ∀ g g', J2 g → (∀ ob, g.get? c2 = some ob → g'.get? c2 = some ob) → J2 g')
 (go : ∀ g, IsZip g z u o (rawInt s.heap.objs.size) → IsPair g o x y → J1 g → J2 g → IsPair g s.heap.objs.size x y → g.objs.size = s.heap.objs.size + 1 →
  (∀ b ob, b ≠ z → b ≠ o → b ≠ c1 → b ≠ c2 → s.heap.get? b = some ob → g.get? b = some ob) → Q (.ref s.heap.objs.size) { s with heap := g }) :
 wpAny (model prog w) A (Builtin.«zip.__next__» ⟨[.ref z], []⟩) (fun fin s' => ∃ v, fin = .done (.ret v) ∧ Q v s') E s := by
 simp only [List.nodup_cons, List.mem_cons, List.mem_nil_iff, or_false, not_or] at ne
 obtain ⟨⟨n1, n2, n3, n4⟩, ⟨n5, n6, n7⟩, ⟨n8, n9⟩, n10, _⟩ := ne
 obtain ⟨a, b, hO⟩ := ho
 have w0 := fun {R : Unit → Shared → Prop} => wpAny_setField_rec (prog := prog) (w := w) (A := A) (E := E) (k := 0) (x := .ellipsis) (Q := R) hz (by simp)
 wp_walk using wpAny_field hz rfl (x := .bool false) rfl, wpAny_field hz rfl (x := .ref u) rfl, wpAny_field hz rfl (x := .none) rfl, wpAny_field hz rfl (x := .ref o) rfl, wpAny_seqItems hu rfl, w0
 intro g1 zz k1
 have z1 : IsZip g1 z u o .ellipsis := zz
 simp only [List.zipIdx_cons, List.zipIdx_nil, List.forIn_cons, List.forIn_nil]
 refine wpAny_bind (wpAny_bind (wpAny_bind (wpAny_onRaise ?_)))
 have d1 := fun {E' : Value → Shared → Prop} {R : Value → Shared → Prop} => s1 g1 k1 (R := R) (E' := E')
 wp_walk using d1
 intro g2 j2 k2
 have b2 : ∀ q ob, q ≠ z → q ≠ c1 → s.heap.get? q = some ob → g2.get? q = some ob := fun q ob m1 m2 e => k2.extBut _ _ m2 (k1.extBut _ _ m1 e)
 have o2 : IsPair g2 o a b := b2 _ _ (Ne.symm n2) n8 hO
 have up1 := fun {R : Unit → Shared → Prop} => wpAny_updateSeq_pair (prog := prog) (w := w) (A := A) (E := E) (s := { s with heap := g2 }) (k := 0) (x := x) (Q := R) o2
 wp_walk using wpAny_seqItems o2 rfl, up1, wpAny_letGo
 intro g3 zo k3
 have o3 : IsPair g3 o x b := zo
 have b3 : ∀ q ob, q ≠ z → q ≠ c1 → q ≠ o → s.heap.get? q = some ob → g3.get? q = some ob := fun q ob m1 m2 m3 e => k3.extBut _ _ m3 (b2 q ob m1 m2 e)
 have d2 := fun {E' : Value → Shared → Prop} {R : Value → Shared → Prop} => s2 g3 b3 (R := R) (E' := E')
 refine wpAny_bind (wpAny_letGo (wpAny_pure (wpAny_bind (wpAny_bind (wpAny_onRaise ?_)))))
 wp_walk using d2
 intro g4 j4 k4
 have o4 : IsPair g4 o x b := k4.extBut _ _ n9 o3
 have up2 := fun {R : Unit → Shared → Prop} => wpAny_updateSeq_pair (prog := prog) (w := w) (A := A) (E := E) (s := { s with heap := g4 }) (k := 1) (x := y) (Q := R) o4
 wp_walk using wpAny_seqItems o4 rfl, up2, wpAny_letGo
 intro g5 zo5 k5
 have o5 : IsPair g5 o x y := zo5
 have z5 : IsZip g5 z u o .ellipsis := k5.extBut _ _ n2 (k4.extBut _ _ n4 (k3.extBut _ _ n2 (k2.extBut _ _ n3 z1)))
 have len5 : g5.objs.size = s.heap.objs.size := by rw [k5.1, k4.1, k3.1, k2.1, k1.1]
 have zlt : z < g5.objs.size := Heap.lt_size z5
 have z6 : IsZip (g5.push { cls := .type "tuple", data := .seq #[x, y] }) z u o .ellipsis := Heap.get?_push_of_some _ z5
 have w6 := fun {R : Unit → Shared → Prop} => wpAny_setField_rec (prog := prog) (w := w) (A := A) (E := E) (s := { s with heap := g5.push { cls := .type "tuple", data := .seq #[x, y] } }) (k := 0) (x := rawInt g5.objs.size) (Q := R) z6 (by simp)
 wp_walk using wpAny_letGo, wpAny_seqItems o5 rfl, w6
 intro g7 zz7 k7
 have z7 : IsZip g7 z u o (rawInt g5.objs.size) := zz7
 have w7 := fun {R : Unit → Shared → Prop} => wpAny_setField_rec (prog := prog) (w := w) (A := A) (E := E) (s := { s with heap := g7 }) (k := 1) (x := .bool false) (Q := R) z7 (by simp)
 wp_walk using w7
 intro g8 zz8 k8
 have z8 : IsZip g8 z u o (rawInt g5.objs.size) := zz8
 have on : ∀ q ob, q ≠ z → g5.get? q = some ob → g8.get? q = some ob := fun q ob m e => k8.extBut _ _ m (k7.extBut _ _ m (Heap.get?_push_of_some _ e))
 have p8 : IsPair g8 g5.objs.size x y := k8.extBut _ _ (Nat.ne_of_gt zlt) (k7.extBut _ _ (Nat.ne_of_gt zlt) (Heap.get?_push_size _ rfl))
 have len8 : g8.objs.size = g5.objs.size + 1 := by rw [k8.1, k7.1, Heap.size_push]
 rw [len5] at z8 p8 len8
 wp_walk
 refine ⟨_, rfl, ?_⟩
 rw [len5]
 exact go g8 z8 (on _ _ (Ne.symm n2) o5) (m1 _ _ j2 fun ob q => on _ ob (Ne.symm n3) (k5.extBut _ _ (Ne.symm n8) (k4.extBut _ _ n10 (k3.extBut _ _ (Ne.symm n8) q)))) (m2 _ _ j4 fun ob q => on _ ob (Ne.symm n4) (k5.extBut _ _ (Ne.symm n9) q))
  p8 len8 fun q ob m1 m2 m3 m4 e => on q ob m1 (k5.extBut _ _ m2 (k4.extBut _ _ m4 (b3 q ob m1 m3 m2 e)))
theorem zdrawNo {z u o c1 c2 : Addr} {Q : PySem.Fin → Shared → Prop} (ne : [z, u, o, c1, c2].Nodup) (hz : IsZip s.heap z u o .none) (hu : IsPair s.heap u (.ref c1) (.ref c2)) (ho : ∃ a b, IsPair s.heap o a b)
 (src : (∀ g, Heap.SameBut z s.heap g → ∀ {R : Value → Shared → Prop} {E' : Value → Shared → Prop}, (∀ g' f, Heap.ExtBut c1 g g' → (∃ ob, g'.get? f = some ob ∧ ob.cls = .type "StopIteration") → E' (.ref f) { s with heap := g' }) → wpAny (model prog w) A (Builtin.SmallTypes.nextOf (.ref c1)) R E' { s with heap := g }) ∨
  ∃ x, (∀ g, Heap.SameBut z s.heap g → ∀ {R : Value → Shared → Prop} {E' : Value → Shared → Prop}, (∀ g', Heap.SameBut c1 g g' → R x { s with heap := g' }) → wpAny (model prog w) A (Builtin.SmallTypes.nextOf (.ref c1)) R E' { s with heap := g }) ∧
   ∀ g, (∀ q ob, q ≠ z → q ≠ c1 → q ≠ o → s.heap.get? q = some ob → g.get? q = some ob) → ∀ {R : Value → Shared → Prop} {E' : Value → Shared → Prop}, (∀ g' f, Heap.ExtBut c2 g g' → (∃ ob, g'.get? f = some ob ∧ ob.cls = .type "StopIteration") → E' (.ref f) { s with heap := g' }) → wpAny (model prog w) A (Builtin.SmallTypes.nextOf (.ref c2)) R E' { s with heap := g })
 (go : ∀ g x, (∀ b ob, b ≠ z → b ≠ o → b ≠ c1 → b ≠ c2 → s.heap.get? b = some ob → g.get? b = some ob) → (∃ ob, g.get? x = some ob ∧ ob.cls = .type "StopIteration") → E (.ref x) { s with heap := g }) :
 wpAny (model prog w) A (Builtin.«zip.__next__» ⟨[.ref z], []⟩) Q E s := by
 simp only [List.nodup_cons, List.mem_cons, List.mem_nil_iff, or_false, not_or] at ne
 obtain ⟨⟨n1, n2, n3, n4⟩, ⟨n5, n6, n7⟩, ⟨n8, n9⟩, n10, _⟩ := ne
 obtain ⟨a, b, hO⟩ := ho
 have w0 := fun {R : Unit → Shared → Prop} => wpAny_setField_rec (prog := prog) (w := w) (A := A) (E := E) (k := 0) (x := .ellipsis) (Q := R) hz (by simp)
 wp_walk using wpAny_field hz rfl (x := .bool false) rfl, wpAny_field hz rfl (x := .ref u) rfl, wpAny_field hz rfl (x := .none) rfl, wpAny_field hz rfl (x := .ref o) rfl, wpAny_seqItems hu rfl, w0
 intro g1 zz k1
 have z1 : IsZip g1 z u o .ellipsis := zz
 have off : ∀ (g : Heap) (f : Addr), IsZip g z u o .ellipsis → (∃ ob, g.get? f = some ob ∧ ob.cls = .type "StopIteration") → (∀ q ob, q ≠ z → q ≠ o → q ≠ c1 → q ≠ c2 → s.heap.get? q = some ob → g.get? q = some ob) →
  wpAny (model prog w) A (setField (.ref z) 0 .none) (fun _ s' => E (.ref f) s') E { s with heap := g } := fun g f zg ⟨ob, e1, e2⟩ al => by
  have fz : f ≠ z := fun q => by
   rw [q, zg] at e1; cases e1; simp at e2
  exact wpAny_setField_rec zg (by simp) fun g' _ kk => go g' f (fun q oq m1 m2 m3 m4 e => kk.extBut _ _ m1 (al q oq m1 m2 m3 m4 e)) ⟨ob, kk.extBut _ _ fz e1, e2⟩
 simp only [List.zipIdx_cons, List.zipIdx_nil, List.forIn_cons, List.forIn_nil]
 refine wpAny_bind (wpAny_bind (wpAny_bind (wpAny_onRaise ?_)))
 rcases src with s1 | ⟨x1, s1, s2⟩
 · have d1 := fun {E' : Value → Shared → Prop} {R : Value → Shared → Prop} => s1 g1 k1 (R := R) (E' := E')
   wp_walk using d1
   intro g2 f kk st
   exact off g2 f (kk _ _ n3 z1) st fun q ob m1 _ m3 _ e => kk _ _ m3 (k1.extBut _ _ m1 e)
 · have d1 := fun {E' : Value → Shared → Prop} {R : Value → Shared → Prop} => s1 g1 k1 (R := R) (E' := E')
   wp_walk using d1
   intro g2 k2
   have o2 : IsPair g2 o a b := k2.extBut _ _ n8 (k1.extBut _ _ (Ne.symm n2) hO)
   have up1 := fun {R : Unit → Shared → Prop} => wpAny_updateSeq_pair (prog := prog) (w := w) (A := A) (E := E) (s := { s with heap := g2 }) (k := 0) (x := x1) (Q := R) o2
   wp_walk using wpAny_seqItems o2 rfl, up1, wpAny_letGo
   intro g3 zo k3
   have b3 : ∀ q ob, q ≠ z → q ≠ c1 → q ≠ o → s.heap.get? q = some ob → g3.get? q = some ob := fun q ob m1 m2 m3 e => k3.extBut _ _ m3 (k2.extBut _ _ m2 (k1.extBut _ _ m1 e))
   refine wpAny_bind (wpAny_letGo (wpAny_pure (wpAny_bind (wpAny_bind (wpAny_onRaise ?_)))))
   have d2 := fun {E' : Value → Shared → Prop} {R : Value → Shared → Prop} => s2 g3 b3 (R := R) (E' := E')
   wp_walk using d2
   intro g4 f kk st
   exact off g4 f (kk _ _ n4 (k3.extBut _ _ n2 (k2.extBut _ _ n3 z1))) st fun q ob m1 m2 m3 m4 e => kk _ _ m4 (b3 q ob m1 m3 m2 e)
end
theorem sqT_apart {X : Cx} {pins : List (Addr × Obj)} {σ : L2.St} {H : Hp} {s : Shared} {d b : Addr} {xs : List V} (I : Inv X pins σ H s) (h : SqT X.K H d xs) (f : FpOk X pins H b) : d ≠ b := fun z => by
 subst z
 rcases h with h | ⟨o, its, n, hk, _⟩
 · rcases h with h | ⟨o, h⟩
   · rw [f.1] at h; cases h
   · rw [f.1] at h; cases h
 · have e := I.ok.mod.kin d o hk
   rcases f.2.2.2.1 with z | z
   · exact I.ok.noex d o e z
   · exact absurd (Nat.lt_of_lt_of_le (Heap.lt_size e) (Nat.le_trans I.ok.bsz z)) (Nat.lt_irrefl _)
theorem boot_zip : bootBuiltins "zip" = some (.type "zip") := by decide +kernel
theorem preSum_take (ns : List Int) : ∀ n, n ≤ ns.length → preSum (fun i => ns.getD i 0) n = (ns.take n).sum
 | 0, _ => rfl
 | n + 1, h => by
  show preSum _ n + ns.getD n 0 = _
  rw [preSum_take ns n (by omega), List.take_add_one, List.sum_append, List.getD_eq_getElem?_getD, List.getElem?_eq_getElem (by omega)]
  simp
theorem vals_int : ∀ {ns : List Int} {its : List Value} {i : Nat} {v : Value}, Vals (ns.map V.int) its → its[i]? = some v → ∃ n t, ns[i]? = some n ∧ v = .int n t
 | [], _, i, v, r, e => by cases r; simp at e
 | n :: ns, _, i, v, r, e => by
  cases r with
  | cons r rr =>
   cases i with
   | zero => simp at e; subst e; obtain ⟨t, rfl⟩ := r; exact ⟨n, t, rfl, rfl⟩
   | succ i =>
    obtain ⟨n', t, h1, h2⟩ := vals_int (i := i) rr (by simpa using e)
    exact ⟨n', t, by simpa using h1, h2⟩
theorem boot_sum' : bootBuiltins "sum" = some (.builtin "sum") := by decide +kernel
section
variable {X : Cx} {K : PySem.W.Frag} {e elt iter : Expr} {es ifs : List Expr} {te : TE} {tt : TT} {t : TA} {wi : TI} {pos p px py pz pt pt2 spos : Pos} {x y z : Str} {i j k : Nat} {kt kt2 : Nat} {scope : Scope}
theorem g_tup2 (hi : At X.N i x) (hj : At X.N j y) (hc : X.calm = true) (hN : X.N.Nodup) (hx : X.env.scope.names.lookup x = some .local) (hy : X.env.scope.names.lookup y = some .local)
 (h1 : (assignEach [.Name x px, .Name y py] X.env).map (·.2) = assign (.Name x px) X.env :: (assignEach [.Name y py] X.env).map (·.2))
 (h2 : (assignEach [.Name y py] X.env).map (·.2) = assign (.Name y py) X.env :: (assignEach [] X.env).map (·.2))
 (hn : (assignEach [.Name x px, .Name y py] X.env).length = 2) (hst : (assignEach [.Name x px, .Name y py] X.env).findIdx? (·.1) = none) : JG X (.Tuple [.Name x px, .Name y py] kt pt) (gTup X.K 2 (gCons (gName i) (gCons (gName j) gNil))) :=
 ⟨pg_tup hc (pgs_cons (pg_name hN hi.get (.inl hx) (.inr hx)) (pgs_cons (pg_name hN hj.get (.inl hy) (.inr hy)) pgs_nil h2) h1) hn hst⟩
end
section
variable {prog : Program} {w : World} {A : Around} {E : Value → Shared → Prop} {R : Result → Shared → Prop} {I S : Addr} {fp wr : List Addr} {n : Nat} {T : Nat → Value → Prop} {St : Nat → Heap → Prop} {Ok : Heap → Prop} {bt : Nat → Nat → Bool}
structure Cq (prog : Program) (w : World) (A : Around) (T : Nat → Value → Prop) (bt : Nat → Nat → Bool) (Ok : Heap → Prop) (wr : List Addr) : Prop where
 stay : ∀ h h', Ok h → (∀ b o, b ∉ wr → h.get? b = some o → h'.get? b = some o) → Ok h'
 lt : ∀ i j vi vj (s : Shared) (Q : Value → Shared → Prop) (E : Value → Shared → Prop), Ok s.heap → T i vi → T j vj → Q (.bool (bt i j)) s → wpAny (model prog w) A (richCompare .Lt vi vj) Q E s
abbrev scr (v : Value) (c : Nat) : Obj := { cls := .type "list", dict := none, data := .seq #[v, v] c, slots := #[] }
theorem minGo (W : Walks prog w A.in1 I fp wr n T St) (C : Cq prog w A.in1 T bt Ok (S :: wr)) (hSf : S ∉ fp) :
 ∀ (d j : Nat) (s : Shared) (v : Value) (c : Nat), n - (j + 1) = d → j + 1 ≤ n → St (j + 1) s.heap → Ok s.heap → T (argBest bt j) v → s.heap.get? S = some (scr v c) →
 (∀ v h' tk, T (argBest bt (n - 1)) v → (∀ b o, b ∉ S :: wr → s.heap.get? b = some o → h'.get? b = some o) → R (.ok (.ret v)) { s with heap := h', toks := tk }) → codeAny (model prog w) A (.builtin "min.loop" ⟨[.ref I, .none, .ref S], []⟩) R s := by
 have apart : S ∉ wr := fun h => hSf (W.sub _ h)
 have out : ∀ {q : Addr}, q ∉ S :: wr → S ≠ q ∧ q ∉ wr := fun h => by
  simp only [List.mem_cons, not_or] at h
  exact ⟨Ne.symm h.1, h.2⟩
 intro d
 induction d with
 | zero =>
  intro j s v c hd hj st ok hv hS go
  have last : j + 1 = n := by omega
  have quiet := Around.under_plainId (A := A) F.plain_min_loop
  apply codeAny_builtin F.entry_min_loop
  rw [quiet]
  have dn := fun {Q' : Option Value → Shared → Prop} {E' : Value → Shared → Prop} => W.done s Q' E' (last ▸ st)
  refine wpAny_bind (wpAny_seqItems hS rfl (wpAny_bind (wpAny_tryCatch (dn fun h1 tk1 k1 => ?_))))
  have hS1 := k1 S _ apart hS
  wp_walk using wpAny_updateSeq hS1 rfl, wpAny_letGo
  exact go v _ tk1 (last ▸ hv) fun q o hq e => (Heap.get?_update_other _ _ (out hq).1).trans (k1 q o (out hq).2 e)
 | succ d ih =>
  intro j s v c hd hj st ok hv hS go
  have more : j + 1 < n := by omega
  have quiet := Around.under_plainId (A := A) F.plain_min_loop
  apply codeAny_builtin F.entry_min_loop
  rw [quiet]
  have it := fun {Q' : Option Value → Shared → Prop} {E' : Value → Shared → Prop} => W.item (j + 1) s Q' E' more st
  refine wpAny_bind (wpAny_seqItems hS rfl (wpAny_bind (wpAny_tryCatch (it fun u h1 tk1 hu st1 k1 => ?_))))
  have hS1 := k1 S _ apart hS
  have ok1 : Ok h1 := C.stay _ _ ok fun q o hq e => k1 q o (out hq).2 e
  have cm := fun {Q' : Value → Shared → Prop} {E' : Value → Shared → Prop} => C.lt (j + 1) (argBest bt j) u v { s with heap := h1, toks := tk1 } Q' E' ok1 hu hv
  wp_walk using cm, wpAny_letGo
  refine wpAny_tryCatch (wpAny_holding (wpAny_bind (cm ?_)))
  wp_walk using wpAny_truthy_bool, wpAny_letGo
  have same : (toString "min" ++ toString ".loop" : String) = "min.loop" := by decide
  by_cases won : bt (j + 1) (argBest bt j) = true
  · have best : argBest bt (j + 1) = j + 1 := by simp [argBest, won]
    have kept : ∀ q o, q ∉ S :: wr → s.heap.get? q = some o → (h1.update S (Obj.mapSeq fun _ => #[u, u])).get? q = some o := fun q o hq e => (Heap.get?_update_other _ _ (out hq).1).trans (k1 q o (out hq).2 e)
    have st2 : St (j + 1 + 1) (h1.update S (Obj.mapSeq fun _ => #[u, u])) := W.frame _ h1 _ st1 fun q hq o e => (Heap.get?_update_other _ _ fun z : S = q => hSf (z ▸ hq)).trans e
    rw [if_pos won]
    refine wpAny_bind (wpAny_updateSeq hS1 rfl (wpAny_bind (wpAny_letGo ?_)))
    rw [same]
    refine wpAny_pure ⟨plainId_quiet F.plain_min_loop _, ?_⟩
    exact ih (j + 1) _ u _ (by omega) more st2 (C.stay _ _ ok kept) (by rw [best]; exact hu) (Heap.get?_update_self _ hS1 rfl) fun v' h' tk' a1 a2 => go v' h' tk' a1 fun q o hq e => a2 q o hq (kept q o hq e)
  · have best : argBest bt (j + 1) = argBest bt j := by simp [argBest, won]
    rw [if_neg won]
    refine wpAny_bind (wpAny_letGo ?_)
    rw [same]
    refine wpAny_pure ⟨plainId_quiet F.plain_min_loop _, ?_⟩
    exact ih (j + 1) _ v c (by omega) more st1 ok1 (by rw [best]; exact hv) hS1 fun v' h' tk' a1 a2 => go v' h' tk' a1 fun q o hq e => a2 q o hq (k1 q o (out hq).2 e)
end
section
variable {prog : Program} {w : World} {A : Around} {E : Value → Shared → Prop} {R : Result → Shared → Prop} {I : Addr} {fp wr : List Addr} {n : Nat} {T : Nat → Value → Prop} {St : Nat → Heap → Prop} {Ok : Heap → Prop} {bt : Nat → Nat → Bool}
theorem minStart {S : Addr} {s : Shared} {c : Nat} (W : Walks prog w A.in1 I fp wr n T St) (C : Cq prog w A.in1 T bt Ok (S :: wr)) (hSf : S ∉ fp) (hn : 0 < n) (st : St 0 s.heap) (ok : Ok s.heap)
 (hS : s.heap.get? S = some { cls := .type "list", dict := none, data := .seq #[] c, slots := #[] })
 (go : ∀ v h' tk, T (argBest bt (n - 1)) v → (∀ b o, b ∉ S :: wr → s.heap.get? b = some o → h'.get? b = some o) → R (.ok (.ret v)) { s with heap := h', toks := tk }) : codeAny (model prog w) A (.builtin "min.loop" ⟨[.ref I, .none, .ref S], []⟩) R s := by
 have apart : S ∉ wr := fun h => hSf (W.sub _ h)
 have out : ∀ {q : Addr}, q ∉ S :: wr → S ≠ q ∧ q ∉ wr := fun h => by
  simp only [List.mem_cons, not_or] at h
  exact ⟨Ne.symm h.1, h.2⟩
 have quiet := Around.under_plainId (A := A) F.plain_min_loop
 have same : (toString "min" ++ toString ".loop" : String) = "min.loop" := by decide
 have it := fun {Q' : Option Value → Shared → Prop} {E' : Value → Shared → Prop} => W.item 0 s Q' E' hn st
 have sq := fun {Q' : Option (Array Value) → Shared → Prop} => wpAny_seqItems (M := model prog w) (A := A.in1) (E := fun x s' => R (.error x) s') (Q := Q') hS rfl
 apply codeAny_builtin F.entry_min_loop
 rw [quiet]
 apply wpAny_bind
 apply sq
 apply wpAny_bind
 apply wpAny_tryCatch
 apply it
 intro u h1 tk1 hu st1 k1
 have hS1 := k1 S _ apart hS
 wp_walk using wpAny_updateSeq hS1 rfl, wpAny_letGo
 rw [same]
 have kept : ∀ q o, q ∉ S :: wr → s.heap.get? q = some o → (h1.update S (Obj.mapSeq fun _ => #[u, u])).get? q = some o := fun q o hq e => (Heap.get?_update_other _ _ (out hq).1).trans (k1 q o (out hq).2 e)
 have st2 : St (0 + 1) (h1.update S (Obj.mapSeq fun _ => #[u, u])) := W.frame _ h1 _ st1 fun q hq o e => (Heap.get?_update_other _ _ fun z : S = q => hSf (z ▸ hq)).trans e
 exact ⟨plainId_quiet F.plain_min_loop _, minGo W C hSf _ 0 _ u _ rfl hn st2 (C.stay _ _ ok kept) hu (Heap.get?_update_self _ hS1 rfl) fun v' h' tk' a1 a2 => go v' h' tk' a1 fun q o hq e => a2 q o hq (kept q o hq e)⟩
theorem minCall {x : Value} {s : Shared} {Q : Value → Shared → Prop}
 (h : wpAny (model prog w) A.in1 (pyIter x) (fun it s2 => ∃ I fp wr n T St bt Ok, it = .ref I ∧ Walks prog w A.in1 I fp wr n T St ∧ St 0 s2.heap ∧ Ok (s2.heap.push { cls := .type "list", data := .seq #[] }) ∧ (∀ b ∈ fp, b < s2.heap.objs.size) ∧ 0 < n ∧ Cq prog w A.in1 T bt Ok (s2.heap.objs.size :: wr) ∧
  ∀ v h' tk, T (argBest bt (n - 1)) v → (∀ b o, b ∉ wr → s2.heap.get? b = some o → h'.get? b = some o) → Q v { s2 with heap := h', toks := tk }) E s) : wpAny (model prog w) A (call (.builtin "min") [x]) Q E s := by
 have nam : (toString "min" ++ toString ".loop" : String) = "min.loop" := by decide
 refine call_function_tree F.kind_min F.plain_min F.entry_min (F.args_min1 _) ?_
 show wpAny _ A.in1 (Builtin.Builtins.bindParams "min" ["key", "default"] 0 ⟨[], []⟩ >>= _) _ _ s
 refine wpAny_bind (wpAny_of_eq (show Builtin.Builtins.bindParams "min" ["key", "default"] 0 ⟨[], []⟩ = pure [none, none] from rfl) (wpAny_bind (wpAny_pure (wpAny_bind (wpAny_mono h (fun it s2 h2 => ?_) fun _ _ e => e)))))
 obtain ⟨I, fp, wr, n, T, St, bt, Ok, rfl, W, st, ok, hfp, hn, C, go⟩ := h2
 refine wpAny_bind (wpAny_newObj_type ?_)
 have nS : s2.heap.objs.size ∉ fp := fun hm => Nat.lt_irrefl _ (hfp _ hm)
 rw [nam]
 refine wpAny_pure ⟨plainId_quiet F.plain_min_loop _, minStart W C nS hn (W.frame 0 _ _ st fun b _ o e => Heap.get?_push_of_some _ e) ok (Heap.get?_push_size _ rfl) fun v h' tk hv k => ?_⟩
 exact go v h' tk hv fun b o hb e => k b o (fun z => (List.mem_cons.mp z).elim (fun z => absurd (Heap.lt_size e) (by rw [z]; exact Nat.lt_irrefl _)) hb) (Heap.get?_push_of_some _ e)
end
def lexB (nss : List (List Int)) (i j : Nat) : Bool := HT.lexLt (nss.getD i []) (nss.getD j [])
def rMinT (K : PySem.W.Frag) : List V → Hp → VK → Prop := fun xs H Q => ∃ (p : Addr) (as : List Addr) (nss : List (List Int)), xs = [.ref p] ∧ SqL K H p (as.map V.ref) ∧ as.length = nss.length ∧ 0 < as.length ∧
 (∀ (i : Nat) (a : Addr) (ns : List Int), as[i]? = some a → nss[i]? = some ns → SqT K H a (ns.map V.int)) ∧ ∀ a : Addr, as[argBest (lexB nss) (as.length - 1)]? = some a → Q (.ref a) H
theorem vals_ref : ∀ {as : List Addr} {its : List Value} {i : Nat} {v : Value}, Vals (as.map V.ref) its → its[i]? = some v → ∃ a, as[i]? = some a ∧ v = .ref a
 | [], _, i, v, r, e => by cases r; simp at e
 | b :: bs, _, i, v, r, e => by
  cases r with
  | cons r rr =>
   cases i with
   | zero => simp at e; subst e; exact ⟨b, rfl, r⟩
   | succ i =>
    obtain ⟨b', h1, h2⟩ := vals_ref (i := i) rr (by simpa using e)
    exact ⟨b', by simpa using h1, h2⟩
theorem call_minT {X : Cx} {k : Nat} (hr : Room k X.A) (hc : X.calm = true) : CallR X (.builtin "min") (rMinT X.K) := by
 intro pins s σ H xs us Q I r h
 obtain ⟨p, as, nss, rfl, hq, hlen, hpos, ht, q⟩ := h
 obtain ⟨u, rfl, rx⟩ := vals1 r
 cases rx
 obtain ⟨its, r', pl, hz⟩ := I.list hq
 have hp : p < s.heap.objs.size := by obtain ⟨_, _, e, _⟩ := pl; exact Heap.lt_size e
 have hl : its.length = as.length := by rw [← r'.length, List.length_map]
 have hu : X.A.in1.units < cLine := by have := hr.un; show X.A.units + _ < _; omega
 refine minCall (wpAny_pyIter_list pl.isList ⟨s.heap.objs.size, _, _, _, _, _, lexB nss, fun h => ∀ (i : Nat) (a : Addr) (ns : List Int), as[i]? = some a → nss[i]? = some ns → ∃ ts, IsTup h a ts ∧ IntsAre ts.toList ns ∧ a < s.heap.objs.size, rfl,
  Walks.list (A := X.A.in1) (I.ok.hd hc) s.heap.objs.size p (Nat.ne_of_lt hp) its.toArray, ⟨⟨_, Heap.get?_push_size _ rfl, rfl, rfl⟩, pl.isList.at fun o e => Heap.get?_push_of_some _ e⟩, fun i a ns e1 e2 => ?_, fun b hb => ?_, by rw [List.size_toArray]; omega, ⟨fun h h' ok k i a ns e1 e2 => ?_, fun i j vi vj s' Q' E' ok e1 e2 hQ => ?_⟩, fun v h' tk e kp => ?_⟩)
 · obtain ⟨ts, rv, pt, _⟩ := I.tuple (ht i a ns e1 e2)
   obtain ⟨o, ho, hcl, hd⟩ := pt
   exact ⟨ts.toArray, ⟨o, Heap.get?_push_of_some _ (Heap.get?_push_of_some _ ho), hcl, hd⟩, intsAre_of rv, Heap.lt_size ho⟩
 · show b < (s.heap.push _).objs.size
   rw [Heap.size_push]
   rcases List.mem_cons.mp hb with e | hb
   · rw [e]; exact Nat.lt_succ_self _
   · rw [List.mem_singleton.mp hb]; exact Nat.lt_succ_of_lt hp
 · obtain ⟨ts, ⟨o, ho, hcl, hd⟩, hi, hlt⟩ := ok i a ns e1 e2
   refine ⟨ts, ⟨o, k _ _ (fun z => ?_) ho, hcl, hd⟩, hi, hlt⟩
   rcases List.mem_cons.mp z with z | z
   · rw [z] at hlt
     rw [Heap.size_push] at hlt
     exact absurd hlt (Nat.not_lt.mpr (Nat.le_succ _))
   · rw [List.mem_singleton.mp z] at hlt; exact absurd hlt (Nat.lt_irrefl _)
 · obtain ⟨a1, f1, rfl⟩ := vals_ref r' (by simpa using e1)
   obtain ⟨a2, f2, rfl⟩ := vals_ref r' (by simpa using e2)
   have hi1 : i < nss.length := by have := (List.getElem?_eq_some_iff.mp f1).1; omega
   have hi2 : j < nss.length := by have := (List.getElem?_eq_some_iff.mp f2).1; omega
   have g1 : nss[i]? = some nss[i] := List.getElem?_eq_getElem hi1
   have g2 : nss[j]? = some nss[j] := List.getElem?_eq_getElem hi2
   obtain ⟨t1, p1, n1, _⟩ := ok i a1 _ f1 g1
   obtain ⟨t2, p2, n2, _⟩ := ok j a2 _ f2 g2
   have hb : lexB nss i j = HT.lexLt nss[i] nss[j] := by
    unfold lexB
    rw [List.getD_eq_getElem?_getD, List.getD_eq_getElem?_getD, g1, g2]; rfl
   rw [hb] at hQ
   exact HT.lt_tupInts p1 p2 n1 n2 hu hQ
 · rw [List.size_toArray, hl] at e
   obtain ⟨a, f, rfl⟩ := vals_ref r' (by simpa using e)
   exact ⟨.ref a, H, I.kept fun b o q => kp b o (fun z => absurd (Heap.lt_size q) (by rw [List.mem_singleton.mp z]; exact Nat.lt_irrefl _)) (Heap.get?_push_of_some _ q), rfl, q a f⟩
def ltB (ns : List Int) (i j : Nat) : Bool := decide (ns.getD i 0 < ns.getD j 0)
structure GInt (mg : Str → Option Value) (x : Str) (n : Int) : Prop where
 is : ∃ t, mg x = some (.int n t)
section
variable {X : Cx} {K : PySem.W.Frag} {o e : Expr} {to : TE} {t : TA} {apos cpos pos p : Pos} {x : Str} {n : Int} {k : Nat}
theorem j_const (g : GInt X.mg x n) (hg : Gl X x) (hd : (x == ("__debug__" : Str)) = false) : JE X (.Name x pos) (tC (.int n)) := ⟨let ⟨t, h⟩ := g.is; pe_glob hg h ⟨t, rfl⟩ hd⟩
end
theorem argBest_le (bt : Nat → Nat → Bool) : ∀ n, argBest bt n ≤ n
 | 0 => Nat.le_refl _
 | n + 1 => by
  unfold argBest
  split
  · exact Nat.le_refl _
  · exact Nat.le_succ_of_le (argBest_le bt n)
theorem argBest_first (ns : List Int) : ∀ n, (∀ m, m ≤ n → ns.getD (argBest (ltB ns) n) 0 ≤ ns.getD m 0) ∧ ∀ m, m < argBest (ltB ns) n → ns.getD (argBest (ltB ns) n) 0 < ns.getD m 0
 | 0 => ⟨fun m hm => by have : m = 0 := by omega
                        subst this; exact Int.le_refl _, fun m hm => by simp [argBest] at hm⟩
 | n + 1 => by
  obtain ⟨h1, h2⟩ := argBest_first ns n
  have hl := argBest_le (ltB ns) n
  unfold argBest
  by_cases hb : ltB ns (n + 1) (argBest (ltB ns) n) = true
  · rw [if_pos hb]
    have hb' := of_decide_eq_true hb
    refine ⟨fun m hm => ?_, fun m hm => ?_⟩
    · by_cases z : m = n + 1
      · subst z; exact Int.le_refl _
      · have := h1 m (by omega); omega
    · have := h1 m (by omega); omega
  · rw [if_neg hb]
    have hb' : ¬ ns.getD (n + 1) 0 < ns.getD (argBest (ltB ns) n) 0 := fun z => hb (decide_eq_true z)
    refine ⟨fun m hm => ?_, h2⟩
    by_cases z : m = n + 1
    · subst z; omega
    · exact h1 m (by omega)
end Br
namespace Br
end Br
namespace Br
open PySem PySem.Spec PySem.Calls PyProof.Rows L2
def gtB (ns : List Int) (i j : Nat) : Bool := decide (ns.getD i 0 > ns.getD j 0)
theorem argBest_top (ns : List Int) : ∀ n m, m ≤ n → ns.getD m 0 ≤ ns.getD (argBest (gtB ns) n) 0
 | 0, m, hm => by have : m = 0 := by omega
                  subst this; exact Int.le_refl _
 | n + 1, m, hm => by
  have ih := argBest_top ns n
  unfold argBest
  by_cases hb : gtB ns (n + 1) (argBest (gtB ns) n) = true
  · rw [if_pos hb]
    have hb' := of_decide_eq_true hb
    by_cases z : m = n + 1
    · subst z; exact Int.le_refl _
    · have := ih m (by omega); omega
  · rw [if_neg hb]
    have hb' : ¬ ns.getD (n + 1) 0 > ns.getD (argBest (gtB ns) n) 0 := fun z => hb (decide_eq_true z)
    by_cases z : m = n + 1
    · subst z; omega
    · exact ih m (by omega)
section
variable {X : Cx} {K : PySem.W.Frag} {e : Expr} {t : TA} {pos p : Pos} {x : Str}
theorem c_isN : JCop X .Is (fun x y H Q => y = .non ∧ Q (.bl (decide (x = .non))) H) := ⟨op_isN⟩
end
structure CqX (prog : Program) (w : World) (A : Around) (T : Nat → Value → Prop) (bt : Nat → Nat → Bool) (Ok : Heap → Prop) (wr : List Addr) : Prop where
 stay : ∀ h h', Ok h → (∀ b o, b ∉ wr → h.get? b = some o → h'.get? b = some o) → Ok h'
 lt : ∀ i j vi vj (s : Shared) (Q : Value → Shared → Prop) (E : Value → Shared → Prop), Ok s.heap → T i vi → T j vj → Q (.bool (bt i j)) s → wpAny (model prog w) A (richCompare .Gt vi vj) Q E s
section
variable {prog : Program} {w : World} {A : Around} {E : Value → Shared → Prop} {R : Result → Shared → Prop} {I S : Addr} {fp wr : List Addr} {n : Nat} {T : Nat → Value → Prop} {St : Nat → Heap → Prop} {Ok : Heap → Prop} {bt : Nat → Nat → Bool} {kw : List (Str × Value)}
theorem maxGoK (W : Walks prog w A.in1 I fp wr n T St) (C : CqX prog w A.in1 T bt Ok (S :: wr)) (hSf : S ∉ fp) :
 ∀ (d j : Nat) (s : Shared) (v : Value) (c : Nat), n - (j + 1) = d → j + 1 ≤ n → St (j + 1) s.heap → Ok s.heap → T (argBest bt j) v → s.heap.get? S = some (scr v c) →
 (∀ v h' tk, T (argBest bt (n - 1)) v → (∀ b o, b ∉ S :: wr → s.heap.get? b = some o → h'.get? b = some o) → R (.ok (.ret v)) { s with heap := h', toks := tk }) → codeAny (model prog w) A (.builtin "max.loop" ⟨[.ref I, .none, .ref S], kw⟩) R s := by
 have apart : S ∉ wr := fun h => hSf (W.sub _ h)
 have out : ∀ {q : Addr}, q ∉ S :: wr → S ≠ q ∧ q ∉ wr := fun h => by
  simp only [List.mem_cons, not_or] at h
  exact ⟨Ne.symm h.1, h.2⟩
 intro d
 induction d with
 | zero =>
  intro j s v c hd hj st ok hv hS go
  have last : j + 1 = n := by omega
  have quiet := Around.under_plainId (A := A) F.plain_max_loop
  apply codeAny_builtin F.entry_max_loop
  rw [quiet]
  have dn := fun {Q' : Option Value → Shared → Prop} {E' : Value → Shared → Prop} => W.done s Q' E' (last ▸ st)
  refine wpAny_bind (wpAny_seqItems hS rfl (wpAny_bind (wpAny_tryCatch (dn fun h1 tk1 k1 => ?_))))
  have hS1 := k1 S _ apart hS
  wp_walk using wpAny_updateSeq hS1 rfl, wpAny_letGo
  exact go v _ tk1 (last ▸ hv) fun q o hq e => (Heap.get?_update_other _ _ (out hq).1).trans (k1 q o (out hq).2 e)
 | succ d ih =>
  intro j s v c hd hj st ok hv hS go
  have more : j + 1 < n := by omega
  have quiet := Around.under_plainId (A := A) F.plain_max_loop
  apply codeAny_builtin F.entry_max_loop
  rw [quiet]
  have it := fun {Q' : Option Value → Shared → Prop} {E' : Value → Shared → Prop} => W.item (j + 1) s Q' E' more st
  refine wpAny_bind (wpAny_seqItems hS rfl (wpAny_bind (wpAny_tryCatch (it fun u h1 tk1 hu st1 k1 => ?_))))
  have hS1 := k1 S _ apart hS
  have ok1 : Ok h1 := C.stay _ _ ok fun q o hq e => k1 q o (out hq).2 e
  have cm := fun {Q' : Value → Shared → Prop} {E' : Value → Shared → Prop} => C.lt (j + 1) (argBest bt j) u v { s with heap := h1, toks := tk1 } Q' E' ok1 hu hv
  wp_walk using cm, wpAny_letGo
  refine wpAny_tryCatch (wpAny_holding (wpAny_bind (cm ?_)))
  wp_walk using wpAny_truthy_bool, wpAny_letGo
  have same : (toString "max" ++ toString ".loop" : String) = "max.loop" := by decide
  by_cases won : bt (j + 1) (argBest bt j) = true
  · have best : argBest bt (j + 1) = j + 1 := by simp [argBest, won]
    have kept : ∀ q o, q ∉ S :: wr → s.heap.get? q = some o → (h1.update S (Obj.mapSeq fun _ => #[u, u])).get? q = some o := fun q o hq e => (Heap.get?_update_other _ _ (out hq).1).trans (k1 q o (out hq).2 e)
    have st2 : St (j + 1 + 1) (h1.update S (Obj.mapSeq fun _ => #[u, u])) := W.frame _ h1 _ st1 fun q hq o e => (Heap.get?_update_other _ _ fun z : S = q => hSf (z ▸ hq)).trans e
    rw [if_pos won]
    refine wpAny_bind (wpAny_updateSeq hS1 rfl (wpAny_bind (wpAny_letGo ?_)))
    rw [same]
    refine wpAny_pure ⟨plainId_quiet F.plain_max_loop _, ?_⟩
    exact ih (j + 1) _ u _ (by omega) more st2 (C.stay _ _ ok kept) (by rw [best]; exact hu) (Heap.get?_update_self _ hS1 rfl) fun v' h' tk' a1 a2 => go v' h' tk' a1 fun q o hq e => a2 q o hq (kept q o hq e)
  · have best : argBest bt (j + 1) = argBest bt j := by simp [argBest, won]
    rw [if_neg won]
    refine wpAny_bind (wpAny_letGo ?_)
    rw [same]
    refine wpAny_pure ⟨plainId_quiet F.plain_max_loop _, ?_⟩
    exact ih (j + 1) _ v c (by omega) more st1 ok1 (by rw [best]; exact hv) hS1 fun v' h' tk' a1 a2 => go v' h' tk' a1 fun q o hq e => a2 q o hq (k1 q o (out hq).2 e)
theorem maxStartK {s : Shared} {c : Nat} (W : Walks prog w A.in1 I fp wr n T St) (C : CqX prog w A.in1 T bt Ok (S :: wr)) (hSf : S ∉ fp) (hn : 0 < n) (st : St 0 s.heap) (ok : Ok s.heap)
 (hS : s.heap.get? S = some { cls := .type "list", dict := none, data := .seq #[] c, slots := #[] })
 (go : ∀ v h' tk, T (argBest bt (n - 1)) v → (∀ b o, b ∉ S :: wr → s.heap.get? b = some o → h'.get? b = some o) → R (.ok (.ret v)) { s with heap := h', toks := tk }) : codeAny (model prog w) A (.builtin "max.loop" ⟨[.ref I, .none, .ref S], kw⟩) R s := by
 have apart : S ∉ wr := fun h => hSf (W.sub _ h)
 have out : ∀ {q : Addr}, q ∉ S :: wr → S ≠ q ∧ q ∉ wr := fun h => by
  simp only [List.mem_cons, not_or] at h
  exact ⟨Ne.symm h.1, h.2⟩
 have quiet := Around.under_plainId (A := A) F.plain_max_loop
 have same : (toString "max" ++ toString ".loop" : String) = "max.loop" := by decide
 have it := fun {Q' : Option Value → Shared → Prop} {E' : Value → Shared → Prop} => W.item 0 s Q' E' hn st
 have sq := fun {Q' : Option (Array Value) → Shared → Prop} => wpAny_seqItems (M := model prog w) (A := A.in1) (E := fun x s' => R (.error x) s') (Q := Q') hS rfl
 apply codeAny_builtin F.entry_max_loop
 rw [quiet]
 apply wpAny_bind
 apply sq
 apply wpAny_bind
 apply wpAny_tryCatch
 apply it
 intro u h1 tk1 hu st1 k1
 have hS1 := k1 S _ apart hS
 wp_walk using wpAny_updateSeq hS1 rfl, wpAny_letGo
 rw [same]
 have kept : ∀ q o, q ∉ S :: wr → s.heap.get? q = some o → (h1.update S (Obj.mapSeq fun _ => #[u, u])).get? q = some o := fun q o hq e => (Heap.get?_update_other _ _ (out hq).1).trans (k1 q o (out hq).2 e)
 have st2 : St (0 + 1) (h1.update S (Obj.mapSeq fun _ => #[u, u])) := W.frame _ h1 _ st1 fun q hq o e => (Heap.get?_update_other _ _ fun z : S = q => hSf (z ▸ hq)).trans e
 exact ⟨plainId_quiet F.plain_max_loop _, maxGoK W C hSf _ 0 _ u _ rfl hn st2 (C.stay _ _ ok kept) hu (Heap.get?_update_self _ hS1 rfl) fun v' h' tk' a1 a2 => go v' h' tk' a1 fun q o hq e => a2 q o hq (kept q o hq e)⟩
theorem maxNoneK {s : Shared} {c : Nat} {dn : Str} {dv : Value} (W : Walks prog w A.in1 I fp wr 0 T St) (hSf : S ∉ fp) (st : St 0 s.heap)
 (hS : s.heap.get? S = some { cls := .type "list", dict := none, data := .seq #[] c, slots := #[] })
 (go : ∀ h' tk, (∀ b o, b ∉ S :: wr → s.heap.get? b = some o → h'.get? b = some o) → R (.ok (.ret dv)) { s with heap := h', toks := tk }) : codeAny (model prog w) A (.builtin "max.loop" ⟨[.ref I, .none, .ref S], [(dn, dv)]⟩) R s := by
 have quiet := Around.under_plainId (A := A) F.plain_max_loop
 have dn := fun {Q' : Option Value → Shared → Prop} {E' : Value → Shared → Prop} => W.done s Q' E' st
 have sq := fun {Q' : Option (Array Value) → Shared → Prop} => wpAny_seqItems (M := model prog w) (A := A.in1) (E := fun x s' => R (.error x) s') (Q := Q') hS rfl
 apply codeAny_builtin F.entry_max_loop
 rw [quiet]
 apply wpAny_bind
 apply sq
 apply wpAny_bind
 apply wpAny_tryCatch
 apply dn
 intro h1 tk1 k1
 wp_walk
 exact go h1 tk1 fun q o hq e => k1 q o (fun z => hq (List.mem_cons_of_mem _ z)) e
theorem args_maxD (a v : Value) : argsOk "max" ⟨[a], [(Str.ofString "default", v)]⟩ := by unfold argsOk; kernel_rfl
theorem maxCallD {x dv : Value} {s : Shared} {Q : Value → Shared → Prop}
 (h : wpAny (model prog w) A.in1 (pyIter x) (fun it s2 => ∃ I fp wr n T St, it = .ref I ∧ Walks prog w A.in1 I fp wr n T St ∧ St 0 s2.heap ∧ (∀ b ∈ fp, b < s2.heap.objs.size) ∧
  (0 < n → ∃ bt Ok, Ok (s2.heap.push { cls := .type "list", data := .seq #[] }) ∧ CqX prog w A.in1 T bt Ok (s2.heap.objs.size :: wr) ∧ ∀ v h' tk, T (argBest bt (n - 1)) v → (∀ b o, b ∉ wr → s2.heap.get? b = some o → h'.get? b = some o) → Q v { s2 with heap := h', toks := tk }) ∧
  (n = 0 → ∀ h' tk, (∀ b o, b ∉ wr → s2.heap.get? b = some o → h'.get? b = some o) → Q dv { s2 with heap := h', toks := tk })) E s) : wpAny (model prog w) A (call (.builtin "max") [x] [(Str.ofString "default", dv)]) Q E s := by
 have nam : (toString "max" ++ toString ".loop" : String) = "max.loop" := by decide
 refine kmk_tree F.kind_max F.plain_max F.entry_max (args_maxD _ _) ?_
 show wpAny _ A.in1 (Builtin.Builtins.bindParams "max" ["key", "default"] 0 ⟨[], [(Str.ofString "default", dv)]⟩ >>= _) _ _ s
 refine wpAny_bind (wpAny_of_eq (show Builtin.Builtins.bindParams "max" ["key", "default"] 0 ⟨[], [(Str.ofString "default", dv)]⟩ = pure [none, some dv] from rfl) (wpAny_bind (wpAny_pure (wpAny_bind (wpAny_mono h (fun it s2 h2 => ?_) fun _ _ e => e)))))
 obtain ⟨I, fp, wr, n, T, St, rfl, W, st, hfp, go1, go0⟩ := h2
 refine wpAny_bind (wpAny_newObj_type ?_)
 have nS : s2.heap.objs.size ∉ fp := fun hm => Nat.lt_irrefl _ (hfp _ hm)
 rw [nam]
 have off : ∀ {h' : Heap}, (∀ b o, b ∉ s2.heap.objs.size :: wr → (s2.heap.push { cls := .type "list", data := .seq #[] }).get? b = some o → h'.get? b = some o) → ∀ b o, b ∉ wr → s2.heap.get? b = some o → h'.get? b = some o := fun k b o hb e => k b o (fun z => (List.mem_cons.mp z).elim (fun z => absurd (Heap.lt_size e) (by rw [z]; exact Nat.lt_irrefl _)) hb) (Heap.get?_push_of_some _ e)
 by_cases hn : 0 < n
 · obtain ⟨bt, Ok, ok, C, go⟩ := go1 hn
   refine wpAny_pure ⟨plainId_quiet F.plain_max_loop _, maxStartK W C nS hn (W.frame 0 _ _ st fun b _ o e => Heap.get?_push_of_some _ e) ok (Heap.get?_push_size _ rfl) fun v h' tk hv k => ?_⟩
   exact go v h' tk hv (off k)
 · have hn0 : n = 0 := by omega
   subst hn0
   refine wpAny_pure ⟨plainId_quiet F.plain_max_loop _, maxNoneK W nS (W.frame 0 _ _ st fun b _ o e => Heap.get?_push_of_some _ e) (Heap.get?_push_size _ rfl) fun h' tk k => ?_⟩
   exact go0 rfl h' tk (off k)
end
def CallRD (X : Cx) (f : Value) (nm : Str) (r : List V → V → Hp → VK → Prop) : Prop :=
 ∀ (pins : List (Addr × Obj)) (s : Shared) (σ : L2.St) (H : Hp) (xs : List V) (us : List Value) (d : V) (dv : Value) (Q : VK), Inv X pins σ H s → Vals xs us → RelV d dv → r xs d H Q → wpAny (model X.prog X.w) X.A (call f us [(nm, dv)]) (EP X pins σ Q) X.xe s
def tCBd (r : List V → V → Hp → VK → Prop) (t : TA) (td : TE) : TE := fun σ H Q => t σ H fun vs H1 => td σ H1 fun d H2 => r vs d H2 Q
section
variable {X : Cx} {K : PySem.W.Frag} {r : List V → V → Hp → VK → Prop} {e dv : Expr} {es : List Expr} {t : TA} {td : TE} {pos p kp : Pos} {x nm : Str} {id : String}
theorem pe_callBD (hc : CallRD X (.builtin id) nm r) (hg : Gl X x) (hm : X.mg x = none) (hv : bootBuiltins x = some (.builtin id)) (ha : PA X (e :: es) t) (hd : PE X dv td) (hn : x ≠ "__name__" := by decide) (hdb : (x == ("__debug__" : Str)) = false := by decide)
 (he : backTo pos (starEach (e :: es) X.env) = (false, eval e X.env) :: backTo pos (starEach es X.env) := by rfl) (hpl : (backTo pos (starEach (e :: es) X.env)).any (·.1) = false := by rfl) :
 PE X (.Call (.Name x p) (e :: es) [⟨some nm, dv, kp⟩] pos) (tCBd r t td) := by
 intro pins s σ H Q I h
 refine wpAny_Call_Name_kw (ld_blt I hg hm hv ?_ hn hdb)
 refine callWith_kw (kws := [⟨some nm, dv, kp⟩]) (thn (ha pos pins s σ H _ I h) fun us s1 ⟨vs, H1, I1, r1, q1⟩ => kws_cons (thn (hd pins s1 σ H1 _ I1 q1) fun v s2 ⟨d, H2, I2, r2, q2⟩ => kws_nil ?_)) he hpl rfl rfl
 exact hc pins s2 σ H2 vs us d v Q I2 r1 r2 q2
theorem vals_ints : ∀ {ns : List Int} {vs : List Value}, Vals (ns.map V.int) vs → IntsAre vs ns
 | [], _, r => by cases r; exact .nil
 | n :: ns, _, r => by
  cases r with
  | cons r rr =>
   obtain ⟨t, rfl⟩ := r
   exact .cons n t (vals_ints rr)
def rDm : List V → Hp → VK → Prop := fun xs H Q => ∃ i j, xs = [.int i, .int j] ∧ CDivB i j ∧ ∀ p H2, H p = none → L2.Same H H2 → H2 p = some (.tup [.int (i / j), .int (i % j)]) → Q (.ref p) H2
theorem call_dm : CallR X (.builtin "divmod") rDm := by
 intro pins s σ H xs us Q I r h
 obtain ⟨i, j, rfl, hb, q⟩ := h
 obtain ⟨u, w', rfl, ⟨t, rfl⟩, ⟨t', rfl⟩⟩ := vals2 r
 refine divmod_int (Int.ne_of_gt hb.1) ?_ (.inl (PyProof.noPylong_of_log2 (log2_of hb.1 hb.2)))
 rw [Int.fdiv_eq_ediv_of_nonneg i (Int.le_of_lt hb.1), Int.fmod_eq_emod_of_nonneg i (Int.le_of_lt hb.1)]
 have hn : H s.heap.objs.size = none := I.hok.fresh (Nat.le_refl _)
 refine ⟨.ref s.heap.objs.size, _, ?_, rfl, q _ _ hn (Br.Same.upd hn) upd_same⟩
 refine I.laid (fun b o e => Heap.get?_push_of_some _ e) (Nat.le_refl _) ⟨by simp only [List.length_cons, List.length_nil]; rw [sizeLine_eq]; decide, [.int (i / j) s.toks, .int (i % j) (s.toks + 1)], .cons ⟨_, rfl⟩ (.cons ⟨_, rfl⟩ .nil), ?_⟩
 exact ⟨_, Heap.get?_push_size s.heap rfl, rfl, 0, rfl⟩
theorem boot_divmod' : bootBuiltins "divmod" = some (.builtin "divmod") := by decide +kernel
section
variable (hg : Gl X x) (he : starEach (e :: es) X.env = (false, eval e X.env) :: starEach es X.env) (hpl : (backTo pos (starEach es X.env)).any (·.1) = false)
include hg he hpl
theorem j_dm (hx : x = "divmod") (hm : X.mg x = none) (ha : JA X (e :: es) t) : JE X (.Call (.Name x p) (e :: es) [] pos) (tCB rDm t) := ⟨by subst hx; exact pe_callB call_dm hg hm boot_divmod' ha.h (by decide) (by decide) he hpl⟩
end
end
section
variable {X : Cx} {K : PySem.W.Frag}
theorem iter_seq {pins : List (Addr × Obj)} {s : Shared} {σ : L2.St} {H : Hp} {p : Addr} {ns : List Int} (hc : X.calm = true) (I : Inv X pins σ H s) (hq : SqL X.K H p (ns.map V.int) ∨ SqT X.K H p (ns.map V.int)) {Q : Value → Shared → Prop} {E : Value → Shared → Prop}
 (h : ∀ (T : String) (its : List Value) (St : Nat → Heap → Prop), its.length = ns.length → (∀ (i : Nat) (v : Value), its.toArray[i]? = some v → ∃ t, v = Value.int (ns.getD i 0) t) →
  Walks X.prog X.w X.A.in1 s.heap.objs.size [s.heap.objs.size, p] [s.heap.objs.size] its.toArray.size (fun i v => its.toArray[i]? = some v) St → St 0 (s.heap.push { cls := .type T, data := .fields #[.ref p, .int 0 0] }) → p < s.heap.objs.size →
  Q (.ref s.heap.objs.size) { s with heap := s.heap.push { cls := .type T, data := .fields #[.ref p, .int 0 0] } }) : wpAny (model X.prog X.w) X.A.in1 (pyIter (.ref p)) Q E s := by
 rcases hq with hq | hq
 · obtain ⟨its, r', pl, hz⟩ := I.list hq
   have hp : p < s.heap.objs.size := by obtain ⟨_, _, e, _⟩ := pl; exact Heap.lt_size e
   have hl : its.length = ns.length := by rw [← r'.length, List.length_map]
   exact wpAny_pyIter_list pl.isList (h "list_iterator" its _ hl (fun i v e => by
    obtain ⟨n, t, h1, h2⟩ := vals_int r' (by simpa using e)
    exact ⟨t, by rw [h2, List.getD_eq_getElem?_getD, h1]; rfl⟩) (Walks.list (A := X.A.in1) (I.ok.hd hc) s.heap.objs.size p (Nat.ne_of_lt hp) its.toArray) ⟨⟨_, Heap.get?_push_size _ rfl, rfl, rfl⟩, pl.isList.at fun o e => Heap.get?_push_of_some _ e⟩ hp)
 · obtain ⟨its, r', pl, hz⟩ := I.tuple hq
   have pl' : s.heap.IsTuple p its.toArray := pl
   have hp : p < s.heap.objs.size := by obtain ⟨_, e, _⟩ := pl; exact Heap.lt_size e
   have hl : its.length = ns.length := by rw [← r'.length, List.length_map]
   exact wpAny_pyIter_tuple pl' (h "tuple_iterator" its _ hl (fun i v e => by
    obtain ⟨n, t, h1, h2⟩ := vals_int r' (by simpa using e)
    exact ⟨t, by rw [h2, List.getD_eq_getElem?_getD, h1]; rfl⟩) (Walks.tuple (A := X.A.in1) (I.ok.hd hc) s.heap.objs.size p (Nat.ne_of_lt hp) its.toArray) ⟨⟨_, Heap.get?_push_size _ rfl, rfl, rfl⟩, pl'.at fun o e => Heap.get?_push_of_some _ e⟩ hp)
theorem fp_lt {s : Shared} {p : Addr} {o : Obj} (hp : p < s.heap.objs.size) : ∀ b ∈ [s.heap.objs.size, p], b < (s.heap.push o).objs.size := fun b hb => by
 rw [Heap.size_push]
 rcases List.mem_cons.mp hb with e | hb
 · rw [e]; exact Nat.lt_succ_self _
 · rw [List.mem_singleton.mp hb]; exact Nat.lt_succ_of_lt hp
theorem kp_of {s : Shared} {o : Obj} {h' : Heap} (kp : ∀ b o', b ∉ [s.heap.objs.size] → (s.heap.push o).get? b = some o' → h'.get? b = some o') : ∀ b o', s.heap.get? b = some o' → h'.get? b = some o' := fun b o' q => kp b o' (fun z => absurd (Heap.lt_size q) (by rw [List.mem_singleton.mp z]; exact Nat.lt_irrefl _)) (Heap.get?_push_of_some _ q)
def rSumS (K : PySem.W.Frag) : List V → Hp → VK → Prop := fun xs H Q => ∃ (p : Addr) (ns : List Int), xs = [.ref p] ∧ (SqL K H p (ns.map V.int) ∨ SqT K H p (ns.map V.int)) ∧ Q (.int ns.sum) H
theorem call_sumS (hc : X.calm = true) : CallR X (.builtin "sum") (rSumS X.K) := by
 intro pins s σ H xs us Q I r h
 obtain ⟨p, ns, rfl, hq, q⟩ := h
 obtain ⟨u, rfl, rx⟩ := vals1 r
 cases rx
 refine call_sum_walkAnyS (iter_seq hc I hq fun T its St hl hval W st hp => ⟨s.heap.objs.size, _, _, _, _, _, _, fun i => ns.getD i 0, rfl, W.toS, st, fp_lt hp, fun i v e => hval i v e, fun s' t' hm => ?_⟩)
 rw [List.size_toArray, hl, preSum_take ns _ (Nat.le_refl _), List.take_length]
 have hk : ∀ b o, s.heap.get? b = some o → s'.heap.get? b = some o := fun b o e => hm.heap b o (fun hI => absurd (Heap.lt_size e) (by rw [List.mem_singleton.mp hI]; exact Nat.lt_irrefl _)) (Heap.get?_push_of_some _ e)
 rw [Moved.eq_with hm]
 exact ⟨.int ns.sum, H, I.kept hk, ⟨t', rfl⟩, q⟩
def rMinS (K : PySem.W.Frag) : List V → Hp → VK → Prop := fun xs H Q => ∃ (p : Addr) (ns : List Int), xs = [.ref p] ∧ (SqL K H p (ns.map V.int) ∨ SqT K H p (ns.map V.int)) ∧ 0 < ns.length ∧ ∀ v : Int, v ∈ ns → (∀ x ∈ ns, v ≤ x) → Q (.int v) H
theorem call_minS (hc : X.calm = true) : CallR X (.builtin "min") (rMinS X.K) := by
 intro pins s σ H xs us Q I r h
 obtain ⟨p, ns, rfl, hq, hpos, q⟩ := h
 obtain ⟨u, rfl, rx⟩ := vals1 r
 cases rx
 refine call_min_walk (iter_seq hc I hq fun T its St hl hval W st hp => ⟨s.heap.objs.size, _, _, _, _, _, _, rfl, W, st, fp_lt hp, by rw [List.size_toArray]; omega, CmpOf.ints_lt (fun i => ns.getD i 0) hval, fun v h' tk e kp => ?_⟩)
 rw [List.size_toArray, hl] at e
 obtain ⟨t, rfl⟩ := hval _ _ e
 have hle : argBest (ltB ns) (ns.length - 1) < ns.length := by have := argBest_le (ltB ns) (ns.length - 1); omega
 refine ⟨.int (ns.getD (argBest (ltB ns) (ns.length - 1)) 0), H, I.kept (kp_of kp), ⟨t, rfl⟩, q _ ?_ fun x hx => ?_⟩
 · rw [List.getD_eq_getElem?_getD, List.getElem?_eq_getElem hle]; exact List.getElem_mem hle
 · obtain ⟨i, hi, rfl⟩ := List.getElem_of_mem hx
   have := (argBest_first ns (ns.length - 1)).1 i (by omega)
   have e2 : ns.getD i 0 = ns[i] := by rw [List.getD_eq_getElem?_getD, List.getElem?_eq_getElem hi]; rfl
   rw [e2] at this
   exact this
def rCatTA (K : PySem.W.Frag) : R2 := fun x y H Q => ∃ a b xs ys, x = .ref a ∧ y = .ref b ∧ SqT K H a xs ∧ SqT K H b ys ∧ xs.length + ys.length ≤ sizeLine ∧ ∀ p H2, L2.Same H H2 → SqT K H2 p (xs ++ ys) → Q (.ref p) H2
theorem op_catTA : OpR X (binaryOp .Add) (rCatTA X.K) := fun pins s σ H x y v u Q I rx ry h => by
 obtain ⟨a, b, xs, ys, e1, e2, h1, h2, hz, q⟩ := h
 by_cases hx : xs = []
 · subst e1; subst e2; subst hx
   cases rx; cases ry
   obtain ⟨its, r1, p1, _⟩ := I.tuple h1
   obtain ⟨its2, r2, p2, _⟩ := I.tuple h2
   have hv : its = [] := r1.nil_iff.mpr rfl
   obtain ⟨⟨cls, dd, data, sl⟩, ho, hc, n, hd⟩ := id p1
   obtain ⟨⟨cls2, dd2, data2, sl2⟩, ho2, hc2, n2, hd2⟩ := id p2
   simp only at hc hd hc2 hd2
   subst hc hd hc2 hd2
   exact concat_meets ⟨_, ho, rfl⟩ ⟨_, ho2, rfl⟩ noFill_tuple_add seq_tuple_add PySem.F.slot_tuple_add PySem.F.entry_tuple_add (PySem.F.args_tuple_add_2 _ _)
    (tuple_addW0 a b its.toArray its2.toArray n n2 dd dd2 sl sl2 (by simp [hv])) ⟨ho, ho2, ⟨.ref b, H, I, rfl, q b H (L2.Same.refl _) h2⟩⟩
 · exact op_catTS pins s σ H x y v u Q I rx ry ⟨a, b, xs, ys, e1, e2, h1, h2, hx, hz, q⟩
end
section
variable {X : Cx} {K : PySem.W.Frag} {a b c e o : Expr} {es : List Expr} {ta tb tc te to : TE} {t : TA} {pos p apos cpos : Pos} {x : Str} {k : Nat} {op op' : CmpOp} {r r' : R2}
theorem k_addA (hK : X.K = K) : JOp X .Add (fun x y H Q => rI0 (fun i j => .int (i + j)) x y H Q ∨ rCatS x y H Q ∨ rCatTA K x y H Q) := hK ▸ ⟨op_add.or (op_catS.or op_catTA)⟩
section
variable (hg : Gl X x) (he : starEach (e :: es) X.env = (false, eval e X.env) :: starEach es X.env) (hpl : (backTo pos (starEach es X.env)).any (·.1) = false)
include hg he hpl
theorem k_sumS (hK : X.K = K) (hx : x = "sum") (hc : X.calm = true) (hm : X.mg x = none) (ha : JA X (e :: es) t) : JE X (.Call (.Name x p) (e :: es) [] pos) (tCB (rSumS K) t) := hK ▸ ⟨by subst hx; exact pe_callB (call_sumS hc) hg hm boot_sum' ha.h (by decide) (by decide) he hpl⟩
end
theorem k_minS (hK : X.K = K) (hr : Room k X.A) (hg : Gl X x) (he : starEach [e] X.env = (false, eval e X.env) :: starEach [] X.env) (hpl : (backTo pos (starEach [] X.env)).any (·.1) = false) (hx : x = "min") (hc : X.calm = true) (hm : X.mg x = none) (ha : JA X [e] t) :
 JE X (.Call (.Name x p) [e] [] pos) (tCB (fun xs H Q => rMinS K xs H Q ∨ rMinT K xs H Q) t) := hK ▸ ⟨by subst hx; exact pe_callB ((call_minS hc).or (call_minT hr hc)) hg hm boot_min ha.h (by decide) (by decide) he hpl⟩
theorem j_chain (hm : lastMarks [op, op'] [b, c] = false) (ho : JCop X op r) (ho' : JCop X op' r') (ha : JE X a ta) (hb : JE X b tb) (hc : JE X c tc) : JE X (.Compare a [op, op'] [b, c] pos) (tChain r r' ta tb tc) := ⟨pe_chain ho.h ho'.h ha.h hb.h hc.h hm⟩
theorem u_chain (hm : lastMarks [op, op'] [b, c] = false) (ho : JCop X op r) (ho' : JCop X op' r') (ha : JE X a ta) (hb : JE X b tb) (hc : JE X c tc) : JT X (.Compare a [op, op'] [b, c] pos) (tTest (tChain r r' ta tb tc)) := ⟨pt_chain ho.h ho'.h ha.h hb.h hc.h hm⟩
def rRepS : R2 := fun x y H Q => ∃ l k xs, x = .ref l ∧ y = .int k ∧ H l = some (.lst xs) ∧ -(2 ^ 63) ≤ k ∧ k < 2 ^ 63 ∧ xs.length * k.toNat ≤ sizeLine ∧ ∀ p H2, H p = none → L2.Same H H2 → H2 p = some (.lst (List.replicate k.toNat xs).flatten) → Q (.ref p) H2
theorem op_repS : OpR X (binaryOp .Mult) rRepS := fun pins s σ H x y v u Q I rx ry h => by
 obtain ⟨l, k, xs, e1, e2, h1, h2, h3, h4, q⟩ := h
 exact op_rep pins s σ H x y v u Q I rx ry ⟨l, k, xs, e1, e2, h1, h2, h3, h4, fun p hp => q p _ hp (Br.Same.upd hp) upd_same⟩
theorem j_repL (ha : JE X (.List es p) ta) (hb : JE X b tb) : JE X (.BinOp (.List es p) .Mult b pos) (tOp rRepS ta tb) := ⟨r_bin op_repS ha.h hb.h⟩
theorem u_cmpM (hm : lastMarks [op] [b] = false) (ho : JCop X op r) (ha : JE X a ta) (hb : JE X b tb) : JT X (.Compare a [op] [b] pos) (tTest (tOp r ta tb)) := ⟨pt_cmpR ho.h ha.h hb.h hm⟩
theorem k_extend (hK : X.K = K) (hbase : attributeBase o "extend" X.env (eval o X.env) = eval o X.env) (hfew : ((backTo cpos (starEach [e] X.env)).all (fun x => !x.1) && (backToKw cpos (keywordEach [] X.env)).all (fun x => x.1.isSome)
 && decide (([e] : List Expr).length + ([] : List Keyword).length + (if ([] : List Keyword).isEmpty then 0 else 1) < 30)) = true) (hline : (apos.endLine == cpos.line) = true) (hs : starEach [e] X.env = (false, eval e X.env) :: starEach [] X.env)
 (hpl : (backTo cpos (starEach [] X.env)).any (·.1) = false) (ho : JE X o to) (ha : JA X [e] t) : JE X (.Call (.Attribute o "extend" apos) [e] [] cpos) (tBM K "list" rExtend to t) :=
 hK ▸ ⟨pe_bm PySem.F.plainAttrs_list PySem.F.slot_list_extend PySem.F.type_list_extend mt_extend ho.h ha.h hbase hfew hline hs hpl⟩
end
structure RoomH (k : Nat) (A : Around) : Prop where
 dp : A.depth + 3 * k + 5 < recursionLimit
 un : A.units + 16 * k + 200 < cLine
section
variable {X : Cx} {op : CmpOp}
theorem c_isnotN : JCop X .IsNot (fun x y H Q => y = .non ∧ Q (.bl (!decide (x = .non))) H) := ⟨op_notN⟩
end
end Br
namespace Br
namespace ZL
open PySem PySem.Spec PySem.Calls PyProof.Rows L2
theorem entry_li : entryFor table "list_iterator.__next__" = some Builtin.«list_iterator.__next__» := by rfl
theorem args_li (a : Value) : argsOk "list_iterator.__next__" { pos := [a] } := by first | rfl | decide +kernel | exact ⟨rfl⟩ | (constructor <;> rfl)
theorem slot_li : Slot "list_iterator" (Str.ofString "__next__") "list_iterator.__next__" := Slot.of (by rw [typeLookup_type, builtinLookup_eq_fast]; rfl) (by rfl) (by rfl) (by rfl) (.inl (by rfl)) (by rw [isSubtype_type]; rfl)
section
variable {prog : Program} {w : World} {A : Around} {E : Value → Shared → Prop} {s : Shared}
theorem tstep {c d : Addr} {k : Nat} {zs : Array Value} {v : Value} {Q : Value → Shared → Prop} (hI : s.heap.IsListIter c d k) (hT : s.heap.IsList d zs) (hv : zs[k]? = some v)
 (go : ∀ g, g.IsListIter c d (k + 1) → Heap.SameBut c s.heap g → Q v { s with heap := g }) : wpAny (model prog w) A (Builtin.«list_iterator.__next__» ⟨[.ref c], []⟩) (fun fin s' => ∃ u, fin = .done (.ret u) ∧ Q u s') E s := by
 have hI' := hI
 obtain ⟨oc, q1, q2, q3⟩ := hI'
 have hT' := hT
 obtain ⟨od, p1, _, nd, p3⟩ := hT'
 have at_ : zs[((k : Nat) : Int).toNat]? = some v := by simpa using hv
 wp_walk using wpAny_field q1 q3 (x := .ref d) rfl, wpAny_field q1 q3 (x := .int k 0) rfl, wpAny_seqItems p1 p3
 rw [at_]
 refine wpAny_bind (tsetAt q1 q3 (by simp) fun g o' a1 a2 a3 sb => ?_)
 wp_walk
 exact ⟨_, rfl, go g ⟨o', a1, a2.trans q2, by rw [a3]; simp [rawInt]⟩ sb⟩
theorem tstop {c d : Addr} {k : Nat} {zs : Array Value} {Q : PySem.Fin → Shared → Prop} (hh : A.handled = none) (hI : s.heap.IsListIter c d k) (hT : s.heap.IsList d zs) (hv : zs[k]? = none)
 (go : ∀ g e, Heap.ExtBut c s.heap g → (∃ o, g.get? e = some o ∧ o.cls = .type "StopIteration") → E (.ref e) { s with heap := g }) : wpAny (model prog w) A (Builtin.«list_iterator.__next__» ⟨[.ref c], []⟩) Q E s := by
 have hI' := hI
 obtain ⟨oc, q1, q2, q3⟩ := hI'
 have hT' := hT
 obtain ⟨od, p1, _, nd, p3⟩ := hT'
 have at_ : zs[((k : Nat) : Int).toNat]? = none := by simpa using hv
 wp_walk using wpAny_field q1 q3 (x := .ref d) rfl, wpAny_field q1 q3 (x := .int k 0) rfl, wpAny_seqItems p1 p3
 rw [at_]
 refine wpAny_bind (wpAny_rule (wpAny_bind (tsetAt q1 q3 (by simp) fun g o' a1 a2 a3 sb => ?_)))
 wp_walk
 unfold raiseNew
 wp_walk using wpAny_handled
 rw [hh]
 wp_walk
 exact go _ _ ((sb.extBut.push _).push _) ⟨_, Heap.get?_push_size _ rfl, rfl⟩
theorem tnext {c d : Addr} {k : Nat} {zs : Array Value} {v : Value} {Q : Value → Shared → Prop} (hI : s.heap.IsListIter c d k) (hT : s.heap.IsList d zs) (hv : zs[k]? = some v)
 (go : ∀ g, g.IsListIter c d (k + 1) → Heap.SameBut c s.heap g → Q v { s with heap := g }) : wpAny (model prog w) A (Builtin.SmallTypes.nextOf (.ref c)) Q E s := by
 have sl := slot_li
 unfold Builtin.SmallTypes.nextOf
 refine wpAny_bind (wpAny_callSpecial?_slot (name := Str.ofString "__next__") hI.typeIs sl (wpAny_call_entry sl hI.typeIs entry_li ?_ (args_li _)))
 exact wpAny_mono (tstep (Q := fun u s' => u = v ∧ Q v s') hI hT hv fun g a b => ⟨rfl, go g a b⟩) (fun fin s' ⟨u, e, e2, q⟩ => ⟨u, e, wpAny_pure (e2 ▸ q)⟩) fun _ _ z => z
theorem tnone {c d : Addr} {k : Nat} {zs : Array Value} {Q : Value → Shared → Prop} (hh : A.handled = none) (hI : s.heap.IsListIter c d k) (hT : s.heap.IsList d zs) (hv : zs[k]? = none)
 (go : ∀ g e, Heap.ExtBut c s.heap g → (∃ o, g.get? e = some o ∧ o.cls = .type "StopIteration") → E (.ref e) { s with heap := g }) : wpAny (model prog w) A (Builtin.SmallTypes.nextOf (.ref c)) Q E s := by
 have sl := slot_li
 unfold Builtin.SmallTypes.nextOf
 refine wpAny_bind (wpAny_callSpecial?_slot (name := Str.ofString "__next__") hI.typeIs sl (wpAny_call_entry sl hI.typeIs entry_li ?_ (args_li _)))
 exact tstop hh hI hT hv go
end
theorem sqL_apart {X : Cx} {pins : List (Addr × Obj)} {σ : L2.St} {H : Hp} {s : Shared} {d b : Addr} {xs : List V} (I : Inv X pins σ H s) (h : SqL X.K H d xs) (f : FpOk X pins H b) : d ≠ b := fun z => by
 subst z
 rcases h with h | ⟨o, its, n, hk, _⟩
 · rcases h with h | ⟨o, h⟩
   · rw [f.1] at h; cases h
   · rw [f.1] at h; cases h
 · have e := I.ok.mod.kin d o hk
   rcases f.2.2.2.1 with z | z
   · exact I.ok.noex d o e z
   · exact absurd (Nat.lt_of_lt_of_le (Heap.lt_size e) (Nat.le_trans I.ok.bsz z)) (Nat.lt_irrefl _)
end ZL
end Br
namespace Br
open PySem PySem.Spec PySem.Calls PyProof.Rows L2
theorem tl_keys : typeLookup (.type "tuple") (Str.ofString "keys") = pure none := by rw [typeLookup_type, builtinLookup_eq_fast]; rfl
theorem ti_ga {s : Shared} : s.TypeIs (.builtin "tuple.__getattribute__") "wrapper_descriptor" := by first | rfl | decide +kernel | exact ⟨rfl⟩ | (constructor <;> rfl)
theorem noKeys {prog : Program} {w : World} {A : Around} {E : Value → Shared → Prop} {s : Shared} {t : Addr} {xs : Array Value} {n : Nat} {Q : Option Value → Shared → Prop} (hh : A.handled = none) (ho : s.heap.get? t = some { cls := .type "tuple", data := .seq xs n })
 (go : ∀ h' tk, (∀ b o, s.heap.get? b = some o → h'.get? b = some o) → Q none { s with heap := h', toks := tk }) : wpAny (model prog w) A (getAttr? (.ref t) (Str.ofString "keys")) Q E s := by
 obtain ⟨hp, g, dr, tk, os⟩ := s
 have ho : hp.get? t = some { cls := .type "tuple", data := .seq xs n } := ho
 unfold getAttr?
 refine wpAny_bind (wpAny_mkText ?_)
 unfold getAttrBy?
 refine wpAny_bind (wpAny_attempt ?_)
 unfold getAttrBy
 refine wpAny_holding ?_
 refine wpAny_bind (wpAny_typeOf (T := "tuple") ⟨_, ho, rfl⟩ ?_)
 rw [F.slot_tuple_getattribute.lookup]
 refine wpAny_bind (wpAny_pure ?_)
 show wpAny _ _ (if _ then _ else _) _ _ _
 rw [if_neg (by decide)]
 unfold getAttrByItsOwn
 wp_walk
 unfold bindSpecial
 refine wpAny_bind (wpAny_typeOf (T := "wrapper_descriptor") ti_ga ?_)
 show wpAny _ _ (if _ then _ else _) _ _ _
 rw [if_pos (by decide)]
 refine wpAny_pure ?_
 show wpAny _ _ (call (.builtin "tuple.__getattribute__") [.ref t, _]) _ _ _
 refine wpAny_call_entry F.slot_tuple_getattribute ⟨_, ho, rfl⟩ am_entry_tuple_getattribute ?_ (F.args_tuple_getattribute_2 _ _)
 show wpAny _ _ (Builtin.ObjectAttr.attrName _ >>= _) _ _ _
 refine wpAny_bind ?_
 wp_walk
 rw [tl_keys]
 wp_walk
 refine wpAny_raiseAttrError (A := A.in1) hh fun h' tk' e ne => ?_
 have hT : ∃ ob, h'.get? e = some ob ∧ ob.cls = .type "AttributeError" := let ⟨_, _, a⟩ := ne.there; ⟨_, a, rfl⟩
 show wpAny _ _ (getattributeRaised _ _ _ _ _ _ _) _ _ _
 unfold getattributeRaised
 refine wpAny_bind (wpAny_isInstance (T := "AttributeError") (b := true) hT (by rw [isSubtype_type]; rfl) ?_)
 rw [if_pos rfl]
 unfold hookBehind
 rw [if_neg (by decide), F.plainAttrs_tuple.noGetattr]
 refine wpAny_bind (wpAny_pure ?_)
 unfold hookOrError
 unfold attributeErrorLeaves
 show wpAny _ _ (if (!false) = true then throw _ >>= _ else _) _ _ _
 rw [if_pos (show (!false) = true from rfl)]
 refine wpAny_bind (wpAny_throw ?_)
 refine wpAny_bind (wpAny_isInstance (T := "AttributeError") (b := true) hT (by rw [isSubtype_type]; rfl) ?_)
 rw [if_pos rfl]
 exact wpAny_pure (go h' tk' ne.keeps)
theorem entry_dul : entryFor table "dict.update.loop" = some Builtin.«dict.update.loop» := by rfl
theorem plain_dul : plainId "dict.update.loop" = true := by decide +kernel
section
variable {prog : Program} {w : World} {A : Around} {E : Value → Shared → Prop} {R : Result → Shared → Prop}
structure Prs (h : Heap) (t : Addr) (ps : List (Addr × Value × Key × Value)) : Prop where
 tup : h.IsTuple t (ps.map fun p => Value.ref p.1).toArray
 each : ∀ p ∈ ps, h.IsTuple p.1 #[p.2.1, p.2.2.2]
theorem Prs.stay {h h' : Heap} {t : Addr} {ps : List (Addr × Value × Key × Value)} (P : Prs h t ps) {d c : Addr} (ntd : t ≠ d) (ntc : t ≠ c) (hpn : ∀ p ∈ ps, p.1 ≠ d ∧ p.1 ≠ c) (k : ∀ b o, b ≠ d → b ≠ c → h.get? b = some o → h'.get? b = some o) : Prs h' t ps :=
 ⟨let ⟨o, a, b⟩ := P.tup; ⟨o, k _ _ ntd ntc a, b⟩, fun p hp => let ⟨o, a, b⟩ := P.each p hp; ⟨o, k _ _ (hpn p hp).1 (hpn p hp).2 a, b⟩⟩
theorem dulGo {d c t : Addr} {ps : List (Addr × Value × Key × Value)} (hh : A.handled = none) (ndc : d ≠ c) (ntd : t ≠ d) (ntc : t ≠ c) (hpn : ∀ p ∈ ps, p.1 ≠ d ∧ p.1 ≠ c) (hk : ∀ p ∈ ps, (mixKind prog w).is p.2.2.1 p.2.1 = true) (result : Value) :
 ∀ (m i : Nat) (s : Shared) (vs : List (Key × Value)), ps.length - i = m → i ≤ ps.length → s.heap.IsTupleIter c t i → Prs s.heap t ps → s.heap.DictOf (mixKind prog w) d vs → vs.length + (ps.length - i) ≤ sizeLine →
 (∀ h' tk, h'.DictOf (mixKind prog w) d ((ps.drop i).foldl (fun a p => stored a p.2.2.1 p.2.2.2) vs) → (∀ b o, b ≠ d → b ≠ c → s.heap.get? b = some o → h'.get? b = some o) → R (.ok (.ret result)) { s with heap := h', toks := tk }) →
 codeAny (model prog w) A (.builtin "dict.update.loop" ⟨[.ref d, .ref c, rawInt i, result], []⟩) R s := by
 intro m
 induction m with
 | zero =>
  intro i s vs hm hi st P D hl go
  have e : i = ps.length := by omega
  subst e
  refine codeAny_builtin entry_dul ?_
  rw [Around.under_plainId plain_dul _]
  show wpAny _ A.in1 (pyNext (.ref c) >>= _) _ _ s
  refine wpAny_bind (wpAny_pyNext_tuple_end (A := A.in1) hh st P.tup (by simp) fun h' eb => ?_)
  show wpAny _ _ (Builtin.Dict.addKeywords d [] >>= _) _ _ _
  refine wpAny_bind (wpAny_pure (a := ()) (wpAny_pure ?_))
  have k : ∀ b o, b ≠ d → b ≠ c → s.heap.get? b = some o → h'.get? b = some o := fun b o _ hb q => eb b o hb q
  refine go h' _ ?_ k
  rw [List.drop_length]
  obtain ⟨o, es, ep, q, r⟩ := D
  exact ⟨o, es, ep, eb _ _ ndc q, r⟩
 | succ m ih =>
  intro i s vs hm hi st P D hl go
  have hlt : i < ps.length := by omega
  obtain ⟨p, hp⟩ : ∃ p, ps[i]? = some p := ⟨_, List.getElem?_eq_getElem hlt⟩
  have hpm := List.mem_of_getElem? hp
  refine codeAny_builtin entry_dul ?_
  rw [Around.under_plainId plain_dul _]
  show wpAny _ A.in1 (pyNext (.ref c) >>= _) _ _ s
  refine wpAny_bind (wpAny_pyNext_tuple_item st P.tup (x := .ref p.1) (by simp [hp]) fun h1 st1 sb1 => ?_)
  have k1 : ∀ b o, b ≠ d → b ≠ c → s.heap.get? b = some o → h1.get? b = some o := fun b o _ hb q => (sb1.2 b hb).trans q
  have P1 := P.stay ntd ntc hpn k1
  have D1 : h1.DictOf (mixKind prog w) d vs := let ⟨o, es, ep, q, r⟩ := D; ⟨o, es, ep, (sb1.2 d ndc).trans q, r⟩
  obtain ⟨op, hop, hcp, np, hdp⟩ := P1.each p hpm
  refine wpAny_bind (wpAny_holding (wpAny_bind (wpAny_tryCatch ?_)))
  unfold Builtin.Dict.pairItems
  refine wpAny_bind (wpAny_typeOf (T := "tuple") ⟨op, hop, hcp⟩ ?_)
  show wpAny _ _ (if _ then _ else _) _ _ _
  rw [if_pos (by decide)]
  refine wpAny_bind (wpAny_seqItems hop hdp (wpAny_pure ?_))
  show wpAny _ _ (holding [p.2.1, p.2.2.2] (dictSet d p.2.1 p.2.2.2)) _ _ _
  refine wpAny_holding (wpAny_dictSet_pairs (knd := mixKind prog w) (k := p.2.2.1) (hk p hpm) D1 (fun h2 D2 sb2 => ?_) (by omega))
  have k2 : ∀ b o, b ≠ d → b ≠ c → s.heap.get? b = some o → h2.get? b = some o := fun b o hd hc q => (sb2.2 b hd).trans (k1 b o hd hc q)
  have ei : ((i : Int) + 1) = ((i + 1 : Nat) : Int) := by omega
  show wpAny _ _ (again (.builtin "dict.update.loop" ⟨[.ref d, .ref c, rawInt ((i : Int) + 1), result], []⟩)) _ _ _
  rw [ei]
  have hsl : (stored vs p.2.2.1 p.2.2.2).length ≤ vs.length + 1 := by
   unfold stored; split
   · rw [List.length_map]; omega
   · rw [List.length_append]; simp
  refine wpAny_pure ⟨plainId_quiet plain_dul _, ih (i + 1) _ _ (by omega) (by omega) ?_ (P.stay ntd ntc hpn k2) D2 (by omega) fun h' tk D' k' => ?_⟩
  · obtain ⟨o, q, r⟩ := st1
    exact ⟨o, (sb2.2 c (Ne.symm ndc)).trans q, r⟩
  · refine go h' tk ?_ fun b o hd hc q => k' b o hd hc (k2 b o hd hc q)
    have : ps.drop i = p :: ps.drop (i + 1) := by
     rw [List.drop_eq_getElem_cons hlt]
     congr 1
     exact Option.some.inj ((List.getElem?_eq_getElem hlt).symm.trans hp)
    rw [this, List.foldl_cons]
    exact D'
theorem dict_of {s : Shared} {t : Addr} {ps : List (Addr × Value × Key × Value)} {n : Nat} {Q : Value → Shared → Prop} (hh : A.handled = none) (ho : s.heap.get? t = some { cls := .type "tuple", data := .seq (ps.map fun p => Value.ref p.1).toArray n }) (P : Prs s.heap t ps)
 (hk : ∀ p ∈ ps, (mixKind prog w).is p.2.2.1 p.2.1 = true) (hl : ps.length ≤ sizeLine)
 (go : ∀ h' tk, h'.DictOf (mixKind prog w) s.heap.objs.size (ps.foldl (fun a p => stored a p.2.2.1 p.2.2.2) []) → (∀ b o, s.heap.get? b = some o → h'.get? b = some o) → Q (.ref s.heap.objs.size) { s with heap := h', toks := tk }) :
 wpAny (model prog w) A (call (.type "dict") [.ref t]) Q E s := by
 refine callType_codes F.kt_called_dict (F.kt_typeCall_dict_1 _) F.entry_dict_init (kt_code_dict_new (.ref t) (Q₁ := fun obj s1 => obj = .ref s.heap.objs.size ∧ s1 = { s with heap := s.heap.push { cls := .type "dict", data := .dict #[] } }) ⟨rfl, rfl⟩) fun obj s1 e => ?_
 obtain ⟨rfl, rfl⟩ := e
 have hd0 : (s.heap.push { cls := .type "dict", data := .dict #[] }).get? s.heap.objs.size = some _ := Heap.get?_push_size _ rfl
 refine ⟨⟨_, hd0, rfl⟩, F.args_dict_init_2 _ _, ?_⟩
 have k0 : ∀ b o, s.heap.get? b = some o → (s.heap.push { cls := .type "dict", data := .dict #[] }).get? b = some o := fun b o q => Heap.get?_push_of_some _ q
 show wpAny _ _ (Builtin.Dict.selfAndRest "__init__" _ >>= _) _ _ _
 unfold Builtin.Dict.selfAndRest
 refine wpAny_bind (wpAny_bind ?_)
 unfold Builtin.Dict.notOrdered
 rw [if_pos (by decide)]
 refine wpAny_bind (wpAny_typeOf (T := "dict") ⟨_, hd0, rfl⟩ ?_)
 rw [if_neg (by decide)]
 refine wpAny_pure ?_
 show wpAny _ _ (Builtin.Dict.addrOf (.ref s.heap.objs.size) >>= _) _ _ _
 refine wpAny_bind (wpAny_pure (wpAny_pure ?_))
 show wpAny _ _ (Builtin.Dict.updateFrom "dict.__init__" s.heap.objs.size (.ref t) [] .none) _ _ _
 unfold Builtin.Dict.updateFrom
 refine wpAny_bind (wpAny_typeOf (T := "tuple") ⟨_, k0 _ _ ho, rfl⟩ ?_)
 rw [if_pos (by decide)]
 refine wpAny_bind (noKeys hh (k0 _ _ ho) fun h1 tk1 k1 => ?_)
 rw [if_pos (show (none : Option Value).isNone = true from rfl)]
 have hit : h1.IsTuple t (ps.map fun p => Value.ref p.1).toArray := ⟨_, k1 _ _ (k0 _ _ ho), rfl, n, rfl⟩
 refine wpAny_bind (wpAny_rule (wpAny_bind (wpAny_pyIter_tuple hit ?_)))
 have lt0 : s.heap.objs.size < h1.objs.size := Heap.lt_size (k1 _ _ hd0)
 have ht : t < s.heap.objs.size := Heap.lt_size ho
 have hpa : ∀ p ∈ ps, p.1 < s.heap.objs.size := fun p hp => let ⟨o, q, _⟩ := P.each p hp; Heap.lt_size q
 have kk : ∀ b o, s.heap.get? b = some o → (h1.push { cls := .type "tuple_iterator", data := .fields #[.ref t, .int 0 0] }).get? b = some o := fun b o q => Heap.get?_push_of_some _ (k1 _ _ (k0 _ _ q))
 refine wpAny_pure ⟨plainId_quiet plain_dul _, dulGo (A := A.in1) (c := h1.objs.size) (t := t) (ps := ps) (show A.in1.handled = none from hh) (Nat.ne_of_lt lt0) (Nat.ne_of_lt ht) (Nat.ne_of_lt (Nat.lt_trans ht lt0)) (fun p hp => ⟨Nat.ne_of_lt (hpa p hp), Nat.ne_of_lt (Nat.lt_trans (hpa p hp) lt0)⟩) hk .none ps.length 0 _ [] (by omega) (by omega)
  ⟨_, Heap.get?_push_size _ rfl, rfl, rfl⟩ ⟨let ⟨o, a, b⟩ := P.tup; ⟨o, kk _ _ a, b⟩, fun p hp => let ⟨o, a, b⟩ := P.each p hp; ⟨o, kk _ _ a, b⟩⟩ ?_ (by simpa using hl) fun h' tk D' k' => ⟨rfl, go h' tk D' fun b o q => k' b o (Nat.ne_of_lt (Heap.lt_size q)) (Nat.ne_of_lt (Nat.lt_trans (Heap.lt_size q) lt0)) (kk b o q)⟩⟩
 obtain ⟨o, es, ep, q, r⟩ := Heap.DictOf.new (knd := mixKind prog w) s.heap
 exact ⟨o, es, ep, Heap.get?_push_of_some _ (k1 _ _ q), r⟩
end
def bareT (o : Obj) : Prop := ∃ its n, o = { cls := .type "tuple", data := .seq its n }
section
variable {X : Cx} {pins : List (Addr × Obj)} {σ : L2.St} {H : Hp} {s : Shared}
def PairsF (H : Hp) (t : Addr) (kvs : List (Key × V)) : Prop := ∃ (o : Obj) (as : List Addr), bareT o ∧ H t = some (.frz o (.tup (as.map V.ref))) ∧ as.length = kvs.length ∧ kvs.length ≤ 1000 ∧ ∀ (i : Nat) a kv, as[i]? = some a → kvs[i]? = some kv → Rd H a (.tup [kV kv.1, kv.2])
def rDictP : List V → Hp → VK → Prop := fun xs H Q => ∃ t kvs, xs = [.ref t] ∧ PairsF H t kvs ∧ ∀ p H2, H p = none → L2.Same H H2 → H2 p = some (.dK (mergeK [] kvs)) → Q (.ref p) H2
theorem raw_pairs (I : Inv X pins σ H s) : ∀ (as : List Addr) (kvs : List (Key × V)), as.length = kvs.length → (∀ (i : Nat) a kv, as[i]? = some a → kvs[i]? = some kv → Rd H a (.tup [kV kv.1, kv.2])) →
 ∃ ps : List (Addr × Value × Key × Value), ps.map (fun p => Value.ref p.1) = as.map Value.ref ∧ (∀ p ∈ ps, s.heap.IsTuple p.1 #[p.2.1, p.2.2.2]) ∧ (∀ p ∈ ps, (mixKind X.prog X.w).is p.2.2.1 p.2.1 = true) ∧ KV kvs (ps.map fun p => (p.2.2.1, p.2.2.2))
 | [], [], _, _ => ⟨[], rfl, fun p hp => (nomatch hp), fun p hp => (nomatch hp), .nil⟩
 | a :: as, kv :: kvs, hl, h => by
  obtain ⟨ps, e1, e2, e3, e4⟩ := raw_pairs I as kvs (by simpa using hl) fun i a kv q1 q2 => h (i + 1) a kv (by simpa using q1) (by simpa using q2)
  have ha := h 0 a kv rfl rfl
  obtain ⟨its, rv, p, _⟩ := I.tuple (show SqT X.K H a _ from .inl ha)
  cases rv with
  | @cons _ ku _ _ rk rr =>
   cases rr with
   | @cons _ vu _ _ rv rr =>
    cases rr
    refine ⟨(a, ku, kv.1, vu) :: ps, by rw [List.map_cons, List.map_cons, e1], fun q hq => ?_, fun q hq => ?_, ?_⟩
    · rcases List.mem_cons.mp hq with rfl | hq
      · exact p
      · exact e2 q hq
    · rcases List.mem_cons.mp hq with rfl | hq
      · exact kV_is rk
      · exact e3 q hq
    · exact .cons ⟨rfl, rv⟩ e4
theorem fold_merge : ∀ (ps : List (Addr × Value × Key × Value)) (vs : List (Key × Value)), ps.foldl (fun a p => stored a p.2.2.1 p.2.2.2) vs = merged vs (ps.map fun p => (p.2.2.1, p.2.2.2))
 | [], vs => rfl
 | p :: ps, vs => by rw [List.foldl_cons, fold_merge ps]; rfl
theorem call_dictP (hc : X.calm = true) : CallR X (.type "dict") rDictP := fun pins s σ H xs us Q I r h => by
 obtain ⟨t, kvs, rfl, ⟨o, as, ⟨its, n, rfl⟩, ht, hl, hk, hp⟩, q⟩ := h
 obtain ⟨u, rfl, rx⟩ := vals1 r
 cases rx
 obtain ⟨ps, e1, e2, e3, e4⟩ := raw_pairs I as kvs hl hp
 have hsz : (sizeLine : Nat) = 16777216 := sizeLine_eq
 obtain ⟨g0, hz, its', rv, pt⟩ := (show ObjOk X.prog X.w H s.heap t (.frz { cls := .type "tuple", data := .seq its n } (.tup (as.map V.ref))) from I.hok t _ ht)
 have hits : its = its'.toArray := by
  obtain ⟨o2, h1, _, n2, h3⟩ := pt
  rw [g0] at h1; cases h1
  injection h3 with h3
 have hvr : its' = as.map Value.ref := by
  have go : ∀ (as : List Addr) (l : List Value), Vals (as.map V.ref) l → l = as.map Value.ref := by
   intro as
   induction as with
   | nil => intro l r; cases r; rfl
   | cons a as ih =>
    intro l r
    cases r with
    | cons h t => rw [ih _ t, List.map_cons]; cases h; rfl
  exact go as its' rv
 have hpl : ps.length = kvs.length := by have := congrArg List.length e1; rw [List.length_map, List.length_map] at this; omega
 have g1 : s.heap.get? t = some { cls := .type "tuple", data := .seq (ps.map fun p => Value.ref p.1).toArray n } := by rw [e1, ← hvr, ← hits]; exact g0
 refine dict_of (I.ok.hd hc) g1 ⟨⟨_, g1, rfl, _, rfl⟩, e2⟩ e3 (by omega) fun h' tk D k => ?_
 rw [fold_merge] at D
 have lm := length_mergeK kvs []
 rw [List.length_nil] at lm
 exact ⟨.ref s.heap.objs.size, _, I.laid (a := s.heap.objs.size) (o := .dK (mergeK [] kvs)) (t' := tk) k (Nat.le_refl _) (dk_new (by omega) (beq_eq_false_iff_ne.mpr (Ne.symm (Nat.ne_of_lt I.big))) (e4.merge .nil) D), rfl, q _ _ (I.hok.fresh (Nat.le_refl _)) (Br.Same.upd (I.hok.fresh (Nat.le_refl _))) upd_same⟩
theorem boot_dict' : bootBuiltins "dict" = some (.type "dict") := by decide +kernel
end
section
variable {X : Cx} {e : Expr} {es : List Expr} {t : TA} {pos p : Pos} {x : Str}
theorem j_dictP (hg : Gl X x) (he : starEach (e :: es) X.env = (false, eval e X.env) :: starEach es X.env) (hpl : (backTo pos (starEach es X.env)).any (·.1) = false) (hx : x = "dict") (hc : X.calm = true) (hm : X.mg x = none) (ha : JA X (e :: es) t) :
 JE X (.Call (.Name x p) (e :: es) [] pos) (tCB rDictP t) := ⟨by subst hx; exact pe_callTy (call_dictP hc) hg hm boot_dict' ha.h (by decide) (by decide) he hpl⟩
end
def Iti (o : Obj) (a : Addr) (kvs : List (Key × V)) : It :=
 ⟨fun i H => H a = some (.frz o (.dK kvs)) ∧ i < kvs.length,
  fun i H v H' => ∃ (kv : Key × V) (T : Addr), kvs[i]? = some kv ∧ v = .ref T ∧ H T = none ∧ H' = upd H T (.tup [kV kv.1, kv.2]),
  fun i H => H a = some (.frz o (.dK kvs)) ∧ kvs.length ≤ i⟩
theorem entry_ii : entryFor table "dict_itemiterator.__iter__" = some Builtin.«dict_keyiterator.__iter__» :=
 entryFor_alias (id (Eq.refl (fastTable "dict_itemiterator.__iter__"))) (Eq.refl ("dict_itemiterator.__iter__".cutAt '#')) (by first | rfl | decide +kernel) (id (Eq.refl (fastTable "dict_keyiterator.__iter__")))
theorem pyIter_ii {prog : Program} {w : World} {A : Around} {E : Value → Shared → Prop} {s : Shared} {it d : Addr} {i n ep : Nat} {ok ov : Value} {Q : Value → Shared → Prop} (hit : IsItemIter s.heap it d i n ep ok ov) (h : Q (.ref it) s) : wpAny (model prog w) A (pyIter (.ref it)) Q E s := by
 have hT : s.TypeIs (.ref it) "dict_itemiterator" := ⟨_, hit, rfl⟩
 exact wpAny_pyIter_slot hT F.slot_dict_itemiterator_iter (wpAny_call_entry F.slot_dict_itemiterator_iter hT entry_ii
  (id (wpAny_pure ⟨.ref it, rfl, "dict_itemiterator", .builtin "dict_itemiterator.__next__", hT, F.slot_dict_itemiterator_next.lookup, h⟩)) (F.args_dict_itemiterator_iter_1 _))
theorem kvGet {kvs : List (Key × V)} {vs : List (Key × Value)} (r : KV kvs vs) : ∀ {i : Nat} {kv : Key × V}, kvs[i]? = some kv → ∃ v, vs[i]? = some (kv.1, v) ∧ RelV kv.2 v := by
 unfold KV at r
 induction r with
 | nil => intro i kv h; simp at h
 | @cons p q ps qs h t ih =>
  intro i kv e
  cases i with
  | zero =>
   simp at e; subst e
   obtain ⟨q1, q2⟩ := q
   obtain ⟨h1, h2⟩ := h
   have h1 : p.1 = q1 := h1
   exact ⟨q2, by rw [h1]; rfl, h2⟩
  | succ i =>
   obtain ⟨v, a, b⟩ := ih (i := i) (kv := kv) (by simpa using e)
   exact ⟨v, by simpa using a, b⟩
theorem is_rel {P : Program} {w : World} {k : Key} {u : Value} (h : (mixKind P w).is k u = true) : RelV (kV k) u := by
 rcases keyIs_shape h with ⟨i, t, rfl, rfl⟩ | ⟨x, t, rfl, rfl⟩
 · exact ⟨t, rfl⟩
 · exact ⟨t, rfl⟩
theorem frz_at {P : Program} {w : World} {H : Hp} {h : Heap} {a : Addr} {o : Obj} {kvs : List (Key × V)} {es : Array DictEntry} {ep : Nat} (he : o.data = .dict es ep) (ok : HOk P w H h) (e : H a = some (.frz o (.dK kvs))) : ∃ vs, KV kvs vs ∧ h.DictAt (mixKind P w) a vs ep := by
 obtain ⟨g, _, _, vs, r, o', es', ep', q, ex, dt, rest⟩ := (show ObjOk P w H h a (.frz o (.dK kvs)) from ok a _ e)
 rw [g] at q; cases q
 have e2 := dt
 rw [he] at e2
 injection e2 with _ e2
 subst e2
 exact ⟨vs, r, o, es', g, ex, dt, rest⟩
theorem turn_items {P : Program} {w : World} {K : PySem.W.Frag} {es : List Expr} {kt : Nat} {pt : Pos} {it a : Addr} {o : Obj} {kvs : List (Key × V)} {ds : Array DictEntry} {ep : Nat} (he : o.data = .dict ds ep) :
 Turn P w K (.Tuple es kt pt) (Iti o a kvs) [it] it (fun i h => ∃ ok ov, IsItemIter h it a i kvs.length ep ok ov) where
 mem := by simp
 obj := fun i h st b hb => by
  obtain ⟨ok, ov, h1⟩ := st
  rw [List.mem_singleton.mp hb]
  exact ⟨_, h1, fun v q => by cases q⟩
 keep := fun i h h' st k => by
  obtain ⟨ok, ov, h1⟩ := st
  exact ⟨ok, ov, k _ (by simp) _ h1⟩
 item := by
  intro X hP hw hK hc i pins s σ H E I hf st hg
  subst hP hw hK
  obtain ⟨ok, ov, h1⟩ := st
  obtain ⟨hg, hi⟩ := hg
  obtain ⟨vs, rel, da⟩ := frz_at he I.hok hg
  obtain ⟨kv, hkv⟩ : ∃ kv, kvs[i]? = some kv := ⟨_, List.getElem?_eq_getElem hi⟩
  obtain ⟨v', hv', rx⟩ := kvGet rel hkv
  rw [rel.length] at h1
  refine wpAny_pyNext_items_item (knd := mixKind X.prog X.w) h1 da hv' fun key g hkey z1 T1 sz kp => ?_
  refine ⟨_, rfl, wpAny_letOwnedTupleGo_items z1 fun g' z2 k2 => ?_⟩
  have hfr : H s.heap.objs.size = none := I.hok.fresh (Nat.le_refl _)
  have zl : it < s.heap.objs.size := Heap.lt_size h1
  have all : ∀ b ob, b ∉ [it] → s.heap.get? b = some ob → g'.get? b = some ob := fun b ob hb q => by
   have hb : b ≠ it := fun z => hb (by rw [z]; simp)
   exact k2.extBut _ _ hb (kp b ob hb q)
  have T' : IsPair g' s.heap.objs.size key v' := k2.extBut _ _ (Nat.ne_of_gt zl) T1
  have trk : ∀ b v, H b = some v → b ∉ [it] := fun b v q hb => by rw [(hf b hb).1] at q; cases q
  have I1 : Inv X pins σ (upd H s.heap.objs.size (.tup [kV kv.1, kv.2])) { s with heap := g' } := by
   refine I.step (g' := s.gens) (d' := s.drawn) (t' := s.toks) (ch := [it]) (fun b hb => ?_) (fun b ob _ _ hb q _ => all b ob hb q) (fun b ob _ _ hb q _ => ⟨ob.slots, all b ob hb q⟩) (fun b ob hb q n => ?_) (fun b ob hb q => ⟨ob, all b ob hb q⟩)
    (fun b v q => ?_) (fun b v v' q => ?_) (fun b v q => ⟨#[], ?_⟩) (fun m hm => ?_) (fun b v q => ?_) I.bare
   · obtain ⟨f0, f1, f2, f3, f4, f5⟩ := hf b hb
     exact ⟨f3, f1, f4, f5⟩
   · rw [upd_ne (Nat.ne_of_lt (Heap.lt_size q))]; exact n
   · rw [upd_ne (ne_of_none q hfr)]; exact q
   · rw [upd_ne (ne_of_none q hfr)]; exact q
   · rw [upd_ne (ne_of_none q hfr), q]; simp
   · obtain ⟨ob, es, ep, ho, r⟩ := hm
     exact ⟨ob, es, ep, all _ ob (fun hb => (hf _ hb).2.1 rfl) ho, r⟩
   · by_cases hcT : b = s.heap.objs.size
     · subst hcT
       rw [upd_same] at q; cases q
       exact ⟨by show 2 ≤ sizeLine; decide, [key, v'], .cons (is_rel hkey) (.cons rx .nil), ⟨_, T', rfl, _, rfl⟩⟩
     · rw [upd_ne hcT] at q
       refine (I.hok b v q).stay (fun c' ob hc' q' => all c' ob ?_ q') (fun c' q' => by rw [upd_ne (ne_of_none q' hfr)]; exact q') fun c' vs q' => by rw [upd_ne (ne_of_none q' hfr)]; exact q'
       rcases hc' with z | z
       · rw [z]; exact trk b v q
       · exact trk c' _ z
  refine ⟨.ref s.heap.objs.size, _, I1, rfl, ⟨kv, _, hkv, rfl, hfr, rfl⟩, ⟨_, _, by rw [rel.length]; exact z2⟩, fun b hb => ?_⟩
  rw [List.mem_singleton.mp hb, upd_ne (Nat.ne_of_lt zl)]; exact (hf it (by simp)).1
 done := by
  intro X hP hw hK hc i pins s σ H E I hf st hg
  subst hP hw hK
  obtain ⟨ok, ov, h1⟩ := st
  obtain ⟨hg, hi⟩ := hg
  obtain ⟨vs, rel, da⟩ := frz_at he I.hok hg
  have hl := rel.length
  rw [rel.length] at h1
  refine wpAny_pyNext_items_end (I.ok.hd hc) h1 da (List.getElem?_eq_none (by omega)) fun g kp => ⟨rfl, ?_⟩
  have all : ∀ b ob, b ∉ [it] → s.heap.get? b = some ob → g.get? b = some ob := fun b ob hb q => kp b ob (fun z => hb (by rw [z]; simp)) q
  have trk : ∀ b v, H b = some v → b ∉ [it] := fun b v q hb => by rw [(hf b hb).1] at q; cases q
  refine I.step (g' := s.gens) (d' := s.drawn) (t' := s.toks) (ch := [it]) (fun b hb => ?_) (fun b ob _ _ hb q _ => all b ob hb q) (fun b ob _ _ hb q _ => ⟨ob.slots, all b ob hb q⟩) (fun b ob hb q n => n) (fun b ob hb q => ⟨ob, all b ob hb q⟩)
   (fun b v q => q) (fun b v v' q => q) (fun b v q => ⟨#[], by rw [q]; simp⟩) (fun m hm => ?_) (fun b v q => ?_) I.bare
  · obtain ⟨f0, f1, f2, f3, f4, f5⟩ := hf b hb
    exact ⟨f3, f1, f4, f5⟩
  · obtain ⟨ob, es, ep, ho, r⟩ := hm
    exact ⟨ob, es, ep, all _ ob (fun hb => (hf _ hb).2.1 rfl) ho, r⟩
  · refine (I.hok b v q).stay (fun c' ob hc' q' => all c' ob ?_ q') (fun c' q' => q') fun c' vs q' => q'
    rcases hc' with z | z
    · rw [z]; exact trk b v q
    · exact trk c' _ z
 self := fun _ _ _ _ _ st h => by obtain ⟨_, _, h1⟩ := st; exact pyIter_ii h1 h
structure M0 (X : Cx) (o : Expr) (m : Str) (apos : Pos) (cpos : Pos) : Prop where
 base : attributeBase o m X.env (eval o X.env) = eval o X.env
 few : ((backTo cpos (starEach [] X.env)).all (fun x => !x.1) && (backToKw cpos (keywordEach [] X.env)).all (fun x => x.1.isSome)
  && decide (([] : List Expr).length + ([] : List Keyword).length + (if ([] : List Keyword).isEmpty then 0 else 1) < 30)) = true
 line : (apos.endLine == cpos.line) = true
 trees : backTo cpos (starEach [] X.env) = []
def iItems (td : TE) : TI := fun σ H R => td σ H fun x H1 => ∃ a kvs, x = .ref a ∧ H1 a = some (.dK kvs) ∧ ∀ o H2, H2 = upd H1 a (.frz o (.dK kvs)) → R (Iti o a kvs) H2
theorem pi_items {X : Cx} {es : List Expr} {kt : Nat} {pt : Pos} {o : Expr} {td : TE} {apos cpos : Pos} (ho : PE X o td) (m : M0 X o "items" apos cpos) : PI X (.Tuple es kt pt) (.Call (.Attribute o "items" apos) [] [] cpos) (iItems td) := by
 intro pins s σ H R I h
 refine wpAny_Call_method m.base m.few m.line PySem.F.plainAttrs_dict PySem.F.slot_dict_items PySem.F.type_dict_items (thn (ho pins s σ H _ I h) fun u s1 ⟨x, H1, I1, rx, a, kvs, ex, e, q1⟩ => ?_)
 subst ex
 obtain rfl : u = Value.ref a := rx
 obtain ⟨t1, t2, t3⟩ := isD_at I1 (.inl ⟨kvs, .inl e⟩)
 refine ⟨t1, t2, ?_⟩
 rw [m.trees]
 obtain ⟨z, hd, vs, rel, dd⟩ := dk_of I1.hok e
 refine Calls.callWith_builtin rfl (PySem.evalArgs_none ?_)
 refine call_meetsIn PySem.F.slot_dict_items t1 PySem.F.entry_dict_items (PySem.F.args_dict_items_1 _) (meets_dict_items (mixKind X.prog X.w) a t3) ⟨⟨vs, dd⟩, ?_⟩
 obtain ⟨ob, ds, ep, g, ex, dt, rest⟩ := dd
 have gp : ∀ (h : Heap) b o', h.get? b = some o' → ∀ n, (h.push n).get? b = some o' := fun h b o' q n => Heap.get?_push_of_some _ q
 have al := Heap.lt_size g
 refine wpAny_pyIter_items (knd := mixKind X.prog X.w) (kvs := vs) (ep := ep) ⟨_, Heap.get?_push_size _ rfl, rfl, rfl⟩ ⟨ob, ds, gp _ _ _ g _, ex, dt, rest⟩ ?_
 have I2 := I1.kept (t' := s1.toks) (h' := ((s1.heap.push { cls := .type "dict_items", data := .fields #[.ref a] }).push { cls := .type "dict_itemiterator", data := .fields #[.none, .bool false, .ref a, .int 0 0, .int vs.length 0, .int ep 0, .none, .none] })) fun b o' q => gp _ _ _ (gp _ _ _ q _) _
 have I3 := I2.write (x := a) (e := a) (o := .frz ob (.dK kvs)) (t' := s1.toks) (h' := ((s1.heap.push { cls := .type "dict_items", data := .fields #[.ref a] }).push { cls := .type "dict_itemiterator", data := .fields #[.none, .bool false, .ref a, .int 0 0, .int vs.length 0, .int ep 0, .none, .none] })) (by rw [e]; exact True.intro) (.inl rfl) (fun b u _ q => q) ⟨ob, gp _ _ _ (gp _ _ _ g _) _⟩ ⟨gp _ _ _ (gp _ _ _ g _) _, z, hd, vs, rel, ob, ds, ep, gp _ _ _ (gp _ _ _ g _) _, ex, dt, rest⟩
 have sz : (s1.heap.push { cls := .type "dict_items", data := .fields #[.ref a] }).objs.size = s1.heap.objs.size + 1 := Heap.size_push ..
 refine ⟨(s1.heap.push { cls := .type "dict_items", data := .fields #[.ref a] }).objs.size, [_], _, _, _, rfl, I3, turn_items dt, ⟨_, _, by rw [rel.length]; exact Heap.get?_push_size _ rfl⟩, fun c hc => ?_, q1 ob _ rfl⟩
 have hc := List.mem_singleton.mp hc
 subst hc
 have hb : s1.heap.objs.size ≤ (s1.heap.push { cls := .type "dict_items", data := .fields #[.ref a] }).objs.size := by rw [sz]; omega
 have f := I1.fpOk hb (I1.hok.fresh hb)
 refine ⟨?_, f.2⟩
 rw [upd_ne (show (s1.heap.push { cls := .type "dict_items", data := .fields #[.ref a] }).objs.size ≠ a from Nat.ne_of_gt (by rw [sz]; exact Nat.lt_succ_of_lt al))]; exact f.1
theorem k_items {X : Cx} {es : List Expr} {kt : Nat} {pt : Pos} {o : Expr} {td : TE} {apos cpos : Pos} (h1 : attributeBase o "items" X.env (eval o X.env) = eval o X.env)
 (h2 : ((backTo cpos (starEach [] X.env)).all (fun x => !x.1) && (backToKw cpos (keywordEach [] X.env)).all (fun x => x.1.isSome)
  && decide (([] : List Expr).length + ([] : List Keyword).length + (if ([] : List Keyword).isEmpty then 0 else 1) < 30)) = true) (h3 : (apos.endLine == cpos.line) = true) (h4 : backTo cpos (starEach [] X.env) = []) (ho : JE X o td) :
 JI X (.Tuple es kt pt) (.Call (.Attribute o "items" apos) [] [] cpos) (iItems td) := ⟨pi_items ho.h ⟨h1, h2, h3, h4⟩⟩
theorem j_dget2 {X : Cx} {o e f : Expr} {td ty tx : TE} {apos cpos : Pos} {k : Nat} (hr : Room k X.A) (h1 : attributeBase o "get" X.env (eval o X.env) = eval o X.env)
 (h2 : ((backTo cpos (starEach [e, f] X.env)).all (fun x => !x.1) && (backToKw cpos (keywordEach [] X.env)).all (fun x => x.1.isSome)
  && decide (([e, f] : List Expr).length + ([] : List Keyword).length + (if ([] : List Keyword).isEmpty then 0 else 1) < 30)) = true) (h3 : (apos.endLine == cpos.line) = true) (h4 : backTo cpos (starEach [e, f] X.env) = [(false, eval e X.env), (false, eval f X.env)])
 (ho : JE X o td) (he : JE X e ty) (hf : JE X f tx) : JE X (.Call (.Attribute o "get" apos) [e, f] [] cpos) (tDGet2 td ty tx) := ⟨pe_dget2 (by have := hr.un; omega) ho.h he.h hf.h ⟨h1, h2, h3, h4⟩⟩
section
variable {a : Addr} {ob : Obj} {kvs : List (Key × V)} {g : TG} {tt : TT} {te : TE} {σ0 : L2.St} {H0 : Hp} {Z : List V → Hp → Prop}
theorem cmp_items (hn : kvs.length ≤ 1000) (Pv : Nat → List V → L2.St → Hp → Prop) (h0 : Pv 0 [] σ0 H0) (hl : ∀ i ys σ H, i ≤ kvs.length → Pv i ys σ H → H a = some (.frz ob (.dK kvs)) ∧ ys.length ≤ i)
 (hs : ∀ i kv ys σ H (T : Addr) (N : List V → L2.St → Hp → Prop), kvs[i]? = some kv → Pv i ys σ H → H T = none → (∀ ys' σ' H', Pv (i + 1) ys' σ' H' → N ys' σ' H') →
  g (.ref T) σ (upd H T (.tup [kV kv.1, kv.2])) fun σ3 H3 => tt σ3 H3 fun b H4 => if b = true then te σ3 H4 fun y H5 => N (ys ++ [y]) σ3 H5 else N ys σ3 H4)
 (hd : ∀ ys σ H, Pv kvs.length ys σ H → Z ys H) : Cmp (Iti ob a kvs) g tt te σ0 H0 Z := by
 have hsz : (sizeLine : Nat) = 16777216 := sizeLine_eq
 refine ⟨fun i m ys σ H => m = kvs.length - i ∧ i ≤ kvs.length ∧ Pv i ys σ H, ⟨kvs.length, by simp, Nat.zero_le _, h0⟩, ?_⟩
 rintro i m ys σ H ⟨rfl, hi, p⟩
 obtain ⟨q1, hy⟩ := hl i ys σ H hi p
 refine ⟨by omega, ?_⟩
 by_cases hlt : i < kvs.length
 · refine .inr ⟨⟨q1, hlt⟩, fun v H' yl => ?_⟩
   obtain ⟨kv, T, e, rfl, hT, rfl⟩ := yl
   exact hs i kv ys σ _ T (fun ys' σ' H' => ∃ m', m' < kvs.length - i ∧ m' = kvs.length - (i + 1) ∧ i + 1 ≤ kvs.length ∧ Pv (i + 1) ys' σ' H') e p hT fun ys' σ' H' p' => ⟨kvs.length - (i + 1), by omega, rfl, hlt, p'⟩
 · have e : i = kvs.length := by omega
   subst e
   exact .inl ⟨⟨q1, Nat.le_refl _⟩, hd ys σ H p⟩
end
theorem thaw {X : Cx} {pins : List (Addr × Obj)} {σ σ' : L2.St} {H H' : Hp} {s s' : Shared} {a : Addr} {ob : Obj} {kvs kvs0 : List (Key × V)} (I0 : Inv X pins σ H s) (e0 : H a = some (.dK kvs0)) (I1 : Inv X pins σ' H' s') (e1 : H' a = some (.frz ob (.dK kvs))) : Inv X pins σ' (upd H' a (.dK kvs)) s' := by
 have none_ne : ∀ {b : Addr}, H' b = none → upd H' a (.dK kvs) b = none := fun h => by rw [upd_ne (fun z => by rw [z, e1] at h; cases h)]; exact h
 have ne : ∀ {b : Addr} {o : HO}, H' b = some o → (∀ ob u, o ≠ .frz ob u) → upd H' a (.dK kvs) b = some o := fun h n => by
  rw [upd_ne (fun z => by rw [z, e1] at h; cases h; exact n _ _ rfl)]; exact h
 refine ⟨I1.ok, I1.os, I1.bare, ⟨I1.base.keep, I1.base.slot, fun b o q n hx => none_ne (I1.base.free b o q n hx), I1.base.there, fun b xs q => ne (I1.base.tups b xs q) (fun _ _ z => by cases z), fun b o u q => ?_, fun b ps q => ?_⟩, I1.loc, I1.cell, none_ne I1.free, fun x c h => none_ne (I1.freeC x c h), fun p hp => ?_, fun b o q => ?_, I1.len⟩
 · have h0 := I0.base.frzs b o u q
   have h1 := I1.base.frzs b o u q
   rw [upd_ne (fun z => by rw [z, e0] at h0; cases h0)]; exact h1
 · obtain ⟨more, h⟩ := I1.base.tbls b ps q
   exact ⟨more, ne h (fun _ _ z => by cases z)⟩
 · obtain ⟨h1, h2, h3⟩ := I1.pin p hp
   exact ⟨h1, none_ne h2, h3⟩
 · by_cases hb : b = a
   · subst hb
     rw [upd_same] at q; cases q
     obtain ⟨_, k⟩ := (show ObjOk X.prog X.w H' s'.heap b (.frz ob (.dK kvs)) from I1.hok b _ e1)
     exact k
   · rw [upd_ne hb] at q
     exact (I1.hok b o q).stay (fun c u hc r => r) (fun c r => ne r (fun _ _ z => by cases z)) fun c xs r => ne r (fun _ _ z => by cases z)
theorem pe_thaw {X : Cx} {e : Expr} {t : TE} (h : PE X e t) : PE X e (fun σ H Q => t σ H fun v H1 => Q v H1 ∨ ∃ a ob kvs kvs0, H a = some (.dK kvs0) ∧ H1 a = some (.frz ob (.dK kvs)) ∧ Q v (upd H1 a (.dK kvs))) := by
 intro pins s σ H Q I k
 refine wpAny_mono (h pins s σ H _ I k) (fun v s1 r => ?_) fun _ _ e => e
 obtain ⟨x, H1, I1, r, q⟩ := r
 rcases q with q | ⟨a, ob, kvs, kvs0, e0, e1, q⟩
 · exact ⟨x, H1, I1, r, q⟩
 · exact ⟨x, _, thaw I e0 I1 e1, r, q⟩
theorem j_thaw {X : Cx} {e : Expr} {t : TE} (h : JE X e t) : JE X e (fun σ H Q => t σ H fun v H1 => Q v H1 ∨ ∃ a ob kvs kvs0, H a = some (.dK kvs0) ∧ H1 a = some (.frz ob (.dK kvs)) ∧ Q v (upd H1 a (.dK kvs))) := ⟨pe_thaw h.h⟩
theorem s_dead {X : Cx} {st : Stmt} : JS X st (fun _ _ _ => False) := ⟨fun pins s σ H D I h => h.elim⟩
section
variable {prog : Program} {w : World} {A : Around} {E : Value → Shared → Prop} {s : Shared}
def PureLt (prog : Program) (w : World) (A : Around) (s : Shared) (κ : SortKind) (kz : Array Keyed) (lt : Keyed → Keyed → Bool) : Prop :=
 ∀ x y : Keyed, x ∈ kz.toList → y ∈ kz.toList → ∀ (Q : Bool → Shared → Prop) (E : Value → Shared → Prop), Q (lt x y) s → wpAny (model prog w) A (keyLt' κ x.1 y.1) Q E s
theorem pure_lt {κ : SortKind} {kz : Array Keyed} {lt : Keyed → Keyed → Bool} {st : SortSt} {x y : Keyed} {Q : Option Bool → SortSt → Prop} (c : PureLt prog w A s κ kz lt) (hk : kindOf st = κ) (hx : x ∈ kz.toList) (hy : y ∈ kz.toList) (h : Q (some (lt x y)) st) :
 wpS (model prog w) A E s (lt' x y) Q st := by
 rw [lt'_eq]
 refine wpS_bind (wpS_get ?_)
 rw [hk]
 exact wpS_bind (wpS_lift (wpAny_attempt (c x y hx hy _ _ ⟨rfl, wpS_pure h⟩)))
theorem pure_ltAt {κ : SortKind} {kz : Array Keyed} {lt : Keyed → Keyed → Bool} {st : SortSt} {i j : Nat} {x y : Keyed} {Q : Option Bool → SortSt → Prop} (c : PureLt prog w A s κ kz lt) (hk : kindOf st = κ) (hi : (arrOf st)[i]? = some x) (hj : (arrOf st)[j]? = some y)
 (hx : x ∈ kz.toList) (hy : y ∈ kz.toList) (h : Q (some (lt x y)) st) : wpS (model prog w) A E s (ltAt' i j) Q st := by
 rw [ltAt'_eq]
 refine wpS_bind (wpS_get ?_)
 show wpS _ _ _ _ (do let x ← elem' (arrOf st) i; let y ← elem' (arrOf st) j; lt' x y) Q st
 rw [elem'_eq, elem'_eq, hi, hj]
 exact wpS_bind (wpS_pure (wpS_bind (wpS_pure (pure_lt c hk hx hy h))))
theorem sort_any {a : Addr} {vs : List Value} {c : Nat} {R : Array Value → Prop} {P : Fin → Shared → Prop} (at_ : s.heap.get? a = some (seqObj "list" vs.toArray c)) (hz : vs.length ≤ sizeLine) (h1 : vs.length < 2 → R vs.toArray)
 (hr : 2 ≤ vs.length → ∀ h6 : Heap, (∀ b o, b ≠ a → s.heap.get? b = some o → h6.get? b = some o) → wpAny (model prog w) A (keyKind' vs.toArray) (fun κ s7 => s7 = { s with heap := h6 } ∧
  wpS (model prog w) A E { s with heap := h6 } sortRuns' (fun _ v => failedOf v = none ∧ (arrOf v).size = vs.length ∧ R ((arrOf v).map (·.2))) (SortSt.mk' κ (pairsOf vs) #[] 7 none)) E { s with heap := h6 })
 (q : ∀ out : Array Value, out.size = vs.length → R out → P (.done (.ret .none)) { s with heap := sortedHeap s.heap a vs out }) : wpAny (model prog w) A (Builtin.«list.sort» ⟨[.ref a], []⟩) P E s := by
 rw [list_sort_plain]
 have la : a < s.heap.objs.size := Heap.lt_size at_
 refine wpAny_bind (listItems_at at_ rfl (wpAny_bind (listUpdate_at at_ rfl ?_)))
 obtain ⟨c1, at1⟩ : ∃ c1, (s.heap.update a (Obj.mapSeq fun _ => #[])).get? a = some (seqObj "list" #[] c1) := ⟨_, get?_update_seq at_ (fun _ => #[])⟩
 refine wpAny_bind (seqEpoch_at at1 rfl (wpAny_bind (wpAny_newTuple (wpAny_bind (wpAny_newList (wpAny_holding ?_))) (by show vs.toArray.toList.length ≤ _; simpa using hz))))
 have at2 : (((s.heap.update a (Obj.mapSeq fun _ => #[])).push (seqObj "tuple" vs.toArray 0)).push (seqObj "list" #[] 0)).get? a = some (seqObj "list" #[] c1) := by
  rw [Heap.get?_push_ne, Heap.get?_push_ne]
  · exact at1
  · rw [Heap.size_update]; exact Nat.ne_of_lt la
  · rw [size_push', Heap.size_update]; exact Nat.ne_of_lt (Nat.lt_succ_of_lt la)
 have old : ∀ b o, b ≠ a → s.heap.get? b = some o → (((s.heap.update a (Obj.mapSeq fun _ => #[])).push (seqObj "tuple" vs.toArray 0)).push (seqObj "list" #[] 0)).get? b = some o := fun b o hb e =>
  Heap.get?_push_of_some _ (Heap.get?_push_of_some _ ((Heap.get?_update_other _ _ (Ne.symm hb)).trans e))
 show wpAny (model prog w) A _ P E { s with heap := ((s.heap.update a (Obj.mapSeq fun _ => #[])).push (seqObj "tuple" vs.toArray 0)).push (seqObj "list" #[] 0) }
 dsimp only
 by_cases few : vs.toArray.size < 2
 · rw [if_pos few, if_pos few]
   refine wpAny_bind (wpAny_pure ?_)
   rw [StateT.run_pure]
   refine wpAny_bind (wpAny_pure ?_)
   dsimp only
   refine wpAny_bind (seqEpoch_at at2 rfl (wpAny_bind (listUpdate_at at2 rfl ?_ (hsz2 := by rw [Array.size_map]; show (pairsOf vs).size ≤ _; rw [pairsOf_size]; omega))))
   simp only [bne_self_eq_false, Bool.false_eq_true, if_false]
   have e2 : (vs.toArray.zip vs.toArray).map (·.2) = vs.toArray := by
    have : ((vs.zip vs).map (·.2)) = vs := List.map_snd_zip (Nat.le_refl _)
    apply Array.toList_inj.mp
    simpa using this
   refine wpAny_pure ?_
   have := q vs.toArray (by simp) (h1 (by simpa using few))
   rw [← e2] at this
   exact this
 · rw [if_neg few, if_neg few]
   refine wpAny_bind (wpAny_mono (hr (by simp at few; omega) _ old) ?_ fun _ _ e => e)
   rintro κ s' ⟨rfl, hw⟩
   refine wpAny_bind (wpAny_mono hw ?_ fun _ _ e => e)
   rintro ⟨⟨⟩, v⟩ s' ⟨rfl, y1, y2, y3⟩
   dsimp only
   refine wpAny_bind (seqEpoch_at at2 rfl (wpAny_bind (listUpdate_at at2 rfl ?_ (hsz2 := Nat.le_trans (Nat.le_of_eq ((Array.size_map ..).trans y2)) (by omega)))))
   rw [y1]
   simp only [bne_self_eq_false, Bool.false_eq_true, if_false]
   exact wpAny_pure (q _ ((Array.size_map ..).trans y2) y3)
end
section
variable {prog : Program} {w : World} {A : Around} {E : Value → Shared → Prop} {s : Shared}
theorem katLex_ints {fin : Bool} {X Y : Nat} (hf : fin = decide (X < Y)) : ∀ {vs ws : List Value} {ns ms : List Int} {i : Nat} {Q : Bool → Shared → Prop}, IntsAre vs ns → IntsAre ws ms → ns.length + Y = ms.length + X → Q (HT.lexLt ns ms) s → PySem.W.KatLex prog w A true fin Q (vs.zip ws) i s
 | _, _, _, _, i, Q, .nil, .nil, hl, h => by
  have : fin = false := by rw [hf]; exact decide_eq_false (by simp at hl; omega)
  rw [HT.lexLt_nil_nil, ← this] at h
  exact PySem.W.kat_nil h
 | _, _, _, _, i, Q, .nil, .cons c u r, hl, h => by
  have : fin = true := by rw [hf]; exact decide_eq_true (by simp at hl; omega)
  rw [HT.lexLt_nil_cons, ← this] at h
  exact PySem.W.kat_nil h
 | _, _, _, _, i, Q, .cons c u r, .nil, hl, h => by
  have : fin = false := by rw [hf]; exact decide_eq_false (by simp at hl; omega)
  rw [HT.lexLt_cons_nil, ← this] at h
  exact PySem.W.kat_nil h
 | _, _, _, _, i, Q, .cons a t r, .cons c u r', hl, h => by
  rw [HT.lexLt_cons] at h
  refine PySem.W.kat_cons (wpAny_eqBool_int ?_)
  by_cases e : a = c
  · rw [if_pos e] at h
    subst e
    rw [show (a == a) = true by simp]
    exact PySem.W.kat_yes (katLex_ints hf r r' (by simp at hl; omega) h)
  · rw [if_neg e] at h
    rw [show (a == c) = false by simpa using e]
    refine PySem.W.kat_no ?_
    cases (true && i == 0) with
    | true => exact oneLt_int h
    | false => exact PySem.W.kat_one _ _ (HT.rcLt_int A s a t c u prog w _ _ h)
end
def tkey (H : Hp) : Value → List Int
 | .ref a => match H a with
  | some (.tup xs) => xs.map fun v => match v with | .int i => i | _ => 0
  | _ => []
 | _ => []
theorem tkey_of {H : Hp} {a : Addr} {w : List Int} (h : H a = some (.tup (w.map V.int))) : tkey H (.ref a) = w := by
 show (match H a with | some (.tup xs) => xs.map (fun v => match v with | .int i => i | _ => 0) | _ => []) = w
 rw [h]
 show ((w.map V.int).map _) = w
 rw [List.map_map]
 exact (List.map_congr_left fun x _ => rfl).trans (List.map_id _)
section
variable {X : Cx}
theorem vals_refs : ∀ {as : List Addr} {its : List Value}, Vals (as.map V.ref) its → its = as.map Value.ref
 | [], _, r => by cases r; rfl
 | a :: as, _, r => by
  cases r with
  | cons r rr => rw [vals_refs rr]; cases r; rfl
end
end Br
namespace Br
namespace EL
open PySem PySem.Spec PySem.Calls PyProof.Rows L2
end EL
end Br
namespace Br
open PySem PySem.Spec PySem.Calls PyProof.Rows L2
def rLtT (K : PySem.W.Frag) : R2 := fun x y H Q => ∃ a b ns ms, x = .ref a ∧ y = .ref b ∧ SqT K H a (ns.map V.int) ∧ SqT K H b (ms.map V.int) ∧ Q (.bl (HT.lexLt ns ms)) H
section
variable {X : Cx} {K : PySem.W.Frag} {k : Nat}
theorem op_ltT (hr : Room k X.A) : OpR X (compareOp .Lt) (rLtT X.K) := fun pins s σ H x y v u Q I rx ry h => by
 obtain ⟨a, b, ns, ms, rfl, rfl, h1, h2, q⟩ := h
 cases rx; cases ry
 obtain ⟨its, r1, p1, _⟩ := I.tuple h1
 obtain ⟨its2, r2, p2, _⟩ := I.tuple h2
 have hu : X.A.units < cLine := by have := hr.un; omega
 exact HT.lt_tupInts p1 p2 (intsAre_of r1) (intsAre_of r2) hu ⟨.bl _, H, I, rfl, q⟩
theorem c_ltT (hK : X.K = K) (hr : Room k X.A) : JCop X .Lt (fun x y H Q => rI0 (fun i j => .bl (decide (i < j))) x y H Q ∨ rLtT K x y H Q) := hK ▸ ⟨op_lt.or (op_ltT hr)⟩
end
end Br
namespace Br
namespace ZL
open PySem PySem.Spec PySem.Calls PyProof.Rows L2
end ZL
end Br
namespace Br
open PySem PySem.Spec PySem.Calls PyProof.Rows L2
namespace Tim
structure Ord (lt : Keyed → Keyed → Bool) : Prop where
 irr : ∀ a, lt a a = false
 asy : ∀ a b, lt a b = true → lt b a = false
 tr : ∀ a b c, lt b a = false → lt c b = false → lt c a = false
section
variable {lt : Keyed → Keyed → Bool} (O : Ord lt)
include O
theorem Ord.lt_le {a b c : Keyed} (h1 : lt a b = true) (h2 : lt c b = false) : lt a c = true := by
 cases h : lt a c with
 | true => rfl
 | false =>
  have := O.tr b c a h2 h
  rw [h1] at this; cases this
end
section
variable {prog : Program} {w : World} {A : Around} {E : Value → Shared → Prop} {s : Shared} {κ : SortKind} {kz : Array Keyed} {lt : Keyed → Keyed → Bool} {st : SortSt}
theorem rule_ok {r : String} {Q : Unit → SortSt → Prop} (q : Q () st) : wpS (model prog w) A E s (liftM (rule r) : StateT SortSt Sem Unit) Q st := wpS_lift (wpAny_rule ⟨rfl, q⟩)
end
section
variable {lt : Keyed → Keyed → Bool} {a b o : List Keyed} {p q : Nat}
abbrev Le (lt : Keyed → Keyed → Bool) (x y : Keyed) : Prop := lt y x = false
theorem drop_cons {l : List Keyed} {i : Nat} {y : Keyed} (h : l[i]? = some y) : l.drop i = y :: l.drop (i + 1) := by
 obtain ⟨hi, e⟩ := List.getElem?_eq_some_iff.mp h
 rw [List.drop_eq_getElem_cons hi, e]
theorem take_snoc {l : List Keyed} {i : Nat} {y : Keyed} (h : l[i]? = some y) : l.take (i + 1) = l.take i ++ [y] := by
 rw [List.take_add_one, h]; rfl
theorem srt_drop {l : List Keyed} (h : l.Pairwise (Le lt)) {i : Nat} {y : Keyed} (hy : l[i]? = some y) : ∀ z ∈ l.drop (i + 1), Le lt y z := by
 have := h.drop (i := i)
 rw [drop_cons hy] at this
 exact (List.pairwise_cons.mp this).1
end
theorem arr_get (xs : Array Keyed) (i : Nat) : xs.toList[i]? = xs[i]? := by simp
section
variable {lt : Keyed → Keyed → Bool} {a b o : List Keyed} {p q : Nat}
theorem srt_take {l : List Keyed} (h : l.Pairwise (Le lt)) {i : Nat} {y : Keyed} (hy : l[i]? = some y) : ∀ z ∈ l.take i, Le lt z y := by
 have := h.take (i := i + 1)
 rw [take_snoc hy, List.pairwise_append] at this
 exact fun z hz => this.2.2 z hz y (.head _)
end
section
variable {prog : Program} {w : World} {A : Around} {E : Value → Shared → Prop} {s : Shared} {κ : SortKind} {kz : Array Keyed} {lt : Keyed → Keyed → Bool} {st : SortSt}
theorem mem_take_last {l : List Keyed} {q : Nat} {y z : Keyed} (hl : l.Pairwise (Le lt)) (O : Ord lt) (hq : 0 < q) (hy : l[q - 1]? = some y) (hz : z ∈ l.take q) : Le lt z y := by
 rw [show q = q - 1 + 1 by omega, take_snoc hy] at hz
 rcases List.mem_append.mp hz with e | e
 · exact srt_take hl hy z e
 · rw [List.mem_singleton.mp e]; exact O.irr y
end
section
variable {prog : Program} {w : World} {A : Around} {E : Value → Shared → Prop} {s : Shared} {κ : SortKind} {kz : Array Keyed} {lt : Keyed → Keyed → Bool} {st : SortSt}
structure Bs (κ : SortKind) (kz : Array Keyed) (st : SortSt) : Prop where
 kind : kindOf st = κ
 failed : failedOf st = none
 perm : (arrOf st).toList.Perm kz.toList
theorem Bs.mem (b : Bs κ kz st) {i : Nat} {x : Keyed} (h : (arrOf st)[i]? = some x) : x ∈ kz.toList := b.perm.mem_iff.mp (List.mem_of_getElem? ((arr_get _ i).trans h))
end
theorem get3 (U S W : List Keyed) (k : Nat) : (U ++ S ++ W)[k]? = if k < U.length then U[k]? else if k < U.length + S.length then S[k - U.length]? else W[k - U.length - S.length]? := by
 by_cases h1 : k < U.length
 · rw [if_pos h1, List.append_assoc, List.getElem?_append_left h1]
 · rw [if_neg h1]
   by_cases h2 : k < U.length + S.length
   · rw [if_pos h2, List.append_assoc, List.getElem?_append_right (by omega), List.getElem?_append_left (by omega)]
   · rw [if_neg h2, List.append_assoc, List.getElem?_append_right (by omega), List.getElem?_append_right (by omega)]
theorem mirror_list {xs : Array Keyed} {U S W : List Keyed} (h : xs.toList = U ++ S ++ W) {i j : Nat} (hi : i = U.length) (hj : j = U.length + S.length) : (mirror xs i j ((j - i) / 2)).toList = U ++ S.reverse ++ W := by
 have hsz : xs.size = U.length + S.length + W.length := by have := congrArg List.length h; simp at this; omega
 apply List.ext_getElem?
 intro k
 rw [arr_get, getElem?_mirror_all (by omega), ← arr_get, ← arr_get, h, get3 U S.reverse W, get3 U S W, get3 U S W, List.length_reverse]
 by_cases h1 : k < U.length
 · rw [if_neg (by omega), if_pos h1, if_pos h1]
 · by_cases h2 : k < U.length + S.length
   · rw [if_pos (by omega), if_neg (by omega), if_pos (by omega), if_neg h1, if_pos h2, List.getElem?_reverse (by omega)]
     congr 1; omega
   · rw [if_neg (by omega), if_neg h1, if_neg h2, if_neg h1, if_neg h2]
theorem bubble_list {xs : Array Keyed} {U S W : List Keyed} {y : Keyed} (h : xs.toList = U ++ S ++ y :: W) {i : Nat} (hi : i = U.length + S.length) : (bubble xs i (i - U.length)).toList = U ++ y :: S ++ W := by
 have hsz : xs.size = U.length + S.length + (W.length + 1) := by have := congrArg List.length h; simp at this; omega
 apply List.ext_getElem?
 intro k
 rw [arr_get, getElem?_bubble (by omega) _ (by omega), ← arr_get, ← arr_get, ← arr_get, h, get3 U (y :: S) W, get3 U S (y :: W), get3 U S (y :: W), get3 U S (y :: W), List.length_cons]
 rw [show i - (i - U.length) = U.length by omega]
 by_cases h1 : k = U.length
 · rw [if_pos h1, if_neg (by omega), if_neg (by omega), if_neg (by omega), if_pos (by omega), h1, Nat.sub_self, hi, show U.length + S.length - U.length - S.length = 0 by omega]; rfl
 · rw [if_neg h1]
   by_cases h2 : U.length < k ∧ k ≤ i
   · rw [if_pos h2, if_neg (by omega), if_pos (by omega), if_neg (by omega), if_pos (by omega), show k - U.length = (k - 1 - U.length) + 1 by omega, List.getElem?_cons_succ]
   · rw [if_neg h2]
     by_cases h3 : k < U.length
     · rw [if_pos h3, if_pos h3]
     · rw [if_neg h3, if_neg (by omega), if_neg h3, if_neg (by omega), show k - U.length - S.length = (k - U.length - (S.length + 1)) + 1 by omega, List.getElem?_cons_succ]
section
variable {prog : Program} {w : World} {A : Around} {E : Value → Shared → Prop} {s : Shared} {κ : SortKind} {kz : Array Keyed} {lt : Keyed → Keyed → Bool} {st : SortSt}
theorem lt_at {L0 R : List Keyed} {i j a b : Nat} {x y : Keyed} {Q : Option Bool → SortSt → Prop} (c : PureLt prog w A s κ kz lt) (B : Bs κ kz st) (e : (arrOf st).toList = L0 ++ R) (hi : i = L0.length + a) (hj : j = L0.length + b) (hx : R[a]? = some x) (hy : R[b]? = some y) (q : Q (some (lt x y)) st) :
 wpS (model prog w) A E s (ltAt' i j) Q st := by
 have g : ∀ {a : Nat} {x : Keyed}, R[a]? = some x → (arrOf st)[L0.length + a]? = some x := fun {a x} h => by
  rw [← arr_get, e, List.getElem?_append_right (by omega), Nat.add_sub_cancel_left]; exact h
 subst hi hj
 exact pure_ltAt c B.kind (g hx) (g hy) (B.mem (g hx)) (B.mem (g hy)) q
theorem binSort_ok {lo n ok : Nat} {L0 C D L3 : List Keyed} {Q : Bool → SortSt → Prop} (O : Ord lt) (c : PureLt prog w A s κ kz lt) (B : Bs κ kz st) (ha : (arrOf st).toList = L0 ++ (C ++ D ++ L3)) (hlo : lo = L0.length) (hok : ok = C.length) (h1 : 1 ≤ ok) (hn : n = C.length + D.length) (sC : C.Pairwise (Le lt))
 (q : ∀ v Z, Bs κ kz v → (arrOf v).toList = L0 ++ (Z ++ L3) → Z.Perm (C ++ D) → Z.Pairwise (Le lt) → pendingOf v = pendingOf st → Q true v) : wpS (model prog w) A E s (binarySort' lo n ok) Q st := by
 rw [binarySort'_eq]
 refine wpS_bind (wpS_forRange (I := fun k r v => r = (none, ()) ∧ Bs κ kz v ∧ pendingOf v = pendingOf st ∧ ∃ C' D', C'.length = k ∧ (arrOf v).toList = L0 ++ (C' ++ D' ++ L3) ∧ C'.Pairwise (Le lt) ∧ (C' ++ D').Perm (C ++ D)) ?step ?fin ⟨rfl, B, rfl, C, D, by omega, ha, sC, List.Perm.refl _⟩)
 case fin =>
  rintro r v ⟨rfl, B', hp, C', D', e1, e2, e3, e4⟩
  dsimp only
  have hl := e4.length_eq
  rw [List.length_append, List.length_append] at hl
  have : D' = [] := List.length_eq_zero_iff.mp (by omega)
  subst this
  rw [List.append_nil] at e2 e4
  exact wpS_pure (q v C' B' e2 e4 e3 hp)
 case step =>
  rintro k r v hk1 hk2 ⟨rfl, B', hp, C', D', e1, e2, e3, e4⟩
  dsimp only
  have hl := e4.length_eq
  rw [List.length_append, List.length_append] at hl
  obtain ⟨y, D2, rfl⟩ : ∃ y D2, D' = y :: D2 := by
   cases D' with
   | nil => simp at hl; omega
   | cons y D2 => exact ⟨y, D2, rfl⟩
  have hy : (C' ++ (y :: D2) ++ L3)[k]? = some y := by rw [List.append_assoc, List.getElem?_append_right (by omega), e1, Nat.sub_self]; rfl
  have hlb : ∀ (l : Nat), l ≤ k → (∀ x ∈ C'.take l, Le lt x y) → (∀ x ∈ C'.drop l, lt y x = true) → wpS (model prog w) A E s (do
   moveDown' (lo + k) (lo + l)
   pure (ForInStep.yield ((none : Option Bool), ()))) (fun r st' => match r with
    | .done c' => wpS (model prog w) A E s (match c'.1 with | some r => pure r | none => pure true) Q st'
    | .yield c' => c' = (none, ()) ∧ Bs κ kz st' ∧ pendingOf st' = pendingOf st ∧ ∃ C' D', C'.length = k + 1 ∧ (arrOf st').toList = L0 ++ (C' ++ D' ++ L3) ∧ C'.Pairwise (Le lt) ∧ (C' ++ D').Perm (C ++ D)) v := fun l hl1 hA hB => by
   rw [moveDown'_eq]
   refine wpS_bind (wpS_modify (wpS_pure ?_))
   have hs : (arrOf v).toList = (L0 ++ C'.take l) ++ C'.drop l ++ y :: (D2 ++ L3) := by
    rw [e2]
    have : C' = C'.take l ++ C'.drop l := (List.take_append_drop l C').symm
    rw [this]; simp
   have hU : (L0 ++ C'.take l).length = lo + l := by rw [List.length_append, List.length_take, hlo]; omega
   have bl := bubble_list hs (i := lo + k) (by rw [hU, List.length_drop]; omega)
   rw [hU] at bl
   have pz : (C'.take l ++ y :: C'.drop l ++ D2).Perm (C ++ D) := by
    refine List.Perm.trans ?_ e4
    have h1 : (C'.take l ++ y :: C'.drop l).Perm (y :: (C'.take l ++ C'.drop l)) := List.perm_middle
    rw [List.take_append_drop] at h1
    exact (h1.append_right D2).trans List.perm_middle.symm
   refine ⟨rfl, ⟨B'.kind, B'.failed, ?_⟩, hp, C'.take l ++ y :: C'.drop l, D2, ?_, ?_, ?_, pz⟩
   · show (bubble (arrOf v) (lo + k) (lo + k - (lo + l))).toList.Perm kz.toList
     refine List.Perm.trans ?_ B'.perm
     exact Array.perm_iff_toList_perm.mp (bubble_perm _ _ _)
   · rw [List.length_append, List.length_cons, List.length_take, List.length_drop]; omega
   · show (bubble (arrOf v) (lo + k) (lo + k - (lo + l))).toList = _
     rw [bl]; simp
   · rw [List.pairwise_append]
     have sT : (C'.take l ++ C'.drop l).Pairwise (Le lt) := by rw [List.take_append_drop]; exact e3
     refine ⟨e3.take, List.pairwise_cons.mpr ⟨fun x hx => O.asy _ _ (hB x hx), e3.drop⟩, fun x hx z hz => ?_⟩
     rcases List.mem_cons.mp hz with e | e
     · rw [e]; exact hA x hx
     · exact (List.pairwise_append.mp sT).2.2 x hx z e
  refine wpS_bind (wpS_mono (wpS_forRange (I := fun x r v' => v' = v ∧ ∃ l u, r = (none, l, u) ∧ l ≤ u ∧ u ≤ k ∧ u - l ≤ k - x ∧ (∀ x ∈ C'.take l, Le lt x y) ∧ (∀ x ∈ C'.drop u, lt y x = true))
   (Q := fun r v' => v' = v ∧ ∃ l u, r = (none, l, u) ∧ l ≤ k ∧ (∀ x ∈ C'.take l, Le lt x y) ∧ (∀ x ∈ C'.drop l, lt y x = true)) ?istep ?ifin ⟨rfl, 0, k, rfl, by omega, by omega, by omega, fun x hx => by simp at hx, fun x hx => by rw [List.drop_of_length_le (by omega)] at hx; cases hx⟩) ?ipost)
  case ifin =>
   rintro r v' ⟨rfl, l, u, rfl, a1, a2, a3, a4, a5⟩
   have : l = u := by omega
   subst this
   exact ⟨rfl, l, l, rfl, a2, a4, a5⟩
  case ipost =>
   rintro r v' ⟨rfl, l, u, rfl, a2, a4, a5⟩
   exact hlb l a2 a4 a5
  case istep =>
   rintro x r v' _ hx ⟨rfl, l, u, rfl, a1, a2, a3, a4, a5⟩
   dsimp only
   by_cases hlu : l ≥ u
   · rw [if_pos hlu]
     have : l = u := by omega
     subst this
     exact wpS_pure ⟨rfl, l, l, rfl, a2, a4, a5⟩
   · rw [if_neg hlu]
     obtain ⟨z, hz⟩ : ∃ z, C'[(l + u) / 2]? = some z := ⟨_, List.getElem?_eq_getElem (by omega)⟩
     refine wpS_bind (lt_at (L0 := L0) (R := C' ++ (y :: D2) ++ L3) (a := k) (b := (l + u) / 2) c B' e2 (by omega) (by omega) hy (by rw [List.append_assoc, List.getElem?_append_left (by omega)]; exact hz) ?_)
     dsimp only
     cases hm : lt y z with
     | true =>
      simp only [if_true]
      refine wpS_pure ⟨rfl, l, _, rfl, by omega, by omega, by omega, a4, fun x hx => ?_⟩
      rw [drop_cons hz] at hx
      rcases List.mem_cons.mp hx with e | e
      · rw [e]; exact hm
      · exact O.lt_le hm (srt_drop e3 hz x e)
     | false =>
      simp only [Bool.false_eq_true, if_false]
      refine wpS_pure ⟨rfl, _, u, rfl, by omega, by omega, by omega, fun x hx => ?_, a5⟩
      rw [take_snoc hz] at hx
      rcases List.mem_append.mp hx with e | e
      · exact O.tr _ _ _ (srt_take e3 hz x e) hm
      · rw [List.mem_singleton.mp e]; exact hm
end
section
variable {prog : Program} {w : World} {A : Around} {E : Value → Shared → Prop} {s : Shared} {κ : SortKind} {kz : Array Keyed} {lt : Keyed → Keyed → Bool} {st : SortSt}
abbrev Ni (lt : Keyed → Keyed → Bool) (x y : Keyed) : Prop := Le lt y x
abbrev Eqv (lt : Keyed → Keyed → Bool) (S : List Keyed) : Prop := ∀ x ∈ S, ∀ y ∈ S, Le lt x y
theorem Bs.rev (B : Bs κ kz st) {i j d : Nat} : Bs κ kz (setArr st (mirror (arrOf st) i j d)) := ⟨B.kind, B.failed, (Array.perm_iff_toList_perm.mp (mirror_perm _ _ _ _)).trans B.perm⟩
theorem ni_rev {P S : List Keyed} (h : (P ++ S).Pairwise (Ni lt)) (e : Eqv lt S) : (P ++ S.reverse).Pairwise (Ni lt) := by
 rw [List.pairwise_append] at h ⊢
 refine ⟨h.1, ?_, fun x hx y hy => h.2.2 x hx y (List.mem_reverse.mp hy)⟩
 refine List.pairwise_reverse.mpr ?_
 exact List.Pairwise.imp_of_mem (R := Ni lt) (fun {a b} ha hb _ => e a ha b hb) h.2.1
theorem snoc_srt {C : List Keyed} {x y : Keyed} (O : Ord lt) (h : C.Pairwise (Le lt)) (hl : C[C.length - 1]? = some x) (hc : 0 < C.length) (hy : Le lt x y) : (C ++ [y]).Pairwise (Le lt) := by
 rw [List.pairwise_append]
 refine ⟨h, List.pairwise_singleton _ _, fun z hz w hw => ?_⟩
 rw [List.mem_singleton.mp hw]
 exact O.tr _ _ _ (mem_take_last h O hc hl (by rw [List.take_length]; exact hz)) hy
theorem asc_ok {lo n0 nrem : Nat} {L0 R : List Keyed} {Q : Option (Option Nat) × Nat → SortSt → Prop} (O : Ord lt) (c : PureLt prog w A s κ kz lt) (B : Bs κ kz st) (ha : (arrOf st).toList = L0 ++ R) (hl : lo = L0.length) (hr : nrem = R.length) (h1 : 1 ≤ n0) (h2 : n0 ≤ nrem) (sr : (R.take n0).Pairwise (Le lt))
 (q : ∀ n, n0 ≤ n → n ≤ nrem → (R.take n).Pairwise (Le lt) → (n < nrem → ∃ x y, R[n]? = some x ∧ R[n - 1]? = some y ∧ lt x y = true) → Q (none, n) st) :
 wpS (model prog w) A E s (forIn [n0:nrem] ((none : Option (Option Nat)), n0) fun _ (r : Option (Option Nat) × Nat) => do
  let z ← ltAt' (lo + r.2) (lo + r.2 - 1)
  match z with
  | some smaller => if smaller = true then pure (ForInStep.done (none, r.2)) else pure (ForInStep.yield (none, r.2 + 1))
  | _ => pure (ForInStep.done (some none, r.2))) Q st := by
 refine wpS_forRange (I := fun i r v => v = st ∧ r = (none, i) ∧ (R.take i).Pairwise (Le lt)) ?step ?fin ⟨rfl, rfl, sr⟩
 case fin =>
  rintro r v ⟨rfl, rfl, h⟩
  rw [show max n0 nrem = nrem by omega] at h ⊢
  exact q nrem h2 (Nat.le_refl _) h fun z => absurd z (Nat.lt_irrefl _)
 case step =>
  rintro i r v hi1 hi2 ⟨rfl, rfl, h⟩
  dsimp only
  obtain ⟨x, hx⟩ : ∃ x, R[i]? = some x := ⟨_, List.getElem?_eq_getElem (by omega)⟩
  obtain ⟨y, hy⟩ : ∃ y, R[i - 1]? = some y := ⟨_, List.getElem?_eq_getElem (by omega)⟩
  refine wpS_bind (lt_at c B ha (a := i) (b := i - 1) (by omega) (by omega) hx hy ?_)
  dsimp only
  cases hm : lt x y with
  | true =>
   simp only [if_true]
   exact wpS_pure (q i hi1 (by omega) h fun _ => ⟨x, y, hx, hy, hm⟩)
  | false =>
   simp only [Bool.false_eq_true, if_false]
   refine wpS_pure ⟨rfl, rfl, ?_⟩
   rw [take_snoc hx]
   have hl : (R.take i).length = i := by rw [List.length_take]; omega
   refine snoc_srt O h (x := y) ?_ (by omega) hm
   rw [hl, List.getElem?_take_of_lt (by omega)]; exact hy
theorem countRun_ok {lo nrem : Nat} {L0 R : List Keyed} {Q : Option Nat → SortSt → Prop} (O : Ord lt) (c : PureLt prog w A s κ kz lt) (B : Bs κ kz st) (ha : (arrOf st).toList = L0 ++ R) (hl : lo = L0.length) (hr : nrem = R.length) (h1 : 1 ≤ nrem)
 (q : ∀ v C D, Bs κ kz v → (arrOf v).toList = L0 ++ (C ++ D) → (C ++ D).Perm R → C.Pairwise (Le lt) → 1 ≤ C.length → pendingOf v = pendingOf st → Q (some C.length) v) : wpS (model prog w) A E s (countRun' lo nrem) Q st := by
 rw [countRun'_eq]
 refine wpS_bind (asc_ok O c B ha hl hr (Nat.le_refl _) h1 ?_ fun n n1 n2 sn nx => ?_)
 · exact List.Pairwise.sublist (List.Sublist.refl _) (by
    cases R with
    | nil => exact List.Pairwise.nil
    | cons x r => exact List.pairwise_singleton _ _)
 dsimp only
 have lenT : (R.take n).length = n := by rw [List.length_take]; omega
 have same : Q (some n) st := by
  have := q st (R.take n) (R.drop n) B (by rw [List.take_append_drop]; exact ha) (by rw [List.take_append_drop]) sn (by omega) rfl
  rw [lenT] at this; exact this
 by_cases hn : (n == nrem) = true
 · rw [if_pos hn]; exact wpS_pure same
 rw [if_neg hn]
 have hnl : n < nrem := by have : ¬ n = nrem := fun e => hn (by simp [e]); omega
 obtain ⟨x, y, hx, hy, hxy⟩ := nx hnl
 have hy' : (R.take n)[n - 1]? = some y := by rw [List.getElem?_take_of_lt (by omega)]; exact hy
 have lasty : ∀ z ∈ R.take n, Le lt z y := fun z hz => mem_take_last sn O (by omega) (l := R.take n) (q := n) hy' (by rw [List.take_of_length_le (by omega)]; exact hz)
 have dR : R.drop n = x :: R.drop (n + 1) := drop_cons hx
 have lex : Le lt x y := O.asy _ _ hxy
 have rest : ∀ (v : SortSt) (C1 : List Keyed), Bs κ kz v → pendingOf v = pendingOf st → (arrOf v).toList = L0 ++ (C1 ++ R.drop n) → (C1 ++ R.drop n).Perm R → C1.length = n → C1.Pairwise (Ni lt) → (∀ z ∈ C1, Le lt x z) →
  (fun r (v : SortSt) => Bs κ kz v ∧ pendingOf v = pendingOf st ∧ ∃ P S D, r = ((none : Option (Option Nat)), n + 1, S.length - 1) ∧ (arrOf v).toList = L0 ++ (P ++ S ++ D) ∧ P.length + S.length = n + 1 ∧ 0 < S.length ∧ Eqv lt S ∧ (P ++ S).Pairwise (Ni lt) ∧ (P ++ S ++ D).Perm R) (none, n + 1, 0) v := fun v C1 B1 hp e1 e2 e3 e4 e5 => by
  refine ⟨B1, hp, C1, [x], R.drop (n + 1), rfl, ?_, by simp [e3], by simp, fun a ha b hb => ?_, ?_, ?_⟩
  · rw [e1, dR]; simp
  · rw [List.mem_singleton.mp ha, List.mem_singleton.mp hb]; exact O.irr _
  · rw [List.pairwise_append]
    exact ⟨e4, List.pairwise_singleton _ _, fun z hz u hu => by rw [List.mem_singleton.mp hu]; exact e5 z hz⟩
  · rw [dR] at e2; simpa using e2
 have minl : ∀ {C : List Keyed} {z u : Keyed}, C.Pairwise (Ni lt) → C[C.length - 1]? = some u → z ∈ C → Le lt u z := fun {C z u} h hu hz => by
  obtain ⟨i, hi, e⟩ := List.getElem_of_mem hz
  by_cases hi2 : i = C.length - 1
  · have : C[i]? = some z := by rw [List.getElem?_eq_getElem hi, e]
    rw [hi2, hu] at this; cases this; exact O.irr _
  · have := List.pairwise_iff_getElem.mp h i (C.length - 1) hi (by omega) (by omega)
    rw [e, Option.some.inj ((List.getElem?_eq_getElem (by omega)).symm.trans hu)] at this
    exact this
 have fin : ∀ (m : Nat) (v : SortSt) (C D : List Keyed), Bs κ kz v → pendingOf v = pendingOf st → (arrOf v).toList = L0 ++ (C ++ D) → C.length = m → 1 ≤ m → C.Pairwise (Ni lt) → (C ++ D).Perm R →
  wpS (model prog w) A E s (reverseSlice' lo (lo + m)) (fun _ v' => Bs κ kz v' ∧ pendingOf v' = pendingOf st ∧ (arrOf v').toList = L0 ++ (C.reverse ++ D) ∧ (C.reverse).Pairwise (Le lt) ∧ (C.reverse ++ D).Perm R) v := fun m v C D B1 hp e1 e2 e3 e4 e5 => by
  refine wpS_reverse ⟨B1.rev, hp, ?_, List.pairwise_reverse.mpr e4, ((List.reverse_perm C).append_right D).trans e5⟩
  have := mirror_list (xs := arrOf v) (U := L0) (S := C) (W := D) (by rw [e1]; simp) (i := lo) (j := lo + m) hl (by omega)
  show (mirror (arrOf v) lo (lo + m) ((lo + m - lo) / 2)).toList = _
  rw [this]; simp
 have eqAll : n > 1 → ∀ r0, R[0]? = some r0 → lt r0 y = false → Eqv lt (R.take n) := fun hn1 r0 hr0 hro a ha b hb => by
  have ya : Le lt y r0 := hro
  have r0a : ∀ z ∈ R.take n, Le lt r0 z := fun z hz => by
   obtain ⟨i, hi, e⟩ := List.getElem_of_mem hz
   have hz' : (R.take n)[i]? = some z := by rw [List.getElem?_eq_getElem hi, e]
   rw [lenT] at hi
   by_cases hi0 : i = 0
   · rw [hi0, List.getElem?_take_of_lt (by omega), hr0] at hz'; cases hz'; exact O.irr _
   · have := List.pairwise_iff_getElem.mp sn 0 i (by omega) (by omega) (by omega)
     have e0 : (R.take n)[0]? = some r0 := by rw [List.getElem?_take_of_lt (by omega)]; exact hr0
     rw [Option.some.inj ((List.getElem?_eq_getElem (by omega)).symm.trans e0), e] at this
     exact this
  exact O.tr _ _ _ (lasty a ha) (O.tr _ _ _ ya (r0a b hb))
 by_cases hn1 : n > 1
 · rw [if_pos hn1]
   obtain ⟨r0, hr0⟩ : ∃ r0, R[0]? = some r0 := ⟨_, List.getElem?_eq_getElem (by omega)⟩
   refine wpS_bind (lt_at c B ha (a := 0) (b := n - 1) (by omega) (by omega) hr0 hy ?_)
   dsimp only
   cases hro : lt r0 y with
   | true =>
    simp only [if_true]
    exact wpS_pure same
   | false =>
    simp only [Bool.false_eq_true, if_false]
    have ea := eqAll hn1 r0 hr0 hro
    refine wpS_bind (wpS_reverse ?_)
    have ml := mirror_list (xs := arrOf st) (U := L0) (S := R.take n) (W := R.drop n) (by rw [ha, List.append_assoc, List.take_append_drop]) (i := lo) (j := lo + n) hl (by rw [lenT]; omega)
    have st1 := rest (setArr st (mirror (arrOf st) lo (lo + n) ((lo + n - lo) / 2))) (R.take n).reverse B.rev rfl (by show (mirror (arrOf st) lo (lo + n) ((lo + n - lo) / 2)).toList = _; rw [ml]; simp) (by
     have := (List.reverse_perm (R.take n)).append_right (R.drop n)
     rw [List.take_append_drop] at this; exact this) (by rw [List.length_reverse, lenT]) (List.pairwise_reverse.mpr (List.Pairwise.imp_of_mem (R := Le lt) (fun {a b} ha hb _ => ea a ha b hb) sn)) (fun z hz => O.tr _ _ _ lex (ea y (List.mem_of_getElem? hy') z (List.mem_reverse.mp hz)))
    generalize hv1 : setArr st (mirror (arrOf st) lo (lo + n) ((lo + n - lo) / 2)) = v1 at st1 ⊢
    refine wpS_bind (rule_ok ?_)
    refine wpS_bind (wpS_mono (wpS_forRange (I := fun i r v => Bs κ kz v ∧ pendingOf v = pendingOf st ∧ ∃ P S D, r = ((none : Option (Option Nat)), i, S.length - 1) ∧ (arrOf v).toList = L0 ++ (P ++ S ++ D) ∧ P.length + S.length = i ∧ 0 < S.length ∧ Eqv lt S ∧ (P ++ S).Pairwise (Ni lt) ∧ (P ++ S ++ D).Perm R)
     (Q := fun r v => Bs κ kz v ∧ pendingOf v = pendingOf st ∧ ∃ i P S D, r = ((none : Option (Option Nat)), i, S.length - 1) ∧ (arrOf v).toList = L0 ++ (P ++ S ++ D) ∧ P.length + S.length = i ∧ 0 < S.length ∧ Eqv lt S ∧ (P ++ S).Pairwise (Ni lt) ∧ (P ++ S ++ D).Perm R ∧ i ≤ nrem) ?dstep ?dfin st1) ?dpost)
    case dfin =>
     rintro r v ⟨B1, hp, P, S, D, rfl, e1, e2, e3, e4, e5, e6⟩
     exact ⟨B1, hp, _, P, S, D, rfl, e1, e2, e3, e4, e5, e6, by omega⟩
    case dstep =>
     rintro i r v hi1 hi2 ⟨B1, hp, P, S, D, rfl, e1, e2, e3, e4, e5, e6⟩
     dsimp only
     have hlen := e6.length_eq
     rw [List.length_append, List.length_append] at hlen
     obtain ⟨x', D2, rfl⟩ : ∃ x' D2, D = x' :: D2 := by
      cases D with
      | nil => simp at hlen; omega
      | cons x' D2 => exact ⟨x', D2, rfl⟩
     have hPS : (P ++ S).length = i := by rw [List.length_append]; exact e2
     obtain ⟨u, hu⟩ : ∃ u, (P ++ S)[i - 1]? = some u := ⟨_, List.getElem?_eq_getElem (by omega)⟩
     have huS : u ∈ S := by
      rw [List.getElem?_append_right (by omega)] at hu
      exact List.mem_of_getElem? hu
     have hx' : (P ++ S ++ x' :: D2)[i]? = some x' := by rw [List.getElem?_append_right (by omega), hPS, Nat.sub_self]; rfl
     have hu' : (P ++ S ++ x' :: D2)[i - 1]? = some u := by rw [List.getElem?_append_left (by omega)]; exact hu
     have least : ∀ z ∈ P ++ S, Le lt u z := fun z hz => minl e5 (by rw [hPS]; exact hu) hz
     refine wpS_bind (lt_at c B1 e1 (a := i) (b := i - 1) (by omega) (by omega) hx' hu' ?_)
     dsimp only
     have one : ∀ P', (P' ++ [x']).Pairwise (Ni lt) → Eqv lt [x'] := fun _ _ a ha b hb => by rw [List.mem_singleton.mp ha, List.mem_singleton.mp hb]; exact O.irr _
     cases hsm : lt x' u with
     | true =>
      simp only [if_true]
      have lx : ∀ z ∈ P ++ S, Le lt x' z := fun z hz => O.tr _ _ _ (O.asy _ _ hsm) (least z hz)
      by_cases hq0 : S.length - 1 > 0
      · rw [if_pos hq0]
        refine wpS_bind (wpS_reverse (wpS_pure ?_))
        have ml := mirror_list (xs := arrOf v) (U := L0 ++ P) (S := S) (W := x' :: D2) (by rw [e1]; simp) (i := lo + i - (S.length - 1 + 1)) (j := lo + i) (by rw [List.length_append]; omega) (by rw [List.length_append]; omega)
        have ni : (P ++ S.reverse ++ [x']).Pairwise (Ni lt) := by
         rw [List.pairwise_append]
         refine ⟨ni_rev e5 e4, List.pairwise_singleton _ _, fun z hz y' hy2 => ?_⟩
         rw [List.mem_singleton.mp hy2]
         refine lx z ?_
         rcases List.mem_append.mp hz with h | h
         · exact List.mem_append_left _ h
         · exact List.mem_append_right _ (List.mem_reverse.mp h)
        refine ⟨B1.rev, hp, P ++ S.reverse, [x'], D2, rfl, ?_, by rw [List.length_append, List.length_reverse]; simp; omega, by simp, one _ ni, ni, ?_⟩
        · show (mirror (arrOf v) (lo + i - (S.length - 1 + 1)) (lo + i) ((lo + i - (lo + i - (S.length - 1 + 1))) / 2)).toList = _
          rw [ml]; simp
        · refine List.Perm.trans ?_ e6
          have : (P ++ S.reverse ++ [x'] ++ D2) = (P ++ S.reverse) ++ (x' :: D2) := by simp
          rw [this]
          exact List.Perm.append_right _ (List.Perm.append_left _ (List.reverse_perm S))
      · rw [if_neg hq0]
        have ni : (P ++ S ++ [x']).Pairwise (Ni lt) := by
         rw [List.pairwise_append]
         exact ⟨e5, List.pairwise_singleton _ _, fun z hz y' hy2 => by rw [List.mem_singleton.mp hy2]; exact lx z hz⟩
        refine wpS_pure ⟨B1, hp, P ++ S, [x'], D2, rfl, by rw [e1]; simp, by rw [List.length_append]; simp; omega, by simp, one _ ni, ni, by simpa using e6⟩
     | false =>
      simp only [Bool.false_eq_true, if_false]
      refine wpS_bind (lt_at c B1 e1 (a := i - 1) (b := i) (by omega) (by omega) hu' hx' ?_)
      dsimp only
      cases hla : lt u x' with
      | true =>
       simp only [if_true]
       exact wpS_pure ⟨B1, hp, i, P, S, x' :: D2, rfl, e1, e2, e3, e4, e5, e6, by omega⟩
      | false =>
       simp only [Bool.false_eq_true, if_false]
       refine wpS_pure ⟨B1, hp, P, S ++ [x'], D2, by rw [List.length_append]; simp; omega, by rw [e1]; simp, by rw [List.length_append]; simp; omega, by simp, fun a ha b hb => ?_, ?_, by simpa using e6⟩
       · have le1 : ∀ z ∈ S, Le lt z x' := fun z hz => O.tr _ _ _ (e4 z hz u huS) hsm
         have le2 : ∀ z ∈ S, Le lt x' z := fun z hz => O.tr _ _ _ hla (e4 u huS z hz)
         rcases List.mem_append.mp ha with h | h <;> rcases List.mem_append.mp hb with h' | h'
         · exact e4 a h b h'
         · rw [List.mem_singleton.mp h']; exact le1 a h
         · rw [List.mem_singleton.mp h]; exact le2 b h'
         · rw [List.mem_singleton.mp h, List.mem_singleton.mp h']; exact O.irr _
       · rw [← List.append_assoc, List.pairwise_append]
         exact ⟨e5, List.pairwise_singleton _ _, fun z hz y' hy2 => by rw [List.mem_singleton.mp hy2]; exact O.tr _ _ _ hla (least z hz)⟩
    case dpost =>
     rintro r v ⟨B1, hp, m, P, S, D, rfl, e1, e2, e3, e4, e5, e6, e7⟩
     dsimp only
     have hlen := e6.length_eq
     rw [List.length_append, List.length_append] at hlen
     have last : ∀ (v' : SortSt) (C : List Keyed), C.length = m → (Bs κ kz v' ∧ pendingOf v' = pendingOf st ∧ (arrOf v').toList = L0 ++ (C.reverse ++ D) ∧ (C.reverse).Pairwise (Le lt) ∧ (C.reverse ++ D).Perm R) → ∀ k, m ≤ k → k ≤ nrem → ((C.reverse ++ D).take k).Pairwise (Le lt) → Q (some k) v' := fun v' C hC ⟨B2, hp2, g1, g2, g3⟩ k hk1 hk2 hk3 => by
      have hl2 := g3.length_eq
      have lt2 : ((C.reverse ++ D).take k).length = k := by rw [List.length_take]; omega
      have := q v' ((C.reverse ++ D).take k) ((C.reverse ++ D).drop k) B2 (by rw [List.take_append_drop]; exact g1) (by rw [List.take_append_drop]; exact g3) hk3 (by omega) hp2
      rw [lt2] at this; exact this
     have fin2 : ∀ (v' : SortSt) (C : List Keyed), C.length = m → (Bs κ kz v' ∧ pendingOf v' = pendingOf st ∧ (arrOf v').toList = L0 ++ (C.reverse ++ D) ∧ (C.reverse).Pairwise (Le lt) ∧ (C.reverse ++ D).Perm R) → ((C.reverse ++ D).take m).Pairwise (Le lt) := fun v' C hC ⟨_, _, _, g2, _⟩ => by
      rw [List.take_append_of_le_length (by rw [List.length_reverse]; omega), List.take_of_length_le (by rw [List.length_reverse]; omega)]
      exact g2
     by_cases hq0 : S.length - 1 > 0
     · rw [if_pos hq0]
       have ml := mirror_list (xs := arrOf v) (U := L0 ++ P) (S := S) (W := D) (by rw [e1]; simp) (i := lo + m - (S.length - 1 + 1)) (j := lo + m) (by rw [List.length_append]; omega) (by rw [List.length_append]; omega)
       refine wpS_bind (wpS_reverse ?_)
       have hC : (P ++ S.reverse).length = m := by rw [List.length_append, List.length_reverse]; exact e2
       refine wpS_bind (wpS_mono (fin m (setArr v (mirror (arrOf v) (lo + m - (S.length - 1 + 1)) (lo + m) ((lo + m - (lo + m - (S.length - 1 + 1))) / 2))) (P ++ S.reverse) D B1.rev hp (by show (mirror (arrOf v) (lo + m - (S.length - 1 + 1)) (lo + m) ((lo + m - (lo + m - (S.length - 1 + 1))) / 2)).toList = _; rw [ml]; simp) hC (by omega) (ni_rev e5 e4) ((List.Perm.append_right _ (List.Perm.append_left _ (List.reverse_perm S))).trans e6)) fun _ v' g => ?_)
       refine wpS_bind (asc_ok O c g.1 g.2.2.1 hl (by rw [hr, ← g.2.2.2.2.length_eq]) (by omega) e7 (fin2 v' _ hC g) fun k hk1 hk2 hk3 _ => ?_)
       exact wpS_pure (last v' _ hC g k hk1 hk2 hk3)
     · rw [if_neg hq0]
       have hC : (P ++ S).length = m := by rw [List.length_append]; exact e2
       refine wpS_bind (wpS_mono (fin m v (P ++ S) D B1 hp (by rw [e1]) hC (by omega) e5 e6) fun _ v' g => ?_)
       refine wpS_bind (asc_ok O c g.1 g.2.2.1 hl (by rw [hr, ← g.2.2.2.2.length_eq]) (by omega) e7 (fin2 v' _ hC g) fun k hk1 hk2 hk3 _ => ?_)
       exact wpS_pure (last v' _ hC g k hk1 hk2 hk3)
 · rw [if_neg hn1]
   have hn1' : n = 1 := by omega
   have st1 := rest st (R.take n) B rfl (by rw [List.take_append_drop]; exact ha) (by rw [List.take_append_drop]) lenT (by
    subst hn1'
    cases R with
    | nil => exact List.Pairwise.nil
    | cons a r => exact List.pairwise_singleton _ _) (fun z hz => by
    subst hn1'
    have : R.take 1 = [y] := by
     have h := take_snoc (i := 0) hy
     simpa using h
    rw [this] at hz
    rw [List.mem_singleton.mp hz]; exact lex)
   refine wpS_bind (rule_ok ?_)
   refine wpS_bind (wpS_mono (wpS_forRange (I := fun i r v => Bs κ kz v ∧ pendingOf v = pendingOf st ∧ ∃ P S D, r = ((none : Option (Option Nat)), i, S.length - 1) ∧ (arrOf v).toList = L0 ++ (P ++ S ++ D) ∧ P.length + S.length = i ∧ 0 < S.length ∧ Eqv lt S ∧ (P ++ S).Pairwise (Ni lt) ∧ (P ++ S ++ D).Perm R)
    (Q := fun r v => Bs κ kz v ∧ pendingOf v = pendingOf st ∧ ∃ i P S D, r = ((none : Option (Option Nat)), i, S.length - 1) ∧ (arrOf v).toList = L0 ++ (P ++ S ++ D) ∧ P.length + S.length = i ∧ 0 < S.length ∧ Eqv lt S ∧ (P ++ S).Pairwise (Ni lt) ∧ (P ++ S ++ D).Perm R ∧ i ≤ nrem) ?dstep ?dfin st1) ?dpost)
   case dfin =>
    rintro r v ⟨B1, hp, P, S, D, rfl, e1, e2, e3, e4, e5, e6⟩
    exact ⟨B1, hp, _, P, S, D, rfl, e1, e2, e3, e4, e5, e6, by omega⟩
   case dstep =>
    rintro i r v hi1 hi2 ⟨B1, hp, P, S, D, rfl, e1, e2, e3, e4, e5, e6⟩
    dsimp only
    have hlen := e6.length_eq
    rw [List.length_append, List.length_append] at hlen
    obtain ⟨x', D2, rfl⟩ : ∃ x' D2, D = x' :: D2 := by
     cases D with
     | nil => simp at hlen; omega
     | cons x' D2 => exact ⟨x', D2, rfl⟩
    have hPS : (P ++ S).length = i := by rw [List.length_append]; exact e2
    obtain ⟨u, hu⟩ : ∃ u, (P ++ S)[i - 1]? = some u := ⟨_, List.getElem?_eq_getElem (by omega)⟩
    have huS : u ∈ S := by
     rw [List.getElem?_append_right (by omega)] at hu
     exact List.mem_of_getElem? hu
    have hx' : (P ++ S ++ x' :: D2)[i]? = some x' := by rw [List.getElem?_append_right (by omega), hPS, Nat.sub_self]; rfl
    have hu' : (P ++ S ++ x' :: D2)[i - 1]? = some u := by rw [List.getElem?_append_left (by omega)]; exact hu
    have least : ∀ z ∈ P ++ S, Le lt u z := fun z hz => minl e5 (by rw [hPS]; exact hu) hz
    refine wpS_bind (lt_at c B1 e1 (a := i) (b := i - 1) (by omega) (by omega) hx' hu' ?_)
    dsimp only
    have one : ∀ P', (P' ++ [x']).Pairwise (Ni lt) → Eqv lt [x'] := fun _ _ a ha b hb => by rw [List.mem_singleton.mp ha, List.mem_singleton.mp hb]; exact O.irr _
    cases hsm : lt x' u with
    | true =>
     simp only [if_true]
     have lx : ∀ z ∈ P ++ S, Le lt x' z := fun z hz => O.tr _ _ _ (O.asy _ _ hsm) (least z hz)
     by_cases hq0 : S.length - 1 > 0
     · rw [if_pos hq0]
       refine wpS_bind (wpS_reverse (wpS_pure ?_))
       have ml := mirror_list (xs := arrOf v) (U := L0 ++ P) (S := S) (W := x' :: D2) (by rw [e1]; simp) (i := lo + i - (S.length - 1 + 1)) (j := lo + i) (by rw [List.length_append]; omega) (by rw [List.length_append]; omega)
       have ni : (P ++ S.reverse ++ [x']).Pairwise (Ni lt) := by
        rw [List.pairwise_append]
        refine ⟨ni_rev e5 e4, List.pairwise_singleton _ _, fun z hz y' hy2 => ?_⟩
        rw [List.mem_singleton.mp hy2]
        refine lx z ?_
        rcases List.mem_append.mp hz with h | h
        · exact List.mem_append_left _ h
        · exact List.mem_append_right _ (List.mem_reverse.mp h)
       refine ⟨B1.rev, hp, P ++ S.reverse, [x'], D2, rfl, ?_, by rw [List.length_append, List.length_reverse]; simp; omega, by simp, one _ ni, ni, ?_⟩
       · show (mirror (arrOf v) (lo + i - (S.length - 1 + 1)) (lo + i) ((lo + i - (lo + i - (S.length - 1 + 1))) / 2)).toList = _
         rw [ml]; simp
       · refine List.Perm.trans ?_ e6
         have : (P ++ S.reverse ++ [x'] ++ D2) = (P ++ S.reverse) ++ (x' :: D2) := by simp
         rw [this]
         exact List.Perm.append_right _ (List.Perm.append_left _ (List.reverse_perm S))
     · rw [if_neg hq0]
       have ni : (P ++ S ++ [x']).Pairwise (Ni lt) := by
        rw [List.pairwise_append]
        exact ⟨e5, List.pairwise_singleton _ _, fun z hz y' hy2 => by rw [List.mem_singleton.mp hy2]; exact lx z hz⟩
       refine wpS_pure ⟨B1, hp, P ++ S, [x'], D2, rfl, by rw [e1]; simp, by rw [List.length_append]; simp; omega, by simp, one _ ni, ni, by simpa using e6⟩
    | false =>
     simp only [Bool.false_eq_true, if_false]
     refine wpS_bind (lt_at c B1 e1 (a := i - 1) (b := i) (by omega) (by omega) hu' hx' ?_)
     dsimp only
     cases hla : lt u x' with
     | true =>
      simp only [if_true]
      exact wpS_pure ⟨B1, hp, i, P, S, x' :: D2, rfl, e1, e2, e3, e4, e5, e6, by omega⟩
     | false =>
      simp only [Bool.false_eq_true, if_false]
      refine wpS_pure ⟨B1, hp, P, S ++ [x'], D2, by rw [List.length_append]; simp; omega, by rw [e1]; simp, by rw [List.length_append]; simp; omega, by simp, fun a ha b hb => ?_, ?_, by simpa using e6⟩
      · have le1 : ∀ z ∈ S, Le lt z x' := fun z hz => O.tr _ _ _ (e4 z hz u huS) hsm
        have le2 : ∀ z ∈ S, Le lt x' z := fun z hz => O.tr _ _ _ hla (e4 u huS z hz)
        rcases List.mem_append.mp ha with h | h <;> rcases List.mem_append.mp hb with h' | h'
        · exact e4 a h b h'
        · rw [List.mem_singleton.mp h']; exact le1 a h
        · rw [List.mem_singleton.mp h]; exact le2 b h'
        · rw [List.mem_singleton.mp h, List.mem_singleton.mp h']; exact O.irr _
      · rw [← List.append_assoc, List.pairwise_append]
        exact ⟨e5, List.pairwise_singleton _ _, fun z hz y' hy2 => by rw [List.mem_singleton.mp hy2]; exact O.tr _ _ _ hla (least z hz)⟩
   case dpost =>
    rintro r v ⟨B1, hp, m, P, S, D, rfl, e1, e2, e3, e4, e5, e6, e7⟩
    dsimp only
    have hlen := e6.length_eq
    rw [List.length_append, List.length_append] at hlen
    have last : ∀ (v' : SortSt) (C : List Keyed), C.length = m → (Bs κ kz v' ∧ pendingOf v' = pendingOf st ∧ (arrOf v').toList = L0 ++ (C.reverse ++ D) ∧ (C.reverse).Pairwise (Le lt) ∧ (C.reverse ++ D).Perm R) → ∀ k, m ≤ k → k ≤ nrem → ((C.reverse ++ D).take k).Pairwise (Le lt) → Q (some k) v' := fun v' C hC ⟨B2, hp2, g1, g2, g3⟩ k hk1 hk2 hk3 => by
     have hl2 := g3.length_eq
     have lt2 : ((C.reverse ++ D).take k).length = k := by rw [List.length_take]; omega
     have := q v' ((C.reverse ++ D).take k) ((C.reverse ++ D).drop k) B2 (by rw [List.take_append_drop]; exact g1) (by rw [List.take_append_drop]; exact g3) hk3 (by omega) hp2
     rw [lt2] at this; exact this
    have fin2 : ∀ (v' : SortSt) (C : List Keyed), C.length = m → (Bs κ kz v' ∧ pendingOf v' = pendingOf st ∧ (arrOf v').toList = L0 ++ (C.reverse ++ D) ∧ (C.reverse).Pairwise (Le lt) ∧ (C.reverse ++ D).Perm R) → ((C.reverse ++ D).take m).Pairwise (Le lt) := fun v' C hC ⟨_, _, _, g2, _⟩ => by
     rw [List.take_append_of_le_length (by rw [List.length_reverse]; omega), List.take_of_length_le (by rw [List.length_reverse]; omega)]
     exact g2
    by_cases hq0 : S.length - 1 > 0
    · rw [if_pos hq0]
      have ml := mirror_list (xs := arrOf v) (U := L0 ++ P) (S := S) (W := D) (by rw [e1]; simp) (i := lo + m - (S.length - 1 + 1)) (j := lo + m) (by rw [List.length_append]; omega) (by rw [List.length_append]; omega)
      refine wpS_bind (wpS_reverse ?_)
      have hC : (P ++ S.reverse).length = m := by rw [List.length_append, List.length_reverse]; exact e2
      refine wpS_bind (wpS_mono (fin m (setArr v (mirror (arrOf v) (lo + m - (S.length - 1 + 1)) (lo + m) ((lo + m - (lo + m - (S.length - 1 + 1))) / 2))) (P ++ S.reverse) D B1.rev hp (by show (mirror (arrOf v) (lo + m - (S.length - 1 + 1)) (lo + m) ((lo + m - (lo + m - (S.length - 1 + 1))) / 2)).toList = _; rw [ml]; simp) hC (by omega) (ni_rev e5 e4) ((List.Perm.append_right _ (List.Perm.append_left _ (List.reverse_perm S))).trans e6)) fun _ v' g => ?_)
      refine wpS_bind (asc_ok O c g.1 g.2.2.1 hl (by rw [hr, ← g.2.2.2.2.length_eq]) (by omega) e7 (fin2 v' _ hC g) fun k hk1 hk2 hk3 _ => ?_)
      exact wpS_pure (last v' _ hC g k hk1 hk2 hk3)
    · rw [if_neg hq0]
      have hC : (P ++ S).length = m := by rw [List.length_append]; exact e2
      refine wpS_bind (wpS_mono (fin m v (P ++ S) D B1 hp (by rw [e1]) hC (by omega) e5 e6) fun _ v' g => ?_)
      refine wpS_bind (asc_ok O c g.1 g.2.2.1 hl (by rw [hr, ← g.2.2.2.2.length_eq]) (by omega) e7 (fin2 v' _ hC g) fun k hk1 hk2 hk3 _ => ?_)
      exact wpS_pure (last v' _ hC g k hk1 hk2 hk3)
end
def PO : Nat → List (Nat × Nat × Nat) → List (List Keyed) → Prop
 | _, [], [] => True
 | s, e :: P, C :: RS => e.1 = s ∧ e.2.1 = C.length ∧ PO (s + C.length) P RS
 | _, _, _ => False
end Tim
theorem perm_lift {α β : Type} (f : α → β) {l m : List β} (h : l.Perm m) : ∀ {zs : List α}, zs.map f = m → ∃ zs' : List α, zs'.Perm zs ∧ zs'.map f = l := by
 induction h with
 | nil => intro zs e; exact ⟨zs, List.Perm.refl _, e⟩
 | cons x _ ih =>
  intro zs e
  cases zs with
  | nil => cases e
  | cons z zs =>
   injection e with e1 e2
   obtain ⟨zs', h1, h2⟩ := ih e2
   exact ⟨z :: zs', h1.cons z, by rw [List.map_cons, e1, h2]⟩
 | swap x y l =>
  intro zs e
  cases zs with
  | nil => cases e
  | cons a zs =>
   cases zs with
   | nil => cases e
   | cons b zs =>
    injection e with e1 e2
    injection e2 with e2 e3
    exact ⟨b :: a :: zs, List.Perm.swap a b zs, by rw [List.map_cons, List.map_cons, e1, e2, e3]⟩
 | trans _ _ i1 i2 =>
  intro zs e
  obtain ⟨z1, h1, h2⟩ := i2 e
  obtain ⟨z2, h3, h4⟩ := i1 h2
  exact ⟨z2, h3.trans h1, h4⟩
theorem lexLt_total : ∀ a b : List Int, HT.lexLt a b = true ∨ a = b ∨ HT.lexLt b a = true
 | [], [] => .inr (.inl rfl)
 | [], _ :: _ => .inl rfl
 | _ :: _, [] => .inr (.inr rfl)
 | x :: a, y :: b => by
  rw [HT.lexLt_cons, HT.lexLt_cons]
  by_cases e : x = y
  · subst e
    rw [if_pos rfl, if_pos rfl]
    rcases lexLt_total a b with h | h | h
    · exact .inl h
    · exact .inr (.inl (by rw [h]))
    · exact .inr (.inr h)
  · rw [if_neg e, if_neg (fun z => e z.symm)]
    rcases Int.lt_or_lt_of_ne e with h | h
    · exact .inl (decide_eq_true h)
    · exact .inr (.inr (decide_eq_true h))
theorem lexLt_tr : ∀ {a b c : List Int}, HT.lexLt a b = true → HT.lexLt b c = true → HT.lexLt a c = true
 | [], [], _, h, _ => by rw [HT.lexLt_nil_nil] at h; cases h
 | [], _ :: _, [], _, h => by rw [HT.lexLt_cons_nil] at h; cases h
 | [], _ :: _, _ :: _, _, _ => rfl
 | _ :: _, [], _, h, _ => by rw [HT.lexLt_cons_nil] at h; cases h
 | _ :: _, _ :: _, [], _, h => by rw [HT.lexLt_cons_nil] at h; cases h
 | x :: a, y :: b, z :: c, h1, h2 => by
  rw [HT.lexLt_cons] at h1 h2 ⊢
  by_cases e1 : x = y
  · rw [if_pos e1] at h1
    by_cases e2 : y = z
    · rw [if_pos e2] at h2
      rw [if_pos (e1.trans e2)]; exact lexLt_tr h1 h2
    · rw [if_neg e2] at h2
      rw [if_neg (fun q => e2 (e1.symm.trans q))]
      have := of_decide_eq_true h2
      exact decide_eq_true (by omega)
  · rw [if_neg e1] at h1
    have := of_decide_eq_true h1
    by_cases e2 : y = z
    · rw [if_neg (fun q => e1 (q.trans e2.symm))]
      exact decide_eq_true (by omega)
    · rw [if_neg e2] at h2
      have := of_decide_eq_true h2
      rw [if_neg (by omega)]
      exact decide_eq_true (by omega)
theorem lexLt_irr : ∀ a : List Int, HT.lexLt a a = false
 | [] => rfl
 | x :: a => by rw [HT.lexLt_cons, if_pos rfl]; exact lexLt_irr a
theorem lexLt_asy {a b : List Int} (h : HT.lexLt a b = true) : HT.lexLt b a = false := by
 cases e : HT.lexLt b a with
 | false => rfl
 | true => have := lexLt_tr h e; rw [lexLt_irr] at this; cases this
theorem ord_lex (key : Keyed → List Int) : Tim.Ord fun x y => HT.lexLt (key x) (key y) :=
 ⟨fun a => lexLt_irr _, fun a b h => lexLt_asy h, fun a b c h1 h2 => by
  cases e : HT.lexLt (key c) (key a) with
  | false => rfl
  | true =>
   rcases lexLt_total (key a) (key b) with h | h | h
   · have := lexLt_tr e h; rw [h2] at this; cases this
   · rw [h] at e; rw [h2] at e; cases e
   · rw [h1] at h; cases h⟩
theorem pairs_map {α : Type} (g : α → Value) : ∀ l : List α, (pairsOf (l.map g)).toList = l.map fun z => ((g z, g z) : Keyed)
 | [] => by rw [pairsOf_toList]; rfl
 | z :: l => by
  have ih := pairs_map g l
  rw [pairsOf_toList] at ih ⊢
  rw [List.map_cons, List.zip_cons_cons, ih]; rfl
section
variable {X : Cx}
theorem seq_obj {p : Addr} {xs : List V} {pins : List (Addr × Obj)} {s : Shared} {σ : L2.St} {H : Hp} (I : Inv X pins σ H s) (hq : SqL X.K H p xs ∨ SqT X.K H p xs) : ∃ (its : List Value) (o : Obj) (T : String) (cn : Nat), Vals xs its ∧ (T = "list" ∨ T = "tuple") ∧ s.heap.get? p = some o ∧ o.cls = .type T ∧ o.data = .seq its.toArray cn ∧ xs.length ≤ sizeLine := by
 rcases hq with hq | hq
 · obtain ⟨its, r', pl, hz⟩ := I.list hq
   obtain ⟨o, ho, hc, n, hd⟩ := pl.isList
   exact ⟨its, o, "list", n, r', .inl rfl, ho, hc, hd, hz⟩
 · obtain ⟨its, r', ⟨o, ho, hc, n, hd⟩, hz⟩ := I.tuple hq
   exact ⟨its, o, "tuple", n, r', .inr rfl, ho, hc, hd, hz⟩
end
section
variable {X : Cx}
open Classical in
theorem lay_pairs {pins : List (Addr × Obj)} {σ : L2.St} {H : Hp} {s : Shared} {h' : Heap} {tk : Nat} {as : List Addr} {qs : List (Int × Int)} (I : Inv X pins σ H s) (keep : ∀ b o, s.heap.get? b = some o → h'.get? b = some o) (rise : as.Pairwise (· < ·))
 (above : ∀ a ∈ as, s.heap.objs.size ≤ a) (pairs : ∀ (j : Nat) (a : Addr), as[j]? = some a → ∃ (q : Int × Int) (t u : Tok), qs[j]? = some q ∧ h'.get? a = some { cls := .type "tuple", data := .seq #[.int q.1 t, .int q.2 u] }) :
 ∃ H1, Inv X pins σ H1 { s with heap := h', toks := tk } ∧ L2.Same H H1 ∧ ∀ (j : Nat) (a : Addr), as[j]? = some a → ∃ q : Int × Int, qs[j]? = some q ∧ H1 a = some (.tup [.int q.1, .int q.2]) := by
 have ndp : ∀ {i j : Nat} {a : Addr}, as[i]? = some a → as[j]? = some a → i = j := fun {i j a} h1 h2 => by
  obtain ⟨l1, e1⟩ := List.getElem?_eq_some_iff.mp h1
  obtain ⟨l2, e2⟩ := List.getElem?_eq_some_iff.mp h2
  rcases Nat.lt_trichotomy i j with z | z | z
  · have := List.pairwise_iff_getElem.mp rise i j l1 l2 z; rw [e1, e2] at this; exact absurd this (Nat.lt_irrefl _)
  · exact z
  · have := List.pairwise_iff_getElem.mp rise j i l2 l1 z; rw [e1, e2] at this; exact absurd this (Nat.lt_irrefl _)
 let H1 : Hp := fun b => if h : ∃ q : Int × Int, ∃ j : Nat, as[j]? = some b ∧ qs[j]? = some q then some (.tup [.int h.choose.1, .int h.choose.2]) else H b
 have at1 : ∀ {j : Nat} {a : Addr} {q : Int × Int}, as[j]? = some a → qs[j]? = some q → H1 a = some (.tup [.int q.1, .int q.2]) := fun {j a q} h1 h2 => by
  have h : ∃ q : Int × Int, ∃ j : Nat, as[j]? = some a ∧ qs[j]? = some q := ⟨q, j, h1, h2⟩
  show (if h : ∃ q : Int × Int, ∃ j : Nat, as[j]? = some a ∧ qs[j]? = some q then some (.tup [.int h.choose.1, .int h.choose.2]) else H a) = _
  rw [dif_pos h]
  obtain ⟨i, h3, h4⟩ := h.choose_spec
  have e := ndp h1 h3
  subst e
  rw [h2] at h4
  cases h4
  rfl
 have off : ∀ {b : Addr}, b < s.heap.objs.size → H1 b = H b := fun {b} hb => by
  show (if h : ∃ q : Int × Int, ∃ j : Nat, as[j]? = some b ∧ qs[j]? = some q then some (.tup [.int h.choose.1, .int h.choose.2]) else H b) = _
  rw [dif_neg]
  rintro ⟨q, j, h1, _⟩
  exact absurd hb (Nat.not_lt.mpr (above b (List.mem_of_getElem? h1)))
 have old : ∀ {b : Addr} {v : HO}, H b = some v → b < s.heap.objs.size := fun {b v} e => by
  by_cases hb : b < s.heap.objs.size
  · exact hb
  · rw [I.hok.fresh (Nat.le_of_not_lt hb)] at e; cases e
 refine ⟨H1, ?_, fun b v e => (off (old e)).trans e, fun j a h => ?_⟩
 · refine I.step (g' := s.gens) (d' := s.drawn) (t' := tk) (ch := []) (fun b hb => nomatch hb) (fun b ob _ _ _ q _ => keep b ob q) (fun b ob _ _ _ q _ => ⟨ob.slots, keep b ob q⟩) (fun b ob _ q n => (off (Heap.lt_size q)).trans n) (fun b ob _ q => ⟨ob, keep b ob q⟩)
    (fun b v q => (off (old q)).trans q) (fun b v v' q => (off (old q)).trans q) (fun b v q => ⟨#[], by rw [off (old q), q]; simp⟩) (fun m hm => ?_) (fun b v q => ?_) I.bare
   · obtain ⟨ob, es, ep, ho, r⟩ := hm
     exact ⟨ob, es, ep, keep _ ob ho, r⟩
   · by_cases hb : b < s.heap.objs.size
     · rw [off hb] at q
       exact (I.hok b v q).stay (fun c' ob hc' q' => keep c' ob q') (fun c' q' => (off (old q')).trans q') fun c' vs q' => (off (old q')).trans q'
     · have q' : (if h : ∃ q : Int × Int, ∃ j : Nat, as[j]? = some b ∧ qs[j]? = some q then some (HO.tup [.int h.choose.1, .int h.choose.2]) else H b) = some v := q
       by_cases hx : ∃ q : Int × Int, ∃ j : Nat, as[j]? = some b ∧ qs[j]? = some q
       · obtain ⟨p, j, h1, h2⟩ := hx
         rw [at1 h1 h2] at q
         cases q
         obtain ⟨p', t, u, h3, h4⟩ := pairs j b h1
         rw [h2] at h3
         cases h3
         exact ⟨by show 2 ≤ sizeLine; decide, [.int p.1 t, .int p.2 u], .cons ⟨t, rfl⟩ (.cons ⟨u, rfl⟩ .nil), ⟨_, h4, rfl, _, rfl⟩⟩
       · rw [dif_neg hx] at q'
         exact absurd (old q') hb
 · obtain ⟨q, _, _, h2, _⟩ := pairs j a h
   exact ⟨q, h2, at1 h h2⟩
def vv2 (ks : List (Int × Int)) : List (Key × V) := ks.map fun q => (.inl q.1, .int q.2)
variable {o : Expr} {td : TE} {apos cpos pos p : Pos} {x : Str}
theorem kv_pairs {P : Program} {w : World} {ks : List (Int × Int)} {vs : List (Key × Value)} (r : KV (vv2 ks) vs) {j : Nat} {k : Key} {v key : Value} (e : vs[j]? = some (k, v)) (hk : (mixKind P w).is k key = true) : ∃ (q : Int × Int) (t u : Tok), ks[j]? = some q ∧ key = .int q.1 t ∧ v = .int q.2 u := by
 have hl := r.length
 have hj : j < (vv2 ks).length := by rw [hl]; exact (List.getElem?_eq_some_iff.mp e).1
 have hj' : j < ks.length := by unfold vv2 at hj; rw [List.length_map] at hj; exact hj
 have hkv : (vv2 ks)[j]? = some (.inl ks[j].1, .int ks[j].2) := by unfold vv2; rw [List.getElem?_map, List.getElem?_eq_getElem hj']; rfl
 obtain ⟨v', h1, h2⟩ := kvGet r hkv
 rw [e] at h1
 cases h1
 obtain ⟨u, rfl⟩ := h2
 obtain ⟨t, rfl⟩ := is_rel hk
 exact ⟨ks[j], t, u, List.getElem?_eq_getElem hj', rfl, rfl⟩
end
def dlook : List (Int × Int) → Int → Option Int
 | [], _ => none
 | q :: ks, n => if q.1 = n then some q.2 else dlook ks n
theorem dlook_cons (q : Int × Int) (ks : List (Int × Int)) (n : Int) : dlook (q :: ks) n = if q.1 = n then some q.2 else dlook ks n := rfl
theorem val_vv2 : ∀ (ks : List (Int × Int)) (n : Int), valV (vv2 ks) (.inl n) = (dlook ks n).map V.int
 | [], _ => rfl
 | q :: ks, n => by
  by_cases e : q.1 = n
  · rw [show vv2 (q :: ks) = ((Sum.inl q.1 : Key), V.int q.2) :: vv2 ks from rfl, valV_pos (by show (Sum.inl q.1 : Key) = _; rw [e])]
    rw [dlook_cons, if_pos e]; rfl
  · rw [show vv2 (q :: ks) = ((Sum.inl q.1 : Key), V.int q.2) :: vv2 ks from rfl, valV_neg (fun z => e (by injection z)), val_vv2 ks n]
    rw [dlook_cons, if_neg e]
theorem dlook_none : ∀ {ks : List (Int × Int)} {n : Int}, n ∉ ks.map (·.1) → dlook ks n = none
 | [], _, _ => rfl
 | q :: ks, n, h => by
  rw [dlook_cons, if_neg (fun e => h (by rw [← e]; exact .head _)), dlook_none fun z => h (.tail _ z)]
theorem dlook_some : ∀ {ks : List (Int × Int)} {n c : Int}, dlook ks n = some c → (n, c) ∈ ks
 | q :: ks, n, c, h => by
  rw [dlook_cons] at h
  by_cases e : q.1 = n
  · rw [if_pos e] at h; cases h; rw [← e]; exact .head _
  · rw [if_neg e] at h; exact .tail _ (dlook_some h)
theorem dlook_key {ks : List (Int × Int)} {n : Int} (h : n ∈ ks.map (·.1)) : ∃ c, dlook ks n = some c := by
 induction ks with
 | nil => simp at h
 | cons q ks ih =>
  rw [dlook_cons]
  by_cases e : q.1 = n
  · exact ⟨_, if_pos e⟩
  · rw [if_neg e]
    rcases List.mem_cons.mp h with z | z
    · exact absurd z.symm e
    · exact ih z
theorem dlook_mem {ks : List (Int × Int)} (nd : (ks.map (·.1)).Nodup) (q : Int × Int) : q ∈ ks ↔ dlook ks q.1 = some q.2 := by
 refine ⟨fun h => ?_, fun h => dlook_some h⟩
 induction ks with
 | nil => cases h
 | cons r ks ih =>
  rw [List.map_cons, List.nodup_cons] at nd
  rw [dlook_cons]
  rcases List.mem_cons.mp h with z | z
  · rw [z, if_pos rfl]
  · rw [if_neg (fun e => nd.1 (by rw [e]; exact List.mem_map.mpr ⟨q, z, rfl⟩))]
    exact ih nd.2 z
def dput (ks : List (Int × Int)) (n m : Int) : List (Int × Int) := if n ∈ ks.map (·.1) then ks.map (fun q => if q.1 = n then (q.1, m) else q) else ks ++ [(n, m)]
theorem vv2_keys (ks : List (Int × Int)) (n : Int) : ((vv2 ks).any fun p => decide (p.1 = (Sum.inl n : Key))) = decide (n ∈ ks.map (·.1)) := by
 induction ks with
 | nil => rfl
 | cons q ks ih =>
  show (decide ((Sum.inl q.1 : Key) = Sum.inl n) || (vv2 ks).any fun p => decide (p.1 = (Sum.inl n : Key))) = _
  rw [ih]
  by_cases e : q.1 = n
  · rw [decide_eq_true (show (Sum.inl q.1 : Key) = Sum.inl n by rw [e]), decide_eq_true (show n ∈ (q :: ks).map (·.1) by rw [← e]; exact .head _)]; rfl
  · rw [decide_eq_false (fun z => e (by injection z))]
    show decide _ = decide _
    by_cases h : n ∈ ks.map (·.1)
    · rw [decide_eq_true h, decide_eq_true (show n ∈ (q :: ks).map (·.1) from .tail _ h)]
    · rw [decide_eq_false h, decide_eq_false (fun z => by
       rcases List.mem_cons.mp z with z | z
       · exact e z.symm
       · exact h z)]
theorem put_vv2 (ks : List (Int × Int)) (n m : Int) : putK (vv2 ks) (.inl n) (.int m) = vv2 (dput ks n m) := by
 unfold putK dput
 rw [vv2_keys]
 by_cases h : n ∈ ks.map (·.1)
 · rw [if_pos (decide_eq_true h), if_pos h]
   unfold vv2
   rw [List.map_map, List.map_map]
   refine List.map_congr_left fun q _ => ?_
   by_cases e : q.1 = n
   · simp [e]
   · have h2 : ¬ ((Sum.inl q.1 : Key) = Sum.inl n) := fun z => e (by injection z)
     simp [e, h2]
 · rw [if_neg (fun z => h (of_decide_eq_true z)), if_neg h]
   unfold vv2
   rw [List.map_append]; rfl
theorem dput_keys (ks : List (Int × Int)) (n m : Int) : (dput ks n m).map (·.1) = if n ∈ ks.map (·.1) then ks.map (·.1) else ks.map (·.1) ++ [n] := by
 unfold dput
 split
 · rw [List.map_map]
   refine List.map_congr_left fun q _ => ?_
   show (if q.1 = n then (q.1, m) else q).1 = q.1
   split <;> rfl
 · rw [List.map_append]; rfl
theorem dput_nodup {ks : List (Int × Int)} (n m : Int) (nd : (ks.map (·.1)).Nodup) : ((dput ks n m).map (·.1)).Nodup := by
 rw [dput_keys]
 split
 · exact nd
 · rename_i h
   refine List.nodup_append.mpr ⟨nd, List.nodup_cons.mpr ⟨fun h => (nomatch h), List.nodup_nil⟩, fun a ha b hb => ?_⟩
   rw [List.mem_singleton.mp hb]
   exact fun e => h (by rw [← e]; exact ha)
theorem dput_len (ks : List (Int × Int)) (n m : Int) : (dput ks n m).length ≤ ks.length + 1 := by
 unfold dput
 split
 · rw [List.length_map]; omega
 · rw [List.length_append]; exact Nat.le_refl _
theorem dput_mem {ks : List (Int × Int)} {n m : Int} {q : Int × Int} (h : q ∈ dput ks n m) : q ∈ ks ∨ q = (n, m) := by
 unfold dput at h
 split at h
 · obtain ⟨r, hr, rfl⟩ := List.mem_map.mp h
   by_cases e : r.1 = n
   · rw [if_pos e, e]; exact .inr rfl
   · rw [if_neg e]; exact .inl hr
 · rcases List.mem_append.mp h with z | z
   · exact .inl z
   · exact .inr (List.mem_singleton.mp z)
theorem dlook_app : ∀ (ks : List (Int × Int)) (q : Int × Int) (j : Int), dlook (ks ++ [q]) j = match dlook ks j with | some c => some c | none => if q.1 = j then some q.2 else none
 | [], q, j => rfl
 | r :: ks, q, j => by
  rw [List.cons_append, dlook_cons, dlook_cons]
  by_cases e : r.1 = j
  · rw [if_pos e, if_pos e]
  · rw [if_neg e, if_neg e]; exact dlook_app ks q j
theorem dput_look (ks : List (Int × Int)) (n m j : Int) : dlook (dput ks n m) j = if n = j then some m else dlook ks j := by
 unfold dput
 split
 · rename_i h
   induction ks with
   | nil => simp at h
   | cons q ks ih =>
    rw [List.map_cons, dlook_cons, dlook_cons]
    by_cases e : q.1 = n
    · rw [if_pos e]
      show (if q.1 = j then some m else _) = _
      by_cases e2 : n = j
      · rw [if_pos (e.trans e2), if_pos e2]
      · rw [if_neg (fun z => e2 (e.symm.trans z)), if_neg e2, if_neg (fun z => e2 (e.symm.trans z))]
        by_cases h' : n ∈ ks.map (·.1)
        · rw [ih h', if_neg e2]
        · have : (ks.map fun q => if q.1 = n then (q.1, m) else q) = ks := by
           clear ih h
           induction ks with
           | nil => rfl
           | cons r ks ih2 =>
            rw [List.map_cons, if_neg (fun e => h' (by rw [← e]; exact .head _)), ih2 fun z => h' (.tail _ z)]
          rw [this]
    · rw [if_neg e]
      have h' : n ∈ ks.map (·.1) := by
       rcases List.mem_cons.mp h with z | z
       · exact absurd z.symm e
       · exact z
      by_cases e2 : q.1 = j
      · rw [if_pos e2, if_neg (fun z => e (e2.trans z.symm)), if_pos e2]
      · rw [if_neg e2, if_neg e2, ih h']
 · rename_i h
   rw [dlook_app]
   show (match dlook ks j with | some c => some c | none => if n = j then some m else none) = _
   by_cases e : n = j
   · subst e
     rw [dlook_none h, if_pos rfl]
   · rw [if_neg e]
     cases dlook ks j <;> simp [e]
def Ris (qs : List (Int × Int)) : Prop := qs.Pairwise fun a b => a.1 < b.1
theorem Ris.nodup {qs : List (Int × Int)} (h : Ris qs) : (qs.map (·.1)).Nodup := by
 unfold List.Nodup
 rw [List.pairwise_map]
 exact h.imp fun z e => by omega
theorem ris_uniq : ∀ {qs rs : List (Int × Int)}, Ris qs → Ris rs → (∀ q, q ∈ qs ↔ q ∈ rs) → qs = rs
 | [], [], _, _, _ => rfl
 | [], r :: rs, _, _, h => by have := (h r).mpr (.head _); cases this
 | q :: qs, [], _, _, h => by have := (h q).mp (.head _); cases this
 | q :: qs, r :: rs, h1, h2, h => by
  have h1' := List.pairwise_cons.mp h1
  have h2' := List.pairwise_cons.mp h2
  have e : q = r := by
   rcases List.mem_cons.mp ((h q).mp (.head _)) with z | z
   · exact z
   · rcases List.mem_cons.mp ((h r).mpr (.head _)) with y | y
     · exact y.symm
     · have a := h2'.1 q z
       have b := h1'.1 r y
       omega
  subst e
  have : qs = rs := ris_uniq h1'.2 h2'.2 fun x => by
   have hx := h x
   constructor
   · intro hm
     rcases List.mem_cons.mp (hx.mp (.tail _ hm)) with z | z
     · have := h1'.1 x hm; rw [z] at this; omega
     · exact z
   · intro hm
     rcases List.mem_cons.mp (hx.mpr (.tail _ hm)) with z | z
     · have := h2'.1 x hm; rw [z] at this; omega
     · exact z
  rw [this]
theorem sort_keys {ks : List (Int × Int)} {ns : List Int} (nd : (ks.map (·.1)).Nodup) (hp : ns.Perm (ks.map (·.1))) (hs : ns.Pairwise (· ≤ ·)) :
 Ris (ns.map fun n => (n, (dlook ks n).getD 0)) ∧ ∀ q, q ∈ (ns.map fun n => (n, (dlook ks n).getD 0)) ↔ q ∈ ks := by
 have nd' : ns.Nodup := hp.nodup_iff.mpr nd
 refine ⟨?_, fun q => ?_⟩
 · unfold Ris
   rw [List.pairwise_map]
   exact (hs.and nd').imp fun {a b} ⟨h1, h2⟩ => by show a < b; omega
 · constructor
   · intro h
     obtain ⟨n, hn, rfl⟩ := List.mem_map.mp h
     obtain ⟨c, hc⟩ := dlook_key (hp.mem_iff.mp hn)
     have := dlook_some hc
     rw [hc]; exact this
   · intro h
     refine List.mem_map.mpr ⟨q.1, hp.mem_iff.mpr (List.mem_map.mpr ⟨q, h, rfl⟩), ?_⟩
     rw [(dlook_mem nd q).mp h]; rfl
theorem sort_items {ks qs : List (Int × Int)} (nd : (ks.map (·.1)).Nodup) (hp : qs.Perm ks) (hs : qs.Pairwise fun u v => HT.lexLt [v.1, v.2] [u.1, u.2] = false) : Ris qs ∧ ∀ q, q ∈ qs ↔ q ∈ ks := by
 refine ⟨?_, fun q => hp.mem_iff⟩
 have nd' : (qs.map (·.1)).Nodup := (hp.map _).nodup_iff.mpr nd
 unfold List.Nodup at nd'
 rw [List.pairwise_map] at nd'
 unfold Ris
 refine (hs.and nd').imp fun {a b} ⟨h1, h2⟩ => ?_
 rw [HT.lexLt_cons, if_neg (fun e => h2 e.symm)] at h1
 have := of_decide_eq_false h1
 omega
def rTupF (K : PySem.W.Frag) : List V → Hp → VK → Prop := fun xs H Q => ∃ p ys, xs = [.ref p] ∧ SqL K H p ys ∧ ∀ l o H2, H l = none → bareT o → L2.Same H H2 → H2 l = some (.frz o (.tup ys)) → Q (.ref l) H2
section
variable {X : Cx} {K : PySem.W.Frag} {e : Expr} {es : List Expr} {t : TA} {pos p : Pos} {x : Str}
theorem call_tupF : CallR X (.type "tuple") (rTupF X.K) := by
 intro pins s σ H xs us Q I r h
 obtain ⟨p, ys, rfl, hq, q⟩ := h
 obtain ⟨u, rfl, rx⟩ := vals1 r
 cases rx
 obtain ⟨its, r', pl, hz⟩ := I.list hq
 have hlen := r'.length
 refine call_tuple_list pl.isList (fun h' kp => ?_) (by simp only [List.size_toArray] <;> omega)
 have I1 : Inv X pins σ H { s with heap := h' } := I.kept (t' := s.toks) kp
 have hf := I1.hok.fresh (Nat.le_refl h'.objs.size)
 have I2 : Inv X pins σ (upd H h'.objs.size (.frz { cls := .type "tuple", data := .seq its.toArray } (.tup ys))) { s with heap := h'.push { cls := .type "tuple", data := .seq its.toArray } } :=
  I1.laid (t' := s.toks) (fun b o e => Heap.get?_push_of_some _ e) (Nat.le_refl _) ⟨Heap.get?_push_size _ rfl, hz, its, r', IsTup.new _ _⟩
 exact ⟨.ref h'.objs.size, _, I2, rfl, q _ _ _ hf ⟨_, _, rfl⟩ (Br.Same.upd hf) upd_same⟩
theorem k_tupleF (hg : Gl X x) (he : starEach (e :: es) X.env = (false, eval e X.env) :: starEach es X.env) (hpl : (backTo pos (starEach es X.env)).any (·.1) = false) (hK : X.K = K) (hx : x = "tuple") (hm : X.mg x = none) (ha : JA X (e :: es) t) :
 JE X (.Call (.Name x p) (e :: es) [] pos) (tCB (rTupF K) t) := hK ▸ ⟨by subst hx; exact pe_callTy call_tupF hg hm boot_tuple' ha.h (by decide) (by decide) he hpl⟩
end
mutual
inductive RepF (H : Hp) : V → PyData → Prop
 | non : RepF H .non .none
 | bl (b : Bool) : RepF H (.bl b) (.bool b)
 | int (i : Int) : RepF H (.int i) (.int i)
 | str (x : Str) : RepF H (.str x) (.str x)
 | tup {a : Addr} {xs : List V} {ds : List PyData} (h : Rd H a (.tup xs)) (r : RepsF H xs ds) : RepF H (.ref a) (.tuple ds)
 | lst {a : Addr} {xs : List V} {ds : List PyData} (h : H a = some (.lst xs)) (r : RepsF H xs ds) : RepF H (.ref a) (.list ds)
inductive RepsF (H : Hp) : List V → List PyData → Prop
 | nil : RepsF H [] []
 | cons {x : V} {xs : List V} {d : PyData} {ds : List PyData} (h : RepF H x d) (r : RepsF H xs ds) : RepsF H (x :: xs) (d :: ds)
end
theorem RepsF.ints {H : Hp} : ∀ ns : List Int, RepsF H (ns.map V.int) (ns.map PyData.int)
 | [] => .nil
 | n :: r => .cons (.int n) (RepsF.ints r)
section
variable {P : Program} {w : World} {H : Hp} {h : Heap}
mutual
theorem RepF.reads (ok : HOk P w H h) : ∀ {v : V} {d : PyData} {u : Value}, RepF H v d → RelV v u → ∃ as, Reads h u d as
 | _, _, _, .non, r => by cases (show _ = Value.none from r); exact ⟨_, .none⟩
 | _, _, _, .bl b, r => by cases (show _ = Value.bool b from r); exact ⟨_, .bool b⟩
 | _, _, _, .int i, r => by obtain ⟨t, e⟩ := (show ∃ t, _ = Value.int i t from r); subst e; exact ⟨_, .int i t⟩
 | _, _, _, .str x, r => by obtain ⟨t, e⟩ := (show ∃ t, _ = Value.str x t from r); subst e; exact ⟨_, .str x t⟩
 | _, _, _, .tup (a := a) (xs := xs) q rs, r => by
  cases (show _ = Value.ref a from r)
  obtain ⟨_, its, rv, o, h1, h2, n, h3⟩ := (show ObjOk P w H h a (.tup xs) from q.ok ok)
  obtain ⟨as, z⟩ := RepsF.reads ok rs rv
  exact ⟨_, .tuple h1 h2 h3 (by simpa using z)⟩
 | _, _, _, .lst (a := a) (xs := xs) q rs, r => by
  cases (show _ = Value.ref a from r)
  obtain ⟨_, its, n, rv, h1⟩ := (show ObjOk P w H h a (.lst xs) from ok a _ q)
  obtain ⟨as, z⟩ := RepsF.reads ok rs rv
  exact ⟨_, .list h1 rfl rfl (by simpa using z)⟩
theorem RepsF.reads (ok : HOk P w H h) : ∀ {vs : List V} {ds : List PyData} {us : List Value}, RepsF H vs ds → Vals vs us → ∃ as, ReadsAll h us ds as
 | _, _, _, .nil, .nil => ⟨_, .nil⟩
 | _, _, _, .cons q rs, .cons r t => by
  obtain ⟨as, z⟩ := RepF.reads ok q r
  obtain ⟨bs, y⟩ := RepsF.reads ok rs t
  exact ⟨_, .cons z y⟩
end
end
section
variable {X : Cx} {k : Nat}
def rNeF : R2 := fun x y H Q => ∃ d d', RepF H x d ∧ RepF H y d' ∧ Pl d ∧ Pl d' ∧ Q (.bl (!PyData.eqv d d')) H
theorem op_neF (hr : Room k X.A) : OpR X (compareOp .NotEq) rNeF := by
 intro pins s σ H x y v u Q I rx ry h
 obtain ⟨d, d', h1, h2, p1, p2, q⟩ := h
 obtain ⟨as, r1⟩ := h1.reads I.hok rx
 obtain ⟨bs, r2⟩ := h2.reads I.hok ry
 have hu := hr.un
 exact SeqAt.compareNe_reads r1 r2 p1.1 p2.1 (by have := p1.2; omega) ⟨.bl _, H, I, rfl, q⟩
theorem c_neF (hr : Room k X.A) : JCop X .NotEq (fun x y H Q => rNe x y H Q ∨ rNeF x y H Q) := ⟨op_ne.or (op_neF hr)⟩
end
end Br
namespace Br
open PySem PySem.Spec PySem.Calls PyProof.Rows L2 HT
end Br
namespace Br
open PySem PySem.Spec PySem.Calls PyProof.Rows L2
end Br
namespace Br
open PySem PySem.Spec PyProof.Rows L2
end Br
namespace Br
open PySem PySem.Spec PySem.Calls PyProof.Rows L2
def EntAt (h : Heap) (d : Addr) (es : Array DictEntry) (ep : Nat) : Prop := ∃ o, h.get? d = some o ∧ o.ExactDict ∧ o.data = .dict es ep
theorem EntAt.at' {h h' : Heap} {d : Addr} {es : Array DictEntry} {ep : Nat} (x : EntAt h d es ep) (e : ∀ o, h.get? d = some o → h'.get? d = some o) : EntAt h' d es ep := let ⟨o, ho, r⟩ := x; ⟨o, e _ ho, r⟩
theorem EntAt.lt {h : Heap} {d : Addr} {es : Array DictEntry} {ep : Nat} (x : EntAt h d es ep) : d < h.objs.size := let ⟨_, ho, _⟩ := x; Heap.lt_size ho
theorem EntAt.ty {s : Shared} {d : Addr} {es : Array DictEntry} {ep : Nat} (x : EntAt s.heap d es ep) : s.TypeIs (.ref d) "dict" := let ⟨o, ho, hc, _⟩ := x; ⟨o, ho, hc.1⟩
section
variable {prog : Program} {w : World} {A : Around} {E : Value → Shared → Prop} {s : Shared} {d it : Addr} {es : Array DictEntry} {ep i : Nat}
theorem ent_iter {Q : Value → Shared → Prop} (hd : (d == sysModules) = false) (hm : EntAt s.heap d es ep)
 (hQ : Q (.ref s.heap.objs.size) { s with heap := s.heap.push { cls := .type "dict_keyiterator", data := .fields #[.ref d, .int 0 0, .int es.size 0, .int ep 0] } }) : wpAny (model prog w) A (pyIter (.ref d)) Q E s := by
 obtain ⟨o, g1, g2, g3⟩ := id hm
 have hty := hm.ty
 refine wpAny_pyIter_slot hty F.slot_dict_iter (wpAny_call_entry F.slot_dict_iter hty F.entry_dict_iter ?_ (F.args_dict_iter_1 _))
 wp_walk using wpAny_notOrdered_dict hty, wpAny_dictEntries g1 g3, wpAny_dictEpoch g1 g3
 exact ⟨_, rfl, "dict_keyiterator", _, ⟨_, Heap.get?_push_size _ rfl, rfl⟩, F.slot_dict_keyiterator_next.lookup, hQ⟩
theorem ent_item {Q : Option Value → Shared → Prop} (hit : s.heap.IsKeyIter it d i es.size ep) (hm : EntAt s.heap d es ep) (hlt : i < es.size)
 (hQ : ∀ h', h'.IsKeyIter it d (i + 1) es.size ep → Heap.SameBut it s.heap h' → Q (some es[i].key) { s with heap := h' }) : wpAny (model prog w) A (pyNext (.ref it)) Q E s := by
 obtain ⟨⟨cls, dd, dt, sl⟩, h1, h2, h3⟩ := id hit
 simp only at h2 h3
 subst h2 h3
 obtain ⟨od, g1, g2, g3⟩ := id hm
 have hT := hit.typeIs
 refine wpAny_bind (wpAny_attempt (wpAny_callSpecial?_slot hT F.slot_dict_keyiterator_next (wpAny_call_entry F.slot_dict_keyiterator_next hT F.entry_dict_keyiterator_next ?_ (F.args_dict_keyiterator_next_1 _))))
 wp_walk using wpAny_typeNameOfWhole_keyiter hT, wpAny_fieldsOf h1 rfl, wpAny_dictEntries g1 g3, wpAny_dictEpoch g1 g3, wpAny_isOneOf_keyiter hT
 rw [show (if (i : Int) < 0 then none else es[(i : Int).toNat]?) = some es[i] by rw [if_neg (by omega)]; simpa using hlt]
 wp_walk using wpAny_typeNameOfWhole_keyiter hT, wpAny_isOneOf_keyiter hT
 exact ⟨_, rfl, wpAny_pure (hQ _ ⟨_, Heap.get?_update_self _ h1 rfl, rfl, rfl⟩ (Heap.SameBut.update ..))⟩
theorem ent_end {Q : Option Value → Shared → Prop} (hh : A.handled = none) (hit : s.heap.IsKeyIter it d i es.size ep) (hm : EntAt s.heap d es ep) (hge : es.size ≤ i) (hQ : ∀ h', Heap.ExtBut it s.heap h' → Q none { s with heap := h' }) : wpAny (model prog w) A (pyNext (.ref it)) Q E s := by
 obtain ⟨⟨cls, dd, dt, sl⟩, h1, h2, h3⟩ := id hit
 simp only at h2 h3
 subst h2 h3
 obtain ⟨od, g1, g2, g3⟩ := id hm
 have hT := hit.typeIs
 refine wpAny_bind (wpAny_attempt (wpAny_callSpecial?_slot hT F.slot_dict_keyiterator_next (wpAny_call_entry F.slot_dict_keyiterator_next hT F.entry_dict_keyiterator_next ?_ (F.args_dict_keyiterator_next_1 _))))
 wp_walk using wpAny_typeNameOfWhole_keyiter hT, wpAny_fieldsOf h1 rfl, wpAny_dictEntries g1 g3, wpAny_dictEpoch g1 g3, wpAny_isOneOf_keyiter hT
 rw [show (if (i : Int) < 0 then none else es[(i : Int).toNat]?) = none by rw [if_neg (by omega)]; simpa using hge]
 wp_walk using wpAny_typeNameOfWhole_keyiter hT, wpAny_isOneOf_keyiter hT
 refine wpAny_raiseNew_none hh (wpAny_bind (wpAny_isInstance (b := true) ⟨_, Heap.get?_push_size _ rfl, rfl⟩ isSubtype_stop (wpAny_pure (hQ _ fun b o hb e => ?_))))
 exact Heap.get?_push_of_some _ (Heap.get?_push_of_some _ (by rw [Heap.get?_update_other _ _ hb.symm]; exact e))
theorem ent_walks (hh : A.handled = none) (I d : Addr) (hne : d ≠ I) (es : Array DictEntry) (ep : Nat) :
 Walks prog w A I [I, d] [I] es.size (fun i v => ∃ e, es[i]? = some e ∧ v = e.key) (fun i h => h.IsKeyIter I d i es.size ep ∧ EntAt h d es ep) where
 sub := fun b hb => by rw [List.mem_singleton.mp hb]; exact .head _
 frame := fun _ _ _ ⟨x, y⟩ hk => ⟨x.at fun o e => hk I (by simp) o e, y.at' fun o e => hk d (by simp) o e⟩
 item := fun i t Q E hi st hQ => by
  refine ent_item st.1 st.2 hi fun h' hit' hs' => ?_
  exact hQ _ h' t.toks ⟨es[i], Array.getElem?_eq_getElem hi, rfl⟩ ⟨hit', st.2.at' fun o e => hs'.extBut d o hne e⟩ fun b o hb e => hs'.extBut b o (fun h => hb (by simp [h])) e
 done := fun s Q E st hQ => ent_end hh st.1 st.2 (Nat.le_refl _) fun h' he' => hQ h' s.toks fun b o hb e => he' b o (fun h => hb (by simp [h])) e
 self := fun _ _ _ _ ⟨x, _⟩ hQ => wpAny_pyIter_keyiter x hQ
theorem ent_src (lo : (d == sysModules) = false) : PySem.W.KdlSrc prog w "dict" d d es.size (fun i v => ∃ e, es[i]? = some e ∧ v = e.key) (fun h => EntAt h d es ep) where
 type := fun _ hm => hm.ty
 there := fun _ hm => ⟨hm.lt, hm.lt⟩
 keep := fun _ _ x hk => x.at' fun o e => hk d (.inl rfl) o e
 notList := by decide
 notTuple := by decide
 hint := fun _ _ _ _ hm hq => PySem.W.kdl_hint_dict hm.ty hq
 iter := fun _ _ hh hm => ⟨_, _, (fun _ _ hq => ent_iter lo hm hq), ent_walks hh _ d (Nat.ne_of_lt hm.lt) es ep, ⟨⟨_, Heap.get?_push_size _ rfl, rfl, rfl⟩, hm.at' fun o e => Heap.get?_push_of_some _ e⟩⟩
end
theorem paired_get {α β : Type} {F : α → β → Prop} : ∀ {l₁ : List α} {l₂ : List β}, Paired F l₁ l₂ → ∀ {i : Nat} {a : α}, l₁[i]? = some a → ∃ b, l₂[i]? = some b ∧ F a b
 | _, _, .nil, i, a, e => by simp at e
 | _, _, .cons r t, i, a, e => by
  cases i with
  | zero => simp at e; subst e; exact ⟨_, rfl, r⟩
  | succ i =>
   obtain ⟨b, h1, h2⟩ := paired_get t (i := i) (a := a) (by simpa using e)
   exact ⟨b, by simpa using h1, h2⟩
def pLt (x y : List Int × Int) : Bool := if x.1 = y.1 then decide (x.2 < y.2) else HT.lexLt x.1 y.1
theorem pLt_irr (x : List Int × Int) : pLt x x = false := by unfold pLt; rw [if_pos rfl]; exact decide_eq_false (by omega)
theorem pLt_asy {x y : List Int × Int} (h : pLt x y = true) : pLt y x = false := by
 unfold pLt at h ⊢
 by_cases e : x.1 = y.1
 · rw [if_pos e] at h; rw [if_pos e.symm]; have := of_decide_eq_true h; exact decide_eq_false (by omega)
 · rw [if_neg e] at h; rw [if_neg (Ne.symm e)]; exact lexLt_asy h
theorem lexLt_ntr {a b c : List Int} (h1 : HT.lexLt b a = false) (h2 : HT.lexLt c b = false) : HT.lexLt c a = false := by
 cases e : HT.lexLt c a with
 | false => rfl
 | true =>
  rcases lexLt_total a b with h | h | h
  · have := lexLt_tr e h; rw [h2] at this; cases this
  · rw [h] at e; rw [h2] at e; cases e
  · rw [h1] at h; cases h
theorem pLt_ntr {a b c : List Int × Int} (h1 : pLt b a = false) (h2 : pLt c b = false) : pLt c a = false := by
 unfold pLt at h1 h2 ⊢
 by_cases e1 : b.1 = a.1
 · rw [if_pos e1] at h1
   have h1 := of_decide_eq_false h1
   by_cases e2 : c.1 = b.1
   · rw [if_pos e2] at h2
     have h2 := of_decide_eq_false h2
     rw [if_pos (e2.trans e1)]
     exact decide_eq_false (by omega)
   · rw [if_neg e2] at h2
     rw [if_neg (fun e => e2 (e.trans e1.symm)), ← e1]
     exact h2
 · rw [if_neg e1] at h1
   by_cases e2 : c.1 = b.1
   · rw [if_neg (fun e => e1 (e2.symm.trans e)), e2]; exact h1
   · rw [if_neg e2] at h2
     by_cases e3 : c.1 = a.1
     · rcases lexLt_total a.1 b.1 with h | h | h
       · rw [← e3, h2] at h; cases h
       · exact absurd h.symm e1
       · rw [h1] at h; cases h
     · rw [if_neg e3]; exact lexLt_ntr h1 h2
def pkey (H : Hp) : Value → List Int × Int
 | .ref a => match H a with
  | some (.tup [.ref b, .int n]) => (tkey H (.ref b), n)
  | _ => ([], 0)
 | _ => ([], 0)
theorem pkey_of {H : Hp} {a b : Addr} {n : Int} {w : List Int} (h : H a = some (.tup [.ref b, .int n])) (hb : H b = some (.tup (w.map V.int))) : pkey H (.ref a) = (w, n) := by
 show (match H a with | some (.tup [.ref b, .int n]) => (tkey H (.ref b), n) | _ => ([], 0)) = _
 rw [h]
 show (tkey H (.ref b), n) = _
 rw [tkey_of hb]
theorem ord_pair (key : Keyed → List Int × Int) : Tim.Ord fun x y => pLt (key x) (key y) := ⟨fun a => pLt_irr _, fun a b h => pLt_asy h, fun a b c h1 h2 => pLt_ntr h1 h2⟩
def vT (ks : List (List Int × Int)) : List (List Key × V) := ks.map fun q => (q.1.map Sum.inl, V.int q.2)
theorem inl_inj {a b : List Int} (h : (a.map Sum.inl : List Key) = b.map Sum.inl) : a = b := (List.map_inj_right fun _ _ h => Sum.inl.inj h).mp h
theorem kV_inl (u : List Int) : ((u.map Sum.inl : List Key).map kV) = u.map V.int := by rw [List.map_map]; rfl
def tlook : List (List Int × Int) → List Int → Option Int
 | [], _ => none
 | q :: ks, n => if q.1 = n then some q.2 else tlook ks n
def tput : List (List Int × Int) → List Int → Int → List (List Int × Int)
 | [], n, m => [(n, m)]
 | q :: ks, n, m => if q.1 = n then (n, m) :: ks else q :: tput ks n m
theorem val_vT : ∀ (ks : List (List Int × Int)) (n : List Int), valV (vT ks) (n.map Sum.inl) = (tlook ks n).map V.int
 | [], _ => rfl
 | q :: ks, n => by
  have e0 : vT (q :: ks) = ((q.1.map Sum.inl : List Key), V.int q.2) :: vT ks := rfl
  by_cases e : q.1 = n
  · rw [e0, valV_pos (by show (q.1.map Sum.inl : List Key) = _; rw [e])]
    show _ = Option.map V.int (if q.1 = n then some q.2 else tlook ks n)
    rw [if_pos e]; rfl
  · rw [e0, valV_neg (fun z => e (inl_inj z)), val_vT ks n]
    show _ = Option.map V.int (if q.1 = n then some q.2 else tlook ks n)
    rw [if_neg e]
theorem vT_keys (ks : List (List Int × Int)) (n : List Int) : ((vT ks).any fun p => decide (p.1 = (n.map Sum.inl : List Key))) = decide (n ∈ ks.map (·.1)) := by
 induction ks with
 | nil => rfl
 | cons q ks ih =>
  show (decide ((q.1.map Sum.inl : List Key) = n.map Sum.inl) || (vT ks).any fun p => decide (p.1 = (n.map Sum.inl : List Key))) = _
  rw [ih]
  by_cases e : q.1 = n
  · rw [decide_eq_true (show (q.1.map Sum.inl : List Key) = n.map Sum.inl by rw [e]), decide_eq_true (show n ∈ (q :: ks).map (·.1) by rw [← e]; exact .head _)]; rfl
  · rw [decide_eq_false (fun z => e (inl_inj z))]
    show decide _ = decide _
    by_cases h : n ∈ ks.map (·.1)
    · rw [decide_eq_true h, decide_eq_true (show n ∈ (q :: ks).map (·.1) from .tail _ h)]
    · rw [decide_eq_false h, decide_eq_false (fun z => by
       rcases List.mem_cons.mp z with z | z
       · exact e z.symm
       · exact h z)]
theorem tput_in : ∀ {ks : List (List Int × Int)} {n : List Int} (m : Int), (ks.map (·.1)).Nodup → n ∈ ks.map (·.1) → tput ks n m = ks.map fun q => if q.1 = n then (q.1, m) else q
 | q :: ks, n, m, nd, h => by
  rw [List.map_cons, List.nodup_cons] at nd
  show (if q.1 = n then (n, m) :: ks else q :: tput ks n m) = _
  by_cases e : q.1 = n
  · rw [if_pos e, List.map_cons, if_pos e, e]
    congr 1
    have hn : n ∉ ks.map (·.1) := by rw [← e]; exact nd.1
    clear nd h
    induction ks with
    | nil => rfl
    | cons r ks ih => rw [List.map_cons, if_neg (fun z => hn (by rw [← z]; exact .head _)), ← ih fun z => hn (.tail _ z)]
  · rw [if_neg e, List.map_cons, if_neg e]
    rcases List.mem_cons.mp h with z | z
    · exact absurd z.symm e
    · rw [tput_in m nd.2 z]
theorem tput_out : ∀ {ks : List (List Int × Int)} {n : List Int} (m : Int), n ∉ ks.map (·.1) → tput ks n m = ks ++ [(n, m)]
 | [], _, _, _ => rfl
 | q :: ks, n, m, h => by
  show (if q.1 = n then (n, m) :: ks else q :: tput ks n m) = _
  rw [if_neg (fun z => h (by rw [← z]; exact .head _)), tput_out m fun z => h (.tail _ z)]; rfl
theorem put_vT {ks : List (List Int × Int)} (n : List Int) (m : Int) (nd : (ks.map (·.1)).Nodup) : putK (vT ks) (n.map Sum.inl) (.int m) = vT (tput ks n m) := by
 unfold putK
 rw [vT_keys]
 by_cases h : n ∈ ks.map (·.1)
 · rw [if_pos (decide_eq_true h), tput_in m nd h]
   unfold vT
   rw [List.map_map, List.map_map]
   refine List.map_congr_left fun q _ => ?_
   by_cases e : q.1 = n
   · simp [e]
   · have h2 : ¬ ((q.1.map Sum.inl : List Key) = n.map Sum.inl) := fun z => e (inl_inj z)
     show (if (q.1.map Sum.inl : List Key) = n.map Sum.inl then _ else _) = ((if q.1 = n then (q.1, m) else q).1.map Sum.inl, V.int (if q.1 = n then (q.1, m) else q).2)
     rw [if_neg h2, if_neg e]
 · rw [if_neg (fun z => h (of_decide_eq_true z)), tput_out m h]
   unfold vT
   rw [List.map_append]; rfl
theorem tput_keys : ∀ (ks : List (List Int × Int)) (n : List Int) (m : Int), (tput ks n m).map (·.1) = if n ∈ ks.map (·.1) then ks.map (·.1) else ks.map (·.1) ++ [n]
 | [], n, m => by rw [if_neg (by simp)]; rfl
 | q :: ks, n, m => by
  show (if q.1 = n then (n, m) :: ks else q :: tput ks n m).map (·.1) = _
  by_cases e : q.1 = n
  · rw [if_pos e, if_pos (by rw [← e]; exact .head _), List.map_cons, List.map_cons, e]
  · rw [if_neg e, List.map_cons, List.map_cons, tput_keys ks n m]
    by_cases h : n ∈ ks.map (·.1)
    · rw [if_pos h, if_pos (.tail _ h)]
    · rw [if_neg h, if_neg (fun z => by
       rcases List.mem_cons.mp z with z | z
       · exact e z.symm
       · exact h z)]; rfl
theorem tput_nodup {ks : List (List Int × Int)} (n : List Int) (m : Int) (nd : (ks.map (·.1)).Nodup) : ((tput ks n m).map (·.1)).Nodup := by
 rw [tput_keys]
 split
 · exact nd
 · rename_i h
   refine List.nodup_append.mpr ⟨nd, List.nodup_cons.mpr ⟨fun h => (nomatch h), List.nodup_nil⟩, fun a ha b hb => ?_⟩
   rw [List.mem_singleton.mp hb]
   exact fun e => h (by rw [← e]; exact ha)
theorem tput_len : ∀ (ks : List (List Int × Int)) (n : List Int) (m : Int), (tput ks n m).length ≤ ks.length + 1
 | [], n, m => by show 1 ≤ _; omega
 | q :: ks, n, m => by
  show (if q.1 = n then (n, m) :: ks else q :: tput ks n m).length ≤ _
  have := tput_len ks n m
  split <;> simp only [List.length_cons] <;> omega
theorem tput_mem : ∀ {ks : List (List Int × Int)} {n : List Int} {m : Int} {q : List Int × Int}, q ∈ tput ks n m → q ∈ ks ∨ q = (n, m)
 | [], n, m, q, h => .inr (List.mem_singleton.mp h)
 | r :: ks, n, m, q, h => by
  have h : q ∈ (if r.1 = n then (n, m) :: ks else r :: tput ks n m) := h
  by_cases e : r.1 = n
  · rw [if_pos e] at h
    rcases List.mem_cons.mp h with z | z
    · exact .inr z
    · exact .inl (.tail _ z)
  · rw [if_neg e] at h
    rcases List.mem_cons.mp h with z | z
    · exact .inl (by rw [z]; exact .head _)
    · rcases tput_mem z with y | y
      · exact .inl (.tail _ y)
      · exact .inr y
theorem tlook_some : ∀ {ks : List (List Int × Int)} {n : List Int} {c : Int}, tlook ks n = some c → (n, c) ∈ ks
 | q :: ks, n, c, h => by
  have h : (if q.1 = n then some q.2 else tlook ks n) = some c := h
  by_cases e : q.1 = n
  · rw [if_pos e] at h; cases h; rw [← e]; exact .head _
  · rw [if_neg e] at h; exact .tail _ (tlook_some h)
theorem tlook_mem {ks : List (List Int × Int)} (nd : (ks.map (·.1)).Nodup) {q : List Int × Int} (h : q ∈ ks) : tlook ks q.1 = some q.2 := by
 induction ks with
 | nil => cases h
 | cons r ks ih =>
  rw [List.map_cons, List.nodup_cons] at nd
  show (if r.1 = q.1 then some r.2 else tlook ks q.1) = _
  rcases List.mem_cons.mp h with z | z
  · rw [z, if_pos rfl]
  · rw [if_neg (fun e => nd.1 (by rw [e]; exact List.mem_map.mpr ⟨q, z, rfl⟩))]
    exact ih nd.2 z
theorem tlook_none : ∀ {ks : List (List Int × Int)} {n : List Int}, n ∉ ks.map (·.1) → tlook ks n = none
 | [], _, _ => rfl
 | q :: ks, n, h => by
  show (if q.1 = n then some q.2 else tlook ks n) = _
  rw [if_neg (fun e => h (by rw [← e]; exact .head _)), tlook_none fun z => h (.tail _ z)]
def wsum (g : List Int → Int) (ks : List (List Int × Int)) : Int := (ks.map fun q => q.2 * g q.1).sum
theorem wsum_nil (g : List Int → Int) : wsum g [] = 0 := rfl
theorem wsum_cons (g : List Int → Int) (q : List Int × Int) (ks : List (List Int × Int)) : wsum g (q :: ks) = q.2 * g q.1 + wsum g ks := by unfold wsum; rw [List.map_cons, List.sum_cons]
theorem wsum_append (g : List Int → Int) : ∀ (a b : List (List Int × Int)), wsum g (a ++ b) = wsum g a + wsum g b
 | [], b => by rw [List.nil_append, wsum_nil, Int.zero_add]
 | q :: a, b => by rw [List.cons_append, wsum_cons, wsum_cons, wsum_append g a b, Int.add_assoc]
theorem wsum_tput (g : List Int → Int) : ∀ (ks : List (List Int × Int)) (n : List Int) (m : Int), wsum g (tput ks n ((tlook ks n).getD 0 + m)) = wsum g ks + m * g n
 | [], n, m => by
  show wsum g [(n, 0 + m)] = _
  rw [wsum_cons, wsum_nil]; show (0 + m) * g n + 0 = 0 + m * g n
  rw [Int.zero_add, Int.add_zero, Int.zero_add]
 | q :: ks, n, m => by
  show wsum g (if q.1 = n then (n, (if q.1 = n then some q.2 else tlook ks n).getD 0 + m) :: ks else q :: tput ks n ((if q.1 = n then some q.2 else tlook ks n).getD 0 + m)) = _
  by_cases e : q.1 = n
  · rw [if_pos e, if_pos e, wsum_cons, wsum_cons, e]
    show (q.2 + m) * g n + wsum g ks = q.2 * g n + wsum g ks + m * g n
    rw [Int.add_mul]; omega
  · rw [if_neg e, if_neg e, wsum_cons, wsum_cons, wsum_tput g ks n m]; omega
theorem perm_sum {a b : List Int} (h : a.Perm b) : a.sum = b.sum := by
 induction h with
 | nil => rfl
 | cons x _ ih => rw [List.sum_cons, List.sum_cons, ih]
 | swap x y l => rw [List.sum_cons, List.sum_cons, List.sum_cons, List.sum_cons]; omega
 | trans _ _ h1 h2 => exact h1.trans h2
theorem wsum_perm (g : List Int → Int) {a b : List (List Int × Int)} (h : a.Perm b) : wsum g a = wsum g b := by
 unfold wsum; exact perm_sum (h.map _)
theorem wsum_nonneg {g : List Int → Int} (hg : ∀ l, 0 ≤ g l) : ∀ {ks : List (List Int × Int)}, (∀ q ∈ ks, 0 ≤ q.2) → 0 ≤ wsum g ks
 | [], _ => Int.le_refl _
 | q :: ks, h => by
  rw [wsum_cons]
  have h1 := wsum_nonneg hg (ks := ks) fun r hr => h r (.tail _ hr)
  have h2 : 0 ≤ q.2 * g q.1 := Int.mul_nonneg (h q (.head _)) (hg _)
  omega
def RisT (fs : List (List Int × Int)) : Prop := fs.Pairwise fun a b => HT.lexLt a.1 b.1 = true
theorem RisT.nodup {fs : List (List Int × Int)} (h : RisT fs) : (fs.map (·.1)).Nodup := by
 unfold List.Nodup
 rw [List.pairwise_map]
 exact h.imp fun {a b} z e => by rw [e, lexLt_irr] at z; cases z
theorem risT_uniq : ∀ {a b : List (List Int × Int)}, RisT a → RisT b → a.Perm b → a = b
 | [], b, _, _, h => by rw [List.nil_perm.mp h]
 | q :: a, [], _, _, h => by have := h.length_eq; simp at this
 | q :: a, r :: b, h1, h2, h => by
  have h1' := List.pairwise_cons.mp h1
  have h2' := List.pairwise_cons.mp h2
  have e : q = r := by
   rcases List.mem_cons.mp (h.mem_iff.mp (.head _)) with z | z
   · exact z
   · rcases List.mem_cons.mp (h.mem_iff.mpr (.head _)) with y | y
     · exact y.symm
     · have u := h2'.1 q z
       have v := h1'.1 r y
       rw [lexLt_asy u] at v; cases v
  subst e
  rw [risT_uniq h1'.2 h2'.2 h.cons_inv]
theorem risT_of {us : List (List Int)} (nd : us.Nodup) (h : us.Pairwise fun u v => HT.lexLt v u = false) : us.Pairwise fun u v => HT.lexLt u v = true := by
 unfold List.Nodup at nd
 refine (h.and nd).imp fun {a b} ⟨h1, h2⟩ => ?_
 rcases lexLt_total a b with z | z | z
 · exact z
 · exact absurd z h2
 · rw [h1] at z; cases z
theorem sort_keysT {ks : List (List Int × Int)} {us : List (List Int)} (nd : (ks.map (·.1)).Nodup) (hp : us.Perm (ks.map (·.1))) (hs : us.Pairwise fun u v => HT.lexLt v u = false) :
 RisT (us.map fun u => (u, (tlook ks u).getD 0)) ∧ (us.map fun u => (u, (tlook ks u).getD 0)).Perm ks := by
 refine ⟨?_, ?_⟩
 · unfold RisT
   rw [List.pairwise_map]
   exact risT_of (hp.nodup_iff.mpr nd) hs
 · have h := hp.map fun u => (u, (tlook ks u).getD 0)
   rw [List.map_map] at h
   refine h.trans ?_
   have e : List.map ((fun u => (u, (tlook ks u).getD 0)) ∘ fun x : List Int × Int => x.1) ks = ks := by
    conv => rhs; rw [← List.map_id ks]
    refine List.map_congr_left fun q hq => ?_
    show (q.1, (tlook ks q.1).getD 0) = q
    rw [tlook_mem nd hq]; rfl
   rw [e]
theorem sort_itemsT {ks qs : List (List Int × Int)} (nd : (ks.map (·.1)).Nodup) (hp : qs.Perm ks) (hs : qs.Pairwise fun u v => pLt v u = false) : RisT qs := by
 have nd' : (qs.map (·.1)).Nodup := (hp.map _).nodup_iff.mpr nd
 have h := risT_of nd' (by
  rw [List.pairwise_map]
  refine hs.imp fun {a b} h => ?_
  unfold pLt at h
  by_cases e : b.1 = a.1
  · rw [e]; exact lexLt_irr _
  · rw [if_neg e] at h; exact h)
 rw [List.pairwise_map] at h
 exact h
theorem snoc_ind {α : Type} {p : List α → Prop} (h0 : p []) (h1 : ∀ l a, p l → p (l ++ [a])) : ∀ l, p l := fun l => by
 rw [← List.reverse_reverse l]
 induction l.reverse with
 | nil => exact h0
 | cons a r ih => rw [List.reverse_cons]; exact h1 _ _ ih
def cntF (fs : List (List Int × Int)) (n : Int) : Int := wsum (fun l => ((l.count n : Nat) : Int)) fs
def lessF (qs : List (Int × Int)) (fs : List (List Int × Int)) : List (Int × Int) := (qs.map fun q => (q.1, q.2 - cntF fs q.1)).filter fun q => decide (0 < q.2)
theorem cntF_nil (n : Int) : cntF [] n = 0 := rfl
theorem cntF_append (a b : List (List Int × Int)) (n : Int) : cntF (a ++ b) n = cntF a n + cntF b n := wsum_append _ a b
theorem cntF_one (f : List Int × Int) (n : Int) : cntF [f] n = f.2 * ((f.1.count n : Nat) : Int) := by unfold cntF; rw [wsum_cons, wsum_nil, Int.add_zero]
theorem cntF_nonneg {fs : List (List Int × Int)} (h : ∀ f ∈ fs, 0 ≤ f.2) (n : Int) : 0 ≤ cntF fs n := wsum_nonneg (fun _ => Int.natCast_nonneg _) h
theorem lessF_nil {qs : List (Int × Int)} (h : ∀ q ∈ qs, 1 ≤ q.2) : lessF qs [] = qs := by
 unfold lessF
 have e : (qs.map fun q => (q.1, q.2 - cntF [] q.1)) = qs := by
  conv => rhs; rw [← List.map_id qs]
  exact List.map_congr_left fun q _ => by show (q.1, q.2 - 0) = q; rw [Int.sub_zero]
 rw [e, List.filter_eq_self]
 exact fun q hq => decide_eq_true (by have := h q hq; omega)
theorem lessF_two {qs : List (Int × Int)} {a b : List (List Int × Int)} (hb : ∀ f ∈ b, 0 ≤ f.2) : lessF (lessF qs a) b = lessF qs (a ++ b) := by
 unfold lessF
 induction qs with
 | nil => rfl
 | cons q qs ih =>
  have hc := cntF_nonneg hb q.1
  have e := cntF_append a b q.1
  rw [List.map_cons, List.map_cons]
  by_cases h : 0 < q.2 - cntF a q.1
  · rw [List.filter_cons_of_pos (by exact decide_eq_true h), List.map_cons]
    by_cases h2 : 0 < q.2 - cntF a q.1 - cntF b q.1
    · rw [List.filter_cons_of_pos (by exact decide_eq_true h2), List.filter_cons_of_pos (by exact decide_eq_true (show 0 < q.2 - cntF (a ++ b) q.1 by omega)), ih]
      congr 2
      show q.2 - cntF a q.1 - cntF b q.1 = q.2 - cntF (a ++ b) q.1
      omega
    · rw [List.filter_cons_of_neg (by exact fun z => h2 (of_decide_eq_true z)), List.filter_cons_of_neg (by exact fun z => absurd (of_decide_eq_true z) (show ¬ 0 < q.2 - cntF (a ++ b) q.1 by omega)), ih]
  · rw [List.filter_cons_of_neg (by exact fun z => h (of_decide_eq_true z)), List.filter_cons_of_neg (by exact fun z => absurd (of_decide_eq_true z) (show ¬ 0 < q.2 - cntF (a ++ b) q.1 by omega)), ih]
def tTry1 (K : PySem.W.Frag) (c : Value) (tb : TSx) (ts : TS) : TS := fun D σ H => tb D (fun cls σ1 H1 => PySem.W.exmOne K cls c = some true ∧ ∃ C, cls = .ref C ∧ ∀ ea, H1 ea = none → ts D σ1 (upd H1 ea (ExcO ea C))) σ H
section
variable {X : Cx} {x : Str} {pos : Pos}
theorem ps_try1 {body : List Stmt} {b0 : Stmt} {suite : List Stmt} {np hpos : Pos} {c : Value} {tb : TSx} {ts : TS} (hex : X.ex = []) (hstk : X.stack = X.env :: X.outer) (hfr : X.env.frame = some X.env.locals)
 (hg : Gl X x) (hm : X.mg x = some c) (hdb : (x == ("__debug__" : Str)) = false) (hb : PSsx X body tb) (hs : ∀ ea, PSs (mkd X ea) (b0 :: suite) ts) : PS X (.Try body [.ExceptHandler (some (.Name x np)) none (b0 :: suite) hpos] [] [] pos) (tTry1 X.K c tb ts) := by
 intro pins s σ H D I h
 refine wpAny_Try_except (wpAny_mono (hb pins s σ H D _ I h) (fun f s1 q => ?_) fun e s1 q => ?_)
 · cases f with
   | next => exact wpAny_execs_nil q
   | ret v => exact q
   | brk => exact q
   | cont => exact q
 · obtain ⟨ea, T, cls, σ1, H1, rfl, I1, ap, fly, hx, C, rfl, hk⟩ := q
   have fr' : X.A.frames = some (X.env :: X.outer) := by rw [← hstk]; exact I.ok.frames
   rw [hstk] at fly
   refine fly_note fr' (by rw [hfr]; rfl) fly fun h2 T2 fly2 p2 hT2 => ?_
   rw [← hstk] at fly fly2 p2
   have I2 := invPast I1 ap fly p2
   have ap2 := ap.next I1 hex hT2
   have hty : PySem.W.Looks (model X.prog X.w) h2 (typeOf (.ref ea)) (.ref C) := by
    obtain ⟨oe, vs, oT, ts', a0, f1, f2, _⟩ := fly2.at_
    exact ExcAt.ty ⟨oe, f1, f2⟩
   refine wpAny_handleBy_cons (codeAny_handlers_test ?_) (by intro q; cases q)
   refine ld_glob (mkd_inv (ea := ea) I2) hg hm ?_ hdb
   refine (PySem.W.exm_one I2.kIn hty hx).here ?_
   show codeAny _ _ _ _ _
   refine codeAny_handlers_suite (fly_land fly2 fun h3 T3 fly3 p3 hT3 => ?_)
   have I3 := invPast I2 ap2 fly2 p3
   have ap3 := ap2.next I2 hex hT3
   have exc : ExcAt ea C h3 := by
    obtain ⟨oe, vs, oT, ts', a0, f1, f2, _⟩ := fly3.at_
    exact ⟨oe, f1, f2⟩
   have I4 := invTrack I3 ap3 fly3 (o := ExcO ea C) (excO_ok exc)
   refine wpAny_mono (hs ea pins _ _ _ _ (mkd_inv (ea := ea) I4) (hk ea ap.he)) (fun f s6 q => ?_) fun _ _ z => False.elim z
   cases f with
   | next =>
    obtain ⟨σ', H', I', q⟩ := q
    exact ⟨σ', H', unmkd I' I, q⟩
   | ret v =>
    obtain ⟨v', σ', H', I', r', q⟩ := q
    exact ⟨v', σ', H', unmkd I' I, r', q⟩
   | brk =>
    obtain ⟨σ', H', I', q⟩ := q
    exact ⟨σ', H', unmkd I' I, q⟩
   | cont =>
    obtain ⟨σ', H', I', q⟩ := q
    exact ⟨σ', H', unmkd I' I, q⟩
theorem s_try1 {C B : Addr} {body : List Stmt} {b0 : Stmt} {suite : List Stmt} {np hpos : Pos} {tb : TSx} {ts : TS} (ec : ECls X.K X.mg x C B) (hex : X.ex = []) (hstk : X.stack = X.env :: X.outer) (hfr : X.env.frame = some X.env.locals)
 (hg : Gl X x) (hdb : (x == ("__debug__" : Str)) = false) (hb : JSsx X body tb) (hs : ∀ ea, JSs (mkd X ea) (b0 :: suite) ts) : JS X (.Try body [.ExceptHandler (some (.Name x np)) none (b0 :: suite) hpos] [] [] pos) (tTry1 X.K (.ref C) tb ts) := ⟨ps_try1 hex hstk hfr hg ec.mgx hdb hb.h fun ea => (hs ea).h⟩
end
theorem ECls.selfX {K : PySem.W.Frag} {mg : Str → Option Value} {x : Str} {C B : Addr} (e : ECls K mg x C B) : PySem.W.exmOne K (.ref C) (.ref C) = some true := by
 obtain ⟨_, _, ⟨cd, q1, q2⟩, h8⟩ := eclsIn_all e.inK
 unfold PySem.W.exmOne
 rw [if_pos (by show (PySem.W.mroIn K C (.type "BaseException") == some true) = true; rw [eclsMro e.inK]; simp [mroE])]
 unfold PySem.W.kitCls; dsimp only
 rw [if_pos (by rw [q1, h8]; rfl)]
 show PySem.W.mroIn K C (.ref C) = _
 rw [eclsMro e.inK]; simp [mroE]
end Br
namespace Br
def upD (t b : Int) : Int := -(-t / b)
def mostN (need s m : Int) (zs : List Int) : Int := min m (upD (need - zs.sum) s)
def tooLong (need s m more : Int) (rows : List (List Int)) : Prop := ∃ r ∈ rows, r.sum < need ∧ need ≤ r.sum + more ∧ 60 < (r.length : Int) + mostN need s m r
instance (need s m more : Int) (rows : List (List Int)) : Decidable (tooLong need s m more rows) := by unfold tooLong; exact inferInstance
end Br
namespace Br
open PySem PySem.Spec PySem.Calls PyProof.Rows L2
section
variable {X : Cx}
theorem s_augSub {i : Nat} {x : Str} {e : Expr} {te : TE} {pos pos' : Pos} (hi : At X.N i x) (hN : X.N.Nodup) (hx : Loc X.env.scope x) (hf : X.fn x = true) (he : JE X e te) : JS X (.AugAssign (.Name x pos') .Sub e pos) (tAug i te (ipI fun i j => i - j)) :=
 ⟨ps_aug hN hi.get hx he.h ip_sub (.inl hf)⟩
variable {k : Nat} {ps : List Str} {e fe : Expr} {es : List Expr} {t : TA} {pos : Pos}
end
def Dk (P : Program) (w : World) (D : Addr) (o : Obj) (vs : List (Key × Value)) : Prop := (∀ h : Heap, h.get? D = some o → h.DictOf (mixKind P w) D vs) ∧ ∀ v, o.data ≠ .cell v
theorem Dk.of {P : Program} {w : World} {h : Heap} {D : Addr} {vs : List (Key × Value)} (x : h.DictOf (mixKind P w) D vs) : ∃ o, h.get? D = some o ∧ Dk P w D o vs := by
 obtain ⟨o, es, ep, ho, hc, hd, hr⟩ := x
 exact ⟨o, ho, fun h' e => ⟨o, es, ep, e, hc, hd, hr⟩, fun v z => by rw [hd] at z; cases z⟩
theorem Dk.nil {P : Program} {w : World} (D : Addr) : Dk P w D { cls := .type "dict", dict := none, data := .dict #[] } [] := by
 refine ⟨fun h e => ?_, fun v z => by cases z⟩
 have n : Heap.DictOf (mixKind P w) (h.push { cls := .type "dict", data := .dict #[] }) h.objs.size [] := Heap.DictOf.new h
 obtain ⟨o, es, ep, ho, hr⟩ := n
 rw [Heap.get?_push_size _ rfl] at ho
 cases ho
 exact ⟨_, es, ep, e, hr⟩
theorem key_is {P : Program} {w : World} {k : Key} {u : Value} (r : RelV (kV k) u) : (mixKind P w).is k u = true := by
 cases k with
 | inl i => obtain ⟨t, rfl⟩ := r; simp [mixKind, keyIs, Value.isInt]
 | inr x => obtain ⟨t, rfl⟩ := r; simp [mixKind, keyIs, Value.isStrOf]
def CmpD (J : It) (g : TG) (tt : TT) (tk tv : TE) (σ0 : L2.St) (H0 : Hp) (Z : List (Key × V) → Hp → Prop) : Prop :=
 ∃ W : Nat → Nat → List (Key × V) → L2.St → Hp → Prop, (∃ m, W 0 m [] σ0 H0) ∧ ∀ i m ys σ' H', W i m ys σ' H' → ys.length < sizeLine ∧
  ((J.stop i H' ∧ Z ys H') ∨
   (J.go i H' ∧ ∀ x H2, J.yld i H' x H2 → g x σ' H2 fun σ3 H3 => tt σ3 H3 fun b H4 => if b = true then tk σ3 H4 fun y H5 => ∃ k, y = kV k ∧ tv σ3 H5 fun z H6 => ∃ m', m' < m ∧ W (i + 1) m' (putK ys k z) σ3 H6 else ∃ m', m' < m ∧ W (i + 1) m' ys σ3 H4))
section
variable {prog : Program} {w : World} {A : Around} {R : Result → Shared → Prop} {s : Shared}
theorem compLoop_goD {kx vx target iter : Expr} {ifs : List Expr} {scope : Scope} {pos : Pos} {it : Value} {D : Addr} {env : Env} (I : Nat → Shared → Prop)
 (turn : ∀ n s, I n s → wpAny (model prog w) A (pyNext it) (fun r s1 => match r with
  | none => R (.ok .next) s1
  | some v => wpAny (model prog w) A (letOwnedTupleGo target it v) (fun _ s1 => wpAny (model prog w) A (assign target env v) (fun _ s2 =>
   wpAny (model prog w) A (testsOf ifs env) (fun ok s3 =>
    if ok = true then wpAny (model prog w) A (eval kx env) (fun kv s4 => wpAny (model prog w) A (eval vx env) (fun vv s5 =>
     wpAny (model prog w) A (dictSet D kv vv) (fun _ s6 => ∃ m, m < n ∧ I m s6) (fun _ _ => False) s5) (fun _ _ => False) s4) (fun _ _ => False) s3
    else ∃ m, m < n ∧ I m s3) (fun _ _ => False) s2) (fun _ _ => False) s1) (fun _ _ => False) s1) (fun _ _ => False) s)
 (n : Nat) (h : I n s) : codeAny (model prog w) A (.compLoop (.DictComp kx vx [⟨target, iter, ifs, 0⟩] scope pos) 0 it (.ref D) env) R s := by
 apply codeAny_loop rfl I _ n h
 intro k s hI
 apply wpAny_noted
 apply wpAny_mono (E := fun _ _ => False) _ (fun _ _ q => q) fun _ _ f => f.elim
 rw [compTurn_dict]
 refine wpAny_bind (wpAny_standAt (wpAny_bind (thn (turn k s hI) fun r s1 q1 => ?_)))
 rcases r with _ | v
 · exact wpAny_pure q1
 refine wpAny_bind (thn q1 fun _ s2 q2 => wpAny_bind (thn q2 fun _ s3 q3 => wpAny_bind (thn q3 fun ok s4 q4 => ?_)))
 cases ok
 · exact wpAny_pure ⟨rfl, q4⟩
 · exact wpAny_bind (wpAny_bind (thn q4 fun kv s5 q5 => wpAny_bind (wpAny_holding (thn q5 fun vv s6 q6 => wpAny_bind (wpAny_standAt (wpAny_holding (thn q6 fun _ s7 q7 => wpAny_pure ⟨rfl, q7⟩)))))))
end
section
variable {X : Cx} {pins : List (Addr × Obj)} {σ : L2.St} {H2 : Hp} {s2 : Shared} {tg iter kx vx : Expr} {ifs : List Expr} {scope : Scope} {pos : Pos} {Nc : List Str} {g : TG} {tt : TT} {tk tv : TE}
theorem dcomp_block {it : Addr} {fp : List Addr} {tn : Nat → Heap → Prop} {J : It} {Z : List (Key × V) → Hp → Prop} {E : Value → Shared → Prop} {RR : Value → Addr → Result → Shared → Prop}
 (hc : X.calm = true) (S : CompS X scope) (I2 : Inv X pins σ H2 s2) (T : Turn X.prog X.w X.K tg J fp it tn) (st2 : tn 0 s2.heap) (f2 : ∀ b ∈ fp, FpOk X pins H2 b)
 (hg : ∀ C s H fp, PG (cxC X Nc scope C s H fp) tg g) (ht : ∀ C s H fp, PIfs (cxC X Nc scope C s H fp) ifs tt) (hk : ∀ C s H fp, PE (cxC X Nc scope C s H fp) kx tk) (hv : ∀ C s H fp, PE (cxC X Nc scope C s H fp) vx tv)
 (h : CmpD J g tt tk tv (List.replicate Nc.length none ++ σ) H2 Z)
 (hRR : ∀ D C s' H3 ys, Inv X pins σ (upd H3 D (.dK ys)) s' → H3 D = none → Z ys H3 → (∃ m, s'.heap.Ns C m) → FpOk X pins (upd H3 D (.dK ys)) C → RR (.ref D) C (.ok .next) s') :
 wpAny (model X.prog X.w) X.A (newDict) (fun acc s₃ => wpAny (model X.prog X.w) X.A (newFunctionEnv scope X.env.globals (clOf scope X.env) [] X.env.qual none .none (some X.env)) (fun cenv s₄ =>
  codeAny (model X.prog X.w) X.A (.compStart (.DictComp kx vx [⟨tg, iter, ifs, 0⟩] scope pos) 0 (.ref it) acc { cenv with scope := relabel scope X.env }) (RR acc cenv.locals) s₄) E s₃) E s2 := by
 refine wpAny_newObj_type (wpAny_newFunctionEnv S.nocell (by intro y hy; simp at hy) (fun h₁ hns₁ hsb₁ => ?_) S.kind)
 dsimp only at hns₁ hsb₁ ⊢
 have big := I2.big
 generalize hH2 : s2.heap.push { cls := .type "dict", dict := none, data := .dict #[] } = G at hns₁ hsb₁ ⊢
 have hC : G.objs.size = s2.heap.objs.size + 1 := by rw [← hH2, Heap.size_push]
 generalize hD0 : s2.heap.objs.size = D at *
 generalize hC0 : G.objs.size = C at *
 have hDC : D ≠ C := by omega
 have below : ∀ (b : Nat) o, s2.heap.get? b = some o → b < D := fun b o e => hD0 ▸ Heap.lt_size e
 have belC : ∀ (b : Nat) o, s2.heap.get? b = some o → b ≠ C := fun b o e => by have := below b o e; omega
 have belD : ∀ (b : Nat) o, s2.heap.get? b = some o → b ≠ D := fun b o e => by have := below b o e; omega
 have old : ∀ b o, s2.heap.get? b = some o → h₁.get? b = some o := fun b o e => hsb₁.extBut b o (belC b o e) (by
  have q := Heap.get?_push_of_some { cls := .type (if (some X.env).isSome then "dict" else "frame"), data := .dict #[] } (hH2 ▸ Heap.get?_push_of_some _ e : G.get? b = some o)
  exact q)
 have hacc : h₁.get? D = some { cls := .type "dict", dict := none, data := .dict #[] } := hsb₁.extBut _ _ hDC (Heap.get?_push_of_some _ (by rw [← hH2, ← hD0]; exact Heap.get?_push_size _ rfl))
 have hsys : (D == sysModules) = false := by
  rw [beq_eq_false_iff_ne]; intro z; rw [z] at big; exact Nat.lt_irrefl _ big
 obtain ⟨W, ⟨m0, w0⟩, turn⟩ := h
 have hob : ∀ b ∈ fp, ∃ o, s2.heap.get? b = some o := fun b hb => let ⟨o, e, _⟩ := T.obj _ _ st2 b hb; ⟨o, e⟩
 have hfpD : ∀ b : Nat, b ∈ fp → b < D := fun b hb => let ⟨o, e⟩ := hob b hb; below b o e
 have hfpN : ∀ b : Nat, b ∈ fp → b ≠ D := fun b hb => Nat.ne_of_lt (hfpD b hb)
 have hcells : ∀ y ∈ scope.names, y.2 = .free → ∃ c, X.env.cells.lookup y.1 = some c := fun y hy e => I2.ok.has y.1 (S.free y hy e)
 have hsub : ∀ {x : Str} {c : Addr}, (clOf scope X.env).lookup x = some c → X.env.cells.lookup x = some c := fun e => (clOf_sub hcells e).1
 have hclt : ∀ x c, (clOf scope X.env).lookup x = some c → c < D := fun x c e => let ⟨v, q⟩ := I2.cell x c (hsub e); hD0 ▸ q.lt
 have hn0 : h₁.Ns C fun _ => none := hns₁
 have IB : Inv (cxC X Nc scope C s2 H2 fp) [] (List.replicate Nc.length none ++ σ) H2 { s2 with heap := h₁, toks := s2.toks + ([] : List (Str × Value)).length } :=
  inv_block (D := D) I2 S f2 hob (by omega) old hn0
 have hfs : ∀ b : Nat, D ≤ b → b ∉ (cxC X Nc scope C s2 H2 fp).fs := fun b hb hm => by
  obtain ⟨_, o, ho, _⟩ := IB.ok.funs.mem hm
  exact absurd (Nat.lt_of_lt_of_le (below b o ho) hb) (Nat.lt_irrefl _)
 have stat : ∀ {H' : Hp} {ps : List (Addr × Obj)}, (∀ p ∈ ps, Nat.le D p.1) → (∀ b ∈ fp, H' b = none) → ∀ b ∈ fp, FpOk (cxC X Nc scope C s2 H2 fp) ps H' b := fun {H' ps} hps hn b hb =>
  ⟨hn b hb, (let ⟨o, e⟩ := hob b hb; belC b o e), IB.ok.exfs b hb, .inl hb, fun x c e => (f2 b hb).2.2.2.2.1 x c (hsub e), fun p hp => Nat.ne_of_gt (Nat.lt_of_lt_of_le (hfpD b hb) (hps p hp))⟩
 have loop : ∀ s₃ : Shared, s₃ = { s2 with heap := h₁, toks := s2.toks + ([] : List (Str × Value)).length } →
  codeAny (model X.prog X.w) X.A (.compLoop (.DictComp kx vx [⟨tg, iter, ifs, 0⟩] scope pos) 0 (.ref it) (.ref D) (compEnvC scope (clOf scope X.env) C X.env)) (RR (.ref D) C) s₃ := by
  rintro s₃ rfl
  refine compLoop_goD (fun n s' => ∃ i ys σ' H' vs ob, Inv (cxC X Nc scope C s2 H2 fp) [(D, ob)] σ' H' s' ∧ KV ys vs ∧ Dk X.prog X.w D ob vs ∧ tn i s'.heap ∧ (∀ b ∈ fp, H' b = none) ∧ W i n ys σ' H') ?_ m0 ?_
  · rintro n s3 ⟨i, ys, σ3, H3, vs, ob, I3, rv, dk, st3, fr3, w3⟩
    obtain ⟨hz, tu⟩ := turn i n ys σ3 H3 w3
    have hps : ∀ p ∈ [((D : Addr), ob)], Nat.le D p.1 := fun p hp => by
     rcases List.mem_singleton.mp hp with rfl
     exact Nat.le_refl _
    rcases tu with ⟨stop, z⟩ | ⟨go, step⟩
    · refine thn (T.done (cxC X Nc scope C s2 H2 fp) rfl rfl rfl hc i _ s3 σ3 H3 (fun _ _ => False) I3 (stat hps fr3) st3 stop) fun r s4 ⟨hr, I4⟩ => ?_
      subst hr
      obtain ⟨eD, nD, _, _, _⟩ := I4.pin (D, ob) (List.mem_append_right _ (List.mem_singleton.mpr rfl))
      have eD : s4.heap.get? D = _ := eD
      have nD : H3 D = none := nD
      have u4 : Un (frs X.stack) fp H2 H3 s2.heap s4.heap := I4.base
      have hH2D : H2 D = none := I2.hok.fresh (by omega)
      have u5 : Un (frs X.stack) fp H2 (upd H3 D (.dK ys)) s2.heap s4.heap :=
       ⟨u4.keep, u4.slot, fun b o e n x => by rw [upd_ne (belD b o e)]; exact u4.free b o e n x, u4.there, fun b xs e => by rw [upd_ne (ne_of_none e hH2D)]; exact u4.tups b xs e,
        fun b o u e => by rw [upd_ne (ne_of_none e hH2D)]; exact u4.frzs b o u e, fun b ps e => by rw [upd_ne (ne_of_none e hH2D)]; exact u4.tbls b ps e⟩
      have hok : HOk X.prog X.w (upd H3 D (.dK ys)) s4.heap := fun b o e => by
       by_cases hb : b = D
       · subst hb; rw [upd_same] at e; cases e
         exact ⟨Nat.le_of_lt hz, hsys, vs, rv, dk.1 _ eD⟩
       · rw [upd_ne hb] at e
         exact (I4.hok b o e).stay (fun _ _ _ q => q) (fun c q => by rw [upd_ne (ne_of_none q nD)]; exact q) fun c xs q => by rw [upd_ne (ne_of_none q nD)]; exact q
      have I5 : Inv X pins σ (upd H3 D (.dK ys)) s4 := I2.call' (ch := fp) I4.os u5 hok I4.bare fun b hb => let ⟨a0, a1, a2, a3, a4, a5⟩ := f2 b hb; ⟨a3, a1, a4, a5⟩
      obtain ⟨m, hm, _⟩ := I4.loc
      refine hRR D C s4 H3 ys I5 nD z ⟨m, hm⟩ (I2.fpOk (by omega) ?_)
      rw [upd_ne (Ne.symm hDC)]; exact I4.free
    · refine thn (T.item (cxC X Nc scope C s2 H2 fp) rfl rfl rfl hc i _ s3 σ3 H3 (fun _ _ => False) I3 (stat hps fr3) st3 go) fun r s4 ⟨u, hr, h4⟩ => ?_
      subst hr
      refine thn h4 fun _ s5 ⟨x, H5, I5, r5, y5, st5, fr5⟩ => ?_
      have I5' := I5.pinned (stat hps fr5) (T.obj _ _ st5)
      refine thn (hg C s2 H2 fp _ s5 σ3 H5 x u _ I5' r5 (step x H5 y5)) fun _ s6 ⟨σ6, H6, I6, q6⟩ => ?_
      refine thn (ht C s2 H2 fp _ s6 σ6 H6 _ I6 q6) fun ok s7 ⟨H7, I7, q7⟩ => ?_
      have tnK : ∀ {σ' : L2.St} {H' : Hp} {s' : Shared}, Inv (cxC X Nc scope C s2 H2 fp) ([(D, ob)] ++ pinsAt fp s5.heap) σ' H' s' → tn (i + 1) s'.heap ∧ (∀ b ∈ fp, H' b = none) ∧ (∀ b ∈ fp, ∀ o, s5.heap.get? b = some o → s'.heap.get? b = some o) := fun {σ' H' s'} I' =>
       ⟨T.keep _ _ _ st5 fun b hb o e => (I'.pin (b, o) (List.mem_append_right _ (List.mem_append_right _ (mem_pinsAt hb e)))).1, fun b hb => by
        obtain ⟨o, e, d⟩ := T.obj _ _ st5 b hb
        exact (I'.pin (b, o) (List.mem_append_right _ (List.mem_append_right _ (mem_pinsAt hb e)))).2.1, fun b hb o e => (I'.pin (b, o) (List.mem_append_right _ (List.mem_append_right _ (mem_pinsAt hb e)))).1⟩
      cases ok with
      | false =>
       have q7 : ∃ m', m' < n ∧ W (i + 1) m' ys σ6 H7 := q7
       obtain ⟨m', hm, w7⟩ := q7
       obtain ⟨k1, k2, _⟩ := tnK I7
       exact ⟨m', hm, i + 1, ys, σ6, H7, vs, ob, I7.unpinned, rv, dk, k1, k2, w7⟩
      | true =>
       have q7 : tk σ6 H7 fun y H5 => ∃ k, y = kV k ∧ tv σ6 H5 fun z H6 => ∃ m', m' < n ∧ W (i + 1) m' (putK ys k z) σ6 H6 := q7
       refine thn (hk C s2 H2 fp _ s7 σ6 H7 _ I7 q7) fun yk s8 ⟨ykv, H8, I8, r8, ke, eke, q8⟩ => ?_
       subst eke
       refine thn (hv C s2 H2 fp _ s8 σ6 H8 _ I8 q8) fun y s9 ⟨yv, H9, I9, r9, m', hm, w9⟩ => ?_
       obtain ⟨k1, k2, k3⟩ := tnK I9
       obtain ⟨eD, nD, _, nfD, _⟩ := I9.pin (D, ob) (List.mem_append_right _ (List.mem_append_left _ (List.mem_singleton.mpr rfl)))
       have eD : s9.heap.get? D = _ := eD
       refine wpAny_dictSet_pairs (knd := mixKind X.prog X.w) (k := ke) (key_is r8) (dk.1 _ eD) (fun h' hm' sb => ?_) (by rw [← KV.length rv]; omega)
       obtain ⟨ob', eo, dk'⟩ := Dk.of hm'
       have I10 : Inv (cxC X Nc scope C s2 H2 fp) [] σ6 H9 { s9 with heap := h', toks := s9.toks + 1 } := (I9.pins_of (pins' := []) (fun p hp => nomatch hp)).turned (t' := s9.toks + 1) (it := D) (fun b o hb e => (sb.2 b hb).trans e) nD hDC (.inr (by show s2.heap.objs.size ≤ D; omega))
        (fun x c e => Nat.ne_of_lt (hclt x c e)) (fun p hp => absurd (show p ∈ ([] : List (Addr × Obj)) from hp) (by simp))
       refine ⟨m', hm, i + 1, putK ys ke yv, σ6, H9, _, ob', I10.pins_of fun p hp => ?_, rv.put ke r9, dk', T.keep _ _ _ k1 fun b hb o e => (sb.2 b (hfpN b hb)).trans e, k2, w9⟩
       rcases List.mem_singleton.mp hp with rfl
       exact ⟨eo, nD, hDC, nfD, dk'.2⟩
  · refine ⟨0, [], _, H2, [], _, IB.pins_of fun p hp => ?_, .nil, Dk.nil D, T.keep _ _ _ st2 fun b hb o e => old b o e, fun b hb => (f2 b hb).1, w0⟩
    rcases List.mem_singleton.mp hp with rfl
    exact ⟨hacc, I2.hok.fresh (by omega), hDC, hfs D (Nat.le_refl _), fun v z => by cases z⟩
 exact codeAny_compStart_dict (loop _ rfl) (T.self _ 0 _ _ _ (T.keep _ _ _ st2 fun b hb o e => old b o e) (loop _ rfl))
def tDComp (n : Nat) (wi : TI) (g : TG) (tt : TT) (tk tv : TE) : TE := fun σ H Q => wi σ H fun J H1 => CmpD J g tt tk tv (List.replicate n none ++ σ) H1 fun ys H' => ∀ p H2, H' p = none → L2.Same H' H2 → H2 p = some (.dK ys) → Q (.ref p) H2
theorem pe_dcomp {wi : TI} (hc : X.calm = true) (S : CompS X scope) (hs : ∀ x, foldedSetIterable iter X.env x = pure x) (hi : PI X tg iter wi)
 (hg : ∀ C s H fp, PG (cxC X Nc scope C s H fp) tg g) (ht : ∀ C s H fp, PIfs (cxC X Nc scope C s H fp) ifs tt) (hk : ∀ C s H fp, PE (cxC X Nc scope C s H fp) kx tk) (hv : ∀ C s H fp, PE (cxC X Nc scope C s H fp) vx tv) :
 PE X (.DictComp kx vx [⟨tg, iter, ifs, 0⟩] scope pos) (tDComp Nc.length wi g tt tk tv) := by
 intro pins s σ H Q I h
 rw [arm_eval_DictComp]
 have hcells : ∀ y ∈ scope.names, y.2 = .free → ∃ c, X.env.cells.lookup y.1 = some c := fun y hy e => I.ok.has y.1 (S.free y hy e)
 refine wpAny_comprehension_free (use := none) rfl hs (closure_of hcells) S.kind S.names (thn (hi pins s σ H _ I h) fun v s1 h1 => thn h1 fun itv s2 h2 => ?_)
 obtain ⟨it, fp, tn, J, H2, e, I2, T, st2, f2, z⟩ := h2
 subst e
 refine dcomp_block (RR := fun acc C => compPost (model X.prog X.w) X.A X.xe none (EP X pins σ Q) acc C) hc S I2 T st2 f2 hg ht hk hv z fun D C s' H3 ys I' hD hz hm hf => ?_
 obtain ⟨m, hm⟩ := hm
 exact ⟨m, hm, fun h' sb => ⟨.ref D, _, I'.turned (t' := s'.toks) (it := C) (fun b o hb e => (sb.2 b hb).trans e) hf.1 hf.2.1 hf.2.2.2.1 hf.2.2.2.2.1 hf.2.2.2.2.2, rfl, hz D _ hD (Br.Same.upd hD) upd_same⟩⟩
end
section
variable {X : Cx} {K : PySem.W.Frag} {x y : Str} {px py pt pos : Pos} {k : Nat} {iter kx vx : Expr} {ifs : List Expr} {scope : Scope} {wi : TI} {tt : TT} {tk tv : TE}
theorem k_dcomp2 (hK : X.K = K) (hc : X.calm = true) (S : compB X.env.scope.names X.N scope = true) (hs : ∀ x, foldedSetIterable iter X.env x = pure x) (hN : X.N.Nodup) (hxy : x ≠ y) (hx : scope.names.lookup x = some .local) (hy : scope.names.lookup y = some .local)
 (hi : JI X (.Tuple [.Name x px, .Name y py] k pt) iter wi) (ht : ∀ C s H fp, JIfs (cxC X [x, y] scope C s H fp) ifs tt) (hk : ∀ C s H fp, JE (cxC X [x, y] scope C s H fp) kx tk) (hv : ∀ C s H fp, JE (cxC X [x, y] scope C s H fp) vx tv) :
 JE X (.DictComp kx vx [⟨.Tuple [.Name x px, .Name y py] k pt, iter, ifs, 0⟩] scope pos) (tDComp 2 wi (gTup K 2 (gCons (gName 0) (gCons (gName 1) gNil))) tt tk tv) :=
 hK ▸ ⟨pe_dcomp (Nc := [x, y]) hc (.of S) hs hi.h (g_C2 hc (.of S) hN hxy hx hy) (fun C s H fp => (ht C s H fp).h) (fun C s H fp => (hk C s H fp).h) fun C s H fp => (hv C s H fp).h⟩
end
section
variable {a : Addr} {ob : Obj} {kvs : List (Key × V)} {g : TG} {tt : TT} {tk tv : TE} {σ0 : L2.St} {H0 : Hp} {Z : List (Key × V) → Hp → Prop}
theorem cmpd_items (hn : kvs.length ≤ 1000) (Pv : Nat → List (Key × V) → L2.St → Hp → Prop) (h0 : Pv 0 [] σ0 H0) (hl : ∀ i ys σ H, i ≤ kvs.length → Pv i ys σ H → H a = some (.frz ob (.dK kvs)) ∧ ys.length ≤ i)
 (hs : ∀ i kv ys σ H (T : Addr) (N : List (Key × V) → L2.St → Hp → Prop), kvs[i]? = some kv → Pv i ys σ H → H T = none → (∀ ys' σ' H', Pv (i + 1) ys' σ' H' → N ys' σ' H') →
  g (.ref T) σ (upd H T (.tup [kV kv.1, kv.2])) fun σ3 H3 => tt σ3 H3 fun b H4 => if b = true then tk σ3 H4 fun y H5 => ∃ k, y = kV k ∧ tv σ3 H5 fun z H6 => N (putK ys k z) σ3 H6 else N ys σ3 H4)
 (hd : ∀ ys σ H, Pv kvs.length ys σ H → Z ys H) : CmpD (Iti ob a kvs) g tt tk tv σ0 H0 Z := by
 have hsz : (sizeLine : Nat) = 16777216 := sizeLine_eq
 refine ⟨fun i m ys σ H => m = kvs.length - i ∧ i ≤ kvs.length ∧ Pv i ys σ H, ⟨kvs.length, by simp, Nat.zero_le _, h0⟩, ?_⟩
 rintro i m ys σ H ⟨rfl, hi, p⟩
 obtain ⟨q1, hy⟩ := hl i ys σ H hi p
 refine ⟨by omega, ?_⟩
 by_cases hlt : i < kvs.length
 · refine .inr ⟨⟨q1, hlt⟩, fun v H' yl => ?_⟩
   obtain ⟨kv, T, hk, rfl, hT, rfl⟩ := yl
   exact hs i kv ys σ H T (fun ys' σ' H' => ∃ m', m' < kvs.length - i ∧ m' = kvs.length - (i + 1) ∧ i + 1 ≤ kvs.length ∧ Pv (i + 1) ys' σ' H') hk p hT fun ys' σ' H' p' => ⟨kvs.length - (i + 1), by omega, rfl, hlt, p'⟩
 · have e : i = kvs.length := by omega
   subst e
   exact .inl ⟨⟨q1, Nat.le_refl _⟩, hd ys σ H p⟩
end
def ValsO (v a : Addr) : HO := .ext fun h => h.get? v = some { cls := .type "dict_values", data := .fields #[.ref a] }
def tVals (td : TE) : TE := fun σ H Q => td σ H fun x H1 => ∃ a kvs, x = .ref a ∧ H1 a = some (.dK kvs) ∧ ∀ v H2, H1 v = none → L2.Same H1 H2 → H2 v = some (ValsO v a) → Q (.ref v) H2
theorem pe_values {X : Cx} {o : Expr} {td : TE} {apos cpos : Pos} (ho : PE X o td) (m : M0 X o "values" apos cpos) : PE X (.Call (.Attribute o "values" apos) [] [] cpos) (tVals td) := by
 intro pins s σ H R I h
 refine wpAny_Call_method m.base m.few m.line PySem.F.plainAttrs_dict PySem.F.slot_dict_values PySem.F.type_dict_values (thn (ho pins s σ H _ I h) fun u s1 ⟨x, H1, I1, rx, a, kvs, ex, e, q1⟩ => ?_)
 subst ex
 obtain rfl : u = Value.ref a := rx
 obtain ⟨t1, t2, t3⟩ := isD_at I1 (.inl ⟨kvs, .inl e⟩)
 refine ⟨t1, t2, ?_⟩
 rw [m.trees]
 obtain ⟨z, hd, vs, rel, dd⟩ := dk_of I1.hok e
 refine Calls.callWith_builtin rfl (PySem.evalArgs_none ?_)
 refine call_meetsIn PySem.F.slot_dict_values t1 PySem.F.entry_dict_values (PySem.F.args_dict_values_1 _) (meets_dict_values (mixKind X.prog X.w) a t3) ⟨⟨vs, dd⟩, ?_⟩
 have hn : H1 s1.heap.objs.size = none := I1.hok.fresh (Nat.le_refl _)
 refine ⟨.ref s1.heap.objs.size, _, I1.laid (t' := s1.toks) (o := ValsO s1.heap.objs.size a) (fun b ob e => Heap.get?_push_of_some _ e) (Nat.le_refl _) ?_, rfl, q1 _ _ hn (Br.Same.upd hn) upd_same⟩
 exact ⟨Heap.get?_push_size _ rfl, ⟨_, Heap.get?_push_size _ rfl⟩, fun h1 h2 q k => k _ q⟩
theorem k_values {X : Cx} {o : Expr} {td : TE} {apos cpos : Pos} (h1 : attributeBase o "values" X.env (eval o X.env) = eval o X.env)
 (h2 : ((backTo cpos (starEach [] X.env)).all (fun x => !x.1) && (backToKw cpos (keywordEach [] X.env)).all (fun x => x.1.isSome)
  && decide (([] : List Expr).length + ([] : List Keyword).length + (if ([] : List Keyword).isEmpty then 0 else 1) < 30)) = true) (h3 : (apos.endLine == cpos.line) = true) (h4 : backTo cpos (starEach [] X.env) = []) (ho : JE X o td) :
 JE X (.Call (.Attribute o "values" apos) [] [] cpos) (tVals td) := ⟨pe_values ho.h ⟨h1, h2, h3, h4⟩⟩
def rSumV : List V → Hp → VK → Prop := fun xs H Q => ∃ (v a : Addr) (kvs : List (Key × V)) (ns : List Int), xs = [.ref v] ∧ H v = some (ValsO v a) ∧ H a = some (.dK kvs) ∧ kvs.map (·.2) = ns.map V.int ∧ Q (.int ns.sum) H
theorem call_sumV {X : Cx} (hc : X.calm = true) : CallR X (.builtin "sum") rSumV := by
 intro pins s σ H xs us Q I r h
 obtain ⟨v, a, kvs, ns, rfl, hv, ha, hns, q⟩ := h
 obtain ⟨u, rfl, rx⟩ := vals1 r
 cases rx
 have ev : s.heap.get? v = some { cls := .type "dict_values", data := .fields #[.ref a] } := (I.hok v _ hv).1
 obtain ⟨z, hd, vs, rel, dd⟩ := dk_of I.hok ha
 obtain ⟨ob, ds, ep, g, ex, dt, rest⟩ := dd
 have al := Heap.lt_size g
 have hkl : vs.length = ns.length := by rw [← rel.length, ← List.length_map (f := (·.2)), hns, List.length_map]
 refine call_sum_walkAnyS (wpAny_pyIter_values (knd := mixKind X.prog X.w) (kvs := vs) (ep := ep) ⟨_, ev, rfl, rfl⟩ ⟨ob, ds, g, ex, dt, rest⟩ ?_)
 have gp : ∀ b o', s.heap.get? b = some o' → ∀ n, (s.heap.push n).get? b = some o' := fun b o' q n => Heap.get?_push_of_some _ q
 refine ⟨s.heap.objs.size, _, _, _, _, _, _, fun i => ns.getD i 0, rfl, (Walks.dictValues (knd := mixKind X.prog X.w) (A := X.A.in1) (I.ok.hd hc) s.heap.objs.size a (Nat.ne_of_lt al) vs ep).toS, ⟨⟨_, Heap.get?_push_size _ rfl, rfl, rfl⟩, ⟨ob, ds, gp _ _ g _, ex, dt, rest⟩⟩, fun b hb => ?_, fun i v e => ?_, fun s' t' hm => ?_⟩
 · show b < (s.heap.push _).objs.size
   rw [Heap.size_push]
   rcases List.mem_cons.mp hb with e | hb
   · rw [e]; exact Nat.lt_succ_self _
   · rw [List.mem_singleton.mp hb]; exact Nat.lt_succ_of_lt al
 · obtain ⟨k, hk⟩ := e
   have hi : i < vs.length := (List.getElem?_eq_some_iff.mp hk).1
   have hkv : kvs[i]? = some (kvs[i]'(by rw [rel.length]; exact hi)) := List.getElem?_eq_getElem _
   obtain ⟨v', h1, h2⟩ := kvGet rel hkv
   rw [hk] at h1
   have e2 : v = v' := (Prod.mk.inj (Option.some.inj h1)).2
   subst e2
   have hn : ns[i]? = some (ns[i]'(by rw [← hkl]; exact hi)) := List.getElem?_eq_getElem _
   have h3 := congrArg (fun l : List V => l[i]?) hns
   simp only [List.getElem?_map, hkv, hn, Option.map_some] at h3
   rw [Option.some.inj h3] at h2
   obtain ⟨t, rfl⟩ := h2
   exact ⟨t, by show Value.int _ t = Value.int (ns.getD i 0) t; rw [List.getD_eq_getElem?_getD, hn]; rfl⟩
 · rw [hkl, preSum_take ns _ (Nat.le_refl _), List.take_length]
   have hk : ∀ b o, s.heap.get? b = some o → s'.heap.get? b = some o := fun b o e => hm.heap b o (fun hI => absurd (Heap.lt_size e) (by rw [List.mem_singleton.mp hI]; exact Nat.lt_irrefl _)) (Heap.get?_push_of_some _ e)
   rw [Moved.eq_with hm]
   exact ⟨.int ns.sum, H, I.kept hk, ⟨t', rfl⟩, q⟩
section
variable {X : Cx} {e : Expr} {es : List Expr} {t : TA} {pos p : Pos} {x : Str}
theorem k_sumV (hg : Gl X x) (he : starEach (e :: es) X.env = (false, eval e X.env) :: starEach es X.env) (hpl : (backTo pos (starEach es X.env)).any (·.1) = false) (hx : x = "sum") (hc : X.calm = true) (hm : X.mg x = none) (ha : JA X (e :: es) t) : JE X (.Call (.Name x p) (e :: es) [] pos) (tCB rSumV t) := ⟨by subst hx; exact pe_callB (call_sumV hc) hg hm boot_sum' ha.h (by decide) (by decide) he hpl⟩
end
def PrsAt (H : Hp) (as : List Addr) (qs : List (List Int × Int)) : Prop := as.length = qs.length ∧ ∀ (i : Nat) (a : Addr), as[i]? = some a → ∃ (q : List Int × Int) (c : Addr), qs[i]? = some q ∧ H a = some (.tup [.ref c, .int q.2]) ∧ H c = some (.tup (q.1.map V.int))
section
variable {X : Cx} {k : Nat}
theorem prs_pick {H : Hp} : ∀ {as : List Addr} {ks : List (List Int × Int)}, PrsAt H as ks → ∃ cs : List Addr, cs.length = ks.length ∧ ∀ (i : Nat) (a c : Addr) (q : List Int × Int), as[i]? = some a → cs[i]? = some c → ks[i]? = some q → H a = some (.tup [.ref c, .int q.2]) ∧ H c = some (.tup (q.1.map V.int))
 | [], [], _ => ⟨[], rfl, fun i a c q h => by cases h⟩
 | [], _ :: _, h => by have := h.1; simp at this
 | _ :: _, [], h => by have := h.1; simp at this
 | a :: as, q :: ks, h => by
  obtain ⟨cs, h1, h2⟩ := prs_pick (as := as) (ks := ks) ⟨by have := h.1; simpa using this, fun i a h' => h.2 (i + 1) a h'⟩
  obtain ⟨q', c, e1, e2, e3⟩ := h.2 0 a rfl
  cases e1
  refine ⟨c :: cs, by rw [List.length_cons, List.length_cons, h1], fun i a' c' q' x1 x2 x3 => ?_⟩
  cases i with
  | zero => cases x1; cases x2; cases x3; exact ⟨e2, e3⟩
  | succ i => exact h2 i a' c' q' x1 x2 x3
end
section
variable {X : Cx} {K : PySem.W.Frag} {e dv : Expr} {es : List Expr} {t : TA} {td : TE} {pos p kp : Pos} {x nm : Str}
def rMaxD (K : PySem.W.Frag) : List V → V → Hp → VK → Prop := fun xs d H Q => ∃ (p : Addr) (ns : List Int), xs = [.ref p] ∧ SqL K H p (ns.map V.int) ∧ (∀ v : Int, v ∈ ns → (∀ y ∈ ns, y ≤ v) → Q (.int v) H) ∧ (ns = [] → Q d H)
theorem call_maxD (hc : X.calm = true) : CallRD X (.builtin "max") (Str.ofString "default") (rMaxD X.K) := by
 intro pins s σ H xs us d dv Q I r rd h
 obtain ⟨p, ns, rfl, hq, q1, q0⟩ := h
 obtain ⟨u, rfl, rx⟩ := vals1 r
 cases rx
 obtain ⟨its, r', pl, hz⟩ := I.list hq
 have hp : p < s.heap.objs.size := by obtain ⟨_, _, e, _⟩ := pl; exact Heap.lt_size e
 have hl : its.length = ns.length := by rw [← r'.length, List.length_map]
 have hval : ∀ (i : Nat) (v : Value), its.toArray[i]? = some v → ∃ t, v = Value.int (ns.getD i 0) t := fun i v e => by
  obtain ⟨n, t, h1, h2⟩ := vals_int r' (by simpa using e)
  exact ⟨t, by rw [h2, List.getD_eq_getElem?_getD, h1]; rfl⟩
 refine maxCallD (wpAny_pyIter_list pl.isList ⟨s.heap.objs.size, _, _, _, _, _, rfl, Walks.list (A := X.A.in1) (I.ok.hd hc) s.heap.objs.size p (Nat.ne_of_lt hp) its.toArray, ⟨⟨_, Heap.get?_push_size _ rfl, rfl, rfl⟩, pl.isList.at fun o e => Heap.get?_push_of_some _ e⟩, fun b hb => ?_, fun hn => ⟨gtB ns, fun _ => True, trivial, ⟨fun _ _ _ _ => trivial, fun i j vi vj s' Q' E' _ e1 e2 hQ => CmpOf.ints_gt (fun i => ns.getD i 0) hval i j vi vj s' Q' E' e1 e2 hQ⟩, fun v h' tk e kp => ?_⟩, fun hn h' tk kp => ?_⟩)
 · show b < (s.heap.push _).objs.size
   rw [Heap.size_push]
   rcases List.mem_cons.mp hb with e | hb
   · rw [e]; exact Nat.lt_succ_self _
   · rw [List.mem_singleton.mp hb]; exact Nat.lt_succ_of_lt hp
 · rw [List.size_toArray] at hn
   rw [List.size_toArray, hl] at e
   obtain ⟨t, rfl⟩ := hval _ _ e
   have hle : argBest (gtB ns) (ns.length - 1) < ns.length := by have := argBest_le (gtB ns) (ns.length - 1); omega
   refine ⟨.int (ns.getD (argBest (gtB ns) (ns.length - 1)) 0), H, I.kept fun b o q => kp b o (fun z => absurd (Heap.lt_size q) (by rw [List.mem_singleton.mp z]; exact Nat.lt_irrefl _)) (Heap.get?_push_of_some _ q), ⟨t, rfl⟩, q1 _ ?_ fun y hy => ?_⟩
   · rw [List.getD_eq_getElem?_getD, List.getElem?_eq_getElem hle]; exact List.getElem_mem hle
   · obtain ⟨i, hi, rfl⟩ := List.getElem_of_mem hy
     have := argBest_top ns (ns.length - 1) i (by omega)
     have e2 : ns.getD i 0 = ns[i] := by rw [List.getD_eq_getElem?_getD, List.getElem?_eq_getElem hi]; rfl
     rw [e2] at this
     exact this
 · rw [List.size_toArray, hl] at hn
   exact ⟨d, H, I.kept fun b o q => kp b o (fun z => absurd (Heap.lt_size q) (by rw [List.mem_singleton.mp z]; exact Nat.lt_irrefl _)) (Heap.get?_push_of_some _ q), rd, q0 (List.length_eq_zero_iff.mp hn)⟩
theorem k_maxD (hK : X.K = K) (hg : Gl X x) (he : backTo pos (starEach (e :: es) X.env) = (false, eval e X.env) :: backTo pos (starEach es X.env)) (hpl : (backTo pos (starEach (e :: es) X.env)).any (·.1) = false) (hx : x = "max") (hn : nm = "default") (hc : X.calm = true) (hm : X.mg x = none) (ha : JA X (e :: es) t) (hd : JE X dv td) :
 JE X (.Call (.Name x p) (e :: es) [⟨some nm, dv, kp⟩] pos) (tCBd (rMaxD K) t td) := hK ▸ ⟨by subst hx; subst hn; exact pe_callBD (call_maxD hc) hg hm boot_max ha.h hd.h (by decide) (by decide) he hpl⟩
end
end Br
namespace Br
open PySem PySem.Spec PyProof.Rows L2
theorem s_setMid {X : Cx} {i : Nat} {x : Str} {e : Expr} {te : TE} {pos p : Pos} (nm : Str) (hx : x = nm) (h : At X.N i x) (hN : X.N.Nodup) (hk : X.env.scope.names.lookup x = some .local) (hs : swapsWith e (some (.Name x p)) pos.line X.env = pure false) (he : JE X e te) : JS X (.Assign [.Name x p] e pos) (tMid (tAsg te (gName i))) := ⟨ps_mid (s_set h hN hk hs he).h⟩
end Br
namespace Br
namespace DK
open PySem PySem.Spec PySem.Calls PyProof.Rows L2
section
variable {prog : Program} {w : World} {A : Around} {E : Value → Shared → Prop} {R : Result → Shared → Prop}
def Ks (prog : Program) (w : World) (h : Heap) (ps : List (Addr × List Key × Value)) : Prop := ∀ p ∈ ps, (tupleKind (mixKind prog w)).is h p.2.1 p.1
theorem Ks.keep {h h' : Heap} {ps : List (Addr × List Key × Value)} (K : Ks prog w h ps) (kp : ∀ p ∈ ps, ∀ ob, h.get? p.1 = some ob → h'.get? p.1 = some ob) : Ks prog w h' ps := fun p hp => by
 obtain ⟨o, its, n, h1, h2⟩ := K p hp
 exact ⟨o, its, n, kp p hp o h1, h2⟩
def DO (h : Heap) (prog : Program) (w : World) (dd : Addr) (xs : List (List Key × Addr × Value)) : Prop :=
 ∃ o es ep, h.get? dd = some o ∧ o.ExactDict ∧ o.data = .dict es ep ∧ es.toList = xs.map (entryOfKey (tupleKind (mixKind prog w))) ∧ (xs.map (·.1)).Nodup
def Src (ps : List (Addr × List Key × Value)) (xs : List (List Key × Addr × Value)) : Prop := ∀ x ∈ xs, ∃ p ∈ ps, p.1 = x.2.1 ∧ p.2.1 = x.1
theorem Src.put {ps : List (Addr × List Key × Value)} {xs : List (List Key × Addr × Value)} (h : Src ps xs) {p : Addr × List Key × Value} (hp : p ∈ ps) : Src ps (storedH xs p.2.1 p.1 p.2.2) := fun x hx => by
 unfold storedH at hx
 split at hx
 · obtain ⟨y, hy, rfl⟩ := List.mem_map.mp hx
   obtain ⟨q, hq, e1, e2⟩ := h y hy
   refine ⟨q, hq, ?_, ?_⟩ <;> (unfold putAt; split <;> assumption)
 · rcases List.mem_append.mp hx with z | z
   · exact h x z
   · rw [List.mem_singleton.mp z]; exact ⟨p, hp, rfl, rfl⟩
theorem storedH_len (xs : List (List Key × Addr × Value)) (k : List Key) (a : Addr) (v : Value) : (storedH xs k a v).length ≤ xs.length + 1 := by
 unfold storedH; split
 · rw [List.length_map]; omega
 · rw [List.length_append]; simp
end
def mergeT (kvs : List (List Key × V)) (qs : List (List Key × V)) : List (List Key × V) := qs.foldl (fun a q => putK a q.1 q.2) kvs
theorem mergeT_len : ∀ (qs kvs : List (List Key × V)), (mergeT kvs qs).length ≤ kvs.length + qs.length
 | [], kvs => Nat.le_refl _
 | q :: qs, kvs => by
  have h := mergeT_len qs (putK kvs q.1 q.2)
  have h2 := length_putK kvs q.1 q.2
  show (mergeT (putK kvs q.1 q.2) qs).length ≤ kvs.length + (qs.length + 1)
  omega
abbrev PK (H : Hp) : List (List Key × V) → List (Addr × List Key × Value) → Prop := Paired fun q p => q.1 = p.2.1 ∧ H p.1 = some (.tup (q.1.map kV)) ∧ RelV q.2 p.2.2
theorem PK.merge {H : Hp} {qs : List (List Key × V)} {ps : List (Addr × List Key × Value)} (r : PK H qs ps) : ∀ {kvs : List (List Key × V)} {xs : List (List Key × Addr × Value)}, KT H kvs xs → KT H (mergeT kvs qs) (ps.foldl (fun a p => storedH a p.2.1 p.1 p.2.2) xs) := by
 induction r with
 | nil => intro kvs xs h; exact h
 | @cons q p qs ps h t ih =>
  intro kvs xs k
  obtain ⟨h1, h2, h3⟩ := h
  show KT H (mergeT (putK kvs q.1 q.2) qs) (List.foldl _ (storedH xs p.2.1 p.1 p.2.2) ps)
  refine ih ?_
  rw [← h1]
  exact k.put q.1 h2 h3
theorem vals_refs : ∀ (as : List Addr) (l : List Value), Vals (as.map V.ref) l → l = as.map Value.ref
 | [], l, r => by cases r; rfl
 | a :: as, l, r => by
  cases r with
  | cons h t => rw [vals_refs as _ t, List.map_cons]; cases h; rfl
end DK
open PySem PySem.Spec PySem.Calls PyProof.Rows L2
section
variable {prog : Program} {w : World} {A : Around} {E : Value → Shared → Prop} {R : Result → Shared → Prop}
abbrev PT := Addr × Addr × List Key × Value
structure PrT (h : Heap) (t : Addr) (ps : List PT) : Prop where
 tup : h.IsTuple t (ps.map fun p => Value.ref p.1).toArray
 each : ∀ p ∈ ps, h.IsTuple p.1 #[.ref p.2.1, p.2.2.2]
theorem PrT.up {h h' : Heap} {t : Addr} {ps : List PT} (P : PrT h t ps) {ok : Addr → Prop} (ht : ok t) (hp : ∀ p ∈ ps, ok p.1) (k : ∀ b o, ok b → h.get? b = some o → h'.get? b = some o) : PrT h' t ps :=
 ⟨let ⟨o, a, b⟩ := P.tup; ⟨o, k _ _ ht a, b⟩, fun p hq => let ⟨o, a, b⟩ := P.each p hq; ⟨o, k _ _ (hp p hq) a, b⟩⟩
theorem dulT {d c t : Addr} {ps : List PT} (hh : A.handled = none) (hu : A.units + 1 < cLine) (ndc : d ≠ c) (nt : t ≠ d ∧ t ≠ c) (hpn : ∀ p ∈ ps, (p.1 ≠ d ∧ p.1 ≠ c) ∧ p.2.1 ≠ d ∧ p.2.1 ≠ c) (result : Value) :
 ∀ (m i : Nat) (s : Shared) (vs : List (List Key × Addr × Value)), ps.length - i = m → i ≤ ps.length → s.heap.IsTupleIter c t i → PrT s.heap t ps → DK.Ks prog w s.heap (ps.map (·.2)) → DK.Src (ps.map (·.2)) vs → DK.DO s.heap prog w d vs → vs.length + (ps.length - i) ≤ sizeLine →
 (∀ h' tk, DK.DO h' prog w d (((ps.map (·.2)).drop i).foldl (fun a p => storedH a p.2.1 p.1 p.2.2) vs) → (∀ b o, b ≠ d ∧ b ≠ c → s.heap.get? b = some o → h'.get? b = some o) → R (.ok (.ret result)) { s with heap := h', toks := tk }) →
 codeAny (model prog w) A (.builtin "dict.update.loop" ⟨[.ref d, .ref c, rawInt i, result], []⟩) R s := by
 intro m
 induction m with
 | zero =>
  intro i s vs hm hi st P K S D hl go
  obtain rfl : i = ps.length := by omega
  refine codeAny_builtin entry_dul ?_
  rw [Around.under_plainId plain_dul _]
  refine wpAny_bind (wpAny_pyNext_tuple_end (A := A.in1) hh st P.tup (by simp) fun h' eb => wpAny_bind (wpAny_pure (a := ()) (wpAny_pure (go h' _ ?_ fun b o hb q => eb b o hb.2 q))))
  rw [show (ps.map (·.2)).drop ps.length = [] by rw [← List.length_map (as := ps) (f := (·.2)), List.drop_length]]
  obtain ⟨o, es, ep, q, r⟩ := D
  exact ⟨o, es, ep, eb _ _ ndc q, r⟩
 | succ m ih =>
  intro i s vs hm hi st P K S D hl go
  have hlt : i < ps.length := by omega
  obtain ⟨p, hp⟩ : ∃ p, ps[i]? = some p := ⟨_, List.getElem?_eq_getElem hlt⟩
  have hpm := List.mem_of_getElem? hp
  have hpm2 : p.2 ∈ ps.map (·.2) := List.mem_map_of_mem hpm
  refine codeAny_builtin entry_dul ?_
  rw [Around.under_plainId plain_dul _]
  refine wpAny_bind (wpAny_pyNext_tuple_item st P.tup (x := .ref p.1) (by simp [hp]) fun h1 st1 sb1 => ?_)
  have k1 : ∀ b o, b ≠ d ∧ b ≠ c → s.heap.get? b = some o → h1.get? b = some o := fun b o hb q => (sb1.2 b hb.2).trans q
  have P1 := P.up (ok := fun b => b ≠ d ∧ b ≠ c) nt (fun q hq => (hpn q hq).1) k1
  have K1 : DK.Ks prog w h1 (ps.map (·.2)) := K.keep fun q hq ob e => by
   obtain ⟨x, hx, rfl⟩ := List.mem_map.mp hq
   exact k1 _ ob (hpn x hx).2 e
  have D1 : h1.DictOfH (tupleKind (mixKind prog w)) d vs := by
   obtain ⟨o', es, ep, q, r1, r2, r3, r4⟩ := D
   refine ⟨o', es, ep, (sb1.2 d ndc).trans q, r1, r2, r3, fun x hx => ?_, r4⟩
   obtain ⟨q, hq, e1, e2⟩ := S x hx
   rw [← e1, ← e2]; exact K1 q hq
  obtain ⟨op, hop, hcp, np, hdp⟩ := P1.each p hpm
  refine wpAny_bind (wpAny_holding (wpAny_bind (wpAny_tryCatch ?_)))
  unfold Builtin.Dict.pairItems
  refine wpAny_bind (wpAny_typeOf (T := "tuple") ⟨op, hop, hcp⟩ ?_)
  rw [if_pos (by decide)]
  refine wpAny_bind (wpAny_seqItems hop hdp (wpAny_pure ?_))
  show wpAny _ _ (holding [.ref p.2.1, p.2.2.2] (dictSet d (.ref p.2.1) p.2.2.2)) _ _ _
  refine wpAny_holding (wpAny_dictSet_heap (s := { s with heap := h1 }) (hsz := by omega) (tupleKind_room_in1 hu) (K1 p.2 hpm2) D1 fun h2 D2 sb2 => ?_)
  have ei : ((i : Int) + 1) = ((i + 1 : Nat) : Int) := by omega
  show wpAny _ _ (again (.builtin "dict.update.loop" ⟨[.ref d, .ref c, rawInt ((i : Int) + 1), result], []⟩)) _ _ _
  rw [ei]
  have hsl := DK.storedH_len vs p.2.2.1 p.2.1 p.2.2.2
  have k2 : ∀ b o, b ≠ d ∧ b ≠ c → s.heap.get? b = some o → h2.get? b = some o := fun b o hb q => (sb2.2 b hb.1).trans (k1 b o hb q)
  refine wpAny_pure ⟨plainId_quiet plain_dul _, ih (i + 1) _ _ (by omega) (by omega) ?_ (P.up (ok := fun b => b ≠ d ∧ b ≠ c) nt (fun q hq => (hpn q hq).1) k2) (K.keep fun q hq ob e => ?_) (S.put hpm2) ?_ (by omega) fun h' tk D' k' => ?_⟩
  · obtain ⟨o, q, r⟩ := st1
    exact ⟨o, (sb2.2 c (Ne.symm ndc)).trans q, r⟩
  · obtain ⟨x, hx, rfl⟩ := List.mem_map.mp hq
    exact k2 _ ob (hpn x hx).2 e
  · obtain ⟨o', es, ep, q, r1, r2, r3, _, r4⟩ := D2
    exact ⟨o', es, ep, q, r1, r2, r3, r4⟩
  · refine go h' tk ?_ fun b o hb q => k' b o hb (k2 b o hb q)
    have hg : (ps.map (·.2))[i]? = some p.2 := by rw [List.getElem?_map, hp]; rfl
    have hl2 : i < (ps.map (·.2)).length := by rw [List.length_map]; exact hlt
    have : (ps.map (·.2)).drop i = p.2 :: (ps.map (·.2)).drop (i + 1) := by
     rw [List.drop_eq_getElem_cons hl2]
     congr 1
     exact Option.some.inj ((List.getElem?_eq_getElem hl2).symm.trans hg)
    rw [this, List.foldl_cons]
    exact D'
theorem dictOfT {s : Shared} {t : Addr} {ps : List PT} {n : Nat} {Q : Value → Shared → Prop} (hh : A.handled = none) (hu : A.units + 3 < cLine) (ho : s.heap.get? t = some { cls := .type "tuple", data := .seq (ps.map fun p => Value.ref p.1).toArray n }) (P : PrT s.heap t ps)
 (hK : DK.Ks prog w s.heap (ps.map (·.2))) (hkl : ∀ p ∈ ps, p.2.1 < s.heap.objs.size) (hl : ps.length ≤ sizeLine)
 (go : ∀ h' tk, DK.DO h' prog w s.heap.objs.size ((ps.map (·.2)).foldl (fun a p => storedH a p.2.1 p.1 p.2.2) []) → (∀ b o, s.heap.get? b = some o → h'.get? b = some o) → Q (.ref s.heap.objs.size) { s with heap := h', toks := tk }) :
 wpAny (model prog w) A (call (.type "dict") [.ref t]) Q E s := by
 refine callType_codes F.kt_called_dict (F.kt_typeCall_dict_1 _) F.entry_dict_init (kt_code_dict_new (.ref t) (Q₁ := fun obj s1 => obj = .ref s.heap.objs.size ∧ s1 = { s with heap := s.heap.push { cls := .type "dict", data := .dict #[] } }) ⟨rfl, rfl⟩) fun obj s1 e => ?_
 obtain ⟨rfl, rfl⟩ := e
 have hd0 : (s.heap.push { cls := .type "dict", data := .dict #[] }).get? s.heap.objs.size = some _ := Heap.get?_push_size _ rfl
 refine ⟨⟨_, hd0, rfl⟩, F.args_dict_init_2 _ _, ?_⟩
 have k0 : ∀ b o, s.heap.get? b = some o → (s.heap.push { cls := .type "dict", data := .dict #[] }).get? b = some o := fun b o q => Heap.get?_push_of_some _ q
 show wpAny _ _ (Builtin.Dict.selfAndRest "__init__" _ >>= _) _ _ _
 unfold Builtin.Dict.selfAndRest Builtin.Dict.notOrdered
 refine wpAny_bind (wpAny_bind ?_)
 rw [if_pos (by decide)]
 refine wpAny_bind (wpAny_typeOf (T := "dict") ⟨_, hd0, rfl⟩ ?_)
 rw [if_neg (by decide)]
 refine wpAny_pure (wpAny_bind (wpAny_pure (wpAny_pure ?_)))
 show wpAny _ _ (Builtin.Dict.updateFrom "dict.__init__" s.heap.objs.size (.ref t) [] .none) _ _ _
 unfold Builtin.Dict.updateFrom
 refine wpAny_bind (wpAny_typeOf (T := "tuple") ⟨_, k0 _ _ ho, rfl⟩ ?_)
 rw [if_pos (by decide)]
 refine wpAny_bind (noKeys hh (k0 _ _ ho) fun h1 tk1 k1 => ?_)
 rw [if_pos (show (none : Option Value).isNone = true from rfl)]
 have hit : h1.IsTuple t (ps.map fun p => Value.ref p.1).toArray := ⟨_, k1 _ _ (k0 _ _ ho), rfl, n, rfl⟩
 refine wpAny_bind (wpAny_rule (wpAny_bind (wpAny_pyIter_tuple hit ?_)))
 have lt0 : s.heap.objs.size < h1.objs.size := Heap.lt_size (k1 _ _ hd0)
 have kk : ∀ b o, s.heap.get? b = some o → (h1.push { cls := .type "tuple_iterator", data := .fields #[.ref t, .int 0 0] }).get? b = some o := fun b o q => Heap.get?_push_of_some _ (k1 _ _ (k0 _ _ q))
 have far : ∀ b, b < s.heap.objs.size → b ≠ s.heap.objs.size ∧ b ≠ h1.objs.size := fun b hb => ⟨Nat.ne_of_lt hb, Nat.ne_of_lt (Nat.lt_trans hb lt0)⟩
 refine wpAny_pure ⟨plainId_quiet plain_dul _, dulT (A := A.in1) (c := h1.objs.size) (t := t) (ps := ps) (show A.in1.handled = none from hh) (show A.units + 1 + 1 < cLine by omega) (Nat.ne_of_lt lt0) (far _ (Heap.lt_size ho)) (fun p hp => ⟨far _ (let ⟨o, q, _⟩ := P.each p hp; Heap.lt_size q), far _ (hkl p hp)⟩) .none ps.length 0 _ [] (by omega) (by omega)
  ⟨_, Heap.get?_push_size _ rfl, rfl, rfl⟩ (P.up (ok := fun _ => True) trivial (fun _ _ => trivial) fun b o _ q => kk b o q) (hK.keep fun q _ ob e => kk _ _ e) (fun x hx => nomatch hx) ⟨_, #[], 0, Heap.get?_push_of_some _ (k1 _ _ hd0), ⟨rfl, rfl, rfl⟩, rfl, rfl, List.nodup_nil⟩ (by simpa using hl)
  fun h' tk D' k' => ⟨rfl, go h' tk (by rw [List.drop_zero] at D'; exact D') fun b o q => k' b o (far _ (Heap.lt_size q)) (kk b o q)⟩⟩
end
section
variable {X : Cx} {pins : List (Addr × Obj)} {σ : L2.St} {H : Hp} {s : Shared}
def PairsT (H : Hp) (t : Addr) (kvs : List (List Key × V)) : Prop := ∃ (o : Obj) (as bs : List Addr), bareT o ∧ H t = some (.frz o (.tup (as.map V.ref))) ∧ as.length = kvs.length ∧ bs.length = kvs.length ∧ kvs.length ≤ 1000 ∧ ∀ (i : Nat) a b kv, as[i]? = some a → bs[i]? = some b → kvs[i]? = some kv → H a = some (.tup [.ref b, kv.2]) ∧ H b = some (.tup (kv.1.map kV))
def rDictT : List V → Hp → VK → Prop := fun xs H Q => ∃ t kvs, xs = [.ref t] ∧ PairsT H t kvs ∧ ∀ p H2, H p = none → L2.Same H H2 → H2 p = some (.dT (DK.mergeT [] kvs)) → Q (.ref p) H2
theorem raw_T (I : Inv X pins σ H s) : ∀ (as bs : List Addr) (kvs : List (List Key × V)), as.length = kvs.length → bs.length = kvs.length → (∀ (i : Nat) a b kv, as[i]? = some a → bs[i]? = some b → kvs[i]? = some kv → H a = some (.tup [.ref b, kv.2]) ∧ H b = some (.tup (kv.1.map kV))) →
 ∃ ps : List PT, ps.map (fun p => Value.ref p.1) = as.map Value.ref ∧ (∀ p ∈ ps, s.heap.IsTuple p.1 #[.ref p.2.1, p.2.2.2]) ∧ (∀ p ∈ ps, p.2.1 < s.heap.objs.size) ∧ DK.PK H kvs (ps.map (·.2))
 | [], [], [], _, _, _ => ⟨[], rfl, fun p hp => (nomatch hp), fun p hp => (nomatch hp), .nil⟩
 | [], _ :: _, [], _, hl2, _ => by simp at hl2
 | _ :: _, _, [], hl, _, _ => by simp at hl
 | [], _, _ :: _, hl, _, _ => by simp at hl
 | _ :: _, [], _ :: _, _, hl2, _ => by simp at hl2
 | a :: as, b :: bs, kv :: kvs, hl, hl2, h => by
  obtain ⟨ps, e1, e2, e3, e4⟩ := raw_T I as bs kvs (by simpa using hl) (by simpa using hl2) fun i a b kv q1 q2 q3 => h (i + 1) a b kv (by simpa using q1) (by simpa using q2) (by simpa using q3)
  obtain ⟨ha, hb⟩ := h 0 a b kv rfl rfl rfl
  obtain ⟨its, rv, p, _⟩ := I.tuple (SqT.of ha)
  have hbl : b < s.heap.objs.size := by
   obtain ⟨_, _, _, o, q, _⟩ := (show ObjOk X.prog X.w H s.heap b (.tup (kv.1.map kV)) from I.hok b _ hb)
   exact Heap.lt_size q
  cases rv with
  | cons rk rr =>
   cases rr with
   | @cons _ vu _ _ rv rr =>
    cases rr
    cases rk
    refine ⟨(a, b, kv.1, vu) :: ps, by rw [List.map_cons, List.map_cons, e1], fun q hq => ?_, fun q hq => ?_, .cons ⟨rfl, hb, rv⟩ e4⟩
    · rcases List.mem_cons.mp hq with rfl | hq
      · exact p
      · exact e2 q hq
    · rcases List.mem_cons.mp hq with rfl | hq
      · exact hbl
      · exact e3 q hq
theorem call_dictT {k : Nat} (hr : Room k X.A) (hc : X.calm = true) : CallR X (.type "dict") rDictT := fun pins s σ H xs us Q I r h => by
 obtain ⟨t, kvs, rfl, ⟨o, as, bs, ⟨its, n, rfl⟩, ht, hl, hl2, hk, hp⟩, q⟩ := h
 obtain ⟨u, rfl, rx⟩ := vals1 r
 cases rx
 obtain ⟨ps, e1, e2, e3, pk⟩ := raw_T I as bs kvs hl hl2 hp
 have hsz : (sizeLine : Nat) = 16777216 := sizeLine_eq
 obtain ⟨g0, hz, its', rv, pt⟩ := (show ObjOk X.prog X.w H s.heap t (.frz { cls := .type "tuple", data := .seq its n } (.tup (as.map V.ref))) from I.hok t _ ht)
 have hits : its = its'.toArray := by
  obtain ⟨o2, h1, _, n2, h3⟩ := pt
  rw [g0] at h1; cases h1
  injection h3 with h3
 have hvr := DK.vals_refs as its' rv
 have hpl : ps.length = kvs.length := by have := congrArg List.length e1; rw [List.length_map, List.length_map] at this; omega
 have g1 : s.heap.get? t = some { cls := .type "tuple", data := .seq (ps.map fun p => Value.ref p.1).toArray n } := by rw [e1, ← hvr, ← hits]; exact g0
 have hK0 : DK.Ks X.prog X.w s.heap (ps.map (·.2)) := by
  have go : ∀ {qs : List (List Key × V)} {ps : List (Addr × List Key × Value)}, DK.PK H qs ps → DK.Ks X.prog X.w s.heap ps := by
   intro qs ps r
   induction r with
   | nil => intro p hp; exact nomatch hp
   | @cons q p qs ps h t ih =>
    intro x hx
    rcases List.mem_cons.mp hx with rfl | hx
    · rw [← h.1]; exact key_of I.hok h.2.1
    · exact ih x hx
  exact go pk
 refine dictOfT (I.ok.hd hc) (by have := hr.un; omega) g1 ⟨⟨_, g1, rfl, _, rfl⟩, e2⟩ hK0 e3 (by omega) fun h' tk D kp => ?_
 obtain ⟨o', es, ep, d1, d2, d3, d4, d5⟩ := D
 have hml := DK.mergeT_len kvs []
 rw [List.length_nil] at hml
 have hfr : H s.heap.objs.size = none := I.hok.fresh (Nat.le_refl _)
 refine ⟨.ref s.heap.objs.size, upd H s.heap.objs.size (.dT (DK.mergeT [] kvs)), I.laid (a := s.heap.objs.size) (o := .dT (DK.mergeT [] kvs)) (t' := tk) kp (Nat.le_refl _) ⟨by omega, beq_eq_false_iff_ne.mpr (Ne.symm (Nat.ne_of_lt I.big)), _, (pk.merge (kvs := []) (xs := []) .nil).keeps fun c ys ec => ?_, o', es, ep, d1, d2, d3, d4, d5⟩, rfl, q _ _ hfr (Br.Same.upd hfr) upd_same⟩
 rw [upd_ne (ne_of_none ec hfr)]; exact ec
theorem j_dictPT {k : Nat} {e : Expr} {es : List Expr} {t : TA} {pos p : Pos} {x : Str} (hr : Room k X.A) (hg : Gl X x) (he : starEach (e :: es) X.env = (false, eval e X.env) :: starEach es X.env) (hpl : (backTo pos (starEach es X.env)).any (·.1) = false) (hx : x = "dict") (hc : X.calm = true) (hm : X.mg x = none) (ha : JA X (e :: es) t) :
 JE X (.Call (.Name x p) (e :: es) [] pos) (tCB rDictT t) := ⟨by subst hx; exact pe_callTy (call_dictT hr hc) hg hm boot_dict' ha.h (by decide) (by decide) he hpl⟩
end
theorem merge_vT {qs : List (List Int × Int)} (nd : (qs.map (·.1)).Nodup) : DK.mergeT [] (vT qs) = vT qs := by
 have gen : ∀ (rs ks : List (List Int × Int)), ((ks ++ rs).map (·.1)).Nodup → DK.mergeT (vT ks) (vT rs) = vT (ks ++ rs) := fun rs => by
  induction rs with
  | nil => intro ks _; rw [List.append_nil]; rfl
  | cons r rs ih =>
   intro ks h
   have e : DK.mergeT (vT ks) (vT (r :: rs)) = DK.mergeT (putK (vT ks) (r.1.map Sum.inl) (.int r.2)) (vT rs) := rfl
   have h' := h
   rw [List.map_append, List.nodup_append] at h
   have hr : r.1 ∉ ks.map (·.1) := fun z => h.2.2 _ z r.1 (.head _) rfl
   rw [e, put_vT _ _ h.1, tput_out _ hr, ih _ (by rw [List.append_assoc]; exact h'), List.append_assoc]; rfl
 exact gen qs [] nd
end Br
namespace Br
namespace Tim
open PySem PySem.Spec PySem.Calls PyProof.Rows L2
section
variable {prog : Program} {w : World} {A : Around} {E : Value → Shared → Prop} {s : Shared} {κ : SortKind} {kz : Array Keyed} {lt : Keyed → Keyed → Bool}
theorem sortShort {Q : Unit → SortSt → Prop} (O : Ord lt) (c : PureLt prog w A s κ kz lt) (k2 : 2 ≤ kz.size) (k64 : kz.size < 64)
 (q : ∀ v, failedOf v = none → (arrOf v).toList.Perm kz.toList → (arrOf v).toList.Pairwise (Le lt) → Q () v) : wpS (model prog w) A E s sortRuns' Q (SortSt.mk' κ kz #[] 7 none) := by
 rw [sortRuns'_eq]
 refine wpS_bind (wpS_get ?_)
 dsimp only
 have hkz : kz.toList.length = kz.size := Array.length_toList
 have hmr : minRun' kz.size kz.size 0 = kz.size := by
  obtain ⟨m, hm⟩ : ∃ m, kz.size = m + 1 := ⟨kz.size - 1, by omega⟩
  conv => lhs; rw [hm]
  rw [minRun'_succ, if_pos (by omega), hm]
 have hsz : (arrOf (SortSt.mk' κ kz #[] 7 none)).size = kz.size := rfl
 simp only [hsz, hmr]
 refine wpS_bind (wpS_mono (wpS_forRange (I := fun i c v => (i = 0 ∧ c = (none, 0) ∧ v = SortSt.mk' κ kz #[] 7 none) ∨ (1 ≤ i ∧ c = (none, kz.size) ∧ (Bs κ kz v ∧ (arrOf v).toList.Pairwise (Le lt)) ∧ (pendingOf v).size = 1)) (Q := fun c v => c = (none, kz.size) ∧ (Bs κ kz v ∧ (arrOf v).toList.Pairwise (Le lt)) ∧ (pendingOf v).size = 1) ?turn ?end_ (.inl ⟨rfl, rfl, rfl⟩)) ?then_)
 case end_ =>
  rintro c v (⟨z, _, _⟩ | ⟨_, e, d⟩)
  · have z : max 0 kz.size = 0 := z
    omega
  · exact ⟨e, d⟩
 case turn =>
  rintro i c' v _ hi (⟨rfl, rfl, rfl⟩ | ⟨i1, rfl, d⟩)
  · dsimp only
    rw [if_neg (by omega)]
    simp only [Nat.sub_zero, Nat.zero_add]
    have B0 : Bs κ kz (SortSt.mk' κ kz #[] 7 none) := ⟨rfl, rfl, List.Perm.refl _⟩
    refine wpS_bind (countRun_ok O c B0 (L0 := []) (R := kz.toList) rfl rfl (by omega) (by omega) fun v1 C D B1 a1 pm sC hC hp1 => ?_)
    dsimp only
    have hcd := pm.length_eq
    rw [List.length_append] at hcd
    have fin : ∀ (v2 : SortSt) (Z : List Keyed), Bs κ kz v2 → (arrOf v2).toList = Z → Z.Pairwise (Le lt) → pendingOf v2 = #[] → ∀ e, (Bs κ kz (setPending v2 ((pendingOf v2).push e)) ∧ (arrOf (setPending v2 ((pendingOf v2).push e))).toList.Pairwise (Le lt)) ∧ (pendingOf (setPending v2 ((pendingOf v2).push e))).size = 1 := fun v2 Z B2 a2 sZ hp e =>
     ⟨⟨⟨B2.kind, B2.failed, B2.perm⟩, by show (arrOf v2).toList.Pairwise (Le lt); rw [a2]; exact sZ⟩, by show ((pendingOf v2).push e).size = 1; rw [hp]; rfl⟩
    have hp0 : pendingOf v1 = #[] := hp1
    by_cases hlt : C.length < kz.size
    · rw [if_pos hlt]
      refine wpS_bind (rule_ok ?_)
      refine wpS_bind (binSort_ok O c B1 (L0 := []) (C := C) (D := D) (L3 := []) (by rw [a1, List.append_nil]) rfl rfl hC (by omega) sC fun v2 Z B2 a2 pz sZ hp2 => ?_)
      simp only [Bool.not_true, Bool.false_eq_true, if_false]
      refine wpS_bind (wpS_get ?_)
      rw [show (pendingOf v2).back? = none by rw [hp2, hp0]; rfl]
      dsimp only
      rw [show min kz.size kz.size = kz.size by omega]
      refine wpS_bind (wpS_modify (wpS_pure (.inr ⟨by omega, rfl, fin v2 Z B2 (by rw [a2, List.append_nil]; rfl) sZ (hp2.trans hp0) _⟩)))
    · rw [if_neg hlt]
      have hD : D = [] := List.length_eq_zero_iff.mp (by omega)
      subst hD
      refine wpS_bind (wpS_get ?_)
      rw [show (pendingOf v1).back? = none by rw [hp0]; rfl]
      dsimp only
      have hcl : C.length = kz.size := by rw [List.length_nil] at hcd; omega
      rw [hcl]
      refine wpS_bind (wpS_modify (wpS_pure (.inr ⟨by omega, rfl, fin v1 C B1 (by rw [a1, List.append_nil]; rfl) sC hp0 _⟩)))
  · dsimp only
    rw [if_pos (Nat.le_refl _)]
    exact wpS_pure ⟨rfl, d⟩
 case then_ =>
  rintro c' v ⟨rfl, ⟨d1, d2⟩, d3⟩
  dsimp only
  refine wpS_bind (wpS_mono (wpS_forRange (I := fun _ c x => x = v ∧ c = (none, ())) (Q := fun c x => x = v ∧ c = (none, ())) ?t2 (fun _ _ y => y) ⟨rfl, rfl⟩) ?t3)
  case t2 =>
   rintro i c x _ _ ⟨rfl, rfl⟩
   refine wpS_bind (wpS_get ?_)
   rw [if_pos (show (pendingOf x).size ≤ 1 by rw [d3]; exact Nat.le_refl 1)]
   exact wpS_pure ⟨rfl, rfl⟩
  case t3 =>
   rintro c x ⟨rfl, rfl⟩
   exact wpS_pure (q _ d1.failed d1.perm d2)
end
end Tim
open PySem PySem.Spec PySem.Calls PyProof.Rows L2
section
variable {X : Cx}
theorem sorted_gen2S {α : Type} {p : Addr} {f : α → V} {g : α → Value} {pins : List (Addr × Obj)} {s : Shared} {σ : L2.St} {Q : VK} (F : Shared → Hp → List α → Prop) (lt : Hp → Keyed → Keyed → Bool) (O : ∀ H, Tim.Ord (lt H))
 (col : ∀ (R : List Value → Shared → Prop) (E : Value → Shared → Prop), (∀ (s1 : Shared) (H1 : Hp) (zs : List α), Inv X pins σ H1 s1 → F s1 H1 zs → R (zs.map g) s1) → wpAny (model X.prog X.w) X.A.in1 (collect (.ref p)) R E s)
 (each : ∀ s1 H1 zs, F s1 H1 zs → (∀ z ∈ zs, RelV (f z) (g z)) ∧ zs.length < 64)
 (hk : ∀ s1 H1 zs, Inv X pins σ H1 s1 → F s1 H1 zs → 2 ≤ zs.length → ∀ h6 : Heap, (∀ b o, H1 b ≠ none → s1.heap.get? b = some o → h6.get? b = some o) →
  ∃ κ, (∀ Q : SortKind → Shared → Prop, ∀ E, Q κ { s1 with heap := h6 } → wpAny (model X.prog X.w) X.A.in1.in1 (keyKind' (zs.map g).toArray) Q E { s1 with heap := h6 }) ∧ PureLt X.prog X.w X.A.in1.in1 { s1 with heap := h6 } κ (pairsOf (zs.map g)) (lt H1))
 (q : ∀ s1 H1 zs, F s1 H1 zs → ∀ (l : Addr) (ys : List α) (H' : Hp), H1 l = none → L2.Same H1 H' → H' l = some (.lst (ys.map f)) → ys.Perm zs → (ys.map fun z => ((g z, g z) : Keyed)).Pairwise (Tim.Le (lt H1)) → Q (.ref l) H') :
 wpAny (model X.prog X.w) X.A (call (.builtin "sorted") [.ref p]) (EP X pins σ Q) X.xe s := by
 have hsz : (sizeLine : Nat) = 16777216 := sizeLine_eq
 refine Calls.call_function_entry kind_sorted plain_sorted entry_sorted (args_sorted1 _) ?_
 unfold Builtin.«sorted»
 refine wpAny_bind (m := checkCount "sorted" 1 1 _) (wpAny_pure ?_)
 refine wpAny_bind (col _ _ fun s1 H zs I1 hF => ?_)
 obtain ⟨each, hzz⟩ := each s1 H zs hF
 have hk := hk s1 H zs I1 hF
 have q := q s1 H zs hF
 clear hF
 obtain ⟨h', gs, dr, tk, os⟩ := s1
 refine wpAny_bind (wpAny_newList ?_ (by rw [List.length_map]; omega))
 have hoL : (h'.push (seqObj "list" (zs.map g).toArray 0)).get? h'.objs.size = some (seqObj "list" (zs.map g).toArray 0) := Heap.get?_push_size _ rfl
 have hfr : H h'.objs.size = none := I1.hok.fresh (Nat.le_refl _)
 refine wpAny_bind (wpAny_holding (wpAny_call_entry slot_list_sort ⟨_, hoL, rfl⟩ entry_list_sort (sort_any (R := fun out => ∃ ys : List α, out = (ys.map g).toArray ∧ ys.Perm zs ∧ (ys.map fun z => ((g z, g z) : Keyed)).Pairwise (Tim.Le (lt H))) hoL (by rw [List.length_map]; omega) (fun h1 => ⟨zs, rfl, List.Perm.refl _, ?_⟩) (fun h2 h6 old => ?_) fun out ho ⟨ys, hR, hp, hs⟩ => ⟨_, rfl, ?_⟩) (args_list_sort _)))
 · rw [List.length_map] at h1
   match zs, h1 with
   | [], _ => exact List.Pairwise.nil
   | [_], _ => exact List.pairwise_singleton _ _
   | _ :: _ :: _, h => simp at h; omega
 · rw [List.length_map] at h2
   obtain ⟨κ, k1, k2⟩ := hk h2 h6 fun b o hb e => old b o (fun z => hb (by rw [z]; exact hfr)) (Heap.get?_push_of_some _ e)
   refine k1 _ _ ⟨rfl, ?_⟩
   refine Tim.sortShort (O H) k2 (by rw [← Array.length_toList, pairs_map, List.length_map]; omega) (by rw [← Array.length_toList, pairs_map, List.length_map]; omega) fun v e1 e2 e3 => ⟨e1, ?_, ?_⟩
   · have := e2.length_eq
     rw [Array.length_toList, pairsOf_toList, List.length_zip] at this
     omega
   · have e := pairs_map g zs
     rw [e] at e2
     obtain ⟨ys, h3, h4⟩ := perm_lift (fun z => ((g z, g z) : Keyed)) e2 rfl
     refine ⟨ys, ?_, h3, by rw [h4]; exact e3⟩
     apply Array.toList_inj.mp
     rw [Array.toList_map, ← h4, List.map_map]; simp
 · refine wpAny_pure ⟨_, rfl, ?_⟩
   subst hR
   obtain ⟨n', e'⟩ : ∃ n', (sortedHeap (h'.push (seqObj "list" (zs.map g).toArray 0)) h'.objs.size (zs.map g) (ys.map g).toArray).get? h'.objs.size = some (seqObj "list" (ys.map g).toArray n') := sortedHeap_at hoL
   have keep : ∀ b o, h'.get? b = some o → (sortedHeap (h'.push (seqObj "list" (zs.map g).toArray 0)) h'.objs.size (zs.map g) (ys.map g).toArray).get? b = some o := fun b o e => by
    have hb := Heap.lt_size e
    rw [sortedHeap_old (Nat.ne_of_lt hb) (by rw [Heap.size_push]; exact Nat.lt_succ_of_lt hb)]
    exact Heap.get?_push_of_some _ e
   have vals : ∀ {l : List α}, (∀ z ∈ l, RelV (f z) (g z)) → Vals (l.map f) (l.map g) := fun {l} => by
    induction l with
    | nil => exact fun _ => .nil
    | cons a l ih => exact fun h => .cons (h a (.head _)) (ih fun z hz => h z (.tail _ hz))
   have I2 : Inv X pins σ (upd H h'.objs.size (.lst (ys.map f))) ⟨sortedHeap (h'.push (seqObj "list" (zs.map g).toArray 0)) h'.objs.size (zs.map g) (ys.map g).toArray, gs, dr, tk, os⟩ :=
    I1.laid (t' := tk) keep (Nat.le_refl _) (show ObjOk X.prog X.w _ _ _ (.lst (ys.map f)) from ⟨by rw [List.length_map, hp.length_eq]; omega, ys.map g, n', vals fun z hz => each z (hp.mem_iff.mp hz), e'⟩)
   exact ⟨.ref h'.objs.size, _, I2, rfl, q _ ys _ hfr (Br.Same.upd hfr) upd_same hp hs⟩
theorem sorted_genS {α : Type} {p : Addr} {zs : List α} {f : α → V} {g : α → Value} {pins : List (Addr × Obj)} {s : Shared} {σ : L2.St} {H : Hp} {Q : VK} (lt : Keyed → Keyed → Bool) (O : Tim.Ord lt) (I : Inv X pins σ H s) (each : ∀ z ∈ zs, RelV (f z) (g z))
 (hob : ∃ (o : Obj) (T : String) (cn : Nat), (T = "list" ∨ T = "tuple") ∧ s.heap.get? p = some o ∧ o.cls = .type T ∧ o.data = .seq (zs.map g).toArray cn ∧ zs.length < 64)
 (hk : 2 ≤ zs.length → ∀ h6 : Heap, (∀ b o, H b ≠ none → s.heap.get? b = some o → h6.get? b = some o) → ∃ κ, (∀ Q : SortKind → Shared → Prop, ∀ E, Q κ { s with heap := h6 } → wpAny (model X.prog X.w) X.A.in1.in1 (keyKind' (zs.map g).toArray) Q E { s with heap := h6 }) ∧ PureLt X.prog X.w X.A.in1.in1 { s with heap := h6 } κ (pairsOf (zs.map g)) lt)
 (q : ∀ (l : Addr) (ys : List α) (H' : Hp), H l = none → L2.Same H H' → H' l = some (.lst (ys.map f)) → ys.Perm zs → (ys.map fun z => ((g z, g z) : Keyed)).Pairwise (Tim.Le lt) → Q (.ref l) H') :
 wpAny (model X.prog X.w) X.A (call (.builtin "sorted") [.ref p]) (EP X pins σ Q) X.xe s := by
 have hsz : (sizeLine : Nat) = 16777216 := sizeLine_eq
 obtain ⟨o, T, cn, hT, ho, hcl, hdt, hzz⟩ := hob
 refine sorted_gen2S (f := f) (g := g) (fun s1 H1 ws => H1 = H ∧ ws = zs ∧ ∃ h', s1 = { s with heap := h' } ∧ ∀ b o, s.heap.get? b = some o → h'.get? b = some o) (fun _ => lt) (fun _ => O) (fun R E r => ?_) (fun s1 H1 ws ⟨_, e, _⟩ => ?_) (fun s1 H1 ws _ ⟨e1, e2, h', e3, kp⟩ h2 h6 old => ?_) fun s1 H1 ws ⟨e1, e2, _⟩ => ?_
 · have eI : ((zs.map g).toArray).toList = zs.map g := by simp
   refine wpAny_collect_seq p hT ho hcl hdt (fun h' hk' => ?_) (by rw [List.size_toArray, List.length_map]; omega)
   rw [eI]
   exact r { s with heap := h' } H zs (I.kept (t' := s.toks) hk') ⟨rfl, rfl, h', rfl, hk'⟩
 · subst e; exact ⟨each, hzz⟩
 · subst e1; subst e2; subst e3
   exact hk h2 h6 fun b o hb e => old b o hb (kp b o e)
 · subst e1; subst e2; exact q
end
section
variable {X : Cx}
def tSortItS (td : TE) : TE := fun σ H Q => td σ H fun x H1 => ∃ (a : Addr) (ks : List (Int × Int)), x = .ref a ∧ H1 a = some (.dK (vv2 ks)) ∧ ks.length < 64 ∧
 ∀ (l : Addr) (bs : List Addr) (qs : List (Int × Int)) (H2 : Hp), H1 l = none → L2.Same H1 H2 → H2 l = some (.lst (bs.map V.ref)) → bs.length = qs.length → (∀ (i : Nat) b, bs[i]? = some b → ∃ q : Int × Int, qs[i]? = some q ∧ H2 b = some (.tup [.int q.1, .int q.2])) →
  qs.Perm ks → qs.Pairwise (fun u v => HT.lexLt [v.1, v.2] [u.1, u.2] = false) → Q (.ref l) H2
variable {o : Expr} {td : TE} {apos cpos pos p : Pos} {x : Str}
theorem pe_sortItS (ho : PE X o td) (m : M0 X o "items" apos cpos) (hg : Gl X "sorted") (hm : X.mg "sorted" = none) (hc : X.calm = true)
 (he : starEach [.Call (.Attribute o "items" apos) [] [] cpos] X.env = (false, eval (.Call (.Attribute o "items" apos) [] [] cpos) X.env) :: starEach [] X.env) (hpl : (backTo pos (starEach [] X.env)).any (·.1) = false) :
 PE X (.Call (.Name "sorted" p) [.Call (.Attribute o "items" apos) [] [] cpos] [] pos) (tSortItS td) := by
 intro pins s σ H Q I h
 refine wpAny_Call_Name_kw (ld_blt I hg hm boot_sorted ?_ (by decide) (by decide))
 refine PyProof.Rows.callWith_builtin1 ?_ he hpl
 rw [he]
 show wpAny _ _ (spliced ((false, eval (.Call (.Attribute o "items" apos) [] [] cpos) X.env) :: backTo pos (starEach [] X.env))) _ _ s
 refine Calls.spliced_cons ?_
 refine wpAny_Call_method m.base m.few m.line PySem.F.plainAttrs_dict PySem.F.slot_dict_items PySem.F.type_dict_items (thn (ho pins s σ H _ I h) fun u s1 ⟨x, H1, I1, rx, a, ks, ex, e, h64, q1⟩ => ?_)
 subst ex
 obtain rfl : u = Value.ref a := rx
 obtain ⟨t1, t2, t3⟩ := isD_at I1 (.inl ⟨_, .inl e⟩)
 refine ⟨t1, t2, ?_⟩
 rw [m.trees]
 obtain ⟨z, hd, vs, rel, dd⟩ := dk_of I1.hok e
 refine Calls.callWith_builtin rfl (PySem.evalArgs_none ?_)
 refine call_meetsIn PySem.F.slot_dict_items t1 PySem.F.entry_dict_items (PySem.F.args_dict_items_1 _) (meets_dict_items (mixKind X.prog X.w) a t3) ⟨⟨vs, dd⟩, ?_⟩
 obtain ⟨ob, ds, ep, g, ex, dt, rest⟩ := dd
 have gp : ∀ b o', s1.heap.get? b = some o' → ∀ n, (s1.heap.push n).get? b = some o' := fun b o' q n => Heap.get?_push_of_some _ q
 have I2 := I1.kept (t' := s1.toks) (h' := s1.heap.push { cls := .type "dict_items", data := .fields #[.ref a] }) fun b o' q => gp _ _ q _
 have hv : (s1.heap.push { cls := .type "dict_items", data := .fields #[.ref a] }).IsItemsView s1.heap.objs.size a := ⟨_, Heap.get?_push_size _ rfl, rfl, rfl⟩
 have hm2 : (s1.heap.push { cls := .type "dict_items", data := .fields #[.ref a] }).DictAt (mixKind X.prog X.w) a vs ep := ⟨ob, ds, gp _ _ g _, ex, dt, rest⟩
 refine Calls.spliced_nil ?_
 have hvl : vs.length ≤ sizeLine := by rw [← rel.length]; exact z
 refine sorted_gen2S (α := Addr × (Int × Int)) (f := fun z => .ref z.1) (g := fun z => .ref z.1) (fun _ H' zs => L2.Same H1 H' ∧ (∀ z ∈ zs, H' z.1 = some (.tup ([z.2.1, z.2.2].map V.int))) ∧ zs.map (·.2) = ks ∧ zs.length < 64)
  (fun H' x y => HT.lexLt (tkey H' x.1) (tkey H' y.1)) (fun H' => ord_lex fun x => tkey H' x.1) (fun R E hR => ?_) (fun s3 H3 zs hF => ⟨fun z _ => rfl, hF.2.2.2⟩) (fun s3 H3 zs I3 hF h2 h6 old => ?_) (fun s3 H3 zs hF l ys H' n1 q3 e1 hp hs => ?_)
 · refine PySem.W.kdx_collect (A := X.A.in1) (I.ok.hd hc) hv hm2 hvl fun h' tk as keep len G => ?_
   have hkl : as.length = ks.length := by rw [len, ← rel.length]; unfold vv2; rw [List.length_map]
   obtain ⟨H3, I3, s3, at3⟩ := lay_pairs (tk := tk) (qs := ks) I2 keep G.rise (fun a ha => Nat.le_of_lt (G.above a ha)) fun j a hj => by
    obtain ⟨key, k, x, h1, h2, h3⟩ := G.pairs j a hj
    obtain ⟨q, t, u, e1, rfl, rfl⟩ := kv_pairs rel h1 h2
    exact ⟨q, t, u, e1, h3⟩
   have := hR _ H3 (as.zip ks) I3 ⟨s3, fun z hz => ?_, List.map_snd_zip (by omega), by rw [List.length_zip, hkl, Nat.min_self]; exact h64⟩
   · have e : (as.zip ks).map (fun z => Value.ref z.1) = as.map Value.ref := by
      have : (as.zip ks).map (·.1) = as := List.map_fst_zip (by omega)
      calc (as.zip ks).map (fun z => Value.ref z.1) = ((as.zip ks).map (·.1)).map Value.ref := by rw [List.map_map]; rfl
       _ = _ := by rw [this]
     rw [e] at this
     exact this
   · obtain ⟨i, hi, e⟩ := List.getElem_of_mem hz
     have e' : (as.zip ks)[i]? = some z := by rw [List.getElem?_eq_getElem hi, e]
     rw [List.getElem?_zip_eq_some] at e'
     obtain ⟨q, h1, h2⟩ := at3 i z.1 e'.1
     rw [e'.2] at h1; cases h1
     exact h2
 · obtain ⟨_, each, _, _⟩ := hF
   have tup : ∀ z ∈ zs, ∃ its : List Value, IntsAre its [z.2.1, z.2.2] ∧ IsTup h6 z.1 its.toArray := fun z hz => by
    obtain ⟨its, rt, ⟨o, ho, hc, n, hd⟩, _⟩ := I3.tuple (SqT.of (each z hz))
    exact ⟨its, vals_ints rt, o, old z.1 o (by rw [each z hz]; exact fun z => nomatch z) ho, hc, n, hd⟩
   have kt : ∀ l : List (Addr × (Int × Int)), (∀ z ∈ l, z ∈ zs) → ∃ fs : List Value, PySem.W.KatTups h6 (l.map fun z => Value.ref z.1) fs ∧ fs.length = l.length ∧ ∀ v ∈ fs, ∃ n t, v = Value.int n t := fun l => by
    induction l with
    | nil => exact fun _ => ⟨[], trivial, rfl, fun v hv => nomatch hv⟩
    | cons a l ih =>
     intro hl
     obtain ⟨fs, f1, f2, f3⟩ := ih fun b hb => hl b (.tail _ hb)
     obtain ⟨its, hi, o, ho, hc, n, hd⟩ := tup a (hl a (.head _))
     obtain ⟨aa, aw⟩ := a
     cases hi with
     | cons n0 t0 r0 => exact ⟨.int aw.1 t0 :: fs, PySem.W.KatTups.cons ho hc hd (by simp) f1, by rw [List.length_cons, List.length_cons, f2], fun v hv => by
      rcases List.mem_cons.mp hv with z | z
      · exact ⟨_, _, z⟩
      · exact f3 v z⟩
   obtain ⟨fs, f1, f2, f3⟩ := kt zs fun _ h => h
   refine ⟨tuples' true, fun Q E hQ => PySem.W.kat_kind (T := .type "int") f1 (by omega) (fun v hv => by obtain ⟨n, t, rfl⟩ := f3 v hv; exact .now) (by decide) hQ, fun x y hx hy Q E hQ => ?_⟩
   rw [pairs_map] at hx hy
   obtain ⟨z1, m1, e1⟩ := List.mem_map.mp hx
   obtain ⟨z2, m2, e2⟩ := List.mem_map.mp hy
   obtain ⟨it1, i1, o1, ho1, _, n1, hd1⟩ := tup z1 m1
   obtain ⟨it2, i2, o2, ho2, _, n2, hd2⟩ := tup z2 m2
   rw [← e1, ← e2] at hQ ⊢
   have hQ : Q (HT.lexLt (tkey H3 (.ref z1.1)) (tkey H3 (.ref z2.1))) _ := hQ
   rw [tkey_of (each z1 m1), tkey_of (each z2 m2)] at hQ
   refine PySem.W.kat_lt ho1 hd1 ho2 hd2 (katLex_ints rfl ?_ ?_ ?_ hQ)
   · simpa using i1
   · simpa using i2
   · have y1 := i1.length
     have y2 := i2.length
     simp only [List.length_cons, List.length_nil] at y1 y2
     simp; omega
 · obtain ⟨s13, each, hks, _⟩ := hF
   have nl : H1 l = none := by
    cases hq : H1 l with
    | none => rfl
    | some v => have := s13 _ _ hq; rw [n1] at this; cases this
   refine q1 l (ys.map (·.1)) (ys.map (·.2)) H' nl (s13.trans q3) ?_ (by rw [List.length_map, List.length_map]) (fun i b hb => ?_) (by rw [← hks]; exact hp.map _) ?_
   · rw [e1, List.map_map]; rfl
   · rw [List.getElem?_map] at hb
     obtain ⟨z, hz, rfl⟩ := Option.map_eq_some_iff.mp hb
     exact ⟨z.2, by rw [List.getElem?_map, hz]; rfl, q3 _ _ (each z (hp.mem_iff.mp (List.mem_of_getElem? hz)))⟩
   · rw [List.pairwise_map] at hs ⊢
     refine List.Pairwise.imp_of_mem (fun {a b} ha hb h => ?_) hs
     have h : HT.lexLt (tkey H3 (.ref b.1)) (tkey H3 (.ref a.1)) = false := h
     rw [tkey_of (each b (hp.mem_iff.mp hb)), tkey_of (each a (hp.mem_iff.mp ha))] at h
     exact h
theorem k_sortItS (h1 : attributeBase o "items" X.env (eval o X.env) = eval o X.env)
 (h2 : ((backTo cpos (starEach [] X.env)).all (fun x => !x.1) && (backToKw cpos (keywordEach [] X.env)).all (fun x => x.1.isSome)
  && decide (([] : List Expr).length + ([] : List Keyword).length + (if ([] : List Keyword).isEmpty then 0 else 1) < 30)) = true) (h3 : (apos.endLine == cpos.line) = true) (h4 : backTo cpos (starEach [] X.env) = [])
 (hg : Gl X "sorted") (hm : X.mg "sorted" = none) (hc : X.calm = true)
 (he : starEach [.Call (.Attribute o "items" apos) [] [] cpos] X.env = (false, eval (.Call (.Attribute o "items" apos) [] [] cpos) X.env) :: starEach [] X.env) (hpl : (backTo pos (starEach [] X.env)).any (·.1) = false) (ho : JE X o td) :
 JE X (.Call (.Name "sorted" p) [.Call (.Attribute o "items" apos) [] [] cpos] [] pos) (tSortItS td) := ⟨pe_sortItS ho.h ⟨h1, h2, h3, h4⟩ hg hm hc he hpl⟩
end
def rSortPs (K : PySem.W.Frag) : List V → Hp → VK → Prop := fun xs H Q => ∃ (p : Addr) (as : List Addr) (ks : List (List Int × Int)), xs = [.ref p] ∧ (SqL K H p (as.map V.ref) ∨ SqT K H p (as.map V.ref)) ∧ PrsAt H as ks ∧ as.length < 64 ∧
 ∀ (l : Addr) (bs : List Addr) (qs : List (List Int × Int)) (H' : Hp), H l = none → L2.Same H H' → H' l = some (.lst (bs.map V.ref)) → PrsAt H' bs qs → qs.Perm ks → qs.Pairwise (fun u v => pLt v u = false) → Q (.ref l) H'
section
variable {X : Cx} {k : Nat}
variable {X : Cx} {K : PySem.W.Frag} {k : Nat} {e : Expr} {es : List Expr} {t : TA} {pos p : Pos} {x : Str}
theorem call_sortPs (hr : Room k X.A) : CallR X (.builtin "sorted") (rSortPs X.K) := by
 intro pins s σ H xs us Q I r h
 obtain ⟨p, as, ks, e1, hq, hat, h64, q⟩ := h
 subst e1
 obtain ⟨u, rfl, rx⟩ := vals1 r
 cases rx
 obtain ⟨its, o, T, cn, rv, hT, ho, hcl, hd, hz⟩ := seq_obj I hq
 obtain ⟨cs, hcl', hcs⟩ := prs_pick hat
 have hlen := hat.1
 generalize hzs : as.zip (cs.zip ks) = zs
 have hfst : zs.map (·.1) = as := by rw [← hzs]; exact List.map_fst_zip (by rw [List.length_zip]; omega)
 have hsnd : zs.map (·.2.2) = ks := by
  have a1 : zs.map (·.2) = cs.zip ks := by rw [← hzs]; exact List.map_snd_zip (by rw [List.length_zip]; omega)
  have a2 : (cs.zip ks).map (·.2) = ks := List.map_snd_zip (by omega)
  calc zs.map (·.2.2) = (zs.map (·.2)).map (·.2) := by rw [List.map_map]; rfl
   _ = ks := by rw [a1, a2]
 have hzl : zs.length = as.length := by rw [← hfst, List.length_map]
 have hits : its = zs.map (fun z => Value.ref z.1) := by
  rw [vals_refs rv]
  calc as.map Value.ref = (zs.map (·.1)).map Value.ref := by rw [hfst]
   _ = _ := by rw [List.map_map]; rfl
 have each : ∀ z ∈ zs, H z.1 = some (.tup [.ref z.2.1, .int z.2.2.2]) ∧ H z.2.1 = some (.tup (z.2.2.1.map V.int)) := fun z hz => by
  obtain ⟨i, hi, e⟩ := List.getElem_of_mem hz
  have e' : zs[i]? = some z := by rw [List.getElem?_eq_getElem hi, e]
  rw [← hzs, List.getElem?_zip_eq_some] at e'
  have e2 := e'.2
  rw [show z.2 = (z.2.1, z.2.2) from rfl, List.getElem?_zip_eq_some] at e2
  exact hcs i z.1 z.2.1 z.2.2 e'.1 e2.1 e2.2
 subst hits
 refine sorted_genS (α := Addr × (Addr × List Int × Int)) (zs := zs) (f := fun z => .ref z.1) (g := fun z => .ref z.1) (fun x y => pLt (pkey H x.1) (pkey H y.1)) (ord_pair fun x => pkey H x.1) I (fun z _ => rfl) ⟨o, T, cn, hT, ho, hcl, hd, by omega⟩ (fun h2 h6 old => ?_) fun l ys H' n1 s1 e1 hp hs => ?_
 · skip
   have hu : X.A.in1.in1.units < cLine := by have := hr.un; show X.A.units + 1 + 1 < cLine; omega
   have tup : ∀ z ∈ zs, ∃ (t : Tok) (its : List Value), IsTup h6 z.1 #[.ref z.2.1, .int z.2.2.2 t] ∧ IntsAre its z.2.2.1 ∧ IsTup h6 z.2.1 its.toArray := fun z hz => by
    obtain ⟨e1, e2⟩ := each z hz
    obtain ⟨its, rt, ⟨o, ho, hc, n, hd⟩, _⟩ := I.tuple (SqT.of e1)
    obtain ⟨its2, rt2, ⟨o2, ho2, hc2, n2, hd2⟩, _⟩ := I.tuple (SqT.of e2)
    cases rt with
    | cons r1 rr =>
     cases rr with
     | cons r2 rr =>
      cases rr
      cases r1
      obtain ⟨t, rfl⟩ := r2
      exact ⟨t, its2, ⟨o, old z.1 o (by rw [e1]; exact fun z => nomatch z) ho, hc, n, hd⟩, vals_ints rt2, ⟨o2, old z.2.1 o2 (by rw [e2]; exact fun z => nomatch z) ho2, hc2, n2, hd2⟩⟩
   have kt : ∀ l : List (Addr × (Addr × List Int × Int)), (∀ z ∈ l, z ∈ zs) → ∃ fs : List Value, PySem.W.KatTups h6 (l.map fun z => Value.ref z.1) fs ∧ fs.length = l.length ∧ ∀ v ∈ fs, ∃ c o, v = Value.ref c ∧ h6.get? c = some o ∧ o.cls = .type "tuple" := fun l => by
    induction l with
    | nil => exact fun _ => ⟨[], trivial, rfl, fun v hv => nomatch hv⟩
    | cons a l ih =>
     intro hl
     obtain ⟨fs, f1, f2, f3⟩ := ih fun b hb => hl b (.tail _ hb)
     obtain ⟨t, its, ⟨o, ho, hc, n, hd⟩, _, ⟨o2, ho2, hc2, _⟩⟩ := tup a (hl a (.head _))
     exact ⟨.ref a.2.1 :: fs, PySem.W.KatTups.cons ho hc hd rfl f1, by rw [List.length_cons, List.length_cons, f2], fun v hv => by
      rcases List.mem_cons.mp hv with z | z
      · exact ⟨_, o2, z, ho2, hc2⟩
      · exact f3 v z⟩
   obtain ⟨fs, f1, f2, f3⟩ := kt zs fun _ h => h
   refine ⟨tuples' false, fun Q E hQ => PySem.W.kat_kind (T := .type "tuple") f1 (by omega) (fun v hv => by obtain ⟨c, o, rfl, hc, ht⟩ := f3 v hv; rw [← ht]; exact (PySem.W.Looks.ld hc).andThen .now) (by decide) hQ, fun x y hx hy Q E hQ => ?_⟩
   rw [pairs_map] at hx hy
   obtain ⟨z1, m1, e1⟩ := List.mem_map.mp hx
   obtain ⟨z2, m2, e2⟩ := List.mem_map.mp hy
   obtain ⟨t1, it1, ⟨o1, ho1, _, n1, hd1⟩, i1, p1⟩ := tup z1 m1
   obtain ⟨t2, it2, ⟨o2, ho2, _, n2, hd2⟩, i2, p2⟩ := tup z2 m2
   rw [← e1, ← e2] at hQ ⊢
   have hQ : Q (pLt (pkey H (.ref z1.1)) (pkey H (.ref z2.1))) _ := hQ
   rw [pkey_of (each z1 m1).1 (each z1 m1).2, pkey_of (each z2 m2).1 (each z2 m2).2] at hQ
   have tk : ∀ {c : Addr} {its : List Value} {w : List Int}, IntsAre its w → IsTup h6 c its.toArray → IsTupleKey (mixKind X.prog X.w) h6 (w.map Sum.inl) c := fun {c its w} hi ⟨o, h1, h2, n, h3⟩ => ⟨o, its.toArray, n, h1, h2, h3, by
    have : Vals ((w.map Sum.inl).map kV) its := by
     have := ints_vals hi
     rw [List.map_map]; exact this
    simpa using items_are this⟩
   refine PySem.W.kat_lt ho1 hd1 ho2 hd2 (PySem.W.kat_cons (wpAny_eqBool_tuple hu (tk i1 p1) (tk i2 p2) ?_))
   unfold pLt at hQ
   by_cases ek : z1.2.2.1 = z2.2.2.1
   · rw [if_pos ek] at hQ
     rw [show decide (z1.2.2.1.map Sum.inl = (z2.2.2.1.map Sum.inl : List Key)) = true from decide_eq_true (by rw [ek])]
     refine PySem.W.kat_yes (PySem.W.kat_cons (wpAny_eqBool_int ?_))
     by_cases en : z1.2.2.2 = z2.2.2.2
     · rw [show (z1.2.2.2 == z2.2.2.2) = true by simpa using en]
       rw [decide_eq_false (by omega)] at hQ
       exact PySem.W.kat_yes (PySem.W.kat_nil hQ)
     · rw [show (z1.2.2.2 == z2.2.2.2) = false by simpa using en]
       exact PySem.W.kat_no (PySem.W.kat_one _ _ (HT.rcLt_int _ _ _ _ _ _ _ _ _ _ hQ))
   · rw [if_neg ek] at hQ
     rw [show decide (z1.2.2.1.map Sum.inl = (z2.2.2.1.map Sum.inl : List Key)) = false from decide_eq_false (fun z => ek ((List.map_inj_right fun _ _ h => Sum.inl.inj h).mp z))]
     exact PySem.W.kat_no (PySem.W.kat_one _ _ (HT.lt_tupInts p1 p2 (by simpa using i1) (by simpa using i2) hu hQ))
 · refine q l (ys.map (·.1)) (ys.map (·.2.2)) H' n1 s1 ?_ ⟨by rw [List.length_map, List.length_map], fun i b hb => ?_⟩ (by rw [← hsnd]; exact hp.map _) ?_
   · rw [e1, List.map_map]; rfl
   · rw [List.getElem?_map] at hb
     obtain ⟨z, hz, rfl⟩ := Option.map_eq_some_iff.mp hb
     obtain ⟨e1, e2⟩ := each z (hp.mem_iff.mp (List.mem_of_getElem? hz))
     exact ⟨z.2.2, z.2.1, by rw [List.getElem?_map, hz]; rfl, s1 _ _ e1, s1 _ _ e2⟩
   · rw [List.pairwise_map] at hs ⊢
     refine List.Pairwise.imp_of_mem (fun {a b} ha hb h => ?_) hs
     have h : pLt (pkey H (.ref b.1)) (pkey H (.ref a.1)) = false := h
     obtain ⟨f1, f2⟩ := each b (hp.mem_iff.mp hb)
     obtain ⟨f3, f4⟩ := each a (hp.mem_iff.mp ha)
     rw [pkey_of f1 f2, pkey_of f3 f4] at h
     exact h
end
section
variable {X : Cx} {K : PySem.W.Frag} {k : Nat} {e : Expr} {es : List Expr} {t : TA} {pos p : Pos} {x : Str}
theorem k_sortedPs (hr : Room k X.A) (hg : Gl X x) (he : starEach (e :: es) X.env = (false, eval e X.env) :: starEach es X.env) (hpl : (backTo pos (starEach es X.env)).any (·.1) = false) (hK : X.K = K) (hx : x = "sorted") (hm : X.mg x = none) (ha : JA X (e :: es) t) : JE X (.Call (.Name x p) (e :: es) [] pos) (tCB (rSortPs K) t) := hK ▸ ⟨by subst hx; exact pe_callB (call_sortPs hr) hg hm boot_sorted ha.h (by decide) (by decide) he hpl⟩
end
def rSortT2s : List V → Hp → VK → Prop := fun xs H Q => ∃ (p : Addr) (kvs : List (List Key × V)) (ws : List (List Int)), xs = [.ref p] ∧ H p = some (.dT kvs) ∧ kvs.map (·.1) = ws.map (List.map Sum.inl) ∧ (2 ≤ ws.length → ∀ w ∈ ws, w ≠ []) ∧ ws.length < 64 ∧
 ∀ (l : Addr) (bs : List Addr) (us : List (List Int)) (H' : Hp), H l = none → L2.Same H H' → H' l = some (.lst (bs.map V.ref)) → bs.length = us.length → (∀ (i : Nat) b, bs[i]? = some b → ∃ u, us[i]? = some u ∧ H' b = some (.tup (u.map V.int))) →
  us.Perm ws → us.Pairwise (fun u v => HT.lexLt v u = false) → Q (.ref l) H'
section
variable {X : Cx}
theorem call_sortT2s (hc : X.calm = true) : CallR X (.builtin "sorted") rSortT2s := by
 intro pins s σ H xs us Q I r h
 obtain ⟨p, kvs, ws, rfl, hq, hws, hne, h64, q⟩ := h
 obtain ⟨u, rfl, rx⟩ := vals1 r
 cases rx
 obtain ⟨hz, lo, ks, pr, o, es, ep, g1, g2, g3, g4, nd⟩ := (show ObjOk X.prog X.w H s.heap p (.dT kvs) from I.hok p _ hq)
 have hlk : kvs.length = ks.length := Paired.length pr
 have hlw : kvs.length = ws.length := by have := congrArg List.length hws; simpa using this
 have hle : es.size = ws.length := by rw [← Array.length_toList, g4, List.length_map]; omega
 have hat : EntAt s.heap p es ep := ⟨o, g1, g2, g3⟩
 have key : ∀ (i : Nat) (e : DictEntry), es[i]? = some e → ∃ (a : Addr) (w : List Int), e.key = .ref a ∧ ws[i]? = some w ∧ H a = some (.tup (w.map V.int)) := fun i e he => by
  rw [← Array.getElem?_toList, g4, List.getElem?_map] at he
  obtain ⟨x, hx, rfl⟩ := Option.map_eq_some_iff.mp he
  have hi : i < ks.length := (List.getElem?_eq_some_iff.mp hx).1
  have hp : kvs[i]? = some kvs[i] := List.getElem?_eq_getElem (by omega)
  obtain ⟨x', h1, h2, h3, _⟩ := paired_get pr hp
  rw [hx] at h1; cases h1
  have hw : ws[i]? = some ws[i] := List.getElem?_eq_getElem (by omega)
  have e1 : (kvs.map (·.1))[i]? = some kvs[i].1 := by rw [List.getElem?_map, hp]; rfl
  rw [hws, List.getElem?_map, hw] at e1
  have e2 : ws[i].map Sum.inl = kvs[i].1 := by simpa using e1
  refine ⟨x.2.1, ws[i], rfl, hw, ?_⟩
  rw [h3, ← e2, List.map_map]; rfl
 refine sorted_gen2S (α := Addr × List Int) (f := fun z => .ref z.1) (g := fun z => .ref z.1) (fun _ H' zs => H' = H ∧ (∀ z ∈ zs, H z.1 = some (.tup (z.2.map V.int))) ∧ zs.map (·.2) = ws ∧ zs.length < 64)
  (fun H' x y => HT.lexLt (tkey H' x.1) (tkey H' y.1)) (fun H' => ord_lex fun x => tkey H' x.1) (fun R E hR => ?_) (fun s3 H3 zs hF => ⟨fun z _ => rfl, hF.2.2.2⟩) (fun s3 H3 zs I3 hF h2 h6 old => ?_) (fun s3 H3 zs hF l ys H' n1 q3 e1 hp hs => ?_)
 · refine PySem.W.kdu_collect (A := X.A.in1) (ent_src (es := es) (ep := ep) lo) (I.ok.hd hc) hat (by omega) fun h' tk acc hk hacc => ?_
   have each : ∃ zs : List (Addr × List Int), acc.toList = zs.map (fun z => Value.ref z.1) ∧ (∀ z ∈ zs, H z.1 = some (.tup (z.2.map V.int))) ∧ zs.map (·.2) = ws := by
    have hl : acc.toList.length = ws.length := by rw [Array.length_toList, hacc.1, hle]
    have hg : ∀ (j : Nat) (v : Value), acc.toList[j]? = some v → ∃ (a : Addr) (w : List Int), v = .ref a ∧ ws[j]? = some w ∧ H a = some (.tup (w.map V.int)) := fun j v e => by
     obtain ⟨e', h1, h2⟩ := hacc.2 j v (by rw [← Array.getElem?_toList]; exact e)
     obtain ⟨a, w, h3, h4, h5⟩ := key j e' h1
     exact ⟨a, w, h2.trans h3, h4, h5⟩
    generalize acc.toList = vs at hl hg
    clear key hws hlw hle hne h64 q hR hacc hat nd
    induction vs generalizing ws with
    | nil => cases ws with
     | nil => exact ⟨[], rfl, fun z hz => (nomatch hz), rfl⟩
     | cons => simp at hl
    | cons v vs ih =>
     cases ws with
     | nil => simp at hl
     | cons w ws =>
      obtain ⟨zs, h1, h2, h3⟩ := ih ws (by simpa using hl) fun j v e => hg (j + 1) v (by simpa using e)
      obtain ⟨a, w', e1, e2, e3⟩ := hg 0 v rfl
      cases e2
      subst e1
      refine ⟨(a, w) :: zs, by rw [h1]; rfl, fun z hz => ?_, by rw [List.map_cons, h3]⟩
      rcases List.mem_cons.mp hz with e | hz
      · rw [e]; exact e3
      · exact h2 z hz
   obtain ⟨zs, h1, h2, h3⟩ := each
   rw [h1]
   exact hR _ H zs (I.kept hk) ⟨rfl, h2, h3, by have := congrArg List.length h3; rw [List.length_map] at this; omega⟩
 · obtain ⟨rfl, each, hzw, _⟩ := hF
   have hlz : zs.length = ws.length := by rw [← hzw, List.length_map]
   have tup : ∀ z ∈ zs, ∃ its : List Value, IntsAre its z.2 ∧ IsTup h6 z.1 its.toArray := fun z hz => by
    obtain ⟨its, rt, ⟨o, ho, hc, n, hd⟩, _⟩ := I3.tuple (SqT.of (each z hz))
    exact ⟨its, vals_ints rt, o, old z.1 o (by rw [each z hz]; exact fun z => nomatch z) ho, hc, n, hd⟩
   have kt : ∀ l : List (Addr × List Int), (∀ z ∈ l, z ∈ zs) → ∃ fs : List Value, PySem.W.KatTups h6 (l.map fun z => Value.ref z.1) fs ∧ fs.length = l.length ∧ ∀ v ∈ fs, ∃ n t, v = Value.int n t := fun l => by
    induction l with
    | nil => exact fun _ => ⟨[], trivial, rfl, fun v hv => nomatch hv⟩
    | cons a l ih =>
     intro hl
     obtain ⟨fs, f1, f2, f3⟩ := ih fun b hb => hl b (.tail _ hb)
     obtain ⟨its, hi, o, ho, hc, n, hd⟩ := tup a (hl a (.head _))
     have hnn := hne (by omega) a.2 (by rw [← hzw]; exact List.mem_map.mpr ⟨a, hl a (.head _), rfl⟩)
     obtain ⟨aa, aw⟩ := a
     cases hi with
     | nil => exact absurd rfl hnn
     | cons n0 t0 r0 => exact ⟨.int n0 t0 :: fs, PySem.W.KatTups.cons ho hc hd (by simp) f1, by simp [f2], fun v hv => by
      rcases List.mem_cons.mp hv with z | z
      · exact ⟨_, _, z⟩
      · exact f3 v z⟩
   obtain ⟨fs, f1, f2, f3⟩ := kt zs fun _ h => h
   refine ⟨tuples' true, fun Q E hQ => PySem.W.kat_kind (T := .type "int") f1 (by omega) (fun v hv => by obtain ⟨n, t, rfl⟩ := f3 v hv; exact .now) (by decide) hQ, fun x y hx hy Q E hQ => ?_⟩
   rw [pairs_map] at hx hy
   obtain ⟨z1, m1, e1⟩ := List.mem_map.mp hx
   obtain ⟨z2, m2, e2⟩ := List.mem_map.mp hy
   obtain ⟨it1, i1, o1, ho1, _, n1, hd1⟩ := tup z1 m1
   obtain ⟨it2, i2, o2, ho2, _, n2, hd2⟩ := tup z2 m2
   rw [← e1, ← e2] at hQ ⊢
   have hQ : Q (HT.lexLt (tkey H3 (.ref z1.1)) (tkey H3 (.ref z2.1))) _ := hQ
   rw [tkey_of (each z1 m1), tkey_of (each z2 m2)] at hQ
   refine PySem.W.kat_lt ho1 hd1 ho2 hd2 (katLex_ints rfl ?_ ?_ ?_ hQ)
   · simpa using i1
   · simpa using i2
   · have := i1.length; have := i2.length; simp; omega
 · obtain ⟨rfl, each, hzw, _⟩ := hF
   refine q l (ys.map (·.1)) (ys.map (·.2)) H' n1 q3 ?_ (by rw [List.length_map, List.length_map]) (fun i b hb => ?_) (by rw [← hzw]; exact hp.map _) ?_
   · rw [e1, List.map_map]; rfl
   · rw [List.getElem?_map] at hb
     obtain ⟨z, hz, rfl⟩ := Option.map_eq_some_iff.mp hb
     exact ⟨z.2, by rw [List.getElem?_map, hz]; rfl, q3 _ _ (each z (hp.mem_iff.mp (List.mem_of_getElem? hz)))⟩
   · rw [List.pairwise_map] at hs ⊢
     refine List.Pairwise.imp_of_mem (fun {a b} ha hb h => ?_) hs
     have h : HT.lexLt (tkey H3 (.ref b.1)) (tkey H3 (.ref a.1)) = false := h
     rw [tkey_of (each b (hp.mem_iff.mp hb)), tkey_of (each a (hp.mem_iff.mp ha))] at h
     exact h
end
section
variable {X : Cx} {K : PySem.W.Frag} {e : Expr} {es : List Expr} {t : TA} {pos p : Pos} {x : Str} (hg : Gl X x) (he : starEach (e :: es) X.env = (false, eval e X.env) :: starEach es X.env) (hpl : (backTo pos (starEach es X.env)).any (·.1) = false)
include hg he hpl
theorem k_sortedT2s (hK : X.K = K) (hx : x = "sorted") (hc : X.calm = true) (hm : X.mg x = none) (ha : JA X (e :: es) t) : JE X (.Call (.Name x p) (e :: es) [] pos) (tCB rSortT2s t) := ⟨by subst hx; exact pe_callB (call_sortT2s hc) hg hm boot_sorted ha.h (by decide) (by decide) he hpl⟩
end
end Br
namespace Br
namespace ZG
open PySem PySem.Spec PySem.Calls PyProof.Rows L2
def SI : Bool → Heap → Addr → Addr → Nat → Prop
 | true, h, c, d, k => h.IsTupleIter c d k
 | false, h, c, d, k => h.IsListIter c d k
def SS : Bool → Heap → Addr → Array Value → Prop
 | true, h, d, xs => h.IsTuple d xs
 | false, h, d, xs => h.IsList d xs
def SqS : Bool → PySem.W.Frag → Hp → Addr → List V → Prop
 | true, K, H, a, xs => SqT K H a xs
 | false, K, H, a, xs => SqL K H a xs
abbrev itn (f : Bool) : String := if f = true then "tuple_iterator" else "list_iterator"
theorem SI.at {f : Bool} {h h' : Heap} {c d : Addr} {k : Nat} (i : SI f h c d k) (q : ∀ ob, h.get? c = some ob → h'.get? c = some ob) : SI f h' c d k := by
 cases f with
 | true => exact Heap.IsTupleIter.at i q
 | false => exact Heap.IsListIter.at i q
theorem SS.at {f : Bool} {h h' : Heap} {d : Addr} {xs : Array Value} (i : SS f h d xs) (q : ∀ ob, h.get? d = some ob → h'.get? d = some ob) : SS f h' d xs := by
 cases f with
 | true => obtain ⟨ob, a, b⟩ := i; exact ⟨ob, q _ a, b⟩
 | false => obtain ⟨ob, a, b⟩ := i; exact ⟨ob, q _ a, b⟩
theorem SI.ob {f : Bool} {h : Heap} {c d : Addr} {k : Nat} (i : SI f h c d k) : ∃ ob, h.get? c = some ob ∧ ob.data = .fields #[.ref d, rawInt k] := by
 cases f with
 | true => obtain ⟨ob, a, _, b⟩ := i; exact ⟨ob, a, b⟩
 | false => obtain ⟨ob, a, _, b⟩ := i; exact ⟨ob, a, b⟩
theorem SI.new {f : Bool} {h : Heap} {c d : Addr} (e : h.get? c = some { cls := .type (itn f), data := .fields #[.ref d, .int 0 0] }) : SI f h c d 0 := by
 cases f with
 | true => exact ⟨_, e, rfl, rfl⟩
 | false => exact ⟨_, e, rfl, rfl⟩
section
variable {prog : Program} {w : World} {A : Around} {E : Value → Shared → Prop} {s : Shared}
theorem gnext {f : Bool} {c d : Addr} {k : Nat} {zs : Array Value} {v : Value} {Q : Value → Shared → Prop} (hI : SI f s.heap c d k) (hT : SS f s.heap d zs) (hv : zs[k]? = some v)
 (go : ∀ g, SI f g c d (k + 1) → Heap.SameBut c s.heap g → Q v { s with heap := g }) : wpAny (model prog w) A (Builtin.SmallTypes.nextOf (.ref c)) Q E s := by
 cases f with
 | true => exact Br.tnext hI hT hv go
 | false => exact ZL.tnext hI hT hv go
theorem gnone {f : Bool} {c d : Addr} {k : Nat} {zs : Array Value} {Q : Value → Shared → Prop} (hh : A.handled = none) (hI : SI f s.heap c d k) (hT : SS f s.heap d zs) (hv : zs[k]? = none)
 (go : ∀ g e, Heap.ExtBut c s.heap g → (∃ o, g.get? e = some o ∧ o.cls = .type "StopIteration") → E (.ref e) { s with heap := g }) : wpAny (model prog w) A (Builtin.SmallTypes.nextOf (.ref c)) Q E s := by
 cases f with
 | true => exact Br.tnone hh hI hT hv go
 | false => exact ZL.tnone hh hI hT hv go
theorem giter {f : Bool} {d : Addr} {zs : Array Value} {Q : Value → Shared → Prop} (hT : SS f s.heap d zs) (h : Q (.ref s.heap.objs.size) { s with heap := s.heap.push { cls := .type (itn f), data := .fields #[.ref d, .int 0 0] } }) : wpAny (model prog w) A (pyIter (.ref d)) Q E s := by
 cases f with
 | true => exact wpAny_pyIter_tuple hT h
 | false => exact wpAny_pyIter_list hT h
structure Zp (f1 f2 : Bool) (h : Heap) (z u o c1 c2 d e : Addr) (xs ys : Array Value) (k : Nat) : Prop where
 zip : IsZip h z u o .none
 its : IsPair h u (.ref c1) (.ref c2)
 own : ∃ a b, IsPair h o a b
 i1 : SI f1 h c1 d k
 i2 : SI f2 h c2 e k
 t1 : SS f1 h d xs
 t2 : SS f2 h e ys
theorem zitem {f1 f2 : Bool} {z u o c1 c2 d e : Addr} {xs ys : Array Value} {k : Nat} {x y : Value} {Q : Value → Shared → Prop} (P : Ap z u o c1 c2 d e) (Z : Zp f1 f2 s.heap z u o c1 c2 d e xs ys k) (hx : xs[k]? = some x) (hy : ys[k]? = some y)
 (go : ∀ g, IsZip g z u o (rawInt s.heap.objs.size) → IsPair g o x y → SI f1 g c1 d (k + 1) → SI f2 g c2 e (k + 1) → IsPair g s.heap.objs.size x y → g.objs.size = s.heap.objs.size + 1 →
  (∀ b ob, b ≠ z → b ≠ o → b ≠ c1 → b ≠ c2 → s.heap.get? b = some ob → g.get? b = some ob) → Q (.ref s.heap.objs.size) { s with heap := g }) :
 wpAny (model prog w) A (Builtin.«zip.__next__» ⟨[.ref z], []⟩) (fun fin s' => ∃ v, fin = .done (.ret v) ∧ Q v s') E s := by
 obtain ⟨n1, n2, n3, n4, n5, n6, n7, n8, n9, n10⟩ := P.all
 obtain ⟨dz, ez⟩ := P.nd z (by simp)
 obtain ⟨do', eo⟩ := P.nd o (by simp)
 obtain ⟨dc1, ec1⟩ := P.nd c1 (by simp)
 exact zdraw P.ne Z.zip Z.its Z.own
  (fun g q _ _ r => gnext (s := { s with heap := g }) (Z.i1.at fun ob a => q.extBut _ ob (Ne.symm n3) a) (Z.t1.at fun ob a => q.extBut _ _ dz a) hx r)
  (fun g q _ _ r => gnext (s := { s with heap := g }) (Z.i2.at fun ob a => q _ ob (Ne.symm n4) (Ne.symm n10) (Ne.symm n9) a) (Z.t2.at fun ob a => q _ _ ez ec1 eo a) hy r)
  (fun _ _ j q => j.at q) (fun _ _ j q => j.at q) go
theorem znone {f1 f2 : Bool} {z u o c1 c2 d e : Addr} {xs ys : Array Value} {k : Nat} {Q : PySem.Fin → Shared → Prop} (hh : A.handled = none) (P : Ap z u o c1 c2 d e) (Z : Zp f1 f2 s.heap z u o c1 c2 d e xs ys k) (hv : xs[k]? = none ∨ ys[k]? = none)
 (go : ∀ g x, (∀ b ob, b ≠ z → b ≠ o → b ≠ c1 → b ≠ c2 → s.heap.get? b = some ob → g.get? b = some ob) → (∃ ob, g.get? x = some ob ∧ ob.cls = .type "StopIteration") → E (.ref x) { s with heap := g }) :
 wpAny (model prog w) A (Builtin.«zip.__next__» ⟨[.ref z], []⟩) Q E s := by
 obtain ⟨n1, n2, n3, n4, n5, n6, n7, n8, n9, n10⟩ := P.all
 obtain ⟨dz, ez⟩ := P.nd z (by simp)
 obtain ⟨do', eo⟩ := P.nd o (by simp)
 obtain ⟨dc1, ec1⟩ := P.nd c1 (by simp)
 cases hx : xs[k]? with
 | none =>
  exact zdrawNo P.ne Z.zip Z.its Z.own (.inl fun g q _ _ r => gnone (s := { s with heap := g }) hh (Z.i1.at fun ob a => q.extBut _ ob (Ne.symm n3) a) (Z.t1.at fun ob a => q.extBut _ _ dz a) hx r) go
 | some x1 =>
  have hy : ys[k]? = none := hv.resolve_left (by rw [hx]; simp)
  exact zdrawNo P.ne Z.zip Z.its Z.own (.inr ⟨x1, fun g q _ _ r => gnext (s := { s with heap := g }) (Z.i1.at fun ob a => q.extBut _ ob (Ne.symm n3) a) (Z.t1.at fun ob a => q.extBut _ _ dz a) hx fun g' _ e => r g' e,
   fun g q _ _ r => gnone (s := { s with heap := g }) hh (Z.i2.at fun ob a => q _ ob (Ne.symm n4) (Ne.symm n10) (Ne.symm n9) a) (Z.t2.at fun ob a => q _ _ ez ec1 eo a) hy r⟩) go
theorem znext {f1 f2 : Bool} {z u o c1 c2 d e : Addr} {xs ys : Array Value} {k : Nat} {x y : Value} {Q : Option Value → Shared → Prop} (P : Ap z u o c1 c2 d e) (Z : Zp f1 f2 s.heap z u o c1 c2 d e xs ys k) (hx : xs[k]? = some x) (hy : ys[k]? = some y)
 (go : ∀ g, IsZip g z u o (rawInt s.heap.objs.size) → IsPair g o x y → SI f1 g c1 d (k + 1) → SI f2 g c2 e (k + 1) → IsPair g s.heap.objs.size x y → g.objs.size = s.heap.objs.size + 1 →
  (∀ b ob, b ≠ z → b ≠ o → b ≠ c1 → b ≠ c2 → s.heap.get? b = some ob → g.get? b = some ob) → Q (some (.ref s.heap.objs.size)) { s with heap := g }) : wpAny (model prog w) A (pyNext (.ref z)) Q E s := by
 have hT : s.TypeIs (.ref z) "zip" := ⟨_, Z.zip, rfl⟩
 unfold pyNext
 exact wpAny_bind (wpAny_attempt (wpAny_callSpecial?_slot (name := Str.ofString "__next__") hT F.slot_zip_next (wpAny_call_entry F.slot_zip_next hT F.entry_zip_next (zitem P Z hx hy fun g a1 a2 a3 a4 a5 a6 a7 => wpAny_pure (go g a1 a2 a3 a4 a5 a6 a7)) (F.args_zip_next_1 _))))
theorem zstop {f1 f2 : Bool} {z u o c1 c2 d e : Addr} {xs ys : Array Value} {k : Nat} {Q : Option Value → Shared → Prop} (hh : A.handled = none) (P : Ap z u o c1 c2 d e) (Z : Zp f1 f2 s.heap z u o c1 c2 d e xs ys k) (hv : xs[k]? = none ∨ ys[k]? = none)
 (go : ∀ g, (∀ b ob, b ≠ z → b ≠ o → b ≠ c1 → b ≠ c2 → s.heap.get? b = some ob → g.get? b = some ob) → Q none { s with heap := g }) : wpAny (model prog w) A (pyNext (.ref z)) Q E s := by
 have hT : s.TypeIs (.ref z) "zip" := ⟨_, Z.zip, rfl⟩
 unfold pyNext
 refine wpAny_bind (wpAny_attempt (wpAny_callSpecial?_slot (name := Str.ofString "__next__") hT F.slot_zip_next (wpAny_call_entry F.slot_zip_next hT F.entry_zip_next (znone hh P Z hv fun g x hk he => ?_) (F.args_zip_next_1 _))))
 obtain ⟨ob, hob, hcb⟩ := he
 exact wpAny_bind (wpAny_isInstance (T := "StopIteration") (b := true) ⟨ob, hob, hcb⟩ isSubtype_stop (wpAny_pure (go _ hk)))
abbrev zh1 (f1 : Bool) (h : Heap) (d : Addr) : Heap := h.push { cls := .type (itn f1), data := .fields #[.ref d, .int 0 0] }
abbrev zh2 (f1 f2 : Bool) (h : Heap) (d e : Addr) : Heap := (zh1 f1 h d).push { cls := .type (itn f2), data := .fields #[.ref e, .int 0 0] }
abbrev zh3 (f1 f2 : Bool) (h : Heap) (d e : Addr) : Heap := (zh2 f1 f2 h d e).push { cls := .type "tuple", data := .seq #[.ref h.objs.size, .ref (zh1 f1 h d).objs.size] }
abbrev zh4 (f1 f2 : Bool) (h : Heap) (d e : Addr) : Heap := (zh3 f1 f2 h d e).push { cls := .type "tuple", data := .seq #[.none, .none] }
abbrev zh5 (f1 f2 : Bool) (h : Heap) (d e : Addr) : Heap := (zh4 f1 f2 h d e).push { cls := .type "zip", data := .fields #[.none, .bool false, .bool false, .ref (zh2 f1 f2 h d e).objs.size, .ref (zh3 f1 f2 h d e).objs.size] }
theorem zmeets (f1 f2 : Bool) (d e : Addr) (xs ys : Array Value) : Meets (Builtin.«zip.__new__» ⟨[.type "zip", .ref d, .ref e], []⟩) (fun _ R s => SS f1 s.heap d xs ∧ SS f2 s.heap e ys ∧ R (.ok (.ret (.ref (zh4 f1 f2 s.heap d e).objs.size))) { s with heap := zh5 f1 f2 s.heap d e }) :=
 .of_wp fun prog w A R s h => by
  obtain ⟨hp, g, dr, tk, os⟩ := s
  obtain ⟨h1, h2, h⟩ := h
  have hsub := sub_zip
  have q1 : SS f1 (Shared.heap ⟨hp, g, dr, tk, os⟩) d xs := h1
  have q2 : SS f2 (Shared.heap ⟨hp.push { cls := .type (itn f1), data := .fields #[.ref d, .int 0 0] }, g, dr, tk, os⟩) e ys := h2.at fun ob q => Heap.get?_push_of_some _ q
  wp_walk using giter q1, giter q2
  exact ⟨_, rfl, h⟩
theorem zmake {f1 f2 : Bool} {d e : Addr} {xs ys : Array Value} {Q : Value → Shared → Prop} (h1 : SS f1 s.heap d xs) (h2 : SS f2 s.heap e ys)
 (go : ∀ g, Zp f1 f2 g (s.heap.objs.size + 4) (s.heap.objs.size + 2) (s.heap.objs.size + 3) s.heap.objs.size (s.heap.objs.size + 1) d e xs ys 0 → (∀ b ob, s.heap.get? b = some ob → g.get? b = some ob) → Q (.ref (s.heap.objs.size + 4)) { s with heap := g }) :
 wpAny (model prog w) A (call (.type "zip") [.ref d, .ref e]) Q E s := by
 refine callType_new F.called_zip (by decide) (F.typeCall_zip_2 _ _) (F.newCall_zip_2 _ _) (fun obj => F.args_object_init_3 obj _ _) F.entry_zip_new (zmeets f1 f2 d e xs ys) ⟨h1, h2, ?_⟩
 have s1 : (zh1 f1 s.heap d).objs.size = s.heap.objs.size + 1 := Heap.size_push ..
 have s2 : (zh2 f1 f2 s.heap d e).objs.size = s.heap.objs.size + 2 := by rw [Heap.size_push, s1]
 have s3 : (zh3 f1 f2 s.heap d e).objs.size = s.heap.objs.size + 3 := by rw [Heap.size_push, s2]
 have s4 : (zh4 f1 f2 s.heap d e).objs.size = s.heap.objs.size + 4 := by rw [Heap.size_push, s3]
 have g5 : (zh5 f1 f2 s.heap d e).get? (zh4 f1 f2 s.heap d e).objs.size = some _ := Heap.get?_push_size _ rfl
 have g4 : (zh5 f1 f2 s.heap d e).get? (zh3 f1 f2 s.heap d e).objs.size = some _ := Heap.get?_push_of_some _ (Heap.get?_push_size _ rfl)
 have g3 : (zh5 f1 f2 s.heap d e).get? (zh2 f1 f2 s.heap d e).objs.size = some _ := Heap.get?_push_of_some _ (Heap.get?_push_of_some _ (Heap.get?_push_size _ rfl))
 have g2 : (zh5 f1 f2 s.heap d e).get? (zh1 f1 s.heap d).objs.size = some _ := Heap.get?_push_of_some _ (Heap.get?_push_of_some _ (Heap.get?_push_of_some _ (Heap.get?_push_size _ rfl)))
 have g1 : (zh5 f1 f2 s.heap d e).get? s.heap.objs.size = some _ := Heap.get?_push_of_some _ (Heap.get?_push_of_some _ (Heap.get?_push_of_some _ (Heap.get?_push_of_some _ (Heap.get?_push_size _ rfl))))
 have old : ∀ b ob, s.heap.get? b = some ob → (zh5 f1 f2 s.heap d e).get? b = some ob := fun b ob q => Heap.get?_push_of_some _ (Heap.get?_push_of_some _ (Heap.get?_push_of_some _ (Heap.get?_push_of_some _ (Heap.get?_push_of_some _ q))))
 rw [s4] at g5
 rw [s3] at g4
 rw [s2] at g3
 rw [s1] at g2
 rw [s1] at g3
 rw [s2, s3] at g5
 have gz := go (zh5 f1 f2 s.heap d e) ⟨g5, g3, ⟨_, _, g4⟩, SI.new g1, SI.new g2, h1.at fun ob q => old _ _ q, h2.at fun ob q => old _ _ q⟩ old
 rw [s4]
 exact ⟨⟨_, g5, rfl⟩, gz⟩
end
section
variable {X : Cx} {pins : List (Addr × Obj)} {σ : L2.St} {H : Hp} {s : Shared}
theorem inv_seq {f : Bool} {a : Addr} {xs : List V} (I : Inv X pins σ H s) (h : SqS f X.K H a xs) : ∃ its : List Value, Vals xs its ∧ SS f s.heap a its.toArray := by
 cases f with
 | true => obtain ⟨t, r, p, _⟩ := I.tuple h; exact ⟨t, r, p⟩
 | false => obtain ⟨t, r, p, _⟩ := I.list h; exact ⟨t, r, p.isList⟩
theorem sqS_apart {f : Bool} {d b : Addr} {xs : List V} (I : Inv X pins σ H s) (h : SqS f X.K H d xs) (q : FpOk X pins H b) : d ≠ b := by
 cases f with
 | true => exact sqT_apart I h q
 | false => exact ZL.sqL_apart I h q
theorem sqS_inj {f : Bool} {a : Addr} {xs ys : List V} (I : Inv X pins σ H s) (h : SqS f X.K H a xs) (q : SqS f X.K H a ys) : xs = ys := by
 cases f with
 | true => exact I.tuple_inj h q
 | false => exact I.list_inj h q
end
def Itz (f1 f2 : Bool) (K : PySem.W.Frag) (a b : Addr) : It :=
 ⟨fun i H => ∃ xs ys x y, SqS f1 K H a xs ∧ SqS f2 K H b ys ∧ xs[i]? = some x ∧ ys[i]? = some y,
  fun i H v H' => ∃ (x y : V) (T : Addr), v = .ref T ∧ H T = none ∧ H' = upd H T (.tup [x, y]) ∧ ∀ xs ys, SqS f1 K H a xs → SqS f2 K H b ys → xs[i]? = some x ∧ ys[i]? = some y,
  fun i H => ∃ xs ys, SqS f1 K H a xs ∧ SqS f2 K H b ys ∧ (xs.length ≤ i ∨ ys.length ≤ i)⟩
theorem turn_zip {f1 f2 : Bool} {P : Program} {w : World} {K : PySem.W.Frag} {es : List Expr} {kt : Nat} {pt : Pos} {z u o c1 c2 a b : Addr} (ne : [z, u, o, c1, c2].Nodup) :
 Turn P w K (.Tuple es kt pt) (Itz f1 f2 K a b) [z, u, o, c1, c2] z (fun i h => IsZip h z u o .none ∧ IsPair h u (.ref c1) (.ref c2) ∧ (∃ x y, IsPair h o x y) ∧ SI f1 h c1 a i ∧ SI f2 h c2 b i) where
 mem := by simp
 obj := fun i h st c hc => by
  obtain ⟨h1, h2, ⟨x, y, h3⟩, h4, h5⟩ := st
  obtain ⟨o4, h4, d4⟩ := h4.ob
  obtain ⟨o5, h5, d5⟩ := h5.ob
  simp only [List.mem_cons, List.mem_nil_iff, or_false] at hc
  rcases hc with rfl | rfl | rfl | rfl | rfl
  · exact ⟨_, h1, fun v q => by cases q⟩
  · exact ⟨_, h2, fun v q => by cases q⟩
  · exact ⟨_, h3, fun v q => by cases q⟩
  · exact ⟨_, h4, fun v q => by rw [d4] at q; cases q⟩
  · exact ⟨_, h5, fun v q => by rw [d5] at q; cases q⟩
 keep := fun i h h' st k => by
  obtain ⟨h1, h2, ⟨x, y, h3⟩, h4, h5⟩ := st
  exact ⟨k _ (by simp) _ h1, k _ (by simp) _ h2, ⟨x, y, k _ (by simp) _ h3⟩, h4.at fun ob q => k _ (by simp) ob q, h5.at fun ob q => k _ (by simp) ob q⟩
 item := by
  intro X hP hw hK hc i pins s σ H E I hf st hg
  subst hP hw hK
  obtain ⟨h1, h2, h3, h4, h5⟩ := st
  obtain ⟨xs, ys, x, y, q1, q2, hx, hy⟩ := hg
  obtain ⟨t1, r1, p1⟩ := inv_seq I q1
  obtain ⟨t2, r2, p2⟩ := inv_seq I q2
  obtain ⟨x', hx', rx⟩ := r1.get hx
  obtain ⟨y', hy', ry⟩ := r2.get hy
  have ap : Ap z u o c1 c2 a b := ⟨ne, fun c hc => ⟨sqS_apart I q1 (hf c hc), sqS_apart I q2 (hf c hc)⟩⟩
  obtain ⟨n1, n2, n3, n4, n5, n6, n7, n8, n9, n10⟩ := ap.all
  refine znext ap ⟨h1, h2, h3, h4, h5, p1, p2⟩ (x := x') (y := y') (by simpa using hx') (by simpa using hy') fun g z1 o1 i1 i2 T1 sz kp => ?_
  refine ⟨_, rfl, wpAny_letOwnedTupleGo_zip z1 fun g' z2 k2 => ?_⟩
  have hfr : H s.heap.objs.size = none := I.hok.fresh (Nat.le_refl _)
  have lt : ∀ c ∈ [z, u, o, c1, c2], c < s.heap.objs.size := fun c hc => by
   simp only [List.mem_cons, List.mem_nil_iff, or_false] at hc
   rcases hc with rfl | rfl | rfl | rfl | rfl
   · exact Heap.lt_size h1
   · exact Heap.lt_size h2
   · obtain ⟨_, _, h3⟩ := h3; exact Heap.lt_size h3
   · obtain ⟨_, h4, _⟩ := h4.ob; exact Heap.lt_size h4
   · obtain ⟨_, h5, _⟩ := h5.ob; exact Heap.lt_size h5
  have all : ∀ c ob, c ∉ [z, u, o, c1, c2] → s.heap.get? c = some ob → g'.get? c = some ob := fun c ob hc q => by
   simp only [List.mem_cons, List.mem_nil_iff, or_false, not_or] at hc
   exact k2.extBut _ _ hc.1 (kp c ob hc.1 hc.2.2.1 hc.2.2.2.1 hc.2.2.2.2 q)
  have zl : z < s.heap.objs.size := lt z (by simp)
  have u' : IsPair g' u (.ref c1) (.ref c2) := k2.extBut _ _ (Ne.symm n1) (kp _ _ (Ne.symm n1) n5 n6 n7 h2)
  have o' : IsPair g' o x' y' := k2.extBut _ _ (Ne.symm n2) o1
  have i1' := i1.at fun ob q => k2.extBut _ ob (Ne.symm n3) q
  have i2' := i2.at fun ob q => k2.extBut _ ob (Ne.symm n4) q
  have T' : IsPair g' s.heap.objs.size x' y' := k2.extBut _ _ (Nat.ne_of_gt zl) T1
  have trk : ∀ c v, H c = some v → c ∉ [z, u, o, c1, c2] := fun c v q hc => by rw [(hf c hc).1] at q; cases q
  have I1 : Inv X pins σ (upd H s.heap.objs.size (.tup [x, y])) { s with heap := g' } := by
   refine I.step (g' := s.gens) (d' := s.drawn) (t' := s.toks) (ch := [z, u, o, c1, c2]) (fun c hc => ?_) (fun c ob _ _ hc q _ => all c ob hc q) (fun c ob _ _ hc q _ => ⟨ob.slots, all c ob hc q⟩) (fun c ob hc q n => ?_) (fun c ob hc q => ⟨ob, all c ob hc q⟩)
    (fun c v q => ?_) (fun c v v' q => ?_) (fun c v q => ⟨#[], ?_⟩) (fun m hm => ?_) (fun c v q => ?_) I.bare
   · obtain ⟨f0, f1, f2, f3, f4, f5⟩ := hf c hc
     exact ⟨f3, f1, f4, f5⟩
   · rw [upd_ne (Nat.ne_of_lt (Heap.lt_size q))]; exact n
   · rw [upd_ne (ne_of_none q hfr)]; exact q
   · rw [upd_ne (ne_of_none q hfr)]; exact q
   · rw [upd_ne (ne_of_none q hfr), q]; simp
   · obtain ⟨ob, es, ep, ho, r⟩ := hm
     exact ⟨ob, es, ep, all _ ob (fun hc => (hf _ hc).2.1 rfl) ho, r⟩
   · by_cases hcT : c = s.heap.objs.size
     · subst hcT
       rw [upd_same] at q; cases q
       exact ⟨by show 2 ≤ sizeLine; decide, [x', y'], .cons rx (.cons ry .nil), ⟨_, T', rfl, _, rfl⟩⟩
     · rw [upd_ne hcT] at q
       refine (I.hok c v q).stay (fun c' ob hc' q' => all c' ob ?_ q') (fun c' q' => by rw [upd_ne (ne_of_none q' hfr)]; exact q') fun c' vs q' => by rw [upd_ne (ne_of_none q' hfr)]; exact q'
       rcases hc' with e | e
       · rw [e]; exact trk c v q
       · exact trk c' _ e
  refine ⟨.ref s.heap.objs.size, _, I1, rfl, ⟨x, y, _, rfl, hfr, rfl, fun xs' ys' e1 e2 => ?_⟩, ⟨z2, u', ⟨_, _, o'⟩, i1', i2'⟩, fun c hc => ?_⟩
  · rw [sqS_inj I e1 q1, sqS_inj I e2 q2]; exact ⟨hx, hy⟩
  · rw [upd_ne (Nat.ne_of_lt (lt c hc))]; exact (hf c hc).1
 done := by
  intro X hP hw hK hc i pins s σ H E I hf st hg
  subst hP hw hK
  obtain ⟨h1, h2, h3, h4, h5⟩ := st
  obtain ⟨xs, ys, q1, q2, hend⟩ := hg
  obtain ⟨t1, r1, p1⟩ := inv_seq I q1
  obtain ⟨t2, r2, p2⟩ := inv_seq I q2
  have ap : Ap z u o c1 c2 a b := ⟨ne, fun c hc => ⟨sqS_apart I q1 (hf c hc), sqS_apart I q2 (hf c hc)⟩⟩
  have e1 := r1.length
  have e2 := r2.length
  refine zstop (I.ok.hd hc) ap ⟨h1, h2, h3, h4, h5, p1, p2⟩ (by
   rcases hend with q | q
   · exact .inl (by simp; omega)
   · exact .inr (by simp; omega)) fun g kp => ⟨rfl, ?_⟩
  have all : ∀ c ob, c ∉ [z, u, o, c1, c2] → s.heap.get? c = some ob → g.get? c = some ob := fun c ob hc q => by
   simp only [List.mem_cons, List.mem_nil_iff, or_false, not_or] at hc
   exact kp c ob hc.1 hc.2.2.1 hc.2.2.2.1 hc.2.2.2.2 q
  have trk : ∀ c v, H c = some v → c ∉ [z, u, o, c1, c2] := fun c v q hc => by rw [(hf c hc).1] at q; cases q
  refine I.step (g' := s.gens) (d' := s.drawn) (t' := s.toks) (ch := [z, u, o, c1, c2]) (fun c hc => ?_) (fun c ob _ _ hc q _ => all c ob hc q) (fun c ob _ _ hc q _ => ⟨ob.slots, all c ob hc q⟩) (fun c ob hc q n => n) (fun c ob hc q => ⟨ob, all c ob hc q⟩)
   (fun c v q => q) (fun c v v' q => q) (fun c v q => ⟨#[], by rw [q]; simp⟩) (fun m hm => ?_) (fun c v q => ?_) I.bare
  · obtain ⟨f0, f1, f2, f3, f4, f5⟩ := hf c hc
    exact ⟨f3, f1, f4, f5⟩
  · obtain ⟨ob, es, ep, ho, r⟩ := hm
    exact ⟨ob, es, ep, all _ ob (fun hc => (hf _ hc).2.1 rfl) ho, r⟩
  · refine (I.hok c v q).stay (fun c' ob hc' q' => all c' ob ?_ q') (fun c' q' => q') fun c' vs q' => q'
    rcases hc' with e | e
    · rw [e]; exact trk c v q
    · exact trk c' _ e
 self := fun _ _ _ _ _ st h => wpAny_pyIter_zip st.1 h
def iZip (K : PySem.W.Frag) (ta : TA) : TI := fun σ H R => ta σ H fun vs H1 => ∃ (f1 f2 : Bool) (a b : Addr) (xs ys : List V), vs = [.ref a, .ref b] ∧ SqS f1 K H1 a xs ∧ SqS f2 K H1 b ys ∧ R (Itz f1 f2 K a b) H1
theorem pi_zip {X : Cx} {es : List Expr} {kt : Nat} {pt : Pos} {a b : Expr} {ta : TA} {p pos : Pos} (hg : Gl X "zip") (hm : X.mg "zip" = none) (ha : PA X [a, b] ta) (hs : starEach [a, b] X.env = [(false, eval a X.env), (false, eval b X.env)]) (hs2 : starEach [b] X.env = [(false, eval b X.env)]) :
 PI X (.Tuple es kt pt) (.Call (.Name "zip" p) [a, b] [] pos) (iZip X.K ta) := by
 intro pins s σ H R I h
 refine Call_ (ld_blt I hg hm boot_zip (PyProof.Rows.callWith_type1 (thn (ha pos pins s σ H _ I h) fun us s1 ⟨vs, H1, I1, r1, q1⟩ => ?_) (by rw [hs, hs2]) (by rw [hs2]; rfl)))
 obtain ⟨f1, f2, a, b, xs, ys, e, q1, q2, q⟩ := q1
 subst e
 cases r1 with
 | cons r rr =>
  cases rr with
  | cons r' rr =>
   cases rr
   cases r
   cases r'
   obtain ⟨t1, rv1, p1⟩ := inv_seq I1 q1
   obtain ⟨t2, rv2, p2⟩ := inv_seq I1 q2
   refine zmake p1 p2 fun g Z old => ?_
   have I2 : Inv X pins σ H1 { s1 with heap := g } := I1.kept (t' := s1.toks) old
   refine wpAny_pyIter_zip Z.zip ?_
   refine ⟨s1.heap.objs.size + 4, [s1.heap.objs.size + 4, s1.heap.objs.size + 2, s1.heap.objs.size + 3, s1.heap.objs.size, s1.heap.objs.size + 1], _, _, H1, rfl, I2, turn_zip ?_, ⟨Z.zip, Z.its, Z.own, Z.i1, Z.i2⟩, fun c hc => ?_, q⟩
   · simp only [List.nodup_cons, List.mem_cons, List.mem_nil_iff, or_false, not_or, List.nodup_nil, and_true, not_false_eq_true]
     refine ⟨⟨?_, ?_, ?_, ?_⟩, ⟨?_, ?_, ?_⟩, ⟨?_, ?_⟩, ?_⟩ <;> (intro z; have z : (_ : Nat) = _ := z; omega)
   · have hb : s1.heap.objs.size ≤ c := by
      simp only [List.mem_cons, List.mem_nil_iff, or_false] at hc
      rcases hc with rfl | rfl | rfl | rfl | rfl
      · exact Nat.le_add_right _ _
      · exact Nat.le_add_right _ _
      · exact Nat.le_add_right _ _
      · exact Nat.le_refl _
      · exact Nat.le_add_right _ _
     exact I1.fpOk hb (I1.hok.fresh hb)
theorem k_zip {X : Cx} {K : PySem.W.Frag} (hK : X.K = K) {x : Str} {es : List Expr} {kt : Nat} {pt : Pos} {a b : Expr} {ta : TA} {p pos : Pos} (hx : x = "zip") (hg : Gl X x) (hm : X.mg x = none) (hs : starEach [a, b] X.env = [(false, eval a X.env), (false, eval b X.env)]) (hs2 : starEach [b] X.env = [(false, eval b X.env)]) (ha : JA X [a, b] ta) :
 JI X (.Tuple es kt pt) (.Call (.Name x p) [a, b] [] pos) (iZip K ta) := hK ▸ ⟨by subst hx; exact pi_zip hg hm ha.h hs hs2⟩
section
variable {K : PySem.W.Frag} {a b : Addr} {xs ys : List V} {g : TG} {tt : TT} {te : TE} {σ0 : L2.St} {H0 : Hp} {Z : List V → Hp → Prop}
theorem cmp_zip {f1 f2 : Bool} {n : Nat} (hx : n ≤ xs.length) (hy : ys.length = n) (hn : n ≤ 1000) (Pv : Nat → List V → L2.St → Hp → Prop) (h0 : Pv 0 [] σ0 H0) (hl : ∀ i zs σ H, i ≤ n → Pv i zs σ H → SqS f1 K H a xs ∧ SqS f2 K H b ys ∧ zs.length ≤ i)
 (hs : ∀ i x y zs σ H (T : Addr) (N : List V → L2.St → Hp → Prop), xs[i]? = some x → ys[i]? = some y → Pv i zs σ H → H T = none → (∀ zs' σ' H', Pv (i + 1) zs' σ' H' → N zs' σ' H') →
  g (.ref T) σ (upd H T (.tup [x, y])) fun σ3 H3 => tt σ3 H3 fun b H4 => if b = true then te σ3 H4 fun y H5 => N (zs ++ [y]) σ3 H5 else N zs σ3 H4)
 (hd : ∀ zs σ H, Pv n zs σ H → Z zs H) : Cmp (Itz f1 f2 K a b) g tt te σ0 H0 Z := by
 have hsz : (sizeLine : Nat) = 16777216 := sizeLine_eq
 refine ⟨fun i m zs σ H => m = n - i ∧ i ≤ n ∧ Pv i zs σ H, ⟨n, by simp, Nat.zero_le _, h0⟩, ?_⟩
 rintro i m zs σ H ⟨rfl, hi, p⟩
 obtain ⟨q1, q2, hy'⟩ := hl i zs σ H hi p
 refine ⟨by omega, ?_⟩
 by_cases hlt : i < n
 · have e1 : xs[i]? = some xs[i] := List.getElem?_eq_getElem (by omega)
   have e2 : ys[i]? = some ys[i] := List.getElem?_eq_getElem (by omega)
   refine .inr ⟨⟨xs, ys, _, _, q1, q2, e1, e2⟩, fun v H' yl => ?_⟩
   obtain ⟨x, y, T, rfl, hT, rfl, hxz⟩ := yl
   obtain ⟨e3, e4⟩ := hxz xs ys q1 q2
   exact hs i x y zs σ _ T (fun ys' σ' H' => ∃ m', m' < n - i ∧ m' = n - (i + 1) ∧ i + 1 ≤ n ∧ Pv (i + 1) ys' σ' H') e3 e4 p hT fun ys' σ' H' p' => ⟨n - (i + 1), by omega, rfl, hlt, p'⟩
 · have e : i = n := by omega
   subst e
   exact .inl ⟨⟨xs, ys, q1, q2, .inr (by omega)⟩, hd zs σ H p⟩
end
end ZG
end Br
open PySem PySem.Spec PyProof.Rows L2 Br
local macro_rules | `(tactic| wtm_at "at") => `(tactic| first | exact At.here | (apply At.there; wtm_at "at") | fail)
local macro_rules | `(tactic| wtm_at "K") => `(tactic| first | exact cxC_K | exact cxC_K.trans cxC_K | rfl | fail)
local macro_rules | `(tactic| wtm_at "op") => `(tactic| first | (apply k_addA; wtm_at "K") | apply o_sub | apply o_mulI | apply o_mod | apply o_fdiv | apply o_pow | fail)
local macro_rules | `(tactic| wtm_at "cop") => `(tactic| first | apply c_eq | apply c_ne | apply c_lt | apply c_le | apply c_gt | apply c_ge | apply c_isnotN | apply c_is | (apply k_in; wtm_at "K") | (apply k_notin; wtm_at "K") | fail)
local macro_rules | `(tactic| wtm_at "pe") => `(tactic| first
 | apply j_int
 | (apply j_name; (wtm_at "at"); (rfl); (decide +kernel); (decide +kernel))
 | (apply j_cell; (wtm_at "at"); (rfl); (decide +kernel); (decide +kernel))
 | (apply j_repL; (wtm_at "pe"); (wtm_at "pe"))
 | (apply j_bin; (wtm_at "op"); (wtm_at "pe"); (wtm_at "pe"))
 | (apply k_ix; (wtm_at "K"); (exact fun _ _ => rfl); (wtm_at "pe"); (wtm_at "pe"))
 | wtm_at "call"
 | (apply j_tup; (wtm_at "pa"))
 | (apply j_lst; (wtm_at "pa"))
 | (apply j_cmp; (decide); (decide); (wtm_at "cop"); (wtm_at "pe"); (wtm_at "pe"))
 | (apply j_chain; (with_unfolding_all rfl); (wtm_at "cop"); (wtm_at "cop"); (wtm_at "pe"); (wtm_at "pe"); (wtm_at "pe"))
 | apply j_bl | apply j_non | apply j_str
 | (apply j_neg; (wtm_at "pe"))
 | (apply k_slS; (wtm_at "K"); (wtm_at "pe"); (wtm_at "po"); (wtm_at "po"))
 | (apply j_not; (wtm_at "pe"))
 | (apply j_one; (wtm_at "pe"))
 | (apply j_and; (wtm_at "pe"); (wtm_at "pe"))
 | apply j_dict0
 | (apply j_comp1; (rfl); (rfl); (intro _; rfl); (wtm_at "nd"); (rfl); (wtm_at "pi"); (intro cC cs cH cfp; wtm_at "pf"); (intro cC cs cH cfp; wtm_at "pe"))
 | (apply k_comp2; (wtm_at "K"); (rfl); (rfl); (intro _; rfl); (wtm_at "nd"); (decide +kernel); (rfl); (rfl); (wtm_at "pi"); (intro cC cs cH cfp; wtm_at "pf"); (intro cC cs cH cfp; wtm_at "pe"))
 | (apply j_dict1; (wtm_at "pe"); (wtm_at "pe"))
 | (apply j_const; (assumption); (rfl); (decide +kernel))
 | (apply j_bty (T := "int"); (rfl); (assumption); (decide +kernel); (decide +kernel); (decide +kernel))
 | (apply j_bty (T := "bool"); (rfl); (assumption); (decide +kernel); (decide +kernel); (decide +kernel))
 | (apply j_bty (T := "tuple"); (rfl); (assumption); (decide +kernel); (decide +kernel); (decide +kernel))
 | (apply j_bty (T := "list"); (rfl); (assumption); (decide +kernel); (decide +kernel); (decide +kernel))
 | (apply j_bty (T := "ValueError"); (rfl); (assumption); (decide +kernel); (decide +kernel); (decide +kernel))
 | fail)
local macro_rules | `(tactic| wtm_at "call") => `(tactic| first
 | (apply k_extend; (wtm_at "K"); (rfl); (rfl); (rfl); (rfl); (rfl); (wtm_at "pe"); (wtm_at "pa"))
 | (apply k_append; (wtm_at "K"); (rfl); (rfl); (rfl); (rfl); (rfl); (wtm_at "pe"); (wtm_at "pa"))
 | (apply j_call; (assumption); (wtm_at "room"); (rfl); (decide +kernel); (rfl); (rfl); (wtm_at "pa"))
 | (apply k_isi; (wtm_at "K"); (rfl); (rfl); (rfl); (with_reducible rfl); (assumption); (wtm_at "pa"))
 | (apply k_len; (wtm_at "K"); (rfl); (rfl); (rfl); (with_reducible rfl); (assumption); (wtm_at "pa"))
 | (apply j_max; (rfl); (rfl); (rfl); (with_reducible rfl); (rfl); (assumption); (wtm_at "pa"))
 | (apply k_minS; (wtm_at "K"); (assumption); (rfl); (rfl); (rfl); (with_reducible rfl); (rfl); (assumption); (wtm_at "pa"))
 | (apply j_min; (rfl); (rfl); (rfl); (with_reducible rfl); (rfl); (assumption); (wtm_at "pa"))
 | (apply j_dm; (rfl); (rfl); (rfl); (with_reducible rfl); (assumption); (wtm_at "pa"))
 | (apply j_sorted; (rfl); (rfl); (rfl); (with_reducible rfl); (rfl); (assumption); (wtm_at "pa"))
 | (apply k_tuple; (rfl); (rfl); (rfl); (wtm_at "K"); (with_reducible rfl); (assumption); (wtm_at "pa"))
 | (apply k_sumS; (rfl); (rfl); (rfl); (wtm_at "K"); (with_reducible rfl); (rfl); (assumption); (wtm_at "pa"))
 | (apply k_all; (wtm_at "K"); (rfl); (rfl); (rfl); (with_reducible rfl); (rfl); (assumption); (wtm_at "pa"))
 | (apply j_callX; (assumption); (first | exact passF | exact passF0); (wtm_at "room"); (rfl); (decide +kernel); (rfl); (rfl); (wtm_at "pa"))
 | fail)
local macro_rules | `(tactic| wtm_at "roomH") => `(tactic| first | assumption | exact RoomH.mark (by assumption) (by decide) | exact RoomH.of (by assumption) (by decide) | exact RoomH.mono (by assumption) (by decide) | fail)
local macro_rules | `(tactic| wtm_at "room") => `(tactic| first | assumption | exact Room.mono (by assumption) (by decide) | fail)
local macro_rules | `(tactic| wtm_at "pa") => `(tactic| first | apply j_nil | (apply j_cons; (rfl); (wtm_at "pe"); (wtm_at "pa")) | fail)
local macro_rules | `(tactic| wtm_at "po") => `(tactic| first | apply j_onone | (apply j_osome; (wtm_at "pe")) | fail)
local macro_rules | `(tactic| wtm_at "pt") => `(tactic| first
 | (apply u_cmp; (decide); (decide); (wtm_at "cop"); (wtm_at "pe"); (wtm_at "pe"))
 | (apply u_cmpM; (with_unfolding_all rfl); (wtm_at "cop"); (wtm_at "pe"); (wtm_at "pe"))
 | (apply u_chain; (with_unfolding_all rfl); (wtm_at "cop"); (wtm_at "cop"); (wtm_at "pe"); (wtm_at "pe"); (wtm_at "pe"))
 | (apply u_or; (wtm_at "pw"))
 | (apply u_not; (wtm_at "pt"))
 | (apply u_call; (wtm_at "pe"))
 | fail)
local macro_rules | `(tactic| wtm_at "pw") => `(tactic| first
 | (apply w_or1; (wtm_at "pt"))
 | (apply w_or; (wtm_at "pt"); (wtm_at "pw"))
 | fail)
local macro_rules | `(tactic| wtm_at "pi") => `(tactic| first
 | (apply i_range1; (with_reducible rfl); (rfl); (assumption); (rfl); (wtm_at "pa"))
 | (apply k_zip; (wtm_at "K"); (with_reducible rfl); (rfl); (assumption); (rfl); (rfl); (wtm_at "pa"))
 | (apply k_seq; (wtm_at "K"); (wtm_at "pe"))
 | fail)
local macro_rules | `(tactic| wtm_at "pg") => `(tactic| first
 | (apply g_name; (wtm_at "at"); (assumption); (rfl))
 | (apply g_tup2; (wtm_at "at"); (wtm_at "at"); (rfl); (assumption); (rfl); (rfl); (rfl); (rfl); (rfl); (rfl))
 | fail)
local macro_rules | `(tactic| wtm_at "ps") => `(tactic| first
 | (apply s_set; (wtm_at "at"); (assumption); (rfl); (rfl); (wtm_at "pe"))
 | (apply s_setC; (wtm_at "at"); (assumption); (rfl); (rfl); (rfl); (wtm_at "pe"))
 | (apply s_if; (wtm_at "pt"); (wtm_at "pss"); (wtm_at "pss"))
 | (apply s_ret; (wtm_at "pe"))
 | (apply s_for; (exact PassesOwn.never); (rfl); (intro _; rfl); (wtm_at "pi"); (wtm_at "pg"); (wtm_at "pss"))
 | (apply s_while; (exact PassesOwn.never); (wtm_at "pt"); (wtm_at "pss"))
 | (apply s_expr; (rfl); (wtm_at "pe"))
 | (apply s_comp2; (rfl); (rfl); (intro _; rfl); (assumption); (decide +kernel); (rfl); (rfl); (wtm_at "at"); (rfl); (rfl); (wtm_at "pi"); (intro cC cs cH cfp; wtm_at "pf"); (intro cC cs cH cfp; wtm_at "pe"))
 | (apply s_unpack2; (wtm_at "at"); (wtm_at "at"); (rfl); (assumption); (rfl); (rfl); (rfl); (rfl); (rfl); (rfl); (rfl); (rfl); (rfl); (wtm_at "pe"))
 | (apply s_unpackC; (wtm_at "at"); (wtm_at "at"); (rfl); (assumption); (first | exact .inl rfl | exact .inr rfl); (first | exact .inl rfl | exact .inr rfl); (rfl); (rfl); (rfl); (rfl); (rfl); (rfl); (rfl); (rfl); (rfl); (wtm_at "pe"))
 | (apply s_raise; (assumption); (rfl); (rfl); (exact throwF); (decide +kernel); (rfl); (wtm_at "pe"))
 | fail)
local macro_rules | `(tactic| wtm_at "nd") => `(tactic| first | assumption | decide +kernel | fail)
local macro_rules | `(tactic| wtm_at "pf") => `(tactic| first | apply f_nil | (apply f_one; (wtm_at "pt")) | fail)
local macro_rules | `(tactic| wtm_at "pss") => `(tactic| first
 | (apply ss_cons; (wtm_at "ps"); (wtm_at "pss"))
 | apply ss_nil
 | fail)
local macro_rules | `(tactic| wtm_at "pex") => `(tactic| first
 | (apply x_call; (assumption); (wtm_at "room"); (rfl); (decide +kernel); (rfl); (rfl); (rfl); (wtm_at "pa"))
 | fail)
local macro_rules | `(tactic| wtm_at "psx") => `(tactic| first
 | (apply x_set; (assumption); (wtm_at "at"); (rfl); (rfl); (wtm_at "pex"))
 | fail)
local macro_rules | `(tactic| wtm_at "pssx") => `(tactic| first
 | (apply xx_cons; (wtm_at "psx"); (wtm_at "pssx"))
 | apply xx_nil
 | fail)
local macro_rules | `(tactic| wtm_at "body") => `(tactic| (refine' ss_cons ?a ?b; (case a => wtm_at "ps"); (case b => wtm_at "pss")))
local macro_rules | `(tactic| wtm_at "side") => `(tactic| first
 | (with_reducible exact IntMulOk.of_right (by decide))
 | (with_reducible exact IntMulOk.of_left (by decide))
 | (with_reducible refine CMulB.ok (mulB ?_ ?_) <;> omega)
 | (with_reducible refine mulB ?_ ?_ <;> omega)
 | (with_reducible refine divB ?_ ?_ <;> omega)
 | (show (0 : Int) < _; omega)
 | (show (0 : Int) < _; decide)
 | (exact ⟨by omega, by omega, by omega⟩)
 | fail)
local macro_rules | `(tactic| wtm_at "rd1") => `(tactic| first
 | refine ⟨_, rfl, ?_⟩
 | (refine ⟨_, _, rfl, rfl, ?c, ?_⟩; (case c => wtm_at "side"))
 | refine ⟨_, _, rfl, rfl, ?_⟩
 | refine .inl ⟨_, _, rfl, rfl, ?_⟩
 | refine ⟨_, _, rfl, ?_⟩
 | fail)
local macro_rules | `(tactic| wtm_at "rd") => `(tactic| repeat wtm_at "rd1")
namespace K60
def top (i : Nat) : Stmt := PySem.Challenge.pw_brimyard_k60_whole_ahead_of_changed_heap.main.body.getD i (.Pass ⟨0, 0, 0, 0⟩)
abbrev sCell : Stmt := top 37
abbrev sDeal : Stmt := top 38
abbrev sHeap : Stmt := top 39
section
variable {P : Program} {w : World} {K : PySem.W.Frag} {mg : Str → Option Value} {base : Heap}
theorem scCell : FnScope ["script", "k"] ["script", "k"] (defScope sCell) := ⟨rfl, rfl, rfl, by decide +kernel, rfl, by decide +kernel, by decide +kernel⟩
def spCell (K : PySem.W.Frag) : Sp := fun vs H Q _ => ∃ (a : Addr) (ns : List Int) (k : Int), vs = [.ref a, .int k] ∧ SqL K H a (ns.map V.int) ∧ 0 ≤ k ∧ ∀ c : Int, Q (.int c) H
theorem ok_cell {f : Addr} {fd : FuncData} (F : Fun K "_law_cell" "_law_cell" sCell f fd) (mL : mg "len" = none) : FnOk P w K mg base CX0 1 f fd ["script", "k"] (spCell K) := by
 refine Br.Fun.j F scCell (fun vs H Q E h => ?_) (fun cdv A outer s H vs Q E hr h => ?_)
 · obtain ⟨_, _, _, rfl, _⟩ := h; rfl
 · obtain ⟨a, ns, k, rfl, hS, hk, h⟩ := h
   have nd := scCell.nd
   refine' ⟨_, ?d, ?r⟩
   case d => wtm_at "body"
   case r =>
    refine ⟨_, ?_, fun _ _ h => h⟩
    wtm_at "rd"
    refine .inl ⟨a, _, rfl, .inl hS, ?_⟩
    wtm_at "rd"
    refine ite2 (fun hc => ?_) (fun hc => ?_)
    · have hc := of_decide_eq_true hc
      rw [List.length_map] at hc
      obtain ⟨z, _, _, ez⟩ := atI_ints (zs := ns) (i := k) hk hc
      wtm_at "rd"
      exact .inl ⟨a, _, _, _, rfl, rfl, hS, ez, h z⟩
    · exact h 0
theorem scDeal : FnScope ["cell", "salt", "one", "number", "j"] ["cell", "salt"] (defScope sDeal) := ⟨rfl, rfl, rfl, by decide +kernel, rfl, by decide +kernel, by decide +kernel⟩
def spDeal : Sp := fun vs H Q _ => ∃ c m : Int, vs = [.int c, .int m] ∧ 0 ≤ m ∧ m ≤ 1000 ∧ ∀ n : Int, 0 ≤ n → Q (.int n) H
theorem ok_deal {f : Addr} {fd : FuncData} (F : Fun K "_law_deal" "_law_deal" sDeal f fd) (mR : mg "range" = none) : FnOk P w K mg base CX0 1 f fd ["cell", "salt"] spDeal := by
 refine Br.Fun.j F scDeal (fun vs H Q E h => ?_) (fun cdv A outer s H vs Q E hr h => ?_)
 · obtain ⟨_, _, rfl, _⟩ := h; rfl
 · obtain ⟨c, m, rfl, hm0, hm1, h⟩ := h
   have nd := scDeal.nd
   refine' ⟨_, ?d, ?r⟩
   case d => wtm_at "body"
   case r =>
    refine ⟨_, ?_, fun _ _ h => h⟩
    wtm_at "rd"
    refine ite2 (fun hc => ?_) (fun hc => ?_)
    · have hc := of_decide_eq_true hc
      wtm_at "rd"
      exact h _ (by omega)
    · wtm_at "rd"
      refine ⟨by decide, by decide, for_range (fun i σ H2 => H2 = H ∧ ∃ (n one : Int) (y : Option V), 0 ≤ n ∧ 0 ≤ one ∧ one < 2147483647 ∧ σ = [some (.int c), some (.int m), some (.int one), some (.int n), y]) ⟨rfl, 0, _, none, by decide, Int.emod_nonneg _ (by decide), Int.lt_trans (Int.emod_lt_of_pos _ (by decide)) (by decide), rfl⟩ ?_ ?_⟩
      · rintro i σ H2 hi ⟨rfl, n, one, y, hn, h1, h2, rfl⟩
        have hi30 : i < 30 := hi
        wtm_at "rd"
        generalize hz : (one + 17 * (0 + (i : Int)) * (0 + (i : Int)) + 29 * m + 7) * 48271 % 2147483647 = z
        have hz0 : 0 ≤ z ∧ z < 2147483647 := by omega
        generalize hy : z * z % 2147483629 = u
        have hu0 : 0 ≤ u ∧ u < 2147483629 := by omega
        refine ⟨rfl, _, _, _, ?_, ?_, ?_, rfl⟩ <;> omega
      · rintro σ H2 ⟨rfl, n, one, y, hn, h1, h2, rfl⟩
        wtm_at "rd"
        exact h _ hn
end
def Kind (H : Hp) (v : V) (q : Int × Int) : Prop := ∃ r : Addr, v = .ref r ∧ H r = some (.tup [.int q.1, .int q.2])
def Kinds (H : Hp) (vs : List V) (qs : List (Int × Int)) : Prop := vs.length = qs.length ∧ ∀ (i : Nat) (v : V), vs[i]? = some v → ∃ q, qs[i]? = some q ∧ Kind H v q
structure HOk8 (need : Int) (qs : List (Int × Int)) : Prop where
 len : qs.length ≤ 16
 n0 : 1 ≤ need
 n1 : need ≤ 10 ^ 12
 bd : ∀ q ∈ qs, 1 ≤ q.1 ∧ q.1 ≤ 10 ^ 12 ∧ 1 ≤ q.2 ∧ q.2 ≤ 10 ^ 13
 ris : Ris qs
def HeapAt (H : Hp) (h : Addr) (need : Int) (qs : List (Int × Int)) : Prop := ∃ (t : Addr) (o : Obj) (vs : List V), H h = some (.tup [.int need, .ref t]) ∧ bareT o ∧ H t = some (.frz o (.tup vs)) ∧ Kinds H vs qs ∧ HOk8 need qs
def IsT (o : HO) : Prop := (∃ xs, o = .tup xs) ∨ ∃ ob xs, o = .frz ob (.tup xs)
theorem Kinds.mo {H H' : Hp} {vs : List V} {qs : List (Int × Int)} (k : Kinds H vs qs) (m : ∀ b o, H b = some o → IsT o → H' b = some o) : Kinds H' vs qs :=
 ⟨k.1, fun i v e => let ⟨q, h1, r, h2, h3⟩ := k.2 i v e; ⟨q, h1, r, h2, m _ _ h3 (.inl ⟨_, rfl⟩)⟩⟩
theorem Kinds.same {H H' : Hp} {vs : List V} {qs : List (Int × Int)} (k : Kinds H vs qs) (s : L2.Same H H') : Kinds H' vs qs := k.mo fun b o e _ => s _ _ e
theorem Kinds.nil {H : Hp} : Kinds H [] [] := ⟨rfl, fun i v e => by simp at e⟩
theorem Kinds.snoc {H : Hp} {vs : List V} {qs : List (Int × Int)} {r : Addr} {q : Int × Int} (k : Kinds H vs qs) (e : H r = some (.tup [.int q.1, .int q.2])) : Kinds H (vs ++ [.ref r]) (qs ++ [q]) := by
 have k1 := k.1
 refine ⟨by rw [List.length_append, List.length_append, k1]; rfl, fun i v h => ?_⟩
 by_cases hi : i < vs.length
 · rw [List.getElem?_append_left hi] at h
   obtain ⟨q', h1, h2⟩ := k.2 i v h
   exact ⟨q', by rw [List.getElem?_append_left (by omega)]; exact h1, h2⟩
 · have hi2 : i = vs.length := by have := (List.getElem?_eq_some_iff.mp h).1; rw [List.length_append] at this; simp at this; omega
   subst hi2
   rw [List.getElem?_append_right (Nat.le_refl _), Nat.sub_self] at h
   simp at h
   exact ⟨q, by rw [k1, List.getElem?_append_right (Nat.le_refl _), Nat.sub_self]; rfl, r, h.symm, e⟩
def Tu (H H' : Hp) : Prop := ∀ b o, H b = some o → IsT o → H' b = some o
theorem Tu.of {H H' : Hp} (s : L2.Same H H') : Tu H H' := fun b o e _ => s b o e
theorem HeapAt.tu {H H' : Hp} {h : Addr} {need : Int} {qs : List (Int × Int)} (x : HeapAt H h need qs) (m : Tu H H') : HeapAt H' h need qs :=
 let ⟨t, o, vs, a, bo, b, c, d⟩ := x; ⟨t, o, vs, m _ _ a (.inl ⟨_, rfl⟩), bo, m _ _ b (.inr ⟨_, _, rfl⟩), c.mo m, d⟩
theorem kinds_refs {H : Hp} : ∀ {vs : List V} {qs : List (Int × Int)}, Kinds H vs qs → ∃ as : List Addr, vs = as.map V.ref ∧ as.length = qs.length ∧ ∀ (i : Nat) (a : Addr) (q : Int × Int), as[i]? = some a → qs[i]? = some q → H a = some (.tup [.int q.1, .int q.2])
 | [], [], _ => ⟨[], rfl, rfl, fun i a q h => by simp at h⟩
 | [], _ :: _, h => by have := h.1; simp at this
 | _ :: _, [], h => by have := h.1; simp at this
 | v :: vs, q :: qs, h => by
  obtain ⟨q', e, r, rfl, hr⟩ := h.2 0 v rfl
  simp at e; subst e
  obtain ⟨as, h1, h2, h3⟩ := kinds_refs (vs := vs) (qs := qs) ⟨by simpa using h.1, fun i u e => h.2 (i + 1) u (by simpa using e)⟩
  refine ⟨r :: as, by rw [h1]; rfl, by rw [List.length_cons, List.length_cons, h2], fun i a q e1 e2 => ?_⟩
  cases i with
  | zero => simp at e1 e2; subst e1; subst e2; exact hr
  | succ i => exact h3 i a q (by simpa using e1) (by simpa using e2)
theorem vv2_ikv (ks : List (Int × Int)) : vv2 ks = ikv (ks.map fun q => (q.1, V.int q.2)) := by
 unfold vv2 ikv; rw [List.map_map]; rfl
def tot (qs : List (Int × Int)) : Int := (qs.map fun q => q.1 * q.2).sum
section
variable {P : Program} {w : World} {K : PySem.W.Frag} {mg : Str → Option Value} {base : Heap}
abbrev sTot : Stmt := top 18
theorem scTot : FnScope ["heap"] ["heap"] (defScope sTot) := ⟨rfl, rfl, rfl, by decide +kernel, rfl, by decide +kernel, by decide +kernel⟩
def spTot : Sp := fun vs H Q _ => ∃ (h : Addr) (need : Int) (qs : List (Int × Int)), vs = [.ref h] ∧ HeapAt H h need qs ∧ ∀ H', L2.Same H H' → Q (.int (tot qs)) H'
theorem ok_tot {f : Addr} {fd : FuncData} (F : Fun K "total_of" "total_of" sTot f fd) (mU : mg "sum" = none) : FnOk P w K mg base CX0 1 f fd ["heap"] spTot := by
 refine Br.Fun.j F scTot (fun vs H Q E h => ?_) (fun cdv A outer s H vs Q E hr h => ?_)
 · obtain ⟨_, _, _, rfl, _⟩ := h; rfl
 · obtain ⟨hp, need, qs, rfl, ⟨t, ob, us, h1, hb, h2, h3, h4⟩, h⟩ := h
   have nd := scTot.nd
   have hul := h3.1
   have hsz : (sizeLine : Nat) = 16777216 := sizeLine_eq
   have hlen := h4.len
   have h2' : SqT K H t us := .inl (.inr ⟨_, h2⟩)
   refine' ⟨_, ?d, ?r⟩
   case d => wtm_at "body"
   case r =>
    refine ⟨_, rfl, .inr (.inl ⟨hp, _, _, _, rfl, rfl, SqT.of h1, (show atI [V.int need, V.ref t] 1 = some (.ref t) from rfl), ?_⟩)⟩
    refine ⟨t, rfl, .inr ⟨⟨_, h2'⟩, ?_⟩⟩
    refine cmp_tup (K := K) (a := t) (xs := us) (fun j ys σ G => G = H ∧ ys = ((qs.map fun q => q.1 * q.2).take j).map V.int ∧ ∃ x y : Option V, σ = [x, y, some (.ref hp)])
     ⟨rfl, rfl, none, none, rfl⟩ (by rw [hul]; omega) (fun j ys σ G _ ⟨e1, e2, _⟩ => ⟨by rw [e1]; exact h2', by rw [e2, List.length_map, List.length_take]; omega⟩) ?_ ?_
    · rintro j x ys σ G N hx ⟨rfl, rfl, x0, y0, rfl⟩ hN
      obtain ⟨q, hq, r, rfl, hrr⟩ := h3.2 j x hx
      obtain ⟨b1, b2, b3, b4⟩ := h4.bd q (List.mem_of_getElem? hq)
      refine ⟨r, _, rfl, SqT.of hrr, rfl, _, _, rfl, _, _, rfl, rfl, ?_⟩
      refine ⟨_, rfl, _, rfl, _, _, rfl, rfl, IntMulOk.of_left (intBits_le_64 (by omega) (by omega)), hN _ _ _ ⟨rfl, ?_, _, _, rfl⟩⟩
      rw [List.take_add_one, List.getElem?_map, hq, List.map_append]; rfl
    rintro ys σ G ⟨eG, rfl, x0, y0, rfl⟩ pl G1 hpl s1 e1
    rw [eG] at s1
    rw [List.take_of_length_le (by rw [List.length_map]; omega)] at e1
    exact ⟨pl, _, rfl, .inl (SqL.of e1), h G1 s1⟩
abbrev sUp : Stmt := top 13
theorem scUp : FnScope ["top", "bottom"] ["top", "bottom"] (defScope sUp) := ⟨rfl, rfl, rfl, by decide +kernel, rfl, by decide +kernel, by decide +kernel⟩
def spUp : Sp := fun vs H Q _ => ∃ t b : Int, vs = [.int t, .int b] ∧ 0 < b ∧ b ≤ 10 ^ 12 ∧ Q (.int (-(-t / b))) H
theorem ok_up {f : Addr} {fd : FuncData} (F : Fun K "rounded_up" "rounded_up" sUp f fd) : FnOk P w K mg base CX0 1 f fd ["top", "bottom"] spUp := by
 refine Br.Fun.j F scUp (fun vs H Q E h => ?_) (fun cdv A outer s H vs Q E hr h => ?_)
 · obtain ⟨_, _, rfl, _⟩ := h; rfl
 · obtain ⟨t, b, rfl, h0, h1, h⟩ := h
   have nd := scUp.nd
   refine' ⟨_, ?d, ?r⟩
   case d => wtm_at "body"
   case r =>
    wtm_at "rd"
    exact h
end
theorem merge_vv2 {qs : List (Int × Int)} (nd : (qs.map (·.1)).Nodup) : mergeK [] (vv2 qs) = vv2 qs := by
 have gen : ∀ (rs ks : List (Int × Int)), ((ks ++ rs).map (·.1)).Nodup → mergeK (vv2 ks) (vv2 rs) = vv2 (ks ++ rs) := fun rs => by
  induction rs with
  | nil => intro ks _; rw [List.append_nil]; rfl
  | cons r rs ih =>
   intro ks h
   have e : mergeK (vv2 ks) (vv2 (r :: rs)) = mergeK (putK (vv2 ks) (.inl r.1) (.int r.2)) (vv2 rs) := rfl
   have hr : r.1 ∉ ks.map (·.1) := fun z => by
    rw [List.map_append, List.nodup_append] at h
    exact h.2.2 _ z r.1 (.head _) rfl
   rw [e, put_vv2, show dput ks r.1 r.2 = ks ++ [r] by unfold dput; rw [if_neg hr], ih _ (by rw [List.append_assoc]; exact h), List.append_assoc]; rfl
 exact gen qs [] nd
def lessBy (qs ks : List (Int × Int)) : List (Int × Int) := (qs.map fun q => (q.1, q.2 - (dlook ks q.1).getD 0)).filter fun q => decide (0 < q.2)
section
local macro_rules | `(tactic| wtm_at "pe") => `(tactic| first | (apply j_dictP; (rfl); (rfl); (rfl); (with_reducible rfl); (rfl); (assumption); (wtm_at "pa")) | (apply j_dget2; (assumption); (rfl); (rfl); (rfl); (rfl); (wtm_at "pe"); (wtm_at "pe"); (wtm_at "pe")))
local macro_rules | `(tactic| wtm_at "pi") => `(tactic| (apply k_items; (rfl); (rfl); (rfl); (rfl); (wtm_at "pe")))
variable {P : Program} {w : World} {K : PySem.W.Frag} {mg : Str → Option Value} {base : Heap}
abbrev sHas : Stmt := top 19
theorem scHas : FnScope ["heap", "counts", "owned"] ["heap", "counts"] (defScope sHas) := ⟨rfl, rfl, rfl, by decide +kernel, rfl, by decide +kernel, by decide +kernel⟩
def spHas : Sp := fun vs H Q _ => ∃ (h d : Addr) (need : Int) (qs ks : List (Int × Int)), vs = [.ref h, .ref d] ∧ HeapAt H h need qs ∧ H d = some (.dK (vv2 ks)) ∧ ks.length ≤ 1000 ∧ (∀ q ∈ ks, q.2 ≤ (dlook qs q.1).getD 0) ∧
 ∀ (ob : Obj) (H' : Hp), (∀ b o, b ≠ d → H b = some o → H' b = some o) → H' d = some (.frz ob (.dK (vv2 ks))) → Q (.bl true) H'
theorem ok_has {f : Addr} {fd : FuncData} (F : Fun K "has_counts" "has_counts" sHas f fd) (mA : mg "all" = none) (mD : mg "dict" = none) : FnOk P w K mg base CX0 1 f fd ["heap", "counts"] spHas := by
 refine Br.Fun.j F scHas (fun vs H Q E h => ?_) (fun cdv A outer s H vs Q E hr h => ?_)
 · obtain ⟨_, _, _, _, _, rfl, _⟩ := h; rfl
 · obtain ⟨hp, d, need, qs, ks, rfl, ⟨t, ob, us, h1, hb, h2, h3, h4⟩, hd, hkl, hle, h⟩ := h
   have nd := scHas.nd
   have hsz : (sizeLine : Nat) = 16777216 := sizeLine_eq
   obtain ⟨as, rfl, hasl, hat⟩ := kinds_refs h3
   have hql := h4.len
   refine' ⟨_, ?d, ?r⟩
   case d => wtm_at "body"
   case r =>
    refine ⟨_, rfl, .inr (.inl ⟨hp, _, 1, _, rfl, rfl, SqT.of h1, (show atI [V.int need, V.ref t] 1 = some (.ref t) from rfl), ?_⟩)⟩
    refine ⟨t, vv2 qs, rfl, ⟨ob, as, hb, h2, by unfold vv2; rw [List.length_map]; exact hasl, by unfold vv2; rw [List.length_map]; omega, fun i a kv e1 e2 => ?_⟩, fun p H1 hpn s1 e1 => ?_⟩
    · unfold vv2 at e2
      rw [List.getElem?_map] at e2
      obtain ⟨q, hq, rfl⟩ := Option.map_eq_some_iff.mp e2
      exact .inl (hat i a q e1 hq)
    rw [merge_vv2 h4.ris.nodup] at e1
    have hd1 := s1 _ _ hd
    refine ⟨_, rfl, d, _, rfl, hd1, fun ob2 H2 e2 => ?_⟩
    have hpd : p ≠ d := fun z => by rw [z, hd] at hpn; cases hpn
    have hvl : (vv2 ks).length = ks.length := by unfold vv2; rw [List.length_map]
    refine cmp_items (a := d) (ob := ob2) (kvs := vv2 ks) (by omega) (fun i ys σ H3 => L2.Same H2 H3 ∧ ys = (List.replicate i true).map V.bl ∧ ∃ x y : Option V, σ = [x, y, some (.ref hp), some (.ref d), some (.ref p)])
     ⟨L2.Same.refl _, rfl, none, none, rfl⟩ (fun i ys σ H3 _ ⟨sh, e3, _⟩ => ⟨sh _ _ (by rw [e2]; exact upd_same), by rw [e3, List.length_map, List.length_replicate]; exact Nat.le_refl _⟩) ?_ ?_
    · rintro i kv ys σ H3 T N hkv ⟨sh, rfl, x0, y0, rfl⟩ hT hN
      unfold vv2 at hkv
      rw [List.getElem?_map] at hkv
      obtain ⟨q, hq, rfl⟩ := Option.map_eq_some_iff.mp hkv
      have hcv := hle q (List.mem_of_getElem? hq)
      have sT : L2.Same H3 (upd H3 T (.tup [kV (.inl q.1), .int q.2])) := Br.Same.upd hT
      have ep : upd H3 T (.tup [kV (.inl q.1), .int q.2]) p = some (.dK (vv2 qs)) := sT _ _ (sh _ _ (by rw [e2, upd_ne hpd]; exact e1))
      have dg := DGet.k (k := .inl q.1) ep
      rw [val_vv2] at dg
      have gd : ((dlook qs q.1).map V.int).getD (.int 0) = .int ((dlook qs q.1).getD 0) := by cases dlook qs q.1 <;> rfl
      refine ⟨T, _, rfl, SqT.of upd_same, rfl, _, _, rfl, _, _, rfl, rfl, ?_⟩
      refine ⟨_, rfl, _, rfl, p, rfl, .inl ⟨_, .inl ep⟩, _, rfl, _, dg, ?_⟩
      rw [gd]
      refine ⟨_, _, rfl, rfl, hN _ _ _ ⟨sh.trans sT, ?_, _, _, rfl⟩⟩
      show List.map V.bl (List.replicate i true) ++ [V.bl (decide (q.2 ≤ (dlook qs q.1).getD 0))] = _
      rw [decide_eq_true hcv, List.replicate_succ', List.map_append]; rfl
    · rintro ys σ H3 ⟨sh, rfl, x0, y0, rfl⟩ pc H4 hpc s4 e4
      refine ⟨pc, _, rfl, SqL.of e4, ?_⟩
      show Q (V.bl ((List.replicate (vv2 ks).length true).all id)) H4
      rw [show (List.replicate (vv2 ks).length true).all id = true by rw [List.all_eq_true]; intro x hx; exact List.eq_of_mem_replicate hx]
      refine h ob2 H4 (fun b o hb e => s4 _ _ (sh _ _ ?_)) (s4 _ _ (sh _ _ (by rw [e2]; exact upd_same)))
      rw [e2, upd_ne hb]; exact s1 _ _ e
end
theorem less_ris {qs ks : List (Int × Int)} (h : Ris qs) : Ris (lessBy qs ks) := by
 unfold lessBy Ris
 refine List.Pairwise.filter _ ?_
 rw [List.pairwise_map]
 exact h.imp fun z => z
theorem less_ok {need : Int} {qs ks : List (Int × Int)} (h : HOk8 need qs) (hk : ∀ q ∈ ks, 0 ≤ q.2) : HOk8 need (lessBy qs ks) := by
 refine ⟨?_, h.n0, h.n1, fun q hq => ?_, less_ris h.ris⟩
 · unfold lessBy
   refine Nat.le_trans (List.length_filter_le _ _) ?_
   rw [List.length_map]; exact h.len
 · unfold lessBy at hq
   obtain ⟨h1, h2⟩ := List.mem_filter.mp hq
   obtain ⟨r, hr, rfl⟩ := List.mem_map.mp h1
   obtain ⟨b1, b2, b3, b4⟩ := h.bd r hr
   have h2 := of_decide_eq_true h2
   refine ⟨b1, b2, by omega, ?_⟩
   have : 0 ≤ (dlook ks r.1).getD 0 := by
    cases e : dlook ks r.1 with
    | none => exact Int.le_refl _
    | some c => exact hk _ (dlook_some e)
   show r.2 - (dlook ks r.1).getD 0 ≤ _
   omega
section
local macro_rules | `(tactic| wtm_at "ps") => `(tactic| (apply s_if; (wtm_at "pt"); (apply ss_cons; (apply s_dead); (apply ss_nil)); (wtm_at "pss")))
local macro_rules | `(tactic| wtm_at "pe") => `(tactic| (apply j_dget2; (assumption); (rfl); (rfl); (rfl); (rfl); (wtm_at "pe"); (wtm_at "pe"); (wtm_at "pe")))
local macro_rules | `(tactic| wtm_at "call") => `(tactic| (apply k_tupleF; (rfl); (rfl); (rfl); (wtm_at "K"); (with_reducible rfl); (assumption); (wtm_at "pa")))
variable {P : Program} {w : World} {K : PySem.W.Frag} {mg : Str → Option Value} {base : Heap}
abbrev sLess : Stmt := top 20
theorem scLess : FnScope ["heap", "counts", "need", "kinds", "left"] ["heap", "counts"] (defScope sLess) := ⟨rfl, rfl, rfl, by decide +kernel, rfl, by decide +kernel, by decide +kernel⟩
def spLess : Sp := fun vs H Q _ => ∃ (h d : Addr) (need : Int) (qs ks : List (Int × Int)), vs = [.ref h, .ref d] ∧ HeapAt H h need qs ∧ H d = some (.dK (vv2 ks)) ∧ ks.length ≤ 1000 ∧ (∀ q ∈ ks, 0 ≤ q.2 ∧ q.2 ≤ (dlook qs q.1).getD 0) ∧
 ∀ (h' : Addr) (ob : Obj) (H' : Hp), (∀ b o, b ≠ d → H b = some o → H' b = some o) → H' d = some (.frz ob (.dK (vv2 ks))) → HeapAt H' h' need (lessBy qs ks) → Q (.ref h') H'
theorem ok_less {f : Addr} {fd : FuncData} (F : Fun K "heap_less" "heap_less" sLess f fd) (cH : Callee CX0 P w K mg base "has_counts" 1 ["heap", "counts"] spHas) (mT : mg "tuple" = none) : FnOk P w K mg base CX0 2 f fd ["heap", "counts"] spLess := by
 refine Br.Fun.j F scLess (fun vs H Q E h => ?_) (fun cdv A outer s H vs Q E hr h => ?_)
 · obtain ⟨_, _, _, _, _, rfl, _⟩ := h; rfl
 · obtain ⟨hp, d, need, qs, ks, rfl, hh, hd, hkl, hle, h⟩ := h
   have nd := scLess.nd
   have hsz : (sizeLine : Nat) = 16777216 := sizeLine_eq
   refine' ⟨_, ?d, ?r⟩
   case d => wtm_at "body"
   case r =>
    obtain ⟨t, ob, us, h1, hb, h2, h3, h4⟩ := id hh
    have hpd : hp ≠ d := fun z => by rw [z, hd] at h1; cases h1
    have htd : t ≠ d := fun z => by rw [z, hd] at h2; cases h2
    refine ⟨fun σ' H' => (∀ b o, b ≠ d → H b = some o → H' b = some o) ∧ (∃ ob, H' d = some (.frz ob (.dK (vv2 ks)))) ∧ σ' = [some (.ref hp), some (.ref d), none, none, none], ?_, ?_⟩
    · exact ⟨_, rfl, _, rfl, hp, d, need, qs, ks, rfl, hh, hd, hkl, fun q hq => (hle q hq).2, fun ob2 H1 k1 e1 => ⟨_, rfl, iteF ⟨k1, ⟨ob2, e1⟩, rfl⟩⟩⟩
    · rintro σ' H1 ⟨k1, ⟨ob2, e1⟩, rfl⟩
      have h1' := k1 _ _ hpd h1
      have h2' := k1 _ _ htd h2
      have h3' : Kinds H1 us qs := h3.mo fun b o e it => k1 b o (fun z => by rw [z, hd] at e; cases e; rcases it with ⟨_, z⟩ | ⟨_, _, z⟩ <;> cases z) e
      have sq : ∀ {G : Hp}, L2.Same H1 G → SqT K G t us := fun s => .inl (.inr ⟨_, s _ _ h2'⟩)
      have hul := h3'.1
      have hql := h4.len
      refine ⟨_, rfl, hp, _, rfl, SqT.of h1', rfl, _, _, rfl, _, _, rfl, rfl, ?_⟩
      refine ⟨_, rfl, t, rfl, .inr ⟨⟨_, sq (L2.Same.refl _)⟩, ?_⟩⟩
      refine cmp_tup (K := K) (a := t) (xs := us) (fun j ys σ G => L2.Same H1 G ∧ ys.length = j ∧ Kinds G ys ((qs.map fun q => (q.1, q.2 - (dlook ks q.1).getD 0)).take j) ∧ ∃ x y : Option V, σ = [x, y, some (.ref hp), some (.ref d), some (.int need), some (.ref t), none])
       ⟨L2.Same.refl _, rfl, Kinds.nil, none, none, rfl⟩ (by omega) (fun j ys σ G _ ⟨e3, e4, _⟩ => ⟨sq e3, by omega⟩) ?_ ?_
      · rintro j x ys σ G N hx ⟨sG, hyl, hk, x0, y0, rfl⟩ hN
        obtain ⟨q, hq, r, rfl, hrr⟩ := h3'.2 j x hx
        have dg : DGet G d (.int q.1) ((dlook ks q.1).map V.int) := .inl ⟨vv2 ks, .inl q.1, .inr ⟨_, sG _ _ e1⟩, rfl, (val_vv2 ks q.1).symm⟩
        have gd : ((dlook ks q.1).map V.int).getD (.int 0) = .int ((dlook ks q.1).getD 0) := by cases dlook ks q.1 <;> rfl
        refine ⟨r, _, rfl, SqT.of (sG _ _ hrr), rfl, _, _, rfl, _, _, rfl, rfl, ?_⟩
        refine ⟨_, rfl, _, rfl, _, rfl, d, rfl, .inl ⟨_, .inr ⟨_, sG _ _ e1⟩⟩, _, rfl, _, dg, ?_⟩
        rw [gd]
        refine ⟨_, _, rfl, rfl, lenLe (n := 2) rfl (by decide), fun r2 G2 n2 s2 e2 => hN _ _ _ ⟨sG.trans s2, by rw [List.length_append, hyl]; rfl, ?_, _, _, rfl⟩⟩
        rw [List.take_add_one, List.getElem?_map, hq]
        exact (hk.same s2).snoc e2
      rintro ys σ G ⟨sG, hyl, hk, x0, y0, rfl⟩ pl G1 npl s1 e2
      rw [List.take_of_length_le (by rw [List.length_map]; omega)] at hk
      have hk1 := hk.same s1
      refine ⟨_, rfl, _, rfl, pl, rfl, .inl ⟨⟨_, SqL.of e2⟩, ?_⟩⟩
      have hyl2 : ys.length = qs.length := by rw [hk.1, List.length_map]
      refine cmp_list (K := K) (a := pl) (xs := ys) (fun j zs σ G' => G' = G1 ∧ zs.length ≤ j ∧ Kinds G1 zs (((qs.map fun q => (q.1, q.2 - (dlook ks q.1).getD 0)).take j).filter fun q => decide (0 < q.2)) ∧ ∃ x : Option V, σ = [x, some (.ref hp), some (.ref d), some (.int need), some (.ref t), some (.ref pl)])
       ⟨rfl, Nat.le_refl _, Kinds.nil, none, rfl⟩ (by omega) (fun j zs σ G' _ ⟨e3, e4, _⟩ => ⟨by rw [e3]; exact SqL.of e2, e4⟩) ?_ ?_
      · rintro j x zs σ G' N hx ⟨eG, hzl, hkz, x1, rfl⟩ hN
        subst eG
        obtain ⟨q, hq, r, rfl, hrr⟩ := hk1.2 j x hx
        have hix : atI [V.int q.1, V.int q.2] 1 = some (.int q.2) := rfl
        refine ⟨_, rfl, .inr (.inl ⟨r, _, 1, _, rfl, rfl, SqT.of hrr, hix, ?_⟩)⟩
        refine ⟨_, _, rfl, rfl, _, rfl, ite2 (fun hc => ?_) (fun hc => ?_)⟩
        · refine ⟨_, rfl, hN _ _ _ ⟨rfl, by rw [List.length_append]; simp; omega, ?_, _, rfl⟩⟩
          rw [List.take_add_one, hq, List.filter_append]
          have : List.filter (fun q : Int × Int => decide (0 < q.2)) (some q).toList = [q] := List.filter_cons_of_pos (by exact hc)
          rw [this]
          exact hkz.snoc hrr
        · refine hN _ _ _ ⟨rfl, by omega, ?_, _, rfl⟩
          rw [List.take_add_one, hq, List.filter_append]
          have : List.filter (fun q : Int × Int => decide (0 < q.2)) (some q).toList = [] := List.filter_cons_of_neg (by exact hc)
          rw [this, List.append_nil]
          exact hkz
      rintro zs σ G' ⟨eG, hzl, hkz, x1, rfl⟩ pf G2 npf s2 e3
      subst eG
      rw [hyl2, List.take_of_length_le (by rw [List.length_map]; exact Nat.le_refl _)] at hkz
      refine ⟨pf, _, rfl, SqL.of e3, fun tt ob3 G3 n3 b3 s3 e4 => ?_⟩
      refine ⟨lenLe (n := 2) rfl (by decide), fun h' G4 n4 s4 e5 => ?_⟩
      have sA := sG.trans (s1.trans (s2.trans (s3.trans s4)))
      exact h h' ob2 G4 (fun b o nb e => sA _ _ (k1 b o nb e)) (sA _ _ e1) ⟨tt, ob3, zs, e5, b3, s4 _ _ e4, hkz.same (s2.trans (s3.trans s4)), less_ok h4 fun q hq => (hle q hq).1⟩
end
def nextStep (st : List (Int × Int) × Int) (q : Int × Int) : List (Int × Int) × Int := if 0 < st.2 then (dput st.1 q.1 ((dlook st.1 q.1).getD 0 + min q.2 (upD st.2 q.1)), st.2 - q.1 * min q.2 (upD st.2 q.1)) else st
def nextK (need g : Int) (qs : List (Int × Int)) : List (Int × Int) × Int := (lessBy qs [(g, 1)]).foldl nextStep ([(g, 1)], need - g)
def topS (qs : List (Int × Int)) : Int := ((qs.getLast?).map (·.1)).getD 0
section
local macro_rules | `(tactic| wtm_at "ps") => `(tactic| first | (apply s_augSub; (wtm_at "at"); (assumption); (exact .inl rfl); (rfl); (wtm_at "pe")) | (apply s_dput; (assumption); (rfl); (wtm_at "pe"); (wtm_at "pe"); (wtm_at "pe")))
local macro_rules | `(tactic| wtm_at "pe") => `(tactic| (apply j_dget2; (assumption); (rfl); (rfl); (rfl); (rfl); (wtm_at "pe"); (wtm_at "pe"); (wtm_at "pe")))
theorem k_ixT {X : Cx} {K : PySem.W.Frag} {f : Str} {fp cp pos : Pos} {es : List Expr} {b : Expr} {ta tb : TE} (hK : X.K = K) (hs : PlainIx b) (ha : JE X (.Call (.Name f fp) es [] cp) ta) (hb : JE X b tb) : JE X (.Subscript (.Call (.Name f fp) es [] cp) b pos) (tOp (rIx K) (fun σ H Q => ta σ H fun v H1 => Q v H1 ∨ ∃ a ob kvs kvs0, H a = some (.dK kvs0) ∧ H1 a = some (.frz ob (.dK kvs)) ∧ Q v (upd H1 a (.dK kvs))) tb) := k_ix hK hs (j_thaw ha) hb
local macro_rules | `(tactic| wtm_at "pe") => `(tactic| (apply k_ixT; (wtm_at "K"); (exact fun _ _ => rfl); (wtm_at "pe"); (wtm_at "pe")))
variable {P : Program} {w : World} {K : PySem.W.Frag} {mg : Str → Option Value} {base : Heap}
abbrev sNext : Stmt := top 31
theorem scNext : FnScope ["heap", "greatest", "counts", "missing", "size", "many", "taken"] ["heap"] (defScope sNext) := ⟨rfl, rfl, rfl, by decide +kernel, rfl, by decide +kernel, by decide +kernel⟩
def spNext : Sp := fun vs H Q _ => ∃ (h : Addr) (need : Int) (qs : List (Int × Int)), vs = [.ref h] ∧ HeapAt H h need qs ∧ qs ≠ [] ∧ ∀ (d : Addr) (H' : Hp), H d = none → L2.Same H H' → H' d = some (.dK (vv2 (nextK need (topS qs) qs).1)) → Q (.ref d) H'
theorem ok_next {f : Addr} {fd : FuncData} (F : Fun K "next_counts" "next_counts" sNext f fd) (cL : Callee CX0 P w K mg base "heap_less" 2 ["heap", "counts"] spLess) (cU : Callee CX0 P w K mg base "rounded_up" 1 ["top", "bottom"] spUp) (mN : mg "min" = none) : FnOk P w K mg base CX0 3 f fd ["heap"] spNext := by
 refine Br.Fun.j F scNext (fun vs H Q E h => ?_) (fun cdv A outer s H vs Q E hr h => ?_)
 · obtain ⟨_, _, _, rfl, _⟩ := h; rfl
 · obtain ⟨hp, need, qs, rfl, hh, hqn, h⟩ := h
   have nd := scNext.nd
   have hsz : (sizeLine : Nat) = 16777216 := sizeLine_eq
   refine' ⟨_, ?d, ?r⟩
   case d => wtm_at "body"
   case r =>
    obtain ⟨t, ob, us, h1, hb, h2, h3, h4⟩ := id hh
    have sq : ∀ {G : Hp}, L2.Same H G → SqT K G t us := fun s => .inl (.inr ⟨_, s _ _ h2⟩)
    have hul := h3.1
    have hql := h4.len
    have hun : us ≠ [] := fun z => hqn (List.eq_nil_of_length_eq_zero (by rw [← h3.1, z]; rfl))
    have hlast : us[us.length - 1]? = some (us.getLast hun) := by rw [← List.getLast?_eq_getElem?, List.getLast?_eq_some_getLast hun]
    obtain ⟨q, hq, rr, hv, hrr⟩ := h3.2 _ _ hlast
    have hqt : topS qs = q.1 := by
     unfold topS
     rw [List.getLast?_eq_getElem?, ← h3.1, hq]; rfl
    have hau : atI us (-1) = some (V.ref rr) := by
     have e : us = us.dropLast ++ [V.ref rr] := by rw [← hv]; exact (List.dropLast_concat_getLast hun).symm
     rw [e, atI_last]
    have hqm := List.mem_of_getElem? hq
    obtain ⟨g1, g2, g3, g4⟩ := h4.bd q hqm
    have hdl : dlook qs q.1 = some q.2 := (dlook_mem h4.ris.nodup q).mp hqm
    rw [hqt] at h
    refine ⟨_, rfl, .inr (.inl ⟨hp, _, 1, _, rfl, rfl, SqT.of h1, (show atI [V.int need, V.ref t] 1 = some (.ref t) from rfl), 1, rfl, .inr (.inl ⟨t, us, _, _, rfl, rfl, sq (L2.Same.refl _), hau, .inr (.inl ⟨rr, _, 0, _, rfl, rfl, SqT.of hrr, rfl, ?_⟩)⟩)⟩)⟩
    refine fun d hd => ?_
    refine ⟨_, rfl, upd_same, [(.inl q.1, .int 1)], rfl, by simp, ?_⟩
    rw [upd_upd, show mergeK [] [((Sum.inl q.1 : Key), V.int 1)] = vv2 [(q.1, 1)] from rfl]
    generalize hH1 : upd H d (.dK (vv2 [(q.1, 1)])) = H1
    have s1 : L2.Same H H1 := by rw [← hH1]; exact Br.Same.upd hd
    have e1 : H1 d = some (.dK (vv2 [(q.1, 1)])) := by rw [← hH1]; exact upd_same
    refine ⟨_, rfl, .inr (.inl ⟨hp, _, 0, _, rfl, rfl, SqT.of (s1 _ _ h1), (show atI [V.int need, V.ref t] 0 = some (.int need) from rfl), _, rfl, _, _, rfl, rfl, ?_⟩)⟩
    refine ⟨_, rfl, _, rfl, hp, d, need, qs, [(q.1, 1)], rfl, hh.tu (Tu.of s1), e1, by simp, fun x hx => ?_, fun h' ob2 H2 k2 e2 hh2 => ?_⟩
    · rw [List.mem_singleton.mp hx]
      exact ⟨by show (0 : Int) ≤ 1; decide, by show (1 : Int) ≤ (dlook qs q.1).getD 0; rw [hdl]; exact g3⟩
    refine .inr ⟨d, ob2, _, _, e1, e2, ?_⟩
    obtain ⟨t', ob', us', x1, x2, x3, x4, x5⟩ := hh2
    have ht'd : t' ≠ d := fun z => by rw [z, e2] at x3; cases x3
    have hh'd : h' ≠ d := fun z => by rw [z, e2] at x1; cases x1
    generalize hH3 : upd H2 d (.dK (vv2 [(q.1, 1)])) = H3
    have k3 : ∀ b o, b ≠ d → H2 b = some o → H3 b = some o := fun b o nb e => by rw [← hH3, upd_ne nb]; exact e
    have e3 : H3 d = some (.dK (vv2 [(q.1, 1)])) := by rw [← hH3]; exact upd_same
    have x1' := k3 _ _ hh'd x1
    have x3' := k3 _ _ ht'd x3
    have x4' : Kinds H3 us' (lessBy qs [(q.1, 1)]) := x4.mo fun b o e ht => k3 b o (fun z => by rw [z, e2] at e; cases e; rcases ht with ⟨_, z⟩ | ⟨_, _, z⟩ <;> cases z) e
    refine .inr (.inl ⟨h', _, 1, _, rfl, rfl, SqT.of x1', (show atI [V.int need, V.ref t'] 1 = some (.ref t') from rfl), t', rfl, .inr ⟨⟨us', .inl (.inr ⟨_, x3'⟩)⟩, ?_⟩⟩)
    have hul' := x4'.1
    have hll := x5.len
    refine for_tup (K := K) (a := t') (xs := us') (fun i σ G => (∀ b o, b ≠ d → H3 b = some o → G b = some o) ∧ (((lessBy qs [(q.1, 1)]).take i).foldl nextStep ([(q.1, 1)], need - q.1)).1.length ≤ i + 1 ∧ G d = some (.dK (vv2 (((lessBy qs [(q.1, 1)]).take i).foldl nextStep ([(q.1, 1)], need - q.1)).1)) ∧
     ∃ y4 y5 y6 : Option V, σ = [some (.ref hp), some (.int q.1), some (.ref d), some (.int (((lessBy qs [(q.1, 1)]).take i).foldl nextStep ([(q.1, 1)], need - q.1)).2), y4, y5, y6])
     ⟨fun _ _ _ e => e, Nat.le_refl _, e3, none, none, none, rfl⟩ (fun i σ G _ ⟨kG, _⟩ => .inl (.inr ⟨_, kG _ _ ht'd x3'⟩)) ?_ ?_
    · rintro i x σ G hx ⟨kG, hlG, eG, y4, y5, y6, rfl⟩
      obtain ⟨c, hc, r, rfl, hr'⟩ := x4'.2 i x hx
      obtain ⟨c1, c2, c3, c4⟩ := x5.bd c (List.mem_of_getElem? hc)
      have hrd : r ≠ d := fun z => by rw [z, e3] at hr'; cases hr'
      have hst : ((lessBy qs [(q.1, 1)]).take (i + 1)).foldl nextStep ([(q.1, 1)], need - q.1) = nextStep (((lessBy qs [(q.1, 1)]).take i).foldl nextStep ([(q.1, 1)], need - q.1)) c := by
       rw [List.take_add_one, hc, List.foldl_append]; rfl
      have hi16 : i < 16 := by have := (List.getElem?_eq_some_iff.mp hc).1; omega
      rw [hst]
      generalize (((lessBy qs [(q.1, 1)]).take i).foldl nextStep ([(q.1, 1)], need - q.1)) = st at hlG eG
      obtain ⟨ks, ms⟩ := st
      refine ⟨r, _, rfl, SqT.of (kG _ _ hrd hr'), rfl, _, _, rfl, _, _, rfl, rfl, ?_⟩
      refine ⟨_, ⟨_, rfl, _, _, rfl, rfl, _, rfl, ite2 (fun hm => ?_) (fun hm => ?_)⟩, fun _ _ h => h⟩
      · have hm : 0 < ms := of_decide_eq_true hm
        have hns : nextStep (ks, ms) c = (dput ks c.1 ((dlook ks c.1).getD 0 + min c.2 (upD ms c.1)), ms - c.1 * min c.2 (upD ms c.1)) := by
         unfold nextStep; rw [if_pos hm]
        have eT : (if -(-ms / c.1) < c.2 then -(-ms / c.1) else c.2) = min c.2 (upD ms c.1) := by unfold upD; split <;> omega
        refine ⟨_, rfl, _, rfl, _, rfl, ms, c.1, rfl, by omega, c2, _, _, rfl, ?_⟩
        rw [eT, hns]
        have dg := DGet.k (k := .inl c.1) eG
        rw [val_vv2] at dg
        have gd : ((dlook ks c.1).map V.int).getD (.int 0) = .int ((dlook ks c.1).getD 0) := by cases dlook ks c.1 <;> rfl
        have dp := DPut.k (k := .inl c.1) (v := .int ((dlook ks c.1).getD 0 + min c.2 (upD ms c.1))) eG (by rw [show (vv2 ks).length = ks.length from List.length_map ..]; show ks.length < sizeLine; have : ks.length ≤ i + 1 := hlG; omega)
        refine ⟨_, rfl, d, rfl, .inl ⟨_, .inl eG⟩, _, rfl, _, dg, ?_⟩
        rw [gd]
        refine ⟨_, rfl, .inl ⟨_, _, rfl, rfl, _, rfl, _, rfl, d, _, rfl, dp, ?_⟩⟩
        refine ⟨_, rfl, _, rfl, _, rfl, _, _, rfl, rfl, IntMulOk.of_left (intBits_le_64 (by omega) (by omega)), _, _, rfl, rfl, fun b o nb e => ?_, ?_, ?_, _, _, _, rfl⟩
        · rw [upd_ne nb]; exact kG b o nb e
        · have := dput_len ks c.1 ((dlook ks c.1).getD 0 + min c.2 (upD ms c.1)); have : ks.length ≤ i + 1 := hlG
          show (dput ks c.1 _).length ≤ i + 1 + 1
          omega
        · rw [upd_same, put_vv2]
      · have hns : nextStep (ks, ms) c = (ks, ms) := by
         unfold nextStep; rw [if_neg fun z => hm (decide_eq_true z)]
        rw [hns]
        exact ⟨kG, Nat.le_succ_of_le hlG, eG, _, _, _, rfl⟩
    · rintro σ G ⟨kG, hlG, eG, y4, y5, y6, rfl⟩
      rw [hul', List.take_length] at eG
      refine ⟨_, rfl, h d G hd (fun b o e => kG _ _ (ne_of_none e hd) (k3 _ _ (ne_of_none e hd) (k2 _ _ (ne_of_none e hd) (s1 _ _ e)))) eG⟩
end
def thingsL (qs : List (Int × Int)) : List Int := qs.flatMap fun q => List.replicate q.2.toNat q.1
theorem things_len (qs : List (Int × Int)) (h : ∀ q ∈ qs, 0 ≤ q.2) : ((thingsL qs).length : Int) = (qs.map (·.2)).sum := by
 induction qs with
 | nil => rfl
 | cons q qs ih =>
  have h1 := h q (.head _)
  have h2 := ih fun x hx => h x (.tail _ hx)
  unfold thingsL at *
  rw [List.flatMap_cons, List.length_append, List.length_replicate, List.map_cons, List.sum_cons]
  omega
theorem perm_sum {a b : List Int} (h : a.Perm b) : a.sum = b.sum := by
 induction h with
 | nil => rfl
 | cons x _ ih => rw [List.sum_cons, List.sum_cons, ih]
 | swap x y l => simp only [List.sum_cons]; omega
 | trans _ _ i j => exact i.trans j
theorem sum_nn : ∀ (l : List Int), (∀ x ∈ l, 0 ≤ x) → 0 ≤ l.sum
 | [], _ => by simp
 | x :: l, h => by
  have := sum_nn l fun y hy => h y (.tail _ hy)
  have := h x (.head _)
  rw [List.sum_cons]; omega
theorem sum_take (qs : List (Int × Int)) (h : ∀ q ∈ qs, 0 ≤ q.2) (i : Nat) : ((qs.take i).map (·.2)).sum ≤ (qs.map (·.2)).sum := by
 have e : qs.map (·.2) = (qs.take i).map (·.2) ++ (qs.drop i).map (·.2) := by rw [← List.map_append, List.take_append_drop]
 rw [e, List.sum_append]
 have := sum_nn ((qs.drop i).map (·.2)) fun x hx => by
  obtain ⟨q, hq, rfl⟩ := List.mem_map.mp hx
  exact h q (List.mem_of_mem_drop hq)
 omega
section
local macro_rules | `(tactic| wtm_at "ps") => `(tactic| (apply s_for; (exact PassesOwn.leaving); (rfl); (intro _; rfl); (wtm_at "pi"); (wtm_at "pg"); (wtm_at "pss")))
local macro_rules | `(tactic| wtm_at "call") => `(tactic| (apply k_sumV; (rfl); (rfl); (rfl); (with_reducible rfl); (rfl); (assumption); (wtm_at "pa")))
local macro_rules | `(tactic| wtm_at "pe") => `(tactic| first | (apply k_values; (rfl); (rfl); (rfl); (rfl); (wtm_at "pe")) | (apply k_sortItS; (rfl); (rfl); (rfl); (rfl); (rfl); (assumption); (rfl); (rfl); (rfl); (wtm_at "pe")))
variable {P : Program} {w : World} {K : PySem.W.Frag} {mg : Str → Option Value} {base : Heap}
abbrev sLot : Stmt := top 32
theorem scLot : FnScope ["counts", "lot", "size", "many"] ["counts"] (defScope sLot) := ⟨rfl, rfl, rfl, by decide +kernel, rfl, by decide +kernel, by decide +kernel⟩
def spLot (C : Addr) : Sp := fun vs H Q E => ∃ (d : Addr) (ks : List (Int × Int)), vs = [.ref d] ∧ H d = some (.dK (vv2 ks)) ∧ (ks.map (·.1)).Nodup ∧ (∀ q ∈ ks, 0 ≤ q.2) ∧ ks.length ≤ 60 ∧
 (100 < (ks.map (·.2)).sum → ∀ H', L2.Same H H' → E (.ref C) none H') ∧ ((ks.map (·.2)).sum ≤ 100 → ∀ (a : Addr) (rs : List (Int × Int)) (H' : Hp), L2.Same H H' → H' a = some (.tup ((thingsL rs).map V.int)) → Ris rs → (∀ q, q ∈ rs ↔ q ∈ ks) → Q (.ref a) H')
theorem ok_lot {f : Addr} {fd : FuncData} {C B : Addr} (F : Fun K "lot_of_counts" "lot_of_counts" sLot f fd) (eR : ECls K mg "TooMany" C B) (g1 : GInt mg "MOST_THINGS" 100) (mU : mg "sum" = none) (mS : mg "sorted" = none) (mT : mg "tuple" = none) : FnOk P w K mg base (CXF P w) 1 f fd ["counts"] (spLot C) := by
 refine Br.Fun.jX F scLot (fun vs H Q E h => ?_) (fun cdv A outer s H vs Q E hr h => ?_)
 · obtain ⟨_, _, rfl, _⟩ := h; rfl
 · obtain ⟨d, ks, rfl, hd, hnd, hk0, hkl, hX, h⟩ := h
   have nd := scLot.nd
   have hsz : (sizeLine : Nat) = 16777216 := sizeLine_eq
   refine' ⟨_, ?d, ?r⟩
   case d => wtm_at "body"
   case r =>
    refine ⟨fun σ' G' => L2.Same H G' ∧ (ks.map (·.2)).sum ≤ 100 ∧ σ' = [some (.ref d), none, none, none], ?_, ?_⟩
    · refine ⟨_, rfl, d, _, rfl, hd, fun v H1 nv s1 e1 => ?_⟩
      refine ⟨v, d, vv2 ks, ks.map (·.2), rfl, e1, s1 _ _ hd, by unfold vv2; rw [List.map_map, List.map_map]; rfl, ?_⟩
      refine ⟨_, _, rfl, rfl, _, rfl, ite2 (fun hc => ?_) (fun hc => ⟨s1, Int.not_lt.mp fun z => hc (decide_eq_true z), rfl⟩)⟩
      have := of_decide_eq_true hc
      exact hX (by omega) H1 s1
    rintro σ' G ⟨sG, hk1, rfl⟩
    refine ⟨by simp, fun l G1 nl s1 e1 => ?_⟩
    have sH1 := sG.trans s1
    have nlH : H l = none := by
     cases z : H l with
     | none => rfl
     | some o => have := sG _ _ z; rw [nl] at this; cases this
    refine ⟨_, rfl, d, ks, rfl, sH1 _ _ hd, by omega, fun sl bs rs G2 nsl s2 e2 hbl hbs hp hpw => ?_⟩
    obtain ⟨hris, hmem⟩ := sort_items hnd hp hpw
    have hrs0 : ∀ q ∈ rs, 0 ≤ q.2 := fun q hq => hk0 q ((hmem q).mp hq)
    have hsum : (rs.map (·.2)).sum ≤ 100 := by rw [perm_sum (hp.map (·.2))]; exact hk1
    have hsl : sl ≠ l := fun z => by rw [z, e1] at nsl; cases nsl
    refine ⟨sl, rfl, .inl ⟨⟨_, SqL.of e2⟩, ?_⟩⟩
    refine for_list (K := K) (a := sl) (xs := bs.map V.ref) (fun i σ G3 => (∀ b o, b ≠ l → G2 b = some o → G3 b = some o) ∧ G3 l = some (.lst ((thingsL (rs.take i)).map V.int)) ∧ ∃ x2 x3 : Option V, σ = [some (.ref d), some (.ref l), x2, x3])
     ⟨fun _ _ _ e => e, s2 _ _ e1, none, none, rfl⟩ (fun i σ G3 _ ⟨k3, _⟩ => SqL.of (k3 _ _ hsl e2)) ?_ ?_
    · rintro i x σ G3 hx ⟨k3, e3, x2, x3, rfl⟩
      rw [List.getElem?_map] at hx
      obtain ⟨b, hb, rfl⟩ := Option.map_eq_some_iff.mp hx
      obtain ⟨q, hq, hbq⟩ := hbs i b hb
      have hbl' : b ≠ l := fun z => by rw [z, s2 _ _ e1] at hbq; cases hbq
      have hq0 := hrs0 q (List.mem_of_getElem? hq)
      have hq1 : q.2 ≤ 100 := by
       have h1 := sum_take rs hrs0 (i + 1)
       have h2 := sum_nn ((rs.take i).map (·.2)) fun x hx => by
        obtain ⟨y, hy, rfl⟩ := List.mem_map.mp hx
        exact hrs0 y (List.mem_of_mem_take hy)
       rw [List.take_add_one, hq, List.map_append, List.sum_append] at h1
       have h3 : ((some q).toList.map (·.2) : List Int).sum = q.2 := by simp
       omega
      have hlen : ((thingsL (rs.take i)).length : Int) ≤ 100 := by
       rw [things_len _ fun y hy => hrs0 y (List.mem_of_mem_take hy)]
       have := sum_take rs hrs0 i; omega
      refine ⟨b, _, rfl, SqT.of (k3 _ _ hbl' hbq), rfl, _, _, rfl, _, _, rfl, rfl, ?_⟩
      refine ⟨_, rfl, .inl ⟨rfl, _, SqL.of e3⟩, ?_⟩
      refine ⟨_, rfl, lenLe (n := 1) rfl (by decide), fun l1 G4 n4 s4 e4 => ?_⟩
      refine ⟨_, rfl, l1, q.2, _, rfl, rfl, e4, by omega, by omega, by rw [List.length_singleton, hsz]; omega, fun l3 G5 n5 s5 e5 => ?_⟩
      have hfl : (List.replicate q.2.toNat [V.int q.1]).flatten = (List.replicate q.2.toNat q.1).map V.int := by
       rw [List.map_replicate]; induction q.2.toNat with
       | zero => rfl
       | succ n ih => rw [List.replicate_succ, List.flatten_cons, ih, List.replicate_succ]; rfl
      rw [hfl] at e5
      have e3' := (s4.trans s5) _ _ e3
      refine ⟨l, l3, _, _, rfl, rfl, e3', e5, by rw [List.length_map, List.length_map, List.length_replicate, hsz]; omega, fun b o nb e => ?_, ?_, _, _, rfl⟩
      · rw [upd_ne nb]; exact (s4.trans s5) _ _ (k3 b o nb e)
      · rw [upd_same, List.take_add_one, hq]
        unfold thingsL
        rw [List.flatMap_append, List.map_append]
        simp
    · rintro σ G3 ⟨k3, e3, x2, x3, rfl⟩
      rw [List.length_map, hbl, List.take_length] at e3
      have sH3 : L2.Same H G3 := fun b o e => k3 b o (ne_of_none e nlH) (s2 _ _ (sH1 _ _ e))
      refine ⟨_, rfl, l, _, rfl, SqL.of e3, fun a G4 na s4 e4 => ?_⟩
      exact h hk1 a rs G4 (sH3.trans s4) e4 hris hmem
end
def rDIn : R2 := fun y x H Q => ∃ a o, x = .ref a ∧ DGet H a y o ∧ Q (.bl o.isSome) H
theorem c_din {X : Cx} {k : Nat} (hr : Room k X.A) : JCop X .In rDIn := ⟨fun pins s σ H x y v u Q I rx ry h => by
 obtain ⟨a, o, rfl, g, q⟩ := h
 obtain rfl : u = Value.ref a := ry
 exact d_in (by have := hr.un; omega) I g rx fun s3 I3 => ⟨.bl o.isSome, H, I3, rfl, q⟩⟩
def timesNs (qs ks : List (Int × Int)) : List Int := qs.filterMap fun q => (dlook ks q.1).map (q.2 / ·)
section
local macro_rules | `(tactic| wtm_at "cop") => `(tactic| (apply c_din; (assumption)))
local macro_rules | `(tactic| wtm_at "pe") => `(tactic| (apply j_dget; (assumption); (exact fun _ _ => rfl); (wtm_at "pe"); (wtm_at "pe")))
variable {P : Program} {w : World} {K : PySem.W.Frag} {mg : Str → Option Value} {base : Heap}
abbrev sTimes : Stmt := top 33
theorem scTimes : FnScope ["heap", "counts"] ["heap", "counts"] (defScope sTimes) := ⟨rfl, rfl, rfl, by decide +kernel, rfl, by decide +kernel, by decide +kernel⟩
def spTimes : Sp := fun vs H Q _ => ∃ (h d : Addr) (need : Int) (qs ks : List (Int × Int)), vs = [.ref h, .ref d] ∧ HeapAt H h need qs ∧ H d = some (.dK (vv2 ks)) ∧ (∀ q ∈ ks, 1 ≤ q.2 ∧ q.2 ≤ 10 ^ 13) ∧ timesNs qs ks ≠ [] ∧
 ∀ (v : Int) (H' : Hp), L2.Same H H' → v ∈ timesNs qs ks → (∀ x ∈ timesNs qs ks, v ≤ x) → Q (.int v) H'
theorem ok_times {f : Addr} {fd : FuncData} (F : Fun K "times_of" "times_of" sTimes f fd) (mN : mg "min" = none) : FnOk P w K mg base CX0 1 f fd ["heap", "counts"] spTimes := by
 refine Br.Fun.j F scTimes (fun vs H Q E h => ?_) (fun cdv A outer s H vs Q E hr h => ?_)
 · obtain ⟨_, _, _, _, _, rfl, _⟩ := h; rfl
 · obtain ⟨hp, d, need, qs, ks, rfl, ⟨t, ob, us, h1, hb, h2, h3, h4⟩, hd, hk1, hne, h⟩ := h
   have nd := scTimes.nd
   have hsz : (sizeLine : Nat) = 16777216 := sizeLine_eq
   refine' ⟨_, ?d, ?r⟩
   case d => wtm_at "body"
   case r =>
    have sq : ∀ {G : Hp}, L2.Same H G → SqT K G t us := fun s => .inl (.inr ⟨_, s _ _ h2⟩)
    have hul := h3.1
    have hql := h4.len
    refine ⟨_, rfl, .inr (.inl ⟨hp, _, 1, _, rfl, rfl, SqT.of h1, (show atI [V.int need, V.ref t] 1 = some (.ref t) from rfl), t, rfl, .inr ⟨⟨_, sq (L2.Same.refl _)⟩, ?_⟩⟩)⟩
    refine cmp_tup (K := K) (a := t) (xs := us) (fun j ys σ G => L2.Same H G ∧ ys.length ≤ j ∧ ys = (timesNs (qs.take j) ks).map V.int ∧ ∃ x y : Option V, σ = [x, y, some (.ref hp), some (.ref d)])
     ⟨L2.Same.refl _, Nat.le_refl _, rfl, none, none, rfl⟩ (by omega) (fun j ys σ G _ ⟨e3, e4, _⟩ => ⟨sq e3, e4⟩) ?_ ?_
    · rintro j x ys σ G N hx ⟨sG, hyl, rfl, x0, y0, rfl⟩ hN
      obtain ⟨q, hq, r, rfl, hrr⟩ := h3.2 j x hx
      obtain ⟨b1, b2, b3, b4⟩ := h4.bd q (List.mem_of_getElem? hq)
      have dg := DGet.k (k := .inl q.1) (sG _ _ hd)
      rw [val_vv2] at dg
      have hst : timesNs (qs.take (j + 1)) ks = timesNs (qs.take j) ks ++ ((dlook ks q.1).map (q.2 / ·)).toList := by
       unfold timesNs
       rw [List.take_add_one, hq, List.filterMap_append]
       congr 1
      refine ⟨r, _, rfl, SqT.of (sG _ _ hrr), rfl, _, _, rfl, _, _, rfl, rfl, ?_⟩
      cases e : dlook ks q.1 with
      | none =>
       rw [e] at dg hst
       refine ⟨_, rfl, _, rfl, d, _, rfl, dg, _, rfl, iteF (hN _ _ _ ⟨sG, by omega, ?_, _, _, rfl⟩)⟩
       rw [hst]; simp
      | some c =>
       rw [e] at dg hst
       have hc1 : 1 ≤ c ∧ c ≤ 10 ^ 13 := hk1 _ (dlook_some e)
       refine ⟨_, rfl, _, rfl, d, _, rfl, dg, _, rfl, iteT ?_⟩
       refine ⟨_, rfl, _, rfl, _, rfl, d, _, rfl, dg, _, _, rfl, rfl, ?_, hN _ _ _ ⟨sG, ?_, ?_, _, _, rfl⟩⟩
       · refine divB ?_ ?_ <;> omega
       · rw [List.length_append]; exact Nat.succ_le_succ hyl
       · rw [hst]; simp
    · rintro ys σ G ⟨sG, hyl, rfl, x0, y0, rfl⟩ pl G1 npl s1 e2
      rw [hul, List.take_length] at e2
      refine .inl ⟨pl, _, rfl, .inl (SqL.of e2), List.length_pos_iff.mpr hne, fun v hv hle => h v G1 (sG.trans s1) hv hle⟩
end
theorem upD_pos {m s : Int} (hm : 0 < m) (hs : 1 ≤ s) : 1 ≤ upD m s := by
 unfold upD
 have : -m / s < 0 := Int.ediv_neg_of_neg_of_pos (by omega) (by omega)
 omega
theorem next_inv (qs : List (Int × Int)) : ∀ (L : List (Int × Int)) (st : List (Int × Int) × Int), (L.map (·.1)).Nodup → (∀ q ∈ L, 1 ≤ q.1 ∧ 1 ≤ q.2) → (st.1.map (·.1)).Nodup → (∀ c ∈ st.1, 1 ≤ c.2 ∧ c.2 ≤ (dlook qs c.1).getD 0) →
 (∀ q ∈ L, (dlook st.1 q.1).getD 0 + q.2 ≤ (dlook qs q.1).getD 0) →
 ((L.foldl nextStep st).1.map (·.1)).Nodup ∧ (∀ c ∈ (L.foldl nextStep st).1, 1 ≤ c.2 ∧ c.2 ≤ (dlook qs c.1).getD 0) ∧ (∀ k ∈ st.1.map (·.1), k ∈ (L.foldl nextStep st).1.map (·.1)) ∧ (L.foldl nextStep st).1.length ≤ st.1.length + L.length
 | [], st, _, _, h1, h2, _ => ⟨h1, h2, fun _ h => h, Nat.le_refl _⟩
 | q :: L, st, hn, hL, h1, h2, h3 => by
  rw [List.map_cons, List.nodup_cons] at hn
  obtain ⟨q1, q2⟩ := hL q (.head _)
  have h3q := h3 q (.head _)
  rw [List.foldl_cons]
  by_cases hm : 0 < st.2
  · have hs : nextStep st q = (dput st.1 q.1 ((dlook st.1 q.1).getD 0 + min q.2 (upD st.2 q.1)), st.2 - q.1 * min q.2 (upD st.2 q.1)) := by unfold nextStep; rw [if_pos hm]
    have hu := upD_pos hm q1
    have hd0 : 0 ≤ (dlook st.1 q.1).getD 0 := by
     cases e : dlook st.1 q.1 with
     | none => exact Int.le_refl _
     | some c => have := (h2 _ (dlook_some e)).1; show (0 : Int) ≤ c; have : 1 ≤ c := this; omega
    rw [hs]
    have hA : ∀ c ∈ dput st.1 q.1 ((dlook st.1 q.1).getD 0 + min q.2 (upD st.2 q.1)), 1 ≤ c.2 ∧ c.2 ≤ (dlook qs c.1).getD 0 := fun c hc => by
     rcases dput_mem hc with hc | rfl
     · exact h2 c hc
     · exact ⟨by show 1 ≤ (dlook st.1 q.1).getD 0 + min q.2 (upD st.2 q.1); omega, by show (dlook st.1 q.1).getD 0 + min q.2 (upD st.2 q.1) ≤ (dlook qs q.1).getD 0; omega⟩
    have hB : ∀ x ∈ L, (dlook (dput st.1 q.1 ((dlook st.1 q.1).getD 0 + min q.2 (upD st.2 q.1))) x.1).getD 0 + x.2 ≤ (dlook qs x.1).getD 0 := fun x hx => by
     have hne : ¬ q.1 = x.1 := fun z => hn.1 (by rw [z]; exact List.mem_map_of_mem hx)
     rw [dput_look, if_neg hne]
     exact h3 x (.tail _ hx)
    obtain ⟨r1, r2, r3, r4⟩ := next_inv qs L (dput st.1 q.1 ((dlook st.1 q.1).getD 0 + min q.2 (upD st.2 q.1)), st.2 - q.1 * min q.2 (upD st.2 q.1)) hn.2 (fun x hx => hL x (.tail _ hx)) (dput_nodup _ _ h1) hA hB
    refine ⟨r1, r2, fun k hk => r3 k ?_, ?_⟩
    · rw [dput_keys]
      split
      · exact hk
      · exact List.mem_append_left _ hk
    · have := dput_len st.1 q.1 ((dlook st.1 q.1).getD 0 + min q.2 (upD st.2 q.1))
      rw [List.length_cons]
      have r4' := r4
      simp only at r4'
      omega
  · have hs : nextStep st q = st := by unfold nextStep; rw [if_neg hm]
    rw [hs]
    obtain ⟨r1, r2, r3, r4⟩ := next_inv qs L st hn.2 (fun x hx => hL x (.tail _ hx)) h1 h2 (fun x hx => h3 x (.tail _ hx))
    exact ⟨r1, r2, r3, by rw [List.length_cons]; omega⟩
theorem top_mem {qs : List (Int × Int)} (h : qs ≠ []) : ∃ m, (topS qs, m) ∈ qs := by
 refine ⟨(qs.getLast h).2, ?_⟩
 have : topS qs = (qs.getLast h).1 := by unfold topS; rw [List.getLast?_eq_some_getLast h]; rfl
 rw [this]; exact List.getLast_mem h
theorem less_mem {qs ks : List (Int × Int)} {q : Int × Int} (h : q ∈ lessBy qs ks) : ∃ m, (q.1, m) ∈ qs ∧ q.2 = m - (dlook ks q.1).getD 0 ∧ 0 < q.2 := by
 unfold lessBy at h
 obtain ⟨h1, h2⟩ := List.mem_filter.mp h
 obtain ⟨r, hr, rfl⟩ := List.mem_map.mp h1
 exact ⟨r.2, hr, rfl, of_decide_eq_true h2⟩
theorem next_ok {need : Int} {qs : List (Int × Int)} (h : HOk8 need qs) (hn : qs ≠ []) : ((nextK need (topS qs) qs).1.map (·.1)).Nodup ∧ (∀ c ∈ (nextK need (topS qs) qs).1, 1 ≤ c.2 ∧ c.2 ≤ (dlook qs c.1).getD 0) ∧ topS qs ∈ (nextK need (topS qs) qs).1.map (·.1) ∧ (nextK need (topS qs) qs).1.length ≤ 1 + qs.length := by
 obtain ⟨m, hm⟩ := top_mem hn
 have hdl : dlook qs (topS qs) = some m := (dlook_mem h.ris.nodup _).mp hm
 obtain ⟨_, _, m1, _⟩ := h.bd _ hm
 have m1 : 1 ≤ m := m1
 have one : ∀ n, (dlook [(topS qs, (1 : Int))] n).getD 0 = if topS qs = n then 1 else 0 := fun n => by
  rw [dlook_cons]; by_cases z : topS qs = n
  · rw [if_pos z, if_pos z]; rfl
  · rw [if_neg z, if_neg z]; rfl
 have hA : ∀ q ∈ lessBy qs [(topS qs, 1)], 1 ≤ q.1 ∧ 1 ≤ q.2 := fun q hq => by
  obtain ⟨c, hc, _, h0⟩ := less_mem hq
  exact ⟨(h.bd _ hc).1, h0⟩
 have hB : ∀ c ∈ [(topS qs, (1 : Int))], 1 ≤ c.2 ∧ c.2 ≤ (dlook qs c.1).getD 0 := fun c hc => by
  rw [List.mem_singleton.mp hc, hdl]
  exact ⟨Int.le_refl _, m1⟩
 have hC : ∀ q ∈ lessBy qs [(topS qs, 1)], (dlook [(topS qs, (1 : Int))] q.1).getD 0 + q.2 ≤ (dlook qs q.1).getD 0 := fun q hq => by
  obtain ⟨c, hc, e, h0⟩ := less_mem hq
  have : dlook qs q.1 = some c := (dlook_mem h.ris.nodup (q.1, c)).mp hc
  rw [this, e]
  show _ ≤ c
  omega
 obtain ⟨r1, r2, r3, r4⟩ := next_inv qs (lessBy qs [(topS qs, 1)]) ([(topS qs, 1)], need - topS qs) (less_ris h.ris).nodup hA (by simp) hB hC
 refine ⟨r1, r2, r3 _ (by simp), Nat.le_trans r4 ?_⟩
 have : (lessBy qs [(topS qs, 1)]).length ≤ qs.length := by
  unfold lessBy
  refine Nat.le_trans (List.length_filter_le _ _) ?_
  rw [List.length_map]; exact Nat.le_refl _
 show 1 + _ ≤ _
 omega
def cnt (qs : List (Int × Int)) : Int := (qs.map (·.2)).sum
theorem less_cnt (ks : List (Int × Int)) (hk : ∀ q ∈ ks, 0 ≤ q.2) : ∀ (qs : List (Int × Int)), (∀ q ∈ qs, (dlook ks q.1).getD 0 ≤ q.2) → cnt (lessBy qs ks) + (qs.map fun q => (dlook ks q.1).getD 0).sum = cnt qs
 | [], _ => rfl
 | q :: qs, h => by
  have h1 := h q (.head _)
  have h2 := less_cnt ks hk qs fun x hx => h x (.tail _ hx)
  unfold cnt lessBy at *
  rw [List.map_cons, List.map_cons, List.sum_cons, List.map_cons, List.sum_cons, List.filter_cons]
  split
  · rw [List.map_cons, List.sum_cons]
    show q.2 - (dlook ks q.1).getD 0 + _ + _ = _
    omega
  · next hc =>
    have : ¬ 0 < q.2 - (dlook ks q.1).getD 0 := fun z => hc (decide_eq_true z)
    omega
def tms (ks : List (Int × Int)) (t : Int) : List (Int × Int) := ks.map fun q => (q.1, q.2 * t)
theorem tms_look (t : Int) : ∀ (ks : List (Int × Int)) (n : Int), dlook (tms ks t) n = (dlook ks n).map (· * t)
 | [], _ => rfl
 | q :: ks, n => by
  show dlook ((q.1, q.2 * t) :: tms ks t) n = _
  rw [dlook_cons, dlook_cons, tms_look t ks n]
  by_cases z : q.1 = n
  · rw [if_pos z, if_pos z]; rfl
  · rw [if_neg z, if_neg z]
theorem tms_keys (ks : List (Int × Int)) (t : Int) : (tms ks t).map (·.1) = ks.map (·.1) := by
 unfold tms; rw [List.map_map]; rfl
theorem times_ok {need : Int} {qs ks : List (Int × Int)} (h : HOk8 need qs) (hn : (ks.map (·.1)).Nodup) (hk : ∀ c ∈ ks, 1 ≤ c.2 ∧ c.2 ≤ (dlook qs c.1).getD 0) {t : Int} (ht : t ∈ timesNs qs ks) (hle : ∀ x ∈ timesNs qs ks, t ≤ x) :
 1 ≤ t ∧ t ≤ 10 ^ 13 ∧ ∀ c ∈ ks, c.2 * t ≤ (dlook qs c.1).getD 0 := by
 have key : ∀ c ∈ ks, ∃ m, dlook qs c.1 = some m ∧ m / c.2 ∈ timesNs qs ks := fun c hc => by
  obtain ⟨h1, h2⟩ := hk c hc
  cases e : dlook qs c.1 with
  | none => rw [e] at h2; exact absurd h2 (by show ¬ c.2 ≤ 0; omega)
  | some m =>
   refine ⟨m, rfl, ?_⟩
   unfold timesNs
   exact List.mem_filterMap.mpr ⟨(c.1, m), dlook_some e, by show (dlook ks c.1).map (m / ·) = _; rw [(dlook_mem hn c).mp hc]; rfl⟩
 obtain ⟨q, hq, e⟩ := List.mem_filterMap.mp ht
 obtain ⟨c, hc, e⟩ := Option.map_eq_some_iff.mp e
 obtain ⟨c1, c2⟩ := hk _ (dlook_some hc)
 rw [(dlook_mem h.ris.nodup q).mp hq] at c2
 have c1 : 1 ≤ c := c1
 have c2 : c ≤ q.2 := c2
 obtain ⟨_, _, _, b4⟩ := h.bd q hq
 refine ⟨?_, ?_, fun x hx => ?_⟩
 · rw [← e]; exact (Int.le_ediv_iff_mul_le (by omega)).mpr (by omega)
 · rw [← e]; exact Int.le_trans (Int.ediv_le_self _ (by omega)) b4
 · obtain ⟨m, e1, e2⟩ := key x hx
   have := hle _ e2
   rw [e1]
   show x.2 * t ≤ m
   have := (Int.le_ediv_iff_mul_le (by have := (hk x hx).1; omega)).mp this
   rw [Int.mul_comm]; exact this
theorem times_ne {need : Int} {qs ks : List (Int × Int)} (h : HOk8 need qs) (hk : ∀ c ∈ ks, 1 ≤ c.2 ∧ c.2 ≤ (dlook qs c.1).getD 0) (hn : ks ≠ []) : timesNs qs ks ≠ [] := by
 cases ks with
 | nil => exact absurd rfl hn
 | cons c ks =>
  obtain ⟨h1, h2⟩ := hk c (.head _)
  cases e : dlook qs c.1 with
  | none => rw [e] at h2; exact absurd h2 (by show ¬ c.2 ≤ 0; omega)
  | some m =>
   intro z
   have : m / c.2 ∈ timesNs qs (c :: ks) := List.mem_filterMap.mpr ⟨(c.1, m), dlook_some e, by show (dlook (c :: ks) c.1).map (m / ·) = _; rw [dlook_cons, if_pos rfl]; rfl⟩
   rw [z] at this; cases this
theorem sum_one : ∀ {l : List Int} {x : Int}, (∀ y ∈ l, 0 ≤ y) → x ∈ l → x ≤ l.sum
 | y :: l, x, h, hx => by
  have h0 := sum_nn l fun z hz => h z (.tail _ hz)
  rw [List.sum_cons]
  rcases List.mem_cons.mp hx with rfl | hx
  · omega
  · have := sum_one (fun z hz => h z (.tail _ hz)) hx
    have := h y (.head _)
    omega
theorem less_fewer {need : Int} {qs ks : List (Int × Int)} (h : HOk8 need qs) (hk : ∀ c ∈ ks, 1 ≤ c.2 ∧ c.2 ≤ (dlook qs c.1).getD 0) (hn : ks ≠ []) : cnt (lessBy qs ks) + 1 ≤ cnt qs := by
 have h0 : ∀ n, 0 ≤ (dlook ks n).getD 0 := fun n => by
  cases e : dlook ks n with
  | none => exact Int.le_refl _
  | some c => have := (hk _ (dlook_some e)).1; show (0 : Int) ≤ c; have : 1 ≤ c := this; omega
 have hq : ∀ q ∈ qs, (dlook ks q.1).getD 0 ≤ q.2 := fun q hq => by
  obtain ⟨_, _, b3, _⟩ := h.bd q hq
  cases e : dlook ks q.1 with
  | none => show (0 : Int) ≤ q.2; omega
  | some c =>
   have := (hk _ (dlook_some e)).2
   rw [(dlook_mem h.ris.nodup q).mp hq] at this
   exact this
 have := less_cnt ks (fun q hq => by have := (hk q hq).1; omega) qs hq
 cases ks with
 | nil => exact absurd rfl hn
 | cons c ks =>
  obtain ⟨h1, h2⟩ := hk c (.head _)
  cases e : dlook qs c.1 with
  | none => rw [e] at h2; exact absurd h2 (by show ¬ c.2 ≤ 0; omega)
  | some m =>
   have hm : c.2 ∈ qs.map fun q => (dlook (c :: ks) q.1).getD 0 := List.mem_map.mpr ⟨(c.1, m), dlook_some e, by show (dlook (c :: ks) c.1).getD 0 = _; rw [dlook_cons, if_pos rfl]; rfl⟩
   have := sum_one (fun y hy => by obtain ⟨q, _, rfl⟩ := List.mem_map.mp hy; exact h0 _) hm
   omega
inductive Ahead (need : Int) : List (Int × Int) → List (List Int × Int) → Prop
 | done {qs : List (Int × Int)} : tot qs < need → Ahead need qs []
 | step {qs rs : List (Int × Int)} {t : Int} {ms : List (List Int × Int)} : need ≤ tot qs → Ris rs → (∀ q, q ∈ rs ↔ q ∈ (nextK need (topS qs) qs).1) → t ∈ timesNs qs (nextK need (topS qs) qs).1 → (∀ x ∈ timesNs qs (nextK need (topS qs) qs).1, t ≤ x) →
  Ahead need (lessBy qs (tms (nextK need (topS qs) qs).1 t)) ms → Ahead need qs ((thingsL rs, t) :: ms)
theorem ahead_step {need : Int} {qc : List (Int × Int)} {ms : List (List Int × Int)} (h : Ahead need qc ms) (hge : need ≤ tot qc) : ∃ (rs : List (Int × Int)) (t : Int) (ms' : List (List Int × Int)), ms = (thingsL rs, t) :: ms' ∧ Ris rs ∧ (∀ q, q ∈ rs ↔ q ∈ (nextK need (topS qc) qc).1) ∧ t ∈ timesNs qc (nextK need (topS qc) qc).1 ∧
 (∀ x ∈ timesNs qc (nextK need (topS qc) qc).1, t ≤ x) ∧ Ahead need (lessBy qc (tms (nextK need (topS qc) qc).1 t)) ms' := by
 cases h with
 | done h => omega
 | step a b c d e f => exact ⟨_, _, _, rfl, b, c, d, e, f⟩
theorem ahead_end {need : Int} {qc : List (Int × Int)} {ms : List (List Int × Int)} (h : Ahead need qc ms) (hlt : tot qc < need) : ms = [] := by
 cases h with
 | done h => rfl
 | step a b c d e f => omega
theorem things_cnt {rs ks : List (Int × Int)} (hr : Ris rs) (hk : (ks.map (·.1)).Nodup) (h : ∀ q, q ∈ rs ↔ q ∈ ks) (h0 : ∀ q ∈ ks, 0 ≤ q.2) : ((thingsL rs).length : Int) = cnt ks := by
 rw [things_len rs fun q hq => h0 q ((h q).mp hq)]
 have nd : ∀ {l : List (Int × Int)}, (l.map (·.1)).Nodup → l.Nodup := fun {l} hl => by
  induction l with
  | nil => exact List.nodup_nil
  | cons a l ih =>
   rw [List.map_cons, List.nodup_cons] at hl
   exact List.nodup_cons.mpr ⟨fun z => hl.1 (List.mem_map_of_mem z), ih hl.2⟩
 exact perm_sum (((List.perm_ext_iff_of_nodup (nd hr.nodup) (nd hk)).mpr h).map (·.2))
section
local macro_rules | `(tactic| wtm_at "ps") => `(tactic| (apply s_while; (exact PassesOwn.leaving); (wtm_at "pt"); (wtm_at "pss")))
local macro_rules | `(tactic| wtm_at "call") => `(tactic| (apply k_tupleF; (rfl); (rfl); (rfl); (wtm_at "K"); (with_reducible rfl); (assumption); (wtm_at "pa")))
local macro_rules | `(tactic| wtm_at "call") => `(tactic| (apply k_sortedPs; (assumption); (rfl); (rfl); (rfl); (wtm_at "K"); (with_reducible rfl); (assumption); (wtm_at "pa")))
local macro_rules | `(tactic| wtm_at "pe") => `(tactic| (apply k_dcomp2; (wtm_at "K"); (rfl); (rfl); (intro _; rfl); (wtm_at "nd"); (decide +kernel); (rfl); (rfl); (wtm_at "pi"); (intro cC cs cH cfp; wtm_at "pf"); (intro cC cs cH cfp; wtm_at "pe"); (intro cC cs cH cfp; wtm_at "pe")))
local macro_rules | `(tactic| wtm_at "pi") => `(tactic| (apply k_items; (rfl); (rfl); (rfl); (rfl); (wtm_at "pe")))
variable {P : Program} {w : World} {K : PySem.W.Frag} {mg : Str → Option Value} {base : Heap}
abbrev sMade : Stmt := top 34
theorem scMade : FnScope ["heap", "made", "counts", "lot", "times"] ["heap"] (defScope sMade) := ⟨rfl, rfl, rfl, by decide +kernel, rfl, by decide +kernel, by decide +kernel⟩
def spMade (C : Addr) : Sp := fun vs H Q E => ∃ (h : Addr) (need : Int) (qs : List (Int × Int)) (ms : List (List Int × Int)), vs = [.ref h] ∧ HeapAt H h need qs ∧ Ahead need qs ms ∧ ms.length < 64 ∧ ((∃ q ∈ ms, 100 < q.1.length) → ∀ H', L2.Same H H' → E (.ref C) none H') ∧
 ((∀ q ∈ ms, q.1.length ≤ 100) → ∀ (a : Addr) (bs : List Addr) (rs : List (List Int × Int)) (H' : Hp), L2.Same H H' → (∃ ob, bareT ob ∧ H' a = some (.frz ob (.tup (bs.map V.ref)))) → PrsAt H' bs rs → rs.Perm ms → rs.Pairwise (fun u v => pLt v u = false) → Q (.ref a) H')
theorem prs_mo {H H' : Hp} {as : List Addr} {qs : List (List Int × Int)} (h : PrsAt H as qs) (m : ∀ b xs, H b = some (.tup xs) → H' b = some (.tup xs)) : PrsAt H' as qs :=
 ⟨h.1, fun i a e => let ⟨q, c, e1, e2, e3⟩ := h.2 i a e; ⟨q, c, e1, m _ _ e2, m _ _ e3⟩⟩
theorem ok_made {f : Addr} {fd : FuncData} {C : Addr} (F : Fun K "made_ahead" "made_ahead" sMade f fd) (cT : Callee CX0 P w K mg base "total_of" 1 ["heap"] spTot) (cN : Callee CX0 P w K mg base "next_counts" 3 ["heap"] spNext) (cO : Callee (CXF P w) P w K mg base "lot_of_counts" 1 ["counts"] (spLot C)) (cI : Callee CX0 P w K mg base "times_of" 1 ["heap", "counts"] spTimes)
 (cL : Callee CX0 P w K mg base "heap_less" 2 ["heap", "counts"] spLess) (mS : mg "sorted" = none) (mT : mg "tuple" = none) : FnOk P w K mg base (CXF P w) 4 f fd ["heap"] (spMade C) := by
 refine Br.Fun.jX F scMade (fun vs H Q E h => ?_) (fun cdv A outer s H vs Q E hr h => ?_)
 · obtain ⟨_, _, _, _, rfl, _⟩ := h; rfl
 · obtain ⟨hp, need, qs, ms, rfl, hh, hA, hml, hX, h⟩ := h
   have nd := scMade.nd
   have hsz : (sizeLine : Nat) = 16777216 := sizeLine_eq
   refine' ⟨_, ?d, ?r⟩
   case d => wtm_at "body"
   case r =>
    refine ⟨by simp, fun l H1 nl s1 e1 => ?_⟩
    refine ⟨fun m σ G => ∃ (hc : Addr) (qc : List (Int × Int)) (as : List Addr) (acc : List (List Int × Int)) (x y z : Option V), σ = [some (.ref hc), some (.ref l), x, y, z] ∧ (m : Int) = cnt qc ∧ L2.Same H G ∧ HeapAt G hc need qc ∧ G l = some (.lst (as.map V.ref)) ∧ PrsAt G as acc ∧
     (∀ q ∈ acc, q.1.length ≤ 100) ∧ ∃ ms', ms = acc ++ ms' ∧ Ahead need qc ms', ⟨(cnt qs).toNat, hp, qs, [], [], none, none, none, rfl, ?_, s1, hh.tu (Tu.of s1), e1, ⟨rfl, fun i a e => by cases e⟩, fun q hq => (nomatch hq), ms, rfl, hA⟩, ?_⟩
    · have : 0 ≤ cnt qs := sum_nn _ fun x hx => by
       obtain ⟨q, hq, rfl⟩ := List.mem_map.mp hx
       obtain ⟨_, _, _, _, _, _, _, h4⟩ := hh
       have := (h4.bd q hq).2.2.1
       omega
      omega
    rintro m σ G ⟨hc, qc, as, acc, x0, y0, z0, rfl, hm, sG, hG, eG, pG, sm, ms', eM, aG⟩
    obtain ⟨t, ob, us, h1, hb, h2, h3, h4⟩ := id hG
    refine ⟨_, rfl, hc, need, qc, rfl, hG, fun G1 s1 => ?_⟩
    have hG1 := hG.tu (Tu.of s1)
    refine ⟨_, rfl, .inr (.inl ⟨hc, _, 0, _, rfl, rfl, SqT.of (s1 _ _ h1), (show atI [V.int need, V.ref t] 0 = some (.int need) from rfl), _, _, rfl, rfl, _, rfl, ite2 (fun hge => ?_) (fun hlt => ?_)⟩)⟩
    · have hge : need ≤ tot qc := of_decide_eq_true hge
      refine ⟨fun σ' G' => ∃ m', m' < m ∧ _, fun _ _ h => h, ?_⟩
      have hne : qc ≠ [] := fun z => by
       rw [z] at hge
       have := h4.n0
       exact absurd hge (by show ¬ need ≤ 0; omega)
      obtain ⟨k1, k2, k3, k4⟩ := next_ok h4 hne
      have k6 : ∀ q ∈ (nextK need (topS qc) qc).1, q.2 ≤ 10 ^ 13 := fun q hq => by
       have a1 := (k2 q hq).2
       cases e : dlook qc q.1 with
       | none => rw [e] at a1; have a1 : q.2 ≤ 0 := a1; omega
       | some c => rw [e] at a1; have a1 : q.2 ≤ c := a1; have : c ≤ 10 ^ 13 := (h4.bd _ (dlook_some e)).2.2.2; omega
      have k7 := h4.len
      obtain ⟨rs0, t0, ms'', eM', b1, b2, b3, b4, aG'⟩ := ahead_step aG hge
      have hlen := things_cnt b1 k1 b2 fun q hq => by have := (k2 q hq).1; omega
      have hal' : acc.length < 64 := by rw [eM, List.length_append] at hml; omega
      have bad : 100 < cnt (nextK need (topS qc) qc).1 → ∀ H', L2.Same H H' → E (.ref C) none H' := fun hc => hX ⟨(thingsL rs0, t0), by rw [eM, eM']; exact List.mem_append_right _ (.head _), by show 100 < (thingsL rs0).length; omega⟩
      have good : ∀ {rs t}, Ris rs → (∀ q, q ∈ rs ↔ q ∈ (nextK need (topS qc) qc).1) → cnt (nextK need (topS qc) qc).1 ≤ 100 → t ∈ timesNs qc (nextK need (topS qc) qc).1 → (∀ x ∈ timesNs qc (nextK need (topS qc) qc).1, t ≤ x) →
       (∀ q ∈ acc ++ [(thingsL rs, t)], q.1.length ≤ 100) ∧ ∃ ms', ms = (acc ++ [(thingsL rs, t)]) ++ ms' ∧ Ahead need (lessBy qc (tms (nextK need (topS qc) qc).1 t)) ms' := fun {rs t} a b c d e => by
       have er : rs = rs0 := ris_uniq a b1 fun q => (b q).trans (b2 q).symm
       have et : t = t0 := Int.le_antisymm (e _ b3) (b4 _ d)
       subst er; subst et
       refine ⟨fun q hq => ?_, ms'', by rw [eM, eM', List.append_assoc]; rfl, aG'⟩
       rcases List.mem_append.mp hq with hq | hq
       · exact sm q hq
       · rw [List.mem_singleton.mp hq]; show (thingsL rs).length ≤ 100; omega
      have kne : (nextK need (topS qc) qc).1 ≠ [] := fun z => by rw [z] at k3; cases k3
      refine ⟨_, rfl, hc, need, qc, rfl, hG1, hne, fun d G2 n2 s2 e2 => ?_⟩
      generalize hks : (nextK need (topS qc) qc).1 = ks at *
      refine ⟨_, rfl, d, ks, rfl, e2, k1, fun q hq => by have := (k2 q hq).1; omega, by omega, fun hc H' sH' => bad hc H' (sG.trans (s1.trans (s2.trans sH'))), fun hc1 a rs G3 s3 e3 hris hmem => ?_⟩
      refine ⟨_, rfl, _, rfl, hc, d, need, qc, ks, rfl, hG1.tu (Tu.of (s2.trans s3)), s3 _ _ e2, fun q hq => ⟨(k2 q hq).1, by have := k6 q hq; omega⟩, times_ne h4 k2 kne, fun tm G4 s4 ht hle => ?_⟩
      obtain ⟨t1, t2, t3⟩ := times_ok h4 k1 k2 ht hle
      have sA := s1.trans (s2.trans (s3.trans s4))
      refine ⟨_, rfl, .inl ⟨rfl, _, SqL.of (sA _ _ eG)⟩, ?_⟩
      refine ⟨_, rfl, _, rfl, lenLe (n := 2) rfl (by decide), fun r G5 n5 s5 e5 => ?_⟩
      have sB := sA.trans s5
      have hal := pG.1
      refine ⟨l, _, _, rfl, rfl, sB _ _ eG, by rw [List.length_map]; omega, ?_⟩
      have hdl : d ≠ l := fun z => by rw [z, s1 _ _ eG] at n2; cases n2
      have nlH : H l = none := nl
      generalize hG6 : upd G5 l (.lst (as.map V.ref ++ [V.ref r])) = G6
      have w6 : ∀ b o, b ≠ l → G5 b = some o → G6 b = some o := fun b o nb e => by rw [← hG6, upd_ne nb]; exact e
      have l6 : G6 l = some (.lst ((as ++ [r]).map V.ref)) := by rw [← hG6, upd_same, List.map_append]; rfl
      have ntl : ∀ b o, G5 b = some o → IsT o → b ≠ l := fun b o e ht z => by
       rw [z, sB _ _ eG] at e; cases e; rcases ht with ⟨_, z⟩ | ⟨_, _, z⟩ <;> cases z
      have tu6 : Tu G5 G6 := fun b o e ht => w6 b o (ntl b o e ht) e
      have d6 : G6 d = some (.dK (vv2 ks)) := w6 _ _ hdl (s5 _ _ (s4 _ _ (s3 _ _ e2)))
      refine ⟨_, rfl, ⟨_, rfl, d, _, rfl, d6, fun ob7 G7 e7 => ?_⟩⟩
      have w7 : ∀ b o, b ≠ d → G6 b = some o → G7 b = some o := fun b o nb e => by rw [e7, upd_ne nb]; exact e
      have d7 : G7 d = some (.frz ob7 (.dK (vv2 ks))) := by rw [e7]; exact upd_same
      have hvl : (vv2 ks).length = ks.length := by unfold vv2; rw [List.length_map]
      refine cmpd_items (a := d) (ob := ob7) (kvs := vv2 ks) (by omega) (fun i ys σ G => L2.Same G7 G ∧ ys = vv2 (tms (ks.take i) tm) ∧ ∃ x y : Option V, σ = [x, y, some (.ref hc), some (.ref l), some (.ref d), some (.ref a), some (.int tm)])
       ⟨L2.Same.refl _, rfl, none, none, rfl⟩ (fun i ys σ G _ ⟨sh, e3, _⟩ => ⟨sh _ _ d7, by rw [e3]; unfold vv2 tms; rw [List.length_map, List.length_map, List.length_take]; omega⟩) ?_ ?_
      · rintro i kv ys σ G8 T N hkv ⟨sh, rfl, x1, y1, rfl⟩ hT hN
        unfold vv2 at hkv
        rw [List.getElem?_map] at hkv
        obtain ⟨q, hq, rfl⟩ := Option.map_eq_some_iff.mp hkv
        have hqm := List.mem_of_getElem? hq
        have q1 := (k2 q hqm).1
        have q9 := k6 q hqm
        have sT : L2.Same G8 (upd G8 T (.tup [kV (.inl q.1), .int q.2])) := Br.Same.upd hT
        refine ⟨T, _, rfl, SqT.of upd_same, rfl, _, _, rfl, _, _, rfl, rfl, ?_⟩
        refine ⟨_, rfl, .inl q.1, rfl, _, rfl, _, rfl, _, _, rfl, rfl, IntMulOk.of_left (intBits_le_64 (by omega) (by omega)), hN _ _ _ ⟨sh.trans sT, ?_, _, _, rfl⟩⟩
        rw [put_vv2, List.take_add_one, hq]
        have hnot : q.1 ∉ (tms (ks.take i) tm).map (·.1) := by
         rw [tms_keys]
         intro hz
         have hi := (List.getElem?_eq_some_iff.mp hq).1
         have e : ks.map (·.1) = (ks.take i).map (·.1) ++ (ks.drop i).map (·.1) := by rw [← List.map_append, List.take_append_drop]
         rw [e, List.nodup_append] at k1
         refine k1.2.2 _ hz q.1 ?_ rfl
         rw [List.mem_map]
         refine ⟨q, ?_, rfl⟩
         rw [List.mem_iff_getElem?]
         exact ⟨0, by rw [List.getElem?_drop]; exact hq⟩
        have hdp : dput (tms (ks.take i) tm) q.1 (q.2 * tm) = tms (ks.take i) tm ++ [(q.1, q.2 * tm)] := by unfold dput; rw [if_neg hnot]
        rw [hdp]
        unfold tms
        rw [List.map_append]; rfl
      · rintro ys σ G8 ⟨sh, rfl, x1, y1, rfl⟩ p G9 np s9 e9
        rw [hvl, List.take_length] at e9
        have hpn : ∀ b o, G7 b = some o → b ≠ p := fun b o e z => by rw [z] at e; rw [sh _ _ e] at np; cases np
        have heap9 : HeapAt G9 hc need qc := ((hG1.tu (Tu.of (s2.trans (s3.trans (s4.trans s5))))).tu tu6).tu fun b o e ht => s9 _ _ (sh _ _ (w7 b o (fun z => by rw [z, d6] at e; cases e; rcases ht with ⟨_, z⟩ | ⟨_, _, z⟩ <;> cases z) e))
        have tk : ∀ q ∈ tms ks tm, 1 ≤ q.2 ∧ q.2 ≤ (dlook qc q.1).getD 0 := fun q hq => by
         obtain ⟨c, hc', rfl⟩ := List.mem_map.mp hq
         have a1 := (k2 c hc').1
         have a2 := t3 c hc'
         refine ⟨?_, a2⟩
         show 1 ≤ c.2 * tm
         have := Int.mul_le_mul a1 t1 (by omega) (by omega : (0:Int) ≤ c.2)
         omega
        refine ⟨hc, p, need, qc, tms ks tm, rfl, heap9, e9, by unfold tms; rw [List.length_map]; omega, fun q hq => ⟨by have := (tk q hq).1; omega, (tk q hq).2⟩, fun h' ob10 G10 w10 e10 heap10 => ?_⟩
        have tne : tms ks tm ≠ [] := fun z => kne (by unfold tms at z; exact List.map_eq_nil_iff.mp z)
        have hfw := less_fewer h4 tk tne
        have hl7 : G7 l = some (.lst ((as ++ [r]).map V.ref)) := w7 _ _ (fun z => hdl z.symm) l6
        have g10 : ∀ b o, b ≠ d → G6 b = some o → G10 b = some o := fun b o nb e => w10 b o (hpn b o (w7 b o nb e)) (s9 _ _ (sh _ _ (w7 b o nb e)))
        have tup10 : ∀ b xs, G5 b = some (.tup xs) → G10 b = some (.tup xs) := fun b xs e => by
         have e6 := tu6 b _ e (.inl ⟨_, rfl⟩)
         exact g10 b _ (fun z => by rw [z, d6] at e6; cases e6) e6
        have c0 : 0 ≤ cnt (lessBy qc (tms ks tm)) := sum_nn _ fun x hx => by
         obtain ⟨q, hq, rfl⟩ := List.mem_map.mp hx
         obtain ⟨_, _, _, h0⟩ := less_mem hq
         omega
        refine ⟨(cnt (lessBy qc (tms ks tm))).toNat, by omega, h', lessBy qc (tms ks tm), as ++ [r], acc ++ [(thingsL rs, tm)], _, _, _, rfl, by omega, fun b o e => ?_, heap10, g10 _ _ (fun z => hdl z.symm) l6, ?_, good hris hmem hc1 ht hle⟩
        · have hbl : b ≠ l := ne_of_none e nlH
          have e5' := sB _ _ (sG _ _ e)
          have hbd : b ≠ d := fun z => by
           have := s1 _ _ (sG _ _ e)
           rw [z, n2] at this; cases this
          exact g10 b o hbd (w6 b o hbl e5')
        · refine ⟨by rw [List.length_append, List.length_append, hal]; rfl, fun i b hb => ?_⟩
          rcases Nat.lt_or_ge i as.length with hi | hi
          · rw [List.getElem?_append_left hi] at hb
            obtain ⟨q, c, x1, x2, x3⟩ := pG.2 i b hb
            exact ⟨q, c, by rw [List.getElem?_append_left (by omega)]; exact x1, tup10 _ _ (sB _ _ x2), tup10 _ _ (sB _ _ x3)⟩
          · rw [List.getElem?_append_right hi] at hb
            have hi0 : i - as.length = 0 := by
             rcases Nat.eq_zero_or_pos (i - as.length) with z | z
             · exact z
             · rw [List.getElem?_eq_none (by simp; omega)] at hb; cases hb
            rw [hi0] at hb
            cases hb
            refine ⟨(thingsL rs, tm), a, by rw [List.getElem?_append_right (by omega), ← hal, hi0]; rfl, tup10 _ _ e5, tup10 _ _ (s5 _ _ (s4 _ _ e3))⟩
    · have hlt : tot qc < need := Int.not_le.mp fun z => hlt (decide_eq_true z)
      refine ⟨_, rfl, l, as, acc, rfl, .inl (SqL.of (s1 _ _ eG)), prs_mo pG fun b xs e => s1 _ _ e, (by rw [pG.1]; rw [eM, List.length_append] at hml; omega), fun l2 bs rs G2 n2 s2 e2 p2 hpm hpw => ⟨l2, _, rfl, SqL.of e2, fun a ob3 G3 n3 b3 s3 e3 => ?_⟩⟩
      have eN := ahead_end aG hlt
      rw [eN, List.append_nil] at eM
      subst eM
      exact h sm a bs rs G3 (sG.trans (s1.trans (s2.trans s3))) ⟨ob3, b3, e3⟩ (prs_mo p2 fun b xs e => s3 _ _ e) hpm hpw
end
def Mo (ps : List Addr) (H H' : Hp) : Prop := ∀ b o, b ∉ ps → H b = some o → H' b = some o
theorem Mo.refl {ps : List Addr} {H : Hp} : Mo ps H H := fun _ _ _ e => e
theorem Mo.trans {ps : List Addr} {H H' H'' : Hp} (a : Mo ps H H') (b : Mo ps H' H'') : Mo ps H H'' := fun c o n e => b c o n (a c o n e)
theorem Mo.of {ps : List Addr} {H H' : Hp} (s : L2.Same H H') : Mo ps H H' := fun b o _ e => s b o e
theorem Mo.put {ps : List Addr} {H : Hp} {p : Addr} {o : HO} (hp : p ∈ ps) : Mo ps H (L2.upd H p o) := fun b u n e => by rw [upd_ne (fun z => n (by rw [z]; exact hp))]; exact e
theorem heap_cmp {K : PySem.W.Frag} {g : TG} {tt : TT} {te : TE} {σ0 : L2.St} {H9 : Hp} {Z : List V → Hp → Prop} {d l : Addr} {ns : List Int} {ks : List (Int × Int)} {rest : L2.St} (hn : ns.length ≤ 99) (perm : ns.Perm (ks.map (·.1))) (e0 : σ0 = none :: rest) (e9 : H9 l = some (.lst (ns.map V.int))) (e9d : H9 d = some (.dK (vv2 ks)))
 (hs : ∀ (x0 : Option V) (m c : Int) (H2 : Hp) (N : List V → L2.St → Hp → Prop) (ys : List V), DGet H2 d (.int m) (some (.int c)) → (∀ r H3, L2.Same H2 H3 → H3 r = some (.tup [.int m, .int c]) → N (ys ++ [.ref r]) (some (.int m) :: rest) H3) → g (.int m) (x0 :: rest) H2 fun σ3 H3 => tt σ3 H3 fun b H4 => if b = true then te σ3 H4 fun y H5 => N (ys ++ [y]) σ3 H5 else N ys σ3 H4)
 (hd : ∀ ys H2, L2.Same H9 H2 → ys.length = ns.length → Kinds H2 ys (ns.map fun n => (n, (dlook ks n).getD 0)) → Z ys H2) : Cmp (Itl K l) g tt te σ0 H9 Z := by
 have hsz : (sizeLine : Nat) = 16777216 := sizeLine_eq
 refine cmp_list (K := K) (a := l) (xs := ns.map V.int) (fun i ys σ H2 => L2.Same H9 H2 ∧ ys.length = i ∧ Kinds H2 ys ((ns.map fun n => (n, (dlook ks n).getD 0)).take i) ∧ ∃ x : Option V, σ = x :: rest)
  ⟨L2.Same.refl _, rfl, Kinds.nil, none, e0⟩ (by rw [List.length_map]; omega) (fun i ys σ H2 _ ⟨sh, hy, _⟩ => ⟨SqL.of (sh _ _ e9), by omega⟩) ?_ ?_
 · rintro i x ys σ H2 N hx ⟨sh, hy, hk, x0, rfl⟩ hN
   rw [List.getElem?_map] at hx
   obtain ⟨m, hm, rfl⟩ := Option.map_eq_some_iff.mp hx
   obtain ⟨c, hc⟩ := dlook_key (perm.mem_iff.mp (List.mem_of_getElem? hm))
   have dg : DGet H2 d (.int m) (some (.int c)) := by
    have := DGet.k (k := .inl m) (sh _ _ e9d)
    rw [val_vv2, hc] at this; exact this
   refine hs x0 m c H2 N ys dg fun r H3' s3' e3' => hN _ _ _ ⟨sh.trans s3', by rw [List.length_append, hy]; rfl, ?_, _, rfl⟩
   have hmi : (ns.map fun n => (n, (dlook ks n).getD 0))[i]? = some (m, c) := by rw [List.getElem?_map, hm]; show some (m, (dlook ks m).getD 0) = _; rw [hc]; rfl
   rw [List.take_add_one, hmi]
   exact (hk.same s3').snoc e3'
 · rintro ys σ H2 ⟨sh, hy, hk, _⟩
   rw [List.take_of_length_le (by rw [List.length_map, List.length_map]; exact Nat.le_refl _)] at hk
   exact hd ys H2 sh (by rw [hy, List.length_map]) hk
section
local macro_rules | `(tactic| wtm_at "call") => `(tactic| (apply j_sorted; (rfl); (rfl); (rfl); (with_reducible rfl); (rfl); (assumption); (wtm_at "pa")))
local macro_rules | `(tactic| wtm_at "call") => `(tactic| (apply k_tupleF; (rfl); (rfl); (rfl); (wtm_at "K"); (with_reducible rfl); (assumption); (wtm_at "pa")))
local macro_rules | `(tactic| wtm_at "pe") => `(tactic| (apply j_dget; (assumption); (exact fun _ _ => rfl); (wtm_at "pe"); (wtm_at "pe")))
local macro_rules | `(tactic| wtm_at "ps") => `(tactic| (apply s_dput; (assumption); (rfl); (wtm_at "pe"); (wtm_at "pe"); (wtm_at "pe")))
variable {P : Program} {w : World} {K : PySem.W.Frag} {mg : Str → Option Value} {base : Heap}
theorem scHeap : FnScope ["number", "kinds", "most", "way", "need", "count", "counts", "k", "part", "off", "size", "great", "many"] ["number", "kinds", "most"] (defScope sHeap) := ⟨rfl, rfl, rfl, by decide +kernel, rfl, by decide +kernel, by decide +kernel⟩
def spHeap : Sp := fun vs H Q _ => ∃ n kd ms : Int, vs = [.int n, .int kd, .int ms] ∧ 0 ≤ n ∧ 0 ≤ kd ∧ kd ≤ 8 ∧ 1 ≤ ms ∧ ms ≤ 10 ^ 12 ∧ ∀ (r h : Addr) (need n' : Int) (qs : List (Int × Int)) (H' : Hp), L2.Same H H' → H' r = some (.tup [.ref h, .int n']) → HeapAt H' h need qs → (qs.length : Int) ≤ kd → (∀ q ∈ qs, q.2 ≤ ms) → 0 ≤ n' → Q (.ref r) H'
theorem ok_heap {f : Addr} {fd : FuncData} (F : Fun K "_law_heap" "_law_heap" sHeap f fd) (mD : mg "divmod" = none) (mR : mg "range" = none) (mN : mg "min" = none) (mX : mg "max" = none) (mS : mg "sorted" = none) (mT : mg "tuple" = none) : FnOk P w K mg base CX0 1 f fd ["number", "kinds", "most"] spHeap := by
 refine Br.Fun.j F scHeap (fun vs H Q E h => ?_) (fun cdv A outer s H vs Q E hr h => ?_)
 · obtain ⟨_, _, _, rfl, _⟩ := h; rfl
 · obtain ⟨n0, kd, ms, rfl, hn0, hk0, hk1, hm0, hm1, h⟩ := h
   have nd := scHeap.nd
   have hsz : (sizeLine : Nat) = 16777216 := sizeLine_eq
   have e12 : (10 : Int) ^ Int.toNat 12 = 1000000000000 := by decide
   refine' ⟨_, ?d, ?r⟩
   case d => wtm_at "body"
   case r =>
    wtm_at "rd"
    refine ⟨divB (by decide) (by decide), fun t1 H1 ht1 s1 e1 => ?_⟩
    refine ⟨t1, _, rfl, SqT.of e1, rfl, _, _, rfl, _, _, rfl, rfl, ?_⟩
    obtain ⟨n1, hn1⟩ : ∃ n, n = n0 / 6 := ⟨_, rfl⟩
    obtain ⟨way, hway⟩ : ∃ n, n = n0 % 6 := ⟨_, rfl⟩
    have hn1' : 0 ≤ n1 := by omega
    have hw0 : 0 ≤ way ∧ way < 6 := by omega
    rw [← hn1, ← hway]
    wtm_at "rd"
    refine ⟨lenLe (n := 6) rfl (by decide), fun l2 H2 hl2 s2 g2 => ?_⟩
    obtain ⟨z, hz, _, ez⟩ := atI_ints (zs := [12, 60, 10 ^ 12 - 9, 60, 12, 30]) (i := way) (by omega) (by simp; omega)
    have hz' : 12 ≤ z ∧ z ≤ 10 ^ 12 - 9 := by simp at hz; omega
    refine ⟨_, rfl, .inl ⟨l2, _, _, _, rfl, rfl, SqL.of g2, ez, ?_⟩⟩
    refine ⟨_, _, rfl, divB (by omega) (by omega), fun t3 H3 ht3 s3 e3 => ?_⟩
    refine ⟨t3, _, rfl, SqT.of e3, rfl, _, _, rfl, _, _, rfl, rfl, ?_⟩
    have hn2' : 0 ≤ n1 / z := Int.ediv_nonneg hn1' (by omega)
    have hd0 : 0 ≤ n1 % z ∧ n1 % z < z := ⟨Int.emod_nonneg _ (by omega), Int.emod_lt_of_pos _ (by omega)⟩
    generalize n1 / z = n2 at hn2' ⊢
    generalize n1 % z = nd0 at hd0 ⊢
    wtm_at "rd"
    refine ⟨lenLe (n := 6) rfl (by decide), fun l4 H4 hl4 s4 g4 => ?_⟩
    obtain ⟨z2, hz2, _, ez2⟩ := atI_ints (zs := [1, 1, 10, 1, 1, 6]) (i := way) (by omega) (by simp; omega)
    have hz2' : 1 ≤ z2 ∧ z2 ≤ 10 := by simp at hz2; omega
    refine ⟨_, rfl, .inl ⟨l4, _, _, _, rfl, rfl, SqL.of g4, ez2, ?_⟩⟩
    refine .inl ⟨_, _, rfl, rfl, ?_⟩
    have hnd0 : 1 ≤ nd0 + z2 ∧ nd0 + z2 ≤ 10 ^ 12 := by omega
    wtm_at "rd"
    refine ⟨divB (by omega) (by omega), fun t5 H5 ht5 s5 e5 => ?_⟩
    refine ⟨t5, _, rfl, SqT.of e5, rfl, _, _, rfl, _, _, rfl, rfl, ?_⟩
    have hn3' : 0 ≤ n2 / (kd + 1) := Int.ediv_nonneg hn2' (by omega)
    have hc0 : 0 ≤ n2 % (kd + 1) ∧ n2 % (kd + 1) < kd + 1 := ⟨Int.emod_nonneg _ (by omega), Int.emod_lt_of_pos _ (by omega)⟩
    generalize n2 / (kd + 1) = n3 at hn3' ⊢
    generalize n2 % (kd + 1) = cnt at hc0 ⊢
    refine fun d H6 hd s6 e6 => ?_
    wtm_at "rd"
    refine ⟨by omega, by omega, for_range (fun i σ H7 => ∃ (ks : List (Int × Int)) (n' : Int) (x7 x8 x9 x10 x11 x12 : Option V), ks.length ≤ i ∧ (ks.map (·.1)).Nodup ∧ (∀ q ∈ ks, 1 ≤ q.1 ∧ q.1 ≤ 10 ^ 12 ∧ 1 ≤ q.2 ∧ q.2 ≤ ms) ∧ H7 d = some (.dK (vv2 ks)) ∧ Mo [d] H6 H7 ∧ 0 ≤ n' ∧
     σ = [some (.int n'), some (.int kd), some (.int ms), some (.int way), some (.int (nd0 + z2)), some (.int cnt), some (.ref d), x7, x8, x9, x10, x11, x12]) ⟨[], n3, none, none, none, none, none, none, Nat.le_refl _, List.nodup_nil, by simp, e6, Mo.refl, hn3', rfl⟩ ?_ ?_⟩
    · rintro i σ H7 hi ⟨ks, m1, x7, x8, x9, x10, x11, x12, hkl, hnd, hks, e7, m7, hm1', rfl⟩
      generalize nd0 + z2 = need at *
      have hi8 : i < 8 := by omega
      have at' : ∀ {H8 : Hp}, L2.Same H7 H8 → H8 d = some (.dK (vv2 ks)) := fun s => s _ _ e7
      wtm_at "rd"
      refine ⟨divB (by decide) (by decide), fun t1 G1 ht1 u1 f1 => ?_⟩
      refine ⟨t1, _, rfl, SqT.of f1, rfl, _, _, rfl, _, _, rfl, rfl, ?_⟩
      have hm2 : 0 ≤ m1 / 6 := by omega
      have hp0 : 0 ≤ m1 % 6 ∧ m1 % 6 < 6 := by omega
      generalize m1 / 6 = m2 at hm2 ⊢
      generalize m1 % 6 = part at hp0 ⊢
      wtm_at "rd"
      refine ⟨lenLe (n := 6) rfl (by decide), fun l2 G2 hl2 u2 f2 => ?_⟩
      obtain ⟨y, hy, _, ey⟩ := atI_ints (zs := [need + 1, 3, 3, 3, 3, 3]) (i := part) (by omega) (by simp; omega)
      have hy' : 1 ≤ y ∧ y ≤ 10 ^ 12 + 1 := by simp at hy; omega
      refine ⟨_, rfl, .inl ⟨l2, _, _, _, rfl, rfl, SqL.of f2, ey, ?_⟩⟩
      refine ⟨_, _, rfl, divB (by omega) (by omega), fun t3 G3 ht3 u3 f3 => ?_⟩
      refine ⟨t3, _, rfl, SqT.of f3, rfl, _, _, rfl, _, _, rfl, rfl, ?_⟩
      have hm3 : 0 ≤ m2 / y := Int.ediv_nonneg hm2 (by omega)
      generalize m2 / y = m3 at hm3 ⊢
      generalize m2 % y = off
      wtm_at "rd"
      refine ⟨lenLe (n := 6) rfl (by decide), fun l4 G4 hl4 u4 f4 => ?_⟩
      obtain ⟨sz, hsz1, _, esz⟩ := atI_ints (zs := [1 + off, need / 2 + off - 1, need / 3 + off, need - off, need / 5 + 1 + off, need / 4 + off]) (i := part) (by omega) (by simp; omega)
      refine ⟨_, rfl, .inl ⟨l4, _, _, _, rfl, rfl, SqL.of f4, esz, ?_⟩⟩
      wtm_at "rd"
      refine ⟨divB (by decide) (by decide), fun t5 G5 ht5 u5 f5 => ?_⟩
      refine ⟨t5, _, rfl, SqT.of f5, rfl, _, _, rfl, _, _, rfl, rfl, ?_⟩
      have hm4 : 0 ≤ m3 / 5 := by omega
      have hg0 : 0 ≤ m3 % 5 ∧ m3 % 5 < 5 := by omega
      generalize m3 / 5 = m4 at hm4 ⊢
      generalize m3 % 5 = great at hg0 ⊢
      wtm_at "rd"
      refine ⟨lenLe (n := 5) rfl (by decide), fun l6 G6 hl6 u6 f6 => ?_⟩
      obtain ⟨mm, hmm, _, emm⟩ := atI_ints (zs := [4, 4, 9, 4, ms]) (i := great) (by omega) (by simp; omega)
      have hmm' : 1 ≤ mm ∧ mm ≤ 10 ^ 12 := by simp at hmm; omega
      refine ⟨_, rfl, .inl ⟨l6, _, _, _, rfl, rfl, SqL.of f6, emm, ?_⟩⟩
      refine ⟨_, _, rfl, divB (by omega) (by omega), fun t7 G7 ht7 u7 f7 => ?_⟩
      refine ⟨t7, _, rfl, SqT.of f7, rfl, _, _, rfl, _, _, rfl, rfl, ?_⟩
      have hm5 : 0 ≤ m4 / mm := Int.ediv_nonneg hm4 (by omega)
      have hmy : 0 ≤ m4 % mm := Int.emod_nonneg _ (by omega)
      generalize m4 / mm = m5 at hm5 ⊢
      generalize m4 % mm = many at hmy ⊢
      have uA : L2.Same H7 G7 := u1.trans (u2.trans (u3.trans (u4.trans (u5.trans (u6.trans u7)))))
      have e8 := at' uA
      wtm_at "rd"
      obtain ⟨key, hkey⟩ : ∃ k : Int, k = (if (if sz > 1 then sz else 1) < (10 : Int) ^ Int.toNat 12 then (if sz > 1 then sz else 1) else (10 : Int) ^ Int.toNat 12) := ⟨_, rfl⟩
      obtain ⟨val, hval⟩ : ∃ k : Int, k = (if 1 + many < ms then 1 + many else ms) := ⟨_, rfl⟩
      have hk1' : 1 ≤ key ∧ key ≤ 10 ^ 12 := by rw [hkey, e12]; constructor <;> (repeat' split) <;> omega
      have hv1' : 1 ≤ val ∧ val ≤ ms := by rw [hval]; constructor <;> (repeat' split) <;> omega
      have hlen : (vv2 ks).length = ks.length := by unfold vv2; rw [List.length_map]
      have dp := DPut.k (k := .inl key) (v := .int val) e8 (by rw [hlen]; omega)
      rw [hkey, hval] at dp
      refine ⟨d, _, rfl, dp, dput ks key val, m5, _, _, _, _, _, _, ?_, dput_nodup key val hnd, fun q hq => ?_, by rw [upd_same, ← hkey, ← hval, put_vv2], m7.trans ((Mo.of uA).trans (Mo.put (by simp))), hm5, rfl⟩
      · have := dput_len ks key val; omega
      · rcases dput_mem hq with z | rfl
        · exact hks q z
        · exact ⟨hk1'.1, hk1'.2, hv1'.1, hv1'.2⟩
    · rintro σ H7 ⟨ks, m1, x7, x8, x9, x10, x11, x12, hkl, hnd, hks, eG, m7, hm1', rfl⟩
      generalize nd0 + z2 = need at *
      have hk8 : ks.length ≤ 8 := by omega
      have eG' := eG
      rw [vv2_ikv] at eG'
      refine ⟨_, rfl, _, rfl, ⟨d, _, rfl, eG', by rw [List.length_map]; omega, fun l ns H9 hl s9 e9 perm pw => ?_⟩⟩
      have perm : ns.Perm (ks.map (·.1)) := by rw [List.map_map] at perm; exact perm
      have hnl : ns.length = ks.length := by rw [perm.length_eq, List.length_map]
      obtain ⟨sk1, sk2⟩ := sort_keys hnd perm pw
      have e9d := s9 _ _ eG
      refine ⟨l, rfl, .inl ⟨⟨_, SqL.of e9⟩, ?_⟩⟩
      refine heap_cmp (by omega) perm rfl e9 e9d ?_ ?_
      · exact fun x0 m c H2 N ys dg hN => ⟨_, rfl, _, rfl, _, rfl, d, .int c, rfl, dg, lenLe (n := 2) rfl (by decide), fun r H3' _ s3' e3' => hN r H3' s3' e3'⟩
      · intro ys H2 sh hy hk pl H11 hpl s11 e11
        refine ⟨pl, _, rfl, SqL.of e11, fun t ob H12 ht bo s12 e12' => ?_⟩
        refine ⟨lenLe (n := 2) rfl (by decide), fun hq' H13 hh s13 e13 => ?_⟩
        refine ⟨_, rfl, lenLe (n := 2) rfl (by decide), fun r H14 hr' s14 e14 => ?_⟩
        have sA : L2.Same H7 H14 := s9.trans (sh.trans (s11.trans (s12.trans (s13.trans s14))))
        have bd : ∀ q ∈ (ns.map fun n => (n, (dlook ks n).getD 0)), 1 ≤ q.1 ∧ q.1 ≤ 10 ^ 12 ∧ 1 ≤ q.2 ∧ q.2 ≤ ms := fun q hq => hks q ((sk2 q).mp hq)
        refine h r hq' need m1 _ H14 (fun b o e => ?_) e14 ⟨t, ob, ys, s14 _ _ e13, bo, s14 _ _ (s13 _ _ e12'), hk.same (s11.trans (s12.trans (s13.trans s14))), ⟨by rw [List.length_map]; omega, hnd0.1, hnd0.2, fun q hq => ?_, sk1⟩⟩ (by rw [List.length_map]; omega) (fun q hq => (bd q hq).2.2.2) hm1'
        · have e5' := s5 _ _ (s4 _ _ (s3 _ _ (s2 _ _ (s1 _ _ e))))
          have hbd : b ≠ d := ne_of_none e5' hd
          exact sA _ _ (m7 b o (by simpa using hbd) (s6 _ _ e5'))
        · obtain ⟨b1, b2, b3, b4⟩ := bd q hq
          exact ⟨b1, b2, b3, by omega⟩
end
def Lotp (H : Hp) (v : V) (q : List Int × Int) : Prop := ∃ r c : Addr, v = .ref r ∧ H r = some (.tup [.ref c, .int q.2]) ∧ H c = some (.tup (q.1.map V.int))
def Lots (H : Hp) (vs : List V) (fs : List (List Int × Int)) : Prop := vs.length = fs.length ∧ ∀ (i : Nat) (v : V), vs[i]? = some v → ∃ q, fs[i]? = some q ∧ Lotp H v q
def Tp (H : Hp) (f : Addr) (vs : List V) : Prop := H f = some (.tup vs) ∨ ∃ o, bareT o ∧ H f = some (.frz o (.tup vs))
theorem Tp.tu {H H' : Hp} {f : Addr} {vs : List V} (h : Tp H f vs) (m : Tu H H') : Tp H' f vs := h.imp (fun e => m _ _ e (.inl ⟨_, rfl⟩)) fun ⟨o, b, e⟩ => ⟨o, b, m _ _ e (.inr ⟨_, _, rfl⟩)⟩
theorem Tp.same {H H' : Hp} {f : Addr} {vs : List V} (h : Tp H f vs) (s : L2.Same H H') : Tp H' f vs := h.tu (Tu.of s)
theorem Tp.sq {K : PySem.W.Frag} {H : Hp} {f : Addr} {vs : List V} (h : Tp H f vs) : SqT K H f vs := h.elim SqT.of fun ⟨o, _, e⟩ => .inl (.inr ⟨_, e⟩)
def FillAt (H : Hp) (f : Addr) (fs : List (List Int × Int)) : Prop := ∃ vs, Tp H f vs ∧ Lots H vs fs
theorem Lotp.tu {H H' : Hp} {v : V} {q : List Int × Int} (x : Lotp H v q) (m : Tu H H') : Lotp H' v q := let ⟨r, c, h1, h2, h3⟩ := x; ⟨r, c, h1, m _ _ h2 (.inl ⟨_, rfl⟩), m _ _ h3 (.inl ⟨_, rfl⟩)⟩
theorem Lots.tu {H H' : Hp} {vs : List V} {fs : List (List Int × Int)} (x : Lots H vs fs) (m : Tu H H') : Lots H' vs fs := ⟨x.1, fun i v e => let ⟨q, h1, h2⟩ := x.2 i v e; ⟨q, h1, h2.tu m⟩⟩
theorem FillAt.tu {H H' : Hp} {f : Addr} {fs : List (List Int × Int)} (x : FillAt H f fs) (m : Tu H H') : FillAt H' f fs := let ⟨vs, h1, h2⟩ := x; ⟨vs, h1.tu m, h2.tu m⟩
theorem Lots.nil {H : Hp} : Lots H [] [] := ⟨rfl, fun i v e => by simp at e⟩
theorem Lots.snoc {H : Hp} {vs : List V} {fs : List (List Int × Int)} {v : V} {q : List Int × Int} (k : Lots H vs fs) (e : Lotp H v q) : Lots H (vs ++ [v]) (fs ++ [q]) := by
 have k1 := k.1
 refine ⟨by rw [List.length_append, List.length_append, k1]; rfl, fun i u h => ?_⟩
 by_cases hi : i < vs.length
 · rw [List.getElem?_append_left hi] at h
   obtain ⟨q', h1, h2⟩ := k.2 i u h
   exact ⟨q', by rw [List.getElem?_append_left (by omega)]; exact h1, h2⟩
 · have hi2 : i = vs.length := by have := (List.getElem?_eq_some_iff.mp h).1; rw [List.length_append] at this; simp at this; omega
   subst hi2
   rw [List.getElem?_append_right (Nat.le_refl _), Nat.sub_self] at h
   simp at h
   exact ⟨q, by rw [k1, List.getElem?_append_right (Nat.le_refl _), Nat.sub_self]; rfl, by rw [← h]; exact e⟩
theorem dgetT {H : Hp} {a b : Addr} {ks : List (List Int × Int)} {zs : List Int} (e : H a = some (.dT (vT ks))) (eb : H b = some (.tup (zs.map V.int))) : DGet H a (.ref b) ((tlook ks zs).map V.int) := by
 rw [← val_vT]; exact DGet.t e (by rw [kV_inl]; exact eb)
theorem dputT {H : Hp} {a b : Addr} {ks : List (List Int × Int)} {zs : List Int} {m : Int} (e : H a = some (.dT (vT ks))) (eb : H b = some (.tup (zs.map V.int))) (nd : (ks.map (·.1)).Nodup) (hl : ks.length < sizeLine) : DPut H a (.ref b) (.int m) (upd H a (.dT (vT (tput ks zs m)))) := by
 rw [← put_vT zs m nd]; exact DPut.t e (by rw [kV_inl]; exact eb) (by unfold vT; rw [List.length_map]; exact hl)
def ind (z l : List Int) : Int := if l = z then 1 else 0
theorem wsum_ind (z : List Int) : ∀ {ks : List (List Int × Int)}, (ks.map (·.1)).Nodup → wsum (ind z) ks = (tlook ks z).getD 0
 | [], _ => rfl
 | q :: ks, h => by
  rw [List.map_cons, List.nodup_cons] at h
  have ih := wsum_ind z h.2
  rw [wsum_cons, ih]
  show q.2 * ind z q.1 + _ = (if q.1 = z then some q.2 else tlook ks z).getD 0
  unfold ind
  by_cases e : q.1 = z
  · rw [if_pos e, if_pos e, tlook_none (e ▸ h.1)]; show q.2 * 1 + 0 = q.2; omega
  · rw [if_neg e, if_neg e]; omega
theorem look_iff {ks : List (List Int × Int)} (nd : (ks.map (·.1)).Nodup) (hp : ∀ q ∈ ks, 1 ≤ q.2) (q : List Int × Int) : q ∈ ks ↔ 1 ≤ q.2 ∧ wsum (ind q.1) ks = q.2 := by
 rw [wsum_ind _ nd]
 constructor
 · intro h; rw [tlook_mem nd h]; exact ⟨hp q h, rfl⟩
 · rintro ⟨h1, h2⟩
   cases e : tlook ks q.1 with
   | none => rw [e] at h2; have h2 : (0 : Int) = q.2 := h2; omega
   | some c => rw [e] at h2; have h2 : c = q.2 := h2; have := tlook_some e; rw [h2] at this; exact this
theorem nodup_keys {ks : List (List Int × Int)} (nd : (ks.map (·.1)).Nodup) : ks.Nodup := by
 exact List.Pairwise.imp (fun h z => h (congrArg _ z)) (List.pairwise_map.mp nd)
theorem fold_id : ∀ (L : List (Int × Int)) (st : List (Int × Int) × Int), ¬ 0 < st.2 → L.foldl nextStep st = st
 | [], _, _ => rfl
 | q :: L, st, h => by
  have hs : nextStep st q = st := by unfold nextStep; rw [if_neg h]
  rw [List.foldl_cons, hs]; exact fold_id L st h
theorem fold_look (n : Int) : ∀ (L : List (Int × Int)) (st : List (Int × Int) × Int), n ∉ L.map (·.1) → dlook (L.foldl nextStep st).1 n = dlook st.1 n
 | [], _, _ => rfl
 | q :: L, st, h => by
  rw [List.map_cons, List.mem_cons, not_or] at h
  rw [List.foldl_cons, fold_look n L _ h.2]
  unfold nextStep
  split
  · show dlook (dput st.1 q.1 _) n = _
    rw [dput_look, if_neg fun z => h.1 z.symm]
  · rfl
theorem next_big {need g : Int} {qs : List (Int × Int)} (h : need ≤ g) : (nextK need g qs).1 = [(g, 1)] := by
 unfold nextK; rw [fold_id _ _ (by show ¬ 0 < need - g; omega)]
theorem upD_mul {m s : Int} (hs : 1 ≤ s) : m ≤ s * upD m s := by
 unfold upD
 have h1 := Int.mul_ediv_add_emod (-m) s
 have h2 := Int.emod_nonneg (-m) (show s ≠ 0 by omega)
 rw [Int.mul_neg]; omega
theorem next_small {need g s m : Int} {qs L : List (Int × Int)} (hL : lessBy qs [(g, 1)] = (s, m) :: L) (h : g < need) (hs : 1 ≤ s) (hm : upD (need - g) s ≤ m) : (nextK need g qs).1 = dput [(g, 1)] s ((dlook [(g, 1)] s).getD 0 + upD (need - g) s) := by
 unfold nextK
 rw [hL, List.foldl_cons]
 have hst : nextStep ([(g, 1)], need - g) (s, m) = (dput [(g, 1)] s ((dlook [(g, 1)] s).getD 0 + upD (need - g) s), need - g - s * upD (need - g) s) := by
  unfold nextStep
  rw [if_pos (show 0 < need - g by omega)]
  show (dput [(g, 1)] s (_ + min m (upD (need - g) s)), need - g - s * min m (upD (need - g) s)) = _
  rw [Int.min_eq_right hm]
 rw [hst, fold_id]
 show ¬ 0 < need - g - s * upD (need - g) s
 have := upD_mul (m := need - g) hs
 omega
theorem next_part {need g s m : Int} {qs L : List (Int × Int)} (hL : lessBy qs [(g, 1)] = (s, m) :: L) (hn : s ∉ L.map (·.1)) (h : g < need) (hp : (dlook (nextK need g qs).1 s).getD 0 < (dlook [(g, 1)] s).getD 0 + m) : upD (need - g) s ≤ m := by
 refine Int.not_lt.mp fun hlt => ?_
 unfold nextK at hp
 rw [hL, List.foldl_cons, fold_look s L _ hn] at hp
 have hst : (nextStep ([(g, 1)], need - g) (s, m)).1 = dput [(g, 1)] s ((dlook [(g, 1)] s).getD 0 + m) := by
  unfold nextStep
  rw [if_pos (show 0 < need - g by omega)]
  show dput [(g, 1)] s (_ + min m (upD (need - g) s)) = _
  rw [Int.min_eq_left (by omega)]
 rw [hst, dput_look, if_pos rfl] at hp
 exact absurd hp (Int.lt_irrefl _)
theorem ahead_ms {need : Int} {qs : List (Int × Int)} {ms : List (List Int × Int)} (h : Ahead need qs ms) : HOk8 need qs → ∀ q ∈ ms, 1 ≤ q.2 := by
 induction h with
 | done _ => exact fun _ q hq => (nomatch hq)
 | @step qs rs t ms h1 h2 h3 h4 h5 h6 ih =>
  intro ok q hq
  have hne : qs ≠ [] := fun z => by
   rw [z] at h1; have := ok.n0; exact absurd h1 (by show ¬ need ≤ 0; omega)
  obtain ⟨k1, k2, _, _⟩ := next_ok ok hne
  obtain ⟨t1, _, _⟩ := times_ok ok k1 k2 h4 h5
  rcases List.mem_cons.mp hq with rfl | hq
  · exact t1
  · refine ih (less_ok ok fun x hx => ?_) q hq
    obtain ⟨c, hc, rfl⟩ := List.mem_map.mp hx
    have := (k2 c hc).1
    exact Int.mul_nonneg (by omega) (by omega)
theorem less_all {qs ks : List (Int × Int)} (h : ∀ q ∈ qs, (dlook ks q.1).getD 0 < q.2) : lessBy qs ks = qs.map fun q => (q.1, q.2 - (dlook ks q.1).getD 0) := by
 unfold lessBy
 refine List.filter_eq_self.mpr fun q hq => ?_
 obtain ⟨r, hr, rfl⟩ := List.mem_map.mp hq
 have := h r hr
 exact decide_eq_true (by show 0 < r.2 - (dlook ks r.1).getD 0; omega)
theorem top_map (f : Int × Int → Int × Int) (h : ∀ q, (f q).1 = q.1) (qs : List (Int × Int)) : topS (qs.map f) = topS qs := by
 unfold topS
 rw [List.getLast?_map]
 cases qs.getLast? with
 | none => rfl
 | some q => exact h q
theorem one_look (g n : Int) : (dlook [(g, (1 : Int))] n).getD 0 = if g = n then 1 else 0 := by
 rw [dlook_cons]
 by_cases z : g = n
 · rw [if_pos z, if_pos z]; rfl
 · rw [if_neg z, if_neg z]; rfl
theorem less_look {qs ks : List (Int × Int)} (hr : Ris qs) {n m : Int} (e : dlook qs n = some m) (h : 0 < m - (dlook ks n).getD 0) : dlook (lessBy qs ks) n = some (m - (dlook ks n).getD 0) := by
 have : (n, m - (dlook ks n).getD 0) ∈ lessBy qs ks := by
  unfold lessBy
  exact List.mem_filter.mpr ⟨List.mem_map.mpr ⟨(n, m), dlook_some e, rfl⟩, decide_eq_true h⟩
 exact (dlook_mem (less_ris hr).nodup _).mp this
theorem sum_rep (n : Nat) (x : Int) : (List.replicate n x).sum = n * x := by
 induction n with
 | zero => simp
 | succ n ih => rw [List.replicate_succ, List.sum_cons, ih, show ((n + 1 : Nat) : Int) = (n : Int) + 1 from rfl, Int.add_mul]; omega
theorem things_count (n : Int) : ∀ {rs : List (Int × Int)}, (rs.map (·.1)).Nodup → (∀ q ∈ rs, 0 ≤ q.2) → (((thingsL rs).count n : Nat) : Int) = (dlook rs n).getD 0
 | [], _, _ => rfl
 | q :: rs, h, h0 => by
  rw [List.map_cons, List.nodup_cons] at h
  have ih := things_count n h.2 fun x hx => h0 x (.tail _ hx)
  have hq := h0 q (.head _)
  have e : thingsL (q :: rs) = List.replicate q.2.toNat q.1 ++ thingsL rs := by unfold thingsL; rw [List.flatMap_cons]
  rw [e, List.count_append, List.count_replicate, dlook_cons]
  by_cases z : q.1 = n
  · rw [if_pos (by simpa using z), if_pos z]
    rw [dlook_none (z ▸ h.1)] at ih
    have ih : (((thingsL rs).count n : Nat) : Int) = 0 := ih
    show _ = q.2
    omega
  · rw [if_neg (by simpa using z), if_neg z, ← ih]; omega
theorem look_same {rs ks : List (Int × Int)} (hr : (rs.map (·.1)).Nodup) (hk : (ks.map (·.1)).Nodup) (h : ∀ q, q ∈ rs ↔ q ∈ ks) (n : Int) : dlook rs n = dlook ks n := by
 cases e : dlook rs n with
 | none =>
  cases e2 : dlook ks n with
  | none => rfl
  | some c =>
   have := (dlook_mem hr (n, c)).mp ((h _).mpr (dlook_some e2))
   rw [e] at this; cases this
 | some c => exact ((dlook_mem hk (n, c)).mp ((h _).mp (dlook_some e))).symm
theorem less_le {qs ks : List (Int × Int)} (hr : Ris qs) (n : Int) : (dlook (lessBy qs ks) n).getD 0 = 0 ∨ (dlook (lessBy qs ks) n).getD 0 = (dlook qs n).getD 0 - (dlook ks n).getD 0 := by
 cases e : dlook (lessBy qs ks) n with
 | none => exact .inl rfl
 | some v =>
  obtain ⟨m, hm, e2, _⟩ := less_mem (dlook_some e)
  refine .inr ?_
  rw [(dlook_mem hr.nodup (n, m)).mp hm]
  exact e2
theorem dl0 {ks : List (Int × Int)} (h : ∀ q ∈ ks, 0 ≤ q.2) (n : Int) : 0 ≤ (dlook ks n).getD 0 := by
 cases e : dlook ks n with
 | none => exact Int.le_refl _
 | some c => exact h _ (dlook_some e)
theorem ahead_within {need : Int} {qs : List (Int × Int)} {ms : List (List Int × Int)} (h : Ahead need qs ms) : HOk8 need qs → ∀ q ∈ ms, ∀ n, ((q.1.count n : Nat) : Int) ≤ (dlook qs n).getD 0 := by
 induction h with
 | done _ => exact fun _ q hq => (nomatch hq)
 | @step qs rs t ms h1 h2 h3 h4 h5 h6 ih =>
  intro ok q hq n
  have hne : qs ≠ [] := fun z => by
   rw [z] at h1; have := ok.n0; exact absurd h1 (by show ¬ need ≤ 0; omega)
  obtain ⟨k1, k2, _, _⟩ := next_ok ok hne
  obtain ⟨t1, _, t3⟩ := times_ok ok k1 k2 h4 h5
  have hq0 := dl0 (ks := qs) (fun x hx => by have := (ok.bd x hx).2.2.1; omega) n
  have ht0 : ∀ x ∈ tms (nextK need (topS qs) qs).1 t, 0 ≤ x.2 := fun x hx => by
   obtain ⟨c, hc, rfl⟩ := List.mem_map.mp hx
   have := (k2 c hc).1
   exact Int.mul_nonneg (by omega) (by omega)
  rcases List.mem_cons.mp hq with rfl | hq
  · show (((thingsL rs).count n : Nat) : Int) ≤ _
    rw [things_count n h2.nodup (fun x hx => by have := (k2 x ((h3 x).mp hx)).1; omega), look_same h2.nodup k1 h3 n]
    cases e : dlook (nextK need (topS qs) qs).1 n with
    | none => exact hq0
    | some c => exact (k2 _ (dlook_some e)).2
  · have := ih (less_ok ok ht0) q hq n
    have w := dl0 ht0 n
    rcases less_le (ks := tms (nextK need (topS qs) qs).1 t) ok.ris n with z | z <;> omega
theorem ahead_nodup {need : Int} {qs : List (Int × Int)} {ms : List (List Int × Int)} (h : Ahead need qs ms) : HOk8 need qs → (ms.map (·.1)).Nodup := by
 induction h with
 | done _ => exact fun _ => List.nodup_nil
 | @step qs rs t ms h1 h2 h3 h4 h5 h6 ih =>
  intro ok
  have hne : qs ≠ [] := fun z => by
   rw [z] at h1; have := ok.n0; exact absurd h1 (by show ¬ need ≤ 0; omega)
  obtain ⟨k1, k2, _, _⟩ := next_ok ok hne
  obtain ⟨t1, _, t3⟩ := times_ok ok k1 k2 h4 h5
  have ht0 : ∀ x ∈ tms (nextK need (topS qs) qs).1 t, 0 ≤ x.2 := fun x hx => by
   obtain ⟨c, hc, rfl⟩ := List.mem_map.mp hx
   have := (k2 c hc).1
   exact Int.mul_nonneg (by omega) (by omega)
  have ok1 := less_ok ok ht0
  rw [List.map_cons, List.nodup_cons]
  refine ⟨fun hz => ?_, ih ok1⟩
  obtain ⟨q, hq, e⟩ := List.mem_map.mp hz
  obtain ⟨x, hx, ex⟩ := List.mem_filterMap.mp h4
  obtain ⟨c, hc, ec⟩ := Option.map_eq_some_iff.mp ex
  have c1 : 1 ≤ c := (k2 _ (dlook_some hc)).1
  have w := ahead_within h6 ok1 q hq x.1
  rw [e, things_count x.1 h2.nodup (fun y hy => by have := (k2 y ((h3 y).mp hy)).1; omega), look_same h2.nodup k1 h3 x.1, hc] at w
  have w : c ≤ (dlook (lessBy qs (tms (nextK need (topS qs) qs).1 t)) x.1).getD 0 := w
  have hdx : dlook qs x.1 = some x.2 := (dlook_mem ok.ris.nodup x).mp hx
  have hlt : x.2 < c * t + c := by
   have a1 := Int.mul_ediv_add_emod x.2 c
   have a2 := Int.emod_lt_of_pos x.2 (show 0 < c by omega)
   rw [ec] at a1
   omega
  rcases less_le (ks := tms (nextK need (topS qs) qs).1 t) ok.ris x.1 with z | z
  · omega
  · rw [hdx, tms_look, hc] at z
    have z : _ = x.2 - c * t := z
    omega
theorem things_cons (q : Int × Int) (L : List (Int × Int)) : thingsL (q :: L) = List.replicate q.2.toNat q.1 ++ thingsL L := by unfold thingsL; rw [List.flatMap_cons]
theorem things_sum : ∀ {L : List (Int × Int)}, (∀ q ∈ L, 0 ≤ q.2) → (thingsL L).sum = tot L
 | [], _ => rfl
 | q :: L, h => by
  have h0 := h q (.head _)
  rw [things_cons, List.sum_append, sum_rep, things_sum fun x hx => h x (.tail _ hx)]
  unfold tot
  rw [List.map_cons, List.sum_cons, Int.toNat_of_nonneg h0, Int.mul_comm]
theorem upD_lt {m s : Int} (hs : 1 ≤ s) {j : Int} (h : j < upD m s) : s * j < m := by
 unfold upD at h
 have h1 := Int.mul_ediv_add_emod (-m) s
 have h2 := Int.emod_lt_of_pos (-m) (show 0 < s by omega)
 have h3 : s * j ≤ s * (-(-m / s) - 1) := Int.mul_le_mul_of_nonneg_left (by omega) (by omega)
 rw [Int.mul_sub, Int.mul_neg] at h3
 omega
theorem things_mem {L : List (Int × Int)} {x : Int} (h : x ∈ thingsL L) : ∃ q ∈ L, x = q.1 := by
 unfold thingsL at h
 obtain ⟨q, hq, hx⟩ := List.mem_flatMap.mp h
 exact ⟨q, hq, List.eq_of_mem_replicate hx⟩
theorem things_sorted : ∀ {L : List (Int × Int)}, Ris L → (thingsL L).Pairwise (· ≤ ·)
 | [], _ => List.Pairwise.nil
 | q :: L, h => by
  obtain ⟨h1, h2⟩ := List.pairwise_cons.mp h
  rw [things_cons, List.pairwise_append]
  refine ⟨List.pairwise_replicate.mpr (.inr (Int.le_refl _)), things_sorted h2, fun a ha b hb => ?_⟩
  obtain ⟨r, hr, rfl⟩ := things_mem hb
  rw [List.eq_of_mem_replicate ha]
  have := h1 r hr
  omega
theorem less_eq {qs ks : List (Int × Int)} (hr : Ris qs) (hk : ∀ q ∈ ks, 0 ≤ q.2) (n : Int) (h : (dlook ks n).getD 0 ≤ (dlook qs n).getD 0) : (dlook (lessBy qs ks) n).getD 0 = (dlook qs n).getD 0 - (dlook ks n).getD 0 := by
 have h0 := dl0 hk n
 rcases less_le (ks := ks) hr n with z | z
 · cases e : dlook qs n with
   | none => rw [e] at h; have h : (dlook ks n).getD 0 ≤ 0 := h; rw [z]; show (0 : Int) = 0 - _; omega
   | some m =>
    rw [e] at h
    have h : (dlook ks n).getD 0 ≤ m := h
    by_cases hp : 0 < m - (dlook ks n).getD 0
    · rw [less_look hr e hp]; rfl
    · rw [z]; show (0 : Int) = m - _; omega
 · exact z
theorem top_max {qs : List (Int × Int)} (hr : Ris qs) (hne : qs ≠ []) : ∀ q ∈ qs, q.1 ≤ topS qs := by
 intro q hq
 have e : topS qs = (qs.getLast hne).1 := by unfold topS; rw [List.getLast?_eq_some_getLast hne]; rfl
 have es := List.dropLast_concat_getLast hne
 rw [e]
 rw [← es] at hq hr
 rcases List.mem_append.mp hq with z | z
 · have := (List.pairwise_append.mp hr).2.2 q z (qs.getLast hne) (.head _)
   have : q.1 < (qs.getLast hne).1 := this
   omega
 · rw [List.mem_singleton.mp z]; exact Int.le_refl _
theorem nn_qs {need : Int} {qs : List (Int × Int)} (ok : HOk8 need qs) : ∀ q ∈ qs, 0 ≤ q.2 := fun q hq => by have := (ok.bd q hq).2.2.1; omega
theorem one_le {need : Int} {qs : List (Int × Int)} (ok : HOk8 need qs) (hne : qs ≠ []) (n : Int) : (dlook [(topS qs, (1 : Int))] n).getD 0 ≤ (dlook qs n).getD 0 := by
 obtain ⟨m, hm⟩ := top_mem hne
 rw [one_look]
 split
 · next z =>
   subst z
   rw [(dlook_mem ok.ris.nodup _).mp hm]
   exact (ok.bd _ hm).2.2.1
 · exact dl0 (nn_qs ok) n
theorem one_ok {need : Int} {qs : List (Int × Int)} (ok : HOk8 need qs) : HOk8 need (lessBy qs [(topS qs, 1)]) := less_ok ok fun q hq => by rw [List.mem_singleton.mp hq]; show (0 : Int) ≤ 1; decide
theorem less_short {qs ks : List (Int × Int)} {q : Int × Int} (hq : q ∈ qs) (h : q.2 ≤ (dlook ks q.1).getD 0) : (lessBy qs ks).length < qs.length := by
 have e : (qs.map fun q => (q.1, q.2 - (dlook ks q.1).getD 0)).length = qs.length := List.length_map ..
 unfold lessBy
 rw [← e]
 refine List.length_filter_lt_length_iff_exists.mpr ⟨_, List.mem_map.mpr ⟨q, hq, rfl⟩, fun z => ?_⟩
 have := of_decide_eq_true z
 have : 0 < q.2 - (dlook ks q.1).getD 0 := this
 omega
theorem less_le_len (qs ks : List (Int × Int)) : (lessBy qs ks).length ≤ qs.length := by
 unfold lessBy
 refine Nat.le_trans (List.length_filter_le _ _) ?_
 rw [List.length_map]; exact Nat.le_refl _
theorem times_mem {qs ks : List (Int × Int)} {t : Int} (h : t ∈ timesNs qs ks) : ∃ q ∈ qs, ∃ c, dlook ks q.1 = some c ∧ q.2 / c = t := by
 obtain ⟨q, hq, e⟩ := List.mem_filterMap.mp h
 obtain ⟨c, hc, e⟩ := Option.map_eq_some_iff.mp e
 exact ⟨q, hq, c, hc, e⟩
theorem step_len {need : Int} {qs : List (Int × Int)} (ok : HOk8 need qs) (hge : need ≤ tot qs) {t : Int} (ht : t ∈ timesNs qs (nextK need (topS qs) qs).1) (hle : ∀ x ∈ timesNs qs (nextK need (topS qs) qs).1, t ≤ x) :
 (lessBy qs (tms (nextK need (topS qs) qs).1 t)).length < qs.length ∨ tot (lessBy qs (tms (nextK need (topS qs) qs).1 t)) < need ∨
 ∀ t', 1 ≤ t' → (lessBy (lessBy qs (tms (nextK need (topS qs) qs).1 t)) (tms (nextK need (topS (lessBy qs (tms (nextK need (topS qs) qs).1 t))) (lessBy qs (tms (nextK need (topS qs) qs).1 t))).1 t')).length < (lessBy qs (tms (nextK need (topS qs) qs).1 t)).length := by
 have hne : qs ≠ [] := fun z => by
  rw [z] at hge; have := ok.n0; exact absurd hge (by show ¬ need ≤ 0; omega)
 obtain ⟨k1, k2, k3, _⟩ := next_ok ok hne
 obtain ⟨t1, _, t3⟩ := times_ok ok k1 k2 ht hle
 obtain ⟨mg, hmg⟩ := top_mem hne
 have hrn := ok.ris.nodup
 by_cases hs : (lessBy qs (tms (nextK need (topS qs) qs).1 t)).length < qs.length
 · exact .inl hs
 refine .inr ?_
 have hall : ∀ q ∈ qs, (dlook (nextK need (topS qs) qs).1 q.1).getD 0 * t < q.2 := fun q hq => by
  refine Int.not_le.mp fun z => hs (less_short hq ?_)
  rw [tms_look]
  cases e : dlook (nextK need (topS qs) qs).1 q.1 with
  | none => rw [e] at z; show q.2 ≤ 0; have z : q.2 ≤ 0 * t := z; omega
  | some c => rw [e] at z; exact z
 have hpos : ∀ n, 0 ≤ (dlook (nextK need (topS qs) qs).1 n).getD 0 := dl0 fun q hq => by have := (k2 q hq).1; omega
 have hall1 : ∀ q ∈ qs, (dlook (nextK need (topS qs) qs).1 q.1).getD 0 < q.2 := fun q hq => by
  have h1 := hall q hq
  have h2 := Int.mul_le_mul_of_nonneg_left t1 (hpos q.1)
  omega
 have gtop := top_max ok.ris hne
 generalize hg : topS qs = g at *
 have gpos : 1 ≤ g := (ok.bd _ hmg).1
 by_cases hb : need ≤ g
 · rw [next_big hb] at ht hall
   obtain ⟨q, hq, c, hc, e⟩ := times_mem ht
   have hc' := one_look g q.1
   rw [hc] at hc'
   have h1 := hall q hq
   rw [one_look] at h1
   by_cases z : g = q.1
   · rw [if_pos z] at hc' h1
     have hc' : c = 1 := hc'
     subst hc'
     rw [Int.ediv_one] at e
     omega
   · rw [if_neg z] at hc'
     have hc' : c = 0 := hc'
     rw [dlook_cons, if_neg z] at hc; cases hc
 have hb : g < need := by omega
 cases qs with
 | nil => exact absurd rfl hne
 | cons q rest =>
  obtain ⟨a, m⟩ := q
  obtain ⟨a1, _, m1, _⟩ := ok.bd _ (.head _)
  have a1 : 1 ≤ a := a1
  have m1 : 1 ≤ m := m1
  have hag : a ≤ g := gtop _ (.head _)
  have hr := ok.ris
  unfold Ris at hr
  have hr1 : ∀ q ∈ rest, a < q.1 := fun q hq => (List.pairwise_cons.mp hr).1 q hq
  have ha := hall _ (.head _)
  have ha1 := hall1 _ (.head _)
  have ha : (dlook (nextK need g ((a, m) :: rest)).1 a).getD 0 * t < m := ha
  have ha1 : (dlook (nextK need g ((a, m) :: rest)).1 a).getD 0 < m := ha1
  by_cases zag : a = g
  · subst zag
    have hrest : rest = [] := by
     cases rest with
     | nil => rfl
     | cons q' r' => have h1 := hr1 _ (.head _); have h2 := gtop q' (.tail _ (.head _)); omega
    subst hrest
    refine .inl ?_
    have hm2 : 1 < m := by
     refine Int.not_le.mp fun z => ?_
     have : tot [(a, m)] = a * m := by unfold tot; simp
     rw [this] at hge
     have e : m = 1 := by omega
     rw [e] at hge; omega
    have hL : lessBy [(a, m)] [(a, 1)] = (a, m - 1) :: [] := by
     unfold lessBy
     have := one_look a a
     rw [if_pos rfl] at this
     simp only [List.map_cons, List.map_nil, this]
     rw [List.filter_cons_of_pos (by simp; omega)]; rfl
    have hp := next_part (need := need) hL (by simp) hb (by rw [one_look, if_pos rfl]; omega)
    have hks := next_small (need := need) hL hb a1 hp
    rw [one_look, if_pos rfl] at hks
    have hks2 : (nextK need a [(a, m)]).1 = [(a, 1 + upD (need - a) a)] := by
     rw [hks]; unfold dput; rw [if_pos (by simp)]; simp
    have hu := upD_pos (m := need - a) (s := a) (by omega) a1
    have hlt := upD_lt (m := need - a) a1 (j := upD (need - a) a - 1) (by omega)
    rw [hks2] at ht ⊢
    generalize upD (need - a) a = u at *
    obtain ⟨q, hq, c, hc, e⟩ := times_mem ht
    rw [List.mem_singleton.mp hq] at hc e
    rw [dlook_cons, if_pos rfl] at hc
    cases hc
    have e : m / (1 + u) = t := e
    have d1 := Int.mul_ediv_add_emod m (1 + u)
    have d2 := Int.emod_lt_of_pos m (show 0 < 1 + u by omega)
    have d3 := Int.emod_nonneg m (show 1 + u ≠ 0 by omega)
    rw [e] at d1
    have hl2 : tot (lessBy [(a, m)] (tms [(a, 1 + u)] t)) ≤ a * (m % (1 + u)) := by
     unfold lessBy
     have el : dlook (tms [(a, 1 + u)] t) a = some ((1 + u) * t) := by rw [tms_look, dlook_cons, if_pos rfl]; rfl
     simp only [List.map_cons, List.map_nil, el]
     rw [List.filter_cons]
     split
     · unfold tot; simp
       have : m - (1 + u) * t = m % (1 + u) := by omega
       rw [this]; exact Int.le_refl _
     · unfold tot; simp
       exact Int.mul_nonneg (by omega) d3
    have h3 : a * (m % (1 + u)) ≤ a * u := Int.mul_le_mul_of_nonneg_left (by omega) (by omega)
    rw [Int.mul_sub] at hlt
    omega
  · refine .inr fun t' ht' => ?_
    have hal : a < g := by omega
    have hga := one_look g a
    rw [if_neg (fun z => zag z.symm)] at hga
    have hL : ∃ L', lessBy ((a, m) :: rest) [(g, 1)] = (a, m) :: L' ∧ a ∉ L'.map (·.1) := by
     refine ⟨lessBy rest [(g, 1)], ?_, fun z => ?_⟩
     · unfold lessBy
       rw [List.map_cons, List.filter_cons]
       have : (a, m).2 - (dlook [(g, 1)] (a, m).1).getD 0 = m := by show m - (dlook [(g, 1)] a).getD 0 = m; rw [hga]; omega
       rw [this, if_pos (decide_eq_true (by show 0 < m; omega))]
     · obtain ⟨q, hq, e⟩ := List.mem_map.mp z
       obtain ⟨mm, hmm, _, _⟩ := less_mem hq
       have := hr1 _ hmm
       have : a < q.1 := this
       omega
    obtain ⟨L', hL1, hL2⟩ := hL
    have hp := next_part (need := need) hL1 hL2 hb (by rw [hga]; omega)
    have hks := next_small (need := need) hL1 hb a1 hp
    rw [hga] at hks
    have hks2 : (nextK need g ((a, m) :: rest)).1 = [(g, 1), (a, upD (need - g) a)] := by
     rw [hks, Int.zero_add]; unfold dput; rw [if_neg (by simp; omega)]; rfl
    have hu := upD_pos (m := need - g) (s := a) (by omega) a1
    -- which of the two ends it
    have hkg : dlook (nextK need g ((a, m) :: rest)).1 g = some 1 := by rw [hks2, dlook_cons, if_pos rfl]
    have hka : dlook (nextK need g ((a, m) :: rest)).1 a = some (upD (need - g) a) := by rw [hks2, dlook_cons, if_neg (fun z => zag z.symm), dlook_cons, if_pos rfl]
    have htm : m / upD (need - g) a = t := by
     obtain ⟨q, hq, c, hc, e⟩ := times_mem ht
     have hqa := hall q hq
     rw [hks2] at hc
     rw [dlook_cons] at hc
     by_cases z : g = q.1
     · rw [if_pos z] at hc
       cases hc
       rw [← z, hkg] at hqa
       have hqa : 1 * t < q.2 := hqa
       rw [Int.ediv_one] at e
       omega
     · rw [if_neg z, dlook_cons] at hc
       by_cases z2 : a = q.1
       · rw [if_pos z2] at hc
         cases hc
         have : q.2 = m := by
          have x1 := (dlook_mem hrn q).mp hq
          rw [← z2, dlook_cons, if_pos rfl] at x1
          exact (Option.some.inj x1).symm
         rw [← this]; exact e
       · rw [if_neg z2] at hc; cases hc
    have d1 := Int.mul_ediv_add_emod m (upD (need - g) a)
    have d2 := Int.emod_lt_of_pos m (show 0 < upD (need - g) a by omega)
    rw [htm] at d1
    have hlt : ∀ q ∈ (a, m) :: rest, (dlook (tms (nextK need g ((a, m) :: rest)).1 t) q.1).getD 0 < q.2 := fun q hq => by
     have := hall q hq
     rw [tms_look]
     cases e : dlook (nextK need g ((a, m) :: rest)).1 q.1 with
     | none => rw [e] at this; have this : 0 * t < q.2 := this; show 0 < q.2; omega
     | some c => rw [e] at this; exact this
    have hq' := less_all hlt
    have htop : topS (lessBy ((a, m) :: rest) (tms (nextK need g ((a, m) :: rest)).1 t)) = g := by
     rw [hq', top_map (fun q => (q.1, q.2 - (dlook (tms (nextK need g ((a, m) :: rest)).1 t) q.1).getD 0)) (fun _ => rfl)]; exact hg
    have hea : (dlook (tms (nextK need g ((a, m) :: rest)).1 t) a).getD 0 = upD (need - g) a * t := by rw [tms_look, hka]; rfl
    have hrr : m - upD (need - g) a * t < upD (need - g) a := by omega
    have hr0 : 0 < m - upD (need - g) a * t := by have := hlt _ (.head _); rw [hea] at this; have this : _ < m := this; omega
    rw [htop]
    have hh : ∃ R, lessBy ((a, m) :: rest) (tms (nextK need g ((a, m) :: rest)).1 t) = (a, m - upD (need - g) a * t) :: R ∧ ∀ q ∈ R, a < q.1 := by
     refine ⟨rest.map fun q => (q.1, q.2 - (dlook (tms (nextK need g ((a, m) :: rest)).1 t) q.1).getD 0), ?_, fun q hq => ?_⟩
     · rw [hq', List.map_cons]
       show (a, m - (dlook (tms (nextK need g ((a, m) :: rest)).1 t) a).getD 0) :: _ = _
       rw [hea]
     · obtain ⟨q0, h0, rfl⟩ := List.mem_map.mp hq
       exact hr1 q0 h0
    obtain ⟨R, hR, hRa⟩ := hh
    generalize lessBy ((a, m) :: rest) (tms (nextK need g ((a, m) :: rest)).1 t) = qs1 at *
    generalize m - upD (need - g) a * t = r at *
    subst hR
    refine less_short (q := (a, r)) (.head _) ?_
    show r ≤ (dlook (tms (nextK need g ((a, r) :: R)).1 t') a).getD 0
    have hL3 : lessBy ((a, r) :: R) [(g, 1)] = (a, r) :: lessBy R [(g, 1)] := by
     unfold lessBy
     rw [List.map_cons, List.filter_cons]
     have : (a, r).2 - (dlook [(g, 1)] (a, r).1).getD 0 = r := by show r - (dlook [(g, 1)] a).getD 0 = r; rw [hga]; omega
     rw [this, if_pos (decide_eq_true (by show 0 < r; omega))]
    have hge' : ¬ (dlook (nextK need g ((a, r) :: R)).1 a).getD 0 < r := fun z => by
     have := next_part (need := need) hL3 (fun z2 => by
      obtain ⟨q, hq, e⟩ := List.mem_map.mp z2
      obtain ⟨mm, hmm, _, _⟩ := less_mem hq
      have := hRa _ hmm
      have : a < q.1 := this
      omega) hb (by rw [hga]; omega)
     omega
    rw [tms_look]
    cases e : dlook (nextK need g ((a, r) :: R)).1 a with
    | none => rw [e] at hge'; exact absurd hr0 hge'
    | some c =>
     rw [e] at hge'
     have hge' : ¬ c < r := hge'
     show r ≤ c * t'
     have := Int.mul_le_mul_of_nonneg_left ht' (show 0 ≤ c by omega)
     omega
theorem ahead_len {need : Int} : ∀ (n : Nat) {qs : List (Int × Int)} {ms : List (List Int × Int)}, ms.length ≤ n → Ahead need qs ms → HOk8 need qs → ms.length ≤ 2 * qs.length
 | 0, qs, ms, hn, _, _ => by omega
 | n + 1, qs, ms, hn, hA, ok => by
  by_cases hge : need ≤ tot qs
  · obtain ⟨rs, t, ms1, e1, b1, b2, b3, b4, hA1⟩ := ahead_step hA hge
    subst e1
    have hne : qs ≠ [] := fun z => by
     rw [z] at hge; have := ok.n0; exact absurd hge (by show ¬ need ≤ 0; omega)
    obtain ⟨k1, k2, _, _⟩ := next_ok ok hne
    obtain ⟨t1, _, _⟩ := times_ok ok k1 k2 b3 b4
    have ok1 : HOk8 need (lessBy qs (tms (nextK need (topS qs) qs).1 t)) := less_ok ok fun x hx => by
     obtain ⟨c, hc, rfl⟩ := List.mem_map.mp hx
     have := (k2 c hc).1
     exact Int.mul_nonneg (by omega) (by omega)
    have hl0 : 0 < qs.length := List.length_pos_iff.mpr hne
    rw [List.length_cons] at hn ⊢
    have hll := less_le_len qs (tms (nextK need (topS qs) qs).1 t)
    rcases step_len ok hge b3 b4 with h | h | h
    · have := ahead_len n (by omega) hA1 ok1
      omega
    · have := ahead_end hA1 h
      subst this
      show 0 + 1 ≤ _
      omega
    · by_cases hge2 : need ≤ tot (lessBy qs (tms (nextK need (topS qs) qs).1 t))
      · obtain ⟨rs2, t2, ms2, e2, c1, c2, c3, c4, hA2⟩ := ahead_step hA1 hge2
        subst e2
        have hne2 : lessBy qs (tms (nextK need (topS qs) qs).1 t) ≠ [] := fun z => by
         rw [z] at hge2; have := ok.n0; exact absurd hge2 (by show ¬ need ≤ 0; omega)
        obtain ⟨l1, l2, _, _⟩ := next_ok ok1 hne2
        obtain ⟨u1, _, _⟩ := times_ok ok1 l1 l2 c3 c4
        have h2 := h t2 u1
        have := ahead_len n (by rw [List.length_cons] at hn; omega) hA2 (less_ok ok1 fun x hx => by
         obtain ⟨c, hc, rfl⟩ := List.mem_map.mp hx
         have := (l2 c hc).1
         exact Int.mul_nonneg (by omega) (by omega))
        rw [List.length_cons]
        omega
      · have := ahead_end hA1 (by omega)
        subst this
        show 0 + 1 ≤ _
        omega
  · have := ahead_end hA (by omega)
    subst this
    show 0 ≤ _
    omega
theorem min_ex : ∀ {l : List Int}, l ≠ [] → ∃ t ∈ l, ∀ x ∈ l, t ≤ x
 | [], h => absurd rfl h
 | [a], _ => ⟨a, .head _, fun x hx => by rw [List.mem_singleton.mp hx]; exact Int.le_refl _⟩
 | a :: b :: l, _ => by
  obtain ⟨t, ht, hm⟩ := min_ex (l := b :: l) (by simp)
  by_cases c : a ≤ t
  · refine ⟨a, .head _, fun x hx => ?_⟩
    rcases List.mem_cons.mp hx with rfl | hx
    · exact Int.le_refl _
    · have := hm x hx; omega
  · refine ⟨t, .tail _ ht, fun x hx => ?_⟩
    rcases List.mem_cons.mp hx with rfl | hx
    · omega
    · exact hm x hx
theorem ris_ex {ks : List (Int × Int)} (nd : (ks.map (·.1)).Nodup) : ∃ rs, Ris rs ∧ rs.Perm ks := by
 refine ⟨ks.mergeSort fun a b => decide (a.1 ≤ b.1), ?_, List.mergeSort_perm _ _⟩
 have h1 := List.pairwise_mergeSort (le := fun a b : Int × Int => decide (a.1 ≤ b.1)) (fun a b c x y => decide_eq_true (by have := of_decide_eq_true x; have := of_decide_eq_true y; omega)) (fun a b => by simp; omega) ks
 have h2 : ((ks.mergeSort fun a b => decide (a.1 ≤ b.1)).map (·.1)).Nodup := (((List.mergeSort_perm ks _).map (·.1)).nodup_iff).mpr nd
 unfold List.Nodup at h2
 rw [List.pairwise_map] at h2
 exact (h1.and h2).imp fun ⟨x, y⟩ => by have := of_decide_eq_true x; omega
theorem ahead_total {need : Int} : ∀ (n : Nat) {qs : List (Int × Int)}, HOk8 need qs → cnt qs ≤ n → ∃ ms, Ahead need qs ms
 | n, qs, ok, hn => by
  by_cases hge : need ≤ tot qs
  · have hne : qs ≠ [] := fun z => by
     rw [z] at hge; have := ok.n0; exact absurd hge (by show ¬ need ≤ 0; omega)
    obtain ⟨k1, k2, k3, _⟩ := next_ok ok hne
    have kne : (nextK need (topS qs) qs).1 ≠ [] := fun z => by rw [z] at k3; cases k3
    obtain ⟨t, ht, hle⟩ := min_ex (times_ne ok k2 kne)
    obtain ⟨rs, hr, hp⟩ := ris_ex k1
    obtain ⟨t1, _, t3⟩ := times_ok ok k1 k2 ht hle
    have tk : ∀ q ∈ tms (nextK need (topS qs) qs).1 t, 1 ≤ q.2 ∧ q.2 ≤ (dlook qs q.1).getD 0 := fun q hq => by
     obtain ⟨c, hc', rfl⟩ := List.mem_map.mp hq
     have a1 := (k2 c hc').1
     refine ⟨?_, t3 c hc'⟩
     show 1 ≤ c.2 * t
     have := Int.mul_le_mul a1 t1 (by omega) (by omega : (0:Int) ≤ c.2)
     omega
    have tne : tms (nextK need (topS qs) qs).1 t ≠ [] := fun z => kne (by unfold tms at z; exact List.map_eq_nil_iff.mp z)
    have hfw := less_fewer ok tk tne
    have ok1 := less_ok (ks := tms (nextK need (topS qs) qs).1 t) ok fun q hq => by have := (tk q hq).1; omega
    have c0 : 0 ≤ cnt (lessBy qs (tms (nextK need (topS qs) qs).1 t)) := sum_nn _ fun x hx => by
     obtain ⟨q, hq, rfl⟩ := List.mem_map.mp hx
     have := (ok1.bd q hq).2.2.1; omega
    match n, hn with
    | 0, hn => exact absurd hn (by show ¬ cnt qs ≤ 0; omega)
    | n + 1, hn =>
     obtain ⟨ms, h⟩ := ahead_total n ok1 (by have : ((n + 1 : Nat) : Int) = (n : Int) + 1 := rfl; omega)
     exact ⟨_, .step hge hr (fun q => hp.mem_iff) ht hle h⟩
  · exact ⟨[], .done (by omega)⟩
theorem fold_miss : ∀ (L : List (Int × Int)) (st : List (Int × Int) × Int), (∀ q ∈ L, 1 ≤ q.1 ∧ 1 ≤ q.2) → (L.foldl nextStep st).2 ≤ 0 ∨ (L.foldl nextStep st).2 = st.2 - tot L
 | [], st, _ => .inr (by show st.2 = st.2 - 0; omega)
 | q :: L, st, h => by
  obtain ⟨q1, q2⟩ := h q (.head _)
  rw [List.foldl_cons]
  by_cases hm : 0 < st.2
  · have hst : (nextStep st q).2 = st.2 - q.1 * min q.2 (upD st.2 q.1) := by unfold nextStep; rw [if_pos hm]
    rcases fold_miss L (nextStep st q) fun x hx => h x (.tail _ hx) with z | z
    · exact .inl z
    · by_cases c : upD st.2 q.1 ≤ q.2
      · refine .inl ?_
        rw [fold_id _ _ (by rw [hst, Int.min_eq_right c]; have := upD_mul (m := st.2) q1; omega), hst, Int.min_eq_right c]
        have := upD_mul (m := st.2) q1; omega
      · refine .inr ?_
        rw [z, hst, Int.min_eq_left (by omega)]
        unfold tot
        rw [List.map_cons, List.sum_cons]; omega
  · rw [show nextStep st q = st by unfold nextStep; rw [if_neg hm], fold_id _ _ hm]
    exact .inl (by omega)
def wq (G : Int → Int) (ks : List (Int × Int)) : Int := (ks.map fun q => G q.1 * q.2).sum
theorem wq_put (G : Int → Int) : ∀ {ks : List (Int × Int)} (n v : Int), (ks.map (·.1)).Nodup → wq G (dput ks n ((dlook ks n).getD 0 + v)) = wq G ks + G n * v
 | ks, n, v, nd => by
  by_cases h : n ∈ ks.map (·.1)
  · induction ks with
    | nil => cases h
    | cons q ks ih =>
     rw [List.map_cons, List.nodup_cons] at nd
     unfold dput
     rw [if_pos h]
     by_cases z : q.1 = n
     · have hnk : n ∉ ks.map (·.1) := z ▸ nd.1
       have e : ks.map (fun r => if r.1 = n then (r.1, (dlook (q :: ks) n).getD 0 + v) else r) = ks := by
        conv => rhs; rw [← List.map_id ks]
        refine List.map_congr_left fun r hr => ?_
        rw [if_neg fun z2 => hnk (by rw [← z2]; exact List.mem_map_of_mem hr)]; rfl
       rw [List.map_cons, if_pos z, e, dlook_cons, if_pos z]
       unfold wq
       rw [List.map_cons, List.sum_cons, List.map_cons, List.sum_cons]
       show G q.1 * (q.2 + v) + _ = _
       rw [Int.mul_add, z]; omega
     · have h' : n ∈ ks.map (·.1) := (List.mem_cons.mp h).resolve_left fun w => z w.symm
       have := ih nd.2 h'
       unfold dput at this
       rw [if_pos h'] at this
       rw [List.map_cons, if_neg z, dlook_cons, if_neg z]
       unfold wq at this ⊢
       rw [List.map_cons, List.sum_cons, this, List.map_cons, List.sum_cons]; omega
  · rw [dlook_none h]
    unfold dput
    rw [if_neg h]
    unfold wq
    rw [List.map_append, List.sum_append]
    simp
theorem perm_of {rs ks : List (Int × Int)} (hr : (rs.map (·.1)).Nodup) (hk : (ks.map (·.1)).Nodup) (h : ∀ q, q ∈ rs ↔ q ∈ ks) : rs.Perm ks := by
 have nd : ∀ {l : List (Int × Int)}, (l.map (·.1)).Nodup → l.Nodup := fun {l} hl => by
  induction l with
  | nil => exact List.nodup_nil
  | cons a l ih =>
   rw [List.map_cons, List.nodup_cons] at hl
   exact List.nodup_cons.mpr ⟨fun z => hl.1 (List.mem_map_of_mem z), ih hl.2⟩
 exact (List.perm_ext_iff_of_nodup (nd hr) (nd hk)).mpr h
theorem mem_get {ks : List (Int × Int)} (nd : (ks.map (·.1)).Nodup) (hp : ∀ q ∈ ks, 1 ≤ q.2) (q : Int × Int) : q ∈ ks ↔ 1 ≤ q.2 ∧ (dlook ks q.1).getD 0 = q.2 := by
 rw [dlook_mem nd q]
 constructor
 · intro h; exact ⟨hp _ (dlook_some h), by rw [h]; rfl⟩
 · rintro ⟨h1, h2⟩
   cases e : dlook ks q.1 with
   | none => rw [e] at h2; have h2 : (0 : Int) = q.2 := h2; omega
   | some c => rw [e] at h2; exact congrArg some h2
theorem wq_more {a b : List (Int × Int)} {s : Int} (na : (a.map (·.1)).Nodup) (nb : (b.map (·.1)).Nodup) (pa : ∀ q ∈ a, 1 ≤ q.2) (pb : ∀ q ∈ b, 1 ≤ q.2) (h : ∀ n, (dlook b n).getD 0 = (dlook a n).getD 0 + if s = n then 1 else 0) (G : Int → Int) : wq G b = wq G a + G s := by
 have hd : ∀ q ∈ dput a s ((dlook a s).getD 0 + 1), 1 ≤ q.2 := fun q hq => by
  rcases dput_mem hq with z | rfl
  · exact pa q z
  · have := dl0 (ks := a) (fun x hx => by have := pa x hx; omega) s
    show 1 ≤ (dlook a s).getD 0 + 1
    omega
 have hp : b.Perm (dput a s ((dlook a s).getD 0 + 1)) := perm_of nb (dput_nodup _ _ na) fun q => by
  rw [mem_get nb pb, mem_get (dput_nodup _ _ na) hd, h q.1, dput_look]
  by_cases z : s = q.1
  · rw [if_pos z, if_pos z, ← z]; rfl
  · rw [if_neg z, if_neg z, Int.add_zero]
 have e1 : wq G b = wq G (dput a s ((dlook a s).getD 0 + 1)) := perm_sum (hp.map fun q => G q.1 * q.2)
 rw [e1, wq_put G s 1 na, Int.mul_one]
theorem fold_tot (qs : List (Int × Int)) : ∀ (L : List (Int × Int)) (st : List (Int × Int) × Int), (st.1.map (·.1)).Nodup → tot (L.foldl nextStep st).1 + (L.foldl nextStep st).2 = tot st.1 + st.2
 | [], _, _ => rfl
 | q :: L, st, nd => by
  rw [List.foldl_cons]
  by_cases hm : 0 < st.2
  · have hst : nextStep st q = (dput st.1 q.1 ((dlook st.1 q.1).getD 0 + min q.2 (upD st.2 q.1)), st.2 - q.1 * min q.2 (upD st.2 q.1)) := by unfold nextStep; rw [if_pos hm]
    rw [hst, fold_tot qs L _ (dput_nodup _ _ nd)]
    show tot (dput st.1 q.1 _) + (st.2 - _) = _
    rw [show ∀ l, tot l = wq (fun n => n) l from fun _ => rfl, wq_put _ _ _ nd]; show _ + q.1 * _ + _ = wq (fun n => n) st.1 + _; omega
  · rw [show nextStep st q = st by unfold nextStep; rw [if_neg hm]]
    exact fold_tot qs L st nd
theorem tot_less {need : Int} {qs : List (Int × Int)} (ok : HOk8 need qs) (hne : qs ≠ []) : tot (lessBy qs [(topS qs, 1)]) + topS qs = tot qs := by
 have h1 := one_ok ok
 exact (wq_more h1.ris.nodup ok.ris.nodup (fun q hq => (h1.bd q hq).2.2.1) (fun q hq => (ok.bd q hq).2.2.1) (fun n => by
  rw [less_eq ok.ris (fun q hq => by rw [List.mem_singleton.mp hq]; show (0 : Int) ≤ 1; decide) n (one_le ok hne n), one_look]; omega) fun n => n).symm
theorem next_full {need : Int} {qs : List (Int × Int)} (ok : HOk8 need qs) (hge : need ≤ tot qs) : need ≤ tot (nextK need (topS qs) qs).1 := by
 have hne : qs ≠ [] := fun z => by
  rw [z] at hge; have := ok.n0; exact absurd hge (by show ¬ need ≤ 0; omega)
 have h1 := fold_tot qs (lessBy qs [(topS qs, 1)]) ([(topS qs, 1)], need - topS qs) (by simp)
 have h2 := fold_miss (lessBy qs [(topS qs, 1)]) ([(topS qs, 1)], need - topS qs) fun q hq => by have := (one_ok ok).bd q hq; exact ⟨this.1, this.2.2.1⟩
 have h3 := tot_less ok hne
 have h4 : tot [(topS qs, (1 : Int))] = topS qs := by unfold tot; simp
 unfold nextK
 have h1 : tot ((lessBy qs [(topS qs, 1)]).foldl nextStep ([(topS qs, 1)], need - topS qs)).1 + ((lessBy qs [(topS qs, 1)]).foldl nextStep ([(topS qs, 1)], need - topS qs)).2 = tot [(topS qs, 1)] + (need - topS qs) := h1
 rcases h2 with z | z
 · omega
 · have z : _ = need - topS qs - tot (lessBy qs [(topS qs, 1)]) := z
   omega
theorem tot_perm {a b : List (Int × Int)} (h : a.Perm b) : tot a = tot b := perm_sum (h.map fun q => q.1 * q.2)
theorem ahead_lots {need : Int} {qs : List (Int × Int)} {ms : List (List Int × Int)} (h : Ahead need qs ms) : HOk8 need qs → ∀ q ∈ ms, q.1 ≠ [] ∧ need ≤ q.1.sum ∧ q.1.Pairwise (· ≤ ·) ∧ (∀ z ∈ q.1, 1 ≤ z ∧ z ≤ 10 ^ 12) ∧ 1 ≤ q.2 := by
 induction h with
 | done _ => exact fun _ q hq => (nomatch hq)
 | @step qs rs t ms h1 h2 h3 h4 h5 h6 ih =>
  intro ok q hq
  have hne : qs ≠ [] := fun z => by
   rw [z] at h1; have := ok.n0; exact absurd h1 (by show ¬ need ≤ 0; omega)
  obtain ⟨k1, k2, k3, _⟩ := next_ok ok hne
  obtain ⟨t1, _, _⟩ := times_ok ok k1 k2 h4 h5
  rcases List.mem_cons.mp hq with rfl | hq
  · have hs : (thingsL rs).sum = tot (nextK need (topS qs) qs).1 := by
     rw [things_sum fun x hx => by have := (k2 x ((h3 x).mp hx)).1; omega]
     exact tot_perm (perm_of h2.nodup k1 h3)
    have hf := next_full ok h1
    refine ⟨fun z => ?_, by show need ≤ (thingsL rs).sum; omega, things_sorted h2, fun z hz => ?_, t1⟩
    · have z : thingsL rs = [] := z
      rw [z] at hs
      have := ok.n0
      exact absurd hs (by simp; omega)
    · obtain ⟨x, hx, rfl⟩ := things_mem hz
      have a2 := (k2 x ((h3 x).mp hx))
      cases e : dlook qs x.1 with
      | none => rw [e] at a2; have : x.2 ≤ 0 := a2.2; omega
      | some c => have := ok.bd _ (dlook_some e); exact ⟨this.1, this.2.1⟩
  · refine ih (less_ok ok fun x hx => ?_) q hq
    obtain ⟨c, hc, rfl⟩ := List.mem_map.mp hx
    have := (k2 c hc).1
    exact Int.mul_nonneg (by omega) (by omega)
theorem ahead_left {need : Int} {qs : List (Int × Int)} {ms : List (List Int × Int)} (h : Ahead need qs ms) : HOk8 need qs → tot (lessF qs ms) < need ∧ ∀ n, cntF ms n ≤ (dlook qs n).getD 0 := by
 induction h with
 | @done qs h =>
  intro ok
  rw [lessF_nil fun q hq => (ok.bd q hq).2.2.1]
  exact ⟨h, fun n => by rw [cntF_nil]; exact dl0 (fun x hx => by have := (ok.bd x hx).2.2.1; omega) n⟩
 | @step qs rs t ms h1 h2 h3 h4 h5 h6 ih =>
  intro ok
  have hne : qs ≠ [] := fun z => by
   rw [z] at h1; have := ok.n0; exact absurd h1 (by show ¬ need ≤ 0; omega)
  obtain ⟨k1, k2, _, _⟩ := next_ok ok hne
  obtain ⟨t1, _, t3⟩ := times_ok ok k1 k2 h4 h5
  have ht0 : ∀ x ∈ tms (nextK need (topS qs) qs).1 t, 0 ≤ x.2 := fun x hx => by
   obtain ⟨c, hc, rfl⟩ := List.mem_map.mp hx
   have := (k2 c hc).1
   exact Int.mul_nonneg (by omega) (by omega)
  have ok1 := less_ok ok ht0
  obtain ⟨i1, i2⟩ := ih ok1
  have hc : ∀ n, cntF [(thingsL rs, t)] n = (dlook (tms (nextK need (topS qs) qs).1 t) n).getD 0 := fun n => by
   rw [cntF_one]
   show t * (((thingsL rs).count n : Nat) : Int) = _
   rw [things_count n h2.nodup (fun y hy => by have := (k2 y ((h3 y).mp hy)).1; omega), look_same h2.nodup k1 h3 n, tms_look]
   cases dlook (nextK need (topS qs) qs).1 n with
   | none => show t * 0 = 0; omega
   | some c => show t * c = c * t; exact Int.mul_comm _ _
  have hms : ∀ f ∈ ms, 0 ≤ f.2 := fun f hf => by have := ahead_ms h6 ok1 f hf; omega
  have e1 : lessBy qs (tms (nextK need (topS qs) qs).1 t) = lessF qs [(thingsL rs, t)] := by
   unfold lessBy lessF
   congr 1
   exact List.map_congr_left fun q _ => by rw [hc]
  refine ⟨?_, fun n => ?_⟩
  · rw [e1, lessF_two hms] at i1
    exact i1
  · have i := i2 n
    rw [show (thingsL rs, t) :: ms = [(thingsL rs, t)] ++ ms from rfl, cntF_append, hc]
    have hk : (dlook (tms (nextK need (topS qs) qs).1 t) n).getD 0 ≤ (dlook qs n).getD 0 := by
     rw [tms_look]
     cases e : dlook (nextK need (topS qs) qs).1 n with
     | none => exact dl0 (fun x hx => by have := (ok.bd x hx).2.2.1; omega) n
     | some c => exact t3 _ (dlook_some e)
    rw [less_eq ok.ris ht0 n hk] at i
    omega
section
variable {t : Int}
def sc (t : Int) (qs : List (Int × Int)) : List (Int × Int) := qs.map fun q => (q.1 * t, q.2)
def scL (t : Int) (ms : List (List Int × Int)) : List (List Int × Int) := ms.map fun g => (g.1.map (· * t), g.2)
theorem mul_inj (ht : 1 ≤ t) {a b : Int} : a * t = b * t ↔ a = b := ⟨fun h => Int.eq_of_mul_eq_mul_right (by omega) h, fun h => by rw [h]⟩
theorem mul_lt (ht : 1 ≤ t) {a b : Int} : a * t < b * t ↔ a < b := ⟨fun h => Int.lt_of_mul_lt_mul_right h (by omega), fun h => Int.mul_lt_mul_of_pos_right h (by omega)⟩
theorem sc_look (ht : 1 ≤ t) : ∀ (ks : List (Int × Int)) (n : Int), dlook (sc t ks) (n * t) = dlook ks n
 | [], _ => rfl
 | q :: ks, n => by
  show dlook ((q.1 * t, q.2) :: sc t ks) (n * t) = _
  rw [dlook_cons, dlook_cons, sc_look ht ks n]
  by_cases z : q.1 = n
  · rw [if_pos z, if_pos (by show q.1 * t = n * t; rw [z])]
  · rw [if_neg z, if_neg (fun w => z ((mul_inj ht).mp w))]
theorem sc_key (ht : 1 ≤ t) (ks : List (Int × Int)) (n : Int) : n * t ∈ (sc t ks).map (·.1) ↔ n ∈ ks.map (·.1) := by
 unfold sc
 rw [List.map_map]
 constructor
 · intro h
   obtain ⟨q, hq, e⟩ := List.mem_map.mp h
   exact List.mem_map.mpr ⟨q, hq, (mul_inj ht).mp e⟩
 · intro h
   obtain ⟨q, hq, e⟩ := List.mem_map.mp h
   exact List.mem_map.mpr ⟨q, hq, by show q.1 * t = _; rw [e]⟩
theorem sc_put (ht : 1 ≤ t) (ks : List (Int × Int)) (n v : Int) : dput (sc t ks) (n * t) v = sc t (dput ks n v) := by
 unfold dput
 by_cases h : n ∈ ks.map (·.1)
 · rw [if_pos h, if_pos ((sc_key ht ks n).mpr h)]
   unfold sc
   rw [List.map_map, List.map_map]
   refine List.map_congr_left fun q _ => ?_
   show (if q.1 * t = n * t then (q.1 * t, v) else (q.1 * t, q.2)) = _
   by_cases z : q.1 = n
   · rw [if_pos (by rw [z])]
     show _ = ((if q.1 = n then (q.1, v) else q).1 * t, (if q.1 = n then (q.1, v) else q).2)
     rw [if_pos z]
   · rw [if_neg (fun w => z ((mul_inj ht).mp w))]
     show _ = ((if q.1 = n then (q.1, v) else q).1 * t, (if q.1 = n then (q.1, v) else q).2)
     rw [if_neg z]
 · rw [if_neg h, if_neg (fun w => h ((sc_key ht ks n).mp w))]
   unfold sc
   rw [List.map_append]; rfl
theorem sc_less (ht : 1 ≤ t) (qs ks : List (Int × Int)) : lessBy (sc t qs) (sc t ks) = sc t (lessBy qs ks) := by
 induction qs with
 | nil => rfl
 | cons q qs ih =>
  have hl := sc_look ht ks q.1
  unfold lessBy at ih ⊢
  unfold sc at ih hl ⊢
  rw [List.map_cons, List.map_cons, List.map_cons, List.filter_cons, List.filter_cons]
  show (if decide (0 < q.2 - (dlook (ks.map fun q => (q.1 * t, q.2)) (q.1 * t)).getD 0) = true then _ else _) = _
  rw [hl]
  split
  · rw [List.map_cons, ← ih]
  · exact ih
theorem sc_tms (ks : List (Int × Int)) (x : Int) : tms (sc t ks) x = sc t (tms ks x) := by
 unfold tms sc; rw [List.map_map, List.map_map]; rfl
theorem sc_top (qs : List (Int × Int)) : topS (sc t qs) = topS qs * t := by
 unfold topS sc
 rw [List.getLast?_map]
 cases qs.getLast? with
 | none => show 0 = 0 * t; omega
 | some q => rfl
theorem sc_tot : ∀ (qs : List (Int × Int)), tot (sc t qs) = tot qs * t
 | [] => by show 0 = 0 * t; omega
 | q :: qs => by
  have ih := sc_tot qs
  unfold tot sc at *
  rw [List.map_cons, List.map_cons, List.sum_cons, List.map_cons, List.sum_cons, ih, Int.add_mul]
  show q.1 * t * q.2 + _ = q.1 * q.2 * t + _
  rw [Int.mul_right_comm]
theorem sc_up (ht : 1 ≤ t) (m s : Int) : upD (m * t) (s * t) = upD m s := by
 unfold upD
 rw [← Int.neg_mul, Int.mul_ediv_mul_of_pos_left _ _ (by omega)]
theorem sc_step (ht : 1 ≤ t) (st : List (Int × Int) × Int) (q : Int × Int) : nextStep (sc t st.1, st.2 * t) (q.1 * t, q.2) = (sc t (nextStep st q).1, (nextStep st q).2 * t) := by
 unfold nextStep
 have h0 : 0 < st.2 * t ↔ 0 < st.2 := by have := mul_lt ht (a := 0) (b := st.2); rw [Int.zero_mul] at this; exact this
 by_cases c : 0 < st.2
 · rw [if_pos c, if_pos (by show 0 < st.2 * t; exact h0.mpr c)]
   show (dput (sc t st.1) (q.1 * t) ((dlook (sc t st.1) (q.1 * t)).getD 0 + min q.2 (upD (st.2 * t) (q.1 * t))), st.2 * t - q.1 * t * min q.2 (upD (st.2 * t) (q.1 * t))) = _
   rw [sc_up ht, sc_look ht, sc_put ht]
   show (_, _) = (_, (st.2 - q.1 * min q.2 (upD st.2 q.1)) * t)
   rw [Int.sub_mul, Int.mul_right_comm q.1 t]
 · rw [if_neg c, if_neg (by show ¬ 0 < st.2 * t; exact fun w => c (h0.mp w))]
theorem sc_fold (ht : 1 ≤ t) : ∀ (L : List (Int × Int)) (st : List (Int × Int) × Int), (sc t L).foldl nextStep (sc t st.1, st.2 * t) = (sc t (L.foldl nextStep st).1, (L.foldl nextStep st).2 * t)
 | [], _ => rfl
 | q :: L, st => by
  show ((q.1 * t, q.2) :: sc t L).foldl nextStep _ = _
  rw [List.foldl_cons, List.foldl_cons, sc_step ht, sc_fold ht L]
theorem sc_next (ht : 1 ≤ t) (need g : Int) (qs : List (Int × Int)) : (nextK (need * t) (g * t) (sc t qs)).1 = sc t (nextK need g qs).1 := by
 unfold nextK
 have e : lessBy (sc t qs) [(g * t, 1)] = sc t (lessBy qs [(g, 1)]) := sc_less ht qs [(g, 1)]
 have e2 : need * t - g * t = (need - g) * t := (Int.sub_mul _ _ _).symm
 rw [e, e2]
 have := sc_fold ht (lessBy qs [(g, 1)]) ([(g, 1)], need - g)
 exact congrArg (·.1) this
theorem sc_times (ht : 1 ≤ t) (qs ks : List (Int × Int)) : timesNs (sc t qs) (sc t ks) = timesNs qs ks := by
 unfold timesNs
 conv => lhs; unfold sc
 rw [List.filterMap_map]
 congr 1
 funext q
 show (dlook (ks.map fun q => (q.1 * t, q.2)) (q.1 * t)).map (q.2 / ·) = _
 have := sc_look ht ks q.1
 unfold sc at this
 rw [this]
theorem sc_things (rs : List (Int × Int)) : thingsL (sc t rs) = (thingsL rs).map (· * t) := by
 unfold thingsL sc
 rw [List.flatMap_map, List.map_flatMap]
 congr 1
 funext q
 rw [List.map_replicate]
theorem sc_ris (ht : 1 ≤ t) {rs : List (Int × Int)} (h : Ris rs) : Ris (sc t rs) := by
 unfold Ris sc at *
 rw [List.pairwise_map]
 exact h.imp fun z => (mul_lt ht).mpr z
theorem sc_mem (ht : 1 ≤ t) {rs ks : List (Int × Int)} (h : ∀ q, q ∈ rs ↔ q ∈ ks) (q : Int × Int) : q ∈ sc t rs ↔ q ∈ sc t ks := by
 unfold sc
 constructor
 · intro w
   obtain ⟨x, hx, e⟩ := List.mem_map.mp w
   exact List.mem_map.mpr ⟨x, (h x).mp hx, e⟩
 · intro w
   obtain ⟨x, hx, e⟩ := List.mem_map.mp w
   exact List.mem_map.mpr ⟨x, (h x).mpr hx, e⟩
theorem ahead_sc (ht : 1 ≤ t) {need : Int} {qs : List (Int × Int)} {ms : List (List Int × Int)} (h : Ahead need qs ms) : Ahead (need * t) (sc t qs) (scL t ms) := by
 induction h with
 | done h => exact .done (by rw [sc_tot]; exact (mul_lt ht).mpr h)
 | @step qs rs x ms h1 h2 h3 h4 h5 h6 ih =>
  have e := sc_next ht need (topS qs) qs
  have key : Ahead (need * t) (sc t qs) ((thingsL (sc t rs), x) :: scL t ms) := by
   refine .step ?_ (sc_ris ht h2) ?_ ?_ ?_ ?_
   · rw [sc_tot]; exact Int.mul_le_mul_of_nonneg_right h1 (by omega)
   · rw [sc_top, e]; exact sc_mem ht h3
   · rw [sc_top, e, sc_times ht]; exact h4
   · rw [sc_top, e, sc_times ht]; exact h5
   · rw [sc_top, e, sc_tms, sc_less ht]; exact ih
  rw [sc_things] at key
  exact key
theorem sc_lex (ht : 1 ≤ t) : ∀ (a b : List Int), HT.lexLt (a.map (· * t)) (b.map (· * t)) = HT.lexLt a b
 | [], [] => rfl
 | [], _ :: _ => rfl
 | _ :: _, [] => rfl
 | x :: a, y :: b => by
  have ih := sc_lex ht a b
  rw [List.map_cons, List.map_cons]
  unfold HT.lexLt
  by_cases h : x = y
  · subst h
    simp [ih]
  · have h2 : ¬ x * t = y * t := fun w => h ((mul_inj ht).mp w)
    have h3 := mul_lt ht (a := x) (b := y)
    simp [h, h2, h3]
theorem sc_risT (ht : 1 ≤ t) {fs : List (List Int × Int)} (h : RisT fs) : RisT (scL t fs) := by
 unfold RisT scL at *
 rw [List.pairwise_map]
 exact h.imp fun z => by rw [sc_lex ht]; exact z
end
theorem told_uniq {ms rs gs : List (List Int × Int)} (nd : (ms.map (·.1)).Nodup) (h1 : rs.Perm ms) (h2 : rs.Pairwise (fun u v => pLt v u = false)) (h3 : RisT gs) (h4 : gs.Perm ms) : rs = gs := risT_uniq (sort_itemsT nd h1 h2) h3 (h1.trans h4.symm)
theorem fill_same {a b : List (List Int × Int)} (ha : RisT a) (hb : RisT b) (pa : ∀ q ∈ a, 1 ≤ q.2) (pb : ∀ q ∈ b, 1 ≤ q.2) (h : ∀ g, wsum g a = wsum g b) : a = b := by
 refine risT_uniq ha hb ((List.perm_ext_iff_of_nodup (nodup_keys ha.nodup) (nodup_keys hb.nodup)).mpr fun q => ?_)
 rw [look_iff ha.nodup pa, look_iff hb.nodup pb, h]
theorem ahead_det {need : Int} {qs : List (Int × Int)} {a : List (List Int × Int)} (h : Ahead need qs a) : ∀ {b : List (List Int × Int)}, Ahead need qs b → a = b := by
 induction h with
 | done h => exact fun hb => (ahead_end hb h).symm
 | step h1 h2 h3 h4 h5 h6 ih =>
  intro b hb
  obtain ⟨rs, t, ms, rfl, b1, b2, b3, b4, hb'⟩ := ahead_step hb h1
  rw [ris_uniq h2 b1 fun q => (h3 q).trans (b2 q).symm, Int.le_antisymm (h5 _ b3) (b4 _ h4)] at *
  rw [ih hb']
theorem ok_init {need : Int} {a b : List (Int × Int)} (h : HOk8 need (a ++ b)) : HOk8 need a :=
 ⟨by have := h.len; rw [List.length_append] at this; omega, h.n0, h.n1, fun q hq => h.bd q (List.mem_append_left _ hq), (List.pairwise_append.mp h.ris).1⟩
theorem ahead_top {need g m : Int} {qs : List (Int × Int)} {ms : List (List Int × Int)} (ok : HOk8 need (qs ++ [(g, m)])) (hg : need ≤ g) (h : Ahead need (qs ++ [(g, m)]) ms) : ∃ ms0, ms = ([g], m) :: ms0 ∧ Ahead need qs ms0 := by
 have htop : topS (qs ++ [(g, m)]) = g := by unfold topS; rw [List.getLast?_append]; rfl
 obtain ⟨g1, _, m1, _⟩ := ok.bd (g, m) (by simp)
 have g1 : 1 ≤ g := g1
 have m1 : 1 ≤ m := m1
 have hlt : ∀ q ∈ qs, q.1 < g := fun q hq => (List.pairwise_append.mp ok.ris).2.2 q hq _ (List.mem_singleton.mpr rfl)
 have hge : need ≤ tot (qs ++ [(g, m)]) := by
  have h1 := sum_nn (qs.map fun q => q.1 * q.2) fun x hx => by
   obtain ⟨q, hq, rfl⟩ := List.mem_map.mp hx
   have := ok.bd q (List.mem_append_left _ hq)
   exact Int.mul_nonneg (by omega) (by omega)
  have h2 := Int.mul_le_mul_of_nonneg_left m1 (show 0 ≤ g by omega)
  unfold tot
  rw [List.map_append, List.sum_append]
  simp
  omega
 obtain ⟨rs, t, ms0, rfl, b1, b2, b3, b4, h'⟩ := ahead_step h hge
 rw [htop, next_big hg] at b2 b3 h'
 have er : rs = [(g, 1)] := ris_uniq b1 (List.pairwise_singleton _ _) b2
 have et : t = m := by
  obtain ⟨q, hq, c, hc, e⟩ := times_mem b3
  rw [dlook_cons] at hc
  by_cases z : g = q.1
  · rw [if_pos z] at hc
    cases hc
    rw [Int.ediv_one] at e
    rcases List.mem_append.mp hq with w | w
    · have := hlt q w; omega
    · rw [List.mem_singleton.mp w] at e; exact e.symm
  · rw [if_neg z] at hc; cases hc
 subst er; subst et
 have el : lessBy (qs ++ [(g, t)]) (tms [(g, 1)] t) = qs := by
  unfold lessBy
  rw [List.map_append, List.filter_append]
  have e1 : qs.map (fun q => (q.1, q.2 - (dlook (tms [(g, 1)] t) q.1).getD 0)) = qs := by
   conv => rhs; rw [← List.map_id qs]
   refine List.map_congr_left fun q hq => ?_
   rw [tms_look, dlook_cons, if_neg (by have := hlt q hq; omega)]
   show (q.1, q.2 - 0) = q
   rw [Int.sub_zero]
  have e2 : (dlook (tms [(g, 1)] t) g).getD 0 = t := by rw [tms_look, dlook_cons, if_pos rfl]; show 1 * t = t; omega
  rw [e1, List.filter_eq_self.mpr fun q hq => decide_eq_true (by have := (ok.bd q (List.mem_append_left _ hq)).2.2.1; omega)]
  simp [e2]
 rw [el] at h'
 exact ⟨ms0, rfl, h'⟩
theorem ris_split (need : Int) : ∀ {qs : List (Int × Int)}, Ris qs → ∃ a b, qs = a ++ b ∧ (∀ q ∈ a, q.1 < need) ∧ ∀ q ∈ b, need ≤ q.1
 | [], _ => ⟨[], [], rfl, fun q hq => (nomatch hq), fun q hq => (nomatch hq)⟩
 | q :: qs, h => by
  have h' := List.pairwise_cons.mp h
  by_cases c : q.1 < need
  · obtain ⟨a, b, rfl, ha, hb⟩ := ris_split need h'.2
    exact ⟨q :: a, b, rfl, fun x hx => (List.mem_cons.mp hx).elim (fun e => e ▸ c) (ha x), hb⟩
  · exact ⟨[], q :: qs, rfl, fun x hx => (nomatch hx), fun x hx => (List.mem_cons.mp hx).elim (fun e => by rw [e]; omega) fun w => by have := h'.1 x w; omega⟩
def alone (need : Int) (g : List Int → Int) (n : Int) : Int := if need ≤ n then g [n] else 0
theorem ahead_bigs {need : Int} {a : List (Int × Int)} : ∀ (b : List (Int × Int)) {ms : List (List Int × Int)}, HOk8 need (a ++ b) → (∀ q ∈ b, need ≤ q.1) → Ahead need (a ++ b) ms → ∃ ms0, Ahead need a ms0 ∧ ∀ g, wsum g ms = wq (alone need g) b + wsum g ms0 := fun b => by
 refine snoc_ind (p := fun b => ∀ {ms}, HOk8 need (a ++ b) → (∀ q ∈ b, need ≤ q.1) → Ahead need (a ++ b) ms → ∃ ms0, Ahead need a ms0 ∧ ∀ g, wsum g ms = wq (alone need g) b + wsum g ms0) ?_ ?_ b
 · intro ms _ _ h
   rw [List.append_nil] at h
   exact ⟨ms, h, fun g => by show _ = 0 + _; omega⟩
 · intro l x ih ms ok hb h
   rw [← List.append_assoc] at ok h
   obtain ⟨ms0, rfl, h0⟩ := ahead_top ok (hb x (by simp)) h
   obtain ⟨ms1, h1, e1⟩ := ih (ok_init ok) (fun q hq => hb q (List.mem_append_left _ hq)) h0
   refine ⟨ms1, h1, fun g => ?_⟩
   rw [wsum_cons, e1]
   unfold wq
   rw [List.map_append, List.sum_append]
   have : alone need g x.1 = g [x.1] := if_pos (hb x (by simp))
   simp [this]
   rw [Int.mul_comm]; omega
theorem ahead_more {need s : Int} {qs qm : List (Int × Int)} {ms ms' : List (List Int × Int)} (ok : HOk8 need qs) (okm : HOk8 need qm) (hs : need ≤ s) (hm : ∀ n, (dlook qm n).getD 0 = (dlook qs n).getD 0 + if s = n then 1 else 0) (hA : Ahead need qs ms) (hA' : Ahead need qm ms') :
 ∀ g : List Int → Int, wsum g ms' = wsum g ms + g [s] := by
 obtain ⟨a, b, rfl, ha, hb⟩ := ris_split need ok.ris
 obtain ⟨a', b', rfl, ha', hb'⟩ := ris_split need okm.ris
 have p1 : ∀ q ∈ a ++ b, 1 ≤ q.2 := fun q hq => (ok.bd q hq).2.2.1
 have p2 : ∀ q ∈ a' ++ b', 1 ≤ q.2 := fun q hq => (okm.bd q hq).2.2.1
 have ea : a' = a := ris_uniq (ok_init okm).ris (ok_init ok).ris fun q => by
  have m1 := mem_get ok.ris.nodup p1 q
  have m2 := mem_get okm.ris.nodup p2 q
  have mm := hm q.1
  constructor
  · intro h
    have hq := ha' q h
    rw [if_neg (by omega)] at mm
    have := m1.mpr (by have := m2.mp (List.mem_append_left _ h); omega)
    rcases List.mem_append.mp this with w | w
    · exact w
    · have := hb q w; omega
  · intro h
    have hq := ha q h
    rw [if_neg (by omega)] at mm
    have := m2.mpr (by have := m1.mp (List.mem_append_left _ h); omega)
    rcases List.mem_append.mp this with w | w
    · exact w
    · have := hb' q w; omega
 subst ea
 obtain ⟨m0, h0, e0⟩ := ahead_bigs b ok hb hA
 obtain ⟨m1, h1, e1⟩ := ahead_bigs b' okm hb' hA'
 have := ahead_det h0 h1
 subst this
 intro g
 have hw := wq_more ok.ris.nodup okm.ris.nodup p1 p2 hm (alone need g)
 have sp : ∀ x y : List (Int × Int), wq (alone need g) (x ++ y) = wq (alone need g) x + wq (alone need g) y := fun x y => by unfold wq; rw [List.map_append, List.sum_append]
 rw [sp, sp, show alone need g s = g [s] from if_pos hs] at hw
 rw [e0, e1]; omega
theorem wsum_zero {g : List Int → Int} : ∀ {ms : List (List Int × Int)}, (∀ q ∈ ms, g q.1 = 0) → wsum g ms = 0
 | [], _ => rfl
 | q :: ms, h => by
  rw [wsum_cons, wsum_zero fun x hx => h x (.tail _ hx), h q (.head _)]; omega
theorem wsum_all {g : List Int → Int} (hg : ∀ l, 0 ≤ g l) : ∀ {ms : List (List Int × Int)}, (∀ q ∈ ms, 1 ≤ q.2) → wsum g ms = 0 → ∀ q ∈ ms, g q.1 = 0
 | [], _, _, q, hq => (nomatch hq)
 | r :: ms, hp, h0, q, hq => by
  rw [wsum_cons] at h0
  have h1 := wsum_nonneg hg (ks := ms) fun x hx => by have := hp x (.tail _ hx); omega
  have hr := hp r (.head _)
  have h2 := Int.mul_le_mul_of_nonneg_right hr (hg r.1)
  have h3 := hg r.1
  rcases List.mem_cons.mp hq with rfl | hq
  · omega
  · exact wsum_all hg (fun x hx => hp x (.tail _ hx)) (by omega) q hq
theorem more_short {ms ms' : List (List Int × Int)} {s : Int} (hw : ∀ g : List Int → Int, wsum g ms' = wsum g ms + g [s]) (h : ∀ q ∈ ms, q.1.length ≤ 100) (hp : ∀ q ∈ ms', 1 ≤ q.2) : ∀ q ∈ ms', q.1.length ≤ 100 := fun q hq => by
 have h1 := hw fun l => if 100 < l.length then 1 else 0
 rw [wsum_zero (g := fun l => if 100 < l.length then 1 else 0) (ms := ms) fun x hx => by
  have := h x hx
  show (if 100 < x.1.length then (1 : Int) else 0) = 0
  rw [if_neg (by omega)]] at h1
 have h2 := wsum_all (g := fun l => if 100 < l.length then 1 else 0) (fun l => by show (0 : Int) ≤ if 100 < l.length then 1 else 0; split <;> omega) hp (by rw [h1]; rfl) q hq
 have h2 : (if 100 < q.1.length then (1 : Int) else 0) = 0 := h2
 by_cases c : 100 < q.1.length
 · rw [if_pos c] at h2; omega
 · omega
theorem cnt_take {zs : List Int} {i : Nat} {z : Int} (e : zs[i]? = some z) (n : Int) : (zs.take (i + 1)).count n = (zs.take i).count n + if z = n then 1 else 0 := by
 rw [List.take_add_one, e, List.count_append]
 show _ + List.count n [z] = _
 rw [List.count_singleton]
 congr 1
 by_cases h : z = n
 · rw [if_pos h, if_pos (by simpa using h)]
 · rw [if_neg h, if_neg (by simpa using h)]
structure CntIs (ks : List (Int × Int)) (fs : List (List Int × Int)) : Prop where
 nd : (ks.map (·.1)).Nodup
 eq : ∀ n, (dlook ks n).getD 0 = cntF fs n
 pos : ∀ q ∈ ks, 1 ≤ q.2
theorem dput_getD (ks : List (Int × Int)) (z v n : Int) : (dlook (dput ks z v) n).getD 0 = if z = n then v else (dlook ks n).getD 0 := by
 rw [dput_look]; split <;> rfl
section
local macro_rules | `(tactic| wtm_at "pe") => `(tactic| (apply j_dget2; (assumption); (rfl); (rfl); (rfl); (rfl); (wtm_at "pe"); (wtm_at "pe"); (wtm_at "pe")))
local macro_rules | `(tactic| wtm_at "ps") => `(tactic| (apply s_dput; (assumption); (rfl); (wtm_at "pe"); (wtm_at "pe"); (wtm_at "pe")))
variable {P : Program} {w : World} {K : PySem.W.Frag} {mg : Str → Option Value} {base : Heap}
abbrev sCin : Stmt := top 25
theorem scCin : FnScope ["filling", "counts", "lot", "times", "size"] ["filling"] (defScope sCin) := ⟨rfl, rfl, rfl, by decide +kernel, rfl, by decide +kernel, by decide +kernel⟩
def spCin : Sp := fun vs H Q _ => ∃ (f : Addr) (fs : List (List Int × Int)), vs = [.ref f] ∧ FillAt H f fs ∧ fs.length ≤ 100 ∧ (∀ g ∈ fs, g.1.length ≤ 100) ∧ (∀ g ∈ fs, 1 ≤ g.2) ∧
 ∀ (d : Addr) (ks : List (Int × Int)) (H' : Hp), H d = none → L2.Same H H' → H' d = some (.dK (vv2 ks)) → CntIs ks fs → ks.length ≤ 100 * fs.length → Q (.ref d) H'
theorem ok_cin {f : Addr} {fd : FuncData} (F : Fun K "counts_in" "counts_in" sCin f fd) : FnOk P w K mg base CX0 1 f fd ["filling"] spCin := by
 refine Br.Fun.j F scCin (fun vs H Q E h => ?_) (fun cdv A outer s H vs Q E hr h => ?_)
 · obtain ⟨_, _, rfl, _⟩ := h; rfl
 · obtain ⟨fa, fs, rfl, ⟨us, h1, h2⟩, hfl, hll, hp1, h⟩ := h
   have nd := scCin.nd
   have hsz : (sizeLine : Nat) = 16777216 := sizeLine_eq
   have hul := h2.1
   refine' ⟨_, ?d, ?r⟩
   case d => wtm_at "body"
   case r =>
    refine fun d H1 hd s1 e1 => ?_
    refine ⟨_, rfl, fa, rfl, .inr ⟨⟨_, (h1.same s1).sq⟩, ?_⟩⟩
    refine for_tup (K := K) (a := fa) (xs := us) (fun i σ G => L2.Same H G ∧ ∃ (ks : List (Int × Int)) (x2 x3 x4 : Option V), G d = some (.dK (vv2 ks)) ∧ CntIs ks (fs.take i) ∧ ks.length ≤ 100 * i ∧ σ = [some (.ref fa), some (.ref d), x2, x3, x4])
     ⟨s1, [], none, none, none, e1, ⟨List.nodup_nil, fun n => rfl, fun q hq => (nomatch hq)⟩, Nat.le_refl _, rfl⟩ (fun i σ G _ ⟨sG, _⟩ => (h1.same sG).sq) ?_ ?_
    · rintro i x σ G hx ⟨sG, ks, x2, x3, x4, eG, hC, hkl, rfl⟩
      obtain ⟨q, hq, r, c, rfl, hrr, hcc⟩ := h2.2 i x hx
      have hi : i < fs.length := (List.getElem?_eq_some_iff.mp hq).1
      have hql := hll q (List.mem_of_getElem? hq)
      refine ⟨r, _, rfl, SqT.of (sG _ _ hrr), rfl, _, _, rfl, _, _, rfl, rfl, ?_⟩
      refine ⟨_, rfl, c, rfl, .inr ⟨⟨_, SqT.of (sG _ _ hcc)⟩, ?_⟩⟩
      refine for_tup (K := K) (a := c) (xs := q.1.map V.int) (fun j σ G => L2.Same H G ∧ ∃ (ks : List (Int × Int)) (x4 : Option V), G d = some (.dK (vv2 ks)) ∧ CntIs ks (fs.take i ++ [(q.1.take j, q.2)]) ∧ ks.length ≤ 100 * i + j ∧ σ = [some (.ref fa), some (.ref d), some (.ref c), some (.int q.2), x4])
       ⟨sG, ks, x4, eG, ⟨hC.nd, fun n => by rw [hC.eq n, cntF_append, cntF_one]; show _ = _ + q.2 * 0; omega, hC.pos⟩, hkl, rfl⟩ (fun j σ G _ ⟨sG, _⟩ => SqT.of (sG _ _ hcc)) ?_ ?_
      · rintro j x σ G hx ⟨sG, ks, x4, eG, hC, hkl, rfl⟩
        rw [List.getElem?_map] at hx
        obtain ⟨z, hz, rfl⟩ := Option.map_eq_some_iff.mp hx
        have hj : j < q.1.length := (List.getElem?_eq_some_iff.mp hz).1
        have dg := DGet.k (k := .inl z) eG
        rw [val_vv2] at dg
        have hlen : (vv2 ks).length = ks.length := by unfold vv2; rw [List.length_map]
        have gd : ((dlook ks z).map V.int).getD (.int 0) = .int ((dlook ks z).getD 0) := by cases dlook ks z <;> rfl
        refine ⟨_, rfl, d, rfl, .inl ⟨_, .inl eG⟩, _, rfl, _, dg, ?_⟩
        rw [gd]
        refine ⟨_, rfl, .inl ⟨_, _, rfl, rfl, ?_⟩⟩
        refine ⟨_, rfl, _, rfl, d, _, rfl, DPut.k (k := .inl z) eG (by rw [hlen]; omega), fun b o e => ?_, dput ks z ((dlook ks z).getD 0 + q.2), _, by rw [upd_same, put_vv2], ⟨dput_nodup _ _ hC.nd, fun n => ?_, fun c hc => ?_⟩, ?_, rfl⟩
        · rw [upd_ne (ne_of_none e hd)]; exact sG _ _ e
        · rw [dput_getD]
          have hn := hC.eq n
          rw [cntF_append, cntF_one] at hn ⊢
          show _ = cntF (fs.take i) n + q.2 * (((q.1.take (j + 1)).count n : Nat) : Int)
          have hn : (dlook ks n).getD 0 = cntF (fs.take i) n + q.2 * (((q.1.take j).count n : Nat) : Int) := hn
          rw [cnt_take hz n]
          by_cases e : z = n
          · subst e
            rw [if_pos rfl, if_pos rfl, hn, Int.natCast_add, Int.mul_add]
            show _ + q.2 = _ + (_ + q.2 * 1)
            omega
          · rw [if_neg e, if_neg e, hn]; rfl
        · rcases dput_mem hc with w | rfl
          · exact hC.pos c w
          · have h1 := hp1 q (List.mem_of_getElem? hq)
            have h2 := dl0 (ks := ks) (fun x hx => by have := hC.pos x hx; omega) z
            show 1 ≤ (dlook ks z).getD 0 + q.2
            omega
        · have := dput_len ks z ((dlook ks z).getD 0 + q.2); omega
      · rintro σ G ⟨sG, ks, x4, eG, hC, hkl, rfl⟩
        rw [List.length_map] at hkl hC
        rw [List.take_length] at hC
        refine ⟨sG, ks, _, _, _, eG, ?_, by omega, rfl⟩
        rw [List.take_add_one, hq]; exact hC
    · rintro σ G ⟨sG, ks, x2, x3, x4, eG, hC, hkl, rfl⟩
      rw [hul, List.take_length] at hC
      rw [hul] at hkl
      exact ⟨_, rfl, h d ks G hd sG eG hC hkl⟩
end
section
variable {P : Program} {w : World} {K : PySem.W.Frag} {mg : Str → Option Value} {base : Heap}
abbrev sCof : Stmt := top 28
theorem scCof : FnScope ["filling"] ["filling"] (defScope sCof) := ⟨rfl, rfl, rfl, by decide +kernel, rfl, by decide +kernel, by decide +kernel⟩
def spCof : Sp := fun vs H Q _ => ∃ (f : Addr) (fs : List (List Int × Int)), vs = [.ref f] ∧ FillAt H f fs ∧ fs.length ≤ 1000 ∧ ∀ (H' : Hp), L2.Same H H' → Q (.int (fs.map (·.2)).sum) H'
theorem ok_cof {f : Addr} {fd : FuncData} (F : Fun K "count_of" "count_of" sCof f fd) (mU : mg "sum" = none) : FnOk P w K mg base CX0 1 f fd ["filling"] spCof := by
 refine Br.Fun.j F scCof (fun vs H Q E h => ?_) (fun cdv A outer s H vs Q E hr h => ?_)
 · obtain ⟨_, _, rfl, _⟩ := h; rfl
 · obtain ⟨fa, fs, rfl, ⟨us, h1, h2⟩, hfl, h⟩ := h
   have nd := scCof.nd
   have hsz : (sizeLine : Nat) = 16777216 := sizeLine_eq
   have hul := h2.1
   refine' ⟨_, ?d, ?r⟩
   case d => wtm_at "body"
   case r =>
    refine ⟨_, rfl, fa, rfl, .inr ⟨⟨_, h1.sq⟩, ?_⟩⟩
    refine cmp_tup (K := K) (a := fa) (xs := us) (fun j ys σ G => G = H ∧ ys = ((fs.map (·.2)).take j).map V.int ∧ ∃ x y : Option V, σ = [x, y, some (.ref fa)])
     ⟨rfl, rfl, none, none, rfl⟩ (by omega) (fun j ys σ G _ ⟨e1, e2, _⟩ => ⟨by rw [e1]; exact h1.sq, by rw [e2, List.length_map, List.length_take]; omega⟩) ?_ ?_
    · rintro j x ys σ G N hx ⟨rfl, rfl, x0, y0, rfl⟩ hN
      obtain ⟨q, hq, r, c, rfl, hrr, hcc⟩ := h2.2 j x hx
      refine ⟨r, _, rfl, SqT.of hrr, rfl, _, _, rfl, _, _, rfl, rfl, ?_⟩
      refine ⟨_, rfl, hN _ _ _ ⟨rfl, ?_, _, _, rfl⟩⟩
      rw [List.take_add_one, List.getElem?_map, hq, List.map_append]; rfl
    rintro ys σ G ⟨eG, rfl, x0, y0, rfl⟩ pl G1 hpl s2 e1
    subst eG
    rw [List.take_of_length_le (by rw [List.length_map]; omega)] at e1
    exact ⟨pl, _, rfl, .inl (SqL.of e1), h G1 s2⟩
abbrev sLeft : Stmt := top 29
theorem scLeft : FnScope ["heap", "filling"] ["heap", "filling"] (defScope sLeft) := ⟨rfl, rfl, rfl, by decide +kernel, rfl, by decide +kernel, by decide +kernel⟩
def Fits (qs : List (Int × Int)) (fs : List (List Int × Int)) : Prop := ∀ n, cntF fs n ≤ (dlook qs n).getD 0
theorem sub_len : ∀ {a b : List Int}, a.Nodup → (∀ x ∈ a, x ∈ b) → a.length ≤ b.length
 | [], _, _, _ => Nat.zero_le _
 | x :: a, b, nd, h => by
  have hx := h x (.head _)
  rw [List.nodup_cons] at nd
  have := sub_len (a := a) (b := b.erase x) nd.2 fun y hy => (List.mem_erase_of_ne (show y ≠ x from fun z => nd.1 (by rw [← z]; exact hy))).mpr (h y (.tail _ hy))
  rw [List.length_erase_of_mem hx] at this
  have := List.length_pos_of_mem hx
  rw [List.length_cons]; omega
theorem keys_in {qs ks : List (Int × Int)} {fs : List (List Int × Int)} (hC : CntIs ks fs) (hf : Fits qs fs) : ks.length ≤ qs.length := by
 have h1 : ∀ x ∈ ks.map (·.1), x ∈ qs.map (·.1) := fun x hx => by
  obtain ⟨c, hc⟩ := dlook_key hx
  have e := hC.eq x
  rw [hc] at e
  have e : c = cntF fs x := e
  have p := hC.pos _ (dlook_some hc)
  have p : 1 ≤ c := p
  have f := hf x
  refine Classical.byContradiction fun z => ?_
  rw [dlook_none z] at f
  have f : cntF fs x ≤ 0 := f
  omega
 have := sub_len hC.nd h1
 rw [List.length_map, List.length_map] at this
 exact this
def spLeft : Sp := fun vs H Q _ => ∃ (h f : Addr) (need : Int) (qs : List (Int × Int)) (fs : List (List Int × Int)), vs = [.ref h, .ref f] ∧ HeapAt H h need qs ∧ FillAt H f fs ∧ fs.length ≤ 60 ∧ (∀ g ∈ fs, g.1.length ≤ 100) ∧ (∀ g ∈ fs, 1 ≤ g.2) ∧ Fits qs fs ∧
 ∀ (h' : Addr) (H' : Hp), L2.Same H H' → HeapAt H' h' need (lessF qs fs) → Q (.ref h') H'
theorem ok_left {f : Addr} {fd : FuncData} (F : Fun K "left_of" "left_of" sLeft f fd) (cC : Callee CX0 P w K mg base "counts_in" 1 ["filling"] spCin) (cL : Callee CX0 P w K mg base "heap_less" 2 ["heap", "counts"] spLess) : FnOk P w K mg base CX0 3 f fd ["heap", "filling"] spLeft := by
 refine Br.Fun.j F scLeft (fun vs H Q E h => ?_) (fun cdv A outer s H vs Q E hr h => ?_)
 · obtain ⟨_, _, _, _, _, rfl, _⟩ := h; rfl
 · obtain ⟨hp, fa, need, qs, fs, rfl, hh, hf, hfl, hll, hpos, hfit, h⟩ := h
   have nd := scLeft.nd
   refine' ⟨_, ?d, ?r⟩
   case d => wtm_at "body"
   case r =>
    refine ⟨_, rfl, _, rfl, fa, fs, rfl, hf, by omega, hll, hpos, fun d ks H1 hd s1 e1 hC hkl => ?_⟩
    have hkl : ks.length ≤ 16 := by
     obtain ⟨_, _, _, _, _, _, _, h4⟩ := hh
     exact Nat.le_trans (keys_in hC hfit) h4.len
    have hk : ∀ q ∈ ks, 0 ≤ q.2 ∧ q.2 ≤ (dlook qs q.1).getD 0 := fun q hq => by
     have h1 := hC.eq q.1
     rw [(dlook_mem hC.nd q).mp hq] at h1
     have h1 : q.2 = cntF fs q.1 := h1
     rw [h1]
     exact ⟨cntF_nonneg (fun g hg => by have := hpos g hg; omega) _, hfit _⟩
    refine ⟨hp, d, need, qs, ks, rfl, hh.tu (Tu.of s1), e1, by omega, hk, fun h' ob H2 k2 _ hh2 => ?_⟩
    have el : lessBy qs ks = lessF qs fs := by
     unfold lessBy lessF
     congr 1
     exact List.map_congr_left fun q _ => by rw [hC.eq q.1]
    rw [el] at hh2
    exact h h' H2 (fun b o e => k2 b o (ne_of_none e hd) (s1 _ _ e)) hh2
end
section
variable {P : Program} {w : World} {K : PySem.W.Frag} {mg : Str → Option Value} {base : Heap}
abbrev sFull : Stmt := top 23
theorem scFull : FnScope ["need", "lot"] ["need", "lot"] (defScope sFull) := ⟨rfl, rfl, rfl, by decide +kernel, rfl, by decide +kernel, by decide +kernel⟩
def spFull (K : PySem.W.Frag) : Sp := fun vs H Q _ => ∃ (n : Int) (a : Addr) (zs : List Int), vs = [.int n, .ref a] ∧ SqT K H a (zs.map V.int) ∧ Q (.bl (decide (n ≤ zs.sum))) H
theorem ok_full {f : Addr} {fd : FuncData} (F : Fun K "is_full" "is_full" sFull f fd) (mU : mg "sum" = none) : FnOk P w K mg base CX0 1 f fd ["need", "lot"] (spFull K) := by
 refine Br.Fun.j F scFull (fun vs H Q E h => ?_) (fun cdv A outer s H vs Q E hr h => ?_)
 · obtain ⟨_, _, _, rfl, _⟩ := h; rfl
 · obtain ⟨n, a, zs, rfl, ha, h⟩ := h
   have nd := scFull.nd
   refine' ⟨_, ?d, ?r⟩
   case d => wtm_at "body"
   case r => exact ⟨_, rfl, a, zs, rfl, .inr ha, _, rfl, _, _, rfl, rfl, h⟩
end
def isW : PyData → Bool
 | .int _ => true
 | _ => false
def isSz : PyData → Bool
 | .int i => decide (1 ≤ i) && decide (i ≤ 1000000000000)
 | _ => false
section
variable {P : Program} {w : World} {K : PySem.W.Frag} {mg : Str → Option Value} {base : Heap}
abbrev sWhole : Stmt := top 12
theorem scWhole : FnScope ["thing"] ["thing"] (defScope sWhole) := ⟨rfl, rfl, rfl, by decide +kernel, rfl, by decide +kernel, by decide +kernel⟩
def spWhole : Sp := fun vs H Q _ => ∃ v d, vs = [v] ∧ Rep H v d ∧ Q (.bl (isW d)) H
theorem ok_whole {f : Addr} {fd : FuncData} (F : Fun K "is_whole" "is_whole" sWhole f fd) (mI : mg "isinstance" = none) (mN : mg "int" = none) (mB : mg "bool" = none) : FnOk P w K mg base CX0 1 f fd ["thing"] spWhole := by
 refine Br.Fun.j F scWhole (fun vs H Q E h => ?_) (fun cdv A outer s H vs Q E hr h => ?_)
 · obtain ⟨_, _, rfl, _⟩ := h; rfl
 · obtain ⟨v, d, rfl, rep, h⟩ := h
   have nd := scWhole.nd
   refine' ⟨_, ?d, ?r⟩
   case d => wtm_at "body"
   case r =>
    wtm_at "rd"
    cases rep with
    | non => exact Or.inl ⟨_, _, _, _, rfl, .of TyOf.non, rfl, _, rfl, iteF h⟩
    | bl b =>
     refine Or.inl ⟨_, _, _, _, rfl, .of (TyOf.bl _), rfl, _, rfl, iteT ?_⟩
     wtm_at "rd"
     exact Or.inl ⟨_, _, _, _, rfl, .of (TyOf.bl _), rfl, _, rfl, h⟩
    | int i =>
     refine Or.inl ⟨_, _, _, _, rfl, .of (TyOf.int _), rfl, _, rfl, iteT ?_⟩
     wtm_at "rd"
     exact Or.inl ⟨_, _, _, _, rfl, .of (TyOf.int _), rfl, _, rfl, h⟩
    | str x => exact Or.inl ⟨_, _, _, _, rfl, .of (TyOf.str _), rfl, _, rfl, iteF h⟩
    | tup e r => exact Or.inl ⟨_, _, _, _, rfl, .of (TyOf.tup e), rfl, _, rfl, iteF h⟩
    | lst e r => exact Or.inl ⟨_, _, _, _, rfl, .of (TyOf.lst e), rfl, _, rfl, iteF h⟩
abbrev sIsSize : Stmt := top 17
theorem scIsSize : FnScope ["thing"] ["thing"] (defScope sIsSize) := ⟨rfl, rfl, rfl, by decide +kernel, rfl, by decide +kernel, by decide +kernel⟩
def spIsSize : Sp := fun vs H Q _ => ∃ v d, vs = [v] ∧ Rep H v d ∧ Q (.bl (isSz d)) H
theorem ok_isSize {f : Addr} {fd : FuncData} (F : Fun K "is_size" "is_size" sIsSize f fd) (cW : Callee CX0 P w K mg base "is_whole" 1 ["thing"] spWhole) (g2 : GInt mg "GREATEST" 1000000000000) : FnOk P w K mg base CX0 2 f fd ["thing"] spIsSize := by
 refine Br.Fun.j F scIsSize (fun vs H Q E h => ?_) (fun cdv A outer s H vs Q E hr h => ?_)
 · obtain ⟨_, _, rfl, _⟩ := h; rfl
 · obtain ⟨v, d, rfl, rep, h⟩ := h
   have nd := scIsSize.nd
   refine' ⟨_, ?d, ?r⟩
   case d => wtm_at "body"
   case r =>
    refine ⟨_, rfl, v, d, rfl, rep, _, rfl, ite2 (fun hc => ?_) (fun hc => ?_)⟩
    · cases rep with
      | int i =>
       refine ⟨_, rfl, _, _, rfl, rfl, _, rfl, ite2 (fun h1 => ⟨_, _, rfl, rfl, ?_⟩) (fun h1 => ?_)⟩
       · have e2 : isSz (.int i) = decide (i ≤ 1000000000000) := by show (decide (1 ≤ i) && decide (i ≤ 1000000000000)) = _; rw [h1, Bool.true_and]
         rw [e2] at h; exact h
       · have e2 : isSz (.int i) = false := by show (decide (1 ≤ i) && decide (i ≤ 1000000000000)) = _; rw [eq_false_of_ne_true h1]; rfl
         rw [e2] at h; exact h
      | _ => cases hc
    · cases rep with
      | int i => exact absurd rfl hc
      | _ => exact h
end
section
local macro_rules | `(tactic| wtm_at "pi") => `(tactic| (apply ZG.k_zip; (wtm_at "K"); (with_reducible rfl); (rfl); (assumption); (rfl); (rfl); (wtm_at "pa")))
variable {P : Program} {w : World} {K : PySem.W.Frag} {mg : Str → Option Value} {base : Heap}
abbrev sSorted : Stmt := top 10
theorem scSorted : FnScope ["things"] ["things"] (defScope sSorted) := ⟨rfl, rfl, rfl, by decide +kernel, rfl, by decide +kernel, by decide +kernel⟩
def spSorted : Sp := fun vs H Q _ => ∃ (a : Addr) (ns : List Int), vs = [.ref a] ∧ H a = some (.tup (ns.map V.int)) ∧ ns.length ≤ 100 ∧ ns ≠ [] ∧ ns.Pairwise (· ≤ ·) ∧ ∀ H', L2.Same H H' → Q (.bl true) H'
theorem ok_sorted {f : Addr} {fd : FuncData} (F : Fun K "is_sorted" "is_sorted" sSorted f fd) (mA : mg "all" = none) (mZ : mg "zip" = none) : FnOk P w K mg base CX0 1 f fd ["things"] spSorted := by
 refine Br.Fun.j F scSorted (fun vs H Q E h => ?_) (fun cdv A outer s H vs Q E hr h => ?_)
 · obtain ⟨_, _, rfl, _⟩ := h; rfl
 · obtain ⟨l, ns, rfl, hl, hn, hne, hpw, h⟩ := h
   have nd := scSorted.nd
   have hsz : (sizeLine : Nat) = 16777216 := sizeLine_eq
   have hnl : 0 < ns.length := List.length_pos_iff.mpr hne
   refine' ⟨_, ?d, ?r⟩
   case d => wtm_at "body"
   case r =>
    refine ⟨_, rfl, _, rfl, ?_⟩
    wtm_at "rd"
    refine ⟨l, _, rfl, .inr ⟨SqT.of hl, ?_, fun l2 G1 n2 s1 e1 => ?_⟩⟩
    · rintro ⟨z, _⟩
      rw [show (some (1 : Int)) = some ((1 : Nat) : Int) from rfl, HT.sIx_nat, List.length_map] at z
      omega
    have hcut : cutV (ns.map V.int) (some 1) none = ns.tail.map V.int := by
     unfold cutV
     rw [show (some (1 : Int)) = some ((1 : Nat) : Int) from rfl, HT.sIx_nat, HT.sIx_none]
     cases ns with
     | nil => rfl
     | cons a r => simp; rw [List.take_of_length_le (by rw [List.length_map]; exact Nat.le_refl _)]
    rw [hcut] at e1
    have hl1 := s1 _ _ hl
    have htl : (ns.tail.map V.int).length = (ns.zip ns.tail).length := by rw [List.length_map, List.length_zip, List.length_tail]; omega
    refine ⟨true, true, l, l2, _, _, rfl, SqT.of hl1, SqT.of e1, ?_⟩
    refine ZG.cmp_zip (f1 := true) (f2 := true) (K := K) (a := l) (b := l2) (xs := ns.map V.int) (ys := ns.tail.map V.int) (n := (ns.zip ns.tail).length) (by rw [List.length_map, List.length_zip]; omega) htl (by rw [List.length_zip]; omega)
     (fun k zs σ G => L2.Same G1 G ∧ zs = (List.replicate k true).map V.bl ∧ ∃ x y : Option V, σ = [x, y, some (.ref l)])
     ⟨L2.Same.refl _, rfl, none, none, rfl⟩ (fun k zs σ G _ ⟨sG, e, _⟩ => ⟨SqT.of (sG _ _ hl1), SqT.of (sG _ _ e1), by rw [e, List.length_map, List.length_replicate]; omega⟩) ?_ ?_
    · rintro k x y zs σ G T N hx hy ⟨sG, rfl, x0, y0, rfl⟩ nT hN
      rw [List.getElem?_map] at hx hy
      obtain ⟨a, ha, rfl⟩ := Option.map_eq_some_iff.mp hx
      obtain ⟨b, hb, rfl⟩ := Option.map_eq_some_iff.mp hy
      have sT : L2.Same G (upd G T (.tup [.int a, .int b])) := Br.Same.upd nT
      generalize hG1 : upd G T (.tup [.int a, .int b]) = G2 at sT
      have eT : G2 T = some (.tup [.int a, .int b]) := by rw [← hG1]; exact upd_same
      have hab : a ≤ b := by
       rw [List.getElem?_tail] at hb
       obtain ⟨h1, h1'⟩ := List.getElem?_eq_some_iff.mp ha
       obtain ⟨h2, h2'⟩ := List.getElem?_eq_some_iff.mp hb
       have := List.pairwise_iff_getElem.mp hpw k (k + 1) h1 h2 (by omega)
       rw [h1', h2'] at this; exact this
      refine ⟨T, _, rfl, SqT.of eT, rfl, _, _, rfl, _, _, rfl, rfl, ?_⟩
      refine ⟨_, rfl, _, rfl, _, _, rfl, rfl, hN _ _ _ ⟨sG.trans sT, ?_, _, _, rfl⟩⟩
      show List.map V.bl (List.replicate k true) ++ [V.bl (decide (a ≤ b))] = _
      rw [decide_eq_true hab, List.replicate_succ', List.map_append]; rfl
    · rintro zs σ G ⟨sG, rfl, x0, y0, rfl⟩ pl G2 npl s2 e2
      refine ⟨pl, _, rfl, SqL.of e2, ?_⟩
      have := h G2 (s1.trans (sG.trans s2))
      show Q (V.bl ((List.replicate (ns.zip ns.tail).length true).all id)) G2
      rw [show (List.replicate (ns.zip ns.tail).length true).all id = true by rw [List.all_eq_true]; intro x hx; exact List.eq_of_mem_replicate hx]
      exact this
end
section
variable {P : Program} {w : World} {K : PySem.W.Frag} {mg : Str → Option Value} {base : Heap}
theorem isSz_of {n : Int} (h1 : 1 ≤ n) (h2 : n ≤ 10 ^ 12) : isSz (.int n) = true := by
 show (decide (1 ≤ n) && decide (n ≤ 1000000000000)) = true
 rw [decide_eq_true h1, decide_eq_true (by omega)]; rfl
abbrev sIsLot : Stmt := top 22
theorem scIsLot : FnScope ["thing"] ["thing"] (defScope sIsLot) := ⟨rfl, rfl, rfl, by decide +kernel, rfl, by decide +kernel, by decide +kernel⟩
def spIsLot : Sp := fun vs H Q _ => ∃ (a : Addr) (ns : List Int), vs = [.ref a] ∧ H a = some (.tup (ns.map V.int)) ∧ ns.length ≤ 100 ∧ ns ≠ [] ∧ ns.Pairwise (· ≤ ·) ∧ (∀ n ∈ ns, 1 ≤ n ∧ n ≤ 10 ^ 12) ∧ ∀ H', L2.Same H H' → Q (.bl true) H'
theorem ok_isLot {f : Addr} {fd : FuncData} (F : Fun K "is_lot" "is_lot" sIsLot f fd) (cS : Callee CX0 P w K mg base "is_size" 2 ["thing"] spIsSize) (cO : Callee CX0 P w K mg base "is_sorted" 1 ["things"] spSorted) (g1 : GInt mg "MOST_THINGS" 100) (mI : mg "isinstance" = none) (mT : mg "tuple" = none) (mL : mg "len" = none) (mA : mg "all" = none) :
 FnOk P w K mg base CX0 3 f fd ["thing"] spIsLot := by
 refine Br.Fun.j F scIsLot (fun vs H Q E h => ?_) (fun cdv A outer s H vs Q E hr h => ?_)
 · obtain ⟨_, _, rfl, _⟩ := h; rfl
 · obtain ⟨l, ns, rfl, hl, hn, hne, hpw, hbd, h⟩ := h
   have nd := scIsLot.nd
   have hsz : (sizeLine : Nat) = 16777216 := sizeLine_eq
   have hnl : 0 < ns.length := List.length_pos_iff.mpr hne
   refine' ⟨_, ?d, ?r⟩
   case d => wtm_at "body"
   case r =>
    refine ⟨_, ?_, fun _ _ h => h⟩
    wtm_at "rd"
    refine Or.inl ⟨_, _, _, _, rfl, .of (TyOf.tup hl), rfl, _, rfl, iteF ?_⟩
    wtm_at "rd"
    refine .inl ⟨l, _, rfl, .inr (SqT.of hl), ?_⟩
    refine ⟨_, _, rfl, rfl, _, rfl, ite2 (fun _ => ?_) (fun hc => absurd (decide_eq_true (by rw [List.length_map]; omega)) hc)⟩
    refine ⟨_, _, rfl, rfl, _, rfl, ite2 (fun hc => absurd hc (by rw [List.length_map, decide_eq_true (by omega)]; decide)) (fun _ => ?_)⟩
    refine ⟨_, rfl, l, rfl, .inr ⟨⟨_, SqT.of hl⟩, ?_⟩⟩
    refine cmp_tup (K := K) (a := l) (xs := ns.map V.int) (fun i zs σ G => G = H ∧ zs = (List.replicate i true).map V.bl ∧ ∃ x0 : Option V, σ = [x0, some (.ref l)])
     ⟨rfl, rfl, none, rfl⟩ (by rw [List.length_map]; omega) (fun i zs σ G _ ⟨eG, e, _⟩ => ⟨by rw [eG]; exact SqT.of hl, by rw [e, List.length_map, List.length_replicate]; omega⟩) ?_ ?_
    · rintro i v zs σ G N hv ⟨rfl, rfl, x0, rfl⟩ hN
      rw [List.getElem?_map] at hv
      obtain ⟨n, hni, rfl⟩ := Option.map_eq_some_iff.mp hv
      obtain ⟨b1, b2⟩ := hbd n (List.mem_of_getElem? hni)
      refine ⟨_, rfl, _, .int n, rfl, .int n, hN _ _ _ ⟨rfl, ?_, _, rfl⟩⟩
      rw [isSz_of b1 b2, List.replicate_succ', List.map_append]; rfl
    rintro zs σ G ⟨rfl, rfl, x0, rfl⟩ pl G2 npl s2 e3
    refine ⟨pl, _, rfl, SqL.of e3, ?_⟩
    have hall : (List.replicate (ns.map V.int).length true).all id = true := by rw [List.all_eq_true]; intro x hx; exact List.eq_of_mem_replicate hx
    refine ⟨_, rfl, ite2 (fun _ => ?_) (fun hc => absurd hall hc)⟩
    exact ⟨_, rfl, l, ns, rfl, s2 _ _ hl, hn, hne, hpw, fun H' s' => h H' (s2.trans s')⟩
end
section
local macro_rules | `(tactic| wtm_at "pi") => `(tactic| (apply ZG.k_zip; (wtm_at "K"); (with_reducible rfl); (rfl); (assumption); (rfl); (rfl); (wtm_at "pa")))
local macro_rules | `(tactic| wtm_at "cop") => `(tactic| (apply c_ltT; (wtm_at "K"); assumption))
variable {P : Program} {w : World} {K : PySem.W.Frag} {mg : Str → Option Value} {base : Heap}
abbrev sRising : Stmt := top 9
theorem scRising : FnScope ["things"] ["things"] (defScope sRising) := ⟨rfl, rfl, rfl, by decide +kernel, rfl, by decide +kernel, by decide +kernel⟩
def spRising : Sp := fun vs H Q _ => ∃ (l : Addr) (as : List Addr) (us : List (List Int)), vs = [.ref l] ∧ H l = some (.lst (as.map V.ref)) ∧ as.length = us.length ∧ (∀ (i : Nat) a u, as[i]? = some a → us[i]? = some u → H a = some (.tup (u.map V.int))) ∧ us.length ≤ 100 ∧ us.Pairwise (fun u v => HT.lexLt u v = true) ∧ ∀ H', L2.Same H H' → Q (.bl true) H'
theorem ok_rising {f : Addr} {fd : FuncData} (F : Fun K "is_rising" "is_rising" sRising f fd) (mA : mg "all" = none) (mZ : mg "zip" = none) : FnOk P w K mg base CX0 1 f fd ["things"] spRising := by
 refine Br.Fun.j F scRising (fun vs H Q E h => ?_) (fun cdv A outer s H vs Q E hr h => ?_)
 · obtain ⟨_, _, _, rfl, _⟩ := h; rfl
 · obtain ⟨l, as, us, rfl, hl, hau, hat, hn, hpw, h⟩ := h
   have nd := scRising.nd
   have hsz : (sizeLine : Nat) = 16777216 := sizeLine_eq
   refine' ⟨_, ?d, ?r⟩
   case d => wtm_at "body"
   case r =>
    refine ⟨_, rfl, _, rfl, ?_⟩
    wtm_at "rd"
    refine ⟨l, _, rfl, .inl ⟨SqL.of hl, fun l2 G1 n2 s1 e1 => ?_⟩⟩
    have hcut : cutV (as.map V.ref) (some 1) none = as.tail.map V.ref := by
     unfold cutV
     rw [show (some (1 : Int)) = some ((1 : Nat) : Int) from rfl, HT.sIx_nat, HT.sIx_none]
     cases as with
     | nil => rfl
     | cons a r => simp; rw [List.take_of_length_le (by rw [List.length_map]; exact Nat.le_refl _)]
    rw [hcut] at e1
    have hl1 := s1 _ _ hl
    have htl : (as.tail.map V.ref).length = as.length - 1 := by rw [List.length_map, List.length_tail]
    refine ⟨false, false, l, l2, _, _, rfl, SqL.of hl1, SqL.of e1, ?_⟩
    refine ZG.cmp_zip (f1 := false) (f2 := false) (K := K) (a := l) (b := l2) (xs := as.map V.ref) (ys := as.tail.map V.ref) (n := as.length - 1) (by rw [List.length_map]; omega) htl (by omega)
     (fun k zs σ G => L2.Same G1 G ∧ zs = (List.replicate k true).map V.bl ∧ ∃ x y : Option V, σ = [x, y, some (.ref l)])
     ⟨L2.Same.refl _, rfl, none, none, rfl⟩ (fun k zs σ G _ ⟨sG, e, _⟩ => ⟨SqL.of (sG _ _ hl1), SqL.of (sG _ _ e1), by rw [e, List.length_map, List.length_replicate]; omega⟩) ?_ ?_
    · rintro k x y zs σ G T N hx hy ⟨sG, rfl, x0, y0, rfl⟩ nT hN
      rw [List.getElem?_map] at hx hy
      obtain ⟨a, ha, rfl⟩ := Option.map_eq_some_iff.mp hx
      obtain ⟨b, hb, rfl⟩ := Option.map_eq_some_iff.mp hy
      rw [List.getElem?_tail] at hb
      have hk1 := (List.getElem?_eq_some_iff.mp hb).1
      have hu : us[k]? = some us[k] := List.getElem?_eq_getElem (by omega)
      have hv : us[k + 1]? = some us[k + 1] := List.getElem?_eq_getElem (by omega)
      have sT : L2.Same G (upd G T (.tup [.ref a, .ref b])) := Br.Same.upd nT
      generalize hG1 : upd G T (.tup [.ref a, .ref b]) = G2 at sT
      have eT : G2 T = some (.tup [.ref a, .ref b]) := by rw [← hG1]; exact upd_same
      have sA := s1.trans (sG.trans sT)
      refine ⟨T, _, rfl, SqT.of eT, rfl, _, _, rfl, _, _, rfl, rfl, ?_⟩
      refine ⟨_, rfl, _, rfl, .inr ⟨a, b, us[k], us[k + 1], rfl, rfl, SqT.of (sA _ _ (hat k a _ ha hu)), SqT.of (sA _ _ (hat (k + 1) b _ hb hv)), hN _ _ _ ⟨sG.trans sT, ?_, _, _, rfl⟩⟩⟩
      rw [List.pairwise_iff_getElem.mp hpw k (k + 1) (by omega) (by omega) (by omega), List.replicate_succ', List.map_append]; rfl
    · rintro zs σ G ⟨sG, rfl, x0, y0, rfl⟩ pl G2 npl s2 e2
      refine ⟨pl, _, rfl, SqL.of e2, ?_⟩
      have := h G2 (s1.trans (sG.trans s2))
      rw [show (fun bs : List Bool => bs.all id) (List.replicate (as.length - 1) true) = true by show (List.replicate _ true).all id = true; rw [List.all_eq_true]; intro x hx; exact List.eq_of_mem_replicate hx]
      exact this
end
section
variable {P : Program} {w : World} {K : PySem.W.Frag} {mg : Str → Option Value} {base : Heap}
abbrev sIsFL : Stmt := top 26
theorem scIsFL : FnScope ["need", "thing"] ["need", "thing"] (defScope sIsFL) := ⟨rfl, rfl, rfl, by decide +kernel, rfl, by decide +kernel, by decide +kernel⟩
def spIsFL : Sp := fun vs H Q _ => ∃ (n : Int) (a : Addr) (ns : List Int), vs = [.int n, .ref a] ∧ H a = some (.tup (ns.map V.int)) ∧ ns.length ≤ 100 ∧ ns ≠ [] ∧ ns.Pairwise (· ≤ ·) ∧ (∀ n ∈ ns, 1 ≤ n ∧ n ≤ 10 ^ 12) ∧ n ≤ ns.sum ∧ ∀ H', L2.Same H H' → Q (.bl true) H'
theorem ok_isFL {f : Addr} {fd : FuncData} (F : Fun K "is_full_lot" "is_full_lot" sIsFL f fd) (cL : Callee CX0 P w K mg base "is_lot" 3 ["thing"] spIsLot) (cF : Callee CX0 P w K mg base "is_full" 1 ["need", "lot"] (spFull K)) : FnOk P w K mg base CX0 4 f fd ["need", "thing"] spIsFL := by
 refine Br.Fun.j F scIsFL (fun vs H Q E h => ?_) (fun cdv A outer s H vs Q E hr h => ?_)
 · obtain ⟨_, _, _, rfl, _⟩ := h; rfl
 · obtain ⟨n, a, ns, rfl, ha, hn, hne, hpw, hbd, hfu, h⟩ := h
   have nd := scIsFL.nd
   refine' ⟨_, ?d, ?r⟩
   case d => wtm_at "body"
   case r =>
    refine ⟨_, rfl, a, ns, rfl, ha, hn, hne, hpw, hbd, fun H1 s1 => ⟨_, rfl, iteT ?_⟩⟩
    refine ⟨_, rfl, _, rfl, n, a, ns, rfl, SqT.of (s1 _ _ ha), ?_⟩
    rw [decide_eq_true hfu]
    exact h H1 s1
abbrev sHolds : Stmt := top 27
theorem scHolds : FnScope ["heap", "filling"] ["heap", "filling"] (defScope sHolds) := ⟨rfl, rfl, rfl, by decide +kernel, rfl, by decide +kernel, by decide +kernel⟩
def spHolds : Sp := fun vs H Q _ => ∃ (h f : Addr) (need : Int) (qs : List (Int × Int)) (fs : List (List Int × Int)), vs = [.ref h, .ref f] ∧ HeapAt H h need qs ∧ FillAt H f fs ∧ fs.length ≤ 60 ∧ (∀ g ∈ fs, g.1 ≠ [] ∧ need ≤ g.1.sum ∧ g.1.length ≤ 100 ∧ g.1.Pairwise (· ≤ ·) ∧ (∀ z ∈ g.1, 1 ≤ z ∧ z ≤ 10 ^ 12) ∧ 1 ≤ g.2) ∧ RisT fs ∧ Fits qs fs ∧
 ∀ (H' : Hp), L2.Same H H' → Q (.bl true) H'
theorem ok_holds {f : Addr} {fd : FuncData} (F : Fun K "filling_holds" "filling_holds" sHolds f fd) (cL : Callee CX0 P w K mg base "is_full_lot" 4 ["need", "thing"] spIsFL) (cR : Callee CX0 P w K mg base "is_rising" 1 ["things"] spRising) (cC : Callee CX0 P w K mg base "counts_in" 1 ["filling"] spCin) (cH : Callee CX0 P w K mg base "has_counts" 1 ["heap", "counts"] spHas) (mA : mg "all" = none) : FnOk P w K mg base CX0 5 f fd ["heap", "filling"] spHolds := by
 refine Br.Fun.j F scHolds (fun vs H Q E h => ?_) (fun cdv A outer s H vs Q E hr h => ?_)
 · obtain ⟨_, _, _, _, _, rfl, _⟩ := h; rfl
 · obtain ⟨hp, fa, need, qs, fs, rfl, hh, ⟨us, h1, h2⟩, hfl, hfs, hris, hfit, h⟩ := h
   have nd := scHolds.nd
   have hsz : (sizeLine : Nat) = 16777216 := sizeLine_eq
   have hul := h2.1
   obtain ⟨t, ob, us0, g1, gb, g2, g3, h4⟩ := id hh
   refine' ⟨_, ?d, ?r⟩
   case d => wtm_at "body"
   case r =>
    refine ⟨fun σ' H' => L2.Same H H' ∧ σ' = [some (.ref hp), some (.ref fa)], ?_, ?_⟩
    · refine ⟨_, rfl, fa, rfl, .inr ⟨⟨_, h1.sq⟩, ?_⟩⟩
      refine cmp_tup (K := K) (a := fa) (xs := us) (fun j ys σ G => L2.Same H G ∧ ys = (List.replicate j true).map V.bl ∧ ∃ x y : Option V, σ = [x, y, some (.ref hp), some (.ref fa)])
       ⟨L2.Same.refl _, rfl, none, none, rfl⟩ (by omega) (fun j ys σ G _ ⟨e1, e2, _⟩ => ⟨(h1.same e1).sq, by rw [e2, List.length_map, List.length_replicate]; omega⟩) ?_ ?_
      · rintro j x ys σ G N hx ⟨sG, rfl, x0, y0, rfl⟩ hN
        obtain ⟨q, hq, r, c, rfl, hrr, hcc⟩ := h2.2 j x hx
        obtain ⟨f1, f2, f3, f4, f5, f6⟩ := hfs q (List.mem_of_getElem? hq)
        refine ⟨r, _, rfl, SqT.of (sG _ _ hrr), rfl, _, _, rfl, _, _, rfl, rfl, ?_⟩
        refine ⟨_, rfl, .inr (.inl ⟨hp, _, 0, _, rfl, rfl, SqT.of (sG _ _ g1), (show atI [V.int need, V.ref t] 0 = some (.int need) from rfl), ?_⟩)⟩
        refine ⟨_, rfl, need, c, q.1, rfl, sG _ _ hcc, f3, f1, f4, f5, f2, fun G1 s1 => ⟨_, rfl, iteT ?_⟩⟩
        refine ⟨_, rfl, _, _, rfl, rfl, hN _ _ _ ⟨sG.trans s1, ?_, _, _, rfl⟩⟩
        show List.map V.bl (List.replicate j true) ++ [V.bl (decide (1 ≤ q.2))] = _
        rw [decide_eq_true f6, List.replicate_succ', List.map_append]; rfl
      rintro ys σ G ⟨sG, rfl, x0, y0, rfl⟩ pl G1 hpl s2 e1
      refine ⟨pl, _, rfl, SqL.of e1, _, rfl, ?_⟩
      rw [show (fun bs : List Bool => bs.all id) (List.replicate us.length true) = true by show (List.replicate _ true).all id = true; rw [List.all_eq_true]; intro x hx; exact List.eq_of_mem_replicate hx]
      exact iteF ⟨sG.trans s2, rfl⟩
    rintro σ' H1 ⟨s1, rfl⟩
    refine ⟨_, rfl, fa, rfl, .inr ⟨⟨_, (h1.same s1).sq⟩, ?_⟩⟩
    refine cmp_tup (K := K) (a := fa) (xs := us) (fun j ys σ G => G = H1 ∧ (∃ as : List Addr, ys = as.map V.ref ∧ as.length = j ∧ ∀ (i : Nat) a, as[i]? = some a → ∃ q, fs[i]? = some q ∧ H1 a = some (.tup (q.1.map V.int))) ∧ ∃ x y : Option V, σ = [x, y, some (.ref hp), some (.ref fa)])
     ⟨rfl, ⟨[], rfl, rfl, fun i a e => by simp at e⟩, none, none, rfl⟩ (by omega) (fun j ys σ G _ ⟨e1, ⟨as, e2, e3, _⟩, _⟩ => ⟨by rw [e1]; exact (h1.same s1).sq, by rw [e2, List.length_map]; omega⟩) ?_ ?_
    · rintro j x ys σ G N hx ⟨rfl, ⟨as, rfl, hal, has⟩, x0, y0, rfl⟩ hN
      obtain ⟨q, hq, r, c, rfl, hrr, hcc⟩ := h2.2 j x hx
      refine ⟨r, _, rfl, SqT.of (s1 _ _ hrr), rfl, _, _, rfl, _, _, rfl, rfl, ?_⟩
      refine ⟨_, rfl, hN _ _ _ ⟨rfl, ⟨as ++ [c], by rw [List.map_append]; rfl, by rw [List.length_append, hal]; rfl, fun i a e => ?_⟩, _, _, rfl⟩⟩
      by_cases hi : i < as.length
      · rw [List.getElem?_append_left hi] at e; exact has i a e
      · have hi2 : i = as.length := by have := (List.getElem?_eq_some_iff.mp e).1; rw [List.length_append] at this; simp at this; omega
        subst hi2
        rw [List.getElem?_append_right (Nat.le_refl _), Nat.sub_self] at e
        simp at e; subst e
        exact ⟨q, by rw [hal]; exact hq, s1 _ _ hcc⟩
    rintro ys σ G ⟨eG, ⟨as, rfl, hal, has⟩, x0, y0, rfl⟩ pl G1 hpl s2 e1
    subst eG
    refine ⟨pl, as, fs.map (·.1), rfl, e1, by rw [List.length_map]; omega, fun i a u ha hu => ?_, by rw [List.length_map]; omega, by rw [List.pairwise_map]; exact hris, fun G2 s3 => ⟨_, rfl, iteT ?_⟩⟩
    · obtain ⟨q, hq, e⟩ := has i a ha
      rw [List.getElem?_map, hq] at hu; cases hu
      exact s2 _ _ e
    have sA := s1.trans (s2.trans s3)
    have hf2 : FillAt G2 fa fs := (show FillAt H fa fs from ⟨us, h1, h2⟩).tu (Tu.of sA)
    refine ⟨_, rfl, _, rfl, fa, fs, rfl, hf2, by omega, fun g hg => (hfs g hg).2.2.1, fun g hg => (hfs g hg).2.2.2.2.2, fun d ks G3 hd s4 e4 hC hkl => ?_⟩
    have hkl : ks.length ≤ 16 := Nat.le_trans (keys_in hC hfit) h4.len
    refine ⟨hp, d, need, qs, ks, rfl, hh.tu (Tu.of (sA.trans s4)), e4, by omega, fun q hq => ?_, fun ob2 G4 k4 e5 => ?_⟩
    · have e := hC.eq q.1
      rw [(dlook_mem hC.nd q).mp hq] at e
      have e : q.2 = cntF fs q.1 := e
      rw [e]; exact hfit q.1
    exact h G4 (fun b o e => k4 b o (ne_of_none (sA _ _ e) hd) (s4 _ _ (sA _ _ e)))
end
theorem prs_fill {H : Hp} {a : Addr} {bs : List Addr} {rs : List (List Int × Int)} (e : Tp H a (bs.map V.ref)) (h : PrsAt H bs rs) : FillAt H a rs := by
 refine ⟨_, e, by rw [List.length_map]; exact h.1, fun i v hv => ?_⟩
 rw [List.getElem?_map] at hv
 obtain ⟨b, hb, rfl⟩ := Option.map_eq_some_iff.mp hv
 obtain ⟨q, c, e1, e2, e3⟩ := h.2 i b hb
 exact ⟨q, e1, b, c, rfl, e2, e3⟩
section
variable {P : Program} {w : World} {K : PySem.W.Frag} {mg : Str → Option Value} {base : Heap}
abbrev sPartBy : Stmt := top 2
abbrev sBoundBy : Stmt := top 3
theorem scPartBy : FnScope ["need", "greatest"] ["need", "greatest"] (defScope sPartBy) := ⟨rfl, rfl, rfl, by decide +kernel, rfl, by decide +kernel, by decide +kernel⟩
def prt (n g : Int) : Int := if g = 0 then 60 else if (if n / g < 60 then n / g else 60) > 1 then (if n / g < 60 then n / g else 60) else 1
theorem prt_bd (n g : Int) : 1 ≤ prt n g ∧ prt n g ≤ 60 := by
 unfold prt
 constructor <;> (repeat' split) <;> omega
def spPartBy : Sp := fun vs H Q _ => ∃ n g : Int, vs = [.int n, .int g] ∧ 0 ≤ g ∧ g < 2 ^ 250 ∧ Q (.int (prt n g)) H
theorem ok_partBy {f : Addr} {fd : FuncData} (F : Fun K "part_by" "part_by" sPartBy f fd) (gM : GInt mg "MOST_PART" 60) (mX : mg "max" = none) (mN : mg "min" = none) : FnOk P w K mg base CX0 1 f fd ["need", "greatest"] spPartBy := by
 refine Br.Fun.j F scPartBy (fun vs H Q E h => ?_) (fun cdv A outer s H vs Q E hr h => ?_)
 · obtain ⟨_, _, rfl, _⟩ := h; rfl
 · obtain ⟨n, g, rfl, g0, g1, k⟩ := h
   have nd := scPartBy.nd
   refine' ⟨_, ?d, ?r⟩
   case d => wtm_at "body"
   case r =>
    refine ⟨_, ?_, fun _ _ h => h⟩
    wtm_at "rd"
    refine ⟨rfl, _, rfl, ?_⟩
    refine ite2 (fun hc => ?_) (fun hc => ?_)
    · have hg : g = 0 := by have := of_decide_eq_true hc; injection this
      unfold prt at k; rw [if_pos hg] at k
      exact k
    · have hg : g ≠ 0 := fun z => hc (decide_eq_true (by rw [z]))
      unfold prt at k; rw [if_neg hg] at k
      wtm_at "rd"
      exact k
theorem scBoundBy : FnScope ["part", "count"] ["part", "count"] (defScope sBoundBy) := ⟨rfl, rfl, rfl, by decide +kernel, rfl, by decide +kernel, by decide +kernel⟩
def bnd (p c : Int) : Int := ((p + 1) * c + p - 1) / p
def spBoundBy : Sp := fun vs H Q _ => ∃ p c : Int, vs = [.int p, .int c] ∧ 1 ≤ p ∧ p ≤ 60 ∧ Q (.int (bnd p c)) H
theorem ok_boundBy {f : Addr} {fd : FuncData} (F : Fun K "bound_by" "bound_by" sBoundBy f fd) : FnOk P w K mg base CX0 1 f fd ["part", "count"] spBoundBy := by
 refine Br.Fun.j F scBoundBy (fun vs H Q E h => ?_) (fun cdv A outer s H vs Q E hr h => ?_)
 · obtain ⟨_, _, rfl, _⟩ := h; rfl
 · obtain ⟨p, c, rfl, p0, p1, k⟩ := h
   have nd := scBoundBy.nd
   refine' ⟨_, ?d, ?r⟩
   case d => wtm_at "body"
   case r =>
    refine ⟨_, rfl, .inl ⟨_, _, rfl, rfl, ?_⟩⟩
    refine ⟨_, rfl, _, _, rfl, rfl, IntMulOk.of_left (intBits_le_64 (by omega) (by omega)), ?_⟩
    wtm_at "rd"
    exact k
end
theorem top_is {qs : List (Int × Int)} (hr : Ris qs) {v : Int} (hv : v ∈ qs.map (·.1)) (hm : ∀ y ∈ qs.map (·.1), y ≤ v) : v = topS qs := by
 have hn : qs ≠ [] := fun z => by rw [z] at hv; cases hv
 have ht : topS qs = (qs.getLast hn).1 := by unfold topS; rw [List.getLast?_eq_some_getLast hn]; rfl
 have h1 := hm (topS qs) (by rw [ht]; exact List.mem_map_of_mem (List.getLast_mem hn))
 have h2 : v ≤ topS qs := by
  obtain ⟨q, hq, rfl⟩ := List.mem_map.mp hv
  rw [ht]
  have e := (List.dropLast_concat_getLast hn).symm
  unfold Ris at hr
  rw [e] at hr hq
  rcases List.mem_append.mp hq with z | z
  · exact Int.le_of_lt ((List.pairwise_append.mp hr).2.2 q z _ (List.mem_singleton.mpr rfl))
  · rw [List.mem_singleton.mp z]; exact Int.le_refl _
 omega
def aheadB (need g c : Int) : Int := min ((3 * c + 1) / 2) (bnd (prt need g) c)
section
local macro_rules | `(tactic| wtm_at "call") => `(tactic| (apply k_maxD; (wtm_at "K"); (rfl); (rfl); (rfl); (with_reducible rfl); (with_reducible rfl); (rfl); (assumption); (wtm_at "pa"); (wtm_at "pe")))
variable {P : Program} {w : World} {K : PySem.W.Frag} {mg : Str → Option Value} {base : Heap}
abbrev sBound : Stmt := top 35
theorem scBound : FnScope ["heap", "need", "kinds", "count", "part"] ["heap"] (defScope sBound) := ⟨rfl, rfl, rfl, by decide +kernel, rfl, by decide +kernel, by decide +kernel⟩
def spBound (C : Addr) : Sp := fun vs H Q E => ∃ (h : Addr) (need : Int) (qs : List (Int × Int)) (ms : List (List Int × Int)), vs = [.ref h] ∧ HeapAt H h need qs ∧ Ahead need qs ms ∧ ms.length < 64 ∧ ((∃ q ∈ ms, 100 < q.1.length) → ∀ H', L2.Same H H' → E (.ref C) none H') ∧
 ((∀ q ∈ ms, q.1.length ≤ 100) → ∀ (H' : Hp), L2.Same H H' → Q (.int (aheadB need (topS qs) (ms.map (·.2)).sum)) H')
theorem ok_bound {f : Addr} {fd : FuncData} {C : Addr} (F : Fun K "ahead_bound" "ahead_bound" sBound f fd) (cM : Callee (CXF P w) P w K mg base "made_ahead" 4 ["heap"] (spMade C)) (cC : Callee CX0 P w K mg base "count_of" 1 ["filling"] spCof) (cP : Callee CX0 P w K mg base "part_by" 1 ["need", "greatest"] spPartBy) (cB : Callee CX0 P w K mg base "bound_by" 1 ["part", "count"] spBoundBy)
 (mX : mg "max" = none) (mN : mg "min" = none) : FnOk P w K mg base (CXF P w) 5 f fd ["heap"] (spBound C) := by
 refine Br.Fun.jX F scBound (fun vs H Q E h => ?_) (fun cdv A outer s H vs Q E hr h => ?_)
 · obtain ⟨_, _, _, _, rfl, _⟩ := h; rfl
 · obtain ⟨hp, need, qs, ms, rfl, hh, hA, hml, hX, h⟩ := h
   have nd := scBound.nd
   have hsz : (sizeLine : Nat) = 16777216 := sizeLine_eq
   refine' ⟨_, ?d, ?r⟩
   case d => wtm_at "body"
   case r =>
    obtain ⟨t, ob, us, h1, hb, h2, h3, h4⟩ := id hh
    have sq : ∀ {G : Hp}, L2.Same H G → SqT K G t us := fun s => .inl (.inr ⟨_, s _ _ h2⟩)
    have hul := h3.1
    have hql := h4.len
    refine ⟨_, rfl, hp, _, rfl, SqT.of h1, rfl, _, _, rfl, _, _, rfl, rfl, ?_⟩
    refine ⟨_, rfl, hp, need, qs, ms, rfl, hh, hA, hml, hX, fun hsm a bs rs H1 s1 e1 hP hpm hpw => ?_⟩
    refine ⟨a, rs, rfl, prs_fill (.inr e1) hP, by rw [hpm.length_eq]; omega, fun H2 s2 => ?_⟩
    rw [perm_sum (hpm.map (·.2))]
    generalize hc : (ms.map (·.2)).sum = c at *
    refine ⟨_, rfl, _, rfl, t, rfl, .inr ⟨⟨_, sq (s1.trans s2)⟩, ?_⟩⟩
    refine cmp_tup (K := K) (a := t) (xs := us) (fun j ys σ G => L2.Same H2 G ∧ ys = ((qs.map (·.1)).take j).map V.int ∧ ∃ x y : Option V, σ = [x, y, some (.ref hp), some (.int need), some (.ref t), some (.int c), none])
     ⟨L2.Same.refl _, rfl, none, none, rfl⟩ (by omega) (fun j ys σ G _ ⟨e3, e4, _⟩ => ⟨sq (s1.trans (s2.trans e3)), by rw [e4, List.length_map, List.length_take]; omega⟩) ?_ ?_
    · rintro j x ys σ G N hx ⟨sG, rfl, x0, y0, rfl⟩ hN
      obtain ⟨q, hq, r, rfl, hrr⟩ := h3.2 j x hx
      refine ⟨r, _, rfl, SqT.of ((s1.trans (s2.trans sG)) _ _ hrr), rfl, _, _, rfl, _, _, rfl, rfl, ?_⟩
      refine ⟨_, rfl, hN _ _ _ ⟨sG, ?_, _, _, rfl⟩⟩
      rw [List.take_add_one, List.getElem?_map, hq, List.map_append]; rfl
    · rintro ys σ G ⟨sG, rfl, x0, y0, rfl⟩ pl G1 npl s3 e3
      rw [hul, ← List.length_map (f := (·.1)), List.take_length] at e3
      have fin : ∀ v : Int, v = topS qs → 0 ≤ v ∧ v ≤ 10 ^ 12 → ∀ R : Prop, (R → True) → True := fun _ _ _ _ _ => trivial
      have sA := s1.trans (s2.trans (sG.trans s3))
      have key := h hsm G1 sA
      have eB : (if bnd (prt need (topS qs)) c < (3 * c + 1) / 2 then bnd (prt need (topS qs)) c else (3 * c + 1) / 2) = aheadB need (topS qs) c := by unfold aheadB; split <;> omega
      refine ⟨pl, qs.map (·.1), rfl, SqL.of e3, fun v hv hmx => ?_, fun hnil => ?_⟩
      · have ev := top_is h4.ris hv hmx
        obtain ⟨q, hq, eq⟩ := List.mem_map.mp hv
        have b := h4.bd q hq
        rw [ev]
        have hb1 : 0 ≤ topS qs ∧ topS qs < 2 ^ 250 := by rw [← ev, ← eq]; exact ⟨by omega, Int.lt_of_le_of_lt b.2.1 (by decide)⟩
        refine ⟨need, topS qs, rfl, hb1.1, hb1.2, ?_⟩
        refine ⟨_, rfl, _, _, rfl, rfl, IntMulOk.of_left (by decide), .inl ⟨_, _, rfl, rfl, ?_⟩⟩
        refine ⟨_, _, rfl, rfl, divB (by decide) (by decide), ?_⟩
        refine ⟨_, rfl, _, rfl, _, _, rfl, (prt_bd _ _).1, (prt_bd _ _).2, _, _, rfl, ?_⟩
        rw [eB]; exact key
      · have hq : qs = [] := List.map_eq_nil_iff.mp hnil
        have ht : topS qs = 0 := by rw [hq]; rfl
        rw [ht] at eB key
        refine ⟨need, 0, rfl, by decide, by decide, ?_⟩
        refine ⟨_, rfl, _, _, rfl, rfl, IntMulOk.of_left (by decide), .inl ⟨_, _, rfl, rfl, ?_⟩⟩
        refine ⟨_, _, rfl, rfl, divB (by decide) (by decide), ?_⟩
        refine ⟨_, rfl, _, rfl, _, _, rfl, (prt_bd _ _).1, (prt_bd _ _).2, _, _, rfl, ?_⟩
        rw [eB]; exact key
end
section
local macro_rules | `(tactic| wtm_at "call") => `(tactic| (apply j_sorted; (rfl); (rfl); (rfl); (with_reducible rfl); (rfl); (assumption); (wtm_at "pa")))
local macro_rules | `(tactic| wtm_at "call") => `(tactic| (apply k_tupleF; (rfl); (rfl); (rfl); (wtm_at "K"); (with_reducible rfl); (assumption); (wtm_at "pa")))
local macro_rules | `(tactic| wtm_at "pe") => `(tactic| (apply j_dget; (assumption); (exact fun _ _ => rfl); (wtm_at "pe"); (wtm_at "pe")))
local macro_rules | `(tactic| wtm_at "ps") => `(tactic| (apply s_dput; (assumption); (rfl); (wtm_at "pe"); (wtm_at "pe"); (wtm_at "pe")))
variable {P : Program} {w : World} {K : PySem.W.Frag} {mg : Str → Option Value} {base : Heap}
theorem heap_out {ns : List Int} {ks : List (Int × Int)} (nd : (ks.map (·.1)).Nodup) (perm : ns.Perm (ks.map (·.1))) (pw : ns.Pairwise (· ≤ ·)) : Ris (ns.map fun n => (n, (dlook ks n).getD 0)) ∧ (∀ q, q ∈ (ns.map fun n => (n, (dlook ks n).getD 0)) ↔ q ∈ ks) ∧ ns.length = ks.length := by
 obtain ⟨sk1, sk2⟩ := sort_keys nd perm pw
 exact ⟨sk1, sk2, by rw [perm.length_eq, List.length_map]⟩
abbrev sCut : Stmt := top 40
theorem scCut : FnScope ["heap", "need", "counts", "size", "many"] ["heap"] (defScope sCut) := ⟨rfl, rfl, rfl, by decide +kernel, rfl, by decide +kernel, by decide +kernel⟩
def spCut : Sp := fun vs H Q _ => ∃ (h : Addr) (need : Int) (qs : List (Int × Int)), vs = [.ref h] ∧ HeapAt H h need qs ∧ qs.length ≤ 8 ∧ (∀ q ∈ qs, q.2 ≤ 10 ^ 12 - 1) ∧ ∀ (h' : Addr) (need' : Int) (qs' : List (Int × Int)) (H' : Hp), L2.Same H H' → HeapAt H' h' need' qs' → need' ≤ 10 ^ 9 → (∀ q ∈ qs', q.1 ≤ 10 ^ 9 ∧ q.2 ≤ 10 ^ 12 - 1) → qs'.length ≤ qs.length → Q (.ref h') H'
theorem ok_cut {f : Addr} {fd : FuncData} (F : Fun K "_law_cut" "_law_cut" sCut f fd) (mS : mg "sorted" = none) (mT : mg "tuple" = none) : FnOk P w K mg base CX0 1 f fd ["heap"] spCut := by
 refine Br.Fun.j F scCut (fun vs H Q E h => ?_) (fun cdv A outer s H vs Q E hr h => ?_)
 · obtain ⟨_, _, _, rfl, _⟩ := h; rfl
 · obtain ⟨hp, need, qs, rfl, hh, hql, hq2, h⟩ := h
   have nd := scCut.nd
   have hsz : (sizeLine : Nat) = 16777216 := sizeLine_eq
   have e9 : (10 : Int) ^ Int.toNat 9 = 1000000000 := by decide
   obtain ⟨t, ob, us, h1, hb, h2, h3, h4⟩ := id hh
   have sq : ∀ {G : Hp}, L2.Same H G → SqT K G t us := fun s => .inl (.inr ⟨_, s _ _ h2⟩)
   have hul := h3.1
   refine' ⟨_, ?d, ?r⟩
   case d => wtm_at "body"
   case r =>
    refine ⟨_, rfl, .inr (.inl ⟨hp, _, 0, _, rfl, rfl, SqT.of h1, (show atI [V.int need, V.ref t] 0 = some (.int need) from rfl), ?_⟩)⟩
    wtm_at "rd"
    refine fun d H1 hd s1 e1 => ?_
    refine ⟨_, rfl, .inr (.inl ⟨hp, _, 1, _, rfl, rfl, SqT.of (s1 _ _ h1), (show atI [V.int need, V.ref t] 1 = some (.ref t) from rfl), t, rfl, .inr ⟨⟨us, sq s1⟩, ?_⟩⟩)⟩
    obtain ⟨nn, hnn⟩ : ∃ n, n = 1 + need % ((10 : Int) ^ Int.toNat 9 - 1) := ⟨_, rfl⟩
    have hn1 : 1 ≤ nn ∧ nn ≤ 10 ^ 9 := by rw [hnn, e9]; omega
    refine for_tup (K := K) (a := t) (xs := us) (fun i σ G => L2.Same H G ∧ ∃ (ks : List (Int × Int)) (x3 x4 : Option V), ks.length ≤ i ∧ (ks.map (·.1)).Nodup ∧ (∀ q ∈ ks, 1 ≤ q.1 ∧ q.1 ≤ 10 ^ 9 ∧ 1 ≤ q.2 ∧ q.2 ≤ 10 ^ 12 - 1) ∧ G d = some (.dK (vv2 ks)) ∧ σ = [some (.ref hp), some (.int nn), some (.ref d), x3, x4])
     ⟨s1, [], none, none, Nat.le_refl _, List.nodup_nil, by simp, e1, by rw [hnn]; rfl⟩ (fun i σ G _ ⟨sG, _⟩ => sq sG) ?_ ?_
    · rintro i x σ G hx ⟨sG, ks, x3, x4, hkl, hnd, hks, eG, rfl⟩
      obtain ⟨q, hq, r, rfl, hrr⟩ := h3.2 i x hx
      obtain ⟨b1, b2, b3, b4⟩ := h4.bd q (List.mem_of_getElem? hq)
      have b5 := hq2 q (List.mem_of_getElem? hq)
      have hi := (List.getElem?_eq_some_iff.mp hq).1
      refine ⟨r, _, rfl, SqT.of (sG _ _ hrr), rfl, _, _, rfl, _, _, rfl, rfl, ?_⟩
      obtain ⟨key, hkey⟩ : ∃ n, n = 1 + q.1 % ((10 : Int) ^ Int.toNat 9 - 1) := ⟨_, rfl⟩
      have hk1 : 1 ≤ key ∧ key ≤ 10 ^ 9 := by rw [hkey, e9]; omega
      have hlen : (vv2 ks).length = ks.length := by unfold vv2; rw [List.length_map]
      have dp := DPut.k (k := .inl key) (v := .int q.2) eG (by rw [hlen]; omega)
      rw [hkey] at dp
      wtm_at "rd"
      refine ⟨d, _, rfl, dp, fun b o e => ?_, dput ks key q.2, _, _, ?_, dput_nodup _ _ hnd, fun c hc => ?_, by rw [upd_same, ← hkey, put_vv2], rfl⟩
      · rw [upd_ne (ne_of_none e hd)]; exact sG _ _ e
      · have := dput_len ks key q.2; omega
      · rcases dput_mem hc with z | rfl
        · exact hks c z
        · exact ⟨hk1.1, hk1.2, b3, b5⟩
    · rintro σ G ⟨sG, ks, x3, x4, hkl, hnd, hks, eG, rfl⟩
      have hk8 : ks.length ≤ 8 := by omega
      have eG' := eG
      rw [vv2_ikv] at eG'
      refine ⟨_, rfl, _, rfl, ⟨d, _, rfl, eG', by rw [List.length_map]; omega, fun l ns H9 hl s9 e9' perm pw => ?_⟩⟩
      have perm : ns.Perm (ks.map (·.1)) := by rw [List.map_map] at perm; exact perm
      obtain ⟨sk1, sk2, hnl⟩ := heap_out hnd perm pw
      have e9d := s9 _ _ eG
      refine ⟨l, rfl, .inl ⟨⟨_, SqL.of e9'⟩, ?_⟩⟩
      refine heap_cmp (by omega) perm rfl e9' e9d ?_ ?_
      · exact fun x0 m c H2 N ys dg hN => ⟨_, rfl, _, rfl, _, rfl, d, .int c, rfl, dg, lenLe (n := 2) rfl (by decide), fun r H3' _ s3' e3' => hN r H3' s3' e3'⟩
      · intro ys H2 sh hy hk pl H11 hpl s11 e11
        refine ⟨pl, _, rfl, SqL.of e11, fun t' ob' H12 ht bo s12 e12' => ?_⟩
        refine ⟨lenLe (n := 2) rfl (by decide), fun hq' H13 hh' s13 e13 => ?_⟩
        have sA : L2.Same G H13 := s9.trans (sh.trans (s11.trans (s12.trans s13)))
        have bd : ∀ q ∈ (ns.map fun n => (n, (dlook ks n).getD 0)), 1 ≤ q.1 ∧ q.1 ≤ 10 ^ 9 ∧ 1 ≤ q.2 ∧ q.2 ≤ 10 ^ 12 - 1 := fun q hq => hks q ((sk2 q).mp hq)
        refine h hq' nn _ H13 (sG.trans sA) ⟨t', ob', ys, e13, bo, s13 _ _ e12', hk.same (s11.trans (s12.trans s13)), ⟨by rw [List.length_map]; omega, hn1.1, by omega, fun q hq => ?_, sk1⟩⟩ hn1.2 (fun q hq => ⟨(bd q hq).2.1, (bd q hq).2.2.2⟩) (by rw [List.length_map]; omega)
        obtain ⟨b1, b2, b3, b4⟩ := bd q hq
        exact ⟨b1, by omega, b3, by omega⟩
end
section
local macro_rules | `(tactic| wtm_at "call") => `(tactic| (apply j_sorted; (rfl); (rfl); (rfl); (with_reducible rfl); (rfl); (assumption); (wtm_at "pa")))
local macro_rules | `(tactic| wtm_at "call") => `(tactic| (apply k_tupleF; (rfl); (rfl); (rfl); (wtm_at "K"); (with_reducible rfl); (assumption); (wtm_at "pa")))
local macro_rules | `(tactic| wtm_at "pe") => `(tactic| first | (apply j_dictP; (rfl); (rfl); (rfl); (with_reducible rfl); (rfl); (assumption); (wtm_at "pa")) | (apply j_dget2; (assumption); (rfl); (rfl); (rfl); (rfl); (wtm_at "pe"); (wtm_at "pe"); (wtm_at "pe")) | (apply j_dget; (assumption); (exact fun _ _ => rfl); (wtm_at "pe"); (wtm_at "pe")))
local macro_rules | `(tactic| wtm_at "ps") => `(tactic| (apply s_dput; (assumption); (rfl); (wtm_at "pe"); (wtm_at "pe"); (wtm_at "pe")))
variable {P : Program} {w : World} {K : PySem.W.Frag} {mg : Str → Option Value} {base : Heap}
abbrev sMore : Stmt := top 43
theorem scMore : FnScope ["heap", "size", "counts"] ["heap", "size"] (defScope sMore) := ⟨rfl, rfl, rfl, by decide +kernel, rfl, by decide +kernel, by decide +kernel⟩
def spMore : Sp := fun vs H Q _ => ∃ (h : Addr) (sz need : Int) (qs : List (Int × Int)), vs = [.ref h, .int sz] ∧ HeapAt H h need qs ∧ qs.length ≤ 8 ∧ 1 ≤ sz ∧ sz ≤ 10 ^ 12 ∧ (∀ q ∈ qs, q.2 ≤ 10 ^ 12) ∧ ∀ (h' : Addr) (qm : List (Int × Int)) (H' : Hp), L2.Same H H' → HeapAt H' h' need qm → (∀ n, (dlook qm n).getD 0 = (dlook qs n).getD 0 + if sz = n then 1 else 0) → qm.length ≤ qs.length + 1 → Q (.ref h') H'
theorem ok_more {f : Addr} {fd : FuncData} (F : Fun K "_law_more" "_law_more" sMore f fd) (mD : mg "dict" = none) (mS : mg "sorted" = none) (mT : mg "tuple" = none) : FnOk P w K mg base CX0 1 f fd ["heap", "size"] spMore := by
 refine Br.Fun.j F scMore (fun vs H Q E h => ?_) (fun cdv A outer s H vs Q E hr h => ?_)
 · obtain ⟨_, _, _, _, rfl, _⟩ := h; rfl
 · obtain ⟨hp, sz, need, qs, rfl, hh, hql, hs1, hs2, hq2, h⟩ := h
   have nd := scMore.nd
   have hsz : (sizeLine : Nat) = 16777216 := sizeLine_eq
   obtain ⟨t, ob, us, h1, hb, h2, h3, h4⟩ := id hh
   obtain ⟨as, rfl, hasl, hat⟩ := kinds_refs h3
   refine' ⟨_, ?d, ?r⟩
   case d => wtm_at "body"
   case r =>
    refine ⟨_, rfl, .inr (.inl ⟨hp, _, 1, _, rfl, rfl, SqT.of h1, (show atI [V.int need, V.ref t] 1 = some (.ref t) from rfl), ?_⟩)⟩
    refine ⟨t, vv2 qs, rfl, ⟨ob, as, hb, h2, by unfold vv2; rw [List.length_map]; exact hasl, by unfold vv2; rw [List.length_map]; omega, fun i a kv e1 e2 => ?_⟩, fun d H1 hd s1 e1 => ?_⟩
    · unfold vv2 at e2
      rw [List.getElem?_map] at e2
      obtain ⟨q, hq, rfl⟩ := Option.map_eq_some_iff.mp e2
      exact .inl (hat i a q e1 hq)
    rw [merge_vv2 h4.ris.nodup] at e1
    have hlen : (vv2 qs).length = qs.length := by unfold vv2; rw [List.length_map]
    have dg := DGet.k (k := .inl sz) e1
    rw [val_vv2] at dg
    have gd : ((dlook qs sz).map V.int).getD (.int 0) = .int ((dlook qs sz).getD 0) := by cases dlook qs sz <;> rfl
    have dp := DPut.k (k := .inl sz) (v := .int ((dlook qs sz).getD 0 + 1)) e1 (by rw [hlen]; omega)
    refine ⟨_, rfl, d, rfl, .inl ⟨_, .inl e1⟩, _, rfl, _, dg, ?_⟩
    rw [gd]
    refine .inl ⟨_, _, rfl, rfl, _, rfl, _, rfl, d, _, rfl, dp, ?_⟩
    rw [put_vv2]
    generalize hG : upd H1 d (.dK (vv2 (dput qs sz ((dlook qs sz).getD 0 + 1)))) = G
    have eG : G d = some (.dK (vv2 (dput qs sz ((dlook qs sz).getD 0 + 1)))) := by rw [← hG]; exact upd_same
    have sG : L2.Same H G := fun b o e => by rw [← hG, upd_ne (ne_of_none e hd)]; exact s1 _ _ e
    have hnd := dput_nodup (ks := qs) sz ((dlook qs sz).getD 0 + 1) h4.ris.nodup
    have hkl := dput_len qs sz ((dlook qs sz).getD 0 + 1)
    have hlk : ∀ n, (dlook (dput qs sz ((dlook qs sz).getD 0 + 1)) n).getD 0 = (dlook qs n).getD 0 + if sz = n then 1 else 0 := fun n => by
     rw [dput_look]
     by_cases z : sz = n
     · rw [if_pos z, if_pos z, ← z]; rfl
     · rw [if_neg z, if_neg z]; omega
    have hks : ∀ q ∈ dput qs sz ((dlook qs sz).getD 0 + 1), 1 ≤ q.1 ∧ q.1 ≤ 10 ^ 12 ∧ 1 ≤ q.2 ∧ q.2 ≤ 10 ^ 13 := fun q hq => by
     rcases dput_mem hq with z | rfl
     · exact h4.bd q z
     · refine ⟨hs1, hs2, ?_, ?_⟩
       · show 1 ≤ (dlook qs sz).getD 0 + 1
         have := dl0 (ks := qs) (fun x hx => by have := (h4.bd x hx).2.2.1; omega) sz
         omega
       · show (dlook qs sz).getD 0 + 1 ≤ 10 ^ 13
         cases e : dlook qs sz with
         | none => show (0 : Int) + 1 ≤ 10 ^ 13; omega
         | some c => have := hq2 _ (dlook_some e); have : c ≤ 10 ^ 12 := this; show c + 1 ≤ 10 ^ 13; omega
    generalize dput qs sz ((dlook qs sz).getD 0 + 1) = ks at *
    refine ⟨_, rfl, .inr (.inl ⟨hp, _, 0, _, rfl, rfl, SqT.of (sG _ _ h1), (show atI [V.int need, V.ref t] 0 = some (.int need) from rfl), ?_⟩)⟩
    have eG' := eG
    rw [vv2_ikv] at eG'
    refine ⟨_, rfl, ⟨d, _, rfl, eG', by rw [List.length_map]; omega, fun l ns H9 hl s9 e9' perm pw => ?_⟩⟩
    have perm : ns.Perm (ks.map (·.1)) := by rw [List.map_map] at perm; exact perm
    obtain ⟨sk1, sk2, hnl⟩ := heap_out hnd perm pw
    have e9d := s9 _ _ eG
    refine ⟨l, rfl, .inl ⟨⟨_, SqL.of e9'⟩, ?_⟩⟩
    refine heap_cmp (by omega) perm rfl e9' e9d ?_ ?_
    · exact fun x0 m c H2 N ys dg hN => ⟨_, rfl, _, rfl, _, rfl, d, .int c, rfl, dg, lenLe (n := 2) rfl (by decide), fun r H3' _ s3' e3' => hN r H3' s3' e3'⟩
    · intro ys H2 sh hy hk pl H11 hpl s11 e11
      refine ⟨pl, _, rfl, SqL.of e11, fun t' ob' H12 ht bo s12 e12' => ?_⟩
      refine ⟨lenLe (n := 2) rfl (by decide), fun hq' H13 hh' s13 e13 => ?_⟩
      have sA : L2.Same G H13 := s9.trans (sh.trans (s11.trans (s12.trans s13)))
      refine h hq' _ H13 (sG.trans sA) ⟨t', ob', ys, e13, bo, s13 _ _ e12', hk.same (s11.trans (s12.trans s13)), ⟨by rw [List.length_map]; omega, h4.n0, h4.n1, fun q hq => hks q ((sk2 q).mp hq), sk1⟩⟩ (fun n => ?_) (by rw [List.length_map]; omega)
      rw [look_same sk1.nodup hnd sk2 n]; exact hlk n
end
section
local macro_rules | `(tactic| wtm_at "ps") => `(tactic| (apply s_try1; (assumption); (rfl); (rfl); (rfl); (rfl); (decide +kernel); (wtm_at "pssx"); (intro ea; wtm_at "pss")))
variable {P : Program} {w : World} {K : PySem.W.Frag} {mg : Str → Option Value} {base : Heap}
abbrev sTold : Stmt := top 41
theorem scTold : FnScope ["heap", "found"] ["heap"] (defScope sTold) := ⟨rfl, rfl, rfl, by decide +kernel, rfl, by decide +kernel, by decide +kernel⟩
def spTold : Sp := fun vs H Q _ => ∃ (h : Addr) (need : Int) (qs : List (Int × Int)) (ms : List (List Int × Int)), vs = [.ref h] ∧ HeapAt H h need qs ∧ Ahead need qs ms ∧ ms.length < 64 ∧ ((∃ q ∈ ms, 100 < q.1.length) → ∀ H', L2.Same H H' → Q .non H') ∧
 ((∀ q ∈ ms, q.1.length ≤ 100) → ∀ (a : Addr) (bs : List Addr) (rs : List (List Int × Int)) (H' : Hp), L2.Same H H' → (∃ ob, bareT ob ∧ H' a = some (.frz ob (.tup (bs.map V.ref)))) → PrsAt H' bs rs → rs.Perm ms → rs.Pairwise (fun u v => pLt v u = false) → Q (.ref a) H')
theorem ok_told {f : Addr} {fd : FuncData} {C B : Addr} (F : Fun K "_law_told" "_law_told" sTold f fd) (cM : Callee (CXF P w) P w K mg base "made_ahead" 4 ["heap"] (spMade C)) (eR : ECls K mg "TooMany" C B) : FnOk P w K mg base CX0 5 f fd ["heap"] spTold := by
 refine Br.Fun.j F scTold (fun vs H Q E h => ?_) (fun cdv A outer s H vs Q E hr h => ?_)
 · obtain ⟨_, _, _, _, rfl, _⟩ := h; rfl
 · obtain ⟨hp, need, qs, ms, rfl, hh, hA, hml, hN, hT⟩ := h
   have nd := scTold.nd
   refine' ⟨_, ?d, ?r⟩
   case d => wtm_at "body"
   case r =>
    refine ⟨_, rfl, hp, need, qs, ms, rfl, hh, hA, hml, fun hb H1 s1 => ⟨eR.selfX, C, rfl, fun ea hea => ?_⟩, fun hg a bs rs H1 s1 e1 hP hpm hpw => ?_⟩
    · exact ⟨_, rfl, hN hb _ (s1.trans (Br.Same.upd hea))⟩
    · exact ⟨_, rfl, hT hg a bs rs H1 s1 e1 hP hpm hpw⟩
end
section
variable {P : Program} {w : World} {K : PySem.W.Frag} {mg : Str → Option Value} {base : Heap}
abbrev sTms : Stmt := top 42
theorem scTms : FnScope ["filling", "times", "found", "lot", "many"] ["filling", "times"] (defScope sTms) := ⟨rfl, rfl, rfl, by decide +kernel, rfl, by decide +kernel, by decide +kernel⟩
def spTms : Sp := fun vs H Q _ => ∃ (f : Addr) (t : Int) (fs : List (List Int × Int)), vs = [.ref f, .int t] ∧ FillAt H f fs ∧ 1 ≤ t ∧ t ≤ 100 ∧ fs.length ≤ 64 ∧ (∀ g ∈ fs, g.1.length ≤ 100) ∧ ∀ (f' : Addr) (H' : Hp), L2.Same H H' → FillAt H' f' (scL t fs) → Q (.ref f') H'
theorem ok_tms {f : Addr} {fd : FuncData} (F : Fun K "_law_times" "_law_times" sTms f fd) (mT : mg "tuple" = none) : FnOk P w K mg base CX0 1 f fd ["filling", "times"] spTms := by
 refine Br.Fun.j F scTms (fun vs H Q E h => ?_) (fun cdv A outer s H vs Q E hr h => ?_)
 · obtain ⟨_, _, _, rfl, _⟩ := h; rfl
 · obtain ⟨fa, t, fs, rfl, ⟨us, h1, h2⟩, ht1, ht2, hfl, hll, h⟩ := h
   have nd := scTms.nd
   have hsz : (sizeLine : Nat) = 16777216 := sizeLine_eq
   have hul := h2.1
   refine' ⟨_, ?d, ?r⟩
   case d => wtm_at "body"
   case r =>
    refine ⟨by simp, fun l H1 nl s1 e1 => ?_⟩
    refine ⟨_, rfl, fa, rfl, .inr ⟨⟨_, (h1.same s1).sq⟩, ?_⟩⟩
    refine for_tup (K := K) (a := fa) (xs := us) (fun i σ G => L2.Same H G ∧ ∃ (vs : List V) (x3 x4 : Option V), G l = some (.lst vs) ∧ vs.length = i ∧ Lots G vs (scL t (fs.take i)) ∧ σ = [some (.ref fa), some (.int t), some (.ref l), x3, x4])
     ⟨s1, [], none, none, e1, rfl, Lots.nil, rfl⟩ (fun i σ G _ ⟨sG, _⟩ => (h1.same sG).sq) ?_ ?_
    · rintro i x σ G hx ⟨sG, vs, x3, x4, eG, hvl, hL, rfl⟩
      obtain ⟨q, hq, r, c, rfl, hrr, hcc⟩ := h2.2 i x hx
      have hi := (List.getElem?_eq_some_iff.mp hq).1
      have hql := hll q (List.mem_of_getElem? hq)
      refine ⟨r, _, rfl, SqT.of (sG _ _ hrr), rfl, _, _, rfl, _, _, rfl, rfl, ?_⟩
      refine ⟨_, rfl, .inl ⟨rfl, _, SqL.of eG⟩, ?_⟩
      refine ⟨_, rfl, c, rfl, .inr ⟨⟨_, SqT.of (sG _ _ hcc)⟩, ?_⟩⟩
      refine cmp_tup (K := K) (a := c) (xs := q.1.map V.int) (fun j ys σ G' => G' = G ∧ ys = ((q.1.map (· * t)).take j).map V.int ∧ ∃ x : Option V, σ = [x, some (.ref fa), some (.int t), some (.ref l), some (.ref c), some (.int q.2)])
       ⟨rfl, rfl, none, rfl⟩ (by rw [List.length_map]; omega) (fun j ys σ G' _ ⟨e3, e4, _⟩ => ⟨by rw [e3]; exact SqT.of (sG _ _ hcc), by rw [e4, List.length_map, List.length_take]; omega⟩) ?_ ?_
      · rintro j x ys σ G' N hx ⟨rfl, rfl, x0, rfl⟩ hN
        rw [List.getElem?_map] at hx
        obtain ⟨z, hz, rfl⟩ := Option.map_eq_some_iff.mp hx
        refine ⟨_, rfl, _, rfl, _, _, rfl, rfl, IntMulOk.of_right (intBits_le_64 (by omega) (by omega)), hN _ _ _ ⟨rfl, ?_, _, rfl⟩⟩
        rw [List.take_add_one, List.getElem?_map, hz, List.map_append]; rfl
      · rintro ys σ G' ⟨eG', rfl, x0, rfl⟩ pl G1 npl s2 e2
        subst eG'
        rw [show (q.1.map V.int).length = (q.1.map (· * t)).length by rw [List.length_map, List.length_map], List.take_length] at e2
        refine ⟨pl, _, rfl, SqL.of e2, fun tt G2 ntt s3 e3 => ?_⟩
        refine ⟨_, rfl, lenLe (n := 2) rfl (by decide), fun pr G3 npr s4 e4 => ?_⟩
        have sA := s2.trans (s3.trans s4)
        refine ⟨l, vs, _, rfl, rfl, sA _ _ eG, by omega, fun b o e => ?_, vs ++ [.ref pr], _, _, upd_same, by rw [List.length_append, hvl]; rfl, ?_, rfl⟩
        · rw [upd_ne (ne_of_none e nl)]; exact sA _ _ (sG _ _ e)
        · have tl : Tu G3 (upd G3 l (.lst (vs ++ [.ref pr]))) := fun b o hb ht => by
           rw [upd_ne (fun z => by subst z; rw [sA _ _ eG] at hb; cases hb; rcases ht with ⟨_, z⟩ | ⟨_, _, z⟩ <;> cases z)]; exact hb
          rw [List.take_add_one, hq]
          show Lots _ _ (List.map _ (fs.take i ++ [q]))
          rw [List.map_append]
          exact ((hL.tu (Tu.of sA)).snoc (q := (q.1.map (· * t), q.2)) ⟨pr, tt, rfl, e4, s4 _ _ e3⟩).tu tl
    · rintro σ G ⟨sG, vs, x3, x4, eG, hvl, hL, rfl⟩
      rw [hul, List.take_length] at hL
      refine ⟨_, rfl, l, _, rfl, SqL.of eG, fun a G4 na s4 e4 => ?_⟩
      exact h a G4 (sG.trans s4) ⟨_, .inl e4, hL.tu (Tu.of s4)⟩
end
def dLot (g : List Int × Int) : PyData := .tuple [.tuple (g.1.map PyData.int), .int g.2]
def dFill (fs : List (List Int × Int)) : PyData := .tuple (fs.map dLot)
theorem can_ints : ∀ ns : List Int, PyData.canLayAll0 (ns.map PyData.int) = true
 | [] => rfl
 | n :: r => by rw [List.map_cons]; simp only [PyData.canLayAll0, PyData.canLay0, Bool.true_and]; exact can_ints r
theorem dep_ints : ∀ ns : List Int, PyData.depthAll (ns.map PyData.int) ≤ 1
 | [] => by simp [PyData.depthAll]
 | n :: r => by
  have := dep_ints r
  rw [List.map_cons]; simp only [PyData.depthAll, PyData.depth]; omega
theorem can_lots : ∀ fs : List (List Int × Int), PyData.canLayAll0 (fs.map dLot) = true
 | [] => rfl
 | g :: r => by rw [List.map_cons]; unfold dLot; simp only [PyData.canLayAll0, PyData.canLay0, can_ints, Bool.true_and]; exact can_lots r
theorem dep_lots : ∀ fs : List (List Int × Int), PyData.depthAll (fs.map dLot) ≤ 3
 | [] => by simp [PyData.depthAll]
 | g :: r => by
  have := dep_lots r
  have := dep_ints g.1
  rw [List.map_cons]; unfold dLot at *; simp only [PyData.depthAll, PyData.depth]; omega
theorem pl_fill (fs : List (List Int × Int)) : Pl (dFill fs) := by
 refine ⟨?_, ?_⟩
 · unfold dFill; simp only [PyData.canLay0]; exact can_lots fs
 · have := dep_lots fs
   unfold dFill; simp only [PyData.depth]; omega
theorem Lots.repsF {H : Hp} : ∀ {vs : List V} {fs : List (List Int × Int)}, Lots H vs fs → RepsF H vs (fs.map dLot)
 | [], [], _ => .nil
 | [], _ :: _, h => by have := h.1; simp at this
 | _ :: _, [], h => by have := h.1; simp at this
 | v :: vs, q :: fs, h => by
  obtain ⟨q', e, r, c, rfl, hr, hc⟩ := h.2 0 v rfl
  simp at e; subst e
  exact .cons (.tup (.inl hr) (.cons (.tup (.inl hc) (RepsF.ints _)) (.cons (.int _) .nil))) (Lots.repsF ⟨by simpa using h.1, fun i u e => h.2 (i + 1) u (by simpa using e)⟩)
theorem FillAt.rep {H : Hp} {f : Addr} {fs : List (List Int × Int)} (x : FillAt H f fs) : RepF H (.ref f) (dFill fs) := by
 obtain ⟨vs, h1, h2⟩ := x
 exact .tup (h1.imp id fun ⟨o, _, e⟩ => ⟨o, e⟩) h2.repsF
theorem prs_keys {H : Hp} : ∀ {bs : List Addr} {rs : List (List Int × Int)}, PrsAt H bs rs → ∃ cs : List Addr, cs.length = rs.length ∧ ∀ (i : Nat) b c q, bs[i]? = some b → cs[i]? = some c → rs[i]? = some q → H b = some (.tup [.ref c, .int q.2]) ∧ H c = some (.tup (q.1.map V.int))
 | [], [], _ => ⟨[], rfl, fun i b c q h => by simp at h⟩
 | [], _ :: _, h => by have := h.1; simp at this
 | _ :: _, [], h => by have := h.1; simp at this
 | b :: bs, q :: rs, h => by
  obtain ⟨q', c, e1, e2, e3⟩ := h.2 0 b rfl
  simp at e1; subst e1
  obtain ⟨cs, h1, h2⟩ := prs_keys (bs := bs) (rs := rs) ⟨by simpa using h.1, fun i u e => h.2 (i + 1) u (by simpa using e)⟩
  refine ⟨c :: cs, by rw [List.length_cons, List.length_cons, h1], fun i b' c' q' x1 x2 x3 => ?_⟩
  cases i with
  | zero => simp at x1 x2 x3; subst x1; subst x2; subst x3; exact ⟨e2, e3⟩
  | succ i => exact h2 i b' c' q' (by simpa using x1) (by simpa using x2) (by simpa using x3)
theorem prs_pairs {H : Hp} {fa : Addr} {bs : List Addr} {rs : List (List Int × Int)} (h : PrsAt H bs rs) (hf : ∃ ob, bareT ob ∧ H fa = some (.frz ob (.tup (bs.map V.ref)))) (hl : rs.length ≤ 1000) : PairsT H fa (vT rs) := by
 obtain ⟨ob, b1, e1⟩ := hf
 obtain ⟨cs, h1, h2⟩ := prs_keys h
 have hv : (vT rs).length = rs.length := by unfold vT; rw [List.length_map]
 refine ⟨ob, bs, cs, b1, e1, by rw [hv]; exact h.1, by rw [hv]; exact h1, by omega, fun i a b kv x1 x2 x3 => ?_⟩
 unfold vT at x3
 rw [List.getElem?_map] at x3
 obtain ⟨q, hq, rfl⟩ := Option.map_eq_some_iff.mp x3
 obtain ⟨y1, y2⟩ := h2 i a b q x1 x2 hq
 exact ⟨y1, by rw [kV_inl]; exact y2⟩
theorem bound_two {need g c : Int} (hc : 0 ≤ c) : c ≤ aheadB need g c ∧ aheadB need g c ≤ 2 * c := by
 obtain ⟨p1, p2⟩ := prt_bd need g
 unfold aheadB bnd
 generalize prt need g = p at *
 have h1 : c ≤ ((p + 1) * c + p - 1) / p := by
  refine (Int.le_ediv_iff_mul_le (by omega)).mpr ?_
  rw [Int.add_mul, Int.mul_comm c p]; omega
 refine ⟨by omega, ?_⟩
 by_cases z : c = 0
 · subst z
   have : min ((3 * 0 + 1) / 2) (((p + 1) * 0 + p - 1) / p) ≤ ((3 * 0 + 1) / 2 : Int) := Int.min_le_left _ _
   omega
 · have := Int.min_le_left ((3 * c + 1) / 2) (((p + 1) * c + p - 1) / p)
   omega
theorem cut_ints {ns : List Int} {lo hi : Option Int} : ∀ y ∈ cutV (ns.map V.int) lo hi, ∃ z, y = V.int z := fun y hy => by
 have h1 : y ∈ ns.map V.int := List.mem_of_mem_drop (List.mem_of_mem_take hy)
 obtain ⟨z, _, e⟩ := List.mem_map.mp h1
 exact ⟨z, e.symm⟩
theorem c_isnotJ {X : Cx} : JCop X .IsNot (fun x y H Q => (∃ a b : Bool, x = .bl a ∧ y = .bl b ∧ Q (.bl (!decide (a = b))) H) ∨ (y = .non ∧ Q (.bl (!decide (x = .non))) H)) := ⟨c_isnot.h.or c_isnotN.h⟩
section
local macro_rules | `(tactic| wtm_at "cop") => `(tactic| first | (apply c_neF; assumption) | apply c_isnotJ | apply c_isN)
local macro_rules | `(tactic| wtm_at "call") => `(tactic| first | (apply k_tupleF; (rfl); (rfl); (rfl); (wtm_at "K"); (with_reducible rfl); (assumption); (wtm_at "pa")) | (apply k_sortedT2s; (rfl); (rfl); (rfl); (wtm_at "K"); (with_reducible rfl); (rfl); (assumption); (wtm_at "pa")))
local macro_rules | `(tactic| wtm_at "pe") => `(tactic| first | (apply j_dictPT; (assumption); (rfl); (rfl); (rfl); (with_reducible rfl); (rfl); (assumption); (wtm_at "pa")) | (apply j_dget2; (assumption); (rfl); (rfl); (rfl); (rfl); (wtm_at "pe"); (wtm_at "pe"); (wtm_at "pe")) | (apply j_dget; (assumption); (exact fun _ _ => rfl); (wtm_at "pe"); (wtm_at "pe")))
local macro_rules | `(tactic| wtm_at "ps") => `(tactic| first | (apply s_setMid "filling"; (rfl); (wtm_at "at"); (assumption); (rfl); (rfl); (wtm_at "pe")) | (apply s_setMid "great"; (rfl); (wtm_at "at"); (assumption); (rfl); (rfl); (wtm_at "pe")))
local macro_rules | `(tactic| wtm_at "ps") => `(tactic| (apply s_dput; (assumption); (rfl); (wtm_at "pe"); (wtm_at "pe"); (wtm_at "pe")))
variable {P : Program} {w : World} {K : PySem.W.Frag} {mg : Str → Option Value} {base : Heap}
abbrev sLaw : Stmt := top 44
theorem scLaw : FnScope ["script", "cell", "heap", "number", "times", "filling", "size", "great", "counts"] ["script"] (defScope sLaw) := ⟨rfl, rfl, rfl, by decide +kernel, rfl, by decide +kernel, by decide +kernel⟩
def spLaw (K : PySem.W.Frag) : Sp := fun vs H Q _ => ∃ (a : Addr) (ns : List Int), vs = [.ref a] ∧ SqL K H a (ns.map V.int) ∧ ns.length ≤ 63 ∧ ∀ H', Q (.bl true) H'
theorem ok_law {f : Addr} {fd : FuncData} {C : Addr} (F : Fun K "law" "law" sLaw f fd) (cC : Callee CX0 P w K mg base "_law_cell" 1 ["script", "k"] (spCell K)) (cD : Callee CX0 P w K mg base "_law_deal" 1 ["cell", "salt"] spDeal) (cH : Callee CX0 P w K mg base "_law_heap" 1 ["number", "kinds", "most"] spHeap) (cU : Callee CX0 P w K mg base "_law_cut" 1 ["heap"] spCut)
 (cT : Callee CX0 P w K mg base "_law_told" 5 ["heap"] spTold) (cS : Callee CX0 P w K mg base "_law_times" 1 ["filling", "times"] spTms) (cM : Callee CX0 P w K mg base "_law_more" 1 ["heap", "size"] spMore) (cF : Callee CX0 P w K mg base "filling_holds" 5 ["heap", "filling"] spHolds) (cL : Callee CX0 P w K mg base "left_of" 3 ["heap", "filling"] spLeft)
 (cO : Callee CX0 P w K mg base "count_of" 1 ["filling"] spCof) (cB : Callee (CXF P w) P w K mg base "ahead_bound" 5 ["heap"] (spBound C)) (mDm : mg "divmod" = none) (mT : mg "tuple" = none) (mDi : mg "dict" = none) (mS : mg "sorted" = none) : FnOk P w K mg base CX0 6 f fd ["script"] (spLaw K) := by
 refine Br.Fun.j F scLaw (fun vs H Q E h => ?_) (fun cdv A outer s H vs Q E hr h => ?_)
 · obtain ⟨_, _, rfl, _⟩ := h; rfl
 · obtain ⟨a, ns, rfl, hS, hlen, k⟩ := h
   have nd := scLaw.nd
   have hsz : (sizeLine : Nat) = 16777216 := sizeLine_eq
   refine' ⟨_, ?d, ?r⟩
   case d => wtm_at "body"
   case r =>
    refine ⟨_, rfl, a, ns, 0, rfl, hS, by decide, fun c0 => ?_⟩
    refine ⟨lenLe (n := 1) rfl (by decide), fun p1 H1 hp1 s1 f1 => ?_⟩
    wtm_at "rd"
    refine ⟨a, _, rfl, .inl ⟨s1.seq hS, fun p2 H2 hp2 s2 f2 => ?_⟩⟩
    have hcl : (cutV (ns.map V.int) (some 1) (some 13)).length ≤ 63 := Nat.le_trans (cutV_length _ _ _) (by rw [List.length_map]; exact hlen)
    refine .inr (.inl ⟨p1, p2, _, _, rfl, rfl, s2 _ _ f1, f2, by simp only [List.length_cons, List.length_nil]; omega, fun p3 Hc hp3 s3 hp => ?_⟩)
    generalize hcells : [V.int c0] ++ cutV (ns.map V.int) (some 1) (some 13) = cells at hp
    have hint : ∀ y ∈ cells, ∃ z, y = V.int z := fun y hy => by
     rw [← hcells] at hy
     rcases List.mem_append.mp hy with hy | hy
     · exact ⟨_, List.mem_singleton.mp hy⟩
     · exact cut_ints y hy
    refine ⟨p3, rfl, .inl ⟨⟨_, SqL.of hp⟩, ?_⟩⟩
    refine for_list (K := K) (a := p3) (xs := cells) (fun i σ H2 => ∃ x1 x2 x3 x4 x5 x6 x7 x8 : Option V, σ = [some (.ref a), x1, x2, x3, x4, x5, x6, x7, x8] ∧ L2.Same Hc H2)
     ⟨none, none, none, none, none, none, none, none, rfl, L2.Same.refl Hc⟩ (fun i σ H2 _ ⟨_, _, _, _, _, _, _, _, _, sH⟩ => SqL.of (sH _ _ hp)) ?_ ?_
    · rintro i y σ H2 hi ⟨x1, x2, x3, x4, x5, x6, x7, x8, rfl, sH⟩
      obtain ⟨z, rfl⟩ := hint y (List.mem_of_getElem? hi)
      refine ⟨_, rfl, z, 1, rfl, by decide, by decide, fun n0 hn0 => ?_⟩
      have e12 : (10 : Int) ^ Int.toNat 12 = 1000000000000 := by decide
      wtm_at "rd"
      refine ⟨n0, 6, _, rfl, hn0, by decide, by decide, by decide, by decide, fun r h need n1 qs H3 s3' e3 hh hql hq9 hn1 => ?_⟩
      refine ⟨r, _, rfl, SqT.of e3, rfl, _, _, rfl, _, _, rfl, rfl, ?_⟩
      refine ⟨_, rfl, h, need, qs, rfl, hh, by omega, fun q hq => by have := hq9 q hq; rw [e12] at this; omega, fun hc nd' qc H4 s4 hh4 hn9 hqc hlc => ?_⟩
      wtm_at "rd"
      refine ⟨divB (by decide) (by decide), fun t5 H5 ht5 s5 e5 => ?_⟩
      refine ⟨t5, _, rfl, SqT.of e5, rfl, _, _, rfl, _, _, rfl, rfl, ?_⟩
      have hn2 : 0 ≤ n1 / 8 := by omega
      have htm : 0 ≤ n1 % 8 ∧ n1 % 8 < 8 := by omega
      generalize n1 / 8 = n2 at hn2 ⊢
      generalize n1 % 8 = tm0 at htm ⊢
      wtm_at "rd"
      obtain ⟨tm, htm'⟩ : ∃ x, x = tm0 + 2 := ⟨_, rfl⟩
      have ht1 : 1 ≤ tm ∧ tm ≤ 9 := by omega
      have sH5 : L2.Same Hc H5 := sH.trans (s3'.trans (s4.trans s5))
      have hh5 := hh4.tu (Tu.of s5)
      obtain ⟨_, _, _, _, _, _, _, h4⟩ := id hh5
      have hl6 : qc.length ≤ 6 := by omega
      have c0' : 0 ≤ cnt qc := sum_nn _ fun x hx => by
       obtain ⟨q, hq, rfl⟩ := List.mem_map.mp hx
       have := (h4.bd q hq).2.2.1; omega
      obtain ⟨ms, hA⟩ := ahead_total (cnt qc).toNat h4 (by omega)
      have hml := ahead_len _ (Nat.le_refl _) hA h4
      refine ⟨fun σ' H' => L2.Same H5 H' ∧ ∃ v : V, ((v = .non ∧ ∃ q ∈ ms, 100 < q.1.length) ∨ (∃ (fa : Addr) (bs : List Addr) (rs : List (List Int × Int)), v = .ref fa ∧ (∀ q ∈ ms, q.1.length ≤ 100) ∧ (∃ ob, bareT ob ∧ H' fa = some (.frz ob (.tup (bs.map V.ref)))) ∧ PrsAt H' bs rs ∧ rs.Perm ms ∧ rs.Pairwise (fun u v => pLt v u = false))) ∧
       σ' = [some (.ref a), some (.int z), some (.ref hc), some (.int n2), some (.int tm), some v, x6, x7, x8], ?_, ?_⟩
      · refine ⟨_, rfl, hc, nd', qc, ms, rfl, hh5, hA, by omega, fun hb H6 s6 => ⟨s6, .non, .inl ⟨rfl, hb⟩, by rw [htm']; rfl⟩, fun hg fa bs rs H6 s6 e6 hP hpm hpw => ⟨s6, .ref fa, .inr ⟨fa, bs, rs, rfl, hg, e6, hP, hpm, hpw⟩, by rw [htm']; rfl⟩⟩
      rintro σ' H6 ⟨s6, v, hv, rfl⟩
      have hh6 := hh5.tu (Tu.of s6)
      obtain ⟨tk, ob, us, g1, gb, g2, g3, _⟩ := id hh6
      have hul := g3.1
      -- the heap so many times as great
      refine ⟨fun σ' H' => L2.Same H6 H' ∧ ∃ gr : Addr, HeapAt H' gr (nd' * tm) (sc tm qc) ∧ σ' = [some (.ref a), some (.int z), some (.ref hc), some (.int n2), some (.int tm), some v, x6, some (.ref gr), x8], ?_, ?_⟩
      · have sq : ∀ {G : Hp}, L2.Same H6 G → SqT K G tk us := fun s => .inl (.inr ⟨_, s _ _ g2⟩)
        have h0 := h4.n0
        refine ⟨_, rfl, .inr (.inl ⟨hc, _, 0, _, rfl, rfl, SqT.of g1, (show atI [V.int nd', V.ref tk] 0 = some (.int nd') from rfl), _, rfl, _, _, rfl, rfl, IntMulOk.of_right (intBits_le_64 (by omega) (by omega)), ?_⟩)⟩
        refine ⟨_, rfl, .inr (.inl ⟨hc, _, 1, _, rfl, rfl, SqT.of g1, (show atI [V.int nd', V.ref tk] 1 = some (.ref tk) from rfl), tk, rfl, .inr ⟨⟨us, sq (L2.Same.refl _)⟩, ?_⟩⟩)⟩
        refine cmp_tup (K := K) (a := tk) (xs := us) (fun j ys σ G => L2.Same H6 G ∧ ys.length = j ∧ Kinds G ys ((sc tm qc).take j) ∧ ∃ x y : Option V, σ = [x, y, some (.ref a), some (.int z), some (.ref hc), some (.int n2), some (.int tm), some v, x6, x7, x8])
         ⟨L2.Same.refl _, rfl, Kinds.nil, none, none, rfl⟩ (by omega) (fun j ys σ G _ ⟨e3, e4, _⟩ => ⟨sq e3, by omega⟩) ?_ ?_
        · rintro j x ys σ G N hx ⟨sG, hyl, hk, x0, y0, rfl⟩ hN
          obtain ⟨q, hq, r, rfl, hrr⟩ := g3.2 j x hx
          refine ⟨r, _, rfl, SqT.of (sG _ _ hrr), rfl, _, _, rfl, _, _, rfl, rfl, ?_⟩
          refine ⟨_, rfl, _, rfl, _, _, rfl, rfl, IntMulOk.of_right (intBits_le_64 (by omega) (by omega)), _, rfl, lenLe (n := 2) rfl (by decide), fun r2 G2 n2' s2' e2' => hN _ _ _ ⟨sG.trans s2', by rw [List.length_append, hyl]; rfl, ?_, _, _, rfl⟩⟩
          unfold sc
          rw [List.take_add_one, List.getElem?_map, hq]
          unfold sc at hk
          exact (hk.same s2').snoc (q := (q.1 * tm, q.2)) e2'
        · rintro ys σ G ⟨sG, hyl, hk, x0, y0, rfl⟩ pl G1 npl s1' e1'
          rw [List.take_of_length_le (by unfold sc; rw [List.length_map]; omega)] at hk
          refine ⟨pl, _, rfl, SqL.of e1', fun tt ob3 G3 n3 b3 s3'' e4 => ?_⟩
          refine ⟨lenLe (n := 2) rfl (by decide), fun gr G4 n4 s4' e5' => ?_⟩
          have sA := s1'.trans (s3''.trans s4')
          refine ⟨sG.trans sA, gr, ⟨tt, ob3, ys, e5', b3, s4' _ _ e4, hk.same sA, ?_⟩, rfl⟩
          have m1 : 1 * 1 ≤ nd' * tm := Int.mul_le_mul h0 ht1.1 (by decide) (by omega)
          have m2 : nd' * tm ≤ 10 ^ 9 * 9 := Int.mul_le_mul hn9 ht1.2 (by omega) (by decide)
          refine ⟨by unfold sc; rw [List.length_map]; omega, by omega, by omega, fun q hq => ?_, sc_ris ht1.1 h4.ris⟩
          obtain ⟨q0, hq0, rfl⟩ := List.mem_map.mp hq
          obtain ⟨b1, b2, b3', b4⟩ := h4.bd q0 hq0
          have b5 := (hqc q0 hq0).1
          have m3 : 1 * 1 ≤ q0.1 * tm := Int.mul_le_mul b1 ht1.1 (by decide) (by omega)
          have m4 : q0.1 * tm ≤ 10 ^ 9 * 9 := Int.mul_le_mul b5 ht1.2 (by omega) (by decide)
          exact ⟨by show 1 ≤ q0.1 * tm; omega, by show q0.1 * tm ≤ _; omega, b3', b4⟩
      rintro σ' H7 ⟨s7, gr, hg7, rfl⟩
      have hh7 := hh6.tu (Tu.of s7)
      have sH7 : L2.Same Hc H7 := sH5.trans (s6.trans s7)
      obtain ⟨_, _, _, _, _, _, _, okG⟩ := id hg7
      have hAs := ahead_sc ht1.1 hA
      have hls : (scL tm ms).length < 64 := by unfold scL; rw [List.length_map]; omega
      refine ⟨fun σ' H' => L2.Same Hc H' ∧ ∃ x6 x7 x8, σ' = [some (.ref a), some (.int z), some (.ref hc), some (.int n2), some (.int tm), some v, x6, x7, x8], ?_, fun σ' H' ⟨u, y6, y7, y8, e⟩ => ⟨_, _, _, _, _, y6, y7, y8, e, u⟩⟩
      rcases hv with ⟨rfl, hbad⟩ | ⟨fa, bs, rs, rfl, hsm, hfa, hP, hpm, hpw⟩
      · -- too many things in a lot
        refine ⟨_, rfl, rfl, _, rfl, iteT ?_⟩
        have hbs : ∃ q ∈ scL tm ms, 100 < q.1.length := by
         obtain ⟨q, hq, hl⟩ := hbad
         exact ⟨_, List.mem_map.mpr ⟨q, hq, rfl⟩, by show 100 < (q.1.map (· * tm)).length; rw [List.length_map]; exact hl⟩
        refine ⟨fun σ' H' => L2.Same H7 H' ∧ σ' = [some (.ref a), some (.int z), some (.ref hc), some (.int n2), some (.int tm), some .non, x6, some (.ref gr), x8], ?_, fun σ' H' ⟨u, e⟩ => ⟨sH7.trans u, _, _, _, e⟩⟩
        refine ⟨_, rfl, gr, _, _, scL tm ms, rfl, hg7, hAs, hls, fun _ H8 s8 => .inr ⟨rfl, _, rfl, iteF ⟨s8, rfl⟩⟩, fun hg => ?_⟩
        obtain ⟨q, hq, hl⟩ := hbs
        exact absurd (hg q hq) (by omega)
      · refine ⟨_, rfl, rfl, _, rfl, iteF ?_⟩
        have ndm := ahead_nodup hA h4
        have hrs := sort_itemsT ndm hpm hpw
        have hlots := ahead_lots hA h4
        have hsms : ∀ q ∈ scL tm ms, q.1.length ≤ 100 := fun q hq => by
         obtain ⟨q0, hq0, rfl⟩ := List.mem_map.mp hq
         show (q0.1.map (· * tm)).length ≤ 100
         rw [List.length_map]; exact hsm q0 hq0
        have hrl : rs.length ≤ 12 := by rw [hpm.length_eq]; omega
        have frs : ∀ g ∈ rs, g.1 ≠ [] ∧ nd' ≤ g.1.sum ∧ g.1.length ≤ 100 ∧ g.1.Pairwise (· ≤ ·) ∧ (∀ z ∈ g.1, 1 ≤ z ∧ z ≤ 10 ^ 12) ∧ 1 ≤ g.2 := fun g hg => by
         have hm := hpm.mem_iff.mp hg
         obtain ⟨a1, a2, a3, a4, a5⟩ := hlots g hm
         exact ⟨a1, a2, hsm g hm, a3, a4, a5⟩
        have hF : FillAt H6 fa rs := prs_fill (.inr hfa) hP
        have hF7 := hF.tu (Tu.of s7)
        obtain ⟨hlf, hfits⟩ := ahead_left hA h4
        have hcf : ∀ n, cntF rs n = cntF ms n := fun n => wsum_perm _ hpm
        have hlF : lessF qc rs = lessF qc ms := by unfold lessF; congr 1; exact List.map_congr_left fun q _ => by rw [hcf]
        have hfit : Fits qc rs := fun n => by rw [hcf]; exact hfits n
        -- all so many times as great
        refine ⟨fun σ' H' => L2.Same H7 H' ∧ σ' = [some (.ref a), some (.int z), some (.ref hc), some (.int n2), some (.int tm), some (.ref fa), x6, some (.ref gr), x8], ?_, ?_⟩
        · refine ⟨_, rfl, gr, _, _, scL tm ms, rfl, hg7, hAs, hls, fun ⟨q, hq, hl⟩ => absurd (hsms q hq) (by omega), fun _ fb bs2 rs2 H8 s8 e8 hP2 hpm2 hpw2 => ?_⟩
          refine ⟨_, rfl, _, rfl, fa, tm, rs, rfl, hF7.tu (Tu.of s8), ht1.1, by omega, by omega, fun g hg => (frs g hg).2.2.1, fun f' H9 s9 hF9 => ?_⟩
          have e2 : rs2 = scL tm rs := told_uniq (ahead_nodup hAs okG) hpm2 hpw2 (sc_risT ht1.1 hrs) (by unfold scL; exact hpm.map _)
          subst e2
          refine .inr ⟨_, _, ((prs_fill (.inr e8) hP2).tu (Tu.of s9)).rep, hF9.rep, pl_fill _, pl_fill _, ?_⟩
          rw [SeqAt.eqv_refl _ (pl_fill _).1]
          exact ⟨_, rfl, iteF ⟨s8.trans s9, rfl⟩⟩
        rintro σ' H8 ⟨s8, rfl⟩
        have hh8 := hh7.tu (Tu.of s8)
        have hF8 := hF7.tu (Tu.of s8)
        -- a filling, and none of what is left
        refine ⟨fun σ' H' => L2.Same H8 H' ∧ σ' = [some (.ref a), some (.int z), some (.ref hc), some (.int n2), some (.int tm), some (.ref fa), x6, some (.ref gr), x8], ?_, ?_⟩
        · refine ⟨_, rfl, _, rfl, hc, fa, nd', qc, rs, rfl, hh8, hF8, by omega, frs, hrs, hfit, fun H9 s9 => .inl ⟨true, true, rfl, rfl, _, rfl, iteF ?_⟩⟩
          refine ⟨_, rfl, _, rfl, hc, fa, nd', qc, rs, rfl, hh8.tu (Tu.of s9), hF8.tu (Tu.of s9), by omega, fun g hg => (frs g hg).2.2.1, fun g hg => (frs g hg).2.2.2.2.2, hfit, fun hl HA sA hhA => ?_⟩
          rw [hlF] at hhA
          refine ⟨hl, nd', _, [], rfl, hhA, .done hlf, by decide, fun ⟨q, hq, _⟩ => (nomatch hq), fun _ fb bs2 rs2 HB sB eB hP2 hpm2 hpw2 => ?_⟩
          have e2 : rs2 = [] := List.Perm.eq_nil hpm2
          subst e2
          refine ⟨by decide, fun t0 HD nD sD eD => ?_⟩
          have pl0 : Pl (.tuple []) := ⟨rfl, by decide⟩
          have hb0 : bs2 = [] := List.length_eq_zero_iff.mp hP2.1
          subst hb0
          obtain ⟨ob2, _, eB⟩ := eB
          refine .inr ⟨_, _, .tup (.inr ⟨ob2, sD _ _ eB⟩) .nil, .tup (.inl eD) .nil, pl0, pl0, ?_⟩
          rw [SeqAt.eqv_refl _ pl0.1]
          exact ⟨_, rfl, iteF ⟨s9.trans (sA.trans (sB.trans sD)), rfl⟩⟩
        rintro σ' H9 ⟨s9, rfl⟩
        have hh9 := hh8.tu (Tu.of s9)
        have hF9 := hF8.tu (Tu.of s9)
        have hcs : (rs.map (·.2)).sum = (ms.map (·.2)).sum := perm_sum (hpm.map (·.2))
        have hcn : 0 ≤ (ms.map (·.2)).sum := sum_nn _ fun x hx => by
         obtain ⟨q, hq, rfl⟩ := List.mem_map.mp hx
         have := (hlots q hq).2.2.2.2; omega
        obtain ⟨bt1, bt2⟩ := bound_two (need := nd') (g := topS qc) hcn
        -- the bound
        refine ⟨fun σ' H' => L2.Same H9 H' ∧ σ' = [some (.ref a), some (.int z), some (.ref hc), some (.int n2), some (.int tm), some (.ref fa), x6, some (.ref gr), x8], ?_, ?_⟩
        · refine ⟨_, rfl, fa, rs, rfl, hF9, by omega, fun HA sA => ?_⟩
          refine ⟨_, rfl, hc, nd', qc, ms, rfl, hh9.tu (Tu.of sA), hA, by omega, fun ⟨q, hq, hl⟩ => absurd (hsm q hq) (by omega), fun _ HB sB => ?_⟩
          rw [hcs]
          refine ⟨_, _, rfl, rfl, _, rfl, ite2 (fun _ => ?_) (fun hx => absurd (decide_eq_true bt1) hx)⟩
          refine ⟨_, rfl, fa, rs, rfl, (hF9.tu (Tu.of sA)).tu (Tu.of sB), by omega, fun HD sD => ?_⟩
          rw [hcs]
          refine ⟨_, _, rfl, rfl, IntMulOk.of_left (by decide), _, _, rfl, rfl, _, rfl, ite2 (fun hx => ?_) (fun _ => ⟨sA.trans (sB.trans sD), rfl⟩)⟩
          rw [decide_eq_true bt2] at hx
          cases hx
        rintro σ' HA ⟨sA, rfl⟩
        have hhA := hh9.tu (Tu.of sA)
        have hFA := hF9.tu (Tu.of sA)
        obtain ⟨tA, obA, usA, a1, a2, a3, a4, _⟩ := id hhA
        refine ⟨_, rfl, .inr (.inl ⟨hc, _, 0, _, rfl, rfl, SqT.of a1, (show atI [V.int nd', V.ref tA] 0 = some (.int nd') from rfl), _, rfl, _, _, rfl, rfl, (by show (0 : Int) < 3; decide), .inl ⟨_, _, rfl, rfl, ?_⟩⟩)⟩
        obtain ⟨sz, hsz'⟩ : ∃ x, x = nd' + n2 % 3 := ⟨_, rfl⟩
        have h0 := h4.n0
        have hs1 : nd' ≤ sz ∧ sz ≤ 10 ^ 12 := by omega
        have sA6 : L2.Same H6 HA := s7.trans (s8.trans (s9.trans sA))
        have hPA : PrsAt HA bs rs := prs_mo hP fun b xs e => sA6 _ _ e
        have hfaA : ∃ ob, bareT ob ∧ HA fa = some (.frz ob (.tup (bs.map V.ref))) := let ⟨ob, b, e⟩ := hfa; ⟨ob, b, sA6 _ _ e⟩
        refine ⟨_, rfl, fa, vT rs, rfl, prs_pairs hPA hfaA (by omega), fun d HB nB sB eB => ?_⟩
        rw [merge_vT hrs.nodup] at eB
        refine ⟨_, rfl, d, rfl, .inr ⟨_, .inl eB⟩, ?_⟩
        refine ⟨_, rfl, lenLe (n := 1) rfl (by decide), fun k1 HD nD sD eD => ?_⟩
        have eD : HD k1 = some (.tup ([sz].map V.int)) := by rw [hsz']; exact eD
        have gd : ((tlook rs [sz]).map V.int).getD (.int 0) = .int ((tlook rs [sz]).getD 0) := by cases tlook rs [sz] <;> rfl
        refine ⟨_, dgetT (sD _ _ eB) eD, ?_⟩
        rw [gd]
        refine .inl ⟨_, _, rfl, rfl, ?_⟩
        refine ⟨_, rfl, _, rfl, lenLe (n := 1) rfl (by decide), fun k2 HE nE sE eE => ?_⟩
        have eE : HE k2 = some (.tup ([sz].map V.int)) := by rw [hsz']; exact eE
        refine ⟨d, _, rfl, dputT ((sD.trans sE) _ _ eB) eE hrs.nodup (by omega), ?_⟩
        generalize hHF : upd HE d (.dT (vT (tput rs [sz] ((tlook rs [sz]).getD 0 + 1)))) = HF
        have eF : HF d = some (.dT (vT (tput rs [sz] ((tlook rs [sz]).getD 0 + 1)))) := by rw [← hHF]; exact upd_same
        have sF : L2.Same HA HF := fun b o e => by rw [← hHF, upd_ne (ne_of_none e nB)]; exact sE _ _ (sD _ _ (sB _ _ e))
        have nk := tput_nodup [sz] ((tlook rs [sz]).getD 0 + 1) hrs.nodup
        have lk := tput_len rs [sz] ((tlook rs [sz]).getD 0 + 1)
        have wk : ∀ g : List Int → Int, wsum g (tput rs [sz] ((tlook rs [sz]).getD 0 + 1)) = wsum g rs + 1 * g [sz] := fun g => wsum_tput g rs [sz] 1
        have pk : ∀ q ∈ tput rs [sz] ((tlook rs [sz]).getD 0 + 1), q.1 ≠ [] ∧ 1 ≤ q.2 := fun q hq => by
         rcases tput_mem hq with w | rfl
         · exact ⟨(frs q w).1, (frs q w).2.2.2.2.2⟩
         · refine ⟨by simp, ?_⟩
           show 1 ≤ (tlook rs [sz]).getD 0 + 1
           cases e : tlook rs [sz] with
           | none => show (1 : Int) ≤ 0 + 1; decide
           | some c => have := (frs _ (tlook_some e)).2.2.2.2.2; have : 1 ≤ c := this; show 1 ≤ c + 1; omega
        generalize tput rs [sz] ((tlook rs [sz]).getD 0 + 1) = ks at *
        refine ⟨fun σ' H' => L2.Same HF H' ∧ ∃ x6 x8, σ' = [some (.ref a), some (.int z), some (.ref hc), some (.int n2), some (.int tm), some (.ref fa), x6, some (.ref gr), x8], ?_, fun σ' H' ⟨u, y6, y8, e⟩ => ⟨sH7.trans (s8.trans (s9.trans (sA.trans (sF.trans u)))), y6, _, y8, e⟩⟩
        refine ⟨_, rfl, _, rfl, hc, sz, nd', qc, by rw [hsz']; rfl, hhA.tu (Tu.of sF), by omega, by omega, hs1.2, fun q hq => by have := (hqc q hq).2; omega, fun hm qm HG sG' hhm hdm hlm => ?_⟩
        obtain ⟨_, _, _, _, _, _, _, okm⟩ := id hhm
        have cm0 : 0 ≤ cnt qm := sum_nn _ fun x hx => by
         obtain ⟨q, hq, rfl⟩ := List.mem_map.mp hx
         have := (okm.bd q hq).2.2.1; omega
        obtain ⟨ms', hA'⟩ := ahead_total (cnt qm).toNat okm (by omega)
        have hml' := ahead_len _ (Nat.le_refl _) hA' okm
        have hw := ahead_more h4 okm hs1.1 hdm hA hA'
        have hp' := ahead_ms hA' okm
        have hsm' := more_short hw hsm hp'
        refine ⟨hm, nd', qm, ms', rfl, hhm, hA', by omega, fun ⟨q, hq, hl⟩ => absurd (hsm' q hq) (by omega), fun _ fb bs2 rs2 HI sI eI hP2 hpm2 hpw2 => ?_⟩
        have eI' := (sG'.trans sI) _ _ eF
        have keys : (vT ks).map (·.1) = (ks.map (·.1)).map (List.map Sum.inl) := by unfold vT; rw [List.map_map, List.map_map]; rfl
        have nek : ∀ u ∈ ks.map (·.1), u ≠ [] := fun u hu => by
         obtain ⟨q, hq, rfl⟩ := List.mem_map.mp hu
         exact (pk q hq).1
        refine ⟨_, rfl, ⟨d, _, _, rfl, eI', keys, fun _ => nek, by rw [List.length_map]; omega, fun l bs3 vs G1 nl s2' e2' hbl hb pm pw => ?_⟩⟩
        obtain ⟨k1', k2'⟩ := sort_keysT nk pm pw
        have hvl : vs.length = ks.length := by rw [pm.length_eq, List.length_map]
        have eG1 := s2' _ _ eI'
        refine ⟨l, rfl, .inl ⟨⟨_, SqL.of e2'⟩, ?_⟩⟩
        refine cmp_list (K := K) (a := l) (xs := bs3.map V.ref) (fun j ys σ G2 => L2.Same G1 G2 ∧ Lots G2 ys ((vs.map fun u => (u, (tlook ks u).getD 0)).take j) ∧ ∃ x : Option V, σ = [x, some (.ref a), some (.int z), some (.ref hc), some (.int n2), some (.int tm), some (.ref fa), some (.int sz), some (.ref gr), some (.ref d)])
         ⟨L2.Same.refl _, Lots.nil, none, by rw [hsz']; rfl⟩ (by rw [List.length_map]; omega) (fun j ys σ G2 hj ⟨sh, hy, _⟩ => ⟨SqL.of (sh _ _ e2'), by rw [hy.1, List.length_take]; omega⟩) ?_ ?_
        · rintro j x ys σ G2 N hx ⟨sh, hy, x0, rfl⟩ hN
          rw [List.getElem?_map] at hx
          obtain ⟨b, hb1, rfl⟩ := Option.map_eq_some_iff.mp hx
          obtain ⟨u, g1', g2'⟩ := hb j b hb1
          have huk : u ∈ ks.map (·.1) := pm.mem_iff.mp (List.mem_of_getElem? g1')
          obtain ⟨q, hq, rfl⟩ := List.mem_map.mp huk
          have dg := dgetT (sh _ _ eG1) (sh _ _ g2')
          rw [tlook_mem nk hq] at dg
          refine ⟨_, rfl, _, rfl, _, rfl, d, .int q.2, rfl, dg, ?_⟩
          refine ⟨lenLe (n := 2) rfl (by decide), fun r3 G3 hr3 s3x e3x => hN _ _ _ ⟨sh.trans s3x, ?_, _, rfl⟩⟩
          have hmi : (vs.map fun u => (u, (tlook ks u).getD 0))[j]? = some (q.1, q.2) := by rw [List.getElem?_map, g1']; show some (q.1, (tlook ks q.1).getD 0) = _; rw [tlook_mem nk hq]; rfl
          rw [List.take_add_one, hmi]
          exact (hy.tu (Tu.of s3x)).snoc ⟨r3, b, rfl, e3x, s3x _ _ (sh _ _ g2')⟩
        · rintro ys σ G2 ⟨sh, hy, x0, rfl⟩ pl G3 npl s3x e3x
          rw [List.take_of_length_le (by rw [List.length_map, List.length_map]; omega)] at hy
          refine ⟨pl, _, rfl, SqL.of e3x, fun tt ob3 G4 n4 b4 s4x e4x => ?_⟩
          have sZ := s2'.trans (sh.trans (s3x.trans s4x))
          have r2 := sort_itemsT (ahead_nodup hA' okm) hpm2 hpw2
          have egs : rs2 = vs.map fun u => (u, (tlook ks u).getD 0) := by
           refine fill_same r2 k1' (fun q hq => hp' q (hpm2.mem_iff.mp hq)) (fun q hq => (pk q (k2'.mem_iff.mp hq)).2) fun g => ?_
           rw [wsum_perm g hpm2, hw, wsum_perm g k2', wk, wsum_perm g hpm]; omega
          subst egs
          refine .inr ⟨_, _, ((prs_fill (.inr eI) hP2).tu (Tu.of sZ)).rep, (show FillAt G4 tt _ from ⟨ys, .inr ⟨ob3, b4, e4x⟩, hy.tu (Tu.of (s3x.trans s4x))⟩).rep, pl_fill _, pl_fill _, ?_⟩
          rw [SeqAt.eqv_refl _ (pl_fill _).1]
          exact ⟨_, rfl, iteF ⟨sG'.trans (sI.trans sZ), _, _, rfl⟩⟩
    · rintro σ H2 ⟨x1, x2, x3, x4, x5, x6, x7, x8, rfl, sH⟩
      exact k _
end
abbrev GAt (K : PySem.W.Frag) (x : Str) (v : Value) : Prop := PySem.W.nsIn K mainGlobals x = some (some v)
abbrev NAt (K : PySem.W.Frag) (x : Str) : Prop := PySem.W.nsIn K mainGlobals x = some none
def DAt (K : PySem.W.Frag) (x : Str) (st : Stmt) : Prop := ∃ f oc od kV dc pm an cd ct sl, GAt K x (.ref f) ∧ K.lookup f = some ⟨oc, od, .func (PySem.W.fnOf x x (defArgs st) (defBody st) (defScope st) .none kV dc pm an cd ct), sl⟩ ∧ PySem.W.codeIn K cd x = true ∧ PySem.W.keepIn K (.ref f) = true
theorem DAt.of {K : PySem.W.Frag} {x : Str} {st : Stmt} {f : Addr} {oc kV dc pm cd ct : Value} {od an : Option Addr} {sl : Array (Option Value)} (a : PySem.W.nsIn K mainGlobals x = some (some (.ref f))) (l : K.lookup f = some ⟨oc, od, .func (PySem.W.fnOf x x (defArgs st) (defBody st) (defScope st) .none kV dc pm an cd ct), sl⟩) (c : PySem.W.codeIn K cd x = true) (k : PySem.W.keepIn K (.ref f) = true) : DAt K x st := ⟨_, _, _, _, _, _, _, _, _, _, a, l, c, k⟩
theorem DAt.cal {K : PySem.W.Frag} {h : Heap} {mg : Str → Option Value} {x : Str} {st : Stmt} {CX : CXT} {k : Nat} {ps : List Str} {sp : Sp} (d : DAt K x st) (P : Program) (w : World) (base : Heap) (X : K.In h) (G : h.Ns mainGlobals mg) (ok : ∀ {f : Addr} {fd : FuncData}, Fun K x x st f fd → FnOk P w K mg base CX k f fd ps sp)
 (b : ∀ (kV doc pm : Value) (an : Option Addr) (cdv ct : Value) (us : List Value), us.length = ps.length → bindArgs (PySem.W.fnOf x x (defArgs st) (defBody st) (defScope st) .none kV doc pm an cdv ct) ⟨us, []⟩ = pure (ps.zip us)) : Callee CX P w K mg base x k ps sp :=
 let ⟨_, _, _, _, _, _, _, _, _, _, a, l, c, k⟩ := d; ⟨_, _, ok (fun_mk l c k), PySem.W.mg_of X G a, k, (fun_mk l c k).binds b⟩
local macro_rules | `(tactic| wtm_at "b1") => `(tactic| exact fun _ _ _ _ _ _ us hl => match us, hl with | [_], _ => rfl)
local macro_rules | `(tactic| wtm_at "b2") => `(tactic| exact fun _ _ _ _ _ _ us hl => match us, hl with | [_, _], _ => rfl)
local macro_rules | `(tactic| wtm_at "b3") => `(tactic| exact fun _ _ _ _ _ _ us hl => match us, hl with | [_, _, _], _ => rfl)
theorem all_mk {l : PySem.W.OpenLaw} {w : World} {K : PySem.W.Frag} {h : Heap} {mg : Str → Option Value} {fa : Addr} (X : K.In h) (G : h.Ns mainGlobals mg) (hfa : mg "law" = some (.ref fa)) {tM1 tM2 tM3 : Tok}
 {cB cNoLot cTooMany : Addr}
 (d1 : DAt K "part_by" sPartBy)
 (d2 : DAt K "bound_by" sBoundBy)
 (d3 : DAt K "is_rising" sRising)
 (d4 : DAt K "is_sorted" sSorted)
 (d5 : DAt K "is_whole" sWhole)
 (d6 : DAt K "rounded_up" sUp)
 (d7 : DAt K "is_size" sIsSize)
 (d8 : DAt K "total_of" sTot)
 (d9 : DAt K "has_counts" sHas)
 (d10 : DAt K "heap_less" sLess)
 (d11 : DAt K "is_lot" sIsLot)
 (d12 : DAt K "is_full" sFull)
 (d13 : DAt K "counts_in" sCin)
 (d14 : DAt K "is_full_lot" sIsFL)
 (d15 : DAt K "filling_holds" sHolds)
 (d16 : DAt K "count_of" sCof)
 (d17 : DAt K "left_of" sLeft)
 (d18 : DAt K "next_counts" sNext)
 (d19 : DAt K "lot_of_counts" sLot)
 (d20 : DAt K "times_of" sTimes)
 (d21 : DAt K "made_ahead" sMade)
 (d22 : DAt K "ahead_bound" sBound)
 (d23 : DAt K "_law_cell" sCell)
 (d24 : DAt K "_law_deal" sDeal)
 (d25 : DAt K "_law_heap" sHeap)
 (d26 : DAt K "_law_cut" sCut)
 (d27 : DAt K "_law_told" sTold)
 (d28 : DAt K "_law_times" sTms)
 (d29 : DAt K "_law_more" sMore)
 (d30 : DAt K "law" sLaw)
 (gB : GAt K "BrimError" (.ref cB))
 (gNoLot : GAt K "NoLot" (.ref cNoLot))
 (gTooMany : GAt K "TooMany" (.ref cTooMany))
 (uB1 : (PySem.W.clsIn K cB).isSome = true) (uB2 : PySem.W.typeIn K (.ref cB) = some (.type "type")) (uB3 : PySem.W.mroIn K cB (.type "BaseException") = some true)
 (uNoLot : eclsIn K cNoLot cB = true)
 (uTooMany : eclsIn K cTooMany cB = true)
 (gM1 : PySem.W.nsIn K mainGlobals "MOST_PART" = some (some (.int 60 tM1)))
 (gM2 : PySem.W.nsIn K mainGlobals "MOST_THINGS" = some (some (.int 100 tM2)))
 (gM3 : PySem.W.nsIn K mainGlobals "GREATEST" = some (some (.int 1000000000000 tM3)))
 (n_range : NAt K "range")
 (n_divmod : NAt K "divmod")
 (n_tuple : NAt K "tuple")
 (n_len : NAt K "len")
 (n_max : NAt K "max")
 (n_min : NAt K "min")
 (n_all : NAt K "all")
 (n_sum : NAt K "sum")
 (n_isinstance : NAt K "isinstance")
 (n_sorted : NAt K "sorted")
 (n_dict : NAt K "dict")
 (n_bool : NAt K "bool")
 (n_int : NAt K "int")
 (n_zip : NAt K "zip") :
 ∃ fd : FuncData, (∀ (s : Shared) (v : Value), BindsTo s fd ⟨[v], []⟩ [("script", v)]) ∧ ∀ base : Heap, K.In base → base.Ns mainGlobals mg → FnOk l.prog w K mg base CX0 6 fa fd ["script"] (spLaw K) := by
 obtain ⟨fL, oc, od, kV, dc, pm, an, cd, ct, sl, aL, lL, cL, kL⟩ := d30
 have e := hfa.symm.trans (PySem.W.mg_of X G aL)
 cases e
 have F30 := fun_mk (st := sLaw) lL cL kL
 have z_range := PySem.W.mg_none_of X G n_range
 have z_divmod := PySem.W.mg_none_of X G n_divmod
 have z_tuple := PySem.W.mg_none_of X G n_tuple
 have z_len := PySem.W.mg_none_of X G n_len
 have z_max := PySem.W.mg_none_of X G n_max
 have z_min := PySem.W.mg_none_of X G n_min
 have z_all := PySem.W.mg_none_of X G n_all
 have z_sum := PySem.W.mg_none_of X G n_sum
 have z_isinstance := PySem.W.mg_none_of X G n_isinstance
 have z_sorted := PySem.W.mg_none_of X G n_sorted
 have z_dict := PySem.W.mg_none_of X G n_dict
 have z_bool := PySem.W.mg_none_of X G n_bool
 have z_int := PySem.W.mg_none_of X G n_int
 have z_zip := PySem.W.mg_none_of X G n_zip
 have bB : BCls K mg "BrimError" cB := ⟨PySem.W.mg_of X G gB, uB1, uB2, uB3⟩
 have eNoLot : ECls K mg "NoLot" cNoLot cB := ⟨PySem.W.mg_of X G gNoLot, uNoLot⟩
 have eTooMany : ECls K mg "TooMany" cTooMany cB := ⟨PySem.W.mg_of X G gTooMany, uTooMany⟩
 refine ⟨PySem.W.fnOf "law" "law" (defArgs sLaw) (defBody sLaw) (defScope sLaw) .none kV dc pm an cd ct, fun s v => .of_eq rfl, fun base _ _ => ?_⟩
 have C1 := d1.cal l.prog w base X G (fun F => ok_partBy F ⟨⟨_, PySem.W.mg_of X G gM1⟩⟩ z_max z_min) (by wtm_at "b2")
 have C2 := d2.cal l.prog w base X G (fun F => ok_boundBy F) (by wtm_at "b2")
 have C3 := d3.cal l.prog w base X G (fun F => ok_rising F z_all z_zip) (by wtm_at "b1")
 have C4 := d4.cal l.prog w base X G (fun F => ok_sorted F z_all z_zip) (by wtm_at "b1")
 have C5 := d5.cal l.prog w base X G (fun F => ok_whole F z_isinstance z_int z_bool) (by wtm_at "b1")
 have C6 := d6.cal l.prog w base X G (fun F => ok_up F) (by wtm_at "b2")
 have C7 := d7.cal l.prog w base X G (fun F => ok_isSize F C5 ⟨⟨_, PySem.W.mg_of X G gM3⟩⟩) (by wtm_at "b1")
 have C8 := d8.cal l.prog w base X G (fun F => ok_tot F z_sum) (by wtm_at "b1")
 have C9 := d9.cal l.prog w base X G (fun F => ok_has F z_all z_dict) (by wtm_at "b2")
 have C10 := d10.cal l.prog w base X G (fun F => ok_less F C9 z_tuple) (by wtm_at "b2")
 have C11 := d11.cal l.prog w base X G (fun F => ok_isLot F C7 C4 ⟨⟨_, PySem.W.mg_of X G gM2⟩⟩ z_isinstance z_tuple z_len z_all) (by wtm_at "b1")
 have C12 := d12.cal l.prog w base X G (fun F => ok_full F z_sum) (by wtm_at "b2")
 have C13 := d13.cal l.prog w base X G (fun F => ok_cin F) (by wtm_at "b1")
 have C14 := d14.cal l.prog w base X G (fun F => ok_isFL F C11 C12) (by wtm_at "b2")
 have C15 := d15.cal l.prog w base X G (fun F => ok_holds F C14 C3 C13 C9 z_all) (by wtm_at "b2")
 have C16 := d16.cal l.prog w base X G (fun F => ok_cof F z_sum) (by wtm_at "b1")
 have C17 := d17.cal l.prog w base X G (fun F => ok_left F C13 C10) (by wtm_at "b2")
 have C18 := d18.cal l.prog w base X G (fun F => ok_next F C10 C6 z_min) (by wtm_at "b1")
 have C19 := d19.cal l.prog w base X G (fun F => ok_lot F eTooMany ⟨⟨_, PySem.W.mg_of X G gM2⟩⟩ z_sum z_sorted z_tuple) (by wtm_at "b1")
 have C20 := d20.cal l.prog w base X G (fun F => ok_times F z_min) (by wtm_at "b2")
 have C21 := d21.cal l.prog w base X G (fun F => ok_made F C8 C18 C19 C20 C10 z_sorted z_tuple) (by wtm_at "b1")
 have C22 := d22.cal l.prog w base X G (fun F => ok_bound F C21 C16 C1 C2 z_max z_min) (by wtm_at "b1")
 have C23 := d23.cal l.prog w base X G (fun F => ok_cell F z_len) (by wtm_at "b2")
 have C24 := d24.cal l.prog w base X G (fun F => ok_deal F z_range) (by wtm_at "b2")
 have C25 := d25.cal l.prog w base X G (fun F => ok_heap F z_divmod z_range z_min z_max z_sorted z_tuple) (by wtm_at "b3")
 have C26 := d26.cal l.prog w base X G (fun F => ok_cut F z_sorted z_tuple) (by wtm_at "b1")
 have C27 := d27.cal l.prog w base X G (fun F => ok_told F C21 eTooMany) (by wtm_at "b1")
 have C28 := d28.cal l.prog w base X G (fun F => ok_tms F z_tuple) (by wtm_at "b2")
 have C29 := d29.cal l.prog w base X G (fun F => ok_more F z_dict z_sorted z_tuple) (by wtm_at "b2")
 exact ok_law F30 C23 C24 C25 C26 C27 C28 C29 C15 C17 C16 C22 z_divmod z_tuple z_dict z_sorted
theorem walk {l : PySem.W.OpenLaw} {q : Program} {loose : List Str} {XP : (Str → Option Value) → Heap → Prop} {YP : World → Heap → Prop} {d : DefRec} {K : Params → PySem.W.Frag} (hn : l.most = some 63) (hdf : d.params.defaults = [])
 (hY : ∀ (w : World) (h : Heap), YP w h → (K w.params).In h)
 (F : ∀ (w : World) (mg : Str → Option Value) (fa : Addr) (h : Heap), (K w.params).In h → h.Ns mainGlobals mg → mg d.name = some (.ref fa) →
  ∃ fd : FuncData, (∀ (s : Shared) (u : Value), BindsTo s fd ⟨[u], []⟩ [("script", u)]) ∧ ∀ base : Heap, (K w.params).In base → base.Ns mainGlobals mg → FnOk l.prog w (K w.params) mg base CX0 6 fa fd ["script"] (spLaw (K w.params))) :
 PySem.W.WalkO q loose XP YP l.row.toRowW d [] (fun f vs => PySem.call f vs) :=
 L2.walk_of (n := 63) (k := 6) (x := "script") (CX := fun _ => CX0) (sp := fun w => spLaw (K w.params)) hn (by decide) hdf ⟨rfl, by decide, by decide⟩ hY F (fun _ _ a ns hl _ hS => ⟨a, ns, rfl, hS, hl, fun _ => rfl⟩) fun _ _ _ _ _ z => z
end K60
local macro_rules | `(tactic| wtm_at "keq") => `(tactic| (show _ = _; k_is))
local macro_rules | `(tactic| wtm_at "dat") => `(tactic| (refine' K60.DAt.of ?a ?l ?c ?k; (case a => k_is); (case l => k_is); (case c => k_is); (case k => k_is)))
def PySem.W.Fast.tw11123657961103393567 : Nat := 0
def PySem.W.Fast.tw7295784596923235828 : Nat := 0
def PySem.W.Fast.tw17033303258313139343 : Nat := 0
def PySem.W.Fast.tw11240285009011375978 : Nat := 0
def PySem.W.Fast.tw16848136561946472289 : Nat := 0
def PySem.W.Fast.tw7113631361041643574 : Nat := 0
def PySem.W.Fast.tw17170432653915500065 : Nat := 0
def PySem.W.Fast.tw12440722928932766886 : Nat := 0
def PySem.W.Fast.tw4086280348764058895 : Nat := 0
def PySem.W.Fast.tw9876071598231869423 : Nat := 0
def PySem.W.Fast.tw7097484047275834797 : Nat := 0
open PySem PySem.W PyProof.Rows
set_option maxRecDepth 100000 in
set_option maxHeartbeats 0 in
theorem PySem.Challenge.cw_brimyard_k60_whole_ahead_of_changed_heap_holds : PySem.Challenge.rw_brimyard_k60_whole_ahead_of_changed_heap.Holds := by
 w_on; refine holds_law (by decide +kernel) fun said => ?_
 k_head; (case hw => w_witness2)
 k_fill
 refine K60.walk (l := PySem.Challenge.rw_brimyard_k60_whole_ahead_of_changed_heap) rfl rfl (fun w h Y => PySem.W.kIn_of Y) ?F
 case F =>
  intro w mg fa h KX G hmg
  refine' K60.all_mk KX G hmg ?d1 ?d2 ?d3 ?d4 ?d5 ?d6 ?d7 ?d8 ?d9 ?d10 ?d11 ?d12 ?d13 ?d14 ?d15 ?d16 ?d17 ?d18 ?d19 ?d20 ?d21 ?d22 ?d23 ?d24 ?d25 ?d26 ?d27 ?d28 ?d29 ?d30 ?gB ?gNoLot ?gTooMany ?uB1 ?uB2 ?uB3 ?uNoLot ?uTooMany ?gM1 ?gM2 ?gM3 ?n_range ?n_divmod ?n_tuple ?n_len ?n_max ?n_min ?n_all ?n_sum ?n_isinstance ?n_sorted ?n_dict ?n_bool ?n_int ?n_zip
  (case d1 | d2 | d3 | d4 | d5 | d6 | d7 | d8 | d9 | d10 | d11 | d12 | d13 | d14 | d15 | d16 | d17 | d18 | d19 | d20 | d21 | d22 | d23 | d24 | d25 | d26 | d27 | d28 | d29 | d30 => wtm_at "dat")
  (case gB | gNoLot | gTooMany => wtm_at "keq")
  (case uB1 => kernel_rfl)
  (case uB2 | uB3 => k_is)
  (case uNoLot | uTooMany => kernel_rfl)
  (case gM1 | gM2 | gM3 => k_is)
  (case n_range | n_divmod | n_tuple | n_len | n_max | n_min | n_all | n_sum | n_isinstance | n_sorted | n_dict | n_bool | n_int | n_zip => wtm_at "keq")
