import PyProof.Rows.All
import Wide.All
import OpenK.AllK
import Wide.FinOn
import Lean
import PyProof.EqAt
import PyProof.EqKinds
import PyProof.TupleCall
import PyProof.NeData
import KE.KSortTup
import PyProof.SetKind
import PyProof.DictKinds
import PyProof.Rows.SetFrom
import PyProof.DictWalks
import KE.KDictSum
import PyProof.WalksMore
import PyProof.Rows.FStr
import PyProof.AutoIntG2
import PyProof.DictTruth
import PyProof.Rows.CountFlat
import PyProof.Rows.SeqMore
import KE.KItemsList
import PyProof.ReprRoads
import PyProof.ReprLen
import PyProof.Rows.ReprOcc
import KE.KRevIter
import KE.KRevSl
import PyProof.Rows.Range3
import PyProof.DictCompW
import KE.KSortAsk
import PySem.Challenge.RW_brimyard_k75_wheels_judged
set_option Elab.async false
set_option linter.all false
set_option maxRecDepth 100000
namespace L2
open PySem PySem.Spec PyProof.Rows
abbrev Key := Sum Int Str
def keyIs : Key → Value → Bool
 | .inl k, v => Value.isInt k v
 | .inr x, v => Value.isStrOf x v
def keyH (w : World) : Key → Int
 | .inl k => hashInt k
 | .inr x => hashStr w x
theorem keyIs_shape : ∀ {k : Key} {v : Value}, keyIs k v = true → (∃ i t, k = Sum.inl i ∧ v = Value.int i t) ∨ (∃ x t, k = Sum.inr x ∧ v = Value.str x t)
 | .inl i, v, h => by
  obtain ⟨t, e⟩ := Value.isInt_shape h
  exact .inl ⟨i, t, rfl, e⟩
 | .inr x, v, h => by
  obtain ⟨t, e⟩ := Value.isStrOf_shape h
  exact .inr ⟨x, t, rfl, e⟩
theorem keyIs_int (i : Int) (t : Tok) : keyIs (.inl i) (.int i t) = true := by simp [keyIs, Value.isInt]
theorem keyIs_str (x : Str) (t : Tok) : keyIs (.inr x) (.str x t) = true := by simp [keyIs, Value.isStrOf]
theorem key_ll (a b : Int) : decide ((Sum.inl a : Key) = Sum.inl b) = (a == b) := by
 by_cases e : a = b
 · simp_all
 simp_all
theorem key_rr (a b : Str) : decide ((Sum.inr a : Key) = Sum.inr b) = decide (a = b) := by simp
theorem key_lr (a : Int) (b : Str) : decide ((Sum.inl a : Key) = Sum.inr b) = false := rfl
theorem key_rl (a : Str) (b : Int) : decide ((Sum.inr a : Key) = Sum.inl b) = false := rfl
def mixKind (prog : Program) (w : World) : PySem.KeyKind prog w Key where
 is := keyIs
 hash := keyH w
 inj := fun v a b ha hb => by
  rcases keyIs_shape ha with ⟨i, t, rfl, rfl⟩ | ⟨x, t, rfl, rfl⟩
  · rcases keyIs_shape hb with ⟨j, u, rfl, e⟩ | ⟨y, u, rfl, e⟩
    · injection e with e1 _; rw [e1]
    · exact nomatch e
  · rcases keyIs_shape hb with ⟨j, u, rfl, e⟩ | ⟨y, u, rfl, e⟩
    · exact nomatch e
    · injection e with e1 _; rw [e1]
 byValue := fun k v h => by
  rcases keyIs_shape h with ⟨i, t, rfl, rfl⟩ | ⟨x, t, rfl, rfl⟩ <;> rfl
 pyHash := fun hv h => by
  rcases keyIs_shape hv with ⟨i, t, rfl, rfl⟩ | ⟨x, t, rfl, rfl⟩
  · exact wpAny_pyHash_int h
  · exact wpAny_pyHash_str h
 eqBool := fun hu hv h => by
  rcases keyIs_shape hu with ⟨i, t, rfl, rfl⟩ | ⟨x, t, rfl, rfl⟩
  · rcases keyIs_shape hv with ⟨j, u, rfl, rfl⟩ | ⟨y, u, rfl, rfl⟩
    · rw [key_ll] at h; exact wpAny_eqBool_int h
    · rw [key_lr] at h; exact SeqAt.EqAt.int_str i t y u _ _ _ _ h
  · rcases keyIs_shape hv with ⟨j, u, rfl, rfl⟩ | ⟨y, u, rfl, rfl⟩
    · rw [key_rl] at h; exact SeqAt.EqAt.str_int x t j u _ _ _ _ h
    · rw [key_rr] at h; exact wpAny_eqBool_str h
 «strs» := fun k x t v h => by
  rcases keyIs_shape h with ⟨i, u, rfl, e⟩ | ⟨y, u, rfl, e⟩
  · exact nomatch e
  · injection e with e1 _
    subst e1
    cases v <;> rfl
theorem mixKind_int (prog : Program) (w : World) (i : Int) (t : Tok) : (mixKind prog w).is (.inl i) (.int i t) = true := keyIs_int i t
theorem mixKind_str (prog : Program) (w : World) (x : Str) (t : Tok) : (mixKind prog w).is (.inr x) (.str x t) = true := keyIs_str x t
inductive V where
 | non | bl (b : Bool) | int (i : Int) | str (x : Str) | byt (b : Array UInt8) | flt (b : UInt64) | ref (a : Addr) | ty (n : String)
 deriving DecidableEq
def RelV : V → Value → Prop
 | .non, u => u = Value.none
 | .bl b, u => u = Value.bool b
 | .int i, u => ∃ t, u = Value.int i t
 | .str x, u => ∃ t, u = Value.str x t
 | .byt b, u => ∃ t, u = Value.bytes b t
 | .flt b, u => ∃ t, u = Value.float b t
 | .ref a, u => u = Value.ref a
 | .ty n, u => u = Value.type n
abbrev Vals : List V → List Value → Prop := Paired RelV
theorem Vals.length (r : Vals xs us) : xs.length = us.length := Paired.length r
theorem Vals.get : ∀ {xs : List V} {us : List Value} {i : Nat} {x : V}, Vals xs us → xs[i]? = some x → ∃ u, us[i]? = some u ∧ RelV x u
 | _, _, _, _, .nil, e => by simp_all
 | _, _, 0, _, .cons r _, e => by simp_all
 | _, _, i + 1, x, .cons _ t, e => by
  obtain ⟨u, h1, h2⟩ := Vals.get t (by assumption)
  simp_all
theorem Vals.set (r : RelV x u) : ∀ {xs : List V} {us : List Value} (i : Nat), Vals xs us → Vals (xs.set i x) (us.set i u)
 | _, _, _, .nil => .nil
 | _, _, 0, .cons _ t => .cons r t
 | _, _, i + 1, .cons q t => .cons q (Vals.set r i t)
theorem Vals.append : ∀ {xs ys : List V} {us ws : List Value}, Vals xs us → Vals ys ws → Vals (xs ++ ys) (us ++ ws)
 | _, _, _, _, .nil, s => s
 | _, _, _, _, .cons r t, s => .cons r (Vals.append t s)
theorem Vals.take : ∀ {xs : List V} {us : List Value} (n : Nat), Vals xs us → Vals (xs.take n) (us.take n)
 | _, _, 0, _ => .nil
 | _, _, _ + 1, .nil => .nil
 | _, _, n + 1, .cons r t => .cons r (Vals.take n t)
theorem Vals.drop : ∀ {xs : List V} {us : List Value} (n : Nat), Vals xs us → Vals (xs.drop n) (us.drop n)
 | _, _, 0, r => r
 | _, _, _ + 1, .nil => .nil
 | _, _, n + 1, .cons _ t => Vals.drop n t
def RelO : Option V → Option Value → Prop
 | some v, some u => RelV v u
 | none, none => True
 | _, _ => False
def KV {κ : Type} : List (κ × V) → List (κ × Value) → Prop := Paired fun (p : κ × V) (q : κ × Value) => p.1 = q.1 ∧ RelV p.2 q.2
def kV : Key → V
 | .inl i => .int i
 | .inr x => .str x
inductive HO where
 | lst (xs : List V)
 | tup (xs : List V)
 | dK (kvs : List (Key × V)) | dT (kvs : List (List Key × V))
 | set (S : Int → Bool) (n : Nat)
 | ins (C dx : Addr) (fs : List (Str × V))
 | own (x : Addr)
 | xd (fs : List (Str × V))
 | met (f x : Addr)
 | rng (lo hi : Int)
 | frz (o : Obj) (u : HO)
 | tbl (ps : Array Value)
 | ext (φ : Heap → Prop)
abbrev Hp := Addr → Option HO
def upd (H : Hp) (a : Addr) (o : HO) : Hp := fun b => if b = a then some o else H b
theorem upd_same : upd H a o a = some o := by unfold upd; simp
theorem upd_ne (h : b ≠ a) : upd H a o b = H b := by unfold upd; simp_all
theorem ne_of {H : Hp} {a b : Addr} {o u : HO} (h : H a = some o) (h' : H b = some u) (d : o ≠ u) : a ≠ b := by
 intro e; subst e; rw [h] at h'; exact d (Option.some.inj h')
theorem ne_of_none {H : Hp} (h : H a = some o) (h' : H b = none) : a ≠ b := by grind
section
variable (P : Program) (w : World)
def ObjOk (H : Hp) (h : Heap) (a : Addr) : HO → Prop
 | .lst xs => xs.length ≤ sizeLine ∧ ∃ (its : List Value) (n : Nat), Vals xs its ∧ h.get? a = some { cls := .type "list", data := .seq its.toArray n }
 | .tup xs => xs.length ≤ sizeLine ∧ ∃ its : List Value, Vals xs its ∧ IsTup h a its.toArray
 | .dK kvs => kvs.length ≤ sizeLine ∧ (a == sysModules) = false ∧ ∃ vs, KV kvs vs ∧ h.DictOf (mixKind P w) a vs
 | .dT kvs => kvs.length ≤ sizeLine ∧ (a == sysModules) = false ∧ ∃ xs : List (List Key × Addr × Value),
  Paired (fun (p : List Key × V) (q : List Key × Addr × Value) => p.1 = q.1 ∧ H q.2.1 = some (.tup (p.1.map kV)) ∧ RelV p.2 q.2.2) kvs xs ∧
  ∃ o es ep, h.get? a = some o ∧ o.ExactDict ∧ o.data = .dict es ep ∧ es.toList = xs.map (entryOfKey (tupleKind (mixKind P w))) ∧ (xs.map (·.1)).Nodup
 | .set S n => h.SetOf (intKind P w) a S n
 | .ins C dx fs => H dx = some (.own a) ∧ fs.length ≤ 1000 ∧ dx ≠ a ∧ h.get? a = some (PySem.W.instObj C dx) ∧
  ∃ mA, h.Ns1 dx mA ∧ (∀ f, RelO (fs.lookup f) (mA f)) ∧ PySem.Within mA (fs.map (·.1))
 | .own _ => ∃ o, h.get? a = some o
 | .xd fs => ∃ mA, h.Ns1 a mA ∧ ∀ f, RelO (fs.lookup f) (mA f)
 | .rng lo hi => ∃ t u v, h.get? a = some { cls := .type "range", data := .fields #[.int lo t, .int hi u, .int 1 v] }
 | .frz o u => h.get? a = some o ∧ ObjOk H h a u
 | .tbl ps => h.get? a = some { cls := .none, data := .fields ps }
 | .met f x => h.get? a = some (PySem.W.methodObj (.ref f) (.ref x))
 | .ext φ => φ h ∧ (∃ o, h.get? a = some o) ∧ ∀ h1 h2 : Heap, φ h1 → (∀ o, h1.get? a = some o → h2.get? a = some o) → φ h2
def HOk (H : Hp) (h : Heap) : Prop := ∀ a o, H a = some o → ObjOk P w H h a o
end
section
variable {a : Addr}
theorem ObjOk.lt (x : ObjOk P w H h a o) : a < h.objs.size := by
 cases o with
 | lst xs => obtain ⟨_, _, _, _, e⟩ := x; exact Heap.lt_size e
 | tup xs => obtain ⟨_, _, _, p⟩ := x; exact p.lt
 | dK kvs => obtain ⟨_, _, _, _, o, _, _, e, _⟩ := x; exact Heap.lt_size e
 | dT kvs => obtain ⟨_, _, _, _, o, _, _, e, _⟩ := x; exact Heap.lt_size e
 | set S n => obtain ⟨o, _, _, _, e, _⟩ := x; exact Heap.lt_size e
 | ins C dx fs => obtain ⟨_, _, _, e, _⟩ := x; exact Heap.lt_size e
 | own y => obtain ⟨_, e⟩ := x; exact Heap.lt_size e
 | xd fs => obtain ⟨_, ⟨_, _, _, e, _⟩, _⟩ := x; exact Heap.lt_size e
 | rng lo hi => obtain ⟨_, _, _, e⟩ := x; exact Heap.lt_size e
 | frz ob u => obtain ⟨e, _⟩ := x; exact Heap.lt_size e
 | tbl ps => exact Heap.lt_size (x)
 | met f y => exact Heap.lt_size (x)
 | ext φ => obtain ⟨_, ⟨_, e⟩, _⟩ := x; exact Heap.lt_size e
theorem Paired.mapP : ∀ {l₁ : List α} {l₂ : List β}, Paired F l₁ l₂ → (∀ a b, F a b → G a b) → Paired G l₁ l₂
 | _, _, .nil, _ => .nil
 | _, _, .cons r t, f => .cons (f _ _ r) (Paired.mapP t f)
theorem ObjOk.stay (x : ObjOk P w H h a o) (k : ∀ b u, (b = a ∨ H b = some (.own a)) → h.get? b = some u → h'.get? b = some u)
 (ho : ∀ b, H b = some (.own a) → H' b = some (.own a)) (ht : ∀ b xs, H b = some (.tup xs) → H' b = some (.tup xs)) : ObjOk P w H' h' a o := by
 induction o with
 | lst xs => obtain ⟨z, its, n, r, e⟩ := x; exact ⟨z, its, n, r, k _ _ (.inl rfl) e⟩
 | tup xs => obtain ⟨z, its, r, ob, e, c⟩ := x; exact ⟨z, its, r, ob, k _ _ (.inl rfl) e, c⟩
 | dK kvs => obtain ⟨z, y, vs, r, ob, es, ep, e, c⟩ := x; exact ⟨z, y, vs, r, ob, es, ep, k _ _ (.inl rfl) e, c⟩
 | dT kvs =>
  obtain ⟨z, y, xs, r, ob, es, ep, e, c⟩ := x
  exact ⟨z, y, xs, Paired.mapP r fun p q z => ⟨z.1, ht _ _ z.2.1, z.2.2⟩, ob, es, ep, k _ _ (.inl rfl) e, c⟩
 | set S n => obtain ⟨ob, es, ep, t, e, c⟩ := x; exact ⟨ob, es, ep, t, k _ _ (.inl rfl) e, c⟩
 | ins C dx fs =>
  obtain ⟨d, z, ne, e, mA, ⟨od, es, ep, e2, c⟩, r⟩ := x
  exact ⟨ho _ d, z, ne, k _ _ (.inl rfl) e, mA, ⟨od, es, ep, k _ _ (.inr d) e2, c⟩, r⟩
 | own y => obtain ⟨ob, e⟩ := x; exact ⟨ob, k _ _ (.inl rfl) e⟩
 | xd fs => obtain ⟨mA, ⟨od, es, ep, e, c⟩, r⟩ := x; exact ⟨mA, ⟨od, es, ep, k _ _ (.inl rfl) e, c⟩, r⟩
 | rng lo hi => obtain ⟨t, u, v, e⟩ := x; exact ⟨t, u, v, k _ _ (.inl rfl) e⟩
 | frz ob u ih => obtain ⟨e, q⟩ := x; exact ⟨k _ _ (.inl rfl) e, ih q⟩
 | tbl ps =>
  have e : h.get? a = some { cls := .none, data := .fields ps } := x
  show h'.get? a = some { cls := .none, data := .fields ps }
  exact k a _ (.inl rfl) e
 | met f y =>
  have e : h.get? a = some (PySem.W.methodObj (.ref f) (.ref y)) := x
  show h'.get? a = some (PySem.W.methodObj (.ref f) (.ref y))
  exact k a _ (.inl rfl) e
 | ext φ => obtain ⟨p, ⟨o, e⟩, st⟩ := x; exact ⟨st _ _ p fun o q => k _ _ (.inl rfl) q, ⟨o, k _ _ (.inl rfl) e⟩, st⟩
theorem HOk.lt (x : HOk P w H h) (e : H a = some o) : a < h.objs.size := (x a o e).lt
theorem HOk.fresh (x : HOk P w H h) (e : h.objs.size ≤ a) : H a = none := by
 cases q : H a with
 | none => rfl
 | some u => exact absurd (Nat.lt_of_lt_of_le (x.lt q) e) (Nat.lt_irrefl _)
theorem HOk.kept (x : HOk P w H h) (k : ∀ b u, h.get? b = some u → h'.get? b = some u) : HOk P w H h' := fun a o e =>
 (x a o e).stay (fun b u _ q => k b u q) (fun _ q => q) fun _ _ q => q
theorem HOk.laid (x : HOk P w H h) (k : ∀ b u, h.get? b = some u → h'.get? b = some u) (hp : h.objs.size ≤ a) (new : ObjOk P w (upd H a o) h' a o) : HOk P w (upd H a o) h' := fun b u e => by
 have hn := x.fresh hp
 by_cases hb : b = a
 · subst hb; rw [upd_same] at e; cases e; exact new
 · rw [upd_ne hb] at e
   exact (x b u e).stay (fun c v _ q => k c v q) (fun c q => by rw [upd_ne (ne_of_none q hn)]; exact q) fun c xs q => by rw [upd_ne (ne_of_none q hn)]; exact q
end
def Rd (H : Hp) (a : Addr) (u : HO) : Prop := H a = some u ∨ ∃ o, H a = some (.frz o u)
theorem Rd.ok (r : Rd H a u) (x : HOk P w H h) : ObjOk P w H h a u := by
 rcases r with r | ⟨o, r⟩
 · exact x a u r
 · obtain ⟨_, q⟩ := x a _ r
   omega
def Mut : Option HO → Prop
 | some (.lst _) => True
 | some (.dK _) => True
 | some (.dT _) => True
 | some (.set _ _) => True
 | some (.ins _ _ _) => True
 | some (.ext _) => True
 | _ => False
section
theorem HOk.write (ok : HOk P w H h) (mu : Mut (H x)) (he : e = x ∨ H e = some (.own x)) (k : ∀ b u, b ≠ e → h.get? b = some u → h'.get? b = some u) (heo : ∃ u, h'.get? e = some u)
 (new : ObjOk P w (upd H x o') h' x o') : HOk P w (upd H x o') h' := fun b u q => by
 have nown : ∀ c y, H c = some (.own y) → c ≠ x := fun c y r z => by subst z; rw [r] at mu; exact mu
 have ntup : ∀ c xs, H c = some (.tup xs) → c ≠ x := fun c xs r z => by subst z; rw [r] at mu; exact mu
 by_cases hb : b = x
 · subst hb; rw [upd_same] at q; cases q; exact new
 · rw [upd_ne hb] at q
   by_cases hbe : b = e
   · have q' : H b = some (.own x) := by
      rcases he with z | z
      · exact absurd (hbe.trans z) hb
      · rw [hbe]; exact z
     rw [q] at q'; cases q'
     obtain ⟨v, hv⟩ := heo
     exact ⟨v, by rw [hbe]; exact hv⟩
   · refine (ok b u q).stay (fun c v hc r => k c v ?_ r) (fun c r => by rw [upd_ne (nown c b r)]; exact r) fun c xs r => by rw [upd_ne (ntup c xs r)]; exact r
     rcases hc with rfl | hc
     · exact hbe
     · rintro rfl
       rcases he with z | z
       · exact nown c b hc z
       · rw [hc] at z; cases z; exact hb rfl
end
structure Un (fs ex : List Addr) (H H' : Hp) (h h' : Heap) : Prop where
 keep : ∀ b o, h.get? b = some o → H b = none → b ∉ fs → b ∉ ex → h'.get? b = some o
 slot : ∀ b o, h.get? b = some o → H b = none → b ∈ fs → b ∉ ex → ∃ sl, h'.get? b = some { o with slots := sl }
 free : ∀ b o, h.get? b = some o → H b = none → b ∉ ex → H' b = none
 there : ∀ b o, h.get? b = some o → b ∉ ex → ∃ o', h'.get? b = some o'
 tups : ∀ b xs, H b = some (.tup xs) → H' b = some (.tup xs)
 frzs : ∀ b o u, H b = some (.frz o u) → H' b = some (.frz o u)
 tbls : ∀ b ps, H b = some (.tbl ps) → ∃ more, H' b = some (.tbl (ps ++ more))
section
variable {h h1 h2 h' : Heap} {a x e : Addr}
theorem Un.any (u : Un fs ex H H1 h h1) (q : h.get? b = some ob) (n : H b = none) (hx : b ∉ ex) : ∃ sl, h1.get? b = some { ob with slots := sl } := by
 by_cases hb : b ∈ fs
 · exact u.slot b ob q n hb hx
 · exact ⟨ob.slots, u.keep b ob q n hb hx⟩
theorem Un.kept (k : ∀ b u, h.get? b = some u → h'.get? b = some u) : Un fs ex H H h h' :=
 ⟨fun b ob q _ _ _ => k b ob q, fun b ob q _ _ _ => ⟨ob.slots, k b ob q⟩, fun _ _ _ n _ => n, fun b ob q _ => ⟨ob, k b ob q⟩, fun _ _ q => q, fun _ _ _ q => q, fun _ ps q => ⟨#[], by simp_all⟩⟩
theorem Un.refl : Un fs ex H H h h := Un.kept fun _ _ q => q
theorem Un.laid (k : ∀ b u, h.get? b = some u → h'.get? b = some u) (hp : h.objs.size ≤ a) (hn : H a = none) : Un fs ex H (upd H a o) h h' where
 keep := fun b u q _ _ _ => k b u q
 slot := fun b u q _ _ _ => ⟨u.slots, k b u q⟩
 free := fun b u q n _ => by rw [upd_ne (Nat.ne_of_lt (Nat.lt_of_lt_of_le (Heap.lt_size q) hp))]; omega
 there := fun b u q _ => ⟨u, k b u q⟩
 tups := fun b xs q => by rw [upd_ne (ne_of_none q hn)]; omega
 frzs := fun b u xs q => by rw [upd_ne (ne_of_none q hn)]; omega
 tbls := fun b ps q => ⟨#[], by rw [upd_ne (ne_of_none q hn), q]; simp⟩
theorem Un.write (mu : Mut (H x)) (he : e = x ∨ H e = some (.own x)) (k : ∀ b u, b ≠ e → h.get? b = some u → h'.get? b = some u) (heo : ∃ u, h'.get? e = some u) : Un fs ex H (upd H x o) h h' := by
 have hx : ∀ b, H b = none → b ≠ x := fun b n z => by subst z; rw [n] at mu; exact mu
 have hb : ∀ b, H b = none → b ≠ e := fun b n z => by simp_all
 have hm : ∀ b u, H b = some u → ¬ Mut (some u) → b ≠ x := fun b u q nm z => by grind
 refine ⟨fun b u q n _ _ => k b u (hb b n) q, fun b u q n _ _ => ⟨u.slots, k b u (hb b n) q⟩, fun b u q n _ => by rw [upd_ne (hx b n)]; exact n, fun b u q _ => ?_,
  fun b xs q => by rw [upd_ne (hm b _ q fun z => z)]; exact q, fun b u xs q => by rw [upd_ne (hm b _ q fun z => z)]; exact q, fun b ps q => ⟨#[], by rw [upd_ne (hm b _ q fun z => z), q]; simp⟩⟩
 by_cases hbe : b = e
 · simp_all
 · exact ⟨u, k b u hbe q⟩
end
def trk (h : Heap) (H : Hp) : List Addr := (List.range h.objs.size).filter fun a => (H a).isSome
def hidT (h : Heap) (H : Hp) : Heap := PySem.W.hideAll h (trk h H)
theorem hidT_size (h : Heap) (H : Hp) : (hidT h H).objs.size = h.objs.size := PySem.W.hideAll_size _ _
theorem hidT_get (e : h.get? b = some o) (n : H b = none) : (hidT h H).get? b = some o :=
 PySem.W.hideAll_get _ e fun hm => by
  have q := (List.mem_filter.mp hm).2
  simp_all
theorem of_hidT (e : (hidT h H).get? b = some o) : h.get? b = some o ∧ H b = none := by
 have e' := PySem.W.of_hideAll _ e
 refine ⟨e', ?_⟩
 cases q : H b with
 | none => rfl
 | some x =>
  have hm : b ∈ trk h H := List.mem_filter.mpr ⟨List.mem_range.mpr (Heap.lt_size e'), by simp [q]⟩
  have z : (hidT h H).get? b = none := PySem.W.hideAll_none _ hm
  grind
def allNews (g h : Heap) (L : Addr) : List (Addr × Obj) := (List.range h.objs.size).filterMap fun a => if a = L ∨ (g.get? a).isSome = true then none else (h.get? a).map fun o => (a, o)
def rest (g h : Heap) (L d : Addr) : List (Addr × Obj) := (allNews g h L).filter fun p => decide (p.1 ≠ d)
structure Mod (K : PySem.W.Frag) (mg : Str → Option Value) (base : Heap) : Prop where
 kin : K.In base
 glob : base.Ns mainGlobals mg
 blt : ∃ mb, base.Ns builtinsNs mb ∧ ∀ x : Str, x ≠ "__name__" → mb x = bootBuiltins x
 nolimit : base.NoLimit
structure Cx where
 prog : Program
 w : World
 K : PySem.W.Frag
 mg : Str → Option Value
 base : Heap
 A : Around
 N : List Str
 s₀ : Shared
 H₀ : Hp
 env : Env
 outer : List Env
 stack : List Env
 ex : List Addr
 fn : Str → Bool
 calm : Bool
 pn : List (Addr × Obj)
 xe : Value → Shared → Prop
def frs (l : List Env) : List Addr := l.filterMap (·.frame)
abbrev Cx.fs (X : Cx) : List Addr := frs X.outer
def Vis (sc : Scope) (x : Str) : Prop := sc.names.lookup x = some .local ∨ sc.names.lookup x = some .cell ∨ sc.names.lookup x = some .free
def Loc (sc : Scope) (x : Str) : Prop := sc.names.lookup x = some .local ∨ sc.names.lookup x = some .cell
def Look (env : Env) (h : Heap) (m : Str → Option Value) (x : Str) (u : Value) : Prop :=
 (env.kindOf x = some .local ∧ m x = some u) ∨ ((env.kindOf x = some .cell ∨ env.kindOf x = some .free) ∧ ∃ c, env.cells.lookup x = some c ∧ h.IsCell c (some u))
structure Cx.Ok (X : Cx) : Prop where
 mod : Mod X.K X.mg X.base
 kind : X.env.scope.kind = .function
 glob : X.env.globals = mainGlobals
 blt : X.env.builtins = builtinsNs
 above : X.s₀.heap.objs.size ≤ X.env.locals
 inj : ∀ x y c, X.env.cells.lookup x = some c → X.env.cells.lookup y = some c → x = y
 has : ∀ x, (X.env.kindOf x = some .cell ∨ X.env.kindOf x = some .free) → ∃ c, X.env.cells.lookup x = some c
 cab : ∀ x c, X.fn x = true → X.env.cells.lookup x = some c → X.s₀.heap.objs.size ≤ c
 hd : X.calm = true → X.A.handled = none
 frames : X.A.frames = some X.stack
 stk : X.stack = X.outer ∨ (X.stack = X.env :: X.outer ∧ X.env.frame = some X.env.locals)
 exf : ∀ b ∈ X.ex, b ≠ X.env.locals ∧ ∀ x c, X.env.cells.lookup x = some c → c ≠ b
 bs : ∀ b o, X.base.get? b = some o → X.s₀.heap.get? b = some o ∧ X.H₀ b = none
 bsz : X.base.objs.size ≤ X.s₀.heap.objs.size
 noex : ∀ b o, X.base.get? b = some o → b ∉ X.ex
 exfs : ∀ b ∈ X.ex, b ∉ X.fs
 funs : X.s₀.heap.FunFrames X.base X.outer
 frf : ∀ b ∈ X.fs, X.H₀ b = none
structure Inv (X : Cx) (pins : List (Addr × Obj)) (σ : List (Option V)) (H : Hp) (s : Shared) : Prop where
 ok : X.Ok
 os : s.os = X.s₀.os
 bare : AllBare s.gens
 base : Un X.fs X.ex X.H₀ H X.s₀.heap s.heap
 loc : ∃ m, s.heap.Ns X.env.locals m ∧ ∀ (i : Nat) (x : Str) (v : V), X.N[i]? = some x → σ[i]? = some (some v) → Vis X.env.scope x → ∃ u, RelV v u ∧ Look X.env s.heap m x u
 cell : ∀ x c, X.env.cells.lookup x = some c → ∃ v, s.heap.IsCell c v
 free : H X.env.locals = none
 freeC : ∀ x c, X.env.cells.lookup x = some c → H c = none
 pin : ∀ p ∈ X.pn ++ pins, s.heap.get? p.1 = some p.2 ∧ H p.1 = none ∧ p.1 ≠ X.env.locals ∧ p.1 ∉ X.fs ∧ ∀ v, p.2.data ≠ .cell v
 hok : HOk X.prog X.w H s.heap
 len : σ.length = X.N.length
section
variable {X : Cx}
theorem Cx.Ok.nofr (ok : X.Ok) (e : X.base.get? b = some o) : b ∉ X.fs := fun hb => by
 have := (ok.funs.mem hb).1
 grind
theorem Inv.bs (I : Inv X pins σ H s) : ∀ b o, X.base.get? b = some o → s.heap.get? b = some o ∧ H b = none := fun b o e =>
 ⟨I.base.keep b o (I.ok.bs b o e).1 (I.ok.bs b o e).2 (I.ok.nofr e) (I.ok.noex b o e), I.base.free b o (I.ok.bs b o e).1 (I.ok.bs b o e).2 (I.ok.noex b o e)⟩
theorem Inv.bk (I : Inv X pins σ H s) : ∀ b o, X.base.get? b = some o → s.heap.get? b = some o := fun b o e => (I.bs b o e).1
theorem Inv.mod (I : Inv X pins σ H s) : Mod X.K X.mg X.base := I.ok.mod
theorem Inv.kIn (I : Inv X pins σ H s) : X.K.In s.heap := I.ok.mod.kin.keeps I.bk
theorem Inv.lt (I : Inv X pins σ H s) : X.env.locals < s.heap.objs.size := let ⟨_, hn, _⟩ := I.loc; hn.lt
theorem Inv.sz (I : Inv X pins σ H s) : X.s₀.heap.objs.size ≤ s.heap.objs.size := Nat.le_trans I.ok.above (Nat.le_of_lt I.lt)
theorem Inv.nofs (I : Inv X pins σ H s) {a : Addr} (h : s.heap.objs.size ≤ a) : a ∉ X.fs := fun hb => by
 obtain ⟨_, o, ho, _⟩ := I.ok.funs.mem hb
 exact absurd (Nat.lt_of_lt_of_le (Heap.lt_size ho) (Nat.le_trans I.sz h)) (Nat.lt_irrefl _)
theorem Inv.cne (I : Inv X pins σ H s) : ∀ x c, X.env.cells.lookup x = some c → c ≠ X.env.locals := fun x c e z => by
 obtain ⟨v, o, ho, hd⟩ := I.cell x c e
 obtain ⟨m, ⟨o', es, ep, ho', hd', _⟩, _⟩ := I.loc
 grind
theorem Inv.funs (I : Inv X pins σ H s) : s.heap.FunFrames X.base X.outer := by
 have all : ∀ (l : List Env), (∀ b ∈ frs l, b ∈ X.fs) → X.s₀.heap.FunFrames X.base l → s.heap.FunFrames X.base l := by
  intro l
  induction l with
  | nil => intro _ _; trivial
  | cons env r ih =>
   intro hs hl
   obtain ⟨hk, ⟨L, o, hf, hn, ho, hd⟩, hr⟩ := hl
   have hL := hs L (by unfold frs; simp_all)
   obtain ⟨sl, e⟩ := I.base.slot L o ho (I.ok.frf L hL) hL fun z => I.ok.exfs L z hL
   exact ⟨hk, ⟨L, _, hf, hn, e, hd⟩, ih (fun b hb => hs b (by unfold frs; rw [List.filterMap_cons, hf]; exact List.mem_cons_of_mem _ hb)) hr⟩
 exact all X.outer (fun _ hb => hb) I.ok.funs
theorem Inv.stack (I : Inv X pins σ H s) : s.heap.FunFrames X.base X.stack := by
 rcases I.ok.stk with e | ⟨e, hf⟩
 · rw [e]; exact I.funs
 · rw [e]
   obtain ⟨m, hn, _⟩ := I.loc
   refine .cons (by rw [I.ok.kind]; decide) hf hn ?_ I.funs
   exact Heap.get?_none_of_le (Nat.le_trans I.ok.bsz I.ok.above)
theorem Inv.stkSub (I : Inv X pins σ H s) : ∀ b ∈ frs X.stack, b ∈ X.env.locals :: X.fs := fun b hb => by
 rcases I.ok.stk with e | ⟨e, hf⟩
 · simp_all
 · rw [e] at hb
   unfold frs at hb
   rw [List.filterMap_cons, hf] at hb
   exact hb
theorem Inv.stkFree (I : Inv X pins σ H s) : ∀ b ∈ frs X.stack, H b = none := fun b hb => by
 rcases List.mem_cons.mp (I.stkSub b hb) with e | hb
 · rw [e]; exact I.free
 · obtain ⟨_, o, ho, _⟩ := I.ok.funs.mem hb
   exact I.base.free b o ho (I.ok.frf b hb) fun z => I.ok.exfs b z hb
theorem Inv.step {g' : Array GenState} {t' : Nat} {d' : Drawn} {ch : List Addr} (I : Inv X pins σ H s)
 (hch : ∀ b ∈ ch, (b ∈ X.ex ∨ X.s₀.heap.objs.size ≤ b) ∧ b ≠ X.env.locals ∧ (∀ x c, X.env.cells.lookup x = some c → c ≠ b) ∧ ∀ p ∈ X.pn ++ pins, p.1 ≠ b)
 (keep : ∀ b o, b ≠ X.env.locals → b ∉ X.fs → b ∉ ch → s.heap.get? b = some o → H b = none → h'.get? b = some o)
 (slot : ∀ b o, b ≠ X.env.locals → b ∈ X.fs → b ∉ ch → s.heap.get? b = some o → H b = none → ∃ sl, h'.get? b = some { o with slots := sl }) (free : ∀ b o, b ∉ ch → s.heap.get? b = some o → H b = none → H' b = none)
 (there : ∀ b o, b ∉ ch → s.heap.get? b = some o → ∃ o', h'.get? b = some o')
 (tups : ∀ b xs, H b = some (.tup xs) → H' b = some (.tup xs)) (frzs : ∀ b o u, H b = some (.frz o u) → H' b = some (.frz o u)) (tbls : ∀ b ps, H b = some (.tbl ps) → ∃ more, H' b = some (.tbl (ps ++ more)))
 (ns : ∀ m, s.heap.Ns X.env.locals m → h'.Ns X.env.locals m) (hok : HOk X.prog X.w H' h') (hg : AllBare g') :
 Inv X pins σ H' { s with heap := h', gens := g', drawn := d', toks := t' } := by
 have neL : ∀ b o, X.s₀.heap.get? b = some o → b ≠ X.env.locals := fun b o e => Nat.ne_of_lt (Nat.lt_of_lt_of_le (Heap.lt_size e) I.ok.above)
 have neC : ∀ b o, X.s₀.heap.get? b = some o → b ∉ X.ex → b ∉ ch := fun b o e hx hb => by
  rcases (hch b hb).1 with z | z
  · exact hx z
  · exact absurd (Nat.lt_of_lt_of_le (Heap.lt_size e) z) (Nat.lt_irrefl _)
 have cellK : ∀ x c, X.env.cells.lookup x = some c → ∀ v, s.heap.IsCell c v → h'.IsCell c v := fun x c e v ⟨o, ho, hd⟩ => by
  have nch : c ∉ ch := fun z => (hch c z).2.2.1 x c e rfl
  by_cases hc : c ∈ X.fs
  · obtain ⟨sl, q⟩ := slot c o (I.cne x c e) hc nch ho (I.freeC x c e)
    exact ⟨_, q, hd⟩
  · exact ⟨o, keep c o (I.cne x c e) hc nch ho (I.freeC x c e), hd⟩
 refine ⟨I.ok, I.os, hg, ⟨fun b o e n hb hx => ?_, fun b o e n hb hx => ?_, fun b o e n hx => ?_, fun b o e hx => ?_, fun b xs e => tups b xs (I.base.tups b xs e), fun b o xs e => frzs b o xs (I.base.frzs b o xs e), fun b ps e => ?_⟩, ?_, fun x c e => ?_, ?_, fun x c e => ?_, fun p hp => ?_, hok, I.len⟩
 · exact keep b o (neL b o e) hb (neC b o e hx) (I.base.keep b o e n hb hx) (I.base.free b o e n hx)
 · obtain ⟨sl, e1⟩ := I.base.slot b o e n hb hx
   obtain ⟨sl', e2⟩ := slot b _ (neL b o e) hb (neC b o e hx) e1 (I.base.free b o e n hx)
   exact ⟨sl', e2⟩
 · obtain ⟨o', e1⟩ := I.base.there b o e hx
   exact free b o' (neC b o e hx) e1 (I.base.free b o e n hx)
 · obtain ⟨o', e1⟩ := I.base.there b o e hx
   exact there b o' (neC b o e hx) e1
 · obtain ⟨m1, e1⟩ := I.base.tbls b ps e
   obtain ⟨m2, e2⟩ := tbls b _ e1
   exact ⟨m1 ++ m2, by rw [e2, Array.append_assoc]⟩
 · obtain ⟨m, hn, hl⟩ := I.loc
   refine ⟨m, ns m hn, fun i x v e1 e2 e3 => ?_⟩
   obtain ⟨u, r, l⟩ := hl i x v e1 e2 e3
   refine ⟨u, r, ?_⟩
   rcases l with l | ⟨k, c, e, z⟩
   · exact .inl l
   · exact .inr ⟨k, c, e, cellK x c e _ z⟩
 · obtain ⟨v, z⟩ := I.cell x c e
   exact ⟨v, cellK x c e v z⟩
 · obtain ⟨m, ⟨o, _, _, ho, _⟩, _⟩ := I.loc
   exact free _ o (fun z => (hch _ z).2.1 rfl) ho I.free
 · obtain ⟨v, o, ho, hd⟩ := I.cell x c e
   exact free c o (fun z => (hch c z).2.2.1 x c e rfl) ho (I.freeC x c e)
 · obtain ⟨e, n, ne, nf, d⟩ := I.pin p hp
   have nch : p.1 ∉ ch := fun z => (hch p.1 z).2.2.2 p hp rfl
   exact ⟨keep p.1 p.2 ne nf nch e n, free p.1 p.2 nch e n, ne, nf, d⟩
theorem Inv.un {t' : Nat} (I : Inv X pins σ H s) (u : Un X.fs [] H H' s.heap h') (hok : HOk X.prog X.w H' h') : Inv X pins σ H' { s with heap := h', toks := t' } := by
 obtain ⟨m, ⟨o, es, ep, ho, r⟩, _⟩ := id I.loc
 obtain ⟨sl, hL⟩ := u.any ho I.free (by simp)
 exact I.step (g' := s.gens) (d' := s.drawn) (ch := []) (fun _ z => nomatch z) (fun b o _ hb _ e n => u.keep b o e n hb (by simp)) (fun b o _ hb _ e n => u.slot b o e n hb (by simp)) (fun b o _ e n => u.free b o e n (by simp)) (fun b o _ e => u.there b o e (by simp)) u.tups u.frzs u.tbls (fun m' hm => by
  obtain ⟨o', es', ep', ho', r'⟩ := hm
  rw [ho] at ho'; cases ho'
  exact ⟨_, es', ep', hL, r'⟩) hok I.bare
theorem Inv.call {g' : Array GenState} {t' : Nat} {d' : Drawn} {ch : List Addr} (I : Inv X pins σ H s) (u : Un (frs X.stack) ch H H' s.heap h') (hok : HOk X.prog X.w H' h') (hg : AllBare g')
 (hch : ∀ b ∈ ch, (b ∈ X.ex ∨ X.s₀.heap.objs.size ≤ b) ∧ b ≠ X.env.locals ∧ (∀ x c, X.env.cells.lookup x = some c → c ≠ b) ∧ ∀ p ∈ X.pn ++ pins, p.1 ≠ b) :
 Inv X pins σ H' { s with heap := h', gens := g', drawn := d', toks := t' } := by
 obtain ⟨m, ⟨o, es, ep, ho, r⟩, _⟩ := id I.loc
 obtain ⟨sl, hL⟩ := u.any ho I.free fun z => (hch _ z).2.1 rfl
 exact I.step (ch := ch) hch (fun b o hL hb hc e n => u.keep b o e n (fun z => (List.mem_cons.mp (I.stkSub b z)).elim hL hb) hc) (fun b o _ _ hc e n => u.any e n hc) (fun b o hc e n => u.free b o e n hc) (fun b o hc e => u.there b o e hc) u.tups u.frzs u.tbls (fun m' hm => by
  obtain ⟨o', es', ep', ho', r'⟩ := hm
  rw [ho] at ho'; cases ho'
  exact ⟨_, es', ep', hL, r'⟩) hok hg
theorem Inv.turned {t' : Nat} {it : Addr} (I : Inv X pins σ H s) (k : ∀ b o, b ≠ it → s.heap.get? b = some o → h'.get? b = some o) (hn : H it = none) (hL : it ≠ X.env.locals)
 (h1 : it ∈ X.ex ∨ X.s₀.heap.objs.size ≤ it) (h2 : ∀ x c, X.env.cells.lookup x = some c → c ≠ it) (h3 : ∀ p ∈ X.pn ++ pins, p.1 ≠ it) : Inv X pins σ H { s with heap := h', toks := t' } := by
 have nit : ∀ b u, H b = some u → b ≠ it := fun b u e z => by rw [z, hn] at e; cases e
 refine I.step (g' := s.gens) (d' := s.drawn) (ch := [it]) (fun b hb => ?_) (fun b o _ _ hc e _ => k b o (fun z => hc (by simp [z])) e) (fun b o _ _ hc e _ => ⟨o.slots, k b o (fun z => hc (by simp [z])) e⟩) (fun _ _ _ _ n => n)
  (fun b o hc e => ⟨o, k b o (fun z => hc (by simp [z])) e⟩) (fun _ _ e => e) (fun _ _ _ e => e) (fun b ps e => ⟨#[], by rw [e]; simp⟩) (fun m hm => ?_) (fun b u e => ?_) I.bare
 · have e : b = it := by simpa using hb
   subst e
   exact ⟨h1, hL, h2, h3⟩
 · obtain ⟨o, es, ep, ho, r⟩ := hm
   exact ⟨o, es, ep, k _ o (Ne.symm hL) ho, r⟩
 · refine (I.hok b u e).stay (fun c v hc q => k c v ?_ q) (fun _ q => q) fun _ _ q => q
   rcases hc with z | z
   · rw [z]; exact nit b u e
   · exact nit c _ z
theorem Inv.tok (I : Inv X pins σ H s) (t : Nat) : Inv X pins σ H { s with toks := t } := I.un Un.refl I.hok
theorem Inv.kept {t' : Nat} (I : Inv X pins σ H s) (k : ∀ b u, s.heap.get? b = some u → h'.get? b = some u) : Inv X pins σ H { s with heap := h', toks := t' } := I.un (Un.kept k) (I.hok.kept k)
theorem Inv.laid {a : Addr} {o : HO} {t' : Nat} (I : Inv X pins σ H s) (k : ∀ b u, s.heap.get? b = some u → h'.get? b = some u) (hp : s.heap.objs.size ≤ a) (new : ObjOk X.prog X.w (upd H a o) h' a o) :
 Inv X pins σ (upd H a o) { s with heap := h', toks := t' } := I.un (Un.laid k hp (I.hok.fresh hp)) (I.hok.laid k hp new)
theorem Inv.write {x e : Addr} {o : HO} {t' : Nat} (I : Inv X pins σ H s) (mu : Mut (H x)) (he : e = x ∨ H e = some (.own x)) (k : ∀ b u, b ≠ e → s.heap.get? b = some u → h'.get? b = some u) (heo : ∃ u, h'.get? e = some u)
 (new : ObjOk X.prog X.w (upd H x o) h' x o) : Inv X pins σ (upd H x o) { s with heap := h', toks := t' } := I.un (Un.write mu he k heo) (I.hok.write mu he k heo new)
theorem Inv.pins_of (I : Inv X pins σ H s) (h : ∀ p ∈ pins', s.heap.get? p.1 = some p.2 ∧ H p.1 = none ∧ p.1 ≠ X.env.locals ∧ p.1 ∉ X.fs ∧ ∀ v, p.2.data ≠ .cell v) : Inv X pins' σ H s :=
 ⟨I.ok, I.os, I.bare, I.base, I.loc, I.cell, I.free, I.freeC, fun p hp => (List.mem_append.mp hp).elim (fun z => I.pin p (List.mem_append_left _ z)) (h p), I.hok, I.len⟩
theorem nodup_ix {N : List Str} (hN : N.Nodup) {i j : Nat} (a : N[i]? = some x) (b : N[j]? = some x) : i = j := by
 obtain ⟨h1, e1⟩ := List.getElem?_eq_some_iff.mp a
 obtain ⟨h2, e2⟩ := List.getElem?_eq_some_iff.mp b
 exact (List.getElem_inj hN).mp (e1.trans e2.symm)
theorem store_ok2 {M : Model} {A : Around} {E : Value → Shared → Prop} {i : Nat} {x : Str} {v : V} {u : Value} {Q : Unit → Shared → Prop} (I : Inv X pins σ H s) (hN : X.N.Nodup) (hi : X.N[i]? = some x) (hx : Loc X.env.scope x) (r : RelV v u)
 (h : ∀ s', Inv X pins (σ.set i (some v)) H s' → (∃ a, Heap.SameBut a s.heap s'.heap ∧ (a = X.env.locals ∨ X.env.cells.lookup x = some a)) → Q () s') (hf : X.fn x = true ∨ X.env.scope.names.lookup x = some .local := by first | exact .inl rfl | exact .inr rfl | assumption) : wpAny M A (storeName X.env x u) Q E s := by
 obtain ⟨m, hn, hl⟩ := id I.loc
 have hcls : (X.env.scope.kind == .class || (X.env.scope.kind == .module && X.env.locals != X.env.globals)) = false := by rw [I.ok.kind]; rfl
 have hiσ : i < σ.length := by rw [I.len]; exact (List.getElem?_eq_some_iff.mp hi).1
 have cne := I.cne
 have tracked : ∀ {a : Addr} {h' : Heap}, (∃ o, s.heap.get? a = some o ∧ H a = none) → Heap.SameBut a s.heap h' → HOk X.prog X.w H h' := fun {a h'} ha hs b ob e => by
  obtain ⟨_, _, hfree⟩ := ha
  refine (I.hok b ob e).stay (fun c w' hc q => (hs.2 c ?_).trans q) (fun _ q => q) fun _ _ q => q
  rintro rfl
  rcases hc with rfl | hc
  · rw [hfree] at e; cases e
  · rw [hfree] at hc; cases hc
 rcases hx with hk | hk
 · refine wpAny_storeName_local hk hn (fun h' hn' hs => ?_) hcls
   obtain ⟨oL, _, _, hoL, _⟩ := id hn
   refine h _ ⟨I.ok, I.os, I.bare, ⟨fun b o e n hb hx => ?_, fun b o e n hb hx => ?_, I.base.free, fun b o e hx => ?_, I.base.tups, I.base.frzs, I.base.tbls⟩, ⟨_, hn', fun j y v' e1 e2 e3 => ?_⟩, fun y c e => ?_, I.free, I.freeC, fun p hp => ?_, tracked ⟨oL, hoL, I.free⟩ hs, by simpa using I.len⟩ ⟨_, hs, .inl rfl⟩
   · exact (hs.2 b (Nat.ne_of_lt (Nat.lt_of_lt_of_le (Heap.lt_size e) I.ok.above))).trans (I.base.keep b o e n hb hx)
   · obtain ⟨sl, e1⟩ := I.base.slot b o e n hb hx
     exact ⟨sl, (hs.2 b (Nat.ne_of_lt (Nat.lt_of_lt_of_le (Heap.lt_size e) I.ok.above))).trans e1⟩
   · obtain ⟨o', e1⟩ := I.base.there b o e hx
     exact ⟨o', (hs.2 b (Nat.ne_of_lt (Nat.lt_of_lt_of_le (Heap.lt_size e) I.ok.above))).trans e1⟩
   · by_cases hj : j = i
     · subst hj
       rw [hi] at e1; cases e1
       rw [List.getElem?_set_self hiσ] at e2
       cases e2
       exact ⟨u, r, .inl ⟨hk, by simp⟩⟩
     · rw [List.getElem?_set_ne (Ne.symm hj)] at e2
       obtain ⟨u', r', q⟩ := hl j y v' e1 e2 e3
       refine ⟨u', r', ?_⟩
       rcases q with ⟨k, e⟩ | ⟨k, c, e, z⟩
       · refine .inl ⟨k, ?_⟩
         have : y ≠ x := fun e => hj (nodup_ix hN e1 (e ▸ hi))
         simp [this, e]
       · exact .inr ⟨k, c, e, z.sameBut hs (cne y c e)⟩
   · obtain ⟨w', z⟩ := I.cell y c e
     exact ⟨w', z.sameBut hs (cne y c e)⟩
   · obtain ⟨e, n, ne, nf, d⟩ := I.pin p hp
     exact ⟨(hs.2 p.1 ne).trans e, n, ne, nf, d⟩
 · have hfn : X.fn x = true := by
    rcases hf with z | z
    · exact z
    · rw [z] at hk; cases hk
   obtain ⟨c, hc⟩ := I.ok.has x (.inl hk)
   obtain ⟨w', z⟩ := I.cell x c hc
   refine wpAny_storeName_cell I.ok.kind hk hc z (fun h' hc' hs => ?_)
   obtain ⟨oc, hoc, hocd⟩ := id z
   refine h { s with heap := h' } ⟨I.ok, I.os, I.bare, ⟨fun b o e n hb hx => ?_, fun b o e n hb hx => ?_, I.base.free, fun b o e hx => ?_, I.base.tups, I.base.frzs, I.base.tbls⟩, ⟨m, hn.sameBut hs (Ne.symm (cne x c hc)), fun j y v' e1 e2 e3 => ?_⟩, fun y c' e => ?_, I.free, I.freeC, fun p hp => ?_, tracked ⟨oc, hoc, I.freeC x c hc⟩ hs, by simpa using I.len⟩ ⟨c, hs, .inr hc⟩
   · exact (hs.2 b (Nat.ne_of_lt (Nat.lt_of_lt_of_le (Heap.lt_size e) (I.ok.cab x c hfn hc)))).trans (I.base.keep b o e n hb hx)
   · obtain ⟨sl, e1⟩ := I.base.slot b o e n hb hx
     exact ⟨sl, (hs.2 b (Nat.ne_of_lt (Nat.lt_of_lt_of_le (Heap.lt_size e) (I.ok.cab x c hfn hc)))).trans e1⟩
   · obtain ⟨o', e1⟩ := I.base.there b o e hx
     exact ⟨o', (hs.2 b (Nat.ne_of_lt (Nat.lt_of_lt_of_le (Heap.lt_size e) (I.ok.cab x c hfn hc)))).trans e1⟩
   · by_cases hj : j = i
     · subst hj
       rw [hi] at e1; cases e1
       rw [List.getElem?_set_self hiσ] at e2
       cases e2
       exact ⟨u, r, .inr ⟨.inl hk, c, hc, hc'⟩⟩
     · rw [List.getElem?_set_ne (Ne.symm hj)] at e2
       obtain ⟨u', r', q⟩ := hl j y v' e1 e2 e3
       refine ⟨u', r', ?_⟩
       rcases q with q | ⟨k, c', e, z'⟩
       · exact .inl q
       · refine .inr ⟨k, c', e, z'.sameBut hs ?_⟩
         rintro rfl
         exact hj (nodup_ix hN e1 (I.ok.inj _ _ _ e hc ▸ hi))
   · by_cases hcc : c' = c
     · subst hcc; exact ⟨_, hc'⟩
     · obtain ⟨w2, z2⟩ := I.cell y c' e
       exact ⟨w2, z2.sameBut hs hcc⟩
   · obtain ⟨e, n, ne, nf, d⟩ := I.pin p hp
     refine ⟨(hs.2 p.1 ?_).trans e, n, ne, nf, d⟩
     intro q
     rw [q, hoc] at e
     have q' : oc = p.2 := Option.some.inj e
     exact d w' (by rw [← q']; exact hocd)
theorem store_ok (I : Inv X pins σ H s) (hN : X.N.Nodup) (hi : X.N[i]? = some x) (hx : Loc X.env.scope x) (r : RelV v u)
 (h : ∀ s', Inv X pins (σ.set i (some v)) H s' → Q () s') (hf : X.fn x = true ∨ X.env.scope.names.lookup x = some .local := by first | exact .inl rfl | exact .inr rfl | assumption) : wpAny M A (storeName X.env x u) Q E s :=
 store_ok2 I hN hi hx r (fun s' I' _ => h s' I') hf
theorem Inv.call' {s' : Shared} {ch : List Addr} (I : Inv X pins σ H s) (ho : s'.os = s.os) (u : Un (frs X.stack) ch H H' s.heap s'.heap) (hok : HOk X.prog X.w H' s'.heap) (hg : AllBare s'.gens)
 (hch : ∀ b ∈ ch, (b ∈ X.ex ∨ X.s₀.heap.objs.size ≤ b) ∧ b ≠ X.env.locals ∧ (∀ x c, X.env.cells.lookup x = some c → c ≠ b) ∧ ∀ p ∈ X.pn ++ pins, p.1 ≠ b) : Inv X pins σ H' s' := by
 obtain ⟨h', g', d', t', o'⟩ := s'
 have e : o' = s.os := ho
 subst e
 exact I.call (g' := g') (t' := t') (d' := d') u hok hg hch
end
abbrev XK := Value → Option Addr → Hp → Prop
abbrev St := List (Option V)
abbrev VK := V → Hp → Prop
abbrev TE := St → Hp → VK → Prop
abbrev TT := St → Hp → (Bool → Hp → Prop) → Prop
abbrev TA := St → Hp → (List V → Hp → Prop) → Prop
structure Ends where
 nx : St → Hp → Prop
 rt : VK
 bk : St → Hp → Prop := fun _ _ => False
 ct : St → Hp → Prop := fun _ _ => False
abbrev TS := Ends → St → Hp → Prop
def EP (X : Cx) (pins : List (Addr × Obj)) (σ : St) (Q : VK) (u : Value) (s' : Shared) : Prop := ∃ v H', Inv X pins σ H' s' ∧ RelV v u ∧ Q v H'
def TP (X : Cx) (pins : List (Addr × Obj)) (σ : St) (Q : Bool → Hp → Prop) (b : Bool) (s' : Shared) : Prop := ∃ H', Inv X pins σ H' s' ∧ Q b H'
def AP (X : Cx) (pins : List (Addr × Obj)) (σ : St) (Q : List V → Hp → Prop) (us : List Value) (s' : Shared) : Prop := ∃ vs H', Inv X pins σ H' s' ∧ Vals vs us ∧ Q vs H'
def SP (X : Cx) (pins : List (Addr × Obj)) (D : Ends) (f : Flow) (s' : Shared) : Prop :=
 match f with
 | .next => ∃ σ' H', Inv X pins σ' H' s' ∧ D.nx σ' H'
 | .brk => ∃ σ' H', Inv X pins σ' H' s' ∧ D.bk σ' H'
 | .cont => ∃ σ' H', Inv X pins σ' H' s' ∧ D.ct σ' H'
 | .ret u => ∃ v σ' H', Inv X pins σ' H' s' ∧ RelV v u ∧ D.rt v H'
def PE (X : Cx) (e : Expr) (t : TE) : Prop :=
 ∀ (pins : List (Addr × Obj)) (s : Shared) (σ : St) (H : Hp) (Q : VK), Inv X pins σ H s → t σ H Q → wpAny (model X.prog X.w) X.A (eval e X.env) (EP X pins σ Q) X.xe s
def PT (X : Cx) (e : Expr) (t : TT) : Prop :=
 ∀ (pins : List (Addr × Obj)) (s : Shared) (σ : St) (H : Hp) (Q : Bool → Hp → Prop), Inv X pins σ H s → t σ H Q → wpAny (model X.prog X.w) X.A (isTrue e X.env (eval e X.env)) (TP X pins σ Q) X.xe s
def PW (X : Cx) (e : Expr) (t : TT) : Prop :=
 ∀ (whole : Sem Value) (pins : List (Addr × Obj)) (s : Shared) (σ : St) (H : Hp) (Q : Bool → Hp → Prop), Inv X pins σ H s → t σ H Q → wpAny (model X.prog X.w) X.A (isTrue e X.env whole) (TP X pins σ Q) X.xe s
theorem PW.pt (h : PW X e t) : PT X e t := h _
def PA (X : Cx) (es : List Expr) (t : TA) : Prop :=
 ∀ (pos : Pos) (pins : List (Addr × Obj)) (s : Shared) (σ : St) (H : Hp) (Q : List V → Hp → Prop), Inv X pins σ H s → t σ H Q → wpAny (model X.prog X.w) X.A (spliced (backTo pos (starEach es X.env))) (AP X pins σ Q) X.xe s
def PS (X : Cx) (st : Stmt) (t : TS) : Prop :=
 ∀ (pins : List (Addr × Obj)) (s : Shared) (σ : St) (H : Hp) (D : Ends), Inv X pins σ H s → t D σ H → wpAny (model X.prog X.w) X.A (exec st X.env) (SP X pins D) X.xe s
def PSs (X : Cx) (st : List Stmt) (t : TS) : Prop :=
 ∀ (pins : List (Addr × Obj)) (s : Shared) (σ : St) (H : Hp) (D : Ends), Inv X pins σ H s → t D σ H → wpAny (model X.prog X.w) X.A (execs st X.env) (SP X pins D) X.xe s
theorem thn {α : Type} {t : Sem α} {Q Q' : α → Shared → Prop} {M : Model} {A : Around} {E : Value → Shared → Prop} {s : Shared} (h : wpAny M A t Q E s) (hQ : ∀ a s, Q a s → Q' a s) : wpAny M A t Q' E s := wpAny_mono h hQ fun _ _ x => x
section
variable {X : Cx}
theorem bin {a b : Expr} {ta tb : TE} (ha : PE X a ta) (hb : PE X b tb) {pins : List (Addr × Obj)} {s : Shared} {σ : St} {H : Hp} {R : V → V → Hp → Prop} (I : Inv X pins σ H s) (h : ta σ H fun x H1 => tb σ H1 fun y H2 => R x y H2)
 {α : Type} {Q : α → Shared → Prop} {f : Value → Value → Sem α}
 (hf : ∀ v u s2 x y H2, Inv X pins σ H2 s2 → RelV x v → RelV y u → R x y H2 → wpAny (model X.prog X.w) X.A (f v u) Q X.xe s2) :
 wpAny (model X.prog X.w) X.A (eval a X.env) (fun v s₁ => wpAny (model X.prog X.w) X.A (eval b X.env) (fun u s₂ => wpAny (model X.prog X.w) X.A (f v u) Q X.xe s₂) X.xe s₁) X.xe s := by
 refine thn (ha pins s σ H _ I h) fun v s1 ⟨x, H1, I1, r1, q1⟩ => ?_
 refine thn (hb pins s1 σ H1 _ I1 q1) fun u s2 ⟨y, H2, I2, r2, q2⟩ => ?_
 exact hf v u s2 x y H2 I2 r1 r2 q2
def tVar (i : Nat) : TE := fun σ H Q => ∃ v, σ[i]? = some (some v) ∧ Q v H
def tC (v : V) : TE := fun _ H Q => Q v H
theorem pe_var {pos : Pos} (hN : X.N[i]? = some x) (hv : Vis X.env.scope x) (hd : (x == ("__debug__" : Str)) = false := by decide) (hcd : (x == ("__classdict__" : Str)) = false := by decide) : PE X (.Name x pos) (tVar i) := by
 intro pins s σ H Q I h
 obtain ⟨v, e, h⟩ := h
 obtain ⟨m, hn, hl⟩ := I.loc
 obtain ⟨u, r, l⟩ := hl i x v hN e hv
 have fin : EP X pins σ Q u s := ⟨v, H, I, r, h⟩
 rcases l with ⟨hk, hm⟩ | ⟨hk, c, hc, hcell⟩
 · exact wpAny_Name (wpAny_loadName_local I.ok.kind hk hn hm fin) hd
 · rcases hk with hk | hk
   · exact wpAny_Name (wpAny_loadName_cell I.ok.kind hk hc hcell fin) hd
   · exact wpAny_Name (wpAny_loadName_free I.ok.kind hk hc hcell fin hcd) hd
theorem pe_int : PE X (.Constant (.int i) j pos) (tC (.int i)) := fun _ _ _ H _ I h => wpAny_Constant_int ⟨.int i, H, I.tok _, ⟨_, rfl⟩, h⟩
theorem pe_bl : PE X (.Constant (.bool b) j pos) (tC (.bl b)) := fun _ _ _ H _ I h => Constant_bool ⟨.bl b, H, I, rfl, h⟩
theorem pe_non : PE X (.Constant .none j pos) (tC .non) := fun _ _ _ H _ I h => Constant_none ⟨.non, H, I, rfl, h⟩
def Gl (X : Cx) (x : Str) : Prop := X.env.kindOf x = some .globalImplicit
theorem ld_glob {σ : St} (I : Inv X pins σ H s) (hg : Gl X x) (hm : X.mg x = some u) (h : Q u s)
 (hd : (x == ("__debug__" : Str)) = false := by decide) : wpAny (model X.prog X.w) X.A (eval (.Name x pos) X.env) Q E s :=
 Calls.Name_function_global I.ok.kind hg (Calls.loadGlobal_global (by rw [I.ok.glob]; exact I.mod.glob.keeps I.bk) hm h) hd
theorem ld_blt {E : Value → Shared → Prop} {σ : St} {pos : Pos} (I : Inv X pins σ H s) (hg : Gl X x) (hm : X.mg x = none) (hv : bootBuiltins x = some u) (h : Q u s)
 (hn : x ≠ "__name__" := by decide) (hd : (x == ("__debug__" : Str)) = false := by decide) : wpAny (model X.prog X.w) X.A (eval (.Name x pos) X.env) Q E s := by
 obtain ⟨mb, h1, h2⟩ := I.mod.blt
 exact Calls.Name_function_global I.ok.kind hg (Calls.loadGlobal_builtin (by rw [I.ok.glob]; exact I.mod.glob.keeps I.bk) hm (by rw [I.ok.blt]; exact h1.keeps I.bk) ((h2 x hn).trans hv) h) hd
theorem pe_bltn {pos : Pos} (hg : Gl X x) (hm : X.mg x = none) (hv : bootBuiltins x = some u) (r : RelV v u) (hn : x ≠ "__name__" := by decide) (hd : (x == ("__debug__" : Str)) = false := by decide) : PE X (.Name x pos) (tC v) :=
 fun _ _ _ H _ I h => ld_blt I hg hm hv ⟨v, H, I, r, h⟩ hn hd
def PC (X : Cx) (op : CmpOp) (a b : Expr) (t : TE) : Prop :=
 ∀ (pins : List (Addr × Obj)) (s : Shared) (σ : St) (H : Hp) (Q : VK), Inv X pins σ H s → t σ H Q →
  wpAny (model X.prog X.w) X.A (eval a X.env) (fun v s₁ => wpAny (model X.prog X.w) X.A (eval b X.env) (fun u s₂ => wpAny (model X.prog X.w) X.A (compareOp op v u) (EP X pins σ Q) X.xe s₂) X.xe s₁) X.xe s
def tB (t : TE) : TT := fun σ H Q => t σ H fun x H1 => ∃ c, x = .bl c ∧ Q c H1
theorem pt_cmp (h : PC X op a b t) (h1 : behindInMarks op b = false := by first | exact nobehind _ (by decide) (by decide) | rfl) : PT X (.Compare a [op] [b] pos) (tB t) := by
 intro pins s σ H Q I hw
 refine wpAny_isTrue_Compare1 (thn (h pins s σ H _ I hw) fun v s1 h1 => thn h1 fun u s2 h2 => thn h2 fun c s3 ⟨x, H1, I1, r1, q1⟩ => ?_) h1
 obtain ⟨d, rfl, q⟩ := q1
 cases r1
 exact wpAny_truthy_bool ⟨H1, I1, q⟩
theorem pt_val {e : Expr} {t : TE} (h : PE X e t) (he : ∀ whole, isTrue e X.env whole = (do let v ← whole; standAt e.pos; holding [v] (truthy v)) := by intro _; rfl) : PT X e (tB t) := by
 intro pins s σ H Q I hw
 refine isTrue_plain (thn (h pins s σ H _ I hw) fun v s1 ⟨x, H1, I1, r1, q1⟩ => ?_) (he _)
 obtain ⟨d, rfl, q⟩ := q1
 cases r1
 exact wpAny_truthy_bool ⟨H1, I1, q⟩
variable {rest : List Expr}
def tAnd (t u : TT) : TT := fun σ H Q => t σ H fun c H1 => if c = true then u σ H1 Q else Q false H1
def tOr (t u : TT) : TT := fun σ H Q => t σ H fun c H1 => if c = true then Q true H1 else u σ H1 Q
def tNot (t : TT) : TT := fun σ H Q => t σ H fun c H1 => Q (!c) H1
theorem pw_and1 (ha : PT X a tA) : PW X (.BoolOp .And [a] pos) tA := by
 intro wh pins s σ H Q I h
 refine isTrue_and (thn (ha pins s σ H Q I h) fun c s1 e => ?_)
 cases c with
 | true => exact isTrue_and_nil e
 | false => exact e
theorem pw_or1 (ha : PT X a tA) : PW X (.BoolOp .Or [a] pos) tA := by
 intro wh pins s σ H Q I h
 refine isTrue_or (thn (ha pins s σ H Q I h) fun c s1 e => ?_)
 cases c with
 | false => exact isTrue_or_nil e
 | true => exact e
theorem pw_and (ha : PT X a tA) (hb : PW X (.BoolOp .And (b :: rest) pos) tB') : PW X (.BoolOp .And (a :: b :: rest) pos) (tAnd tA tB') := by
 intro wh pins s σ H Q I h
 refine isTrue_and (thn (ha pins s σ H _ I h) fun c s1 ⟨H1, I1, q1⟩ => ?_)
 cases c with
 | true => exact hb wh pins s1 σ H1 Q I1 q1
 | false => assumption
theorem pw_or (ha : PT X a tA) (hb : PW X (.BoolOp .Or (b :: rest) pos) tB') : PW X (.BoolOp .Or (a :: b :: rest) pos) (tOr tA tB') := by
 intro wh pins s σ H Q I h
 refine isTrue_or (thn (ha pins s σ H _ I h) fun c s1 ⟨H1, I1, q1⟩ => ?_)
 cases c with
 | true => assumption
 | false => exact hb wh pins s1 σ H1 Q I1 q1
theorem pt_not (ha : PT X a tA) : PT X (.UnaryOp .Not a pos) (tNot tA) := by
 intro pins s σ H Q I h
 exact isTrue_not (ha pins s σ H _ I h)
def tAndV (ta tb : TE) : TE := fun σ H Q => ta σ H fun x H1 => ∃ c, x = .bl c ∧ if c = true then tb σ H1 Q else Q (.bl false) H1
theorem pe_one (h : PE X a t) : PE X (.BoolOp op [a] pos) t := fun pins s σ H Q I hw => BoolOp_one (h pins s σ H Q I hw)
theorem pe_and (ha : PE X a ta) (hb : PE X (.BoolOp .And (b :: rest) pos) tb) : PE X (.BoolOp .And (a :: b :: rest) pos) (tAndV ta tb) := by
 intro pins s σ H Q I h
 refine BoolOp_and (thn (ha pins s σ H _ I h) fun v s1 ⟨x, H1, I1, r1, q1⟩ => ?_)
 obtain ⟨c, rfl, q1⟩ := q1
 cases r1
 refine wpAny_truthy_bool ?_
 cases c with
 | true => exact hb pins s1 σ H1 Q I1 q1
 | false => exact ⟨.bl false, H1, I1, rfl, q1⟩
end
def SqL (K : PySem.W.Frag) (H : Hp) (a : Addr) (xs : List V) : Prop :=
 Rd H a (.lst xs) ∨
  ∃ (o : Obj) (its : Array Value) (n : Nat), K.lookup a = some o ∧ o.cls = .type "list" ∧ o.dict = none ∧ o.data = .seq its n ∧ its.size ≤ sizeLine ∧ Vals xs its.toList
def SqT (K : PySem.W.Frag) (H : Hp) (a : Addr) (xs : List V) : Prop :=
 Rd H a (.tup xs) ∨
  ∃ (o : Obj) (its : Array Value) (n : Nat), K.lookup a = some o ∧ o.cls = .type "tuple" ∧ o.data = .seq its n ∧ its.size ≤ sizeLine ∧ Vals xs its.toList
def absV : Value → Option V
 | .none => some .non
 | .bool b => some (.bl b)
 | .int i _ => some (.int i)
 | .str x _ => some (.str x)
 | .bytes b _ => some (.byt b)
 | .float b _ => some (.flt b)
 | .ref a => some (.ref a)
 | .type n => some (.ty n)
 | _ => none
theorem RelV.abs (r : RelV x u) : absV u = some x := by
 cases x with
 | non => cases r; rfl
 | bl _ => cases r; rfl
 | int _ => obtain ⟨t, rfl⟩ := r; rfl
 | str _ => obtain ⟨t, rfl⟩ := r; rfl
 | byt _ => obtain ⟨t, rfl⟩ := r; rfl
 | flt _ => obtain ⟨t, rfl⟩ := r; rfl
 | ref _ => cases r; rfl
 | ty _ => cases r; rfl
theorem RelV.inj (r : RelV x u) (q : RelV y u) : x = y := Option.some.inj (r.abs.symm.trans q.abs)
theorem Vals.inj : ∀ {xs ys : List V} {us : List Value}, Vals xs us → Vals ys us → xs = ys
 | _, _, _, .nil, .nil => rfl
 | _, _, _, .cons r t, .cons r' t' => by rw [r.inj r', Vals.inj t t']
section
variable {σ : St}
theorem SqL.of {K : PySem.W.Frag} (h : H a = some (.lst xs)) : SqL K H a xs := .inl (.inl h)
theorem SqT.of {K : PySem.W.Frag} (h : H a = some (.tup xs)) : SqT K H a xs := .inl (.inl h)
theorem Inv.list (I : Inv X pins σ H s) (h : SqL X.K H a xs) : ∃ its : List Value, Vals xs its ∧ PlainL s.heap a its.toArray ∧ xs.length ≤ sizeLine := by
 rcases h with h | ⟨o, its, n, hk, hc, hd, hs, hz, r⟩
 · obtain ⟨z, its, n, r, e⟩ := h.ok I.hok
   exact ⟨its, r, ⟨_, n, e, rfl, rfl, rfl⟩, z⟩
 · refine ⟨its.toList, r, ⟨o, n, I.kIn a o hk, hc, hd, by omega⟩, ?_⟩
   have e := r.length
   grind
theorem Inv.tuple (I : Inv X pins σ H s) (h : SqT X.K H a xs) : ∃ its : List Value, Vals xs its ∧ IsTup s.heap a its.toArray ∧ xs.length ≤ sizeLine := by
 rcases h with h | ⟨o, its, n, hk, hc, hs, hz, r⟩
 · obtain ⟨z, its, r, p⟩ := h.ok I.hok
   grind
 · refine ⟨its.toList, r, ⟨o, I.kIn a o hk, hc, n, by omega⟩, ?_⟩
   have e := r.length
   grind
theorem Inv.list_inj (I : Inv X pins σ H s) (h : SqL X.K H a xs) (h' : SqL X.K H a ys) : xs = ys := by
 obtain ⟨its, r, ⟨o, n, e, _, _, d⟩, _⟩ := I.list h
 obtain ⟨its', r', ⟨o', n', e', _, _, d'⟩, _⟩ := I.list h'
 have : its = its' := by grind
 subst this
 exact r.inj r'
theorem Inv.tuple_inj (I : Inv X pins σ H s) (h : SqT X.K H a xs) (h' : SqT X.K H a ys) : xs = ys := by
 obtain ⟨its, r, ⟨o, e, _, n, d⟩, _⟩ := I.tuple h
 obtain ⟨its', r', ⟨o', e', _, n', d'⟩, _⟩ := I.tuple h'
 rw [e] at e'; cases e'
 rw [d] at d'
 injection d' with d1 _
 have : its = its' := by grind
 subst this
 exact r.inj r'
end
abbrev Cx.wish (X : Cx) (E : Value → Shared → Prop) : Cx := { X with xe := E }
abbrev Cx.nox (X : Cx) : Cx := X.wish fun _ _ => False
theorem Cx.Ok.wish {X : Cx} (ok : X.Ok) (E : Value → Shared → Prop) : (X.wish E).Ok :=
 ⟨ok.mod, ok.kind, ok.glob, ok.blt, ok.above, ok.inj, ok.has, ok.cab, ok.hd, ok.frames, ok.stk, ok.exf, ok.bs, ok.bsz, ok.noex, ok.exfs, ok.funs, ok.frf⟩
theorem Cx.Ok.unwish {X : Cx} (ok : (X.wish E).Ok) : X.Ok :=
 ⟨ok.mod, ok.kind, ok.glob, ok.blt, ok.above, ok.inj, ok.has, ok.cab, ok.hd, ok.frames, ok.stk, ok.exf, ok.bs, ok.bsz, ok.noex, ok.exfs, ok.funs, ok.frf⟩
section
variable {σ : St}
theorem Inv.wish (I : Inv X pins σ H s) (E : Value → Shared → Prop) : Inv (X.wish E) pins σ H s := ⟨I.ok.wish E, I.os, I.bare, I.base, I.loc, I.cell, I.free, I.freeC, I.pin, I.hok, I.len⟩
theorem Inv.unwish (I : Inv (X.wish E) pins σ H s) : Inv X pins σ H s := ⟨I.ok.unwish, I.os, I.bare, I.base, I.loc, I.cell, I.free, I.freeC, I.pin, I.hok, I.len⟩
theorem SP.unwish (h : SP (X.wish E) pins D f s') : SP X pins D f s' := by
 cases f with
 | next => obtain ⟨σ', H', I, q⟩ := h; exact ⟨σ', H', I.unwish, q⟩
 | brk => obtain ⟨σ', H', I, q⟩ := h; exact ⟨σ', H', I.unwish, q⟩
 | cont => obtain ⟨σ', H', I, q⟩ := h; exact ⟨σ', H', I.unwish, q⟩
 | ret u => obtain ⟨v, σ', H', I, r, q⟩ := h; exact ⟨v, σ', H', I.unwish, r, q⟩
theorem PSs.nox {st : List Stmt} (h : PSs X.nox st t) : PSs X st t := fun pins s σ H D I hw =>
 wpAny_mono (h pins s σ H D (I.wish _) hw) (fun _ _ q => q.unwish) fun _ _ z => False.elim z
end
section
variable {st : Stmt} {rest : List Stmt}
def tNext : TS := fun D σ H => D.nx σ H
def tSeq (t u : TS) : TS := fun D σ H => t { D with nx := u D } σ H
theorem pss_nil : PSs X [] tNext := fun _ _ σ H _ I h => wpAny_execs_nil ⟨σ, H, I, h⟩
theorem pss_cons (h1 : PS X st t) (h2 : PSs X rest u) : PSs X (st :: rest) (tSeq t u) := by
 intro pins s σ H D I h
 refine wpAny_execs_cons (thn (h1 pins s σ H { D with nx := u D } I h) fun f s1 q => ?_)
 cases f with
 | next =>
  obtain ⟨σ', H', I', q⟩ := q
  exact h2 pins s1 σ' H' D I' q
 | ret v => exact q
 | brk => exact q
 | cont => exact q
theorem Inv.quiet {pins : List (Addr × Obj)} {σ : St} {H : Hp} {s : Shared} (I : Inv X pins σ H s) : interactive X.env = false := by simp [interactive, I.ok.kind]
def tDrop (te : TE) : TS := fun D σ H => te σ H fun _ H1 => D.nx σ H1
theorem ps_expr (he : PE X e te) (hs : swapsWith e none pos.line X.env = pure false := by rfl) : PS X (.Expr e pos) (tDrop te) := by
 intro pins s σ H D I h
 exact wpAny_Expr_any (thn (he pins s σ H _ I h) fun v s1 ⟨x, H1, I1, r1, q1⟩ => ⟨σ, H1, I1, q1⟩) I.quiet hs
def tRet (te : TE) : TS := fun D σ H => te σ H D.rt
theorem ps_ret (he : PE X e te) : PS X (.Return (some e) pos) (tRet te) := by
 intro pins s σ H D I h
 exact wpAny_Return_some (thn (he pins s σ H _ I h) fun v s1 ⟨x, H1, I1, r1, q1⟩ => ⟨x, σ, H1, I1, r1, q1⟩)
def tIfS (c : TT) (t u : TS) : TS := fun D σ H => c σ H fun b H1 => if b = true then t D σ H1 else u D σ H1
theorem ps_if (hc : PT X c tc) (ha : PSs X a t) (hb : PSs X b u) : PS X (.If c a b pos) (tIfS tc t u) := by
 intro pins s σ H D I h
 refine wpAny_If (thn (hc pins s σ H _ I h) fun d s1 ⟨H1, I1, q1⟩ => ?_)
 cases d with
 | true => exact ha pins s1 σ H1 D I1 q1
 | false => exact hb pins s1 σ H1 D I1 q1
end
abbrev TG := V → St → Hp → (St → Hp → Prop) → Prop
abbrev TGs := List V → St → Hp → (St → Hp → Prop) → Prop
def PG (X : Cx) (target : Expr) (t : TG) : Prop :=
 ∀ (pins : List (Addr × Obj)) (s : Shared) (σ : St) (H : Hp) (v : V) (u : Value) (Q : St → Hp → Prop), Inv X pins σ H s → RelV v u → t v σ H Q →
  wpAny (model X.prog X.w) X.A (assign target X.env u) (fun _ s' => ∃ σ' H', Inv X pins σ' H' s' ∧ Q σ' H') X.xe s
def PGs (X : Cx) (ts : List Expr) (t : TGs) : Prop :=
 ∀ (pins : List (Addr × Obj)) (s : Shared) (σ : St) (H : Hp) (vs : List V) (us : List Value) (Q : St → Hp → Prop), Inv X pins σ H s → Vals vs us → t vs σ H Q →
  wpAny (model X.prog X.w) X.A (assignInOrder ((assignEach ts X.env).map (·.2)) us) (fun _ s' => ∃ σ' H', Inv X pins σ' H' s' ∧ Q σ' H') X.xe s
abbrev TSet := V → V → V → Hp → (Hp → Prop) → Prop
def PSet (X : Cx) (t : TSet) : Prop :=
 ∀ (pins : List (Addr × Obj)) (s : Shared) (σ : St) (H : Hp) (o i v : V) (ov iv u : Value) (Q : Hp → Prop), Inv X pins σ H s → RelV o ov → RelV i iv → RelV v u → t o i v H Q →
  wpAny (model X.prog X.w) X.A (setItem ov iv u) (fun _ s' => ∃ H', Inv X pins σ H' s' ∧ Q H') X.xe s
abbrev TIp := V → V → Hp → VK → Prop
def PIp (X : Cx) (op : Operator) (t : TIp) : Prop :=
 ∀ (pins : List (Addr × Obj)) (s : Shared) (σ : St) (H : Hp) (x y : V) (v u : Value) (Q : VK), Inv X pins σ H s → RelV x v → RelV y u → t x y H Q →
  wpAny (model X.prog X.w) X.A (inplaceOp op v u) (EP X pins σ Q) X.xe s
section
variable {pos : Pos}
def gName (i : Nat) : TG := fun v σ H Q => Q (σ.set i (some v)) H
theorem pg_name (hN : X.N.Nodup) (hi : X.N[i]? = some x) (hx : Loc X.env.scope x) (hf : X.fn x = true ∨ X.env.scope.names.lookup x = some .local := by first | exact .inl rfl | exact .inr rfl | assumption) : PG X (.Name x pos) (gName i) := by
 intro pins s σ H v u Q I r h
 exact wpAny_assign_Name (store_ok I hN hi hx r (fun s' I' => ⟨_, H, I', h⟩) hf)
def gNil : TGs := fun vs σ H Q => vs = [] ∧ Q σ H
def gCons (t : TG) (u : TGs) : TGs := fun vs σ H Q => ∃ v r, vs = v :: r ∧ t v σ H fun σ' H' => u r σ' H' Q
theorem pgs_nil : PGs X [] gNil := by
 intro pins s σ H vs us Q I r h
 obtain ⟨e, h⟩ := h
 exact assignInOrder_nil ⟨σ, H, I, h⟩
theorem pgs_cons (h1 : PG X e t) (h2 : PGs X es u)
 (hs : (assignEach (e :: es) X.env).map (·.2) = assign e X.env :: (assignEach es X.env).map (·.2) := by rfl) : PGs X (e :: es) (gCons t u) := by
 intro pins s σ H vs us Q I r h
 obtain ⟨v, vr, e1, h⟩ := h
 subst e1
 cases r with
 | cons r rr =>
  rw [hs]
  refine assignInOrder_cons (thn (h1 pins s σ H _ _ _ I r h) fun _ s1 ⟨σ1, H1, I1, q1⟩ => ?_)
  exact h2 pins s1 σ1 H1 _ _ Q I1 rr q1
def gTup (K : PySem.W.Frag) (n : Nat) (t : TGs) : TG := fun v σ H Q => ∃ a xs, v = .ref a ∧ SqT K H a xs ∧ xs.length = n ∧ t xs σ H Q
theorem pg_tup {k : Nat} (hc : X.calm = true) (h : PGs X es t)
 (hn : (assignEach es X.env).length = n := by rfl) (hst : (assignEach es X.env).findIdx? (·.1) = none := by rfl) : PG X (.Tuple es k pos) (gTup X.K n t) := by
 intro pins s σ H v u Q I r hw
 obtain ⟨a, xs, e1, hq, hl, hw⟩ := hw
 subst e1
 cases r
 obtain ⟨its, rv, ht, hz⟩ := I.tuple hq
 refine assign_Tuple_tuple (I.ok.hd hc) ht (by simp [hn, ← hl, rv.length]) hst fun h' hx => ?_
 have I1 := I.kept (t' := s.toks) fun b o e => hx b o (Nat.ne_of_lt (Heap.lt_size e)) e
 exact h pins _ σ H xs _ Q I1 (by omega) hw
def gSub (to ti : TE) (t : TSet) : TG := fun v σ H Q => to σ H fun o H1 => ti σ H1 fun i H2 => t o i v H2 fun H3 => Q σ H3
theorem pg_sub (ho : PE X o to) (hi : PE X i ti) (hs : PSet X t)
 (ha : ∀ v, assign (.Subscript o i pos) X.env v = (do
  let ov ← holding [v] (eval o X.env)
  let iv ← holding [v, ov] (eval i X.env)
  standAt pos
  holding [v, ov, iv] (setItem ov iv v)
  release [v, ov, iv] []) := by intro _; rfl) : PG X (.Subscript o i pos) (gSub to ti t) := by
 intro pins s σ H v u Q I r h
 refine wpAny_bind (wpAny_holding (thn (ho pins s σ H _ I h) fun ov s1 ⟨x, H1, I1, r1, q1⟩ => ?_))
 refine wpAny_bind (wpAny_holding (thn (hi pins s1 σ H1 _ I1 q1) fun iv s2 ⟨y, H2, I2, r2, q2⟩ => ?_))
 refine wpAny_bind (wpAny_standAt (wpAny_bind (wpAny_holding (thn (hs pins s2 σ H2 x y v ov iv u _ I2 r1 r2 r q2) fun _ s3 ⟨H3, I3, q3⟩ => ?_))))
 exact wpAny_release ⟨σ, H3, I3, q3⟩
def tAsg (te : TE) (g : TG) : TS := fun D σ H => te σ H fun x H1 => g x σ H1 D.nx
theorem ps_asg (he : PE X e te) (hg : PG X tg g) (hs : swapsWithSole [tg] e pos.line X.env = pure false := by rfl) (hw : swappedStores [tg] e X.env = pure none := by rfl)
 (h1 : (assignEach [tg] X.env).map (·.2) = [assign tg X.env] := by rfl) : PS X (.Assign [tg] e pos) (tAsg te g) := by
 intro pins s σ H D I h
 refine wpAny_Assign_stores (thn (he pins s σ H _ I h) fun v s1 ⟨x, H1, I1, r1, q1⟩ => ?_) hs hw
 rw [h1]
 exact thn (hg pins s1 σ H1 x v _ I1 r1 q1) fun _ s2 q => q
theorem ps_set {i : Nat} {x : Str} {e : Expr} {te : TE} {pos' : Pos} (hN : X.N.Nodup) (hi : X.N[i]? = some x) (hx : Loc X.env.scope x) (he : PE X e te) (hs : swapsWith e (some (.Name x pos')) pos.line X.env = pure false := by rfl) (hf : X.fn x = true ∨ X.env.scope.names.lookup x = some .local := by first | exact .inl rfl | exact .inr rfl | assumption) :
 PS X (.Assign [.Name x pos'] e pos) (tAsg te (gName i)) := by
 intro pins s σ H D I h
 refine wpAny_Assign_Name (thn (he pins s σ H _ I h) fun v s1 ⟨y, H1, I1, r1, q1⟩ => ?_) hs
 exact store_ok I1 hN hi hx r1 (fun s2 I2 => ⟨_, H1, I2, q1⟩) hf
def tAug (i : Nat) (te : TE) (ti : TIp) : TS := fun D σ H => ∃ x, σ[i]? = some (some x) ∧ te σ H fun y H1 => ti x y H1 fun z H2 => D.nx (σ.set i (some z)) H2
theorem ps_aug (hN : X.N.Nodup) (hi : X.N[i]? = some x) (hx : Loc X.env.scope x) (he : PE X e te) (ho : PIp X op ti) (hf : X.fn x = true ∨ X.env.scope.names.lookup x = some .local := by first | exact .inl rfl | exact .inr rfl | assumption) :
 PS X (.AugAssign (.Name x pos') op e pos) (tAug i te ti) := by
 intro pins s σ H D I h
 obtain ⟨v, e1, h⟩ := h
 obtain ⟨m, hn, hl⟩ := I.loc
 have vis : Vis X.env.scope x := by rcases hx with k | k; exact .inl k; exact .inr (.inl k)
 obtain ⟨u, r, l⟩ := hl i x v hi e1 vis
 refine wpAny_AugAssign_Name ?_
 have go : wpAny (model X.prog X.w) X.A (eval e X.env) (fun w s₂ => wpAny (model X.prog X.w) X.A (inplaceOp op u w) (fun r s₃ => wpAny (model X.prog X.w) X.A (storeName X.env x r) (fun _ => SP X pins D .next) X.xe s₃) X.xe s₂) X.xe s := by
  refine thn (he pins s σ H _ I h) fun w s1 ⟨y, H1, I1, r1, q1⟩ => ?_
  refine thn (ho pins s1 σ H1 v y u w _ I1 r r1 q1) fun z s2 ⟨zv, H2, I2, r2, q2⟩ => ?_
  exact store_ok I2 hN hi hx r2 (fun s3 I3 => ⟨_, H2, I3, q2⟩) hf
 rcases l with ⟨hk, hm⟩ | ⟨hk, c, hc, hcell⟩
 · exact wpAny_loadName_local I.ok.kind hk hn hm go
 · rcases hk with hk | hk
   · exact wpAny_loadName_cell I.ok.kind hk hc hcell go
   · rcases hx with k | k
     · have : X.env.scope.names.lookup x = some .free := hk
       rw [k] at this; cases this
     · have : X.env.scope.names.lookup x = some .free := hk
       rw [k] at this; cases this
def ipI (f : Int → Int → Int) : TIp := fun x y H Q => ∃ i j, x = .int i ∧ y = .int j ∧ Q (.int (f i j)) H
theorem ip_sub : PIp X .Sub (ipI fun i j => i - j) := by
 intro pins s σ H x y v u Q I r1 r2 h
 obtain ⟨i, j, e1, e2, q⟩ := h
 subst e1; subst e2
 obtain ⟨t, rfl⟩ := r1
 obtain ⟨t', rfl⟩ := r2
 exact isub_int ⟨.int _, H, I.tok _, ⟨_, rfl⟩, q⟩
end
structure It where
 go : Nat → Hp → Prop
 yld : Nat → Hp → V → Hp → Prop
 stop : Nat → Hp → Prop
def FpOk (X : Cx) (pins : List (Addr × Obj)) (H : Hp) (b : Addr) : Prop :=
 H b = none ∧ b ≠ X.env.locals ∧ b ∉ X.fs ∧ (b ∈ X.ex ∨ X.s₀.heap.objs.size ≤ b) ∧ (∀ x c, X.env.cells.lookup x = some c → c ≠ b) ∧ ∀ p ∈ X.pn ++ pins, p.1 ≠ b
theorem Inv.fpOk {σ : St} {b : Addr} (I : Inv X pins σ H s) (hb : s.heap.objs.size ≤ b) (hn : H' b = none) : FpOk X pins H' b := by
 refine ⟨hn, Nat.ne_of_gt (Nat.lt_of_lt_of_le I.lt hb), I.nofs hb, .inr (Nat.le_trans I.sz hb), fun x c e z => ?_, fun p hp z => ?_⟩
 · obtain ⟨v, q⟩ := I.cell x c e
   exact absurd (Nat.lt_of_lt_of_le q.lt (by simp_all)) (Nat.lt_irrefl _)
 · exact absurd (Nat.lt_of_lt_of_le (Heap.lt_size (I.pin p hp).1) (by simp_all)) (Nat.lt_irrefl _)
structure Turn (P : Program) (w : World) (K : PySem.W.Frag) (tg : Expr) (J : It) (fp : List Addr) (it : Addr) (tn : Nat → Heap → Prop) : Prop where
 mem : it ∈ fp
 obj : ∀ i h, tn i h → ∀ b ∈ fp, ∃ o, h.get? b = some o ∧ ∀ v, o.data ≠ .cell v
 keep : ∀ i h h', tn i h → (∀ b ∈ fp, ∀ o, h.get? b = some o → h'.get? b = some o) → tn i h'
 item : ∀ (X : Cx), X.prog = P → X.w = w → X.K = K → X.calm = true → ∀ (i : Nat) (pins : List (Addr × Obj)) (s : Shared) (σ : St) (H : Hp) (E : Value → Shared → Prop), Inv X pins σ H s → (∀ b ∈ fp, FpOk X pins H b) → tn i s.heap → J.go i H →
  wpAny (model P w) X.A (pyNext (.ref it)) (fun r s1 => ∃ u, r = some u ∧
   wpAny (model P w) X.A (letOwnedTupleGo tg (.ref it) u) (fun _ s2 => ∃ x H', Inv X pins σ H' s2 ∧ RelV x u ∧ J.yld i H x H' ∧ tn (i + 1) s2.heap ∧ ∀ b ∈ fp, H' b = none) E s1) E s
 done : ∀ (X : Cx), X.prog = P → X.w = w → X.K = K → X.calm = true → ∀ (i : Nat) (pins : List (Addr × Obj)) (s : Shared) (σ : St) (H : Hp) (E : Value → Shared → Prop), Inv X pins σ H s → (∀ b ∈ fp, FpOk X pins H b) → tn i s.heap → J.stop i H →
  wpAny (model P w) X.A (pyNext (.ref it)) (fun r s1 => r = none ∧ Inv X pins σ H s1) E s
 self : ∀ (A : Around) (i : Nat) (s : Shared) (Q : Value → Shared → Prop) (E : Value → Shared → Prop), tn i s.heap → Q (.ref it) s → wpAny (model P w) A (pyIter (.ref it)) Q E s
abbrev TI := St → Hp → (It → Hp → Prop) → Prop
def PIE (X : Cx) (pins : List (Addr × Obj)) (σ : St) (tg : Expr) (R : It → Hp → Prop) (itv : Value) (s2 : Shared) : Prop :=
 ∃ (it : Addr) (fp : List Addr) (tn : Nat → Heap → Prop) (J : It) (H' : Hp), itv = .ref it ∧ Inv X pins σ H' s2 ∧ Turn X.prog X.w X.K tg J fp it tn ∧ tn 0 s2.heap ∧ (∀ b ∈ fp, FpOk X pins H' b) ∧ R J H'
def PI (X : Cx) (tg iter : Expr) (wi : TI) : Prop :=
 ∀ (pins : List (Addr × Obj)) (s : Shared) (σ : St) (H : Hp) (R : It → Hp → Prop), Inv X pins σ H s → wi σ H R →
  wpAny (model X.prog X.w) X.A (eval iter X.env) (fun v s1 => wpAny (model X.prog X.w) X.A (pyIter v) (PIE X pins σ tg R) X.xe s1) X.xe s
theorem go_of {M : Model} {A : Around} {E : Value → Shared → Prop} {s : Shared} {tg : Expr} {it : Addr} {u : Value} {o : Obj} {n : String} {vs : Array Value} {Q : Unit → Shared → Prop} (ho : s.heap.get? it = some o) (hc : o.cls = .type n) (hd : o.data = .fields vs)
 (hn : ["enumerate", "zip", "dict_itemiterator", "dict_reverseitemiterator", "odict_iterator", "itertools.zip_longest", "itertools.pairwise"].contains n = false) (hQ : Q () s) : wpAny M A (letOwnedTupleGo tg (.ref it) u) Q E s := by
 unfold letOwnedTupleGo
 cases tg <;> first
  | exact wpAny_pure hQ
  | (cases u <;> first
   | exact wpAny_pure hQ
   | (refine wpAny_bind (wpAny_load ho ?_)
      rw [hc, hd]
      show wpAny M A (if (["enumerate", "zip", "dict_itemiterator", "dict_reverseitemiterator", "odict_iterator", "itertools.zip_longest", "itertools.pairwise"].contains n && vs[0]? == some (rawInt _)) = true then _ else _) Q E s
      rw [if_neg (by intro h; rw [hn, Bool.false_and] at h; cases h)]
      exact wpAny_pure hQ))
def Itl (K : PySem.W.Frag) (a : Addr) : It :=
 ⟨fun i H => ∃ xs x, SqL K H a xs ∧ xs[i]? = some x, fun i H x H' => H' = H ∧ ∀ xs, SqL K H a xs → xs[i]? = some x, fun i H => ∃ xs, SqL K H a xs ∧ xs.length ≤ i⟩
def Itt (K : PySem.W.Frag) (a : Addr) : It :=
 ⟨fun i H => ∃ xs x, SqT K H a xs ∧ xs[i]? = some x, fun i H x H' => H' = H ∧ ∀ xs, SqT K H a xs → xs[i]? = some x, fun i H => ∃ xs, SqT K H a xs ∧ xs.length ≤ i⟩
def Itr (lo : Int) (n : Nat) : It := ⟨fun i _ => i < n, fun i H x H' => H' = H ∧ x = .int (lo + i), fun i _ => n ≤ i⟩
theorem turn_list {P : Program} {w : World} {K : PySem.W.Frag} {tg : Expr} (a it : Addr) : Turn P w K tg (Itl K a) [it] it (fun i h => h.IsListIter it a i) where
 mem := by simp
 obj := fun i h st b hb => by
  have e : b = it := by simpa using hb
  subst e
  obtain ⟨o, e, c, d⟩ := st
  exact ⟨o, e, fun v z => by rw [d] at z; cases z⟩
 keep := fun i h h' st k => st.at fun o e => k it (by simp) o e
 item := by
  intro X hP hw hK hc i pins s σ H E I hf st hg
  subst hP hw hK
  obtain ⟨xs, x, hq, hx⟩ := hg
  obtain ⟨its, rv, p, hz⟩ := I.list hq
  obtain ⟨u, hu, ru⟩ := rv.get hx
  obtain ⟨f0, f1, f2, f3, f4, f5⟩ := hf it (by simp)
  refine wpAny_pyNext_list_item st p.isList (x := u) (by simpa using hu) fun h' st' sb => ?_
  have I1 : Inv X pins σ H { s with heap := h' } := I.turned (t' := s.toks) (fun b o hb e => (sb.2 b hb).trans e) f0 f1 f3 f4 f5
  obtain ⟨o, e, c, d⟩ := id st'
  exact ⟨u, rfl, go_of (s := { s with heap := h' }) e c d (by decide) ⟨x, H, I1, ru, ⟨rfl, fun ys hy => by rw [I.list_inj hy hq]; exact hx⟩, st', fun b hb => (hf b hb).1⟩⟩
 done := by
  intro X hP hw hK hc i pins s σ H E I hf st hg
  subst hP hw hK
  obtain ⟨xs, hq, hx⟩ := hg
  obtain ⟨its, rv, p, hz⟩ := I.list hq
  obtain ⟨f0, f1, f2, f3, f4, f5⟩ := hf it (by simp)
  have hl := rv.length
  exact wpAny_pyNext_list_end (I.ok.hd hc) st p.isList (by simp; omega) fun h' eb => ⟨rfl, I.turned (t' := s.toks) (fun b o hb e => eb b o hb e) f0 f1 f3 f4 f5⟩
 self := fun _ _ _ _ _ st h => wpAny_pyIter_listiter st h
theorem turn_tuple {P : Program} {w : World} {K : PySem.W.Frag} {tg : Expr} (a it : Addr) : Turn P w K tg (Itt K a) [it] it (fun i h => h.IsTupleIter it a i) where
 mem := by simp
 obj := fun i h st b hb => by
  have e : b = it := by simpa using hb
  subst e
  obtain ⟨o, e, c, d⟩ := st
  exact ⟨o, e, fun v z => by rw [d] at z; cases z⟩
 keep := fun i h h' st k => st.at fun o e => k it (by simp) o e
 item := by
  intro X hP hw hK hc i pins s σ H E I hf st hg
  subst hP hw hK
  obtain ⟨xs, x, hq, hx⟩ := hg
  obtain ⟨its, rv, p, hz⟩ := I.tuple hq
  obtain ⟨u, hu, ru⟩ := rv.get hx
  obtain ⟨f0, f1, f2, f3, f4, f5⟩ := hf it (by simp)
  refine wpAny_pyNext_tuple_item st (show s.heap.IsTuple a its.toArray from p) (x := u) (by simpa using hu) fun h' st' sb => ?_
  have I1 : Inv X pins σ H { s with heap := h' } := I.turned (t' := s.toks) (fun b o hb e => (sb.2 b hb).trans e) f0 f1 f3 f4 f5
  obtain ⟨o, e, c, d⟩ := id st'
  exact ⟨u, rfl, go_of (s := { s with heap := h' }) e c d (by decide) ⟨x, H, I1, ru, ⟨rfl, fun ys hy => by rw [I.tuple_inj hy hq]; exact hx⟩, st', fun b hb => (hf b hb).1⟩⟩
 done := by
  intro X hP hw hK hc i pins s σ H E I hf st hg
  subst hP hw hK
  obtain ⟨xs, hq, hx⟩ := hg
  obtain ⟨its, rv, p, hz⟩ := I.tuple hq
  obtain ⟨f0, f1, f2, f3, f4, f5⟩ := hf it (by simp)
  have hl := rv.length
  exact wpAny_pyNext_tuple_end (I.ok.hd hc) st (show s.heap.IsTuple a its.toArray from p) (by simp; omega) fun h' eb => ⟨rfl, I.turned (t' := s.toks) (fun b o hb e => eb b o hb e) f0 f1 f3 f4 f5⟩
 self := fun _ _ _ _ _ st h => wpAny_pyIter_tupleiter st h
theorem turn_range {P : Program} {w : World} {K : PySem.W.Frag} {tg : Expr} (it : Addr) (lo : Int) (n : Nat) : Turn P w K tg (Itr lo n) [it] it (fun i h => IsRangeIter h it (lo + (i : Nat) * 1) ((n : Int) - (i : Nat)) 1) where
 mem := by simp
 obj := fun i h st b hb => by simp_all
 keep := fun i h h' st k => k it (by simp) _ st
 item := by
  intro X hP hw hK hc i pins s σ H E I hf st hg
  subst hP hw hK
  obtain ⟨f0, f1, f2, f3, f4, f5⟩ := hf it (by simp)
  have W := Walks.range (prog := X.prog) (w := X.w) (I.ok.hd hc) it lo 1 n
  refine W.item i s _ _ hg st fun v h' tk hv st' kk => ?_
  obtain ⟨t, rfl⟩ := hv
  have I1 : Inv X pins σ H { s with heap := h', toks := tk } := I.turned (fun b o hb e => kk b o (by simpa using hb) e) f0 f1 f3 f4 f5
  refine ⟨_, rfl, go_of (s := { s with heap := h', toks := tk }) (n := "range_iterator") st' rfl rfl (by decide) ⟨.int (lo + i), H, I1, ⟨t, ?_⟩, ⟨rfl, rfl⟩, st', fun b hb => (hf b hb).1⟩⟩
  rw [Int.mul_one]
 done := by
  intro X hP hw hK hc i pins s σ H E I hf st hg
  subst hP hw hK
  obtain ⟨f0, f1, f2, f3, f4, f5⟩ := hf it (by simp)
  exact wpAny_pyNext_range_end (I.ok.hd hc) st (by have : n ≤ i := hg; omega) fun h' eb => ⟨rfl, I.turned (t' := s.toks) (fun b o hb e => eb b o hb e) f0 f1 f3 f4 f5⟩
 self := fun _ _ _ _ _ st h => wpAny_pyIter_rangeiter st h
section
variable {tg : Expr}
theorem range_it {pins : List (Addr × Obj)} {σ : St} {H : Hp} {s : Shared} {R : It → Hp → Prop} {E : Value → Shared → Prop} {lo hi : Int} {t u v : Tok} {tk : Nat} (I : Inv X pins σ H s) (h1 : -(2 ^ 62) ≤ lo) (h2 : lo < 2 ^ 62) (h3 : -(2 ^ 62) ≤ hi) (h4 : hi < 2 ^ 62)
 (q : R (Itr lo (hi - lo).toNat) H) : wpAny (model X.prog X.w) X.A (pyIter (.ref s.heap.objs.size)) (PIE X pins σ tg R) E { s with heap := s.heap.push { cls := .type "range", data := .fields #[.int lo t, .int hi u, .int 1 v] }, toks := tk } := by
 refine wpAny_pyIter_range (IsRange.new ..) (small_one h1 h2 h3 h4) ?_
 have I1 : Inv X pins σ H { s with heap := s.heap.push { cls := .type "range", data := .fields #[.int lo t, .int hi u, .int 1 v] }, toks := tk } := I.kept fun b o e => Heap.get?_push_of_some _ e
 refine ⟨(s.heap.push { cls := .type "range", data := .fields #[.int lo t, .int hi u, .int 1 v] }).objs.size, [(s.heap.push { cls := .type "range", data := .fields #[.int lo t, .int hi u, .int 1 v] }).objs.size], _, _, H, rfl,
  I1.kept (t' := tk) fun b o e => Heap.get?_push_of_some _ e, turn_range _ lo (hi - lo).toNat, ?_, fun b hb => ?_, q⟩
 · have e1 : lo + ((0 : Nat) : Int) * 1 = lo := by simp
   have e2 : (((hi - lo).toNat : Nat) : Int) - ((0 : Nat) : Int) = Builtin.Range.rangeSize lo hi 1 := by rw [rangeSize_one]; split <;> omega
   show IsRangeIter _ _ (lo + ((0 : Nat) : Int) * 1) ((((hi - lo).toNat : Nat) : Int) - ((0 : Nat) : Int)) 1
   rw [e1, e2]
   exact Heap.get?_push_size _ rfl
 · have e : b = (s.heap.push { cls := .type "range", data := .fields #[.int lo t, .int hi u, .int 1 v] }).objs.size := by simpa using hb
   subst e
   exact I1.fpOk (Nat.le_refl _) (I1.hok.fresh (Nat.le_refl _))
def iRng1 (ta : TA) : TI := fun σ H R => ta σ H fun vs H1 => ∃ j : Int, vs = [.int j] ∧ -(2 ^ 62) ≤ j ∧ j < 2 ^ 62 ∧ R (Itr 0 j.toNat) H1
theorem pi_range1 (hg : Gl X "range") (hm : X.mg "range" = none) (ha : PA X [a] ta) (hs : starEach [a] X.env = [(false, eval a X.env)] := by rfl) : PI X tg (.Call (.Name "range" p) [a] [] pos) (iRng1 ta) := by
 intro pins s σ H R I h
 refine Call_ (ld_blt I hg hm boot_range (PyProof.Rows.callWith_type1 (thn (ha pos pins s σ H _ I h) fun us s1 ⟨vs, H1, I1, r1, q1⟩ => ?_) hs rfl))
 obtain ⟨j, e, q1, q2, q⟩ := q1
 subst e
 cases r1 with
 | cons r rr =>
  cases rr
  obtain ⟨t, rfl⟩ := r
  exact call_range_1 (range_it I1 (by omega) (by omega) q1 q2 (by grind))
def tFor (wi : TI) (g : TG) (tb : TS) : TS := fun D σ H => wi σ H fun J H1 => ∃ W : Nat → Nat → St → Hp → Prop, (∃ m, W 0 m σ H1) ∧ ∀ i m σ H, W i m σ H →
 (J.stop i H ∧ D.nx σ H) ∨ (J.go i H ∧ ∃ N : St → Hp → Prop, (∀ σ' H', N σ' H' → ∃ m', m' < m ∧ W (i + 1) m' σ' H') ∧ ∀ x H', J.yld i H x H' → g x σ H' fun σ2 H2 => tb { D with nx := N, ct := N, bk := D.nx } σ2 H2)
def pinsAt (fp : List Addr) (h : Heap) : List (Addr × Obj) := fp.filterMap fun b => (h.get? b).map fun o => (b, o)
theorem mem_pinsAt (hb : b ∈ fp) (e : h.get? b = some o) : (b, o) ∈ pinsAt fp h := List.mem_filterMap.mpr ⟨b, hb, by simp_all⟩
theorem of_pinsAt (hp : p ∈ pinsAt fp h) : p.1 ∈ fp ∧ h.get? p.1 = some p.2 := by
 obtain ⟨b, hb, e⟩ := List.mem_filterMap.mp hp
 cases q : h.get? b with
 | none => simp_all
 | some o =>
  rw [q] at e
  have e' := Option.some.inj e
  subst e'
  simp_all
theorem Inv.pinned {σ : St} (I : Inv X pins σ H s) (hf : ∀ b ∈ fp, FpOk X pins H b) (ho : ∀ b ∈ fp, ∃ o, s.heap.get? b = some o ∧ ∀ v, o.data ≠ .cell v) : Inv X (pins ++ pinsAt fp s.heap) σ H s :=
 I.pins_of fun p hp => (List.mem_append.mp hp).elim (fun z => I.pin p (List.mem_append_right _ z)) fun z => by
  obtain ⟨hb, e⟩ := of_pinsAt z
  obtain ⟨f0, f1, f2, _⟩ := hf p.1 hb
  obtain ⟨o, e', d⟩ := ho p.1 hb
  simp_all
theorem Inv.unpinned {σ : St} (I : Inv X (pins ++ pl) σ H s) : Inv X pins σ H s := I.pins_of fun p hp => I.pin p (List.mem_append_right _ (List.mem_append_left _ hp))
theorem ps_for (hp : PassesOwn (model X.prog X.w) X.A X.env X.xe) (hc : X.calm = true) (hi : PI X tg iter wi) (hg : PG X tg g) (hb : PSs X body tb)
 (hs : ∀ x, foldedSetIterable iter X.env x = pure x := by intro _; rfl) : PS X (.For tg iter body [] pos) (tFor wi g tb) := by
 intro pins s σ H D I h
 refine wpAny_For (thn (hi pins s σ H _ I h) fun v s1 h1 => thn h1 fun itv s2 h2 => ?_) hs
 obtain ⟨it, fp, tn, J, H2, e, I2, T, st2, f2, W, ⟨m0, w0⟩, turn⟩ := h2
 subst e
 -- what stays true of the iterator's objects through the loop
 have stat : ∀ {H' : Hp}, (∀ b ∈ fp, H' b = none) → ∀ b ∈ fp, FpOk X pins H' b := fun hn b hb => ⟨hn b hb, (f2 b hb).2⟩
 refine codeAny_forLoop_any (fun n s' => ∃ i σ' H', Inv X pins σ' H' s' ∧ tn i s'.heap ∧ (∀ b ∈ fp, H' b = none) ∧ W i n σ' H') ?_ m0 ⟨0, σ, H2, I2, st2, fun b hb => (f2 b hb).1, w0⟩
 rintro n s3 ⟨i, σ3, H3, I3, st3, fr3, w3⟩
 rcases turn i n σ3 H3 w3 with ⟨stop, qn⟩ | ⟨go, N, hN, step⟩
 · refine wpAny_passesOwn hp (thn (T.done X rfl rfl rfl hc i pins s3 σ3 H3 X.xe I3 (stat fr3) st3 stop) fun r s4 ⟨hr, I4⟩ => ?_)
   subst hr
   exact wpAny_execs_nil ⟨σ3, H3, I4, qn⟩
 · refine wpAny_passesOwn hp (thn (T.item X rfl rfl rfl hc i pins s3 σ3 H3 X.xe I3 (stat fr3) st3 go) fun r s4 ⟨u, hr, h4⟩ => ?_)
   subst hr
   refine wpAny_passesOwn hp (thn h4 fun _ s5 ⟨x, H5, I5, r5, y5, st5, fr5⟩ => ?_)
   have I5' := I5.pinned (stat fr5) (T.obj _ _ st5)
   refine wpAny_passesOwn hp (thn (hg _ s5 σ3 H5 x u _ I5' r5 (step x H5 y5)) fun _ s6 ⟨σ6, H6, I6, q6⟩ => ?_)
   refine wpAny_passesOwn hp (thn (hb _ s6 σ6 H6 _ I6 q6) fun f s7 q7 => ?_)
   have again : ∀ {σ7 : St} {H7 : Hp}, Inv X (pins ++ pinsAt fp s5.heap) σ7 H7 s7 → N σ7 H7 → ∃ m, m < n ∧ ∃ i σ' H', Inv X pins σ' H' s7 ∧ tn i s7.heap ∧ (∀ b ∈ fp, H' b = none) ∧ W i m σ' H' := fun {σ7 H7} I7 n7 => by
    obtain ⟨m', hm, w7⟩ := hN σ7 H7 n7
    refine ⟨m', hm, i + 1, σ7, H7, I7.unpinned, T.keep _ _ _ st5 fun b hb o e => (I7.pin (b, o) (List.mem_append_right _ (List.mem_append_right _ (mem_pinsAt hb e)))).1, fun b hb => ?_, w7⟩
    obtain ⟨o, e, d⟩ := T.obj _ _ st5 b hb
    exact (I7.pin (b, o) (List.mem_append_right _ (List.mem_append_right _ (mem_pinsAt hb e)))).2.1
   cases f with
   | next => obtain ⟨σ7, H7, I7, n7⟩ := q7; exact again I7 n7
   | cont => obtain ⟨σ7, H7, I7, n7⟩ := q7; exact again I7 n7
   | brk => obtain ⟨σ7, H7, I7, q7⟩ := q7; exact ⟨σ7, H7, I7.unpinned, q7⟩
   | ret v => obtain ⟨x7, σ7, H7, I7, r7, q7⟩ := q7; exact ⟨x7, σ7, H7, I7.unpinned, r7, q7⟩
end
theorem for_list {K : PySem.W.Frag} {a : Addr} {xs : List V} {g : TG} {tb : TS} {D : Ends} {σ : St} {H : Hp} (Pv : Nat → St → Hp → Prop) (h0 : Pv 0 σ H) (hl : ∀ i σ H, i ≤ xs.length → Pv i σ H → SqL K H a xs)
 (hs : ∀ i x σ H, xs[i]? = some x → Pv i σ H → g x σ H fun σ2 H2 => tb { D with nx := Pv (i + 1), ct := Pv (i + 1), bk := D.nx } σ2 H2) (hd : ∀ σ H, Pv xs.length σ H → D.nx σ H) :
 ∃ W : Nat → Nat → St → Hp → Prop, (∃ m, W 0 m σ H) ∧ ∀ i m σ H, W i m σ H →
  ((Itl K a).stop i H ∧ D.nx σ H) ∨ ((Itl K a).go i H ∧ ∃ N : St → Hp → Prop, (∀ σ' H', N σ' H' → ∃ m', m' < m ∧ W (i + 1) m' σ' H') ∧ ∀ x H', (Itl K a).yld i H x H' → g x σ H' fun σ2 H2 => tb { D with nx := N, ct := N, bk := D.nx } σ2 H2) := by
 refine ⟨fun i m σ H => m = xs.length - i ∧ i ≤ xs.length ∧ Pv i σ H, ⟨xs.length, by simp, Nat.zero_le _, h0⟩, ?_⟩
 rintro i m σ H ⟨rfl, hi, p⟩
 have q := hl i σ H hi p
 by_cases hlt : i < xs.length
 · refine .inr ⟨⟨xs, xs[i], q, by simp [hlt]⟩, Pv (i + 1), fun σ' H' p' => ⟨xs.length - (i + 1), by omega, rfl, hlt, p'⟩, fun x H' y => ?_⟩
   obtain ⟨e, y⟩ := y
   subst e
   exact hs i x σ _ (y xs q) p
 · have e : i = xs.length := by omega
   subst e
   exact .inl ⟨⟨xs, q, Nat.le_refl _⟩, hd σ H p⟩
theorem for_tup {K : PySem.W.Frag} {g : TG} {tb : TS} {D : Ends} {H : Hp} (Pv : Nat → St → Hp → Prop) (h0 : Pv 0 σ H) (hl : ∀ i σ H, i ≤ xs.length → Pv i σ H → SqT K H a xs)
 (hs : ∀ i x σ H, xs[i]? = some x → Pv i σ H → g x σ H fun σ2 H2 => tb { D with nx := Pv (i + 1), ct := Pv (i + 1), bk := D.nx } σ2 H2) (hd : ∀ σ H, Pv xs.length σ H → D.nx σ H) :
 ∃ W : Nat → Nat → St → Hp → Prop, (∃ m, W 0 m σ H) ∧ ∀ i m σ H, W i m σ H →
  ((Itt K a).stop i H ∧ D.nx σ H) ∨ ((Itt K a).go i H ∧ ∃ N : St → Hp → Prop, (∀ σ' H', N σ' H' → ∃ m', m' < m ∧ W (i + 1) m' σ' H') ∧ ∀ x H', (Itt K a).yld i H x H' → g x σ H' fun σ2 H2 => tb { D with nx := N, ct := N, bk := D.nx } σ2 H2) := by
 refine ⟨fun i m σ H => m = xs.length - i ∧ i ≤ xs.length ∧ Pv i σ H, ⟨xs.length, by simp, Nat.zero_le _, h0⟩, ?_⟩
 rintro i m σ H ⟨rfl, hi, p⟩
 have q := hl i σ H hi p
 by_cases hlt : i < xs.length
 · refine .inr ⟨⟨xs, xs[i], q, by simp [hlt]⟩, Pv (i + 1), fun σ' H' p' => ⟨xs.length - (i + 1), by omega, rfl, hlt, p'⟩, fun x H' y => ?_⟩
   obtain ⟨e, y⟩ := y
   subst e
   exact hs i x σ _ (y xs q) p
 · have e : i = xs.length := by omega
   subst e
   exact .inl ⟨⟨xs, q, Nat.le_refl _⟩, hd σ H p⟩
theorem for_range {lo : Int} {g : TG} {tb : TS} {D : Ends} {H : Hp} (Pv : Nat → St → Hp → Prop) (h0 : Pv 0 σ H)
 (hs : ∀ i σ H, i < n → Pv i σ H → g (.int (lo + i)) σ H fun σ2 H2 => tb { D with nx := Pv (i + 1), ct := Pv (i + 1), bk := D.nx } σ2 H2) (hd : ∀ σ H, Pv n σ H → D.nx σ H) :
 ∃ W : Nat → Nat → St → Hp → Prop, (∃ m, W 0 m σ H) ∧ ∀ i m σ H, W i m σ H →
  ((Itr lo n).stop i H ∧ D.nx σ H) ∨ ((Itr lo n).go i H ∧ ∃ N : St → Hp → Prop, (∀ σ' H', N σ' H' → ∃ m', m' < m ∧ W (i + 1) m' σ' H') ∧ ∀ x H', (Itr lo n).yld i H x H' → g x σ H' fun σ2 H2 => tb { D with nx := N, ct := N, bk := D.nx } σ2 H2) := by
 refine ⟨fun i m σ H => m = n - i ∧ i ≤ n ∧ Pv i σ H, ⟨n, by simp, Nat.zero_le _, h0⟩, ?_⟩
 rintro i m σ H ⟨rfl, hi, p⟩
 by_cases hlt : i < n
 · refine .inr ⟨hlt, Pv (i + 1), fun σ' H' p' => ⟨n - (i + 1), by omega, rfl, hlt, p'⟩, fun x H' y => ?_⟩
   obtain ⟨e, y⟩ := y
   simp_all
 · have e : i = n := by omega
   subst e
   exact .inl ⟨Nat.le_refl _, hd σ H p⟩
abbrev R2 := V → V → Hp → VK → Prop
def OpR (X : Cx) (f : Value → Value → Sem Value) (r : R2) : Prop :=
 ∀ (pins : List (Addr × Obj)) (s : Shared) (σ : St) (H : Hp) (x y : V) (v u : Value) (Q : VK), Inv X pins σ H s → RelV x v → RelV y u → r x y H Q →
  wpAny (model X.prog X.w) X.A (f v u) (EP X pins σ Q) X.xe s
def UnR (X : Cx) (f : Value → Sem Value) (r : V → Hp → VK → Prop) : Prop :=
 ∀ (pins : List (Addr × Obj)) (s : Shared) (σ : St) (H : Hp) (x : V) (v : Value) (Q : VK), Inv X pins σ H s → RelV x v → r x H Q →
  wpAny (model X.prog X.w) X.A (f v) (EP X pins σ Q) X.xe s
def CallR (X : Cx) (f : Value) (r : List V → Hp → VK → Prop) : Prop :=
 ∀ (pins : List (Addr × Obj)) (s : Shared) (σ : St) (H : Hp) (xs : List V) (us : List Value) (Q : VK), Inv X pins σ H s → Vals xs us → r xs H Q →
  wpAny (model X.prog X.w) X.A (call f us) (EP X pins σ Q) X.xe s
def tOp (r : R2) (ta tb : TE) : TE := fun σ H Q => ta σ H fun x H1 => tb σ H1 fun y H2 => r x y H2 Q
def tUn (r : V → Hp → VK → Prop) (ta : TE) : TE := fun σ H Q => ta σ H fun x H1 => r x H1 Q
def rI (C : Int → Int → Prop) (g : Int → Int → V) : R2 := fun x y H Q => ∃ i j, x = .int i ∧ y = .int j ∧ C i j ∧ Q (g i j) H
def rI0 (g : Int → Int → V) : R2 := fun x y H Q => ∃ i j, x = .int i ∧ y = .int j ∧ Q (g i j) H
def rU (g : Int → V) : V → Hp → VK → Prop := fun x H Q => ∃ i, x = .int i ∧ Q (g i) H
section
theorem binT (ha : PE X a ta) (hb : PE X b tb) {σ : St} {R : V → V → Hp → Prop} (I : Inv X pins σ H s)
 (h : ta σ H fun x H1 => tb σ H1 fun y H2 => R x y H2) {f : Value → Value → Sem Value}
 (hf : ∀ v u s2 x y H2, Inv X pins σ H2 s2 → RelV x v → RelV y u → R x y H2 → wpAny (model X.prog X.w) X.A (f v u) Q X.xe s2) :
 wpAny (model X.prog X.w) X.A (eval a X.env) (fun v s₁ => wpAny (model X.prog X.w) X.A (eval b X.env) (fun u s₂ => wpAny (model X.prog X.w) X.A (f v u) Q X.xe s₂) X.xe s₁) X.xe s := by
 refine thn (ha pins s σ H _ I h) fun v s1 ⟨x, H1, I1, r1, q1⟩ => ?_
 refine thn (hb pins s1 σ H1 _ I1 q1) fun u s2 ⟨y, H2, I2, r2, q2⟩ => ?_
 exact hf v u s2 x y H2 I2 r1 r2 q2
theorem pe_op (ho : OpR X (binaryOp op) r) (ha : PE X a ta) (hb : PE X b tb) : PE X (.BinOp a op b pos) (tOp r ta tb) := by
 intro pins s σ H Q I h
 exact wpAny_BinOp (binT ha hb I h fun v u s2 x y H2 I2 rx ry q => ho pins s2 σ H2 x y v u Q I2 rx ry q)
theorem pe_un (ho : UnR X (unaryOp op) r) (ha : PE X a ta) : PE X (.UnaryOp op a pos) (tUn r ta) := by
 intro pins s σ H Q I h
 exact UnaryOp_ (thn (ha pins s σ H _ I h) fun v s1 ⟨x, H1, I1, r1, q1⟩ => ho pins s1 σ H1 x v Q I1 r1 q1)
theorem opI {g : Int → Int → Int}
 (rule : ∀ (i j : Int) (t u : Tok) (s : Shared) (Q : Value → Shared → Prop) (E : Value → Shared → Prop), C i j → Q (.int (g i j) s.toks) { s with toks := s.toks + 1 } → wpAny (model X.prog X.w) X.A (f (.int i t) (.int j u)) Q E s) :
 OpR X f (rI C fun i j => .int (g i j)) := by
 intro pins s σ H x y v u Q I rx ry h
 obtain ⟨i, j, rfl, rfl, hc, q⟩ := h
 obtain ⟨t, rfl⟩ := rx
 obtain ⟨t', rfl⟩ := ry
 exact rule i j t t' s _ _ hc ⟨.int _, H, I.tok _, ⟨_, rfl⟩, q⟩
theorem opI0 {g : Int → Int → Int}
 (rule : ∀ (i j : Int) (t u : Tok) (s : Shared) (Q : Value → Shared → Prop) (E : Value → Shared → Prop), Q (.int (g i j) s.toks) { s with toks := s.toks + 1 } → wpAny (model X.prog X.w) X.A (f (.int i t) (.int j u)) Q E s) :
 OpR X f (rI0 fun i j => .int (g i j)) := by
 intro pins s σ H x y v u Q I rx ry h
 obtain ⟨i, j, rfl, rfl, q⟩ := h
 obtain ⟨t, rfl⟩ := rx
 obtain ⟨t', rfl⟩ := ry
 exact rule i j t t' s _ _ ⟨.int _, H, I.tok _, ⟨_, rfl⟩, q⟩
theorem opB0 {g : Int → Int → Bool}
 (rule : ∀ (i j : Int) (t u : Tok) (s : Shared) (Q : Value → Shared → Prop) (E : Value → Shared → Prop), Q (.bool (g i j)) s → wpAny (model X.prog X.w) X.A (f (.int i t) (.int j u)) Q E s) :
 OpR X f (rI0 fun i j => .bl (g i j)) := by
 intro pins s σ H x y v u Q I rx ry h
 obtain ⟨i, j, rfl, rfl, q⟩ := h
 obtain ⟨t, rfl⟩ := rx
 obtain ⟨t', rfl⟩ := ry
 exact rule i j t t' s _ _ ⟨.bl _, H, I, rfl, q⟩
def CPow (i j : Int) : Prop := 0 ≤ j ∧ j ≤ 1000000 ∧ i.natAbs < 2 ^ 64
theorem op_add : OpR X (binaryOp .Add) (rI0 fun i j => .int (i + j)) := opI0 fun _ _ _ _ _ _ _ q => add_int q
theorem op_sub : OpR X (binaryOp .Sub) (rI0 fun i j => .int (i - j)) := opI0 fun _ _ _ _ _ _ _ q => sub_int q
theorem op_mod : OpR X (binaryOp .Mod) (rI (fun _ j => 0 < j) fun i j => .int (i % j)) := opI fun i j _ _ _ _ _ hc q => by
 have h1 : (0 : Int) < j := hc
 exact mod_int' (by omega) (by rw [Int.fmod_eq_emod_of_nonneg i (by omega)]; exact q)
theorem op_pow : OpR X (binaryOp .Pow) (rI CPow fun i j => .int (i ^ j.toNat)) := opI fun _ _ _ _ _ _ _ hc q => pow_int_small hc.1 hc.2.1 hc.2.2 q
theorem unI {g : Int → Int}
 (rule : ∀ (i : Int) (t : Tok) (s : Shared) (Q : Value → Shared → Prop) (E : Value → Shared → Prop), Q (.int (g i) s.toks) { s with toks := s.toks + 1 } → wpAny (model X.prog X.w) X.A (f (.int i t)) Q E s) :
 UnR X f (rU fun i => .int (g i)) := by
 intro pins s σ H x v Q I rx h
 obtain ⟨i, rfl, q⟩ := h
 obtain ⟨t, rfl⟩ := rx
 exact rule i t s _ _ ⟨.int _, H, I.tok _, ⟨_, rfl⟩, q⟩
theorem un_neg : UnR X (unaryOp .USub) (rU fun i => .int (-i)) := unI fun _ _ _ _ _ q => neg_int q
end
def scal : V → V → Bool
 | .non, .non => true | .non, .int _ => true | .int _, .non => true | .non, .bl _ => true | .bl _, .non => true | .non, .str _ => true | .str _, .non => true
 | .int _, .int _ => true | .bl _, .bl _ => true | .str _, .str _ => true | .byt _, .byt _ => true
 | .int _, .str _ => true | .str _, .int _ => true | .bl _, .str _ => true | .str _, .bl _ => true
 | _, _ => false
def rEq : R2 := fun x y H Q => scal x y = true ∧ Q (.bl (decide (x = y))) H
def rNe : R2 := fun x y H Q => scal x y = true ∧ Q (.bl (!decide (x = y))) H
theorem dec_int : decide (V.int i = V.int j) = (i == j) := by
 rw [Bool.eq_iff_iff]
 simp
theorem dec_bl : decide (V.bl i = V.bl j) = (i == j) := by
 rw [Bool.eq_iff_iff]
 simp
theorem dec_str : decide (V.str i = V.str j) = (i == j) := by
 rw [Bool.eq_iff_iff]
 simp
theorem dec_byt : decide (V.byt i = V.byt j) = (i.toList == j.toList) := by
 rw [Bool.eq_iff_iff]
 simp
section
theorem fin_bl {σ : St} (I : Inv X pins σ H s) (q : Q (.bl k) H) (e : k = k') : EP X pins σ Q (.bool k') s := by
 subst e
 exact ⟨.bl k, H, I, rfl, q⟩
theorem op_eq : OpR X (compareOp .Eq) rEq := by
 intro pins s σ H x y v u Q I rx ry h
 obtain ⟨hs, q⟩ := h
 cases x with
 | non =>
  cases rx
  cases y with
  | non => cases ry; exact PySem.EqNone.eq_none_none (fin_bl I q (by simp))
  | bl j => cases ry; exact PySem.EqNone.eq_none_bool (fin_bl I q (by simp))
  | int j => obtain ⟨t', rfl⟩ := ry; exact PySem.EqNone.eq_none_int (fin_bl I q (by simp))
  | str j => obtain ⟨t', rfl⟩ := ry; exact PySem.EqNone.eq_none_str (fin_bl I q (by simp))
  | _ => exact absurd (show false = true from hs) Bool.false_ne_true
 | bl i =>
  cases rx
  cases y with
  | non => cases ry; exact PySem.EqNone.eq_bool_none (fin_bl I q (by simp))
  | bl j => cases ry; exact eq_bool (fin_bl I q dec_bl)
  | str j => obtain ⟨t', rfl⟩ := ry; exact PySem.EqMixed.eq_bool_str (fin_bl I q (by simp))
  | _ => exact absurd (show false = true from hs) Bool.false_ne_true
 | int i =>
  obtain ⟨t, rfl⟩ := rx
  cases y with
  | non => cases ry; exact PySem.EqNone.eq_int_none (fin_bl I q (by simp))
  | int j => obtain ⟨t', rfl⟩ := ry; exact eq_int (fin_bl I q dec_int)
  | str j => obtain ⟨t', rfl⟩ := ry; exact PySem.EqMixed.eq_int_str (fin_bl I q (by simp))
  | _ => exact absurd (show false = true from hs) Bool.false_ne_true
 | str i =>
  obtain ⟨t, rfl⟩ := rx
  cases y with
  | non => cases ry; exact PySem.EqNone.eq_str_none (fin_bl I q (by simp))
  | bl j => cases ry; exact PySem.EqMixed.eq_str_bool (fin_bl I q (by simp))
  | int j => obtain ⟨t', rfl⟩ := ry; exact PySem.EqMixed.eq_str_int (fin_bl I q (by simp))
  | str j => obtain ⟨t', rfl⟩ := ry; exact eq_str (fin_bl I q dec_str)
  | _ => exact absurd (show false = true from hs) Bool.false_ne_true
 | byt i =>
  obtain ⟨t, rfl⟩ := rx
  cases y with
  | byt j => obtain ⟨t', rfl⟩ := ry; exact PySem.W.eq_bytes (fin_bl I q dec_byt)
  | _ => exact absurd (show false = true from hs) Bool.false_ne_true
 | _ => cases y <;> exact absurd (show false = true from hs) Bool.false_ne_true
theorem op_ne : OpR X (compareOp .NotEq) rNe := by
 intro pins s σ H x y v u Q I rx ry h
 obtain ⟨hs, q⟩ := h
 cases x with
 | non =>
  cases rx
  cases y with
  | non => cases ry; exact PySem.EqNone.ne_none_none (fin_bl I q (by simp))
  | bl j => cases ry; exact PySem.EqNone.ne_none_bool (fin_bl I q (by simp))
  | int j => obtain ⟨t', rfl⟩ := ry; exact PySem.EqNone.ne_none_int (fin_bl I q (by simp))
  | str j => obtain ⟨t', rfl⟩ := ry; exact PySem.EqNone.ne_none_str (fin_bl I q (by simp))
  | _ => exact absurd (show false = true from hs) Bool.false_ne_true
 | bl i =>
  cases rx
  cases y with
  | non => cases ry; exact PySem.EqNone.ne_bool_none (fin_bl I q (by simp))
  | bl j => cases ry; exact ne_bool (fin_bl I q (congrArg not dec_bl))
  | str j => obtain ⟨t', rfl⟩ := ry; exact PySem.EqMixed.ne_bool_str (fin_bl I q (by simp))
  | _ => exact absurd (show false = true from hs) Bool.false_ne_true
 | int i =>
  obtain ⟨t, rfl⟩ := rx
  cases y with
  | non => cases ry; exact PySem.EqNone.ne_int_none (fin_bl I q (by simp))
  | int j => obtain ⟨t', rfl⟩ := ry; exact ne_int (fin_bl I q (congrArg not dec_int))
  | str j => obtain ⟨t', rfl⟩ := ry; exact PySem.EqMixed.ne_int_str (fin_bl I q (by simp))
  | _ => exact absurd (show false = true from hs) Bool.false_ne_true
 | str i =>
  obtain ⟨t, rfl⟩ := rx
  cases y with
  | non => cases ry; exact PySem.EqNone.ne_str_none (fin_bl I q (by simp))
  | bl j => cases ry; exact PySem.EqMixed.ne_str_bool (fin_bl I q (by simp))
  | int j => obtain ⟨t', rfl⟩ := ry; exact PySem.EqMixed.ne_str_int (fin_bl I q (by simp))
  | str j => obtain ⟨t', rfl⟩ := ry; exact ne_str (fin_bl I q (congrArg not dec_str))
  | _ => exact absurd (show false = true from hs) Bool.false_ne_true
 | byt i =>
  obtain ⟨t, rfl⟩ := rx
  cases y with
  | byt j => obtain ⟨t', rfl⟩ := ry; exact PySem.W.ne_bytes (fin_bl I q (congrArg not dec_byt))
  | _ => exact absurd (show false = true from hs) Bool.false_ne_true
 | _ => cases y <;> exact absurd (show false = true from hs) Bool.false_ne_true
theorem op_lt : OpR X (compareOp .Lt) (rI0 fun i j => .bl (decide (i < j))) := opB0 fun _ _ _ _ _ _ _ q => lt_int q
theorem op_le : OpR X (compareOp .LtE) (rI0 fun i j => .bl (decide (i ≤ j))) := opB0 fun _ _ _ _ _ _ _ q => le_int q
theorem op_gt : OpR X (compareOp .Gt) (rI0 fun i j => .bl (decide (j < i))) := opB0 fun _ _ _ _ _ _ _ q => gt_int q
theorem op_ge : OpR X (compareOp .GtE) (rI0 fun i j => .bl (decide (j ≤ i))) := opB0 fun _ _ _ _ _ _ _ q => ge_int q
theorem op_notN : OpR X (compareOp .IsNot) (fun x y H Q => y = .non ∧ Q (.bl (!decide (x = .non))) H) := by
 intro pins s σ H x y v u Q I rx ry h
 obtain ⟨rfl, q⟩ := h
 cases ry
 refine isnot_none_gen (fin_bl I q ?_)
 cases x <;> first
  | rfl
  | (obtain ⟨t, rfl⟩ := rx; rfl)
theorem OpR.or {f : Value → Value → Sem Value} {r r' : R2} (h : OpR X f r) (h' : OpR X f r') : OpR X f (fun x y H Q => r x y H Q ∨ r' x y H Q) := by
 intro pins s σ H x y v u Q I rx ry q
 rcases q with q | q
 · exact h pins s σ H x y v u Q I rx ry q
 · exact h' pins s σ H x y v u Q I rx ry q
theorem nomark (b : Expr) (h : op ≠ .In := by decide) (h2 : op ≠ .NotIn := by decide) : behindInMarks op b = false := by
 have e1 : (op == CmpOp.In) = false := by grind
 have e2 : (op == CmpOp.NotIn) = false := by grind
 cases b <;> simp [behindInMarks, e1, e2]
theorem pe_cmpR {op : CmpOp} {r : R2} (ho : OpR X (compareOp op) r) (ha : PE X a ta) (hb : PE X b tb) (hm : behindInMarks op b = false) : PE X (.Compare a [op] [b] pos) (tOp r ta tb) := by
 intro pins s σ H Q I h
 exact wpAny_Compare1 (binT ha hb I h fun v u s2 x y H2 I2 rx ry q => ho pins s2 σ H2 x y v u Q I2 rx ry q) hm
def tTest (t : TE) : TT := fun σ H Q => t σ H fun x H' => ∃ k, x = .bl k ∧ Q k H'
theorem pt_cmpR (ho : OpR X (compareOp op) r) (ha : PE X a ta) (hb : PE X b tb) (hm : behindInMarks op b = false) : PT X (.Compare a [op] [b] pos) (tTest (tOp r ta tb)) := by
 intro pins s σ H Q I h
 refine wpAny_isTrue_Compare1 (thn (ha pins s σ H _ I h) fun v s1 ⟨x, H1, I1, r1, q1⟩ => thn (hb pins s1 σ H1 _ I1 q1) fun u s2 ⟨y, H2, I2, r2, q2⟩ =>
  thn (ho pins s2 σ H2 x y v u _ I2 r1 r2 q2) fun c s3 ⟨z, H3, I3, r3, k, e, q3⟩ => ?_) hm
 subst e
 cases r3
 exact wpAny_truthy_bool ⟨H3, I3, q3⟩
def tChain (r r' : R2) (ta tb tc : TE) : TE := fun σ H Q => ta σ H fun x H1 => tb σ H1 fun y H2 => r x y H2 fun z H3 => ∃ k, z = .bl k ∧
 (if k = true then tc σ H3 fun w' H4 => r' y w' H4 Q else Q (.bl false) H3)
theorem pe_chain (ho : OpR X (compareOp op) r) (ho' : OpR X (compareOp op') r') (ha : PE X a ta) (hb : PE X b tb) (hc : PE X c tc)
 (hm : lastMarks [op, op'] [b, c] = false := by with_unfolding_all rfl) : PE X (.Compare a [op, op'] [b, c] pos) (tChain r r' ta tb tc) := by
 intro pins s σ H Q I h
 refine Compare_chain (thn (ha pins s σ H _ I h) fun v s1 ⟨x, H1, I1, r1, q1⟩ => chain_link (thn (hb pins s1 σ H1 _ I1 q1) fun u s2 ⟨y, H2, I2, r2, q2⟩ =>
  thn (ho pins s2 σ H2 x y v u _ I2 r1 r2 q2) fun d s3 ⟨z, H3, I3, r3, k, e, q3⟩ => ?_)) hm
 subst e
 cases r3
 refine wpAny_truthy_bool ?_
 cases k with
 | false => exact ite_ff ⟨.bl false, H3, I3, rfl, q3⟩
 | true => exact ite_tt (chain_last (thn (hc pins s3 σ H3 _ I3 q3) fun w' s4 ⟨z', H4, I4, r4, q4⟩ => ho' pins s4 σ H4 y z' u w' Q I4 r2 r4 q4))
theorem line63 : (sizeLine : Nat) < 2 ^ 63 := by decide
theorem vals1 (r : Vals [x] us) : ∃ u, us = [u] ∧ RelV x u := by
 cases r with
 | cons r1 r2 => cases r2; simp_all
theorem vals2 (r : Vals [x, y] us) : ∃ u w', us = [u, w'] ∧ RelV x u ∧ RelV y w' := by
 cases r with
 | cons r1 r2 =>
  cases r2 with
  | cons r3 r4 => cases r4; exact ⟨_, _, rfl, r1, r3⟩
theorem call_max2 (hc : X.calm = true) : CallR X (.builtin "max") (fun xs H Q => ∃ i j, xs = [.int i, .int j] ∧ Q (.int (if j > i then j else i)) H) := by
 intro pins s σ H xs us Q I r h
 obtain ⟨i, j, rfl, q⟩ := h
 obtain ⟨u, w', rfl, ⟨t, rfl⟩, ⟨t', rfl⟩⟩ := vals2 r
 refine max_two_ints (I.ok.hd hc) fun h' tk k => ⟨_, H, I.kept k, ?_, q⟩
 by_cases hj : j > i
 · rw [if_pos hj, if_pos hj]; exact ⟨_, rfl⟩
 · rw [if_neg hj, if_neg hj]; exact ⟨_, rfl⟩
theorem call_min2 (hc : X.calm = true) : CallR X (.builtin "min") (fun xs H Q => ∃ i j, xs = [.int i, .int j] ∧ Q (.int (if j < i then j else i)) H) := by
 intro pins s σ H xs us Q I r h
 obtain ⟨i, j, rfl, q⟩ := h
 obtain ⟨u, w', rfl, ⟨t, rfl⟩, ⟨t', rfl⟩⟩ := vals2 r
 refine min_two_ints (I.ok.hd hc) fun h' tk k => ⟨_, H, I.kept k, ?_, q⟩
 by_cases hj : j < i
 · rw [if_pos hj, if_pos hj]; exact ⟨_, rfl⟩
 · rw [if_neg hj, if_neg hj]; exact ⟨_, rfl⟩
theorem call_int1 : CallR X (.type "int") (fun xs H Q => (∃ i, xs = [.int i] ∧ Q (.int i) H) ∨ ∃ k, xs = [.bl k] ∧ Q (.int (if k then 1 else 0)) H) := by
 intro pins s σ H xs us Q I r h
 rcases h with ⟨i, rfl, q⟩ | ⟨k, rfl, q⟩
 · obtain ⟨u, rfl, t, rfl⟩ := vals1 r
   exact call_int_int ⟨.int i, H, I, ⟨_, rfl⟩, q⟩
 · obtain ⟨u, rfl, r1⟩ := vals1 r
   cases r1
   exact call_int_bool ⟨.int _, H, I.tok _, ⟨_, rfl⟩, q⟩
end
structure ObjM (h : Heap) (x dx C : Addr) (mA : Str → Option Value) : Prop where
 obj : h.get? x = some (PySem.W.instObj C dx)
 ns : h.Ns1 dx mA
 ne : dx ≠ x
theorem lookIn_ns {h : Heap} {dx : Addr} (n : h.Ns1 dx mA) : ∃ od, h.get? dx = some od ∧ ∀ name, PySem.W.lookIn name od = some (mA name) := by
 obtain ⟨o, es, ep, ho, hd, hk, _, hm⟩ := n
 refine ⟨o, ho, fun name => ?_⟩
 have e := hm name
 unfold nsFind findBy at e
 rw [← Array.find?_toList] at e
 unfold PySem.W.lookIn
 rw [hd]
 dsimp only
 split
 · simp_all
 · have a : es.toList.any (·.refKey) = false := by
    rw [List.any_eq_false]
    intro y hy
    obtain ⟨z, t, hkey⟩ := hk y (Array.mem_toList_iff.mp hy)
    simp [DictEntry.refKey, hkey]
   have a' : ¬ es.toList.any (·.refKey) = true := by grind
   rw [if_neg a']
   simp_all
theorem ObjM.look (I : ObjM h x dx C mA) : ∃ od, PySem.W.InstAt h x (PySem.W.instObj C dx) C (some od) ∧ ∀ name, PySem.W.lookIn name od = some (mA name) :=
 let ⟨od, ho, hl⟩ := lookIn_ns I.ns
 ⟨od, ⟨I.obj, rfl, rfl, ho⟩, hl⟩
theorem RelO.some_of (r : RelO (some v) o) : ∃ u, o = some u ∧ RelV v u := by
 cases o with
 | none => exact (r).elim
 | some u => exact ⟨u, rfl, r⟩
section
theorem ins_get (hok : HOk P w H h) (e : H a = some (.ins C dx fs)) : ∃ mA, ObjM h a dx C mA ∧ (∀ f, RelO (fs.lookup f) (mA f)) ∧ PySem.Within mA (fs.map (·.1)) ∧ fs.length ≤ 1000 ∧ H dx = some (.own a) := by
 obtain ⟨d, z, ne, ob, mA, n, r, q⟩ := (hok a _ e)
 exact ⟨mA, ⟨ob, n, ne⟩, r, q, z, d⟩
end
structure Cls (K : PySem.W.Frag) (C : Addr) : Prop where
 pg : PySem.W.plainGet K C Str.empty = true
 hd : PySem.W.hasDictIn K C = true
 po : PySem.W.plainOver K C = true
 sa : PySem.W.findIn K (.ref C) "__setattr__" = some (some (.builtin "object.__setattr__"))
theorem Cls.get {K : PySem.W.Frag} (c : Cls K C) (f : Str) : PySem.W.plainGet K C f = true := c.pg
section
variable {σ : St}
inductive TyOf (K : PySem.W.Frag) (H : Hp) : V → Value → Prop where
 | non : TyOf K H .non (.type "NoneType")
 | bl (x : Bool) : TyOf K H (.bl x) (.type "bool")
 | int (i : Int) : TyOf K H (.int i) (.type "int")
 | str (x : Str) : TyOf K H (.str x) (.type "str")
 | flt (x : UInt64) : TyOf K H (.flt x) (.type "float")
 | lst {a : Addr} {xs : List V} (e : H a = some (.lst xs)) : TyOf K H (.ref a) (.type "list")
 | frz {a : Addr} {o : Obj} {xs : List V} (e : H a = some (.frz o (.lst xs))) : TyOf K H (.ref a) (.type "list")
 | tup {a : Addr} {xs : List V} (e : H a = some (.tup xs)) : TyOf K H (.ref a) (.type "tuple")
 | dK {a : Addr} {kvs : List (Key × V)} (e : H a = some (.dK kvs)) : TyOf K H (.ref a) (.type "dict")
 | dT {a : Addr} {kvs : List (List Key × V)} (e : H a = some (.dT kvs)) : TyOf K H (.ref a) (.type "dict")
 | ins {a C dx : Addr} {fs : List (Str × V)} (e : H a = some (.ins C dx fs)) (cl : Cls K C) (ha : PySem.W.findIn K (.ref C) "__class__" = some (some (.builtin "object.__class__")))
  (hn : PySem.W.specialIn K (.builtin "object.__class__") "__get__" = some (some (.builtin "getset_descriptor.__get__"))) (htk : PySem.W.takesIn K (.builtin "object.__class__") = some true)
  (hm : PySem.W.mroIn K C (.type "object") = some true) : TyOf K H (.ref a) (.ref C)
theorem isinst_ok {x : V} {u t : Value} (I : Inv X pins σ H s) (rx : RelV x u) (ty : TyOf X.K H x t) (e : PySem.W.kitOne X.K t c = some b) (h : ∀ tk, Q (.bool b) { s with toks := tk }) :
 wpAny (model X.prog X.w) A (call (.builtin "isinstance") [u, c]) Q E s := by
 cases ty with
 | non => cases (show u = Value.none from rx); exact PySem.W.kia_one PySem.W.kitx_none I.kIn True.intro e (fun z => nomatch z) h
 | bl y => cases (show u = Value.bool y from rx); exact PySem.W.kia_one PySem.W.kitx_bool I.kIn True.intro e (fun z => nomatch z) h
 | int i => obtain ⟨t, q⟩ := (show ∃ t, u = Value.int i t from rx); cases q; exact PySem.W.kia_one PySem.W.kitx_int I.kIn True.intro e (fun z => nomatch z) h
 | str y => obtain ⟨t, q⟩ := (show ∃ t, u = Value.str y t from rx); cases q; exact PySem.W.kia_one PySem.W.kitx_str I.kIn True.intro e (fun z => nomatch z) h
 | flt y => obtain ⟨t, q⟩ := (show ∃ t, u = Value.float y t from rx); cases q; exact PySem.W.kia_one PySem.W.kitx_float I.kIn True.intro e (fun z => nomatch z) h
 | @lst a xs ea =>
  cases (show u = Value.ref a from rx)
  obtain ⟨_, _, n, _, h1⟩ := (show ObjOk X.prog X.w H s.heap a (.lst xs) from I.hok a _ ea)
  exact PySem.W.kia_one PySem.W.kitx_list I.kIn ⟨_, h1, rfl⟩ e (fun z => nomatch z) h
 | @frz a ob xs ea =>
  cases (show u = Value.ref a from rx)
  obtain ⟨_, _, _, n, _, h1⟩ := (show ObjOk X.prog X.w H s.heap a (.frz ob (.lst xs)) from I.hok a _ ea)
  exact PySem.W.kia_one PySem.W.kitx_list I.kIn ⟨_, h1, rfl⟩ e (fun z => nomatch z) h
 | @tup a xs ea =>
  cases (show u = Value.ref a from rx)
  obtain ⟨_, _, _, p⟩ := (show ObjOk X.prog X.w H s.heap a (.tup xs) from I.hok a _ ea)
  obtain ⟨o, h1, h2, _⟩ := p
  exact PySem.W.kia_one PySem.W.kitx_tuple I.kIn ⟨o, h1, h2⟩ e (fun z => nomatch z) h
 | @dK a kvs ea =>
  cases (show u = Value.ref a from rx)
  obtain ⟨_, _, vs, _, p⟩ := (show ObjOk X.prog X.w H s.heap a (.dK kvs) from I.hok a _ ea)
  obtain ⟨o, es, ep, h1, h2, _⟩ := p
  exact PySem.W.kia_one PySem.W.kitx_dict I.kIn ⟨o, h1, h2.1⟩ e (fun z => nomatch z) h
 | @dT a kvs ea =>
  cases (show u = Value.ref a from rx)
  obtain ⟨_, _, xs, _, o, es, ep, h1, h2, _⟩ := (show ObjOk X.prog X.w H s.heap a (.dT kvs) from I.hok a _ ea)
  exact PySem.W.kia_one PySem.W.kitx_dict I.kIn ⟨o, h1, h2.1⟩ e (fun z => nomatch z) h
 | @ins a C dx fs ea cl ha hn htk hm =>
  cases (show u = Value.ref a from rx)
  obtain ⟨mA, O, _⟩ := ins_get I.hok ea
  obtain ⟨od, J, _⟩ := O.look
  exact PySem.W.kia_one (PySem.W.kitx_own (cl.get _) cl.hd ha hn htk hm) I.kIn J e (fun z => nomatch z) h
end
structure Room (k : Nat) (A : Around) : Prop where
 hd : A.handled = none
 dp : A.depth + 3 * k + 5 < recursionLimit
 un : A.units + 16 * k + 200 < cLine
 gd : A.guards = some []
theorem Room.mono (r : Room k A) (h : j ≤ k) : Room j A := ⟨r.hd, by have := r.dp; omega, by have := r.un; omega, r.gd⟩
theorem Room.deeper (r : Room (k + 1) A) (env : Env) : Room k (A.deeper env) :=
 ⟨r.hd, by have := r.dp; show A.depth + 1 + 3 * k + 5 < _; omega, by have := r.un; simp; omega, r.gd⟩
theorem Room.depth (r : Room k A) : A.depth < recursionLimit := by have := r.dp; omega
def tNil : TA := fun _ H Q => Q [] H
def tCons (ta : TE) (tr : TA) : TA := fun σ H Q => ta σ H fun x H1 => tr σ H1 fun xs H2 => Q (x :: xs) H2
section
theorem pa_nil : PA X [] tNil := fun _ _ _ _ H Q I h => Calls.spliced_nil ⟨[], H, I, .nil, h⟩
theorem pa_cons (ha : PE X e te) (hr : PA X es t) (hs : starEach (e :: es) X.env = (false, eval e X.env) :: starEach es X.env := by rfl) : PA X (e :: es) (tCons te t) := by
 intro pos pins s σ H Q I h
 rw [hs]
 refine Calls.spliced_cons (thn (ha pins s σ H _ I h) fun u s1 ⟨x, H1, I1, r1, q1⟩ => ?_)
 exact thn (hr pos pins s1 σ H1 _ I1 q1) fun us s2 ⟨xs, H2, I2, r2, q2⟩ => ⟨x :: xs, H2, I2, .cons r1 r2, q2⟩
end
abbrev Sp := List V → Hp → VK → XK → Prop
abbrev CXT := List Env → Hp → Shared → XK → Value → Shared → Prop
structure Env0 (P : Program) (w : World) (K : PySem.W.Frag) (mg : Str → Option Value) (base : Heap) (A : Around) (outer : List Env) (s : Shared) (H : Hp) : Prop where
 frames : A.frames = some outer
 mod : Mod K mg base
 bs : ∀ b o, base.get? b = some o → s.heap.get? b = some o ∧ H b = none
 bsz : base.objs.size ≤ s.heap.objs.size
 funs : s.heap.FunFrames base outer
 frf : ∀ b ∈ frs outer, H b = none
 hok : HOk P w H s.heap
 bare : AllBare s.gens
def CE (outer : List Env) (P : Program) (w : World) (H : Hp) (s : Shared) (Q : VK) (u : Value) (s' : Shared) : Prop :=
 ∃ v H', s'.os = s.os ∧ AllBare s'.gens ∧ Un (frs outer) [] H H' s.heap s'.heap ∧ HOk P w H' s'.heap ∧ RelV v u ∧ Q v H'
def CR (CX : CXT) (outer : List Env) (P : Program) (w : World) (H : Hp) (s : Shared) (Q : VK) (E : XK) (r : Result) (s' : Shared) : Prop :=
 match r with
 | .ok (.ret u) => CE outer P w H s Q u s'
 | .ok _ => False
 | .error e => CX outer H s E e s'
structure FnOk (P : Program) (w : World) (K : PySem.W.Frag) (mg : Str → Option Value) (base : Heap) (CX : CXT) (k : Nat) (f : Addr) (fd : FuncData) (ps : List Str) (sp : Sp) : Prop where
 len : ∀ vs H Q E, sp vs H Q E → vs.length = ps.length
 run : ∀ (A : Around) (outer : List Env) (s : Shared) (H : Hp) (args : Args) (us : List Value) (vs : List V) (Q : VK) (E : XK), Room k A → Env0 P w K mg base A outer s H → BindsTo s fd args (ps.zip us) → Vals vs us → sp vs H Q E →
  codeAny (model P w) A (.call (.ref f) args) (CR CX outer P w H s Q E) s
section
variable {σ : St}
theorem Inv.env0 (I : Inv X pins σ H s) : Env0 X.prog X.w X.K X.mg X.base X.A X.stack s H :=
 ⟨I.ok.frames, I.ok.mod, I.bs, Nat.le_trans I.ok.bsz I.sz, I.stack, I.stkFree, I.hok, I.bare⟩
theorem Inv.after {Q : VK} {u : Value} (I : Inv X pins σ H s) (h : CE X.stack X.prog X.w H s Q u s') : EP X pins σ Q u s' := by
 obtain ⟨v, H', os, bare, un, hok, r, q⟩ := h
 obtain ⟨hh, g, d, t, os'⟩ := s'
 obtain rfl : os' = s.os := os
 exact ⟨v, H', I.call (h' := hh) (g' := g) (d' := d) (t' := t) (ch := []) un hok bare (fun b z => absurd z (by simp)), r, q⟩
end
def tCall (sp : Sp) (dvs : List V) (E : XK) (t : TA) : TE := fun σ H Q => t σ H fun vs H1 => sp (vs ++ dvs) H1 Q E
def Binds (K : PySem.W.Frag) (fd : FuncData) (ps : List Str) (ds : List Value) : Prop :=
 ∀ (s : Shared) (us : List Value), K.In s.heap → (us ++ ds).length = ps.length → BindsTo s fd ⟨us, []⟩ (ps.zip (us ++ ds))
theorem Binds.all {K : PySem.W.Frag} {fd : FuncData} {ps : List Str} (h : ∀ us : List Value, us.length = ps.length → bindArgs fd ⟨us, []⟩ = pure (ps.zip us)) : Binds K fd ps [] := fun s us _ hl => by
 rw [List.append_nil] at hl ⊢
 exact .of_eq (h us hl)
def Passes (CX : CXT) (X : Cx) (E : XK) : Prop := ∀ (pins : List (Addr × Obj)) (σ : St) (H : Hp) (s : Shared) (e : Value) (s' : Shared), Inv X pins σ H s → CX X.stack H s E e s' → X.xe e s'
section
variable {p pos apos : Pos}
theorem run_fn {pins : List (Addr × Obj)} {σ : St} {H : Hp} {s : Shared} {Q : VK} {us : List Value} {vs : List V} (F : FnOk X.prog X.w X.K X.mg X.base CX k f fd ps sp) (hr : Room k X.A) (hb : Binds X.K fd ps ds) (hd : Vals dvs ds) (hx : Passes CX X E)
 (I : Inv X pins σ H s) (r : Vals vs us) (h : sp (vs ++ dvs) H Q E) : wpAny (model X.prog X.w) X.A (call (.ref f) us) (EP X pins σ Q) X.xe s := by
 have r2 : Vals (vs ++ dvs) (us ++ ds) := r.append hd
 have hl : (us ++ ds).length = ps.length := by rw [← r2.length]; exact F.len _ _ _ _ h
 refine wpAny_call (codeAny_mono (F.run X.A X.stack s H ⟨us, []⟩ (us ++ ds) (vs ++ dvs) Q E hr I.env0 (hb s us I.kIn hl) r2 h) fun r s' hq => ?_)
 cases r with
 | error e => exact hx pins σ H s e s' I hq
 | ok fl =>
  cases fl with
  | ret u => exact I.after hq
  | next => exact False.elim hq
  | brk => exact False.elim hq
  | cont => exact False.elim hq
theorem pe_call (F : FnOk X.prog X.w X.K X.mg X.base CX k f fd ps sp) (hr : Room k X.A) (hg : Gl X x) (hm : X.mg x = some (.ref f)) (hk : PySem.W.keepIn X.K (.ref f) = true) (hb : Binds X.K fd ps ds) (hd : Vals dvs ds) (hx : Passes CX X E)
 (ha : PA X (e :: es) t) (hdb : (x == ("__debug__" : Str)) = false := by decide) (he : starEach (e :: es) X.env = (false, eval e X.env) :: starEach es X.env := by rfl) (hpl : (backTo pos (starEach es X.env)).any (·.1) = false := by rfl) :
 PE X (.Call (.Name x p) (e :: es) [] pos) (tCall sp dvs E t) := by
 intro pins s σ H Q I h
 refine wpAny_Call_Name_kw (ld_glob I hg hm ?_ hdb)
 refine PySem.W.callWith_K I.ok.mod.kin hk (thn (ha pos pins s σ H _ I h) fun us s1 ⟨vs, H1, I1, r, q⟩ => ⟨I1.kIn, ?_⟩) he hpl
 exact run_fn F hr hb hd hx I1 r q
end
structure FnScope (N P : List Str) (sc : Scope) : Prop where
 kind : sc.kind = .function
 co : sc.isCoroutine = false
 gen : sc.isGenerator = false
 nd : N.Nodup
 pre : N.take P.length = P
 par : ∀ x ∈ P, sc.names.lookup x = some .local ∨ sc.names.lookup x = some .cell
 nofree : ∀ y ∈ sc.names, y.2 ≠ .free
theorem bindL_out {kindOf : Str → Option NameKind} : ∀ {binds : List (Str × Value)} {m : Str → Option Value}, (∀ v, (x, v) ∉ binds) → bindL kindOf binds m x = m x
 | [], _, _ => rfl
 | (n, v) :: r, m, h => by
  unfold bindL
  rw [bindL_out fun w hw => h w (List.mem_cons_of_mem _ hw)]
  split
  · have : x ≠ n := by grind
    simp_all
  · rfl
theorem bindC_out {kindOf : Str → Option NameKind} : ∀ {binds : List (Str × Value)} {m : Str → Option Value}, (∀ v, (x, v) ∉ binds) → bindC kindOf binds m x = m x
 | [], _, _ => rfl
 | (n, v) :: r, m, h => by
  unfold bindC
  rw [bindC_out fun w hw => h w (List.mem_cons_of_mem _ hw)]
  split
  · rfl
  · have : x ≠ n := by grind
    grind
theorem bindL_get {kindOf : Str → Option NameKind} : ∀ {P : List Str} {vs : List Value} {i : Nat} {m : Str → Option Value}, P.Nodup → P[i]? = some x → vs[i]? = some v → kindOf x = some .local →
 bindL kindOf (P.zip vs) m x = some v
 | [], _, _, _, _, h, _, _ => by simp at h
 | _ :: _, [], _, _, _, _, h, _ => by simp at h
 | p :: P, w :: vs, 0, m, nd, h1, h2, hk => by
  simp at h1 h2; subst h1; subst h2
  show bindL kindOf ((p, w) :: P.zip vs) m p = _
  unfold bindL
  rw [bindL_out fun v hv => (List.nodup_cons.mp nd).1 (List.of_mem_zip hv).1, if_pos hk]
  simp
 | p :: P, w :: vs, i + 1, m, nd, h1, h2, hk => by
  unfold bindL
  exact bindL_get (i := i) (List.nodup_cons.mp nd).2 (by simpa using h1) (by simpa using h2) hk
theorem bindC_get {kindOf : Str → Option NameKind} : ∀ {P : List Str} {vs : List Value} {i : Nat} {m : Str → Option Value}, P.Nodup → P[i]? = some x → vs[i]? = some v → kindOf x ≠ some .local →
 bindC kindOf (P.zip vs) m x = some v
 | [], _, _, _, _, h, _, _ => by simp at h
 | _ :: _, [], _, _, _, _, h, _ => by simp at h
 | p :: P, w :: vs, 0, m, nd, h1, h2, hk => by
  simp at h1 h2; subst h1; subst h2
  show bindC kindOf ((p, w) :: P.zip vs) m p = _
  unfold bindC
  rw [bindC_out fun v hv => (List.nodup_cons.mp nd).1 (List.of_mem_zip hv).1, if_neg hk]
  simp
 | p :: P, w :: vs, i + 1, m, nd, h1, h2, hk => by
  unfold bindC
  exact bindC_get (i := i) (List.nodup_cons.mp nd).2 (by simpa using h1) (by simpa using h2) hk
def start (N : List Str) (vs : List V) : St := vs.map some ++ List.replicate (N.length - vs.length) none
def cxOf (CX : CXT) (P : Program) (w : World) (K : PySem.W.Frag) (mg : Str → Option Value) (base : Heap) (N : List Str) (qual : Str) (scope : Scope) (f : Addr) (cd : Value) (A : Around) (outer : List Env) (s : Shared) (H : Hp) (E : XK) : Cx where
 prog := P
 w := w
 K := K
 mg := mg
 base := base
 A := A.deeper (envOfC qual scope s.heap.objs.size f cd)
 N := N
 s₀ := s
 H₀ := H
 env := envOfC qual scope s.heap.objs.size f cd
 outer := outer
 stack := envOfC qual scope s.heap.objs.size f cd :: outer
 ex := []
 calm := true
 fn := fun _ => true
 pn := []
 xe := fun e s' => wpAny (model P w) (A.deeper (envOfC qual scope s.heap.objs.size f cd)) (leaving (envOfC qual scope s.heap.objs.size f cd) e) (fun _ s'' => CX outer H s E e s'') (fun e' s'' => CX outer H s E e' s'') s'
theorem cell_has {sc : Scope} (h : sc.names.lookup x = some .cell) : ∃ c, (cellsFrom n sc.names []).lookup x = some c := by
 have q := PySem.W.cellsFrom_some sc.names n [] (.inl h)
 exact Option.isSome_iff_exists.mp q
theorem inv_start {CX : CXT} {P : Program} {w : World} {K : PySem.W.Frag} {mg : Str → Option Value} {base : Heap} {N ps : List Str} {qual : Str} {scope : Scope} {f : Addr} {cd : Value} {A : Around} {outer : List Env} {s s1 : Shared} {H : Hp} {E : XK} {us : List Value} {vs : List V}
 (S : FnScope N ps scope) (hd : A.handled = none) (e0 : Env0 P w K mg base A outer s H) (hl : vs.length = ps.length) (r : Vals vs us)
 (x : InCallC s s.heap.objs.size (bindL (envOfC qual scope s.heap.objs.size f cd).kindOf (ps.zip us) fun _ => none) (cellsFrom (s.heap.objs.size + 1) scope.names []) (bindC (envOfC qual scope s.heap.objs.size f cd).kindOf (ps.zip us) fun _ => none) s1) :
 Inv (cxOf CX P w K mg base N qual scope f cd A outer s H E) [] (start N vs) H s1 := by
 have hpl : ps.length ≤ N.length := by have := congrArg List.length S.pre; rw [List.length_take] at this; omega
 obtain ⟨h1, tk, rfl, hk⟩ := x.done
 have noA : ∀ b : Addr, b ∉ (cxOf CX P w K mg base N qual scope f cd A outer s H E).ex := fun b z => absurd (show b ∈ ([] : List Addr) from z) (by simp)
 refine ⟨⟨e0.mod, S.kind, rfl, rfl, Nat.le_refl _, fun y z c h1 h2 => ?_, fun y hy => ?_, fun y c _ h => ?_, fun _ => hd, Around.frames_deeper e0.frames, .inr ⟨rfl, rfl⟩, fun b z => absurd z (noA b), e0.bs, e0.bsz, fun b _ _ => noA b, fun b z => absurd z (noA b), e0.funs, e0.frf⟩,
  rfl, e0.bare, Un.kept hk, ⟨_, x.toInCall.ns, fun i y v h1 h2 h3 => ?_⟩, fun y c h => ⟨_, x.cell y c h⟩, e0.hok.fresh (Nat.le_refl _), fun y c h => ?_, fun p hp => absurd (show p ∈ ([] : List (Addr × Obj)) from hp) (by simp), e0.hok.kept hk, ?_⟩
 · exact name_of_addr x.apart (PySem.mem_of_lookup h1) (PySem.mem_of_lookup h2)
 · have hy : scope.names.lookup y = some .cell ∨ scope.names.lookup y = some .free := hy
   rcases hy with hy | hy
   · exact cell_has hy
   · exact absurd rfl (S.nofree _ (PySem.mem_of_lookup hy))
 · exact Nat.le_of_lt (x.above y c (PySem.mem_of_lookup h))
 · have hi : i < vs.length := by
    unfold start at h2
    by_cases hi : i < vs.length
    · exact hi
    · rw [List.getElem?_append_right (by simpa using hi)] at h2
      rw [List.getElem?_replicate] at h2
      split at h2 <;> cases h2
   have ha : vs[i]? = some v := by
    unfold start at h2
    rw [List.getElem?_append_left (by simpa using hi), List.getElem?_map] at h2
    cases e : vs[i]? with
    | none => rw [e] at h2; cases h2
    | some a => rw [e] at h2; cases h2; rfl
   obtain ⟨u, hu, rv⟩ := r.get ha
   have hp : ps[i]? = some y := by
    rw [← S.pre, List.getElem?_take_of_lt (by omega)]; exact h1
   have ndP : ps.Nodup := by rw [← S.pre]; exact S.nd.sublist (List.take_sublist _ _)
   refine ⟨u, rv, ?_⟩
   rcases S.par y (List.mem_of_getElem? hp) with k | k
   · exact .inl ⟨k, bindL_get ndP hp hu k⟩
   · obtain ⟨c, e⟩ := cell_has (n := s.heap.objs.size + 1) k
     refine .inr ⟨.inl k, c, e, ?_⟩
     have q := x.cell y c e
     rw [bindC_get ndP hp hu (by show scope.names.lookup y ≠ _; rw [k]; decide)] at q
     exact q
 · exact e0.hok.fresh (Nat.le_of_lt (x.above y c (PySem.mem_of_lookup h)))
 · unfold start
   show _ = N.length
   rw [List.length_append, List.length_map, List.length_replicate]
   omega
theorem fn_of {CX : CXT} {P : Program} {w : World} {K : PySem.W.Frag} {mg : Str → Option Value} {base : Heap} {k : Nat} {f : Addr} {name qual : Str} {params : Arguments} {body : List Stmt} {scope : Scope} {dV kV doc pm cdv ct oc : Value} {an od : Option Addr}
 {osl : Array (Option Value)} {N ps : List Str} {sp : Sp} (lk : K.lookup f = some ⟨oc, od, .func (PySem.W.fnOf name qual params body scope dV kV doc pm an cdv ct), osl⟩) (hcd : PySem.W.codeIn K cdv qual = true) (S : FnScope N ps scope)
 (len : ∀ vs H Q E, sp vs H Q E → vs.length = ps.length)
 (hbody : ∀ (A : Around) (outer : List Env) (s : Shared) (H : Hp) (vs : List V) (Q : VK) (E : XK), Room k (A.deeper (envOfC qual scope s.heap.objs.size f cdv)) → sp vs H Q E →
  ∃ t, PSs (cxOf CX P w K mg base N qual scope f cdv A outer s H E) body t ∧ t { nx := fun _ H' => Q .non H', rt := Q } (start N vs) H) :
 FnOk P w K mg base CX (k + 1) f (PySem.W.fnOf name qual params body scope dV kV doc pm an cdv ct) ps sp := by
 refine ⟨len, fun A outer s H args us vs Q E hr e0 hb r hsp => ?_⟩
 have hl := len _ _ _ _ hsp
 have KX : K.In s.heap := e0.mod.kin.keeps fun b o e => (e0.bs b o e).1
 have lim : s.heap.NoLimit := e0.mod.nolimit.keeps fun b o e => (e0.bs b o e).1
 have hkind : ∀ y ∈ ps.zip us, scope.names.lookup y.1 = some .local ∨ (scope.names.lookup y.1 = some .cell ∧ ((cellsFrom (s.heap.objs.size + 1) scope.names []).lookup y.1).isSome = true) := fun ⟨n, v⟩ hy => by
  rcases S.par n (List.of_mem_zip hy).1 with q | q
  · exact .inl q
  · exact .inr ⟨q, PySem.W.cellsFrom_some _ _ _ (.inl q)⟩
 refine codeAny_call_function hr.depth (KX _ _ lk) rfl S.co S.gen rfl (PySem.W.codeRec_of KX hcd) (hb _ _ _ _ ?_)
 refine wpAny_newFunctionEnv_cells S.kind hkind fun env he s1 x => ?_
 subst he
 refine ⟨lim.keeps x.toInCall.keep, codeAny_func ?_⟩
 obtain ⟨t, ht, hq⟩ := hbody A outer s H vs Q E (hr.deeper _) hsp
 have I : Inv (cxOf CX P w K mg base N qual scope f cdv A outer s H E) [] (start N vs) H s1 := inv_start S hr.hd e0 hl r x
 refine wpAny_mono (ht [] s1 (start N vs) H _ I hq) (fun fl s' hs => ?_) fun e s' hs => hs
 have fin : ∀ {σ' : St} {H' : Hp} {v : V} {u : Value}, Inv (cxOf CX P w K mg base N qual scope f cdv A outer s H E) [] σ' H' s' → RelV v u → Q v H' → CE outer P w H s Q u s' :=
  fun {σ' H' v u} J rv q => ⟨v, H', J.os, J.bare, J.base, J.hok, rv, q⟩
 cases fl with
 | ret u =>
  obtain ⟨v, σ', H', J, rv, q⟩ := hs
  exact fin J rv q
 | next =>
  obtain ⟨σ', H', J, q⟩ := hs
  exact fin (v := V.non) (u := Value.none) J rfl q
 | brk =>
  obtain ⟨_, _, _, q⟩ := hs
  exact False.elim q
 | cont =>
  obtain ⟨_, _, _, q⟩ := hs
  exact False.elim q
section
variable {p pos : Pos} {id T : String}
def tCB (r : List V → Hp → VK → Prop) (t : TA) : TE := fun σ H Q => t σ H fun vs H1 => r vs H1 Q
theorem pe_callB (hc : CallR X (.builtin id) r) (hg : Gl X x) (hm : X.mg x = none) (hv : bootBuiltins x = some (.builtin id)) (ha : PA X (e :: es) t) (hn : x ≠ "__name__" := by decide) (hdb : (x == ("__debug__" : Str)) = false := by decide)
 (he : starEach (e :: es) X.env = (false, eval e X.env) :: starEach es X.env := by rfl) (hpl : (backTo pos (starEach es X.env)).any (·.1) = false := by rfl) : PE X (.Call (.Name x p) (e :: es) [] pos) (tCB r t) := by
 intro pins s σ H Q I h
 refine wpAny_Call_Name_kw (ld_blt I hg hm hv ?_ hn hdb)
 exact PyProof.Rows.callWith_builtin1 (thn (ha pos pins s σ H _ I h) fun us s1 ⟨vs, H1, I1, r1, q1⟩ => hc pins s1 σ H1 vs us Q I1 r1 q1) he hpl
theorem pe_callTy (hc : CallR X (.type T) r) (hg : Gl X x) (hm : X.mg x = none) (hv : bootBuiltins x = some (.type T)) (ha : PA X (e :: es) t) (hn : x ≠ "__name__" := by decide) (hdb : (x == ("__debug__" : Str)) = false := by decide)
 (he : starEach (e :: es) X.env = (false, eval e X.env) :: starEach es X.env := by rfl) (hpl : (backTo pos (starEach es X.env)).any (·.1) = false := by rfl) : PE X (.Call (.Name x p) (e :: es) [] pos) (tCB r t) := by
 intro pins s σ H Q I h
 refine wpAny_Call_Name_kw (ld_blt I hg hm hv ?_ hn hdb)
 exact PyProof.Rows.callWith_type1 (thn (ha pos pins s σ H _ I h) fun us s1 ⟨vs, H1, I1, r1, q1⟩ => hc pins s1 σ H1 vs us Q I1 r1 q1) he hpl
end
end L2
namespace HT
open PySem PyProof.Rows
def lexLt : List Int → List Int → Bool
 | [], [] => false
 | [], _ :: _ => true
 | _ :: _, [] => false
 | x :: xs, y :: ys => if x = y then lexLt xs ys else decide (x < y)
theorem lexLt_cons (x y : Int) (xs ys : List Int) : lexLt (x :: xs) (y :: ys) = if x = y then lexLt xs ys else decide (x < y) := rfl
theorem lexLt_nil_nil : lexLt [] [] = false := rfl
theorem lexLt_nil_cons (y : Int) (ys : List Int) : lexLt [] (y :: ys) = true := rfl
theorem lexLt_cons_nil (x : Int) (xs : List Int) : lexLt (x :: xs) [] = false := rfl
theorem eqAt_int (A : Around) (s : Shared) (a : Int) (t : Tok) (c : Int) (u : Tok) : ∃ e, SeqAt.EqAt A s (.int a t) (.int c u) e ∧ (e = true ↔ a = c) :=
 ⟨_, SeqAt.EqAt.int_int a t c u, by simp⟩
theorem rcLt_int (A : Around) (s : Shared) (a : Int) (t : Tok) (c : Int) (u : Tok) (prog : Program) (w : World) (E : Value → Shared → Prop) (Q : Value → Shared → Prop) (h : Q (.bool (decide (a < c))) s) :
 wpAny (model prog w) A (richCompare .Lt (.int a t) (.int c u)) Q E s :=
 (PyProof.Rows.lt_int h : wpAny _ A _ Q E s)
section
open PySem.SeqAt
open PySem.AutoSeq1 (wpAny_loadPart')
open PySem.MeetsSeq PySem.MeetsSeq2 PySem.MeetsSeq3
theorem tuple_lt_ints (l b : Addr) (items items2 : Array Value) (n n2 : Nat) (dd dd2 : Option Addr) (sl sl2 : Array (Option Value)) (ns ms : List Int) (hi : IntsAre items.toList ns) (hj : IntsAre items2.toList ms) :
 Meets (Builtin.«tuple.__lt__» ⟨[.ref l, .ref b], []⟩)
  (fun _ R s => s.heap.get? l = some { cls := .type "tuple", dict := dd, data := .seq items n, slots := sl } ∧ s.heap.get? b = some { cls := .type "tuple", dict := dd2, data := .seq items2 n2, slots := sl2 } ∧
   R (.ok (.ret (.bool (lexLt ns ms)))) s) :=
 .of_wp fun prog w A R s h => by
  obtain ⟨hp, g, d, tk, os⟩ := s; obtain ⟨hl, hb, h⟩ := h
  have f2 := AutoSeq1.sub_tuple_tuple
  have z1 : items.size = ns.length := by rw [← hi.length]; simp
  have z2 : items2.size = ms.length := by rw [← hj.length]; simp
  wp_walk using wpAny_loadPart' hl, wpAny_loadPart' hb, wpAny_forIn_list _ (fun rest b s' => b.1 = none ∧ s' = ⟨hp, g, d, tk, os⟩ ∧ ∃ (vs ws : List Value) (ns' ms' : List Int), rest = vs.zip ws ∧
   IntsAre vs ns' ∧ IntsAre ws ms' ∧ ns'.length + items2.size = ms'.length + items.size ∧ R (.ok (.ret (.bool (lexLt ns' ms')))) ⟨hp, g, d, tk, os⟩) _
  case turn =>
   rintro ⟨y, x⟩ rest b s' ⟨hb', rfl, vs, ws, ns', ms', hz, hvi, hwi, hlen, hR⟩
   cases hvi with
   | nil => rw [List.zip_nil_left] at hz; cases hz
   | cons a t hvi' =>
    cases hwi with
    | nil => rw [List.zip_nil_right] at hz; cases hz
    | cons c u hwi' =>
     rw [List.zip_cons_cons] at hz
     injection hz with hyx hrest
     injection hyx with hy hx
     subst hy hx
     rw [lexLt_cons] at hR
     simp only [List.length_cons] at hlen
     obtain ⟨e, he, hiff⟩ := eqAt_int A.in1 ⟨hp, g, d, tk, os⟩ a t c u
     refine wpAny_bind (he prog w _ _ ?_)
     cases e with
     | true =>
      rw [if_pos (hiff.mp rfl)] at hR
      wp_walk
      exact ⟨rfl, rfl, _, _, _, _, hrest, hvi', hwi', by omega, hR⟩
     | false =>
      rw [if_neg (fun q => absurd (hiff.mpr q) Bool.false_ne_true)] at hR
      have hri := rcLt_int A.in1 ⟨hp, g, d, tk, os⟩ a t c u prog w
      wp_walk using hri
      exact ⟨_, rfl, by simpa using hR⟩
  case fin =>
   rintro ⟨b1, b2⟩ s' ⟨hb', rfl, vs, ws, ns', ms', hz, hvi, hwi, hlen, hR⟩
   simp only at hb'
   subst hb'
   have hv : lexLt ns' ms' = decide (items.size < items2.size) := by
    cases hvi with
    | nil =>
     cases hwi with
     | nil =>
      simp only [List.length_nil] at hlen
      rw [lexLt_nil_nil]
      exact (decide_eq_false (by omega)).symm
     | cons c u hw =>
      simp only [List.length_nil, List.length_cons] at hlen
      rw [lexLt_nil_cons]
      exact (decide_eq_true (by omega)).symm
    | cons a t hv =>
     cases hwi with
     | nil =>
      simp only [List.length_nil, List.length_cons] at hlen
      rw [lexLt_cons_nil]
      exact (decide_eq_false (by omega)).symm
     | cons c u hw =>
      rw [List.zip_cons_cons] at hz
      cases hz
   rw [hv] at hR
   wp_walk
   exact ⟨_, rfl, by simpa [Builtin.Tuple.tupleCompareSizes] using hR⟩
  case h =>
   exact ⟨rfl, rfl, items.toList, items2.toList, ns, ms, rfl, hi, hj, by omega, h⟩
end
section
theorem lt_tupInts (hl : IsTup s.heap l items) (hb : IsTup s.heap b items2) (hi : IntsAre items.toList ns) (hj : IntsAre items2.toList ms)
 (hu : A.units < cLine) (h : Q (.bool (lexLt ns ms)) s) : wpAny (model prog w) A (compareOp .Lt (.ref l) (.ref b)) Q E s := by
 obtain ⟨⟨cls, dd, data, sl⟩, ho, hc, n, hd⟩ := id hl
 obtain ⟨⟨cls2, dd2, data2, sl2⟩, ho2, hc2, n2, hd2⟩ := id hb
 subst hc hd hc2 hd2
 exact richCompare_meets_room (op := .Lt) ⟨_, ho, rfl⟩ ⟨_, ho2, rfl⟩ PySem.F.slot_tuple_lt PySem.F.entry_tuple_lt (PySem.F.args_tuple_lt_2 _ _) (tuple_lt_ints l b items items2 n n2 dd dd2 sl sl2 ns ms hi hj)
  ⟨ho, ho2, ⟨(fun x => nomatch x), h⟩⟩ hu
theorem cat_tup {t b : Addr} {vs ws : List Value} {Q : Value → Shared → Prop} (ht : IsTup s.heap t vs.toArray) (hb : IsTup s.heap b ws.toArray) (hv : vs ≠ [])
 (h1 : ws = [] → Q (.ref t) s) (h2 : ws ≠ [] → Q (.ref s.heap.objs.size) { s with heap := s.heap.push { cls := .type "tuple", data := .seq (vs ++ ws).toArray } })
 (hsz : vs.length + ws.length ≤ sizeLine) : wpAny (model prog w) A (binaryOp .Add (.ref t) (.ref b)) Q E s := by
 obtain ⟨⟨cls, dd, data, sl⟩, ho, hc, n, hd⟩ := id ht
 obtain ⟨⟨cls2, dd2, data2, sl2⟩, ho2, hc2, n2, hd2⟩ := id hb
 simp only at hc hd hc2 hd2
 subst hc hd hc2 hd2
 have e : vs.toArray ++ ws.toArray = (vs ++ ws).toArray := by simp
 by_cases hw : ws = []
 · exact concat_meets ⟨_, ho, rfl⟩ ⟨_, ho2, rfl⟩ noFill_tuple_add seq_tuple_add PySem.F.slot_tuple_add PySem.F.entry_tuple_add (PySem.F.args_tuple_add_2 _ _)
    (tuple_addW1 t b vs.toArray ws.toArray n n2 dd dd2 sl sl2 (by simpa using hv) (by simp [hw])) ⟨ho, ho2, h1 hw⟩
 · refine concat_meets ⟨_, ho, rfl⟩ ⟨_, ho2, rfl⟩ noFill_tuple_add seq_tuple_add PySem.F.slot_tuple_add PySem.F.entry_tuple_add (PySem.F.args_tuple_add_2 _ _)
    (tuple_addW2 t b vs.toArray ws.toArray n n2 dd dd2 sl sl2 (by simpa using hv) (by simpa using hw) (by rw [List.size_toArray, List.size_toArray]; exact hsz)) ⟨ho, ho2, ?_⟩
   rw [e]
   exact h2 hw
def sIx (n d : Nat) : Option Int → Nat
 | none => d
 | some v => if v < 0 then (v + (n : Int)).toNat else min v.toNat n
theorem sIx_none (n d : Nat) : sIx n d none = d := rfl
theorem sIx_nat (n d k : Nat) : sIx n d (some (k : Int)) = min k n := rfl
theorem sIx_le (n d : Nat) (hd : d ≤ n) (o : Option Int) : sIx n d o ≤ n := by
 cases o with
 | none => exact hd
 | some v =>
  show (if v < 0 then (v + (n : Int)).toNat else min v.toNat n) ≤ n
  grind
theorem clip_eq (v : Int) (n d : Nat) : (if v < 0 then max (v + (n : Int)) 0 else min v (n : Int)) = ((sIx n d (some v) : Nat) : Int) := by
 show _ = (((if v < 0 then (v + (n : Int)).toNat else min v.toNat n) : Nat) : Int)
 grind
theorem adjust_gen (lo hi : Option Int) (n : Nat) : Builtin.Slice.sliceAdjust lo hi 1 (n : Int) = (((sIx n 0 lo : Nat) : Int), ((sIx n n hi : Nat) : Int)) := by
 refine Prod.ext ?_ ?_
 · cases lo with
   | none => rfl
   | some v => exact clip_eq v n 0
 · cases hi with
   | none => rfl
   | some v => exact clip_eq v n n
theorem places_gen (i j : Nat) : Builtin.Slice.slicePlaces (i : Int) (j : Int) 1 = j - i := by
 unfold Builtin.Slice.slicePlaces
 grind
theorem slicePart_ (p : IsPart v o) (h : Q o s) : wpAny (model prog w) A (Builtin.Slice.slicePartIndex v) Q E s := by
 cases p with
 | none => exact slicePart_none h
 | int i t => exact slicePart_int h
theorem sliceApplied_gen {sl : Addr} {lo hi : Option Int} {n : Nat} (hs : s.heap.IsSliceOf sl vl vu .none) (pl : IsPart vl lo) (pu : IsPart vu hi)
 (h : Q (((sIx n 0 lo : Nat) : Int), 1, sIx n n hi - sIx n 0 lo) s) : wpAny (model prog w) A (Builtin.Slice.sliceApplied (.ref sl) (pure (n : Int))) Q E s := by
 obtain ⟨os, hos, hcs, hds⟩ := id hs
 refine wpAny_bind (wpAny_bind (wpAny_field hos hds (x := vl) rfl (wpAny_bind (wpAny_field hos hds (x := vu) rfl (wpAny_bind (wpAny_field hos hds (x := .none) rfl (wpAny_pure ?_)))))))
 refine wpAny_bind (slicePart_none ?_)
 refine wpAny_bind (slicePart_ pl (wpAny_bind (slicePart_ pu (wpAny_bind (wpAny_pure ?_)))))
 show wpAny _ _ (match Builtin.Slice.sliceAdjust lo hi 1 (n : Int) with | (lo, hi) => pure (lo, (1 : Int), Builtin.Slice.slicePlaces lo hi 1)) _ _ s
 rw [adjust_gen lo hi n]
 show wpAny _ _ (pure (((sIx n 0 lo : Nat) : Int), (1 : Int), Builtin.Slice.slicePlaces ((sIx n 0 lo : Nat) : Int) ((sIx n n hi : Nat) : Int) 1)) _ _ s
 rw [places_gen]
 exact wpAny_pure h
theorem pick_gen (xs : Array Value) (i k : Nat) : ((List.range k).filterMap fun (m : Nat) => xs[((i : Int) + (m : Int) * 1).toNat]?).toArray = ((xs.toList.drop i).take k).toArray := by
 have e : (fun (m : Nat) => xs[((i : Int) + (m : Int) * 1).toNat]?) = fun m => xs[i + m]? := by grind
 have := pick_run xs i k
 have e2 : (_ ∘ fun x => i + x) = fun m => xs[i + m]? := rfl
 simp_all
theorem getItem_tuple_cut {t sl : Addr} {items : Array Value} {vl vu : Value} {lo hi : Option Int} {Q : Value → Shared → Prop} (ht : IsTup s.heap t items) (hs : s.heap.IsSliceOf sl vl vu .none) (pl : IsPart vl lo) (pu : IsPart vu hi)
 (hw : ¬ (sIx items.size 0 lo = 0 ∧ sIx items.size items.size hi = items.size))
 (h : Q (.ref s.heap.objs.size) { s with heap := s.heap.push { cls := .type "tuple", data := .seq ((items.toList.drop (sIx items.size 0 lo)).take (sIx items.size items.size hi - sIx items.size 0 lo)).toArray } })
 (hsz : items.size ≤ sizeLine) : wpAny (model prog w) A (getItem (.ref t) (.ref sl)) Q E s := by
 have htake : sizeOk (.seq ((items.toList.drop (sIx items.size 0 lo)).take (sIx items.size items.size hi - sIx items.size 0 lo)).toArray) := by
  show ((items.toList.drop (sIx items.size 0 lo)).take (sIx items.size items.size hi - sIx items.size 0 lo)).toArray.size ≤ sizeLine
  rw [List.size_toArray, List.length_take, List.length_drop, Array.length_toList]
  omega
 have hj : sIx items.size items.size hi ≤ items.size := sIx_le _ _ (Nat.le_refl _) hi
 obtain ⟨os, hos, hcs, hds⟩ := id hs
 have hTs : s.TypeIs (.ref sl) "slice" := ⟨os, hos, hcs⟩
 unfold getItem
 try with_reducible refine wpAny_holding ?_
 first | refine wpAny_bind (wpAny_pure ?_) | skip
 refine wpAny_bind (wpAny_sequenceKey ht.typeIs (by decide) ?_)
 refine wpAny_bind (wpAny_callSpecial?_slot (name := Str.ofString "__getitem__") ht.typeIs PyProof.Rows.slot_tuple_getitem
  (wpAny_call_entry PyProof.Rows.slot_tuple_getitem ht.typeIs entry_tuple_getitem ?_ (args_tuple_getitem _ _)))
 show wpAny _ _ (Builtin.Tuple.tupleItemsOf (.ref t) >>= _) _ _ s
 refine wpAny_bind (tupleItemsOf_ ht ?_)
 refine wpAny_bind (wpAny_typeOf hTs ?_)
 rw [if_pos (by decide)]
 refine wpAny_bind (sliceApplied_gen hs pl pu ?_)
 have hno : ¬ ((((sIx items.size 0 lo : Nat) : Int) == 0 && (1 : Int) == 1 && (sIx items.size items.size hi - sIx items.size 0 lo) == items.size) = true) := by grind
 show wpAny _ _ (if (((sIx items.size 0 lo : Nat) : Int) == 0 && (1 : Int) == 1 && (sIx items.size items.size hi - sIx items.size 0 lo) == items.size) = true then _ else _) _ _ s
 rw [if_neg hno, pick_gen]
 first
  | exact wpAny_bind (m := Builtin.Tuple.tupleExact _) (wpAny_newObj_type (wpAny_pure ⟨_, rfl, wpAny_pure h⟩) htake)
  | exact wpAny_bind (m := Builtin.Tuple.tupleExact _) (wpAny_newObj_type (wpAny_bind (wpAny_pure (wpAny_pure ⟨_, rfl, wpAny_pure h⟩))) htake)
  | exact wpAny_bind (wpAny_bind (m := Builtin.Tuple.tupleExact _) (wpAny_newObj_type (wpAny_pure (wpAny_pure ⟨_, rfl, wpAny_pure h⟩)) htake))
  | exact wpAny_bind (wpAny_bind (m := Builtin.Tuple.tupleExact _) (wpAny_newObj_type (wpAny_pure ⟨_, rfl, wpAny_pure h⟩) htake))
end
end HT
namespace L2
open PySem PySem.Spec PyProof.Rows
abbrev TO := St → Hp → (Option Int → Hp → Prop) → Prop
def PO (X : Cx) (e : Option Expr) (t : TO) : Prop :=
 ∀ (pins : List (Addr × Obj)) (s : Shared) (σ : St) (H : Hp) (Q : Option Int → Hp → Prop), Inv X pins σ H s → t σ H Q →
  wpAny (model X.prog X.w) X.A (evalPart e X.env) (fun u s' => ∃ o H', Inv X pins σ H' s' ∧ IsPart u o ∧ Q o H') X.xe s
def tNoPart : TO := fun _ H Q => Q none H
def tPart (t : TE) : TO := fun σ H Q => t σ H fun x H1 => ∃ i, x = .int i ∧ Q (some i) H1
theorem intsAre_of : ∀ {us : List Value}, Vals (ns.map V.int) us → IntsAre us ns := by
 induction ns with
 | nil => intro us r; cases r; exact .nil
 | cons n ns ih =>
  intro us r
  cases r with
  | cons r1 r2 =>
   obtain ⟨t, e⟩ := r1
   subst e
   exact .cons n t (ih r2)
section
variable {lo hi : Option Expr}
theorem po_none : PO X none tNoPart := by
 intro pins s σ H Q I h
 exact wpAny_pure ⟨none, H, I, .none, h⟩
theorem po_some (h : PE X e te) : PO X (some e) (tPart te) := by
 intro pins s σ H Q I hw
 refine thn (h pins s σ H _ I hw) fun u s1 ⟨x, H1, I1, r1, q1⟩ => ?_
 obtain ⟨i, rfl, q⟩ := q1
 obtain ⟨t, rfl⟩ := r1
 exact ⟨some i, H1, I1, .int i t, q⟩
def SlR (X : Cx) (r : V → Option Int → Option Int → Hp → VK → Prop) : Prop :=
 ∀ (pins : List (Addr × Obj)) (s : Shared) (σ : St) (H : Hp) (x : V) (v vl vu : Value) (lo hi : Option Int) (sl : Addr) (Q : VK), Inv X pins σ H s → RelV x v → s.heap.IsSliceOf sl vl vu .none → IsPart vl lo → IsPart vu hi → r x lo hi H Q →
  ∃ T id, typeLookup (.type T) "__getitem__" = pure (some (.builtin id)) ∧ s.TypeIs v T ∧ wpAny (model X.prog X.w) X.A (getItem v (.ref sl)) (EP X pins σ Q) X.xe s
def tSl (r : V → Option Int → Option Int → Hp → VK → Prop) (te : TE) (tl th : TO) : TE := fun σ H Q => te σ H fun x H1 => tl σ H1 fun l H2 => th σ H2 fun u H3 => r x l u H3 Q
theorem pe_slice {r : V → Option Int → Option Int → Hp → VK → Prop} (hr : SlR X r) (he : PE X e te) (hl : PO X lo tl) (hu : PO X hi th) : PE X (.Subscript e (.Slice lo hi none p2) pos) (tSl r te tl th) := by
 intro pins s σ H Q I h
 refine Subscript_ (thn (he pins s σ H _ I h) fun v s1 ⟨x, H1, I1, r1, q1⟩ => ?_)
 refine wpAny_Slice (thn (hl pins s1 σ H1 _ I1 q1) fun vl s2 ⟨l, H2, I2, pl, q2⟩ => thn (hu pins s2 σ H2 _ I2 q2) fun vu s3 ⟨u, H3, I3, pu, q3⟩ => ?_)
 rw [evalPart_none]
 refine wpAny_pure ?_
 have I4 : Inv X pins σ H3 { s3 with heap := s3.heap.push { cls := .type "slice", data := .fields #[vl, vu, .none] } } := I3.kept (t' := s3.toks) fun b ob q => Heap.get?_push_of_some _ q
 obtain ⟨T, id, hT, ht, hg⟩ := hr pins { s3 with heap := s3.heap.push { cls := .type "slice", data := .fields #[vl, vu, .none] } } σ H3 x v vl vu l u s3.heap.objs.size Q I4 r1 (Heap.IsSliceOf.new ..) pl pu q3
 show wpAny (model X.prog X.w) X.A (subscriptTail e (.Slice lo hi none p2) v (.ref s3.heap.objs.size)) (EP X pins σ Q) X.xe { s3 with heap := s3.heap.push { cls := .type "slice", data := .fields #[vl, vu, .none] } }
 exact tail_any (ops := [.ref s3.heap.objs.size, v]) ht hT hg (by with_unfolding_all rfl)
def cutV (xs : List V) (lo hi : Option Int) : List V := (xs.drop (HT.sIx xs.length 0 lo)).take (HT.sIx xs.length xs.length hi - HT.sIx xs.length 0 lo)
theorem cutV_length (xs : List V) (lo hi : Option Int) : (cutV xs lo hi).length ≤ xs.length := by
 unfold cutV
 simp; omega
def rSlT (K : PySem.W.Frag) : V → Option Int → Option Int → Hp → VK → Prop := fun x lo hi H Q => ∃ a xs, x = .ref a ∧ SqT K H a xs ∧
 ¬ (HT.sIx xs.length 0 lo = 0 ∧ HT.sIx xs.length xs.length hi = xs.length) ∧ ∀ p, H p = none → Q (.ref p) (upd H p (.tup (cutV xs lo hi)))
theorem sl_tup : SlR X (rSlT X.K) := by
 intro pins s σ H x v vl vu lo hi sl Q I rx hs pl pu h
 obtain ⟨a, xs, rfl, hx, hw, q⟩ := h
 cases rx
 obtain ⟨its, r, ht, hz⟩ := I.tuple hx
 have hlen : its.toArray.size = xs.length := by exact r.length.symm
 refine ⟨"tuple", _, PyProof.Rows.slot_tuple_getitem.lookup, ht.typeIs, ?_⟩
 refine HT.getItem_tuple_cut ht hs pl pu (by simp_all) ?_ (by simp_all)
 rw [hlen]
 refine ⟨.ref s.heap.objs.size, _, I.laid (fun b ob q => Heap.get?_push_of_some _ q) (Nat.le_refl _) ?_, rfl, q _ (I.hok.fresh (Nat.le_refl _))⟩
 exact ⟨Nat.le_trans (cutV_length xs lo hi) hz, _, (r.drop _).take _, IsTup.new _ _⟩
def rCatT (K : PySem.W.Frag) : R2 := fun x y H Q => ∃ a b xs ys, x = .ref a ∧ y = .ref b ∧ SqT K H a xs ∧ SqT K H b ys ∧ xs ≠ [] ∧ xs.length + ys.length ≤ sizeLine ∧
 (ys = [] → Q (.ref a) H) ∧ (ys ≠ [] → ∀ p, H p = none → Q (.ref p) (upd H p (.tup (xs ++ ys))))
theorem Vals.nil_iff (r : Vals xs us) : us = [] ↔ xs = [] := by
 cases r with
 | nil => simp
 | cons _ _ => simp
theorem op_catT : OpR X (binaryOp .Add) (rCatT X.K) := by
 intro pins s σ H x y v u Q I rx ry h
 obtain ⟨a, b, xs, ys, rfl, rfl, ha, hb, hx, hz, q1, q2⟩ := h
 cases rx
 cases ry
 obtain ⟨its, r1, p1, _⟩ := I.tuple ha
 obtain ⟨its2, r2, p2, _⟩ := I.tuple hb
 refine HT.cat_tup p1 p2 (fun z => hx (r1.nil_iff.mp z)) (fun z => ⟨.ref a, H, I, rfl, q1 (r2.nil_iff.mp z)⟩) (fun z => ?_) (by rw [← r1.length, ← r2.length]; omega)
 refine ⟨.ref s.heap.objs.size, _, I.laid (fun b ob q => Heap.get?_push_of_some _ q) (Nat.le_refl _) ?_, rfl, q2 (fun w => z (r2.nil_iff.mpr w)) _ (I.hok.fresh (Nat.le_refl _))⟩
 exact ⟨by simp_all, _, r1.append r2, IsTup.new _ _⟩
end
def ixN (n : Nat) (i : Int) : Option Nat := if 0 ≤ i then (if i < n then some i.toNat else none) else if -(n : Int) ≤ i then some (i + n).toNat else none
def atI {α : Type} (xs : List α) (i : Int) : Option α := (ixN xs.length i).bind fun j => xs[j]?
theorem ixN_seq (h : ixN n i = some j) : seqIndex? i n = some j ∧ j < n ∧ -(n : Int) ≤ i ∧ i < n := by
 unfold ixN at h
 by_cases h0 : 0 ≤ i
 · rw [if_pos h0] at h
   by_cases h1 : i < n
   · rw [if_pos h1] at h
     have e : i.toNat = j := Option.some.inj h
     exact ⟨by rw [seqIndex_of h0 h1, e], by omega, by omega, h1⟩
   simp_all
 · rw [if_neg h0] at h
   by_cases h1 : -(n : Int) ≤ i
   · rw [if_pos h1] at h
     have e := Option.some.inj h
     exact ⟨by rw [seqIndex_neg (by omega) h1, e], by omega, h1, by omega⟩
   grind
theorem atI_get {v : α} (h : atI xs i = some v) : ∃ j, seqIndex? i xs.length = some j ∧ xs[j]? = some v ∧ j < xs.length ∧ -(xs.length : Int) ≤ i ∧ i < xs.length := by
 unfold atI at h
 cases e : ixN xs.length i with
 | none => simp_all
 | some j =>
  obtain ⟨h1, h2, h3, h4⟩ := ixN_seq e
  simp_all
theorem atI_nat {j : Nat} {v : α} (h : xs[j]? = some v) : atI xs (j : Int) = some v := by
 have hj := (List.getElem?_eq_some_iff.mp h).1
 have e : ixN xs.length (j : Int) = some j := by
  unfold ixN
  simp_all
 unfold atI; grind
theorem atI_last (xs : List α) (v : α) : atI (xs ++ [v]) (-1) = some v := by
 have e : ixN (xs ++ [v]).length (-1) = some xs.length := by
  unfold ixN
  grind
 unfold atI
 simp_all
def PlainIx (b : Expr) : Prop := ∀ o i, subscripted b false o i = operate [o, i] (getItem o i)
def IxR (X : Cx) (r : R2) : Prop :=
 ∀ (value slice : Expr) (pins : List (Addr × Obj)) (s : Shared) (σ : St) (H : Hp) (x y : V) (v u : Value) (Q : VK), Inv X pins σ H s → RelV x v → RelV y u → r x y H Q →
  subscripted slice false v u = operate [v, u] (getItem v u) → wpAny (model X.prog X.w) X.A (subscriptTail value slice v u) (EP X pins σ Q) X.xe s
def MtR (X : Cx) (id : String) (r : V → List V → Hp → VK → Prop) : Prop :=
 ∀ (pins : List (Addr × Obj)) (s : Shared) (σ : St) (H : Hp) (x : V) (xs : List V) (v : Value) (us : List Value) (Q : VK), Inv X pins σ H s → RelV x v → Vals xs us → r x xs H Q →
  wpAny (model X.prog X.w) X.A (call (.builtin id) (v :: us)) (EP X pins σ Q) X.xe s
section
theorem IxR.or (h : IxR X r) (h' : IxR X r') : IxR X (fun x y H Q => r x y H Q ∨ r' x y H Q) := by
 intro value slice pins s σ H x y v u Q I rx ry q hs
 rcases q with q | q
 · exact h value slice pins s σ H x y v u Q I rx ry q hs
 · exact h' value slice pins s σ H x y v u Q I rx ry q hs
theorem pe_ix {r : R2} (hr : IxR X r) (ha : PE X a ta) (hb : PE X b tb) (hs : PlainIx b) : PE X (.Subscript a b pos) (tOp r ta tb) := by
 intro pins s σ H Q I h
 exact Subscript_ (binT ha hb I h fun v u s2 x y H2 I2 rx ry q => hr a b pins s2 σ H2 x y v u Q I2 rx ry q (hs _ _))
def rIxL (K : PySem.W.Frag) : R2 := fun x y H Q => ∃ p xs i v, x = .ref p ∧ y = .int i ∧ SqL K H p xs ∧ atI xs i = some v ∧ Q v H
def rIxT (K : PySem.W.Frag) : R2 := fun x y H Q => ∃ p xs i v, x = .ref p ∧ y = .int i ∧ SqT K H p xs ∧ atI xs i = some v ∧ Q v H
def rIxS : R2 := fun x y H Q => ∃ z i c, x = .str z ∧ y = .int i ∧ z.length ≤ sizeLine ∧ atI z.cps.toList i = some c ∧ Q (.str ⟨#[c]⟩) H
theorem ix_list : IxR X (rIxL X.K) := by
 intro value slice pins s σ H x y v u Q I rx ry h hs
 obtain ⟨p, xs, i, z, rfl, rfl, hq, he, q⟩ := h
 cases rx
 obtain ⟨t, rfl⟩ := ry
 obtain ⟨its, r, pl, hz⟩ := I.list hq
 obtain ⟨j, h1, h2, h3, h4, h5⟩ := atI_get he
 obtain ⟨w, ew, rw'⟩ := r.get h2
 have hl := r.length
 have hn := line63
 have fin : EP X pins σ Q w s := ⟨z, H, I, rw', q⟩
 by_cases h0 : 0 ≤ i
 · have hj : i.toNat = j := by
    rw [seqIndex_of h0 h5] at h1
    exact Option.some.inj h1
   exact item_listR pl.isList h0 (by omega) (by rw [hj]; simpa using ew) fin hs
 · have hj : (i + (its.toArray.size : Int)).toNat = j := by
    rw [seqIndex_neg (by omega) h4] at h1
    simp_all
   exact subscriptTail_builtinR (x := w) pl.isList.typeIs slot_list_getitem.lookup
    (wpAny_getItem_list_neg pl.isList (by omega) (by rw [List.size_toArray] <;> omega) (by omega) (by rw [hj]; simpa using ew) ⟨rfl, fin⟩) hs
theorem ix_tup : IxR X (rIxT X.K) := by
 intro value slice pins s σ H x y v u Q I rx ry h hs
 obtain ⟨p, xs, i, z, rfl, rfl, hq, he, q⟩ := h
 cases rx
 obtain ⟨t, rfl⟩ := ry
 obtain ⟨its, r, pl, hz⟩ := I.tuple hq
 obtain ⟨j, h1, h2, h3, h4, h5⟩ := atI_get he
 obtain ⟨w, ew, rw'⟩ := r.get h2
 have hl := r.length
 have hn := line63
 have fin : EP X pins σ Q w s := ⟨z, H, I, rw', q⟩
 exact subscriptTail_builtinR pl.typeIs slot_tuple_getitem.lookup
  (getItem_tuple (j := j) pl (by omega) (by omega) (by simp_all) (by simp_all) ⟨rfl, fin⟩) hs
theorem ix_str : IxR X rIxS := by
 intro value slice pins s σ H x y v u Q I rx ry h hs
 obtain ⟨z, i, c, rfl, rfl, hz, he, q⟩ := h
 obtain ⟨t, rfl⟩ := rx
 obtain ⟨t', rfl⟩ := ry
 obtain ⟨j, h1, h2, h3, h4, h5⟩ := atI_get he
 have hl : z.cps.toList.length = z.length := by rfl
 have hn := line63
 exact tail_any (typeIs_str s z t) slot_str_getitem.lookup (getItem_str (by grind) (by grind) ⟨.str _, H, I.tok _, ⟨_, rfl⟩, q⟩) hs
def rIx (K : PySem.W.Frag) : R2 := fun x y H Q => rIxL K x y H Q ∨ rIxT K x y H Q ∨ rIxS x y H Q
theorem ix_seq : IxR X (rIx X.K) := ix_list.or (ix_tup.or ix_str)
theorem mapSeq_set (its : List Value) (n j : Nat) (u : Value) : Obj.mapSeq (·.setIfInBounds j u) { cls := .type "list", data := .seq its.toArray n } = { cls := .type "list", data := .seq (its.set j u).toArray n } := by
 simp [Obj.mapSeq]
theorem Inv.lst {σ : St} (I : Inv X pins σ H s) (h : H p = some (.lst xs)) :
 ∃ (its : List Value) (n : Nat), Vals xs its ∧ s.heap.get? p = some { cls := .type "list", data := .seq its.toArray n } ∧ xs.length ≤ sizeLine := by
 obtain ⟨z, its, n, r, e⟩ := I.hok p _ h
 exact ⟨its, n, r, e, z⟩
theorem Inv.lstUpd {pins : List (Addr × Obj)} {σ : St} {H : Hp} {s : Shared} {p : Addr} {xs ys : List V} {its its' : List Value} {n n' : Nat} {f : Obj → Obj} (I : Inv X pins σ H s) (h : H p = some (.lst xs))
 (ho : s.heap.get? p = some { cls := .type "list", data := .seq its.toArray n }) (hf : f { cls := .type "list", data := .seq its.toArray n } = { cls := .type "list", data := .seq its'.toArray n' }) (r : Vals ys its') (hz : ys.length ≤ sizeLine) (t : Nat) :
 Inv X pins σ (upd H p (.lst ys)) { s with heap := s.heap.update p f, toks := t } := by
 have e : (s.heap.update p f).get? p = some { cls := .type "list", data := .seq its'.toArray n' } := by
  rw [Heap.get?_update_self f ho (by rw [hf] <;> rfl), hf]
 refine I.write (x := p) (e := p) (by rw [h]; trivial) (.inl rfl) (fun b u hb q => (Heap.get?_update_other _ _ (Ne.symm hb)).trans q) ⟨_, e⟩ ?_
 exact ⟨hz, its', n', r, e⟩
def rSetL : V → V → V → Hp → (Hp → Prop) → Prop := fun o i v H Q => ∃ p xs k j, o = .ref p ∧ i = .int k ∧ H p = some (.lst xs) ∧ ixN xs.length k = some j ∧ Q (upd H p (.lst (xs.set j v)))
theorem set_list : PSet X rSetL := by
 intro pins s σ H o i v ov iv u Q I ro ri rv h
 obtain ⟨p, xs, k, j, rfl, rfl, hp, hj, q⟩ := h
 cases ro
 obtain ⟨t, rfl⟩ := ri
 obtain ⟨its, n, r, ho, hz⟩ := I.lst hp
 obtain ⟨h1, h2, h3, h4⟩ := ixN_seq hj
 have hl := r.length
 have hn := line63
 have I' :=
  I.lstUpd hp ho (mapSeq_set its n j u) (r.set rv j) (by rw [List.length_set]; exact hz) s.toks
 by_cases h0 : 0 ≤ k
 · have hk : k.toNat = j := by
    rw [seqIndex_of h0 h4] at h1
    exact Option.some.inj h1
   exact PySem.W.ki_setAt ho h0 (by omega) (by simp_all) (by rw [hk]; exact ⟨_, I', q⟩)
 · have hk : (k + (its.toArray.size : Int)).toNat = j := by
    rw [seqIndex_neg (by omega) h3] at h1
    grind
   exact PySem.W.ki_setBack ho (by omega) (by rw [List.size_toArray, ← hl]; exact h3) (by omega) (by rw [hk]; exact ⟨_, I', q⟩)
theorem slice_bounds (lo hi : Option Int) (n : Nat) : (sliceBounds lo hi none n).1 = ((HT.sIx n 0 lo : Nat) : Int) ∧ (sliceBounds lo hi none n).2.1 = ((HT.sIx n n hi : Nat) : Int) ∧ (sliceBounds lo hi none n).2.2 = 1 := by
 refine ⟨?_, ?_, rfl⟩
 · cases lo with
   | none => rfl
   | some i =>
    simp only [sliceBounds, HT.sIx, Option.getD_none, show (1 : Int) > 0 by decide, if_true]
    by_cases h : i < 0
    · simp only [h, if_true] <;> omega
    · simp only [h, if_false] <;> omega
 · cases hi with
   | none => simp [sliceBounds, HT.sIx]
   | some i =>
    simp only [sliceBounds, HT.sIx, Option.getD_none, show (1 : Int) > 0 by decide, if_true]
    by_cases h : i < 0
    · simp only [h, if_true] <;> omega
    · simp only [h, if_false] <;> omega
theorem slicePick_cut (its : List Value) (lo hi : Option Int) : slicePick its.toArray lo hi none = ((its.drop (HT.sIx its.length 0 lo)).take (HT.sIx its.length its.length hi - HT.sIx its.length 0 lo)).toArray := by
 obtain ⟨h1, h2, h3⟩ := slice_bounds lo hi its.toArray.size
 unfold slicePick
 rw [h1, h2, h3]
 simp only [sliceRange_one, pick_run, List.size_toArray] <;> rfl
def rSlL (K : PySem.W.Frag) : V → Option Int → Option Int → Hp → VK → Prop := fun x lo hi H Q => ∃ a xs, x = .ref a ∧ SqL K H a xs ∧ ∀ p, H p = none → Q (.ref p) (upd H p (.lst (cutV xs lo hi)))
theorem sl_list : SlR X (rSlL X.K) := by
 intro pins s σ H x v vl vu lo hi sl Q I rx hs pl pu h
 obtain ⟨a, xs, rfl, hx, q⟩ := h
 cases rx
 obtain ⟨its, r, ht, hz⟩ := I.list hx
 have hlen := r.length
 refine ⟨"list", _, slot_list_getitem.lookup, ht.isList.typeIs, ?_⟩
 refine wpAny_getItem_list_slice ht.isList hs pl pu .none (by simp) ?_ (by grind)
 rw [slicePick_cut, ← hlen]
 refine ⟨.ref s.heap.objs.size, _, I.laid (fun b ob q => Heap.get?_push_of_some _ q) (Nat.le_refl _) ?_, rfl, q _ (I.hok.fresh (Nat.le_refl _))⟩
 exact ⟨Nat.le_trans (cutV_length xs lo hi) hz, _, 0, (r.drop _).take _, Heap.get?_push_size _ rfl⟩
def flatV : V → Bool
 | .non => true
 | .bl _ => true
 | .int _ => true
 | .str _ => true
 | _ => false
def eqV : V → V → Bool
 | .non, .non => true
 | .bl a, .bl b => a == b
 | .bl a, .int b => (if a then 1 else 0) == b
 | .int a, .bl b => a == (if b then 1 else 0)
 | .int a, .int b => a == b
 | .str a, .str b => a == b
 | _, _ => false
theorem eqAt_V {A : Around} {s : Shared} {y x : V} {u v : Value} (ry : RelV y u) (rx : RelV x v) (fy : flatV y = true) (fx : flatV x = true) : SeqAt.EqAt A s u v (eqV y x) := by
 cases y with
 | non =>
  cases ry
  cases x with
  | non => cases rx; exact SeqAt.EqAt.same _
  | bl b => cases rx; exact SeqAt.EqAt.none_bool b
  | int b => obtain ⟨t, rfl⟩ := rx; exact SeqAt.EqAt.none_int b t
  | str b => obtain ⟨t, rfl⟩ := rx; exact SeqAt.EqAt.none_str b t
  | _ => exact absurd (show false = true from fx) Bool.false_ne_true
 | bl a =>
  cases ry
  cases x with
  | non => cases rx; exact SeqAt.EqAt.bool_none a
  | bl b => cases rx; exact SeqAt.EqAt.bool_bool a b
  | int b => obtain ⟨t, rfl⟩ := rx; exact SeqAt.EqAt.bool_int a b t
  | str b => obtain ⟨t, rfl⟩ := rx; exact SeqAt.EqAt.bool_str a b t
  | _ => exact absurd (show false = true from fx) Bool.false_ne_true
 | int a =>
  obtain ⟨t', rfl⟩ := ry
  cases x with
  | non => cases rx; exact SeqAt.EqAt.int_none a t'
  | bl b => cases rx; exact SeqAt.EqAt.int_bool a t' b
  | int b => obtain ⟨t, rfl⟩ := rx; exact SeqAt.EqAt.int_int a t' b t
  | str b => obtain ⟨t, rfl⟩ := rx; exact SeqAt.EqAt.int_str a t' b t
  | _ => exact absurd (show false = true from fx) Bool.false_ne_true
 | str a =>
  obtain ⟨t', rfl⟩ := ry
  cases x with
  | non => cases rx; exact SeqAt.EqAt.str_none a t'
  | bl b => cases rx; exact SeqAt.EqAt.str_bool a t' b
  | int b => obtain ⟨t, rfl⟩ := rx; exact SeqAt.EqAt.str_int a t' b t
  | str b => obtain ⟨t, rfl⟩ := rx; exact SeqAt.EqAt.str_str a t' b t
  | _ => exact absurd (show false = true from fx) Bool.false_ne_true
 | _ => exact absurd (show false = true from fy) Bool.false_ne_true
def eqU (x : V) (u : Value) : Bool := match u with
 | .none => eqV .non x
 | .bool b => eqV (.bl b) x
 | .int i _ => eqV (.int i) x
 | .str z _ => eqV (.str z) x
 | _ => false
theorem eqU_of {x y : V} {u : Value} (r : RelV y u) (f : flatV y = true) : eqU x u = eqV y x := by
 cases y with
 | non => cases r; rfl
 | bl b => cases r; rfl
 | int i => obtain ⟨t, rfl⟩ := r; rfl
 | str z => obtain ⟨t, rfl⟩ := r; rfl
 | _ => exact absurd (show false = true from f) Bool.false_ne_true
theorem any_eqU {x : V} : ∀ {xs : List V} {us : List Value}, Vals xs us → xs.all flatV = true → us.any (eqU x) = xs.any fun y => eqV y x
 | _, _, .nil, _ => rfl
 | y :: xs, u :: us, .cons r t, f => by
  rw [List.all_cons, Bool.and_eq_true] at f
  rw [List.any_cons, List.any_cons, eqU_of r f.1, any_eqU t f.2]
theorem mem_eqAt {A : Around} {s : Shared} {x : V} {v : Value} (rx : RelV x v) (fx : flatV x = true) : ∀ {xs : List V} {us : List Value}, Vals xs us → xs.all flatV = true → ∀ u ∈ us, SeqAt.EqAt A s u v (eqU x u)
 | _, _, .nil, _ => fun u hu => by cases hu
 | y :: xs, u :: us, .cons r t, f => fun u' hu => by
  rw [List.all_cons, Bool.and_eq_true] at f
  rcases List.mem_cons.mp hu with rfl | hu
  · rw [eqU_of r f.1]; exact eqAt_V r rx f.1 fx
  · exact mem_eqAt rx fx t f.2 u' hu
def inV (x : V) (xs : List V) : Bool := xs.any fun y => eqV y x
def rIn (K : PySem.W.Frag) (neg : Bool) : R2 := fun x y H Q => ∃ p xs, y = .ref p ∧ (SqL K H p xs ∨ SqT K H p xs) ∧ flatV x = true ∧ xs.all flatV = true ∧ Q (.bl (if neg then !inV x xs else inV x xs)) H
theorem op_notIn_seq : OpR X (compareOp .NotIn) (rIn X.K true) := by
 intro pins s σ H x y v u Q I rx ry h
 obtain ⟨p, xs, rfl, hq, fx, fs, q⟩ := h
 cases ry
 rcases hq with hq | hq
 · obtain ⟨its, r, pl, hz⟩ := I.list hq
   refine SeqAt.notIn_listAt (eqU x) pl.isList (fun w hw => mem_eqAt rx fx r fs w (by simpa using hw)) ⟨.bl _, H, I, rfl, ?_⟩
   rw [show its.toArray.any (eqU x) = its.any (eqU x) by simp, any_eqU r fs]
   exact q
 · obtain ⟨its, r, pl, hz⟩ := I.tuple hq
   refine SeqAt.notIn_tupleAt (eqU x) pl (fun w hw => mem_eqAt rx fx r fs w (by simpa using hw)) ⟨.bl _, H, I, rfl, ?_⟩
   rw [show its.toArray.any (eqU x) = its.any (eqU x) by simp, any_eqU r fs]
   exact q
theorem call_len_seq : CallR X (.builtin "len") (fun xs H Q => ∃ p ys, xs = [.ref p] ∧ (SqL X.K H p ys ∨ SqT X.K H p ys) ∧ Q (.int ys.length) H) := by
 intro pins s σ H xs us Q I r h
 obtain ⟨p, ys, rfl, hq, q⟩ := h
 obtain ⟨u, rfl, rx⟩ := vals1 r
 cases rx
 have hn := line63
 rcases hq with hq | hq
 · obtain ⟨its, r', pl, hz⟩ := I.list hq
   have hlen := r'.length
   exact Calls.call_len_list pl.isList (by simp only [List.size_toArray] <;> omega) ⟨.int ys.length, H, I.tok _, ⟨s.toks + 1, by grind⟩, q⟩
 · obtain ⟨its, r', pl, hz⟩ := I.tuple hq
   have hlen := r'.length
   exact len_tuple pl (by simp only [List.size_toArray] <;> omega) ⟨.int ys.length, H, I.tok _, ⟨s.toks + 1, by grind⟩, q⟩
theorem call_len_str : CallR X (.builtin "len") (fun xs H Q => ∃ z, xs = [.str z] ∧ z.length ≤ sizeLine ∧ Q (.int z.length) H) := by
 intro pins s σ H xs us Q I r h
 obtain ⟨z, rfl, hz, q⟩ := h
 obtain ⟨u, rfl, t, rfl⟩ := vals1 r
 have hn := line63
 exact len_str (by omega) ⟨.int z.length, H, I.tok _, ⟨_, rfl⟩, q⟩
theorem CallR.or (h : CallR X f r) (h' : CallR X f r') : CallR X f (fun xs H Q => r xs H Q ∨ r' xs H Q) := by
 intro pins s σ H xs us Q I rs q
 rcases q with q | q
 · exact h pins s σ H xs us Q I rs q
 · exact h' pins s σ H xs us Q I rs q
theorem call_list_of : CallR X (.type "list") (fun xs H Q => ∃ p ys, xs = [.ref p] ∧ (SqL X.K H p ys ∨ SqT X.K H p ys) ∧ ∀ l, H l = none → Q (.ref l) (upd H l (.lst ys))) := by
 intro pins s σ H xs us Q I r h
 obtain ⟨p, ys, rfl, hq, q⟩ := h
 obtain ⟨u, rfl, rx⟩ := vals1 r
 cases rx
 have fin : ∀ (its : List Value), Vals ys its → ys.length ≤ sizeLine → ∀ (h' : Heap) (c' : Nat), _ →
  h'.get? s.heap.objs.size = some { cls := .type "list", dict := none, data := .seq its.toArray c', slots := #[] } → EP X pins σ Q _ { s with heap := h' } := fun its r' hz h' c' kp e =>
  ⟨.ref s.heap.objs.size, _, I.laid (t' := s.toks) kp (Nat.le_refl _) (show ObjOk X.prog X.w _ h' _ (.lst ys) from ⟨hz, its, c', r', e⟩), rfl, q _ (I.hok.fresh (Nat.le_refl _))⟩
 rcases hq with hq | hq
 · obtain ⟨its, r', pl, hz⟩ := I.list hq
   have hlen := r'.length
   obtain ⟨o, ho, hc, n, hd⟩ := pl.isList
   exact call_list_seq p (.inl rfl) ho hc hd (fun h' c' kp e => fin its r' hz h' c' kp e) (by simp_all)
 · obtain ⟨its, r', pl, hz⟩ := I.tuple hq
   have hlen := r'.length
   obtain ⟨o, ho, hc, n, hd⟩ := pl
   exact call_list_seq p (.inr rfl) ho hc hd (fun h' c' kp e => fin its r' hz h' c' kp e) (by simp_all)
theorem call_tuple_of : CallR X (.type "tuple") (fun xs H Q => ∃ p ys, xs = [.ref p] ∧ ((SqL X.K H p ys ∧ ∀ l, H l = none → Q (.ref l) (upd H l (.tup ys))) ∨ (SqT X.K H p ys ∧ Q (.ref p) H))) := by
 intro pins s σ H xs us Q I r h
 obtain ⟨p, ys, rfl, h⟩ := h
 obtain ⟨u, rfl, rx⟩ := vals1 r
 cases rx
 rcases h with ⟨hq, q⟩ | ⟨hq, q⟩
 · obtain ⟨its, r', pl, hz⟩ := I.list hq
   have hlen := r'.length
   refine call_tuple_list pl.isList (fun h' kp => ?_) (by simp_all)
   have I1 := I.kept (t' := s.toks) kp
   have I2 :=
    I1.laid (t' := s.toks) (fun b o e => Heap.get?_push_of_some _ e) (Nat.le_refl _) (show ObjOk X.prog X.w _ _ _ (.tup ys) from ⟨hz, its, r', IsTup.new _ _⟩)
   exact ⟨.ref h'.objs.size, _, I2, rfl, q _ (I1.hok.fresh (Nat.le_refl _))⟩
 · obtain ⟨its, r', pl, hz⟩ := I.tuple hq
   exact call_tuple_same pl ⟨.ref p, H, I, rfl, q⟩
def tyV (K : PySem.W.Frag) (T : String) (x : V) (H : Hp) : Prop := match x with
 | .str _ => T = "str"
 | .int _ => T = "int"
 | .ref p => (T = "list" ∧ ∃ xs, SqL K H p xs) ∨ (T = "tuple" ∧ ∃ o, K.lookup p = some o ∧ o.cls = .type "tuple" ∧ o.dict = none) ∨
  (T = "dict" ∧ ((∃ kvs, H p = some (.dK kvs)) ∨ ∃ kvs, H p = some (.dT kvs))) ∨ (T = "set" ∧ ∃ S n, H p = some (.set S n))
 | _ => False
theorem tyV_is {σ : St} {H : Hp} {s : Shared} {T : String} {x : V} {v : Value} (I : Inv X pins σ H s) (r : RelV x v) (ty : tyV X.K T x H) :
 s.TypeIs v T ∧ ∀ a, v = .ref a → ∃ ob, s.heap.get? a = some ob ∧ ob.dict = none := by
 cases x with
 | str z =>
  obtain ⟨t, rfl⟩ := r
  cases (show T = "str" from ty)
  exact ⟨typeIs_str s z t, fun _ e => nomatch e⟩
 | int i =>
  obtain ⟨t, rfl⟩ := r
  cases (show T = "int" from ty)
  exact ⟨typeIs_int s i t, fun _ e => nomatch e⟩
 | ref p =>
  cases r
  rcases ty with ⟨rfl, xs, hq⟩ | ⟨rfl, o, hk, hc, hd⟩ | ⟨rfl, hk⟩ | ⟨rfl, S, n, hk⟩
  · obtain ⟨its, _, pl, _⟩ := I.list hq
    refine ⟨pl.isList.typeIs, fun a e => ?_⟩
    cases e
    obtain ⟨o, n, e, c, hd, _⟩ := pl
    exact ⟨o, e, hd⟩
  · refine ⟨⟨o, I.kIn p o hk, hc⟩, fun a e => ?_⟩
    cases e
    exact ⟨o, I.kIn _ o hk, hd⟩
  · have z : ∃ o, s.heap.get? p = some o ∧ o.ExactDict := by
     rcases hk with ⟨kvs, hk⟩ | ⟨kvs, hk⟩
     · obtain ⟨_, _, _, _, o, _, _, e, ex, _⟩ := I.hok p _ hk
       exact ⟨o, e, ex⟩
     · obtain ⟨_, _, _, _, o, _, _, e, ex, _⟩ := I.hok p _ hk
       exact ⟨o, e, ex⟩
    obtain ⟨o, e, ex⟩ := z
    refine ⟨⟨o, e, ex.1⟩, fun a e2 => ?_⟩
    cases e2
    exact ⟨o, e, ex.2.1⟩
  · obtain ⟨o, _, _, _, e, ex, _⟩ := I.hok p _ hk
    refine ⟨⟨o, e, ex.1⟩, fun a e2 => ?_⟩
    cases e2
    exact ⟨o, e, ex.2.1⟩
 | _ => exact False.elim ty
def tBM (K : PySem.W.Frag) (T : String) (r : V → List V → Hp → VK → Prop) (to : TE) (t : TA) : TE := fun σ H Q => to σ H fun x H1 => tyV K T x H1 ∧ t σ H1 fun xs H2 => r x xs H2 Q
variable {apos cpos : Pos} {T id : String}
theorem pe_bm (pa : PlainAttrs T) (slot : Slot T name id) (hty : typeOf (.builtin id) = pure (.type "method_descriptor")) (hm : MtR X id r) (ho : PE X o to) (ha : PA X (e :: es) t)
 (hbase : attributeBase o name X.env (eval o X.env) = eval o X.env := by rfl)
 (hfew : ((backTo cpos (starEach (e :: es) X.env)).all (fun x => !x.1) && (backToKw cpos (keywordEach [] X.env)).all (fun x => x.1.isSome)
  && decide ((e :: es).length + ([] : List Keyword).length + (if ([] : List Keyword).isEmpty then 0 else 1) < 30)) = true := by rfl)
 (hline : (apos.endLine == cpos.line) = true := by rfl) (hs : starEach (e :: es) X.env = (false, eval e X.env) :: starEach es X.env := by rfl) (hplain : (backTo cpos (starEach es X.env)).any (·.1) = false := by rfl) :
 PE X (.Call (.Attribute o name apos) (e :: es) [] cpos) (tBM X.K T r to t) := by
 intro pins s σ H Q I h
 refine wpAny_Call_method_late hbase hfew hline rfl (thn (ho pins s σ H _ I h) fun v s1 ⟨x, H1, I1, r1, ty, q1⟩ => ?_)
 obtain ⟨h1, h2⟩ := tyV_is I1 r1 ty
 refine ⟨T, id, pa, slot, hty, h1, h2, ?_⟩
 have hA := ha cpos pins s1 σ H1 _ I1 q1
 rw [hs] at hA ⊢
 refine Calls.callWith_builtin (by show (false || (backTo cpos (starEach es X.env)).any (·.1)) = false; rw [hplain] <;> rfl) (Calls.evalArgs_plain ?_)
 exact thn hA fun us s2 ⟨vs, H2, I2, r2, q2⟩ => hm pins s2 σ H2 x vs v us Q I2 r1 r2 q2
end
def MtM (X : Cx) (id : String) (r : V → List V → Hp → VK → Prop) : Prop :=
 ∀ (pins : List (Addr × Obj)) (s : Shared) (σ : St) (H : Hp) (x : V) (xs : List V) (v : Value) (us : List Value) (Q : VK), Inv X pins σ H s → RelV x v → Vals xs us → r x xs H Q →
  wpAny (model X.prog X.w) X.A (call (.builtin id) (v :: us)) (EP X pins σ Q) X.xe s
theorem Vals.one : ∀ {x : V} {us : List Value}, Vals [x] us → ∃ u, us = [u] ∧ RelV x u
 | _, _, .cons r .nil => ⟨_, rfl, r⟩
theorem Vals.rep (h : Vals xs us) : ∀ k : Nat, Vals (List.replicate k xs).flatten (List.replicate k us).flatten
 | 0 => .nil
 | k + 1 => by
  exact Vals.append h (Vals.rep h k)
theorem foldl_rep (its : List Value) : ∀ (k : Nat) (acc : List Value),
 List.foldl (fun x1 x2 => x1 ++ x2) acc.toArray (List.replicate k its.toArray) = (acc ++ (List.replicate k its).flatten).toArray
 | 0, acc => by simp
 | k + 1, acc => by
  have e : acc.toArray ++ its.toArray = (acc ++ its).toArray := by simp
  have e2 : (acc ++ its) ++ (List.replicate k its).flatten = acc ++ (List.replicate (k + 1) its).flatten := by
   rw [List.replicate_succ, List.flatten_cons, List.append_assoc]
  rw [← e2, ← foldl_rep its k _, ← e, List.replicate_succ, List.foldl_cons]
section
variable {σ : St}
theorem Inv.lset {its its' : List Value} (I : Inv X pins σ H s) (hH : H l = some (.lst xs))
 (e : s.heap.get? l = some { cls := .type "list", data := .seq its.toArray n }) (hf : f its.toArray = its'.toArray) (hv : Vals ys its') (hz : ys.length ≤ sizeLine) :
 Inv X pins σ (upd H l (.lst ys)) { s with heap := s.heap.update l (Obj.mapSeq f), toks := t' } := by
 have q := PySem.IsL.update e f
 rw [hf] at q
 refine I.write (by rw [hH]; exact trivial) (.inl rfl) (fun b' u hb hu => (Heap.get?_update_other s.heap _ (Ne.symm hb)).trans hu) ⟨_, q⟩ ?_
 exact ⟨hz, its', _, hv, q⟩
theorem Inv.lnew (I : Inv X pins σ H s) (hv : Vals ys its) (hz : ys.length ≤ sizeLine) :
 Inv X pins σ (upd H s.heap.objs.size (.lst ys)) { s with heap := s.heap.push { cls := .type "list", data := .seq its.toArray }, toks := t' } :=
 I.laid (fun _ _ q => Heap.get?_push_of_some _ q) (Nat.le_refl _) ⟨hz, its, 0, hv, Heap.get?_push_size _ rfl⟩
theorem Inv.fresh (I : Inv X pins σ H s) : H s.heap.objs.size = none := I.hok.fresh (Nat.le_refl _)
theorem Inv.lstM (I : Inv X pins σ H s) (hH : H l = some (.lst xs)) : xs.length ≤ sizeLine ∧ ∃ (its : List Value) (n : Nat), Vals xs its ∧ xs.length = its.length ∧ s.heap.get? l = some { cls := .type "list", data := .seq its.toArray n } := by
 obtain ⟨z, its, n, r, e⟩ := I.hok l _ hH
 exact ⟨z, its, n, r, r.length, e⟩
theorem notLongL (h : n ≤ sizeLine) : Builtin.List.listTooLong n = false := by
 exact decide_eq_false (by omega)
end
section
def rAppend : V → List V → Hp → VK → Prop := fun x vs H Q => ∃ l xs y, x = .ref l ∧ vs = [y] ∧ H l = some (.lst xs) ∧ xs.length < sizeLine ∧ Q .non (upd H l (.lst (xs ++ [y])))
theorem mt_append : MtM X "list.append" rAppend := by
 intro pins s σ H x vs v us Q I rx rv h
 obtain ⟨l, xs, y, rfl, rfl, hH, hz, q⟩ := h
 cases rx
 obtain ⟨u, rfl, ru⟩ := rv.one
 obtain ⟨z, its, n, r, hl, e⟩ := I.lstM hH
 refine call_meets F.slot_list_append ⟨_, e, rfl⟩ F.entry_list_append (F.args_list_append_2 _ _) (PySem.list_append l its.toArray n u (by grind)) ⟨e, ?_⟩
 refine ⟨.non, _, I.lset hH e (by simp) (r.append (.cons ru .nil)) ?_, rfl, q⟩
 grind
def rCat : R2 := fun x y H Q => ∃ l b xs zs, x = .ref l ∧ y = .ref b ∧ H l = some (.lst xs) ∧ H b = some (.lst zs) ∧ xs.length + zs.length ≤ sizeLine ∧ ∀ p, H p = none → Q (.ref p) (upd H p (.lst (xs ++ zs)))
theorem op_cat : OpR X (binaryOp .Add) rCat := by
 intro pins s σ H x y v u Q I rx ry h
 obtain ⟨l, b, xs, zs, rfl, rfl, hH, hB, hz, q⟩ := h
 cases rx
 cases ry
 obtain ⟨z, its, n, r, hl, e⟩ := I.lstM hH
 obtain ⟨z2, its2, n2, r2, hl2, e2⟩ := I.lstM hB
 refine PySem.P.add_list e e2 ?_ (by simp_all)
 have ea : its.toArray ++ its2.toArray = (its ++ its2).toArray := by simp
 rw [ea]
 exact ⟨.ref _, _, I.lnew (r.append r2) (by simp_all), rfl, q _ I.fresh⟩
def rRep : R2 := fun x y H Q => ∃ l k xs, x = .ref l ∧ y = .int k ∧ H l = some (.lst xs) ∧ -(2 ^ 63) ≤ k ∧ k < 2 ^ 63 ∧ xs.length * k.toNat ≤ sizeLine ∧
 ∀ p, H p = none → Q (.ref p) (upd H p (.lst (List.replicate k.toNat xs).flatten))
theorem len_rep {α : Type} (xs : List α) (k : Nat) : (List.replicate k xs).flatten.length = k * xs.length := by simp
theorem op_rep : OpR X (binaryOp .Mult) rRep := by
 intro pins s σ H x y v u Q I rx ry h
 obtain ⟨l, k, xs, rfl, rfl, hH, h1, h2, hz, q⟩ := h
 cases rx
 obtain ⟨t, rfl⟩ := ry
 obtain ⟨z, its, n, r, hl, e⟩ := I.lstM hH
 have hlen : its.toArray.size * k.toNat ≤ sizeLine := by simp_all
 have hcap : ¬ its.toArray.size * k.toNat > (2 ^ 63 - 1) / 8 := by
  have : (sizeLine : Nat) ≤ (2 ^ 63 - 1) / 8 := by decide
  omega
 have hfit : ¬ (!Builtin.List.listFitsIndex k) = true := by
  rw [fitsIndex_both h1 h2]
  exact Bool.false_ne_true
 have hlong : ¬ Builtin.List.listTooLong (its.toArray.size * k.toNat) = true := by
  rw [notLongL hlen]
  exact Bool.false_ne_true
 have hnew : List.foldl (fun x1 x2 => x1 ++ x2) #[] (List.replicate (if its.toArray.isEmpty = true then 0 else k.toNat) its.toArray) = (List.replicate k.toNat its).flatten.toArray := by
  have f0 := fun m => by
   have := foldl_rep its m []
   rw [List.nil_append] at this
   exact this
  rw [f0]
  cases its with
  | nil => simp
  | cons a r' => rw [if_neg (by simp)]
 refine wpAny_binaryOp_repeat_ref (T := "list") (U := "int") (by decide) ⟨_, e, rfl⟩ (fun s' => typeIs_int s' k t) noFill_list_mul F.fills_int_mul F.slot_int_rmul repeat_list F.slot_int_index.lookup
  (call_meets F.slot_int_rmul (typeIs_int s k t) F.entry_int_rmul (F.args_int_rmul_2 _ _) (int___rmul___int_list k t l its.toArray n)
   ⟨e, rfl, ⟨_, e, rfl⟩, call_meets F.slot_list_mul ⟨_, e, rfl⟩ F.entry_list_mul (F.args_list_mul_2 _ _) (AutoListH.list___mul___list_int_3 l its.toArray n k t hfit hcap hlong) ⟨e, ?_⟩⟩)
 rw [hnew]
 exact ⟨.ref _, _, I.lnew (t' := s.toks) (r.rep k.toNat) (by rw [len_rep, Nat.mul_comm]; exact hz), rfl, q _ I.fresh⟩
end
end L2
namespace Att
open PySem PySem.W PySem.Calls PyProof.Rows
theorem ints_of_wellAll : ∀ (ns : List Int) (vs : List Value), WellAll P h vs (ns.map WData.int) → IntsAre vs ns := by
 intro ns
 induction ns with
 | nil =>
  intro vs w
  cases w
  exact .nil
 | cons n ns ih =>
  intro vs w
  cases w with
  | cons a b =>
   cases a
   exact .cons _ _ (ih _ b)
theorem script_of {l : OpenLaw} {n : Nat} (hn : l.most = some n) {P : Params} {h : Heap} {args : List WData} {vals : List Value}
 (hpre : l.row.toRowW.claim.pre args = true) (hwl : WellAll P h vals args) :
 ∃ a vs ns, vals = [Value.ref a] ∧ args = [WData.list (ns.map WData.int)] ∧ h.get? a = some { cls := .type "list", data := .seq vs.toArray } ∧ IntsAre vs ns ∧ ns.length ≤ n := by
 have hsh := (pre_splitW hpre).1
 have hc := (pre_splitW hpre).2
 obtain ⟨d, r, rfl, h1, h2⟩ := hasAllW_cons hsh
 obtain rfl := hasAllW_nil h2
 obtain ⟨xs, rfl, h3⟩ := hasW_list h1
 obtain ⟨ns, rfl⟩ := items_int h3
 have hlen : ns.length ≤ n := by
  have h4 := by
   have h4 := (holds_andW hc).1
   rw [hn] at h4
   exact h4
  have h5 := condW_of h4 (w_not (w_lt w_lit (w_len_list (w_arg rfl))))
  simp_all
 cases hwl with
 | cons w1 w2 =>
  cases w2
  cases w1 with
  | list ho hall => exact ⟨_, _, ns, rfl, rfl, ho, ints_of_wellAll ns _ hall, hlen⟩
theorem post_true (l : OpenLaw) (args : List WData) : l.row.toRowW.claim.post args (.bool true) args = true :=
 postW_of
  (by rfl)
  (w_eq_bool (w_res rfl) w_lit) rfl
theorem attach_call {l : OpenLaw} {n : Nat} {q : Program} {loose : List Str} {XP : (Str → Option Value) → Heap → Prop} {YP : World → Heap → Prop} {d : DefRec}
 (hn : l.most = some n) (hdf : d.params.defaults = [])
 (call : ∀ (w : World) (s₀ s₁ : Shared) (mg mb : Str → Option Value) (fa : Addr) (o : Obj) (pm cd doc : Value) (a : Addr) (vs : List Value) (ns : List Int),
  Ground q loose [] XP w s₀ mg mb s₁.heap → YP w s₁.heap →
  s₁.heap.get? fa = some o → o.data = .func (docDef d.name d.params d.body d.scope pm cd doc) → s₁.heap.CodeRec cd d.name → mg d.name = some (.ref fa) →
  s₁.heap.get? a = some { cls := .type "list", data := .seq vs.toArray } → IntsAre vs ns → ns.length ≤ n → s₁.gens = #[] →
  codeAny (model l.prog w) callerA (.call (.ref fa) ⟨[.ref a], []⟩) (fun r s' => r = .ok (.ret (.bool true)) ∧ OldK s₁.heap s'.heap ∧ s'.os = s₁.os ∧ AllBare s'.gens) s₁) :
 WalkO q loose XP YP l.row.toRowW d [] (fun f vs => PySem.call f vs) := by
 intro w s₀ s₁ mg mb G Y fa o pm cd doc dV kV ho hd hcd hD hmg hg args vals as hpre hlay hrd hwl hlo
 obtain rfl : dV = .none := Dflts.none hD hdf
 obtain rfl : kV = .none := Dflts.noKw hD
 obtain ⟨a, vs, ns, rfl, rfl, hobj, hints, hlen⟩ := script_of hn hpre hwl
 refine enter_call (codeAny_mono (call w s₀ s₁ mg mb fa o pm cd doc a vs ns G Y ho (fd_plain hd) hcd hmg hobj hints hlen hg) fun r s' hq => ?_)
 obtain ⟨rfl, h2, h3, h4⟩ := hq
 exact ⟨.inl ⟨.bool true, .bool true, [], rfl, fun _ => rfl, .bool true, post_true l _, fun _ => ⟨List.Pairwise.nil, fun _ hm => (nomatch hm)⟩⟩, h2, h3, h4⟩
end Att
namespace L2
open PySem PySem.Spec PyProof.Rows
theorem vals_ints : ∀ {vs : List Value} {ns : List Int}, IntsAre vs ns → Vals (ns.map V.int) vs
 | _, _, .nil => .nil
 | _, _, .cons n t h => .cons ⟨t, rfl⟩ (vals_ints h)
def Only (H : Hp) : Prop := ∀ b, H b = none ∨ ∃ o xs, H b = some (.frz o (.lst xs))
theorem law_call {P : Program} {w : World} {K : PySem.W.Frag} {mg mb : Str → Option Value} {CX : CXT} {k : Nat} {fa a : Addr} {fd : FuncData} {x : Str} {sp : Sp} {s₁ : Shared} {vs : List Value} {ns : List Int}
 (KX : K.In s₁.heap) (hns : s₁.heap.Ns mainGlobals mg) (hb : s₁.heap.Ns builtinsNs mb) (hbb : ∀ x : Str, x ≠ "__name__" → mb x = bootBuiltins x) (hlim : s₁.heap.NoLimit) (hg : s₁.gens = #[])
 (ha : s₁.heap.get? a = some { cls := .type "list", data := .seq vs.toArray }) (hi : IntsAre vs ns) (hl : ns.length ≤ sizeLine) (hr : Room k callerA)
 (F : ∀ base : Heap, K.In base → base.Ns mainGlobals mg → FnOk P w K mg base CX k fa fd [x] sp) (hbind : ∀ (s : Shared) (u : Value), BindsTo s fd ⟨[u], []⟩ [(x, u)])
 (hsp : ∀ H : Hp, Only H → SqL K H a (ns.map V.int) → sp [.ref a] H (fun v _ => v = .bl true) fun _ _ _ => False)
 (hCX : ∀ H e s', CX [] H s₁ (fun _ _ _ => False) e s' → False) :
 codeAny (model P w) callerA (.call (.ref fa) ⟨[.ref a], []⟩) (fun r s' => r = .ok (.ret (.bool true)) ∧ OldK s₁.heap s'.heap ∧ s'.os = s₁.os ∧ AllBare s'.gens) s₁ := by
 have rv := vals_ints hi
 have lenV := hi.length
 -- from an abstract heap in which nothing but the script may be tracked
 have core : ∀ H : Hp, Only H → SqL K H a (ns.map V.int) → HOk P w H s₁.heap → (∀ b, H b ≠ none → b = a) → (H a ≠ none → K.lookup a = none) →
  codeAny (model P w) callerA (.call (.ref fa) ⟨[.ref a], []⟩) (fun r s' => r = .ok (.ret (.bool true)) ∧ OldK s₁.heap s'.heap ∧ s'.os = s₁.os ∧ AllBare s'.gens) s₁ := by
  intro H hO hS hok hA hK
  have base_of : ∀ {b : Addr} {o : Obj}, s₁.heap.get? b = some o → H b = none → (hidT s₁.heap H).get? b = some o := fun e n => hidT_get e n
  have noA : ∀ {b : Addr} {o : Obj} {es : Array DictEntry} {ep : Nat}, s₁.heap.get? b = some o → o.data = .dict es ep → H b = none := fun {b o es ep} e d => by
   cases q : H b with
   | none => rfl
   | some u =>
    have e' : b = a := hA b (by rw [q]; simp)
    subst e'
    rw [ha] at e; cases e
    have d' : Data.seq vs.toArray _ = Data.dict es ep := d
    cases d'
  have nsK : ∀ {b : Addr} {m : Str → Option Value}, s₁.heap.Ns b m → (hidT s₁.heap H).Ns b m := fun {b m} ⟨o, es, ep, e, d, r⟩ => ⟨o, es, ep, base_of e (noA e d), d, r⟩
  have hKb : K.In (hidT s₁.heap H) := fun b o e => base_of (KX b o e) (by
   cases q : H b with
   | none => rfl
   | some u =>
    have e' : b = a := hA b (by rw [q]; simp)
    subst e'
    rw [hK (by rw [q]; simp)] at e; cases e)
  have hM : Mod K mg (hidT s₁.heap H) := ⟨hKb, nsK hns, ⟨mb, nsK hb, hbb⟩, let ⟨mc, h1, h2⟩ := hlim; ⟨mc, nsK h1, h2⟩⟩
  have e0 : Env0 P w K mg (hidT s₁.heap H) callerA [] s₁ H := ⟨rfl, hM, fun b o e => of_hidT e, Nat.le_of_eq (hidT_size _ _), trivial, fun b hb => absurd (show b ∈ ([] : List Addr) from hb) (by simp), hok, .of_eq hg⟩
  refine codeAny_mono ((F _ hKb (nsK hns)).run callerA [] s₁ H ⟨[.ref a], []⟩ [.ref a] [.ref a] _ _ hr e0 (hbind s₁ (.ref a)) (.cons rfl .nil) (hsp H hO hS)) fun r s' h => ?_
  cases r with
  | error e => exact (hCX H e s' h).elim
  | ok fl =>
   cases fl with
   | next => exact False.elim h
   | brk => exact False.elim h
   | cont => exact False.elim h
   | ret u =>
    obtain ⟨v, H', os, bare, un, hok', r', q⟩ := h
    have q' : v = .bl true := q
    subst q'
    obtain rfl : u = Value.bool true := r'
    refine ⟨rfl, OldK.of_keep fun b o e => ?_, os, bare⟩
    cases q : H b with
    | none => exact un.keep b o e q (by intro z; exact absurd (show b ∈ ([] : List Addr) from z) (by simp)) (by simp)
    | some u =>
     rcases hO b with z | ⟨ob, xs, z⟩
     · rw [q] at z; cases z
     · have z2 := un.frzs b ob _ z
       obtain ⟨e1, _⟩ := hok b _ z
       obtain ⟨e2, _⟩ := hok' b _ z2
       rw [e] at e1; cases e1
       exact e2
 cases hk : K.lookup a with
 | some o =>
  -- the script is one of the module's own objects
  have e := KX a o hk
  rw [ha] at e
  cases e
  refine core (fun _ => none) (fun _ => .inl rfl) (.inr ⟨_, vs.toArray, _, hk, rfl, rfl, rfl, by rw [List.size_toArray, lenV]; exact hl, by simpa using rv⟩) (fun b u z => by have z' : (none : Option HO) = some u := z; cases z') (fun b z => absurd rfl z) fun z => absurd rfl z
 | none =>
  refine core (fun b => if b = a then some (.frz { cls := .type "list", data := .seq vs.toArray } (.lst (ns.map V.int))) else none) (fun b => ?_) (.inl (.inr ⟨{ cls := .type "list", data := .seq vs.toArray }, if_pos rfl⟩)) (fun b u z => ?_) (fun b z => ?_) fun _ => hk
  · by_cases hb : b = a
    · exact .inr ⟨_, _, if_pos hb⟩
    · exact .inl (if_neg hb)
  · by_cases hb : b = a
    · have z' := (if_pos hb).symm.trans z
      cases z'
      subst hb
      exact ⟨ha, by rw [List.length_map]; exact hl, vs, _, rv, ha⟩
    · have z' := (if_neg hb).symm.trans z
      cases z'
  · by_cases hb : b = a
    · exact hb
    · exact absurd (if_neg hb) z
theorem walk_of {l : PySem.W.OpenLaw} {n k : Nat} {q : Program} {loose : List Str} {XP : (Str → Option Value) → Heap → Prop} {YP : World → Heap → Prop} {d : DefRec} {K : Params → PySem.W.Frag} {CX : World → CXT} {sp : World → Sp} {x : Str}
 (hn : l.most = some n) (hn2 : n ≤ sizeLine) (hdf : d.params.defaults = []) (hr : Room k callerA)
 (hY : ∀ (w : World) (h : Heap), YP w h → (K w.params).In h)
 (F : ∀ (w : World) (mg : Str → Option Value) (fa : Addr) (h : Heap), (K w.params).In h → h.Ns mainGlobals mg → mg d.name = some (.ref fa) →
  ∃ fd : FuncData, (∀ (s : Shared) (u : Value), BindsTo s fd ⟨[u], []⟩ [(x, u)]) ∧
   ∀ base : Heap, (K w.params).In base → base.Ns mainGlobals mg → FnOk l.prog w (K w.params) mg base (CX w) k fa fd [x] (sp w))
 (hsp : ∀ (w : World) (H : Hp) (a : Addr) (ns : List Int), ns.length ≤ n → Only H → SqL (K w.params) H a (ns.map V.int) → sp w [.ref a] H (fun v _ => v = .bl true) fun _ _ _ => False)
 (hCX : ∀ (w : World) (H : Hp) (s : Shared) (e : Value) (s' : Shared), CX w [] H s (fun _ _ _ => False) e s' → False) :
 PySem.W.WalkO q loose XP YP l.row.toRowW d [] (fun f vs => PySem.call f vs) := by
 refine Att.attach_call hn hdf fun w s₀ s₁ mg mb fa o pm cd doc a vs ns G Y ho hd hcd hmg hobj hints hlen hg => ?_
 have KX := hY w _ Y
 obtain ⟨fd, hb, hF⟩ := F w mg fa _ KX G.T.g hmg
 exact law_call KX G.T.g G.T.b G.T.builtins G.T.nolimit hg hobj hints (Nat.le_trans hlen hn2) hr hF hb (fun H hO hS => hsp w H a ns hlen hO hS) fun H e s' => hCX w H s₁ e s'
def defArgs (s : Stmt) : Arguments := match s with
 | .FunctionDef _ a _ _ _ _ _ _ _ _ => a
 | _ => { posonlyargs := [], args := [], vararg := none, kwonlyargs := [], kw_defaults := [], kwarg := none, defaults := [] }
def defBody (s : Stmt) : List Stmt := match s with
 | .FunctionDef _ _ b _ _ _ _ _ _ _ => b
 | _ => []
def defScope (s : Stmt) : Scope := match s with
 | .FunctionDef _ _ _ _ _ _ sc _ _ _ => sc
 | _ => { kind := .function, names := [], isGenerator := false, isCoroutine := false }
abbrev CX0 : CXT := fun _ _ _ _ _ _ => False
abbrev E0 : XK := fun _ _ _ => False
theorem pass0 : Passes CX0 X E0 := fun _ _ _ _ _ _ _ h => h.elim
structure Fun (K : PySem.W.Frag) (x qual : Str) (st : Stmt) (f : Addr) (fd : FuncData) : Prop where
 ex : ∃ (oc : Value) (od : Option Addr) (kV doc pm : Value) (an : Option Addr) (cdv ct : Value) (osl : Array (Option Value)),
  fd = PySem.W.fnOf x qual (defArgs st) (defBody st) (defScope st) .none kV doc pm an cdv ct ∧ K.lookup f = some ⟨oc, od, .func fd, osl⟩ ∧ PySem.W.codeIn K cdv qual = true
 kp : PySem.W.keepIn K (.ref f) = true
section
variable {K : PySem.W.Frag}
theorem Fun.ok {x qual : Str} {st : Stmt} {f : Addr} {fd : FuncData} {N ps : List Str} {k : Nat} {sp : Sp} (F : Fun K x qual st f fd) (S : FnScope N ps (defScope st)) (len : ∀ vs H Q E, sp vs H Q E → vs.length = ps.length)
 (hbody : ∀ (cdv : Value) (A : Around) (outer : List Env) (s : Shared) (H : Hp) (vs : List V) (Q : VK) (E : XK), Room k (A.deeper (envOfC qual (defScope st) s.heap.objs.size f cdv)) → sp vs H Q E →
  ∃ t, PSs (cxOf CX0 P w K mg base N qual (defScope st) f cdv A outer s H E).nox (defBody st) t ∧ t { nx := fun _ H' => Q .non H', rt := Q } (start N vs) H) : FnOk P w K mg base CX0 (k + 1) f fd ps sp := by
 obtain ⟨oc, od, kV, doc, pm, an, cdv, ct, osl, rfl, lk, hcd⟩ := F.ex
 refine fn_of lk hcd S len fun A outer s H vs Q E hr hsp => ?_
 obtain ⟨t, h, q⟩ := hbody cdv A outer s H vs Q E hr hsp
 exact ⟨t, h.nox, q⟩
theorem Fun.binds {x qual : Str} {st : Stmt} {f : Addr} {fd : FuncData} {ps : List Str} (F : Fun K x qual st f fd)
 (h : ∀ (kV doc pm : Value) (an : Option Addr) (cdv ct : Value) (us : List Value), us.length = ps.length → bindArgs (PySem.W.fnOf x qual (defArgs st) (defBody st) (defScope st) .none kV doc pm an cdv ct) ⟨us, []⟩ = pure (ps.zip us)) : Binds K fd ps [] := by
 obtain ⟨oc, od, kV, doc, pm, an, cdv, ct, osl, rfl, lk, hcd⟩ := F.ex
 exact .all (h kV doc pm an cdv ct)
theorem fun_mk {st : Stmt} {kV doc pm cdv ct : Value} (l : K.lookup f = some ⟨oc, od, .func (PySem.W.fnOf x qual (defArgs st) (defBody st) (defScope st) .none kV doc pm an cdv ct), osl⟩)
 (c : PySem.W.codeIn K cdv qual = true) (k : PySem.W.keepIn K (.ref f) = true) : Fun K x qual st f (PySem.W.fnOf x qual (defArgs st) (defBody st) (defScope st) .none kV doc pm an cdv ct) := ⟨⟨oc, od, kV, doc, pm, an, cdv, ct, osl, rfl, l, c⟩, k⟩
end
theorem iteF {A B : Prop} (h : B) : if false = true then A else B := by simp_all
theorem iteT {A B : Prop} (h : A) : if true = true then A else B := by simp_all
theorem ite2 {c A B : Prop} [Decidable c] (h1 : c → A) (h2 : ¬ c → B) : if c then A else B := by simp_all
def Same (H H' : Hp) : Prop := ∀ b o, H b = some o → H' b = some o
theorem Same.refl (H : Hp) : Same H H := fun _ _ h => h
theorem Same.trans (a : Same H H1) (b : Same H1 H2) : Same H H2 := fun c o h => b c o (a c o h)
section
variable {κ : Type} [DecidableEq κ]
def valV (kvs : List (κ × V)) (k : κ) : Option V := (kvs.find? fun kv => decide (kv.1 = k)).map (·.2)
def putK (kvs : List (κ × V)) (k : κ) (v : V) : List (κ × V) :=
 if (kvs.any fun kv => decide (kv.1 = k)) = true then kvs.map (fun kv => if kv.1 = k then (kv.1, v) else kv) else kvs ++ [(k, v)]
theorem valV_pos {k : κ} (e : p.1 = k) : valV (p :: r) k = some p.2 := by simp [valV, List.find?_cons, e]
theorem valV_neg {k : κ} (e : ¬ p.1 = k) : valV (p :: r) k = valV r k := by simp [valV, List.find?_cons, e]
theorem valV_any (k : κ) : ∀ kvs : List (κ × V), (kvs.any fun kv => decide (kv.1 = k)) = (valV kvs k).isSome
 | [] => rfl
 | p :: r => by
  rw [List.any_cons]
  by_cases e : p.1 = k
  · simp only [valV_pos e, decide_eq_true e, Bool.true_or, Option.isSome_some]
  · rw [valV_neg e, decide_eq_false e, Bool.false_or]; exact valV_any k r
theorem length_putK (kvs : List (κ × V)) (k : κ) (v : V) : (putK kvs k v).length ≤ kvs.length + 1 := by
 unfold putK
 grind
theorem RelO.isSome_eq (r : RelO o u) : o.isSome = u.isSome := by
 cases o with
 | none => cases u with
  | none => rfl
  | some _ => exact (r).elim
 | some _ => cases u with
  | none => exact (r).elim
  | some _ => rfl
theorem RelO.getD (r : RelO o u) (rd : RelV d d') : RelV (o.getD d) (u.getD d') := by
 cases o with
 | none => cases u with
  | none => exact rd
  | some _ => exact (r).elim
 | some _ => cases u with
  | none => exact (r).elim
  | some _ => exact r
theorem KV.val {kvs : List (κ × V)} {vs : List (κ × Value)} (r : KV kvs vs) (k : κ) : RelO (valV kvs k) (valueAt vs k) := by
 unfold KV at r
 induction r with
 | nil => exact True.intro
 | @cons p q ps qs h t ih =>
  obtain ⟨h1, h2⟩ := h
  by_cases e : p.1 = k
  · have e' : q.1 = k := h1.symm.trans e
    have b : valueAt (q :: qs) k = some q.2 := by simp [valueAt, List.find?_cons, e']
    rw [valV_pos e, b]; exact h2
  · have e' : ¬ q.1 = k := fun z => e (h1.trans z)
    have b : valueAt (q :: qs) k = valueAt qs k := by simp [valueAt, List.find?_cons, e']
    rw [valV_neg e, b]; exact ih
theorem KV.any (r : KV kvs vs) (k : κ) : (kvs.any fun kv => decide (kv.1 = k)) = vs.any fun kv => decide (kv.1 = k) := by
 induction r with
 | nil => rfl
 | cons h t ih => simp_all
theorem KV.repl (r : KV kvs vs) (k : κ) (ry : RelV y u) :
 KV (kvs.map fun kv => if kv.1 = k then (kv.1, y) else kv) (vs.map fun kv => if kv.1 = k then (kv.1, u) else kv) := by
 induction r with
 | nil => exact .nil
 | @cons p q ps qs h t ih =>
  refine .cons ?_ ih
  by_cases e : p.1 = k
  · simp_all
  simp_all
theorem KV.put (r : KV kvs vs) (k : κ) (ry : RelV y u) : KV (putK kvs k y) (stored vs k u) := by
 unfold putK stored
 rw [r.any k]
 by_cases e : (vs.any fun kv => decide (kv.1 = k)) = true
 · rw [if_pos e, if_pos e]; exact r.repl k ry
 · rw [if_neg e, if_neg e]; exact Paired.snoc r ⟨rfl, ry⟩
theorem KV.length {kvs : List (κ × V)} (r : KV kvs vs) : kvs.length = vs.length := Paired.length r
end
theorem kV_is (r : RelV (kV k) u) : (mixKind P w).is k u = true := by
 cases k with
 | inl i => obtain ⟨t, e⟩ := (r); subst e; exact mixKind_int P w i t
 | inr x => obtain ⟨t, e⟩ := (r); subst e; exact mixKind_str P w x t
theorem items_are : ∀ {ks : List Key} {us : List Value}, Vals (ks.map kV) us → ItemsAre (mixKind P w) ks us
 | [], _, r => by cases r; exact .nil
 | k :: ks, _, r => by
  cases r with
  | cons h t => exact .cons (kV_is h) (items_are t)
abbrev KT (H : Hp) : List (List Key × V) → List (List Key × Addr × Value) → Prop := Paired fun p q => p.1 = q.1 ∧ H q.2.1 = some (.tup (p.1.map kV)) ∧ RelV p.2 q.2.2
theorem KT.val (r : KT H kvs xs) (k : List Key) : RelO (valV kvs k) ((atKey xs k).map (·.2)) := by
 induction r with
 | nil => exact True.intro
 | @cons p q ps qs h t ih =>
  obtain ⟨h1, _, h2⟩ := h
  by_cases e : p.1 = k
  · have e' := h1.symm.trans e
    have b : atKey (q :: qs) k = some q.2 := by simp [atKey, List.find?_cons, e']
    rw [valV_pos e, b]; exact h2
  · have e' : ¬ q.1 = k := fun z => e (h1.trans z)
    have b : atKey (q :: qs) k = atKey qs k := by simp [atKey, List.find?_cons, e']
    rw [valV_neg e, b]; omega
theorem KT.repl (r : KT H kvs xs) (k : List Key) (ry : RelV y u) :
 KT H (kvs.map fun kv => if kv.1 = k then (kv.1, y) else kv) (xs.map (putAt k u)) := by
 induction r with
 | nil => exact .nil
 | @cons p q ps qs h t ih =>
  rw [List.map_cons, List.map_cons]
  refine .cons ?_ ih
  obtain ⟨h1, h2, h3⟩ := h
  unfold putAt
  by_cases e : p.1 = k
  · rw [if_pos e, if_pos (h1.symm.trans e)]; exact ⟨h1, h2, ry⟩
  · rw [if_neg e, if_neg (fun z => e (h1.trans z))]; simp_all
theorem KT.put (r : KT H kvs xs) (k : List Key) (hb : H b = some (.tup (k.map kV))) (ry : RelV y u) :
 KT H (putK kvs k y) (storedH xs k b u) := by
 have e : (kvs.any fun kv => decide (kv.1 = k)) = (atKey xs k).isSome := by
  rw [valV_any, (r.val k).isSome_eq, Option.isSome_map]
 unfold putK storedH
 rw [e]
 by_cases q : (atKey xs k).isSome = true
 · rw [if_pos q, if_pos q]; exact r.repl k ry
 · rw [if_neg q, if_neg q]; exact Paired.snoc r ⟨rfl, hb, ry⟩
theorem KT.keeps (r : KT H kvs xs) (ht : ∀ b ys, H b = some (.tup ys) → H' b = some (.tup ys)) : KT H' kvs xs :=
 Paired.mapP r fun _ _ z => ⟨z.1, ht _ _ z.2.1, z.2.2⟩
section
theorem rd_of (ok : HOk P w H h) (e : Rd H a u) : ObjOk P w H h a u := e.ok ok
theorem dk_rd (ok : HOk P w H h) (e : Rd H a (.dK kvs)) : kvs.length ≤ sizeLine ∧ (a == sysModules) = false ∧ ∃ vs, KV kvs vs ∧ h.DictOf (mixKind P w) a vs :=
 rd_of ok e
theorem dk_of (ok : HOk P w H h) (e : H a = some (.dK kvs)) : kvs.length ≤ sizeLine ∧ (a == sysModules) = false ∧ ∃ vs, KV kvs vs ∧ h.DictOf (mixKind P w) a vs := dk_rd ok (.inl e)
theorem key_of {ks : List Key} (ok : HOk P w H h) (e : H a = some (.tup (ks.map kV))) : (tupleKind (mixKind P w)).is h ks a := by
 obtain ⟨_, its, r, o, h1, h2, n, h3⟩ := (show ObjOk P w H h a (.tup (ks.map kV)) from ok a _ e)
 exact ⟨o, its.toArray, n, h1, h2, h3, by simpa using items_are r⟩
theorem dt_rd (ok : HOk P w H h) (e : Rd H a (.dT kvs)) : kvs.length ≤ sizeLine ∧ (a == sysModules) = false ∧
 ∃ xs, KT H kvs xs ∧ h.DictOfH (tupleKind (mixKind P w)) a xs := by
 obtain ⟨z, y, xs, r, o, es, ep, h1, h2, h3, h4, h5⟩ := (rd_of ok e)
 refine ⟨z, y, xs, r, o, es, ep, h1, h2, h3, h4, fun x hx => ?_, h5⟩
 have all : ∀ {l : List _} {m : List _}, KT H l m → ∀ x ∈ m, (tupleKind (mixKind P w)).is h x.1 x.2.1 := by
  intro l m q
  induction q with
  | nil => simp
  | @cons p q ps qs hq t ih =>
   intro x hx
   rcases List.mem_cons.mp hx with e | hx
   · subst e
     exact key_of ok (by grind)
   · exact ih x hx
 exact all r x hx
theorem dt_of (ok : HOk P w H h) (e : H a = some (.dT kvs)) : kvs.length ≤ sizeLine ∧ (a == sysModules) = false ∧
 ∃ xs, KT H kvs xs ∧ h.DictOfH (tupleKind (mixKind P w)) a xs := dt_rd ok (.inl e)
end
def DGet (H : Hp) (a : Addr) (y : V) (r : Option V) : Prop :=
 (∃ kvs k, Rd H a (.dK kvs) ∧ y = kV k ∧ r = valV kvs k) ∨ ∃ kvs k b, Rd H a (.dT kvs) ∧ y = .ref b ∧ H b = some (.tup (k.map kV)) ∧ r = valV kvs k
def DPut (H : Hp) (a : Addr) (y v : V) (H' : Hp) : Prop :=
 (∃ kvs k, H a = some (.dK kvs) ∧ y = kV k ∧ kvs.length < sizeLine ∧ H' = upd H a (.dK (putK kvs k v))) ∨
 ∃ kvs k b, H a = some (.dT kvs) ∧ y = .ref b ∧ H b = some (.tup (k.map kV)) ∧ kvs.length < sizeLine ∧ H' = upd H a (.dT (putK kvs k v))
theorem DGet.k {k : Key} (e : H a = some (.dK kvs)) : DGet H a (kV k) (valV kvs k) := .inl ⟨kvs, k, .inl e, rfl, rfl⟩
theorem DGet.t {k : List Key} (e : H a = some (.dT kvs)) (eb : H b = some (.tup (k.map kV))) : DGet H a (.ref b) (valV kvs k) := .inr ⟨kvs, k, b, .inl e, rfl, eb, rfl⟩
theorem DPut.k {k : Key} (e : H a = some (.dK kvs)) (hl : kvs.length < sizeLine) : DPut H a (kV k) v (upd H a (.dK (putK kvs k v))) := .inl ⟨kvs, k, e, rfl, hl, rfl⟩
theorem DPut.t {k : List Key} (e : H a = some (.dT kvs)) (eb : H b = some (.tup (k.map kV))) (hl : kvs.length < sizeLine) :
 DPut H a (.ref b) v (upd H a (.dT (putK kvs k v))) := .inr ⟨kvs, k, b, e, rfl, eb, hl, rfl⟩
section
variable {σ : St}
theorem Inv.big (I : Inv X pins σ H s) : sysModules < s.heap.objs.size := by
 have h := (I.mod.glob.keeps I.bk).lt
 exact Nat.lt_trans (by decide) h
theorem d_getItem {Q : Value → Shared → Prop} (hu : A.units + 1 < cLine) (I : Inv X pins σ H s) (g : DGet H a y (some v)) (ry : RelV y u) (h : ∀ w' s', Inv X pins σ H s' → RelV v w' → Q w' s') :
 wpAny (model X.prog X.w) A (getItem (.ref a) u) Q E s := by
 rcases g with ⟨kvs, k, e, ey, l⟩ | ⟨kvs, k, b, e, ey, eb, l⟩
 · subst ey
   obtain ⟨z, hd, vs, rel, dd⟩ := dk_rd I.hok e
   obtain ⟨w', hw, rw'⟩ := RelO.some_of (v := v) (o := valueAt vs k) (by rw [l]; exact rel.val k)
   exact wpAny_getItem_of (kV_is ry) dd.mapOf hw (h w' _ (I.tok _) rw')
 · subst ey
   cases (show u = Value.ref b from ry)
   obtain ⟨z, hd, xs, rel, dd⟩ := dt_rd I.hok e
   obtain ⟨w', hw, rw'⟩ := RelO.some_of (v := v) (o := (atKey xs k).map (·.2)) (by rw [l]; exact rel.val k)
   obtain ⟨p, hp, hp2⟩ := Option.map_eq_some_iff.mp hw
   refine wpAny_getItem_heap (tupleKind_room_in1 hu) (key_of I.hok eb) dd hp ?_
   rw [hp2]
   exact h w' _ (I.tok _) rw'
theorem d_write {h' : Heap} {t' : Nat} {ob : HO} (I : Inv X pins σ H s) (mu : Mut (H a)) (hs : Heap.SameBut a s.heap h') (he : ∃ q, h'.get? a = some q) (new : ObjOk X.prog X.w (upd H a ob) h' a ob) :
 Inv X pins σ (upd H a ob) { s with heap := h', toks := t' } :=
 I.write (x := a) (e := a) mu (.inl rfl) (fun b q hb z => (hs.2 b hb).trans z) he new
theorem dk_new (z : kvs.length ≤ sizeLine) (hd : (a == sysModules) = false) (rel : KV kvs vs) (dd : h'.DictOf (mixKind P w) a vs) :
 ObjOk P w H' h' a (.dK kvs) := ⟨z, hd, vs, rel, dd⟩
theorem d_setItem {H' : Hp} {Q : Unit → Shared → Prop} (hu : A.units + 1 < cLine) (I : Inv X pins σ H s) (g : DPut H a y v H') (ry : RelV y u) (rv : RelV v r) (h : ∀ s', Inv X pins σ H' s' → Q () s') :
 wpAny (model X.prog X.w) A (setItem (.ref a) u r) Q E s := by
 rcases g with ⟨kvs, k, e, ey, l, eH⟩ | ⟨kvs, k, b, e, ey, eb, l, eH⟩
 · subst ey eH
   obtain ⟨z, hd, vs, rel, dd⟩ := dk_of I.hok e
   have hz : vs.length ≤ sizeLine := by rw [← rel.length]; exact z
   have hl : (putK kvs k v).length ≤ sizeLine := by have := length_putK kvs k v; omega
   refine wpAny_setItem_pairs (hsz := hz) (kV_is ry) dd fun h' dd' hs => h _ ?_
   have he : ∃ q, h'.get? a = some q := let ⟨q, _, _, hq, _⟩ := dd'; ⟨q, hq⟩
   exact d_write I (by rw [e]; exact True.intro) hs he (dk_new hl hd (rel.put k rv) dd')
 · subst ey eH
   cases (show u = Value.ref b from ry)
   obtain ⟨z, hd, xs, rel, dd⟩ := dt_of I.hok e
   have hz : xs.length ≤ sizeLine := by rw [← Paired.length rel]; exact z
   have hl : (putK kvs k v).length ≤ sizeLine := by have := length_putK kvs k v; omega
   refine wpAny_setItem_heap (hsz := hz) (tupleKind_room_in1 hu) (key_of I.hok eb) dd fun h' dd' hs => h _ ?_
   obtain ⟨q, es, ep, hq, h2, h3, h4, _, h5⟩ := dd'
   refine d_write I (by rw [e]; exact True.intro) hs ⟨q, hq⟩ ⟨hl, hd, _, (rel.put k eb rv).keeps fun c ys ec => ?_, q, es, ep, hq, h2, h3, h4, h5⟩
   rw [upd_ne (ne_of ec e (fun z => nomatch z))]
   exact ec
end
def NoSl (i : Expr) : Prop := ∀ ov iv, subscripted i false ov iv = operate [ov, iv] (getItem ov iv)
theorem subD_of {w : World} {A : Around} {s : Shared} {env : Env} {pos : Pos} {T id : String}
 (hl : typeLookup (.type T) "__getitem__" = pure (some (.builtin id))) (hs : NoSl slice)
 (h : wpAny (model prog w) A (eval value env) (fun o s₁ => wpAny (model prog w) A (eval slice env) (fun i s₂ => s₂.TypeIs o T ∧ wpAny (model prog w) A (getItem o i) Q E s₂) E s₁) E s) :
 wpAny (model prog w) A (eval (.Subscript value slice pos) env) Q E s := by
 refine Subscript_ (wpAny_mono h (fun o s₁ h₁ => wpAny_mono h₁ (fun i s₂ h₂ => ?_) fun _ _ x => x) fun _ _ x => x)
 obtain ⟨hT, h₂⟩ := h₂
 refine wpAny_bind ?_
 refine wpAny_bind (wpAny_specialOf hT hl ?_)
 have fin : wpAny (model prog w) A (subscripted slice false o i) (fun r s₃ => wpAny (model prog w) A (letTemporaryGo value o r >>= fun _ => pure r) Q E s₃) E s₂ := by
  rw [hs o i]
  exact wpAny_operating (wpAny_mono h₂ (fun r s₃ h₃ => wpAny_bind (wpAny_letTemporaryGo (wpAny_pure h₃))) fun _ _ x => x)
 first
  | exact wpAny_pure (wpAny_bind fin)
  | rfl
  | exact wpAny_bind fin
theorem dict_typeIs {σ : St} (I : Inv X pins σ H s) (g : DGet H a y o) : s.TypeIs (.ref a) "dict" := by
 rcases g with ⟨kvs, k, e, _, _⟩ | ⟨kvs, k, b, e, _, _, _⟩
 · obtain ⟨_, _, vs, _, dd⟩ := dk_rd I.hok e
   exact dd.typeIs
 · obtain ⟨_, _, xs, _, dd⟩ := dt_rd I.hok e
   exact dd.typeIs
def tDGet (td ty : TE) : TE := fun σ H Q => td σ H fun x H1 => ty σ H1 fun y H2 => ∃ a v, x = .ref a ∧ DGet H2 a y (some v) ∧ Q v H2
def sDPut (td ty tv : TE) : TS := fun D σ H => tv σ H fun v H1 => td σ H1 fun x H2 => ty σ H2 fun y H3 => ∃ a H4, x = .ref a ∧ DPut H3 a y v H4 ∧ D.nx σ H4
section
theorem pe_dget (hu : X.A.units + 1 < cLine) (ho : PE X o td) (hi : PE X i ty) (hs : NoSl i) : PE X (.Subscript o i pos) (tDGet td ty) := by
 intro pins s σ H Q I h
 refine subD_of PySem.F.slot_dict_getitem.lookup hs (thn (ho pins s σ H _ I h) fun u s1 ⟨x, H1, I1, rx, q1⟩ => thn (hi pins s1 σ H1 _ I1 q1) fun iv s2 ⟨y, H2, I2, ry, a, v, ex, g, q2⟩ => ?_)
 subst ex
 obtain rfl : u = Value.ref a := rx
 exact ⟨dict_typeIs I2 g, d_getItem hu I2 g ry fun w' s3 I3 rw' => ⟨v, H2, I3, rw', q2⟩⟩
theorem ps_dput (hu : X.A.units + 1 < cLine) (ho : PE X o td) (hi : PE X i ty) (hv : PE X value tv) (hs : swapsWith value (some (.Subscript o i pos')) pos.line X.env = pure false) :
 PS X (.Assign [.Subscript o i pos'] value pos) (sDPut td ty tv) := by
 intro pins s σ H D I h
 refine wpAny_Assign_Subscript (thn (hv pins s σ H _ I h) fun r s1 ⟨v, H1, I1, rv, q1⟩ => thn (ho pins s1 σ H1 _ I1 q1) fun u s2 ⟨x, H2, I2, rx, q2⟩ => thn (hi pins s2 σ H2 _ I2 q2) fun iv s3 ⟨y, H3, I3, ry, a, H4, ex, g, q3⟩ => ?_) hs
 subst ex
 obtain rfl : u = Value.ref a := rx
 exact d_setItem hu I3 g ry rv fun s4 I4 => ⟨σ, H4, I4, q3⟩
end
theorem dk_empty (h : Heap) (hb : sysModules < h.objs.size) : ObjOk P w H (h.push { cls := .type "dict", data := .dict #[] }) h.objs.size (.dK []) :=
 ⟨Nat.zero_le _, beq_eq_false_iff_ne.mpr (Ne.symm (Nat.ne_of_lt hb)), [], .nil, Heap.DictOf.new h⟩
def tDNewK : TE := fun _ H Q => ∀ p, H p = none → Q (.ref p) (upd H p (.dK []))
section
theorem pe_dnewK : PE X (.Dict [] [] pos) tDNewK := fun pins s σ H Q I h =>
 wpAny_Dict_empty ⟨.ref s.heap.objs.size, _, I.laid (fun _ _ q => Heap.get?_push_of_some _ q) (Nat.le_refl _) (dk_empty s.heap I.big), rfl, h _ (I.hok.fresh (Nat.le_refl _))⟩
end
structure M2 (X : Cx) (o : Expr) (m : Str) (apos : Pos) (e f : Expr) (cpos : Pos) : Prop where
 base : attributeBase o m X.env (eval o X.env) = eval o X.env
 few : ((backTo cpos (starEach [e, f] X.env)).all (fun x => !x.1) && (backToKw cpos (keywordEach [] X.env)).all (fun x => x.1.isSome)
  && decide (([e, f] : List Expr).length + ([] : List Keyword).length + (if ([] : List Keyword).isEmpty then 0 else 1) < 30)) = true
 line : (apos.endLine == cpos.line) = true
 trees : backTo cpos (starEach [e, f] X.env) = [(false, eval e X.env), (false, eval f X.env)]
def IsD (H : Hp) (a : Addr) : Prop := (∃ kvs, Rd H a (.dK kvs)) ∨ ∃ kvs, Rd H a (.dT kvs)
theorem isD_at {σ : St} (I : Inv X pins σ H s) (d : IsD H a) :
 s.TypeIs (.ref a) "dict" ∧ (∀ b, Value.ref a = .ref b → ∃ ob, s.heap.get? b = some ob ∧ ob.dict = none) ∧ (a == sysModules) = false := by
 rcases d with ⟨kvs, e⟩ | ⟨kvs, e⟩
 · obtain ⟨_, hd, vs, _, dd⟩ := dk_rd I.hok e
   refine ⟨dd.typeIs, fun b q => ?_, hd⟩
   cases q
   obtain ⟨ob, _, _, h1, h2, _⟩ := dd
   exact ⟨ob, h1, h2.2.1⟩
 · obtain ⟨_, hd, xs, _, dd⟩ := dt_rd I.hok e
   refine ⟨dd.typeIs, fun b q => ?_, hd⟩
   cases q
   obtain ⟨ob, _, _, h1, h2, _⟩ := dd
   exact ⟨ob, h1, h2.2.1⟩
section
variable {σ : St}
theorem d_get2 {Q : Value → Shared → Prop} (hu : A.units + 1 < cLine) (I : Inv X pins σ H s) (g : DGet H a y o) (ry : RelV y u) (rd : RelV d r) (h : ∀ w' s', Inv X pins σ H s' → RelV (o.getD d) w' → Q w' s') :
 wpAny (model X.prog X.w) A (call (.builtin "dict.get") [.ref a, u, r]) Q E s := by
 rcases g with ⟨kvs, k, e, ey, l⟩ | ⟨kvs, k, b, e, ey, eb, l⟩
 · subst ey
   obtain ⟨z, hd, vs, rel, dd⟩ := dk_rd I.hok e
   refine call_meetsIn PySem.F.slot_dict_get dd.typeIs PySem.F.entry_dict_get (PySem.F.args_dict_get_3 _ _ _) (meets_dict_get_default (mixKind X.prog X.w) a (kV_is ry) hd r) ⟨_, dd.mapOf, h _ _ (I.tok _) ?_⟩
   rw [l]
   exact (rel.val k).getD rd
 · subst ey
   cases (show u = Value.ref b from ry)
   obtain ⟨z, hd, xs, rel, dd⟩ := dt_rd I.hok e
   refine call_meetsIn PySem.F.slot_dict_get dd.typeIs PySem.F.entry_dict_get (PySem.F.args_dict_get_3 _ _ _) (meetsH_dict_get_default (tupleKind (mixKind X.prog X.w)) a b hd r) ⟨tupleKind_room_in1 hu, k, xs, key_of I.hok eb, dd, h _ _ (I.tok _) ?_⟩
   rw [l]
   exact (rel.val k).getD rd
end
def tDGet2 (td ty tx : TE) : TE := fun σ H Q => td σ H fun x H1 => ∃ a, x = .ref a ∧ IsD H1 a ∧ ty σ H1 fun y H2 => tx σ H2 fun z H3 => ∃ o, DGet H3 a y o ∧ Q (o.getD z) H3
section
theorem pe_dget2 (hu : X.A.units + 1 < cLine) (ho : PE X o td) (he : PE X e ty) (hf : PE X f tx) (m : M2 X o "get" apos e f cpos) : PE X (.Call (.Attribute o "get" apos) [e, f] [] cpos) (tDGet2 td ty tx) := by
 intro pins s σ H Q I h
 refine wpAny_Call_method m.base m.few m.line PySem.F.plainAttrs_dict PySem.F.slot_dict_get PySem.F.type_dict_get (thn (ho pins s σ H _ I h) fun u s1 ⟨x, H1, I1, rx, a, ex, d, q1⟩ => ?_)
 subst ex
 obtain rfl : u = Value.ref a := rx
 obtain ⟨t1, t2, _⟩ := isD_at I1 d
 refine ⟨t1, t2, ?_⟩
 rw [m.trees]
 refine Calls.callWith_builtin rfl (Calls.evalArgs_plain (Calls.spliced_cons (thn (he pins s1 σ H1 _ I1 q1) fun iv s2 ⟨y, H2, I2, ry, q2⟩ =>
  Calls.spliced_cons (thn (hf pins s2 σ H2 _ I2 q2) fun fv s3 ⟨z, H3, I3, rz, ov, g, q3⟩ => Calls.spliced_nil ?_))))
 exact d_get2 hu I3 g ry rz fun w' s4 I4 rw' => ⟨_, H3, I4, rw', q3⟩
end
end L2
set_option maxHeartbeats 4000000
namespace Br
open PySem PySem.Spec PyProof.Rows L2
structure Callee (CX : CXT) (P : Program) (w : World) (K : PySem.W.Frag) (mg : Str → Option Value) (base : Heap) (x : Str) (k : Nat) (ps : List Str) (sp : Sp) : Prop where
 ex : ∃ f fd, FnOk P w K mg base CX k f fd ps sp ∧ mg x = some (.ref f) ∧ PySem.W.keepIn K (.ref f) = true ∧ Binds K fd ps []
section
variable {p pos : Pos}
theorem pe_callS (c : Callee CX0 X.prog X.w X.K X.mg X.base x k ps sp) (hr : Room k X.A) (hg : Gl X x) (ha : PA X (e :: es) t) (hdb : (x == ("__debug__" : Str)) = false := by decide)
 (he : starEach (e :: es) X.env = (false, eval e X.env) :: starEach es X.env := by rfl) (hpl : (backTo pos (starEach es X.env)).any (·.1) = false := by rfl) :
 PE X (.Call (.Name x p) (e :: es) [] pos) (tCall sp [] E0 t) := by
 obtain ⟨f, fd, F, hm, hk, hb⟩ := c.ex
 exact pe_call F hr hg hm hk hb .nil pass0 ha hdb he hpl
end
section
def CDivB (i j : Int) : Prop := 0 < j ∧ j < 2 ^ 8000
theorem log2_of {y : Int} (h0 : 0 < y) (h1 : y < 2 ^ 8000) : y.natAbs.log2 < 9000 := by
 have h : y.natAbs < 2 ^ 8000 := by omega
 have h2 := (Nat.log2_lt (by omega)).mpr h
 omega
theorem op_fdivB : OpR X (binaryOp .FloorDiv) (rI CDivB fun i j => .int (i / j)) := opI fun i j _ _ _ _ _ hc q => by
 have e : i / j = i.fdiv j := (Int.fdiv_eq_ediv_of_nonneg _ (Int.le_of_lt hc.1)).symm
 rw [e] at q
 exact floordiv_int (Int.ne_of_gt hc.1) q (.inl (PyProof.noPylong_of_log2 (log2_of hc.1 hc.2)))
def CMulB (i j : Int) : Prop := i.natAbs < 2 ^ 8000 ∧ j.natAbs < 2 ^ 8000
theorem bits_of (h : i.natAbs < 2 ^ 8000) : Builtin.Int.intBits i ≤ 2 ^ 20 := Nat.le_trans (intBits_le h) (by decide)
end
inductive At : List Str → Nat → Str → Prop where
 | here {x : Str} {l : List Str} : At (x :: l) 0 x
 | there {x y : Str} {l : List Str} {i : Nat} : At l i x → At (y :: l) (i + 1) x
theorem At.get : ∀ {l : List Str} {i : Nat} {x : Str}, At l i x → l[i]? = some x
 | _, _, _, .here => rfl
 | _, _, _, .there h => by simpa using h.get
section
variable {x : Str}
theorem r_name (h : At X.N i x) (hk : X.env.scope.names.lookup x = some .local) (hd : (x == ("__debug__" : Str)) = false) (hcd : (x == ("__classdict__" : Str)) = false) : PE X (.Name x pos) (tVar i) := pe_var h.get (.inl hk) hd hcd
theorem r_bin (ho : OpR X (binaryOp op) r) (ha : PE X a ta) (hb : PE X b tb) : PE X (.BinOp a op b pos) (tOp r ta tb) := pe_op ho ha hb
theorem r_cmp (h1 : op ≠ .In) (h2 : op ≠ .NotIn) (ho : OpR X (compareOp op) r) (ha : PE X a ta) (hb : PE X b tb) : PE X (.Compare a [op] [b] pos) (tOp r ta tb) := pe_cmpR ho ha hb (nomark _ h1 h2)
theorem t_cmp (h1 : op ≠ .In) (h2 : op ≠ .NotIn) (ho : OpR X (compareOp op) r) (ha : PE X a ta) (hb : PE X b tb) : PT X (.Compare a [op] [b] pos) (tTest (tOp r ta tb)) := pt_cmpR ho ha hb (nomark _ h1 h2)
theorem r_neg (ha : PE X a ta) : PE X (.UnaryOp .USub a pos) (tUn (rU fun i => .int (-i)) ta) := pe_un un_neg ha
theorem t_call (h : PE X (.Call f es ks pos) te) : PT X (.Call f es ks pos) (tB te) := pt_val h (fun _ => rfl)
theorem r_ix (hs : PlainIx b) (ha : PE X a ta) (hb : PE X b tb) : PE X (.Subscript a b pos) (tOp (rIx X.K) ta tb) := pe_ix ix_seq ha hb hs
theorem r_acons (hs : starEach (e :: es) X.env = (false, eval e X.env) :: starEach es X.env) (ha : PE X e te) (hr : PA X es t) : PA X (e :: es) (tCons te t) := pa_cons ha hr hs
theorem r_call (c : Callee CX0 X.prog X.w X.K X.mg X.base x k ps sp) (hr : Room k X.A) (hg : Gl X x) (hdb : (x == ("__debug__" : Str)) = false)
 (he : starEach (e :: es) X.env = (false, eval e X.env) :: starEach es X.env) (hpl : (backTo pos (starEach es X.env)).any (·.1) = false) (ha : PA X (e :: es) t) : PE X (.Call (.Name x p) (e :: es) [] pos) (tCall sp [] E0 t) := pe_callS c hr hg ha hdb he hpl
def rLen (K : PySem.W.Frag) : List V → Hp → VK → Prop := fun xs H Q => (∃ p ys, xs = [.ref p] ∧ (SqL K H p ys ∨ SqT K H p ys) ∧ Q (.int ys.length) H) ∨ ∃ z, xs = [.str z] ∧ z.length ≤ sizeLine ∧ Q (.int z.length) H
theorem call_lenA : CallR X (.builtin "len") (rLen X.K) := by
 intro pins s σ H xs us Q I r h
 rcases h with h | h
 · exact call_len_seq pins s σ H xs us Q I r h
 · exact call_len_str pins s σ H xs us Q I r h
section
variable (hg : Gl X x) (he : starEach (e :: es) X.env = (false, eval e X.env) :: starEach es X.env) (hpl : (backTo pos (starEach es X.env)).any (·.1) = false)
include hg he hpl
theorem r_len (hx : x = "len") (hm : X.mg x = none) (ha : PA X (e :: es) t) : PE X (.Call (.Name x p) (e :: es) [] pos) (tCB (rLen X.K) t) := by subst hx; exact pe_callB call_lenA hg hm PySem.boot_len ha (by decide) (by decide) he hpl
theorem r_max (hx : x = "max") (hc : X.calm = true) (hm : X.mg x = none) (ha : PA X (e :: es) t) : PE X (.Call (.Name x p) (e :: es) [] pos) (tCB (fun xs H Q => ∃ i j, xs = [.int i, .int j] ∧ Q (.int (if j > i then j else i)) H) t) := by subst hx; exact pe_callB (call_max2 hc) hg hm boot_max ha (by decide) (by decide) he hpl
theorem r_min (hx : x = "min") (hc : X.calm = true) (hm : X.mg x = none) (ha : PA X (e :: es) t) : PE X (.Call (.Name x p) (e :: es) [] pos) (tCB (fun xs H Q => ∃ i j, xs = [.int i, .int j] ∧ Q (.int (if j < i then j else i)) H) t) := by subst hx; exact pe_callB (call_min2 hc) hg hm boot_min ha (by decide) (by decide) he hpl
theorem r_intc (hx : x = "int") (hm : X.mg x = none) (ha : PA X (e :: es) t) : PE X (.Call (.Name x p) (e :: es) [] pos) (tCB (fun xs H Q => (∃ i, xs = [.int i] ∧ Q (.int i) H) ∨ ∃ k, xs = [.bl k] ∧ Q (.int (if k then 1 else 0)) H) t) := by subst hx; exact pe_callTy call_int1 hg hm PyProof.Rows.boot_int ha (by decide) (by decide) he hpl
end
theorem r_ret (he : PE X e te) : PS X (.Return (some e) pos) (tRet te) := ps_ret he
theorem r_set (h : At X.N i x) (hN : X.N.Nodup) (hk : X.env.scope.names.lookup x = some .local) (hs : swapsWith e (some (.Name x p)) pos.line X.env = pure false) (he : PE X e te) : PS X (.Assign [.Name x p] e pos) (tAsg te (gName i)) :=
 ps_set hN h.get (.inl hk) he hs (.inr hk)
theorem r_expr (hs : swapsWith e none pos.line X.env = pure false) (he : PE X e te) : PS X (.Expr e pos) (tDrop te) := ps_expr he hs
theorem r_for {tb : TS} (hp : PassesOwn (model X.prog X.w) X.A X.env X.xe) (hc : X.calm = true) (hs : ∀ x, foldedSetIterable iter X.env x = pure x) (hi : PI X tg iter wi) (hg : PG X tg g) (hb : PSs X body tb) : PS X (.For tg iter body [] pos) (tFor wi g tb) := ps_for hp hc hi hg hb hs
theorem r_gname (h : At X.N i x) (hN : X.N.Nodup) (hk : X.env.scope.names.lookup x = some .local) : PG X (.Name x pos) (gName i) := pg_name hN h.get (.inl hk) (.inr hk)
theorem r_irange1 (hx : x = "range") (hg : Gl X x) (hm : X.mg x = none) (hs : starEach [a] X.env = [(false, eval a X.env)]) (ha : PA X [a] t) : PI X tg (.Call (.Name x p) [a] [] pos) (iRng1 t) := by subst hx; exact pi_range1 hg hm ha hs
theorem r_append (hbase : attributeBase o "append" X.env (eval o X.env) = eval o X.env) (hfew : ((backTo cpos (starEach [e] X.env)).all (fun x => !x.1) && (backToKw cpos (keywordEach [] X.env)).all (fun x => x.1.isSome)
 && decide (([e] : List Expr).length + ([] : List Keyword).length + (if ([] : List Keyword).isEmpty then 0 else 1) < 30)) = true) (hline : (apos.endLine == cpos.line) = true) (hs : starEach [e] X.env = (false, eval e X.env) :: starEach [] X.env)
 (hpl : (backTo cpos (starEach [] X.env)).any (·.1) = false) (ho : PE X o to) (ha : PA X [e] t) : PE X (.Call (.Attribute o "append" apos) [e] [] cpos) (tBM X.K "list" rAppend to t) :=
 pe_bm PySem.F.plainAttrs_list PySem.F.slot_list_append PySem.F.type_list_append mt_append ho ha hbase hfew hline hs hpl
end
def tMid (t : TS) : TS := fun D σ H => ∃ M : L2.St → Hp → Prop, t { D with nx := M } σ H ∧ ∀ σ' H', M σ' H' → D.nx σ' H'
theorem ps_mid {st : Stmt} (h : PS X st t) : PS X st (tMid t) := by
 intro pins s σ H D I hq
 obtain ⟨M, h1, h2⟩ := hq
 refine thn (h pins s σ H { D with nx := M } I h1) fun f s1 q => ?_
 cases f with
 | next =>
  obtain ⟨σ', H', I', q⟩ := q
  exact ⟨σ', H', I', h2 _ _ q⟩
 | ret v => exact q
 | brk => exact q
 | cont => exact q
theorem r_ifM (hc : PT X c tA) (ha : PSs X aa t1) (hb : PSs X bb t2) : PS X (.If c aa bb pos) (tMid (tIfS tA t1 t2)) := ps_mid (ps_if hc ha hb)
theorem atI_ints {zs : List Int} {i : Int} (h0 : 0 ≤ i) (h1 : i < zs.length) : ∃ z, z ∈ zs ∧ zs[i.toNat]? = some z ∧ atI (zs.map V.int) i = some (V.int z) := by
 have e1 : (zs.map V.int)[i.toNat]? = some (V.int zs[i.toNat]) := by simp
 have e2 := atI_nat e1
 rw [Int.toNat_of_nonneg h0] at e2
 simp_all
theorem Same.upd (h : H p = none) : L2.Same H (upd H p o) := fun b u e => by rw [upd_ne (ne_of_none e h)]; omega
theorem lenLe {xs : List V} (h : xs.length = n) (h2 : n ≤ 1000) : xs.length ≤ sizeLine := by rw [h]; exact Nat.le_trans h2 (by decide)
theorem lt250 (h : n < 2 ^ 250) : n < 2 ^ 8000 := Nat.lt_of_lt_of_le h (Nat.pow_le_pow_right (by decide) (by decide))
theorem ilt250 {n : Int} (h : n < 2 ^ 250) : n < 2 ^ 8000 := by
 exact Int.lt_of_lt_of_le h (Int.ofNat_le.mpr (Nat.pow_le_pow_right (by decide) (by decide)))
theorem mulB (h1 : i.natAbs < 2 ^ 250) (h2 : j.natAbs < 2 ^ 250) : CMulB i j := ⟨lt250 h1, lt250 h2⟩
theorem divB (h1 : 0 < j) (h2 : j < 2 ^ 250) : CDivB i j := ⟨h1, ilt250 h2⟩
section
theorem r_unpack2 (hi : At X.N i x) (hj : At X.N j y) (hc : X.calm = true) (hN : X.N.Nodup) (hx : X.env.scope.names.lookup x = some .local) (hy : X.env.scope.names.lookup y = some .local)
 (h1 : (assignEach [.Name x px, .Name y py] X.env).map (·.2) = assign (.Name x px) X.env :: (assignEach [.Name y py] X.env).map (·.2))
 (h2 : (assignEach [.Name y py] X.env).map (·.2) = assign (.Name y py) X.env :: (assignEach [] X.env).map (·.2))
 (hn : (assignEach [.Name x px, .Name y py] X.env).length = 2) (hst : (assignEach [.Name x px, .Name y py] X.env).findIdx? (·.1) = none)
 (hs : swapsWithSole [.Tuple [.Name x px, .Name y py] kt pt] e pos.line X.env = pure false) (hw : swappedStores [.Tuple [.Name x px, .Name y py] kt pt] e X.env = pure none)
 (h3 : (assignEach [.Tuple [.Name x px, .Name y py] kt pt] X.env).map (·.2) = [assign (.Tuple [.Name x px, .Name y py] kt pt) X.env]) (he : PE X e te) :
 PS X (.Assign [.Tuple [.Name x px, .Name y py] kt pt] e pos) (tAsg te (gTup X.K 2 (gCons (gName i) (gCons (gName j) gNil)))) :=
 ps_asg he (pg_tup hc (pgs_cons (pg_name hN hi.get (.inl hx) (.inr hx)) (pgs_cons (pg_name hN hj.get (.inl hy) (.inr hy)) pgs_nil h2) h1) hn hst) hs hw h3
def tTupS (t : TA) : TE := fun σ H Q => t σ H fun xs H1 => xs.length ≤ sizeLine ∧ ∀ p H2, H1 p = none → L2.Same H1 H2 → H2 p = some (.tup xs) → Q (.ref p) H2
def tLstS (t : TA) : TE := fun σ H Q => t σ H fun xs H1 => xs.length ≤ sizeLine ∧ ∀ p H2, H1 p = none → L2.Same H1 H2 → H2 p = some (.lst xs) → Q (.ref p) H2
def rCatS : R2 := fun x y H Q => ∃ l b xs zs, x = .ref l ∧ y = .ref b ∧ H l = some (.lst xs) ∧ H b = some (.lst zs) ∧ xs.length + zs.length ≤ sizeLine ∧ ∀ p H2, H p = none → L2.Same H H2 → H2 p = some (.lst (xs ++ zs)) → Q (.ref p) H2
def tDNewS : TE := fun _ H Q => ∀ p H2, H p = none → L2.Same H H2 → H2 p = some (.dK []) → Q (.ref p) H2
theorem r_tupS (h : PA X es t) : PE X (.Tuple es k pos) (tTupS t) := fun pins s σ H Q I q => wpAny_Tuple_spliced (thn (h pos pins s σ H _ I q) fun us s1 ⟨xs, H1, I1, r, z, q⟩ => ⟨by rw [← r.length]; omega, by
 have hf := I1.hok.fresh (Nat.le_refl _)
 refine ⟨.ref s1.heap.objs.size, upd H1 s1.heap.objs.size _, I1.laid (fun b u e => Heap.get?_push_of_some _ e) (Nat.le_refl _) ?_, rfl, q _ _ hf (Br.Same.upd hf) upd_same⟩
 exact ⟨z, us, r, ⟨_, Heap.get?_push_size _ rfl, rfl, _, rfl⟩⟩⟩)
theorem r_lstS (h : PA X es t) : PE X (.List es pos) (tLstS t) := fun pins s σ H Q I q => wpAny_List_spliced (thn (h pos pins s σ H _ I q) fun us s1 ⟨xs, H1, I1, r, z, q⟩ => ⟨by rw [← r.length]; omega, by
 have hf := I1.hok.fresh (Nat.le_refl _)
 refine ⟨.ref s1.heap.objs.size, upd H1 s1.heap.objs.size _, I1.laid (fun b u e => Heap.get?_push_of_some _ e) (Nat.le_refl _) ?_, rfl, q _ _ hf (Br.Same.upd hf) upd_same⟩
 exact ⟨z, us, 0, r, Heap.get?_push_size _ rfl⟩⟩)
theorem op_catS : OpR X (binaryOp .Add) rCatS := fun pins s σ H x y v u Q I rx ry h => by
 obtain ⟨l, b, xs, zs, e1, e2, h1, h2, hz, q⟩ := h
 exact op_cat pins s σ H x y v u Q I rx ry ⟨l, b, xs, zs, e1, e2, h1, h2, hz, fun p hp => q p _ hp (Br.Same.upd hp) upd_same⟩
theorem r_dict0S : PE X (.Dict [] [] pos) tDNewS := fun pins s σ H Q I q => pe_dnewK pins s σ H Q I fun p hp => q p _ hp (Br.Same.upd hp) upd_same
end
end Br
namespace Br
open PySem PySem.Spec PySem.Calls PyProof.Rows L2 PySem.W PySem.Builtin.Getset_descriptor
structure ExcC (K : Frag) (C : Addr) : Prop where
 ga : findIn K (.ref C) "__getattribute__" = some (some (.builtin "BaseException.__getattribute__"))
 hk : findIn K (.ref C) "__getattr__" = some none
 ha : findIn K (.ref C) "__class__" = some (some (.builtin "object.__class__"))
 hn : specialIn K (.builtin "object.__class__") "__get__" = some (some (.builtin "getset_descriptor.__get__"))
 htk : takesIn K (.builtin "object.__class__") = some true
 hm : mroIn K C (.type "object") = some true
 hb : mroIn K C (.type "BaseException") = some true
def ExcAt (e C : Addr) (h : Heap) : Prop := ∃ o, h.get? e = some o ∧ o.cls = .ref C
theorem ExcAt.ty (x : ExcAt e C h) : Looks M h (typeOf (.ref e)) (.ref C) := by
 obtain ⟨o, h1, h2⟩ := x
 rw [← h2]
 exact (Looks.ld h1).andThen .now
section
variable {K : Frag}
theorem ExcC.finds (T : ExcC K C) (X : K.In h) : Looks M h (Builtin.ObjectAttr.find (.ref x) (.ref C) "__class__") (.bind (.builtin "getset_descriptor.__get__") (.builtin "object.__class__")) := by
 have d : Looks M h (Builtin.ObjectAttr.dataDescriptor? (some _) (some (.builtin "getset_descriptor.__get__"))) _ :=
  (looks_takesIn X T.htk).andThen .now
 exact (looks_findIn X T.ha).andThen (Looks.andThen (looks_specialIn X T.hn) (d.andThen (Looks.tag .now)))
theorem exc_get {R : Result → Shared → Prop} {tp : Value} (X : K.In s.heap) (I : ExcAt x C s.heap) (hm : mroIn K C (.type "object") = some true) (h : R (.ok (.ret (.ref C))) s) :
 codeAny (model prog w) A (.call (.builtin "getset_descriptor.__get__") ⟨[.builtin "object.__class__", .ref x, tp], []⟩) R s := by
 have ob := fun {Q' : Value → Shared → Prop} {E' : Value → Shared → Prop} {A' : Around} => (fun q : Q' (.ref C) s => I.ty (M := model prog w) A' Q' E' s (fun _ _ e => e) q)
 have mr := fun {Q' : Bool → Shared → Prop} {E' : Value → Shared → Prop} {A' : Around} => (fun q : Q' true s => looks_mroIn (M := model prog w) X hm A' Q' E' s (fun _ _ e => e) q)
 apply codeAny_call_builtin KF.slot_gs.plain KF.entry_gs
 refine KF.slot_gs.check _ _ _ _ _ _ _ _ KF.type_class (KF.args_gs _ _ _) ?_
 wp_walk using ob, mr
 rw [show (".".intercalate ("object.__class__".cutAt '.').dropLast) = "object" from by decide +kernel]
 wp_walk using mr
 refine ⟨Code.quiet_builtin _ (by decide +kernel), codeAny_builtin KF.entry_class ?_⟩
 wp_walk using ob
 exact h
theorem exc_cls {Q : Option Value → Shared → Prop} (T : ExcC K C) (X : K.In s.heap) (I : ExcAt x C s.heap) (h : Q (some (.ref C)) { s with toks := s.toks + 1 }) : wpAny (model prog w) A (getAttr? (.ref x) "__class__") Q E s := by
 have L0 := I.ty (M := model prog w)
 have L1 := looks_findIn (M := model prog w) X T.ga
 have L2 := looks_findIn (M := model prog w) X T.hk
 have L3 := T.finds (M := model prog w) (x := x) X
 have L4 := looks_mroIn (M := model prog w) X T.hb
 obtain ⟨hh, g, d, t, os⟩ := s
 unfold getAttr? getAttrBy? getAttrBy
 refine wpAny_bind (wpAny_mkText (wpAny_bind (wpAny_attempt (wpAny_holding ?_))))
 refine wpAny_bind (L0.at (wpAny_bind (L1.at ?_)))
 show wpAny _ _ (getAttrByItsOwn _ _ _ _ _ _) _ _ _
 unfold getAttrByItsOwn hookBefore
 rw [if_pos (show onTheHeap (Value.ref C) = true from rfl)]
 refine wpAny_bind (L2.at (wpAny_bind (wpAny_attempt (wpAny_holding ?_))))
 show wpAny _ _ (boundAndCalled _ _ _) _ _ _
 unfold boundAndCalled
 rw [F.attr_ValueError.ga.bind]
 refine wpAny_bind (wpAny_pure ?_)
 show wpAny _ _ (call (.builtin "BaseException.__getattribute__") [.ref x, .str "__class__" t]) _ _ _
 have hsp : splitId "BaseException.__getattribute__" = some ("BaseException", "__getattribute__") := by decide +kernel
 have hkk : builtinKind "BaseException.__getattribute__" = some .slot := by decide +kernel
 have ha := F.args_bexc_ga (.ref x) (.str "__class__" t)
 refine wpAny_call (codeAny_call_builtin F.attr_ValueError.ga.plain F.entry_bexc_ga ?_)
 simp only [checkBuiltinCall, hkk, hsp]
 refine wpAny_bind ?_
 · unfold isInstance
   refine wpAny_bind (L0.at (L4.at ?_))
   simp only [Bool.not_true, Bool.false_eq_true, if_false]
   repeat (any_goals (first | assumption | wp_step))
   obtain ⟨oe, he, hce⟩ := id I
   refine wpAny_loadPart_at he ?_
   rw [hce]
   refine wpAny_pure (wpAny_bind (L3.at ?_))
   show wpAny _ _ (do ret (← holding [_] (call _ [_, _, _]))) _ _ _
   refine wpAny_bind (wpAny_holding (wpAny_call (exc_get X I T.hm (wpAny_pure ?_))))
   exact handed_on rfl (wpAny_pure h)
theorem ExcC.cls (T : ExcC K C) (X : K.In h) : ∃ (c : Value) (d : Option Addr) (cd : ClassData) (sl : Array (Option Value)), h.get? C = some ⟨c, d, .cls cd, sl⟩ := by
 obtain ⟨cd, q, _⟩ := Option.bind_eq_some_iff.mp T.hm
 unfold clsIn at q
 split at q
 · rename_i ho
   exact ⟨_, _, _, _, X _ _ ho⟩
 grind
theorem ExcC.isType (T : ExcC K C) (X : K.In h) : Looks M h (isType (.ref C)) true := fun A Q E s k z => by
 obtain ⟨c, d, cd, sl, ho⟩ := T.cls X
 exact wpAny_bind (wpAny_loadPart (k _ _ ho) (wpAny_pure z))
theorem kitx_exc (T : ExcC K C) : KitX K (.ref x) (.ref C) (ExcAt x C) where
 ty := fun _ _ _ p => p.ty
 it := fun _ _ X _ => T.isType X
 ne := fun h tp dd its n sl X htp => by
  obtain ⟨c, d, cd, sl', hc⟩ := T.cls X
  grind
 ca := fun X p k => exc_cls T X p k
end
end Br
namespace Br
open PySem PySem.Spec PySem.Calls PyProof.Rows L2
def FrOk (l : List Env) (h : Heap) : Prop := ∀ env ∈ l, env.scope.kind ≠ .module ∧ ∃ L o, env.frame = some L ∧ h.get? L = some o ∧ ∀ vs, o.data ≠ .fields vs
structure Fly (l : List Env) (e T : Addr) (cls : Value) (h : Heap) : Prop where
 fr : FrOk l h
 ne : T ≠ e
 at_ : ∃ oe vs oT ts a0, h.get? e = some oe ∧ oe.cls = cls ∧ oe.data = .fields vs ∧ vs[0]? = some a0 ∧ vs[1]? = some (.ref T) ∧ h.get? T = some oT ∧ oT.data = .fields ts ∧ ts[3]? = some .none
section
variable {np cpos pos : Pos}
def ExcO (e C : Addr) : HO := .ext (ExcAt e C)
inductive TyX (K : PySem.W.Frag) (H : Hp) : V → Value → Prop where
 | of {v : V} {t : Value} (h : TyOf K H v t) : TyX K H v t
 | exc {e C : Addr} (h : H e = some (ExcO e C)) (T : ExcC K C) : TyX K H (.ref e) (.ref C)
theorem isinstX {σ : L2.St} (I : Inv X pins σ H s) (rx : RelV y u) (ty : TyX X.K H y t) (hk : PySem.W.kitOne X.K t c = some b)
 (h : ∀ tk, Q (.bool b) { s with toks := tk }) : wpAny (model X.prog X.w) A (call (.builtin "isinstance") [u, c]) Q Eo s := by
 cases ty with
 | of z => exact isinst_ok I rx z hk h
 | @exc e C z T =>
  cases (rx)
  obtain ⟨p, _⟩ := (I.hok e _ z)
  exact PySem.W.kia_one (kitx_exc T) I.kIn p hk (fun z => nomatch z) h
theorem isinstXs {σ : L2.St} {H : Hp} {u : Value} (I : Inv X pins σ H s) (z : H e = some (ExcO e C)) (T : ExcC X.K C)
 (htp : IsTup s.heap tp its.toArray) (hk : PySem.W.kitAny X.K (.ref C) its = some b) (h : ∀ tk, Q (.bool b) { s with toks := tk }) : wpAny (model X.prog X.w) A (call (.builtin "isinstance") [.ref e, .ref tp]) Q Eo s := by
 obtain ⟨p, _⟩ := (I.hok e _ z)
 obtain ⟨⟨oc, od, odt, osl⟩, h1, h2, n, h3⟩ := htp
 have e1 := h2
 have e2 := h3
 subst e1; subst e2
 exact PySem.W.kia_tup (kitx_exc T) I.kIn p h1 hk (fun z => nomatch z) h
end
section
variable {σ : L2.St}
structure Apart (X : Cx) (pins : List (Addr × Obj)) (H : Hp) (ea T : Addr) : Prop where
 pin : ∀ p ∈ X.pn ++ pins, p.1 ≠ ea ∧ p.1 ≠ T
 s0 : X.s₀.heap.get? ea = none
 t0 : X.s₀.heap.get? T = none
 he : H ea = none
 hT : H T = none
end
abbrev XS := Value → L2.St → Hp → Prop
def XP (X : Cx) (pins : List (Addr × Obj)) (E : XS) (e : Value) (s' : Shared) : Prop := ∃ (ea T : Addr) (cls : Value) (σ' : L2.St) (H' : Hp), e = .ref ea ∧ Inv X pins σ' H' s' ∧ Apart X pins H' ea T ∧ Fly X.stack ea T cls s'.heap ∧ E cls σ' H'
section
variable {x n : Str}
theorem r_bty (hg : Gl X x) (hm : X.mg x = none) (hv : bootBuiltins x = some (.type T)) (hn : x ≠ "__name__") (hdb : (x == ("__debug__" : Str)) = false) : PE X (.Name x pos) (tC (.ty T)) := pe_bltn hg hm hv rfl hn hdb
def rIsi (K : PySem.W.Frag) : List V → Hp → VK → Prop := fun xs H Q => (∃ z ty c b, xs = [z, .ty c] ∧ TyX K H z ty ∧ PySem.W.kitOne K ty (.type c) = some b ∧ Q (.bl b) H) ∨
 (∃ z ty C b, xs = [z, .ref C] ∧ TyX K H z ty ∧ PySem.W.kitOne K ty (.ref C) = some b ∧ Q (.bl b) H) ∨
 ∃ (e C tp : Addr) (Cs : List Addr) (b : Bool), xs = [.ref e, .ref tp] ∧ H e = some (ExcO e C) ∧ ExcC K C ∧ H tp = some (.tup (Cs.map V.ref)) ∧ PySem.W.kitAny K (.ref C) (Cs.map Value.ref) = some b ∧ Q (.bl b) H
theorem valsRef : ∀ {Cs : List Addr} {us : List Value}, Vals (Cs.map V.ref) us → us = Cs.map Value.ref
 | [], _, .nil => rfl
 | _ :: _, _, .cons r t => by rw [List.map_cons, ← valsRef t]; cases r; rfl
theorem call_isiX : CallR X (.builtin "isinstance") (rIsi X.K) := by
 intro pins s σ H xs us Q I r h
 rcases h with ⟨z, ty, c, b, rfl, ht, hk, q⟩ | ⟨z, ty, C, b, rfl, ht, hk, q⟩ | ⟨e, C, tp, Cs, b, rfl, he, T, htp, hk, q⟩
 · obtain ⟨u, w', rfl, r1, r2⟩ := vals2 r
   cases r2
   exact isinstX I r1 ht hk fun tk => ⟨.bl b, H, I.tok _, rfl, q⟩
 · obtain ⟨u, w', rfl, r1, r2⟩ := vals2 r
   cases r2
   exact isinstX I r1 ht hk fun tk => ⟨.bl b, H, I.tok _, rfl, q⟩
 · obtain ⟨u, w', rfl, r1, r2⟩ := vals2 r
   cases r1
   cases r2
   obtain ⟨its, rv, hT, _⟩ := I.tuple (SqT.of htp)
   rw [valsRef rv] at hT
   exact isinstXs (u := .none) I he T hT hk fun tk => ⟨.bl b, H, I.tok _, rfl, q⟩
theorem r_isiX (hx : x = "isinstance") (hg : Gl X x) (he : starEach (e :: es) X.env = (false, eval e X.env) :: starEach es X.env) (hpl : (backTo pos (starEach es X.env)).any (·.1) = false) (hm : X.mg x = none) (ha : PA X (e :: es) t) :
 PE X (.Call (.Name x p) (e :: es) [] pos) (tCB (rIsi X.K) t) := by subst hx; exact pe_callB call_isiX hg hm boot_isinstance ha (by decide) (by decide) he hpl
end
def Bd (n : Nat) (i : Int) : Prop := i.natAbs < 2 ^ n
theorem Bd.mono (h : Bd m i) (hm : m ≤ n) : Bd n i := Nat.lt_of_lt_of_le h (Nat.pow_le_pow_right (by decide) hm)
structure JE (X : Cx) (e : Expr) (t : TE) : Prop where h : PE X e t
structure JT (X : Cx) (e : Expr) (t : TT) : Prop where h : PT X e t
structure JW (X : Cx) (e : Expr) (t : TT) : Prop where h : PW X e t
structure JA (X : Cx) (es : List Expr) (t : TA) : Prop where h : PA X es t
structure JO (X : Cx) (e : Option Expr) (t : TO) : Prop where h : PO X e t
structure JI (X : Cx) (tg it : Expr) (t : TI) : Prop where h : PI X tg it t
structure JG (X : Cx) (tg : Expr) (t : TG) : Prop where h : PG X tg t
structure JS (X : Cx) (st : Stmt) (t : TS) : Prop where h : PS X st t
structure JSs (X : Cx) (st : List Stmt) (t : TS) : Prop where h : PSs X st t
structure JOp (X : Cx) (op : Operator) (r : R2) : Prop where h : OpR X (binaryOp op) r
structure JCop (X : Cx) (op : CmpOp) (r : R2) : Prop where h : OpR X (compareOp op) r
section
variable {es rest : List Expr} {x n : Str}
theorem j_int : JE X (.Constant (.int k) q pos) (tC (.int k)) := ⟨pe_int⟩
theorem j_bl : JE X (.Constant (.bool k) q pos) (tC (.bl k)) := ⟨pe_bl⟩
theorem j_non : JE X (.Constant .none q pos) (tC .non) := ⟨pe_non⟩
theorem j_name (h : At X.N i x) (hk : X.env.scope.names.lookup x = some .local) (hd : (x == ("__debug__" : Str)) = false) (hcd : (x == ("__classdict__" : Str)) = false) : JE X (.Name x pos) (tVar i) := ⟨r_name h hk hd hcd⟩
theorem j_bin (ho : JOp X op r) (ha : JE X a ta) (hb : JE X b tb) : JE X (.BinOp a op b pos) (tOp r ta tb) := ⟨r_bin ho.h ha.h hb.h⟩
theorem o_sub : JOp X .Sub (rI0 fun i j => .int (i - j)) := ⟨op_sub⟩
theorem o_mod : JOp X .Mod (rI (fun _ j => 0 < j) fun i j => .int (i % j)) := ⟨op_mod⟩
theorem o_fdiv : JOp X .FloorDiv (rI CDivB fun i j => .int (i / j)) := ⟨op_fdivB⟩
theorem o_pow : JOp X .Pow (rI CPow fun i j => .int (i ^ j.toNat)) := ⟨op_pow⟩
theorem c_eq : JCop X .Eq rEq := ⟨op_eq⟩
theorem c_ne : JCop X .NotEq rNe := ⟨op_ne⟩
theorem c_lt : JCop X .Lt (rI0 fun i j => .bl (decide (i < j))) := ⟨op_lt⟩
theorem c_le : JCop X .LtE (rI0 fun i j => .bl (decide (i ≤ j))) := ⟨op_le⟩
theorem c_gt : JCop X .Gt (rI0 fun i j => .bl (decide (j < i))) := ⟨op_gt⟩
theorem c_ge : JCop X .GtE (rI0 fun i j => .bl (decide (j ≤ i))) := ⟨op_ge⟩
theorem j_ix (hs : PlainIx b) (ha : JE X a ta) (hb : JE X b tb) : JE X (.Subscript a b pos) (tOp (rIx X.K) ta tb) := ⟨r_ix hs ha.h hb.h⟩
theorem j_onone : JO X none tNoPart := ⟨po_none⟩
theorem j_osome (h : JE X e te) : JO X (some e) (tPart te) := ⟨po_some h.h⟩
theorem j_tup (h : JA X es t) : JE X (.Tuple es k pos) (tTupS t) := ⟨r_tupS h.h⟩
theorem j_lst (h : JA X es t) : JE X (.List es pos) (tLstS t) := ⟨r_lstS h.h⟩
theorem j_dict0 : JE X (.Dict [] [] pos) tDNewS := ⟨r_dict0S⟩
theorem j_cmp (h1 : op ≠ .In) (h2 : op ≠ .NotIn) (ho : JCop X op r) (ha : JE X a ta) (hb : JE X b tb) : JE X (.Compare a [op] [b] pos) (tOp r ta tb) := ⟨r_cmp h1 h2 ho.h ha.h hb.h⟩
theorem j_neg (ha : JE X a ta) : JE X (.UnaryOp .USub a pos) (tUn (rU fun i => .int (-i)) ta) := ⟨r_neg ha.h⟩
theorem j_and (ha : JE X a ta) (hb : JE X (.BoolOp .And (b :: rest) pos) tb) : JE X (.BoolOp .And (a :: b :: rest) pos) (tAndV ta tb) := ⟨pe_and ha.h hb.h⟩
theorem j_one (h : JE X a ta) : JE X (.BoolOp op [a] pos) ta := ⟨pe_one h.h⟩
theorem j_bty (hg : Gl X x) (hm : X.mg x = none) (hv : bootBuiltins x = some (.type T)) (hn : x ≠ "__name__") (hdb : (x == ("__debug__" : Str)) = false) : JE X (.Name x pos) (tC (.ty T)) := ⟨r_bty hg hm hv hn hdb⟩
theorem j_append (hbase : attributeBase o "append" X.env (eval o X.env) = eval o X.env) (hfew : ((backTo cpos (starEach [e] X.env)).all (fun x => !x.1) && (backToKw cpos (keywordEach [] X.env)).all (fun x => x.1.isSome)
 && decide (([e] : List Expr).length + ([] : List Keyword).length + (if ([] : List Keyword).isEmpty then 0 else 1) < 30)) = true) (hline : (apos.endLine == cpos.line) = true) (hs : starEach [e] X.env = (false, eval e X.env) :: starEach [] X.env)
 (hpl : (backTo cpos (starEach [] X.env)).any (·.1) = false) (ho : JE X o to) (ha : JA X [e] t) : JE X (.Call (.Attribute o "append" apos) [e] [] cpos) (tBM X.K "list" rAppend to t) := ⟨r_append hbase hfew hline hs hpl ho.h ha.h⟩
theorem j_call (c : Callee CX0 X.prog X.w X.K X.mg X.base x k ps sp) (hr : Room k X.A) (hg : Gl X x) (hdb : (x == ("__debug__" : Str)) = false)
 (he : starEach (e :: es) X.env = (false, eval e X.env) :: starEach es X.env) (hpl : (backTo pos (starEach es X.env)).any (·.1) = false) (ha : JA X (e :: es) t) : JE X (.Call (.Name x p) (e :: es) [] pos) (tCall sp [] E0 t) := ⟨r_call c hr hg hdb he hpl ha.h⟩
section
variable (hg : Gl X x) (he : starEach (e :: es) X.env = (false, eval e X.env) :: starEach es X.env) (hpl : (backTo pos (starEach es X.env)).any (·.1) = false)
include hg he hpl
theorem j_isi (hx : x = "isinstance") (hm : X.mg x = none) (ha : JA X (e :: es) t) : JE X (.Call (.Name x p) (e :: es) [] pos) (tCB (rIsi X.K) t) := ⟨r_isiX hx hg he hpl hm ha.h⟩
theorem j_len (hx : x = "len") (hm : X.mg x = none) (ha : JA X (e :: es) t) : JE X (.Call (.Name x p) (e :: es) [] pos) (tCB (rLen X.K) t) := ⟨r_len hg he hpl hx hm ha.h⟩
theorem j_max (hx : x = "max") (hc : X.calm = true) (hm : X.mg x = none) (ha : JA X (e :: es) t) : JE X (.Call (.Name x p) (e :: es) [] pos) (tCB (fun xs H Q => ∃ i j, xs = [.int i, .int j] ∧ Q (.int (if j > i then j else i)) H) t) := ⟨r_max hg he hpl hx hc hm ha.h⟩
theorem j_min (hx : x = "min") (hc : X.calm = true) (hm : X.mg x = none) (ha : JA X (e :: es) t) : JE X (.Call (.Name x p) (e :: es) [] pos) (tCB (fun xs H Q => ∃ i j, xs = [.int i, .int j] ∧ Q (.int (if j < i then j else i)) H) t) := ⟨r_min hg he hpl hx hc hm ha.h⟩
theorem j_intc (hx : x = "int") (hm : X.mg x = none) (ha : JA X (e :: es) t) : JE X (.Call (.Name x p) (e :: es) [] pos) (tCB (fun xs H Q => (∃ i, xs = [.int i] ∧ Q (.int i) H) ∨ ∃ k, xs = [.bl k] ∧ Q (.int (if k then 1 else 0)) H) t) := ⟨r_intc hg he hpl hx hm ha.h⟩
end
theorem j_nil : JA X [] tNil := ⟨pa_nil⟩
theorem j_cons (hs : starEach (e :: es) X.env = (false, eval e X.env) :: starEach es X.env) (ha : JE X e te) (hr : JA X es t) : JA X (e :: es) (tCons te t) := ⟨r_acons hs ha.h hr.h⟩
theorem u_cmp (h1 : op ≠ .In) (h2 : op ≠ .NotIn) (ho : JCop X op r) (ha : JE X a ta) (hb : JE X b tb) : JT X (.Compare a [op] [b] pos) (tTest (tOp r ta tb)) := ⟨t_cmp h1 h2 ho.h ha.h hb.h⟩
theorem u_or (h : JW X (.BoolOp .Or es pos) tA) : JT X (.BoolOp .Or es pos) tA := ⟨h.h.pt⟩
theorem u_and (h : JW X (.BoolOp .And es pos) tA) : JT X (.BoolOp .And es pos) tA := ⟨h.h.pt⟩
theorem u_not (ha : JT X a tA) : JT X (.UnaryOp .Not a pos) (tNot tA) := ⟨pt_not ha.h⟩
theorem u_call (h : JE X (.Call f es ks pos) te) : JT X (.Call f es ks pos) (tB te) := ⟨t_call h.h⟩
theorem w_and1 (ha : JT X a tA) : JW X (.BoolOp .And [a] pos) tA := ⟨pw_and1 ha.h⟩
theorem w_or1 (ha : JT X a tA) : JW X (.BoolOp .Or [a] pos) tA := ⟨pw_or1 ha.h⟩
theorem w_and (ha : JT X a tA) (hb : JW X (.BoolOp .And (b :: rest) pos) tB') : JW X (.BoolOp .And (a :: b :: rest) pos) (tAnd tA tB') := ⟨pw_and ha.h hb.h⟩
theorem w_or (ha : JT X a tA) (hb : JW X (.BoolOp .Or (b :: rest) pos) tB') : JW X (.BoolOp .Or (a :: b :: rest) pos) (tOr tA tB') := ⟨pw_or ha.h hb.h⟩
theorem i_range1 (hx : x = "range") (hg : Gl X x) (hm : X.mg x = none) (hs : starEach [a] X.env = [(false, eval a X.env)]) (ha : JA X [a] t) : JI X tg (.Call (.Name x p) [a] [] pos) (iRng1 t) := ⟨r_irange1 hx hg hm hs ha.h⟩
theorem g_name (h : At X.N i x) (hN : X.N.Nodup) (hk : X.env.scope.names.lookup x = some .local) : JG X (.Name x pos) (gName i) := ⟨r_gname h hN hk⟩
variable {st : Stmt}
theorem s_ret (he : JE X e te) : JS X (.Return (some e) pos) (tRet te) := ⟨r_ret he.h⟩
theorem s_set (h : At X.N i x) (hN : X.N.Nodup) (hk : X.env.scope.names.lookup x = some .local) (hs : swapsWith e (some (.Name x p)) pos.line X.env = pure false) (he : JE X e te) : JS X (.Assign [.Name x p] e pos) (tAsg te (gName i)) := ⟨r_set h hN hk hs he.h⟩
theorem s_expr (hs : swapsWith e none pos.line X.env = pure false) (he : JE X e te) : JS X (.Expr e pos) (tDrop te) := ⟨r_expr hs he.h⟩
theorem s_if (hc : JT X c tA) (ha : JSs X aa t1) (hb : JSs X bb t2) : JS X (.If c aa bb pos) (tMid (tIfS tA t1 t2)) := ⟨r_ifM hc.h ha.h hb.h⟩
theorem s_for {tb : TS} (hp : PassesOwn (model X.prog X.w) X.A X.env X.xe) (hc : X.calm = true) (hs : ∀ x, foldedSetIterable iter X.env x = pure x) (hi : JI X tg iter wi) (hg : JG X tg g) (hb : JSs X body tb) : JS X (.For tg iter body [] pos) (tFor wi g tb) := ⟨r_for hp hc hs hi.h hg.h hb.h⟩
theorem s_unpack2 (hi : At X.N i x) (hj : At X.N j y) (hc : X.calm = true) (hN : X.N.Nodup) (hx : X.env.scope.names.lookup x = some .local) (hy : X.env.scope.names.lookup y = some .local)
 (h1 : (assignEach [.Name x px, .Name y py] X.env).map (·.2) = assign (.Name x px) X.env :: (assignEach [.Name y py] X.env).map (·.2))
 (h2 : (assignEach [.Name y py] X.env).map (·.2) = assign (.Name y py) X.env :: (assignEach [] X.env).map (·.2))
 (hn : (assignEach [.Name x px, .Name y py] X.env).length = 2) (hst : (assignEach [.Name x px, .Name y py] X.env).findIdx? (·.1) = none)
 (hs : swapsWithSole [.Tuple [.Name x px, .Name y py] kt pt] e pos.line X.env = pure false) (hw : swappedStores [.Tuple [.Name x px, .Name y py] kt pt] e X.env = pure none)
 (h3 : (assignEach [.Tuple [.Name x px, .Name y py] kt pt] X.env).map (·.2) = [assign (.Tuple [.Name x px, .Name y py] kt pt) X.env]) (he : JE X e te) :
 JS X (.Assign [.Tuple [.Name x px, .Name y py] kt pt] e pos) (tAsg te (gTup X.K 2 (gCons (gName i) (gCons (gName j) gNil)))) := ⟨r_unpack2 hi hj hc hN hx hy h1 h2 hn hst hs hw h3 he.h⟩
theorem ss_nil : JSs X [] tNext := ⟨pss_nil⟩
theorem ss_cons (h1 : JS X st t1) (h2 : JSs X sts t2) : JSs X (st :: sts) (tSeq t1 t2) := ⟨pss_cons h1.h h2.h⟩
end
section
variable {K : PySem.W.Frag} {st : Stmt}
theorem Fun.j (F : Fun K x qual st f fd) (S : FnScope N ps (defScope st)) (len : ∀ vs H Q E, sp vs H Q E → vs.length = ps.length)
 (hbody : ∀ (cdv : Value) (A : Around) (outer : List Env) (s : Shared) (H : Hp) (vs : List V) (Q : VK) (E : XK), Room k (A.deeper (envOfC qual (defScope st) s.heap.objs.size f cdv)) → sp vs H Q E →
  ∃ t, JSs (cxOf CX0 P w K mg base N qual (defScope st) f cdv A outer s H E).nox (defBody st) t ∧ t { nx := fun _ H' => Q .non H', rt := Q } (start N vs) H) : FnOk P w K mg base CX0 (k + 1) f fd ps sp :=
 L2.Fun.ok F S len fun cdv A outer s H vs Q E hr h => let ⟨t, a, b⟩ := hbody cdv A outer s H vs Q E hr h; ⟨t, a.h, b⟩
end
end Br
namespace Br
end Br
namespace Br
open PySem PySem.Spec PySem.Calls PyProof.Rows L2
mutual
inductive Rep (H : Hp) : V → PyData → Prop
 | non : Rep H .non .none
 | bl (b : Bool) : Rep H (.bl b) (.bool b)
 | int (i : Int) : Rep H (.int i) (.int i)
 | str (x : Str) : Rep H (.str x) (.str x)
 | tup {a : Addr} {xs : List V} {ds : List PyData} (h : H a = some (.tup xs)) (r : Reps H xs ds) : Rep H (.ref a) (.tuple ds)
 | lst {a : Addr} {xs : List V} {ds : List PyData} (h : H a = some (.lst xs)) (r : Reps H xs ds) : Rep H (.ref a) (.list ds)
inductive Reps (H : Hp) : List V → List PyData → Prop
 | nil : Reps H [] []
 | cons {x : V} {xs : List V} {d : PyData} {ds : List PyData} (h : Rep H x d) (r : Reps H xs ds) : Reps H (x :: xs) (d :: ds)
end
theorem Reps.ints : ∀ ns : List Int, Reps H (ns.map V.int) (ns.map PyData.int)
 | [] => .nil
 | n :: r => .cons (.int n) (Reps.ints r)
section
mutual
theorem Rep.reads (ok : HOk P w H h) : ∀ {v : V} {d : PyData} {u : Value}, Rep H v d → RelV v u → ∃ as, Reads h u d as
 | _, _, _, .non, r => by cases (show _ = Value.none from r); exact ⟨_, .none⟩
 | _, _, _, .bl b, r => by cases (show _ = Value.bool b from r); exact ⟨_, .bool b⟩
 | _, _, _, .int i, r => by obtain ⟨t, e⟩ := (show ∃ t, _ = Value.int i t from r); subst e; exact ⟨_, .int i t⟩
 | _, _, _, .str x, r => by obtain ⟨t, e⟩ := (show ∃ t, _ = Value.str x t from r); subst e; exact ⟨_, .str x t⟩
 | _, _, _, .tup (a := a) (xs := xs) q rs, r => by
  cases (show _ = Value.ref a from r)
  obtain ⟨_, its, rv, o, h1, h2, n, h3⟩ := (show ObjOk P w H h a (.tup xs) from ok a _ q)
  obtain ⟨as, z⟩ := Reps.reads ok rs rv
  exact ⟨_, .tuple h1 h2 h3 (by simpa using z)⟩
 | _, _, _, .lst (a := a) (xs := xs) q rs, r => by
  cases (show _ = Value.ref a from r)
  obtain ⟨_, its, n, rv, h1⟩ := (show ObjOk P w H h a (.lst xs) from ok a _ q)
  obtain ⟨as, z⟩ := Reps.reads ok rs rv
  exact ⟨_, .list h1 rfl rfl (by simpa using z)⟩
theorem Reps.reads (ok : HOk P w H h) : ∀ {vs : List V} {ds : List PyData} {us : List Value}, Reps H vs ds → Vals vs us → ∃ as, ReadsAll h us ds as
 | _, _, _, .nil, .nil => ⟨_, .nil⟩
 | _, _, _, .cons q rs, .cons r t => by
  obtain ⟨as, z⟩ := Rep.reads ok q r
  obtain ⟨bs, y⟩ := Reps.reads ok rs t
  exact ⟨_, .cons z y⟩
end
end
def Pl (d : PyData) : Prop := d.canLay0 = true ∧ d.depth ≤ 60
section
def rNeD : R2 := fun x y H Q => ∃ d d', Rep H x d ∧ Rep H y d' ∧ Pl d ∧ Pl d' ∧ Q (.bl (!PyData.eqv d d')) H
theorem op_neD (hr : Room k X.A) : OpR X (compareOp .NotEq) rNeD := by
 intro pins s σ H x y v u Q I rx ry h
 obtain ⟨d, d', h1, h2, p1, p2, q⟩ := h
 obtain ⟨as, r1⟩ := h1.reads I.hok rx
 obtain ⟨bs, r2⟩ := h2.reads I.hok ry
 have hu := hr.un
 exact SeqAt.compareNe_reads r1 r2 p1.1 p2.1 (by have := p1.2; omega) ⟨.bl _, H, I, rfl, q⟩
theorem c_neD (hr : Room k X.A) : JCop X .NotEq (fun x y H Q => rNe x y H Q ∨ rNeD x y H Q) := ⟨op_ne.or (op_neD hr)⟩
end
end Br
namespace Br
open PySem
def RT (t : SetTable) : Prop := t.dummies = #[] ∧ t.place.toList.Pairwise (· < ·)
theorem pw_at {l : List Nat} (h : l.Pairwise (· < ·)) {i j x y : Nat} (hij : i < j) (hx : l[i]? = some x) (hy : l[j]? = some y) : x < y := by
 obtain ⟨h1, e1⟩ := List.getElem?_eq_some_iff.mp hx
 obtain ⟨h2, e2⟩ := List.getElem?_eq_some_iff.mp hy
 rw [← e1, ← e2]
 exact List.pairwise_iff_getElem.mp h i j h1 h2 hij
theorem below_go (hs : xs.toList.Pairwise (· < ·)) : ∀ fuel lo hi, hi - lo ≤ fuel → lo ≤ hi → hi ≤ xs.size → (∀ i x, i < lo → xs[i]? = some x → x < j) → (∀ i x, hi ≤ i → xs[i]? = some x → j ≤ x) →
 SetTable.below.go xs j fuel lo hi ≤ xs.size ∧ (∀ i x, i < SetTable.below.go xs j fuel lo hi → xs[i]? = some x → x < j) ∧ (∀ i x, SetTable.below.go xs j fuel lo hi ≤ i → xs[i]? = some x → j ≤ x)
 | 0, lo, hi, h1, h2, h3, h4, h5 => by
  have : lo = hi := by omega
  subst this
  exact ⟨h3, h4, h5⟩
 | fuel + 1, lo, hi, h1, h2, h3, h4, h5 => by
  unfold SetTable.below.go
  by_cases hl : lo < hi
  · rw [if_pos hl]
    have hm : (lo + hi) / 2 < xs.size := by omega
    have em : xs[(lo + hi) / 2]? = some xs[(lo + hi) / 2] := Array.getElem?_eq_getElem hm
    have eg : xs.getD ((lo + hi) / 2) j = xs[(lo + hi) / 2] := by simp [Array.getD, hm]
    have eL := fun (i : Nat) => (Array.getElem?_toList (xs := xs) (i := i)).symm
    dsimp only
    rw [eg]
    by_cases hc : xs[(lo + hi) / 2] < j
    · rw [if_pos hc]
      refine below_go hs fuel _ _ (by omega) (by omega) h3 (fun i x hi' e => ?_) h5
      rcases Nat.lt_or_ge i ((lo + hi) / 2) with z | z
      · have := pw_at hs z (by rw [← eL]; exact e) (by rw [← eL]; exact em); omega
      · have : i = (lo + hi) / 2 := by omega
        subst this; rw [em] at e; cases e; exact hc
    · rw [if_neg hc]
      refine below_go hs fuel _ _ (by omega) (by omega) (by omega) h4 (fun i x hi' e => ?_)
      rcases Nat.lt_or_ge ((lo + hi) / 2) i with z | z
      · have := pw_at hs z (by rw [← eL]; exact em) (by rw [← eL]; exact e); omega
      · have : i = (lo + hi) / 2 := by omega
        subst this; rw [em] at e; cases e; omega
  grind
theorem below_is (hs : xs.toList.Pairwise (· < ·)) (j : Nat) : SetTable.below xs j ≤ xs.size ∧ (∀ i x, i < SetTable.below xs j → xs[i]? = some x → x < j) ∧ (∀ i x, SetTable.below xs j ≤ i → xs[i]? = some x → j ≤ x) :=
 below_go hs xs.size 0 xs.size (by omega) (by omega) (by omega) (fun i x h => by omega) (fun i x h e => by grind)
theorem below_next {xs : Array Nat} (hs : xs.toList.Pairwise (· < ·)) {i x : Nat} (e : xs[i]? = some x) : SetTable.below xs (x + 1) = i + 1 := by
 obtain ⟨h1, h2, h3⟩ := below_is hs (x + 1)
 have hi := (Array.getElem?_eq_some_iff.mp e).1
 have eL := fun (i : Nat) => (Array.getElem?_toList (xs := xs) (i := i)).symm
 rcases Nat.lt_trichotomy (SetTable.below xs (x + 1)) (i + 1) with z | z | z
 · have := h3 i x (by omega) e; omega
 · exact z
 · have hk : i + 1 < xs.size := by omega
   have ek : xs[i + 1]? = some xs[i + 1] := Array.getElem?_eq_getElem hk
   have a := h2 (i + 1) _ z ek
   have b := pw_at hs (Nat.lt_succ_self i) (by rw [← eL]; exact e) (by rw [← eL]; exact ek)
   omega
theorem below_zero (hs : xs.toList.Pairwise (· < ·)) : SetTable.below xs 0 = 0 := by
 obtain ⟨h1, h2, _⟩ := below_is hs 0
 rcases Nat.eq_zero_or_pos _ with z | z
 · omega
 · have := h2 0 _ z (Array.getElem?_eq_getElem (by omega)); omega
theorem has_nil (j : Nat) : SetTable.has #[] j = false := rfl
theorem slot_out (h : RT t) (e : t.slot j = .empty) : j ∉ t.place.toList := by
 intro hm
 obtain ⟨i, hi⟩ := List.getElem?_of_mem hm
 have hi : t.place[i]? = some j := by simp_all
 obtain ⟨h1, h2, h3⟩ := below_is h.2 j
 have hz := (Array.getElem?_eq_some_iff.mp hi).1
 have eL := fun (i : Nat) => (Array.getElem?_toList (xs := t.place) (i := i)).symm
 have hb : SetTable.below t.place j = i := by
  rcases Nat.lt_trichotomy (SetTable.below t.place j) i with z | z | z
  · have ek : t.place[SetTable.below t.place j]? = some (t.place[SetTable.below t.place j]'(by omega)) := Array.getElem?_eq_getElem _
    have a := h3 _ _ (Nat.le_refl _) ek
    have b := pw_at h.2 z (by rw [← eL]; exact ek) (by rw [← eL]; exact hi)
    omega
  · exact z
  · have := h2 i j z hi; omega
 unfold SetTable.slot at e
 grind
theorem slot_nodummy (h : RT t) (j : Nat) : t.slot j ≠ .dummy := by
 unfold SetTable.slot
 rw [h.1, has_nil]
 intro z
 dsimp only at z
 split at z
 · grind
 grind
theorem probe_free (h : RT t) : ∀ (fuel : Nat) (p : SetTable.Probe) {j : Nat} {d : Option Nat}, p.dummy = none → SetTable.probe.go t ha hh fuel p = some (.empty j d) → d = none ∧ j ∉ t.place.toList
 | 0, p, j, d, _, e => by cases e
 | fuel + 1, p, j, d, hd, e => by
  unfold SetTable.probe.go at e
  have adv : (t.advance p).dummy = none := by unfold SetTable.advance; split <;> exact hd
  cases hs : t.slot p.j with
  | empty => rw [hs] at e; cases e; exact ⟨hd, slot_out h hs⟩
  | dummy => exact absurd hs (slot_nodummy h _)
  | live i =>
   rw [hs] at e
   dsimp only at e
   split at e
   · cases e
   · exact probe_free h fuel _ adv e
theorem free_out (h : RT t) (e : t.freeSlot hh = some (j, d)) : j ∉ t.place.toList := by
 unfold SetTable.freeSlot at e
 split at e
 · next k d' hp =>
   obtain ⟨e1, e2⟩ := probe_free h _ _ (by rfl) hp
   grind
 grind
theorem insertAt_list (xs : Array α) (p : Nat) (x : α) (h : p ≤ xs.size) : (SetTable.insertAt xs p x).toList = xs.toList.take p ++ x :: xs.toList.drop p := by
 unfold SetTable.insertAt
 simp [Array.toList_extract, List.extract, List.take_of_length_le]
theorem put_rt (h : RT t) (hj : j ∉ t.place.toList) : RT (t.put j).1 := by
 unfold SetTable.put
 refine ⟨by dsimp only; rw [h.1, has_nil]; rfl, ?_⟩
 obtain ⟨h1, h2, h3⟩ := below_is h.2 j
 rw [insertAt_list _ _ _ h1]
 have hs := h.2
 rw [← List.take_append_drop (SetTable.below t.place j) t.place.toList, List.pairwise_append] at hs
 obtain ⟨a, b, c⟩ := hs
 rw [List.pairwise_append, List.pairwise_cons]
 have lo : ∀ x ∈ t.place.toList.take (SetTable.below t.place j), x < j := fun x hx => by
  obtain ⟨i, hi⟩ := List.getElem?_of_mem hx
  rw [List.getElem?_take] at hi
  split at hi
  · next z => exact h2 i x z (by rw [← Array.getElem?_toList]; exact hi)
  · cases hi
 have hi : ∀ x ∈ t.place.toList.drop (SetTable.below t.place j), j < x := fun x hx => by
  obtain ⟨i, hi⟩ := List.getElem?_of_mem hx
  rw [List.getElem?_drop] at hi
  have := h3 _ x (Nat.le_add_right _ i) (by rw [← Array.getElem?_toList]; exact hi)
  rcases Nat.lt_or_eq_of_le this with z | z
  · exact z
  · exact absurd (z ▸ List.mem_of_getElem? hi) hj
 simp_all
theorem standIn_rt (t : SetTable) (n : Nat) : RT (t.standIn n) := ⟨rfl, by
 show (Array.range n).toList.Pairwise _
 rw [Array.toList_range]; exact List.pairwise_lt_range⟩
theorem layNew_rt (h : RT t) (es : Array (Int × Value)) (hh : Int) (x : Value) : RT (layNew t es hh x).2.1 ∧ (layNew t es hh x).2.1.led = t.led := by
 unfold layNew
 split
 · next slot wd e =>
   have r := put_rt h (free_out h e)
   show RT ((t.put slot).1.orStandIn _) ∧ ((t.put slot).1.orStandIn _).led = _
   unfold SetTable.orStandIn
   split
   · exact ⟨r, rfl⟩
   · exact ⟨standIn_rt _ _, rfl⟩
 · exact ⟨standIn_rt _ _, rfl⟩
theorem relayAll_rt (es : Array (Int × Value)) (n : Nat) : RT (relayAll t es n).2.1 ∧ (relayAll t es n).2.1.led = t.led := by
 unfold relayAll
 split
 · next t' order e =>
   dsimp only
   split
   · obtain ⟨ow, _, e⟩ := Option.bind_eq_some_iff.mp e
     cases e
     refine ⟨⟨rfl, ?_⟩, rfl⟩
     rw [List.toList_toArray, List.pairwise_map, List.pairwise_filterMap]
     refine List.pairwise_lt_range.imp fun {a b} hab p hp q hq => ?_
     obtain ⟨_, _, rfl⟩ := Option.map_eq_some_iff.mp hp
     obtain ⟨_, _, rfl⟩ := Option.map_eq_some_iff.mp hq
     exact hab
   · exact ⟨standIn_rt _ _, rfl⟩
 · exact ⟨standIn_rt _ _, rfl⟩
end Br
namespace Br
open PySem PySem.Spec PySem.Calls PyProof.Rows
def vI : Value → Int
 | .int n _ => n
 | _ => 0
abbrev byT (w : World) : Bool := w.params.followText "set-order"
def SetI (w : World) (h : Heap) (a : Addr) (ns : List Int) : Prop :=
 ∃ o es ep t, h.get? a = some o ∧ o.ExactSet ∧ o.data = .set es ep t ∧ (∀ e ∈ es.toList, ∃ n tk, e = (hashInt n, Value.int n tk)) ∧ es.toList.map (fun e => vI e.2) = ns ∧ ns.Nodup ∧ es.size < scanBound ∧ t.fits es.size = true ∧ RT t ∧ t.led = !byT w
theorem SetI.at (x : SetI w h a ns) (e : ∀ o, h.get? a = some o → h'.get? a = some o) : SetI w h' a ns := let ⟨o, es, ep, t, ho, r⟩ := x; ⟨o, es, ep, t, e _ ho, r⟩
theorem elems_of (h : ∀ e ∈ l, ∃ n tk, e = (hashInt n, Value.int n tk)) : ElemsOf (intKind prog w) l := fun e he => by
 obtain ⟨n, tk, rfl⟩ := h e he
 exact ⟨⟨n, intKind_is _ _ _ _, rfl⟩, rfl⟩
theorem put_at {h : Heap} (ho : h.get? a = some o) (hd : o.data = .set es ep t) (es' : Array (Int × Value)) (t' : SetTable) : (h.update a (Obj.putSet es' t')).get? a = some { o with data := .set es' (ep + 1) t' } := by
 have q := Heap.get?_update_self (Obj.putSet es' t') ho (by rw [putSet_of es' t' hd]; rfl)
 rwa [putSet_of es' t' hd] at q
theorem find_in {l : List (Int × Value)} (h : ∀ e ∈ l, ∃ n tk, e = (hashInt n, Value.int n tk)) : (∃ e ∈ l, Value.isInt n e.2 = true) ↔ n ∈ l.map fun e => vI e.2 := by
 constructor
 · rintro ⟨e, he, hp⟩
   obtain ⟨m, tk, rfl⟩ := h e he
   obtain ⟨t', ht⟩ := Value.isInt_shape hp
   refine List.mem_map.mpr ⟨_, he, ?_⟩
   cases ht; rfl
 · intro hn
   obtain ⟨e, he, rfl⟩ := List.mem_map.mp hn
   obtain ⟨m, tk, rfl⟩ := h e he
   exact ⟨_, he, by simp [vI, Value.isInt]⟩
section
variable {prog : Program} {w : World} {A : Around} {E : Value → Shared → Prop} {s : Shared} {a : Addr} {ns : List Int} {n : Int} {tk : Nat}
theorem set_tail {g : Bool → Sem Unit} (hg : ∀ (b : Bool) (s₁ : Shared) (Q' : Unit → Shared → Prop), Q' () s₁ → wpAny (model prog w) A (g b) Q' E s₁) {o : Obj} {es es1 : Array (Int × Value)} {ep : Nat} {t t1 : SetTable} (ho : s.heap.get? a = some o) (hex : o.ExactSet) (hd : o.data = .set es ep t)
 (hes1 : ∀ e ∈ es1.toList, ∃ m tk, e = (hashInt m, Value.int m tk)) (nd1 : (es1.toList.map fun e => vI e.2).Nodup) (z1 : es1.size < scanBound) (f1 : t1.fits es1.size = true) (r1 : RT t1) (hl : t1.led = !byT w) {wd : Bool}
 (h : ∀ h' ns', Heap.SameBut a s.heap h' → SetI w h' a ns' → ns'.Perm (es1.toList.map fun e => vI e.2) → R (some true) { s with heap := h' }) :
 wpAny (model prog w) A (storeSet a es1 t1 >>= fun _ => if (!wd && t1.tooFull) = true then (g (relayAll t1 es1 (SetTable.grown es1.size)).2.2 >>= fun _ => storeSet a (relayAll t1 es1 (SetTable.grown es1.size)).1 (relayAll t1 es1 (SetTable.grown es1.size)).2.1 >>= fun _ => pure (some true)) else pure (some true)) R E s := by
 have ho1 := put_at ho hd es1 t1
 have sb1 := Heap.SameBut.update s.heap a (Obj.putSet es1 t1)
 refine wpAny_bind (wpAny_storeSet_of ho hd ?_ (fits_of_scanBound z1))
 by_cases hc : (!wd && t1.tooFull) = true
 · rw [if_pos hc]
   have p2 := relayAll_perm t1 es1 (SetTable.grown es1.size)
   have f2 := relayAll_fits t1 es1 (SetTable.grown es1.size)
   have r2 := relayAll_rt (t := t1) es1 (SetTable.grown es1.size)
   generalize relayAll t1 es1 (SetTable.grown es1.size) = L at p2 f2 r2 ⊢
   obtain ⟨es2, t2, gave2⟩ := L
   dsimp only at p2 f2 r2 ⊢
   have z2 : es2.size < scanBound := by rw [← Array.length_toList, p2.length_eq, Array.length_toList]; exact z1
   exact wpAny_bind (hg _ _ _ (wpAny_bind (wpAny_storeSet_of ho1 rfl (wpAny_pure (h _ _ (sb1.trans (Heap.SameBut.update _ a _)) ⟨_, es2, ep + 1 + 1, t2, put_at ho1 rfl es2 t2, hex, rfl, fun e he => hes1 e (p2.mem_iff.mp he), rfl, ((p2.map _).nodup_iff).mpr nd1, z2, f2, r2.1, r2.2.trans hl⟩ (p2.map _))) (fits_of_scanBound z2))))
 · rw [if_neg hc]
   exact wpAny_pure (h _ _ sb1 ⟨_, es1, ep + 1, t1, ho1, hex, rfl, hes1, rfl, nd1, z1, f1, r1, hl⟩ (List.Perm.refl _))
theorem set_add {Q : Bool → Shared → Prop} (hS : SetI w s.heap a ns) (hb : ns.length + 1 < scanBound)
 (h : ∀ b h' t' ns', Heap.SameBut a s.heap h' → SetI w h' a ns' → ns'.Perm (if n ∈ ns then ns else n :: ns) → Q b { s with heap := h', toks := t' }) : wpAny (model prog w) A (setAdd a (.int n tk)) Q E s := by
 obtain ⟨o, es, ep, t, ho, hex, hd, hes, hm, hnd, hz, hf, rt, hl⟩ := hS
 have hlen : es.size = ns.length := by rw [← hm, List.length_map, Array.length_toList]
 have hel : ElemsOf (intKind prog w) es.toList := elems_of hes
 have hin := find_in (n := n) hes
 rw [hm] at hin
 unfold setAdd
 refine wpAny_holding (wpAny_bind ((intKind prog w).pyHash (k := n) (intKind_is _ _ _ _) ?_))
 unfold setAddHashed setAddHashedIn
 refine wpAny_holding (wpAny_bind (wpAny_setState_of (s := { s with toks := s.toks + 1 }) ho hd hf ?_))
 have hbs : byScan (Value.int n tk) es = true := byScan_of (knd := intKind prog w) rfl hz hel
 dsimp only
 rw [hbs, if_pos rfl]
 unfold setAddByScan
 refine wpAny_bind (wpAny_bind (wpAny_rule (wpAny_bind (wpAny_setScan_of (s := { s with toks := s.toks + 1 }) (knd := intKind prog w) (k := n) (intKind_is _ _ _ _) ho hd hf hel ?_))))
 cases hr : List.findIdx? (fun e => (intKind prog w).is n e.2) es.toList with
 | some j =>
  obtain ⟨hj, hp, _⟩ := List.findIdx?_eq_some_iff_getElem.mp hr
  have hn : n ∈ ns := hin.mp ⟨_, List.getElem_mem hj, hp⟩
  refine wpAny_pure (wpAny_pure (h false s.heap _ ns (Heap.SameBut.refl _ _) ⟨o, es, ep, t, ho, hex, hd, hes, hm, hnd, hz, hf, rt, hl⟩ ?_))
  rw [if_pos hn]
 | none =>
  have hn : n ∉ ns := fun z => by
   obtain ⟨e, he, hp⟩ := hin.mpr z
   have := List.findIdx?_eq_none_iff.mp hr e he
   rw [show (intKind prog w).is n e.2 = true from hp] at this; cases this
  dsimp only
  have p1 := layNew_perm t es (hashInt n) (Value.int n tk)
  have f1 := layNew_fits t es (hashInt n) (Value.int n tk)
  have r1 := layNew_rt rt es (hashInt n) (Value.int n tk)
  rw [show (intKind prog w).hash n = hashInt n from rfl]
  generalize layNew t es (hashInt n) (Value.int n tk) = L at p1 f1 r1 ⊢
  obtain ⟨es1, t1, wd, gave⟩ := L
  dsimp only at p1 f1 r1 ⊢
  rw [Array.toList_push] at p1
  have hes1 : ∀ e ∈ es1.toList, ∃ m tk, e = (hashInt m, Value.int m tk) := fun e he => by
   rcases List.mem_append.mp (p1.mem_iff.mp he) with he | he
   · exact hes e he
   · exact ⟨n, tk, List.mem_singleton.mp he⟩
  have pm : (es1.toList.map fun e => vI e.2).Perm (n :: ns) := by
   refine (p1.map _).trans ?_
   rw [List.map_append, hm]
   exact List.perm_append_comm
  have z1 : es1.size < scanBound := by
   have := pm.length_eq
   rw [List.length_map, Array.length_toList, List.length_cons] at this; omega
  have nd1 : (es1.toList.map fun e => vI e.2).Nodup := pm.nodup_iff.mpr (List.nodup_cons.mpr ⟨hn, hnd⟩)
  have hg : ∀ (b : Bool) (s₁ : Shared) (Q' : Unit → Shared → Prop), Q' () s₁ → wpAny (model prog w) A (match b with | true => rule "set.scan.the-table-gave-way" | false => pure ()) Q' E s₁ := fun b s₁ Q' hq => by cases b <;> first | exact wpAny_pure hq | exact wpAny_rule hq
  refine wpAny_bind (hg _ _ _ ?_)
  have fin := fun (R : Option Bool → Shared → Prop) hR => set_tail (R := R) (prog := prog) (A := A) (E := E) (s := { s with toks := s.toks + 1 }) (wd := wd) hg ho hex hd hes1 nd1 z1 f1 r1.1 (r1.2.trans hl) hR
  have hend : ∀ h' ns', Heap.SameBut a s.heap h' → SetI w h' a ns' → ns'.Perm (es1.toList.map fun e => vI e.2) → Q true { s with heap := h', toks := s.toks + 1 } := fun h' ns' sb si pe => h true h' _ ns' sb si (by rw [if_neg hn]; exact pe.trans pm)
  split
  · exact wpAny_bind (wpAny_pure (fin _ fun h' ns' sb si pe => wpAny_pure (hend h' ns' sb si pe)))
  · exact wpAny_bind (wpAny_pure (fin _ fun h' ns' sb si pe => wpAny_pure (hend h' ns' sb si pe)))
end
namespace SX
theorem owner_it : Manifest.owners.lookup (String.ofList ("rotareti_tes".toList).reverse) = some Manifest.sig_set_iterator := by kernel_rfl
theorem slot_next : Slot "set_iterator" "__next__" "set_iterator.__next__" := .of (owner := "set_iterator") (n := "__next__") (by rfl) (by decide +kernel) (by decide +kernel) (by decide +kernel) (by first | exact .inl (by decide +kernel) | simp_all) (by kernel_rfl)
theorem slot_iter : Slot "set_iterator" "__iter__" "set_iterator.__iter__" := .of (owner := "set_iterator") (n := "__iter__") (by rfl) (by decide +kernel) (by rfl) (by decide +kernel) (by first | exact .inl (by rfl) | rfl) (by kernel_rfl)
theorem entry_next : entryFor table "set_iterator.__next__" = some Builtin.«set_iterator.__next__» := entryFor_of_tree (by rfl)
theorem entry_iter : entryFor table "set_iterator.__iter__" = some Builtin.«dict_keyiterator.__iter__» := entryFor_alias (id' := "dict_keyiterator.__iter__") (by kernel_rfl) rfl (by decide +kernel) (by kernel_rfl)
theorem entry_siter : entryFor table "set.__iter__" = some Builtin.«frozenset.__iter__» := entryFor_alias (id' := "frozenset.__iter__") (by kernel_rfl) rfl (by decide +kernel) (by kernel_rfl)
theorem args_next (a : Value) : argsOk "set_iterator.__next__" ⟨[a], []⟩ := by
 unfold argsOk; rw [signature?_of (n := "__txen__".toList) (by rfl) owner_it]; kernel_rfl
theorem args_iter (a : Value) : argsOk "set_iterator.__iter__" ⟨[a], []⟩ := by
 unfold argsOk; rw [signature?_of (n := "__reti__".toList) (by kernel_rfl) owner_it]; rfl
end SX
theorem erase_perm {α : Type} : ∀ (l : List α) (i : Nat) (x : α), l[i]? = some x → (x :: l.eraseIdx i).Perm l
 | [], i, x, h => by simp_all
 | y :: l, 0, x, h => by simp_all
 | y :: l, i + 1, x, h => by
  have := erase_perm l i x (by simp_all)
  exact (List.Perm.swap y x _).trans (this.cons y)
theorem pick_go (next : Nat → Nat) : ∀ (fuel k : Nat) (left : List α) (out : Array α), left.length ≤ fuel → (pickOrder.go next fuel k left out).toList.Perm (out.toList ++ left)
 | 0, k, left, out, h => by
  have : left = [] := List.length_eq_zero_iff.mp (by omega)
  subst this; unfold pickOrder.go; simp
 | fuel + 1, k, left, out, h => by
  unfold pickOrder.go
  cases left with
  | nil => simp
  | cons y l =>
   have hlt : next k % (y :: l).length < (y :: l).length := Nat.mod_lt _ (by simp)
   have e := List.getElem?_eq_getElem hlt
   rw [e]
   have p := erase_perm _ _ _ e
   have hl : ((y :: l).eraseIdx (next k % (y :: l).length)).length ≤ fuel := by
    have := p.length_eq
    grind
   refine (pick_go next fuel (k + 1) _ _ hl).trans ?_
   rw [Array.toList_push, List.append_assoc]
   exact p.append_left _
theorem pick_perm (next : Nat → Nat) (xs : Array α) : (pickOrder next xs).toList.Perm xs.toList := by
 have := pick_go next xs.size 0 xs.toList #[] (by simp)
 exact this
section
variable {prog : Program} {w : World} {A : Around} {E : Value → Shared → Prop} {s : Shared} {a I : Addr} {es : Array (Int × Value)} {ep : Nat} {t : SetTable}
theorem draw_order {α : Type} : ∀ (n : Nat) (xs : List α) {s : Shared} {Q : List α → Shared → Prop}, xs.length ≤ n → (∀ ys d, ys.Perm xs → Q ys { s with drawn := d }) → wpAny (model prog w) A (drawOrder n xs) Q E s
 | 0, xs, s, Q, h, q => by
  have : xs = [] := List.length_eq_zero_iff.mp (by omega)
  subst this
  exact wpAny_pure (q [] s.drawn (List.Perm.refl _))
 | n + 1, [], s, Q, h, q => wpAny_pure (q [] s.drawn (List.Perm.refl _))
 | n + 1, x :: l, s, Q, h, q => by
  unfold drawOrder
  intro Γ p hΓ
  show Sem.wp _ Γ (Sem.bind (Sem.choose .order (x :: l).length .pure) _) _ _ p s
  rw [Sem.wp_bind, Sem.wp_choose]
  refine ⟨by simp, ?_⟩
  have hlt : w.draws .order (s.drawn.get .order) % (x :: l).length < (x :: l).length := Nat.mod_lt _ (by simp)
  have e := List.getElem?_eq_getElem hlt
  show Sem.wp _ Γ (match (x :: l)[w.draws .order (s.drawn.get .order) % (x :: l).length]? with | some y => _ | none => _) _ _ p _
  rw [e]
  have pe := erase_perm _ _ _ e
  have hl : ((x :: l).eraseIdx (w.draws .order (s.drawn.get .order) % (x :: l).length)).length ≤ n := by grind
  exact (wpAny_bind (draw_order n _ (s := { s with drawn := s.drawn.bump .order }) hl fun ys d pp => wpAny_pure (q _ d ((pp.cons _).trans pe)))) Γ p hΓ
def SA (h : Heap) (a : Addr) (es : Array (Int × Value)) (ep : Nat) (t : SetTable) : Prop := ∃ o, h.get? a = some o ∧ o.ExactSet ∧ o.data = .set es ep t
theorem SA.at (x : SA h a es ep t) (e : ∀ o, h.get? a = some o → h'.get? a = some o) : SA h' a es ep t := let ⟨o, ho, r⟩ := x; ⟨o, e _ ho, r⟩
def SIt (h : Heap) (I a : Addr) (n ep : Nat) (f : Value) (i : Nat) : Prop := h.get? I = some { cls := .type "set_iterator", data := .fields #[f, .int i 0, .ref a, .int n 0, .int ep 0] }
theorem next_text (hb : byT w = true) (hs : SA s.heap a es ep t) (hf : t.fits es.size = true) (h : Q (((pickOrder (w.params.setOrder a ep) es)[i]?).map fun e => (e.2, slot)) s) : wpAny (model prog w) A (setNext a slot i ep) Q E s := by
 obtain ⟨o, ho, _, hd⟩ := hs
 refine wpAny_bind (wpAny_setState_of ho hd hf ?_)
 dsimp only
 refine wpAny_bind (wpAny_bind (wpAny_askSetting (wpAny_pure ?_)))
 dsimp only
 rw [if_pos (show (model prog w).w.params.followText "set-order" = true from hb), if_neg (by simp)]
 refine wpAny_bind (wpAny_bind (wpAny_setState_of ho hd hf ?_))
 dsimp only
 refine wpAny_bind (wpAny_bind (wpAny_askSetting (wpAny_pure ?_)))
 dsimp only
 rw [if_pos (show (model prog w).w.params.followText "set-order" = true from hb)]
 exact wpAny_bind (wpAny_askSetting (wpAny_pure (wpAny_pure h)))
theorem next_place (hb : byT w = false) (hl : t.led = true) (hp : (!t.plain && decide (es.size > 1)) = false) (hs : SA s.heap a es ep t) (hf : t.fits es.size = true)
 (h : Q (match es[SetTable.below t.place slot]?, t.place[SetTable.below t.place slot]? with | some (_, x), some j => some (x, j + 1) | _, _ => none) s) : wpAny (model prog w) A (setNext a slot i ep) Q E s := by
 obtain ⟨o, ho, _, hd⟩ := hs
 refine wpAny_bind (wpAny_setState_of ho hd hf ?_)
 dsimp only
 refine wpAny_bind (wpAny_bind (wpAny_askSetting (wpAny_pure ?_)))
 dsimp only
 rw [if_neg (show ¬ (model prog w).w.params.followText "set-order" = true by rw [show (model prog w).w.params.followText "set-order" = false from hb]; decide)]
 refine wpAny_ite_split (fun z => absurd z (by show ¬ (!t.plain && decide (es.size > 1)) = true; rw [hp]; decide)) (fun _ => ?_)
 refine wpAny_bind ?_
 show wpAny _ _ (if (!t.led && !es.isEmpty) = true then _ else _) _ _ _
 rw [if_neg (by rw [hl]; simp)]
 exact wpAny_pure (wpAny_pure h)
end
section
variable {prog : Program} {w : World} {A : Around} {E : Value → Shared → Prop} {s : Shared} {a I : Addr} {es : Array (Int × Value)} {ep : Nat} {t : SetTable}
theorem sit_item {slot i nx : Nat} {x : Value} (hit : SIt s.heap I a es.size ep (.int slot 0) i) (hs : SA s.heap a es ep t) (hf : t.fits es.size = true)
 (hN : ∀ (A : Around) (E : Value → Shared → Prop) (Q : Option (Value × Nat) → Shared → Prop), Q (some (x, nx)) s → wpAny (model prog w) A (setNext a slot i ep) Q E s)
 (hQ : ∀ h', SIt h' I a es.size ep (.int nx 0) (i + 1) → Heap.SameBut I s.heap h' → Q (some x) { s with heap := h' }) : wpAny (model prog w) A (pyNext (.ref I)) Q E s := by
 obtain ⟨o, ho, hex, hd⟩ := id hs
 have h1 : s.heap.get? I = _ := hit
 have hT : s.TypeIs (.ref I) "set_iterator" := ⟨_, h1, rfl⟩
 have hN' : ∀ (A : Around) (E : Value → Shared → Prop) (Q : Option (Value × Nat) → Shared → Prop), Q (some (x, nx)) s → wpAny (model prog w) A (setNext a (slot : Int).toNat (i : Int).toNat (ep : Int).toNat) Q E s := fun A E Q h => hN A E Q h
 refine wpAny_bind (wpAny_attempt (wpAny_callSpecial?_slot hT SX.slot_next (wpAny_call_entry SX.slot_next hT SX.entry_next ?_ (SX.args_next _))))
 wp_walk using wpAny_fieldsOf h1 rfl, wpAny_setEntries_of ho hd hf, hN' _ _ _
 have u1 := Heap.get?_update_self (Obj.mapFields (·.setIfInBounds 0 (rawInt (nx : Int)))) h1 rfl
 have u2 := Heap.get?_update_self (Obj.mapFields (·.setIfInBounds 1 (rawInt ((i : Int) + 1)))) u1 rfl
 exact ⟨_, rfl, wpAny_pure (hQ _ u2 ((Heap.SameBut.update ..).trans (Heap.SameBut.update ..)))⟩
theorem sit_end {slot i : Nat} {Q : Option Value → Shared → Prop} (hh : A.handled = none) (hit : SIt s.heap I a es.size ep (.int slot 0) i) (hs : SA s.heap a es ep t) (hf : t.fits es.size = true)
 (hN : ∀ (A : Around) (E : Value → Shared → Prop) (Q : Option (Value × Nat) → Shared → Prop), Q none s → wpAny (model prog w) A (setNext a slot i ep) Q E s)
 (hQ : ∀ h', Heap.ExtBut I s.heap h' → Q none { s with heap := h' }) : wpAny (model prog w) A (pyNext (.ref I)) Q E s := by
 obtain ⟨o, ho, hex, hd⟩ := id hs
 have h1 : s.heap.get? I = _ := hit
 have hT : s.TypeIs (.ref I) "set_iterator" := ⟨_, h1, rfl⟩
 have hN' : ∀ (A : Around) (E : Value → Shared → Prop) (Q : Option (Value × Nat) → Shared → Prop), Q none s → wpAny (model prog w) A (setNext a (slot : Int).toNat (i : Int).toNat (ep : Int).toNat) Q E s := fun A E Q h => hN A E Q h
 refine wpAny_bind (wpAny_attempt (wpAny_callSpecial?_slot hT SX.slot_next (wpAny_call_entry SX.slot_next hT SX.entry_next ?_ (SX.args_next _))))
 wp_walk using wpAny_fieldsOf h1 rfl, wpAny_setEntries_of ho hd hf, hN' _ _ _
 refine wpAny_raiseNew_none hh (wpAny_bind (wpAny_isInstance (b := true) ⟨_, Heap.get?_push_size _ rfl, rfl⟩ isSubtype_stop (wpAny_pure (hQ _ fun b o hb e => ?_))))
 exact Heap.get?_push_of_some _ (Heap.get?_push_of_some _ (by rw [Heap.get?_update_other _ _ hb.symm]; exact e))
theorem sit_itemD {tp : Addr} {ds : List Nat} {i d : Nat} {e : Int × Value} {c : Nat} {Q : Option Value → Shared → Prop} (hit : SIt s.heap I a es.size ep (.ref tp) i) (hs : SA s.heap a es ep t) (hf : t.fits es.size = true) (htp : s.heap.get? tp = some (seqObj "tuple" (ds.map fun (d : Nat) => rawInt d).toArray c)) (hd' : ds[i]? = some d) (he : es[d]? = some e)
 (hQ : ∀ h', SIt h' I a es.size ep (.ref tp) (i + 1) → Heap.SameBut I s.heap h' → Q (some e.2) { s with heap := h' }) : wpAny (model prog w) A (pyNext (.ref I)) Q E s := by
 obtain ⟨o, ho, hex, hd⟩ := id hs
 have h1 : s.heap.get? I = _ := hit
 have hT : s.TypeIs (.ref I) "set_iterator" := ⟨_, h1, rfl⟩
 refine wpAny_bind (wpAny_attempt (wpAny_callSpecial?_slot hT SX.slot_next (wpAny_call_entry SX.slot_next hT SX.entry_next ?_ (SX.args_next _))))
 have hdr : ∀ (A : Around) (E : Value → Shared → Prop) (Q : Value → Shared → Prop), Q e.2 s → wpAny (model prog w) A (setNextDrawn a (d : Int).toNat (ep : Int).toNat) Q E s := fun A E Q h => by
  unfold setNextDrawn
  refine wpAny_bind (wpAny_setState_of ho hd hf ?_)
  dsimp only
  rw [if_neg (by simp)]
  simp only [Int.toNat_natCast, he]
  exact wpAny_pure h
 have hpl : ((ds.map fun (d : Nat) => rawInt d).toArray)[(i : Int).toNat]? = some (Value.int (d : Int) 0) := by
  rw [Int.toNat_natCast, List.getElem?_toArray, List.getElem?_map, hd']; rfl
 wp_walk using wpAny_fieldsOf h1 rfl, wpAny_setEntries_of ho hd hf
 rw [hpl]
 dsimp only
 wp_walk using hdr _ _ _
 have u2 := Heap.get?_update_self (Obj.mapFields (·.setIfInBounds 1 (rawInt ((i : Int) + 1)))) h1 rfl
 exact ⟨_, rfl, wpAny_pure (hQ _ u2 (Heap.SameBut.update ..))⟩
theorem sit_endD {tp : Addr} {ds : List Nat} {i : Nat} {c : Nat} {Q : Option Value → Shared → Prop} (hh : A.handled = none) (hit : SIt s.heap I a es.size ep (.ref tp) i) (hs : SA s.heap a es ep t) (hf : t.fits es.size = true) (htp : s.heap.get? tp = some (seqObj "tuple" (ds.map fun (d : Nat) => rawInt d).toArray c)) (hd' : ds[i]? = none)
 (hQ : ∀ h', Heap.ExtBut I s.heap h' → Q none { s with heap := h' }) : wpAny (model prog w) A (pyNext (.ref I)) Q E s := by
 obtain ⟨o, ho, hex, hd⟩ := id hs
 have h1 : s.heap.get? I = _ := hit
 have hT : s.TypeIs (.ref I) "set_iterator" := ⟨_, h1, rfl⟩
 refine wpAny_bind (wpAny_attempt (wpAny_callSpecial?_slot hT SX.slot_next (wpAny_call_entry SX.slot_next hT SX.entry_next ?_ (SX.args_next _))))
 have hpl : ((ds.map fun (d : Nat) => rawInt d).toArray)[(i : Int).toNat]? = none := by
  rw [Int.toNat_natCast, List.getElem?_toArray, List.getElem?_map, hd']; rfl
 wp_walk using wpAny_fieldsOf h1 rfl, wpAny_setEntries_of ho hd hf
 rw [hpl]
 dsimp only
 wp_walk
 refine wpAny_raiseNew_none hh (wpAny_bind (wpAny_isInstance (b := true) ⟨_, Heap.get?_push_size _ rfl, rfl⟩ isSubtype_stop (wpAny_pure (hQ _ fun b o hb e => ?_))))
 exact Heap.get?_push_of_some _ (Heap.get?_push_of_some _ (by rw [Heap.get?_update_other _ _ hb.symm, Heap.get?_update_other _ _ hb.symm]; exact e))
theorem sit_self (hit : SIt s.heap I a n ep f i) (h : Q (.ref I) s) : wpAny (model prog w) A (pyIter (.ref I)) Q E s := by
 have hT : s.TypeIs (.ref I) "set_iterator" := ⟨_, hit, rfl⟩
 exact wpAny_pyIter_slot hT SX.slot_iter (wpAny_call_entry SX.slot_iter hT SX.entry_iter (wpAny_pure ⟨_, rfl, "set_iterator", _, hT, SX.slot_next.lookup, h⟩) (SX.args_iter _))
end
section
variable {prog : Program} {w : World} {A : Around} {E : Value → Shared → Prop} {s : Shared} {a I : Addr} {es : Array (Int × Value)} {ep : Nat} {t : SetTable}
theorem sa_walkT (hh : A.handled = none) (hne : a ≠ I) (hb : byT w = true) (hf : t.fits es.size = true) : Walks prog w A I [I, a] [I] ((pickOrder (w.params.setOrder a ep) es).toList.map (·.2)).length
 (fun i v => ((pickOrder (w.params.setOrder a ep) es).toList.map (·.2))[i]? = some v) (fun i h => SIt h I a es.size ep (.int (0 : Nat) 0) i ∧ SA h a es ep t) where
 sub := fun b hb => by rw [List.mem_singleton.mp hb]; exact .head _
 frame := fun _ _ _ ⟨x, y⟩ hk => ⟨hk I (by simp) _ x, y.at fun o e => hk a (by simp) o e⟩
 item := fun i s Q E hi st hQ => by
  rw [List.length_map, Array.length_toList] at hi
  refine sit_item st.1 st.2 hf (x := ((pickOrder (w.params.setOrder a ep) es)[i]).2) (nx := 0) (fun A E Q h => next_text hb st.2 hf ?_) fun h' hit' hs' => ?_
  · rw [Array.getElem?_eq_getElem hi]; exact h
  · refine hQ _ h' s.toks ?_ ⟨hit', st.2.at fun o e => hs'.extBut a o hne e⟩ fun b o hb e => hs'.extBut b o (fun h => hb (by simp [h])) e
    rw [List.getElem?_map, Array.getElem?_toList, Array.getElem?_eq_getElem hi]; rfl
 done := fun s Q E st hQ => by
  rw [List.length_map, Array.length_toList] at st
  refine sit_end hh st.1 st.2 hf (fun A E Q h => next_text hb st.2 hf ?_) fun h' he' => hQ h' s.toks fun b o hb e => he' b o (fun h => hb (by simp [h])) e
  simp_all
 self := fun _ _ _ _ ⟨x, _⟩ hQ => sit_self x hQ
def slotAt (p : Array Nat) : Nat → Nat
 | 0 => 0
 | i + 1 => p.getD i 0 + 1
theorem below_slot (hs : p.toList.Pairwise (· < ·)) (hi : i ≤ p.size) : SetTable.below p (slotAt p i) = i := by
 cases i with
 | zero => exact below_zero hs
 | succ i =>
  have e : p[i]? = some p[i] := Array.getElem?_eq_getElem _
  show SetTable.below p (p.getD i 0 + 1) = _
  rw [show p.getD i 0 = p[i] by simp [Array.getD, show i < p.size by omega]]
  exact below_next hs e
theorem sa_walkP (hh : A.handled = none) (hne : a ≠ I) (hb : byT w = false) (hl : t.led = true) (hp : (!t.plain && decide (es.size > 1)) = false) (rt : RT t) (hf : t.fits es.size = true) : Walks prog w A I [I, a] [I] (es.toList.map (·.2)).length
 (fun i v => (es.toList.map (·.2))[i]? = some v) (fun i h => SIt h I a es.size ep (.int (slotAt t.place i) 0) i ∧ SA h a es ep t) where
 sub := fun b hb => by rw [List.mem_singleton.mp hb]; exact .head _
 frame := fun _ _ _ ⟨x, y⟩ hk => ⟨hk I (by simp) _ x, y.at fun o e => hk a (by simp) o e⟩
 item := fun i s Q E hi st hQ => by
  rw [List.length_map, Array.length_toList] at hi
  have hz : t.place.size = es.size := by
   simp only [SetTable.fits, Bool.and_eq_true, beq_iff_eq] at hf; exact hf.1
  have hi' : i < t.place.size := by omega
  refine sit_item st.1 st.2 hf (x := es[i].2) (nx := slotAt t.place (i + 1)) (fun A E Q h => next_place hb hl hp st.2 hf ?_) fun h' hit' hs' => ?_
  · rw [below_slot rt.2 (by omega), Array.getElem?_eq_getElem hi, Array.getElem?_eq_getElem hi']
    show Q (some (es[i].2, t.place[i] + 1)) _
    rw [show t.place[i] + 1 = slotAt t.place (i + 1) by show _ = t.place.getD i 0 + 1; simp [Array.getD, hi']]
    exact h
  · refine hQ _ h' s.toks ?_ ⟨hit', st.2.at fun o e => hs'.extBut a o hne e⟩ fun b o hb e => hs'.extBut b o (fun h => hb (by simp [h])) e
    rw [List.getElem?_map, Array.getElem?_toList, Array.getElem?_eq_getElem hi]; rfl
 done := fun s Q E st hQ => by
  rw [List.length_map, Array.length_toList] at st
  have hz : t.place.size = es.size := by
   simp only [SetTable.fits, Bool.and_eq_true, beq_iff_eq] at hf; exact hf.1
  refine sit_end hh st.1 st.2 hf (fun A E Q h => next_place hb hl hp st.2 hf ?_) fun h' he' => hQ h' s.toks fun b o hb e => he' b o (fun h => hb (by simp [h])) e
  rw [below_slot rt.2 (by omega), Array.getElem?_eq_none (Nat.le_refl _)]; exact h
 self := fun _ _ _ _ ⟨x, _⟩ hQ => sit_self x hQ
theorem sa_walkD {tp : Addr} {ds : List Nat} {c : Nat} (hh : A.handled = none) (hne : a ≠ I) (hnt : tp ≠ I) (hds : ∀ d ∈ ds, d < es.size) (hf : t.fits es.size = true) : Walks prog w A I [I, a, tp] [I] (ds.map fun d => (es.getD d (0, .none)).2).length
 (fun i v => (ds.map fun d => (es.getD d (0, .none)).2)[i]? = some v) (fun i h => SIt h I a es.size ep (.ref tp) i ∧ SA h a es ep t ∧ h.get? tp = some (seqObj "tuple" (ds.map fun (d : Nat) => rawInt d).toArray c)) where
 sub := fun b hb => by grind
 frame := fun _ _ _ ⟨x, y, z⟩ hk => ⟨hk I (by simp) _ x, y.at fun o e => hk a (by simp) o e, hk tp (by simp) _ z⟩
 item := fun i s Q E hi st hQ => by
  rw [List.length_map] at hi
  have e1 : ds[i]? = some ds[i] := List.getElem?_eq_getElem hi
  have hd := hds _ (List.getElem_mem hi)
  refine sit_itemD st.1 st.2.1 hf st.2.2 e1 (Array.getElem?_eq_getElem hd) fun h' hit' hs' => ?_
  refine hQ _ h' s.toks ?_ ⟨hit', st.2.1.at fun o e => hs'.extBut a o hne e, hs'.extBut tp _ hnt st.2.2⟩ fun b o hb e => hs'.extBut b o (fun h => hb (by simp [h])) e
  simp_all
 done := fun s Q E st hQ => by
  rw [List.length_map] at st
  exact sit_endD hh st.1 st.2.1 hf st.2.2 (by simp) fun h' he' => hQ h' s.toks fun b o hb e => he' b o (fun h => hb (by simp [h])) e
 self := fun _ _ _ _ ⟨x, _⟩ hQ => sit_self x hQ
theorem ints_of : ∀ {l : List (Int × Value)}, (∀ e ∈ l, ∃ n tk, e = (hashInt n, Value.int n tk)) → IntsAre (l.map (·.2)) (l.map fun e => vI e.2)
 | [], _ => .nil
 | e :: l, h => by
  obtain ⟨n, tk, rfl⟩ := h e (.head _)
  exact .cons n tk (ints_of fun x hx => h x (.tail _ hx))
theorem set_iter {ns : List Int} {Q : Value → Shared → Prop} (hS : SetI w s.heap a ns)
 (h : ∀ (I : Addr) (h1 : Heap) (d1 : _) (vs : List Value) (os : List Int) (fp : List Addr) (St : Nat → Heap → Prop), s.heap.objs.size ≤ I → (∀ b o, s.heap.get? b = some o → h1.get? b = some o) → os.Perm ns → IntsAre vs os → (∀ b ∈ fp, b = a ∨ s.heap.objs.size ≤ b) →
  (∀ A : Around, A.handled = none → Walks prog w A I fp [I] vs.length (fun i v => vs[i]? = some v) St) → St 0 h1 → Q (.ref I) { s with heap := h1, drawn := d1 }) : wpAny (model prog w) A (pyIter (.ref a)) Q E s := by
 obtain ⟨o, es, ep, t, ho, hex, hd, hes, hm, hnd, hz, hf, rt, hl⟩ := hS
 have hT : s.TypeIs (.ref a) "set" := ⟨o, ho, hex.1⟩
 have hlt : a < s.heap.objs.size := Heap.lt_size ho
 have hsa : SA s.heap a es ep t := ⟨o, ho, hex, hd⟩
 refine wpAny_pyIter_slot hT F.slot_set_iter (wpAny_call_entry F.slot_set_iter hT SX.entry_siter ?_ (F.args_set_iter_1 _))
 unfold Builtin.«frozenset.__iter__»
 have sz : ∀ (A : Around) (E : Value → Shared → Prop) (Q : Nat → Shared → Prop), Q es.size s → wpAny (model prog w) A (Builtin.Frozenset.sizeOf a) Q E s := fun A E Q q => by
  unfold Builtin.Frozenset.sizeOf
  exact wpAny_bind (wpAny_setEntries_of ho hd hf (wpAny_pure q))
 have dr : ∀ (A : Around) (E : Value → Shared → Prop) (Q : Bool → Shared → Prop), Q (!byT w && (!t.plain && decide (es.size > 1))) s → wpAny (model prog w) A (setDrawn a) Q E s := fun A E Q q => by
  unfold setDrawn setsByText
  refine wpAny_bind (wpAny_setState_of ho hd hf ?_)
  exact wpAny_bind (wpAny_bind (wpAny_askSetting (wpAny_pure (wpAny_pure q))))
 have epo : ∀ (s' : Shared) (A : Around) (E : Value → Shared → Prop) (Q : Nat → Shared → Prop), s'.heap.get? a = some o → Q ep s' → wpAny (model prog w) A (setEpoch a) Q E s' := fun s' A E Q ho' q => wpAny_setEpoch_of ho' hd hf q
 wp_walk using sz _ _ _, dr _ _ _
 have pdl : ∀ ds : List Nat, ds.Perm (List.range es.size) → ∀ d ∈ ds, d < es.size := fun ds p d hd => List.mem_range.mp (p.mem_iff.mp hd)
 have pvs : ∀ ds : List Nat, ds.Perm (List.range es.size) → (ds.map fun d => es.getD d (0, Value.none)).Perm es.toList := fun ds p => by
  refine (p.map _).trans ?_
  rw [show (List.range es.size).map (fun d => es.getD d (0, Value.none)) = es.toList from ?_]
  apply List.ext_getElem
  · simp
  · intro i h1 h2
    simp only [List.length_map, List.length_range] at h1
    simp [Array.getD, h1]
 have cls : ∀ l : List (Int × Value), l.Perm es.toList → (l.map fun e => vI e.2).Perm ns ∧ IntsAre (l.map (·.2)) (l.map fun e => vI e.2) := fun l p => ⟨hm ▸ p.map _, ints_of fun e he => hes e (p.mem_iff.mp he)⟩
 by_cases hc : (!byT w && (!t.plain && decide (es.size > 1))) = true
 · rw [if_pos hc]
   refine wpAny_bind (draw_order _ _ (by simp) fun ds d1 pd => wpAny_bind (wpAny_newTuple ?_ (by rw [List.length_map, pd.length_eq, List.length_range]; exact fits_of_scanBound hz)))
   have hoT : (s.heap.push (seqObj "tuple" (ds.map fun (i : Nat) => rawInt i).toArray 0)).get? a = some o := Heap.get?_push_of_some _ ho
   refine wpAny_bind (epo _ _ _ _ hoT (wpAny_bind (wpAny_newObj_type (wpAny_pure ?_))))
   obtain ⟨c1, c2⟩ := cls _ (pvs ds pd)
   rw [List.map_map] at c2
   refine ⟨_, rfl, "set_iterator", _, ⟨_, Heap.get?_push_size _ rfl, rfl⟩, SX.slot_next.lookup, h _ _ d1 _ _ [_, a, s.heap.objs.size] _ (by rw [Heap.size_push]; exact Nat.le_succ _) (fun b o e => Heap.get?_push_of_some _ (Heap.get?_push_of_some _ e)) c1 c2 (fun b hb => ?_) (fun A hh => sa_walkD (c := 0) (t := t) hh (by rw [Heap.size_push]; exact Nat.ne_of_lt (Nat.lt_succ_of_lt hlt)) (by rw [Heap.size_push]; exact Nat.ne_of_lt (Nat.lt_succ_self _)) (pdl ds pd) hf) ⟨Heap.get?_push_size _ rfl, hsa.at fun o e => Heap.get?_push_of_some _ (Heap.get?_push_of_some _ e), Heap.get?_push_of_some _ (Heap.get?_push_size _ rfl)⟩⟩
   rcases List.mem_cons.mp hb with z | hb
   · right; rw [z, Heap.size_push]; exact Nat.le_succ _
   · rcases List.mem_cons.mp hb with z | hb
     · exact .inl z
     · right; rw [List.mem_singleton.mp hb]; exact Nat.le_refl _
 · rw [if_neg hc]
   refine wpAny_bind (wpAny_pure (wpAny_bind (epo _ _ _ _ ho (wpAny_bind (wpAny_newObj_type (wpAny_pure ?_))))))
   have there : ∀ b ∈ [s.heap.objs.size, a], b = a ∨ s.heap.objs.size ≤ b := fun b hb => by
    rcases List.mem_cons.mp hb with z | hb
    · right; rw [z]; exact Nat.le_refl _
    · exact .inl (List.mem_singleton.mp hb)
   have hsa' := hsa.at (h' := s.heap.push { cls := .type "set_iterator", data := .fields #[rawInt 0, rawInt 0, .ref a, rawInt es.size, rawInt ep] }) fun o e => Heap.get?_push_of_some _ e
   cases hb : byT w with
   | true =>
    obtain ⟨c1, c2⟩ := cls _ (pick_perm (w.params.setOrder a ep) es)
    exact ⟨_, rfl, "set_iterator", _, ⟨_, Heap.get?_push_size _ rfl, rfl⟩, SX.slot_next.lookup, h _ _ s.drawn _ _ _ _ (Nat.le_refl _) (fun b o e => Heap.get?_push_of_some _ e) c1 c2 there (fun A hh => sa_walkT (t := t) hh (Nat.ne_of_lt hlt) hb hf) ⟨Heap.get?_push_size _ rfl, hsa'⟩⟩
   | false =>
    obtain ⟨c1, c2⟩ := cls _ (List.Perm.refl _)
    rw [hb] at hl hc
    exact ⟨_, rfl, "set_iterator", _, ⟨_, Heap.get?_push_size _ rfl, rfl⟩, SX.slot_next.lookup, h _ _ s.drawn _ _ _ _ (Nat.le_refl _) (fun b o e => Heap.get?_push_of_some _ e) c1 c2 there (fun A hh => sa_walkP (t := t) hh (Nat.ne_of_lt hlt) hb hl (by simpa using hc) rt hf) ⟨Heap.get?_push_size _ rfl, hsa'⟩⟩
end
end Br
namespace Br
open PySem PySem.Spec PySem.Calls PyProof.Rows PySem.W
section
variable {prog : Program} {w : World} {A : Around} {E : Value → Shared → Prop} {s : Shared} {a : Addr} {ns : List Int}
theorem set_hint (hT : s.TypeIs (.ref a) "set") (h : Q false s) : wpAny (model prog w) A (Builtin.List.listLengthHint (.ref a)) Q E s := by
 refine wpAny_bind (wpAny_specialOf hT F.slot_set_len.lookup ?_)
 generalize hid : ("set.__len__" : String) = id0
 wp_delta
 subst hid
 refine wpAny_bind (wpAny_isInstance (T := "set") (b := true) hT (by rw [isSubtype_type]; kernel_rfl) (wpAny_ite_split (fun z => absurd z (by decide)) fun _ => wpAny_ite_split (fun _ => ?_) (fun z => absurd (by decide +kernel) z)))
 exact wpAny_bind (wpAny_typeOf hT (wpAny_pure h))
theorem set_collect {R : List Value → Shared → Prop} (hh : A.handled = none) (hS : SetI w s.heap a ns) (h : ∀ h' d tk (vs : List Value) (os : List Int), (∀ b o, s.heap.get? b = some o → h'.get? b = some o) → os.Perm ns → IntsAre vs os → R vs { s with heap := h', drawn := d, toks := tk }) :
 wpAny (model prog w) A (collect (.ref a)) R E s := by
 have hlt : a < s.heap.objs.size := let ⟨_, _, _, _, e, _⟩ := hS; Heap.lt_size e
 have hn : ns.length ≤ sizeLine := by
  obtain ⟨o, es, ep, t, ho, hex, hd, hes, hm, hnd, hz, r⟩ := hS
  rw [← hm, List.length_map, Array.length_toList]; exact fits_of_scanBound hz
 unfold collect
 refine wpAny_bind (wpAny_runValue (codeAny_builtin entry_proto_collect' ?_))
 rw [Around.under_plainId PySem.F.plain_proto_collect _]
 show wpAny _ A.in1 (newList [] >>= fun l => again (.builtin "list.__iadd__" ⟨[l, .ref a], []⟩)) _ _ s
 refine wpAny_bind (wpAny_newObj_type (wpAny_pure ⟨plainId_quiet PySem.F.plain_list_iadd _, codeAny_builtin entry_list_iadd' ?_⟩))
 rw [Around.under_plainId PySem.F.plain_list_iadd _]
 generalize hS0 : s.heap.objs.size = S at *
 generalize hg : s.heap.push { cls := .type "list", data := .seq ([] : List Value).toArray } = g
 have gS : g.get? S = some { cls := .type "list", data := .seq #[] } := by rw [← hg, ← hS0]; exact Heap.get?_push_size _ rfl
 have gk : ∀ b o, s.heap.get? b = some o → g.get? b = some o := fun b o e => by rw [← hg]; exact Heap.get?_push_of_some _ e
 have gz : g.objs.size = S + 1 := by rw [← hg, Heap.size_push, hS0]
 have hSg : SetI w g a ns := hS.at fun o e => gk a o e
 have hTy : Shared.TypeIs { s with heap := g } (.ref a) "set" := let ⟨o, _, _, _, e, x, _⟩ := hSg; ⟨o, e, x.1⟩
 show wpAny _ A.in1 (Builtin.List.listExtendWith (.ref S) (.ref a) (.ref S)) _ _ _
 unfold Builtin.List.listExtendWith
 refine wpAny_bind (wpAny_typeOf hTy ?_)
 have e1 : Builtin.List.listSameRef (.ref S) (.ref a) = false := by simp [Builtin.List.listSameRef]; exact Nat.ne_of_gt hlt
 rw [if_neg (by rw [e1]; decide)]
 refine wpAny_bind (set_iter (s := { s with heap := g }) hSg fun I h1 d1 vs os fp St hI hk pe hv hfp W st => ?_)
 have hI : S + 1 ≤ I := by rw [← gz]; exact hI
 have hvl : vs.length ≤ sizeLine := by rw [hv.length, pe.length_eq]; exact hn
 have hT1 : Shared.TypeIs { s with heap := h1, drawn := d1 } (.ref a) "set" := let ⟨o, q, z⟩ := hTy; ⟨o, hk a o q, z⟩
 refine wpAny_bind (wpAny_holding (set_hint hT1 ?_))
 have hSf : S ∉ fp := fun z => by
  rcases hfp S z with e | e
  · exact Nat.ne_of_gt hlt e
  · have e : g.objs.size ≤ S := e
    rw [gz] at e; exact Nat.not_succ_le_self _ e
 have key : ∀ (h : Heap) (c tk : Nat), St 0 h → (∀ b o, b ≠ S → s.heap.get? b = some o → h.get? b = some o) → h.get? S = some { cls := .type "list", data := .seq #[] c } →
  codeAny (model prog w) A (.builtin "list.extend.loop" ⟨[.ref S, .ref I, .ref S], []⟩) (fun r s2 => r = .ok (.ret (.ref S)) ∧ ∃ h' tk acc c', s2 = { s with heap := h', drawn := d1, toks := tk } ∧ (∀ b o, s.heap.get? b = some o → h'.get? b = some o) ∧ h'.get? S = some { cls := .type "list", dict := none, data := .seq acc c', slots := #[] } ∧ acc.toList = vs) { s with heap := h, drawn := d1, toks := tk } := by
  intro h c tk hst hk' hS'
  refine codeAny_extend_loopS (W A.in1 hh).toS hvl S hSf (.ref S) vs.length 0 _ #[] c rfl (Nat.zero_le _) hst hS' (ItemsOf.nil _) fun s' acc c' hm hS2 hacc => ?_
  rw [Moved.eq_with hm]
  refine ⟨rfl, s'.heap, s'.toks, acc, c', rfl, fun b o e => ?_, hS2, ?_⟩
  · have hb : b < S := by rw [← hS0]; exact Heap.lt_size e
    exact hm.heap b o (fun z => by
     rcases List.mem_cons.mp z with z | z
     · exact Nat.ne_of_lt hb z
     · exact Nat.ne_of_lt (Nat.lt_of_lt_of_le hb (Nat.le_of_succ_le hI)) (List.mem_singleton.mp z)) (hk' b o (Nat.ne_of_lt hb) e)
  · apply List.ext_getElem?
    intro i
    rcases Nat.lt_or_ge i vs.length with z | z
    · have hi : i < acc.size := by rw [hacc.1]; exact z
      have := hacc.2 i _ (Array.getElem?_eq_getElem hi)
      rw [this, Array.getElem?_toList, Array.getElem?_eq_getElem hi]
    · rw [List.getElem?_eq_none z, List.getElem?_eq_none (by rw [Array.length_toList, hacc.1]; exact z)]
 have hS1 : h1.get? S = some { cls := .type "list", data := .seq #[] } := hk _ _ gS
 have fin : ∀ (r : Result) (s2 : Shared), (r = .ok (.ret (.ref S)) ∧ ∃ h' tk acc c', s2 = { s with heap := h', drawn := d1, toks := tk } ∧ (∀ b o, s.heap.get? b = some o → h'.get? b = some o) ∧ h'.get? S = some { cls := .type "list", dict := none, data := .seq acc c', slots := #[] } ∧ acc.toList = vs) →
  wpAny (model prog w) A (load S >>= fun o => match o.data with | .seq xs _ => pure xs.toList | _ => unsupported "internal:collect") R E s2 := by
  rintro r s2 ⟨rfl, h', tk, acc, c', rfl, k2, e2, e3⟩
  refine wpAny_bind (wpAny_load e2 (wpAny_pure ?_))
  rw [e3]
  exact h h' d1 tk vs os k2 pe hv
 refine wpAny_ite_split (fun _ => ?_) (fun _ => wpAny_pure ⟨plainId_quiet PySem.F.plain_extend_loop _, codeAny_mono (key h1 _ _ st (fun b o _ e => hk b o (gk b o e)) hS1) fun r s2 x => ?_⟩)
 · refine wpAny_bind (wpAny_rule (wpAny_bind ?_))
   show wpAny _ _ (updateSeq S (·.push .none) >>= fun _ => updateSeq S (·.pop)) _ _ _
   refine wpAny_bind (wpAny_updateSeq hS1 rfl ?_)
   have u1 := Heap.get?_update_self (Obj.mapSeq (·.push Value.none)) hS1 rfl
   refine wpAny_updateSeq (hz := by seq_fits) u1 rfl ?_
   have u2 := Heap.get?_update_self (Obj.mapSeq (·.pop)) u1 rfl
   have oth : ∀ b o, b ≠ S → h1.get? b = some o → ((h1.update S (Obj.mapSeq (·.push Value.none))).update S (Obj.mapSeq (·.pop))).get? b = some o := fun b o nb e => by rw [Heap.get?_update_other _ _ (Ne.symm nb), Heap.get?_update_other _ _ (Ne.symm nb)]; exact e
   refine wpAny_pure ⟨plainId_quiet PySem.F.plain_extend_loop _, codeAny_mono (key _ _ _ ((W A.in1 hh).frame 0 _ _ st fun b hb o e => oth b o (fun z => hSf (z ▸ hb)) e) (fun b o nb e => oth b o nb (hk b o (gk b o e))) u2) fun r s2 x => ?_⟩
   have x1 := x.1
   subst x1
   exact fin _ s2 x
 · have x1 := x.1
   subst x1
   exact fin _ s2 x
end
section
variable {prog : Program} {w : World} {A : Around} {E : Value → Shared → Prop} {s : Shared}
theorem set_loop {I S : Addr} {fp : List Addr} {n : Nat} {P : Nat → Value → Prop} {St : Nat → Heap → Prop} {R : Result → Shared → Prop} (W : Walks prog w A.in1 I fp [I] n P St) (hSf : S ∉ fp) (val : Nat → Int) (hval : ∀ i v, P i v → ∃ t, v = .int (val i) t) (hb : n + 1 < scanBound) :
 ∀ (k i : Nat) (s : Shared) (ns : List Int), n - i = k → i ≤ n → St i s.heap → SetI w s.heap S ns → ns.length ≤ i → (∀ x, x ∈ ns ↔ ∃ j, j < i ∧ val j = x) →
  (∀ h' tk ns', SetI w h' S ns' → (∀ x, x ∈ ns' ↔ ∃ j, j < n ∧ val j = x) → (∀ b o, b ≠ S → b ≠ I → s.heap.get? b = some o → h'.get? b = some o) → R (.ok (.ret .none)) { s with heap := h', toks := tk }) →
  codeAny (model prog w) A (.builtin "set.update.loop" ⟨[.ref S, .ref I], []⟩) R s := by
 have hSI : S ≠ I := fun z => hSf (z ▸ W.sub I (List.mem_singleton.mpr rfl))
 intro k
 induction k with
 | zero =>
  intro i s ns hk hi st hS hl hm hR
  obtain rfl : i = n := by omega
  refine codeAny_builtin F.entry_set_update_loop ?_
  refine wpAny_bind (W.done s _ _ st fun h' tk hk' => wpAny_pure (hR h' tk ns (hS.at fun o e => hk' S o (by simpa using hSI) e) hm fun b o _ hb e => hk' b o (by simpa using hb) e))
 | succ k ih =>
  intro i s ns hk hi st hS hl hm hR
  refine codeAny_builtin F.entry_set_update_loop ?_
  rw [Around.under_plainId F.plain_set_update_loop _]
  refine wpAny_bind (W.item i s _ _ (by omega) st fun v h1 tk1 hP st1 k1 => ?_)
  obtain ⟨t, rfl⟩ := hval i v hP
  refine wpAny_bind (wpAny_holding (set_add (s := { s with heap := h1, toks := tk1 }) (hS.at fun o e => k1 S o (by simpa using hSI) e) (by omega) fun b h2 t2 ns2 sb si pe => ?_))
  have l2 : ns2.length ≤ i + 1 := by
   rw [pe.length_eq]; split
   · omega
   · rw [List.length_cons]; omega
  refine wpAny_pure ⟨plainId_quiet F.plain_set_update_loop _, ih (i + 1) _ ns2 (by omega) (by omega) (W.frame _ _ _ st1 fun b hb o e => (sb.2 b (fun z => hSf (z ▸ hb))).trans e) si l2 (fun x => ?_) fun h' tk ns' si' hm' k' => hR h' tk ns' si' hm' fun b o b1 b2 e => k' b o b1 b2 ((sb.2 b b1).trans (k1 b o (by simpa using b2) e))⟩
  grind
theorem setI_new (h : Heap) (a : Addr) (ho : h.get? a = some { cls := .type "set", dict := none, data := .set #[] 0 (.fresh 0 0 (!byT w)) }) : SetI w h a [] :=
 ⟨_, #[], 0, _, ho, ⟨rfl, rfl, rfl⟩, rfl, fun e he => by simp_all, rfl, List.nodup_nil, by decide, by rfl, ⟨rfl, by exact List.Pairwise.nil⟩, rfl⟩
theorem newSetI (h : Q (.ref s.heap.objs.size) { s with heap := s.heap.push { cls := .type "set", dict := none, data := .set #[] 0 (.fresh 0 0 (!byT w)) } }) : wpAny (model prog w) A (newSet (.type "set")) Q E s := by
 refine wpAny_bind (wpAny_bind (wpAny_askSetting (wpAny_pure ?_)))
 exact wpAny_bind (wpAny_alloc (wpAny_pure h))
theorem code_newI (a : Value) {Q₁ : Value → Shared → Prop} (h : Q₁ (.ref s.heap.objs.size) { s with heap := s.heap.push { cls := .type "set", dict := none, data := .set #[] 0 (.fresh 0 0 (!byT w)) } }) :
 codeAny (model prog w) A (.call (.builtin "set.__new__") ⟨[.type "set", a], []⟩) (wants Q₁ E) s := by
 refine codeAny_of_tree ?_
 show wpAny _ A.in1 (do checkBuiltinCall "set.__new__" ⟨[.type "set", a], []⟩; again (.builtin "set.__new__" ⟨[.type "set", a], []⟩)) _ _ s
 refine wpAny_bind (wpAny_of_eq (F.newCall_set_1 a) (wpAny_pure ⟨plainId_quiet F.plain_set_new _, codeAny_builtin F.entry_set_new ?_⟩))
 rw [Around.under_plainId F.plain_set_new _]
 unfold Builtin.«set.__new__» Builtin.Frozenset.newClass
 have hsub := sub_set_self
 wp_walk using newSetI
 exact h
end
section
variable {prog : Program} {w : World} {A : Around} {E : Value → Shared → Prop} {s : Shared}
theorem call_setG {T : String} {l : Addr} {n : Nat} {P : Nat → Value → Prop} {Q : Value → Shared → Prop} (hh : A.handled = none) (hlt : l < s.heap.objs.size) (hTy : ∀ h' : Heap, (∀ o, s.heap.get? l = some o → h'.get? l = some o) → ∃ o, h'.get? l = some o ∧ o.cls = .type T)
 (ns1 : isSubtype (.type T) (.type "set") = pure false) (ns2 : isSubtype (.type T) (.type "frozenset") = pure false) (nd : (Value.type T == Value.type "dict") = false)
 (iter : ∀ (A : Around) (E : Value → Shared → Prop) (s' : Shared) (Q : Value → Shared → Prop), (∀ o, s.heap.get? l = some o → s'.heap.get? l = some o) →
  (∀ (oI : Obj) (St : Nat → Heap → Prop), (∀ A : Around, A.handled = none → Walks prog w A s'.heap.objs.size [s'.heap.objs.size, l] [s'.heap.objs.size] n P St) → St 0 (s'.heap.push oI) → Q (.ref s'.heap.objs.size) { s' with heap := s'.heap.push oI }) → wpAny (model prog w) A (pyIter (.ref l)) Q E s')
 (val : Nat → Int) (hval : ∀ i v, P i v → ∃ t, v = .int (val i) t) (hb : n + 1 < scanBound)
 (h : ∀ h' tk ns', SetI w h' s.heap.objs.size ns' → (∀ x, x ∈ ns' ↔ ∃ j, j < n ∧ val j = x) → (∀ b o, s.heap.get? b = some o → h'.get? b = some o) → Q (.ref s.heap.objs.size) { s with heap := h', toks := tk }) :
 wpAny (model prog w) A (call (.type "set") [.ref l]) Q E s := by
 obtain ⟨c, tl, hmro⟩ := F.called_set.mro
 have hmade := F.called_set.made
 have hsub := F.called_set.sub
 have h1 := F.called_set.notType
 have h2 := F.called_set.canCreate
 have hct := F.typeCall_set_1 (.ref l)
 refine wpAny_call (codeAny_of_tree ?_)
 show wpAny _ _ (callAny (.type "set") _) _ _ _
 refine wpAny_pure ⟨Code.quiet_builtin _ (by decide +kernel), codeAny_builtin F.entry_type_call ?_⟩
 rw [Around.under_plain (weight_type_call_type "set" [.ref l] []) rfl]
 repeat (any_goals (first | assumption | wp_step))
 generalize hS0 : s.heap.objs.size = S at *
 generalize hg : s.heap.push { cls := .type "set", dict := none, data := .set #[] 0 (.fresh 0 0 (!byT w)) } = g
 have gS : g.get? S = some { cls := .type "set", dict := none, data := .set #[] 0 (.fresh 0 0 (!byT w)) } := by rw [← hg, ← hS0]; exact Heap.get?_push_size _ rfl
 have gk : ∀ b o, s.heap.get? b = some o → g.get? b = some o := fun b o e => by rw [← hg]; exact Heap.get?_push_of_some _ e
 have gz : g.objs.size = S + 1 := by rw [← hg, Heap.size_push, hS0]
 refine codeAny_mono (code_newI (.ref l) (E := E) (Q₁ := fun obj s₁ => obj = .ref S ∧ s₁ = { s with heap := g }) ⟨by rw [hS0], by rw [hg]⟩) fun r s₁ hr => ?_
 cases r with
 | error e => exact hr
 | ok fl =>
  cases fl with
  | ret obj =>
   obtain ⟨rfl, rfl⟩ := hr
   have hT : Shared.TypeIs { s with heap := g } (.ref S) "set" := ⟨_, gS, rfl⟩
   have hli := F.called_set.init.lookup
   have hbi := F.called_set.init.bind (.ref S)
   repeat (any_goals (first | assumption | wp_step))
   refine codeAny_mono (codeAny_call_builtin (R := wants (fun r s₂ => r = .none ∧ ∃ h' tk ns', s₂ = { s with heap := h', toks := tk } ∧ SetI w h' S ns' ∧ (∀ x, x ∈ ns' ↔ ∃ j, j < n ∧ val j = x) ∧ (∀ b o, s.heap.get? b = some o → h'.get? b = some o)) E) F.called_set.init.plain F.entry_set_init (check_set_init_1 hT ?_)) fun r₂ s₂ hr₂ => ?_
   · obtain ⟨ol, hol, hcl⟩ := hTy g fun o e => gk l o e
     have hTl : Shared.TypeIs { s with heap := g } (.ref l) T := ⟨ol, hol, hcl⟩
     unfold Builtin.«set.__init__» noKeywords Builtin.Frozenset.updateFrom
     generalize hPI : pyIter = PI
     wp_walk
     subst hPI
     have fin : ∀ (oI : Obj) (St : Nat → Heap → Prop), (∀ A : Around, A.handled = none → Walks prog w A g.objs.size [g.objs.size, l] [g.objs.size] n P St) → St 0 (g.push oI) → codeAny (model prog w) A.in1.in1 (.builtin "set.update.loop" ⟨[.ref S, .ref g.objs.size], []⟩) (fun r s₂ => r = .ok (.ret .none) ∧ ∃ h' tk ns', s₂ = { s with heap := h', toks := tk } ∧ SetI w h' S ns' ∧ (∀ x, x ∈ ns' ↔ ∃ j, j < n ∧ val j = x) ∧ (∀ b o, s.heap.get? b = some o → h'.get? b = some o)) { s with heap := g.push oI } := fun oI St W st => by
      refine set_loop (W A.in1.in1.in1 hh) (S := S) (fun z => ?_) val hval hb n 0 _ [] (by omega) (by omega) st (setI_new _ _ (Heap.get?_push_of_some _ gS)) (Nat.le_refl _) (fun x => ⟨fun z => (nomatch z), fun ⟨j, z, _⟩ => absurd z (Nat.not_lt_zero _)⟩) fun h' tk ns' si hm k => ⟨rfl, h', tk, ns', rfl, si, hm, fun b o e => k b o ?_ ?_ (Heap.get?_push_of_some _ (gk b o e))⟩
      · rcases List.mem_cons.mp z with z | z
        · rw [gz] at z; exact Nat.ne_of_lt (Nat.lt_succ_self S) z
        · exact Nat.ne_of_gt hlt (List.mem_singleton.mp z)
      · rw [← hS0]; exact Nat.ne_of_lt (Heap.lt_size e)
      · rw [gz, ← hS0]; exact Nat.ne_of_lt (Nat.lt_succ_of_lt (Heap.lt_size e))
     refine iter _ _ { s with heap := g } _ (fun o e => gk l o e) fun oI St W st => wpAny_bind (wpAny_runValue (codeAny_mono (fin oI St W st) fun r s₂ x => ?_))
     obtain ⟨rfl, h', tk, ns', rfl, x1, x2, x3⟩ := x
     exact wpAny_pure (wpAny_pure ⟨rfl, h', tk, ns', rfl, x1, x2, x3⟩)
   · cases r₂ with
     | error e => exact hr₂
     | ok fl₂ =>
      cases fl₂ with
      | ret r =>
       obtain ⟨rfl, h', tk, ns', rfl, x1, x2, x3⟩ := hr₂
       repeat (any_goals (first | assumption | wp_step))
       exact h _ _ _ x1 x2 x3
      | _ => exact hr₂.elim
  | _ => exact hr.elim
theorem call_setI (hh : A.handled = none) (hl : s.heap.IsList l items ∨ s.heap.IsTuple l items) (hi : IntsAre items.toList ns) (hb : items.size + 1 < scanBound)
 (h : ∀ h' tk ns', SetI w h' s.heap.objs.size ns' → (∀ x, x ∈ ns' ↔ x ∈ ns) → (∀ b o, s.heap.get? b = some o → h'.get? b = some o) → Q (.ref s.heap.objs.size) { s with heap := h', toks := tk }) : wpAny (model prog w) A (call (.type "set") [.ref l]) Q E s := by
 have hlen : items.size = ns.length := by rw [← Array.length_toList]; exact hi.length
 have hm : ∀ ns' : List Int, (∀ x, x ∈ ns' ↔ ∃ j, j < items.size ∧ (fun i => ns.getD i 0) j = x) → ∀ x, x ∈ ns' ↔ x ∈ ns := fun ns' q x => by
  rw [q x]
  constructor
  · grind
  · intro hx
    obtain ⟨j, hj, e⟩ := List.getElem_of_mem hx
    exact ⟨j, by omega, by show ns.getD j 0 = x; rw [List.getD_eq_getElem?_getD, List.getElem?_eq_getElem hj, e]; rfl⟩
 have hval : ∀ (i : Nat) (v : Value), items[i]? = some v → ∃ t, v = .int ((fun i => ns.getD i 0) i) t := fun i v hv => hi.int_at i v (by rw [Array.getElem?_toList]; exact hv)
 rcases hl with hl | hl
 · obtain ⟨o, ho, hc, r⟩ := id hl
   have hlt := Heap.lt_size ho
   refine call_setG (T := "list") hh hlt (fun h' k => ⟨o, k _ ho, hc⟩) F.sub_list_set F.sub_list_frozenset (by decide) (fun A E s' Q k q => ?_) _ hval hb fun h' tk ns' si m k => h h' tk ns' si (hm ns' m) k
   have hl' : s'.heap.IsList l items := ⟨o, k _ ho, hc, r⟩
   exact wpAny_pyIter_list hl' (q _ _ (fun A hh => Walks.list hh _ l (Nat.ne_of_lt (Heap.lt_size (k _ ho))) items) ⟨⟨_, Heap.get?_push_size _ rfl, rfl, rfl⟩, hl'.push _⟩)
 · obtain ⟨o, ho, hc, r⟩ := id hl
   have hlt := Heap.lt_size ho
   refine call_setG (T := "tuple") hh hlt (fun h' k => ⟨o, k _ ho, hc⟩) (by rw [isSubtype_type]; kernel_rfl) (by rw [isSubtype_type]; kernel_rfl) (by decide) (fun A E s' Q k q => ?_) _ hval hb fun h' tk ns' si m k => h h' tk ns' si (hm ns' m) k
   have hl' : s'.heap.IsTuple l items := ⟨o, k _ ho, hc, r⟩
   exact wpAny_pyIter_tuple hl' (q _ _ (fun A hh => Walks.tuple hh _ l (Nat.ne_of_lt (Heap.lt_size (k _ ho))) items) ⟨⟨_, Heap.get?_push_size _ rfl, rfl, rfl⟩, o, Heap.get?_push_of_some _ (k _ ho), hc, r⟩)
end
end Br
namespace Br
open PySem PySem.Spec PySem.Calls PyProof.Rows L2
section
abbrev testsOf (ifs : List Expr) (env : Env) : Sem Bool := forIn ifs true fun c r => if r = true then do let ok ← isTrue c env (eval c env); pure (ForInStep.yield ok) else pure (ForInStep.yield r)
theorem compLoop_go (I : Nat → Shared → Prop)
 (turn : ∀ n s, I n s → wpAny (model prog w) A (pyNext it) (fun r s₁ => match r with
  | none => R (.ok .next) s₁
  | some v => wpAny (model prog w) A (letOwnedTupleGo target it v) (fun _ s₁ => wpAny (model prog w) A (assign target env v) (fun _ s₂ =>
   wpAny (model prog w) A (testsOf ifs env) (fun ok s₃ =>
    if ok = true then wpAny (model prog w) A (eval elt env) (fun x s₄ =>
     wpAny (model prog w) A (call (.builtin "list.append") [acc, x]) (fun _ s₅ => ∃ m, m < n ∧ I m s₅) (fun _ _ => False) s₄) (fun _ _ => False) s₃
    else ∃ m, m < n ∧ I m s₃) (fun _ _ => False) s₂) (fun _ _ => False) s₁) (fun _ _ => False) s₁) (fun _ _ => False) s)
 (n : Nat) (h : I n s) :
 codeAny (model prog w) A (.compLoop (.ListComp elt [⟨target, iter, ifs, 0⟩] scope pos) 0 it acc env) R s := by
 refine codeAny_loop rfl I (fun n s hI => ?_) n h
 refine wpAny_noted (wpAny_mono (E := fun _ _ => False) ?_ (fun _ _ q => q) fun _ _ f => f.elim)
 rw [compTurn_list]
 refine wpAny_bind (wpAny_standAt (wpAny_bind (thn (turn n s hI) fun r s₁ h₁ => ?_)))
 cases r with
 | none => exact wpAny_pure h₁
 | some v =>
  refine wpAny_bind (thn h₁ fun _ s₁ h₁ => wpAny_bind (thn h₁ fun _ s₂ h₂ => wpAny_bind (thn h₂ fun ok s₃ h₃ => ?_)))
  cases ok with
  | false => exact wpAny_pure ⟨rfl, h₃⟩
  | true => exact wpAny_bind (wpAny_bind (thn h₃ fun x s₄ h₄ => wpAny_bind (thn h₄ fun _ s₅ h₅ => wpAny_pure (wpAny_pure ⟨rfl, h₅⟩))))
end
def clOf (scope : Scope) (env : Env) : List (Str × Addr) := (scope.names.filter fun x => x.2 == NameKind.free).reverse.map fun x => (x.1, (env.cells.lookup x.1).getD 0)
theorem closure_go : ∀ (l : List (Str × NameKind)) (cs : List (Str × Addr)), (∀ y ∈ l, y.2 = .free → ∃ c, env.cells.lookup y.1 = some c) →
 (forIn l cs fun (x : Str × NameKind) cs => (do
  if x.2 == .free then do let c ← cellOf env x.1; pure (ForInStep.yield ((x.1, c) :: cs)) else pure (ForInStep.yield cs) : Sem _)) =
  pure (((l.filter fun x => x.2 == NameKind.free).reverse.map fun x => (x.1, (env.cells.lookup x.1).getD 0)) ++ cs)
 | [], cs, _ => rfl
 | (n, k) :: r, cs, h => by
  have ih := fun cs => closure_go r cs fun y hy => h y (.tail _ hy)
  by_cases hk : k = .free
  · subst hk
    obtain ⟨c, hc⟩ := h (n, .free) (.head _) rfl
    have e1 : cellOf env n = pure c := by unfold cellOf; rw [hc]
    simp_all
  simp_all
theorem closure_of (h : ∀ y ∈ scope.names, y.2 = .free → ∃ c, env.cells.lookup y.1 = some c) : closureFor scope env = pure (clOf scope env) := by
 have q := closure_go scope.names [] h
 rw [List.append_nil] at q
 exact (congrArg (fun t => t >>= fun a => pure a) q).trans rfl
theorem clOf_sub (h : ∀ y ∈ scope.names, y.2 = .free → ∃ c, env.cells.lookup y.1 = some c) (e : (clOf scope env).lookup x = some c) : env.cells.lookup x = some c ∧ (x, NameKind.free) ∈ scope.names := by
 have hm := PySem.mem_of_lookup e
 obtain ⟨⟨n, k⟩, hy, e2⟩ := List.mem_map.mp hm
 have hf := List.mem_filter.mp (List.mem_reverse.mp hy)
 grind
theorem lookup_some_of_mem {l : List (Str × Addr)} (h : (x, c) ∈ l) : ∃ c', l.lookup x = some c' := by
 induction l with
 | nil => grind
 | cons a r ih =>
  obtain ⟨n, d⟩ := a
  rw [List.lookup_cons]
  cases e : x == n with
  | true => simp
  | false =>
   simp_all
theorem clOf_has (h : ∀ y ∈ scope.names, y.2 = .free → ∃ c, env.cells.lookup y.1 = some c) (hx : (x, NameKind.free) ∈ scope.names) : ∃ c, (clOf scope env).lookup x = some c :=
 lookup_some_of_mem (List.mem_map.mpr ⟨(x, .free), List.mem_reverse.mpr (List.mem_filter.mpr ⟨hx, rfl⟩), rfl⟩)
theorem relabel_mem {env : Env} : ∀ {names : List (Str × NameKind)} {x : Str} {k : NameKind}, (names.map fun (n, k) => if (k == NameKind.free && env.scope.kind == .function && env.kindOf n == some .cell) then (n, NameKind.cell) else (n, k)).lookup x = some k →
 ∃ k0, names.lookup x = some k0 ∧ (k0 = k ∨ (k0 = .free ∧ k = .cell))
 | [], _, _, h => by simp at h
 | (n, k0) :: r, x, k, h => by
  have ih := @relabel_mem env r x k
  have h : List.lookup x ((if _ = true then (n, NameKind.cell) else (n, k0)) :: _) = _ := h
  rw [List.lookup_cons]
  by_cases hc : (k0 == NameKind.free && env.scope.kind == .function && env.kindOf n == some .cell) = true
  · rw [if_pos hc, List.lookup_cons] at h
    cases e : x == n with
    | true =>
     simp_all
    | false => rw [e] at h; exact ih h
  · rw [if_neg hc, List.lookup_cons] at h
    cases e : x == n with
    | true => grind
    | false => rw [e] at h; exact ih h
def dotS (y : Str) : Str := ⟨(33 :: y.cps.toList).toArray⟩
def hid (scope : Scope) (y : Str) : Str := match scope.names.lookup y with
 | some .local => dotS y
 | _ => y
theorem hid_cases (scope : Scope) (y : Str) : (scope.names.lookup y = some .local ∧ hid scope y = dotS y) ∨ (scope.names.lookup y ≠ some .local ∧ hid scope y = y) := by
 unfold hid
 split
 · simp_all
 simp_all
def cxC (X : Cx) (Nc : List Str) (scope : Scope) (C : Addr) (s : Shared) (H : Hp) (fp : List Addr) : Cx :=
 { X with N := Nc ++ X.N.map (hid scope), s₀ := s, H₀ := H, env := compEnvC scope (clOf scope X.env) C X.env, outer := X.stack, ex := fp, fn := fun _ => false, pn := [], xe := fun _ _ => False }
structure CompS (X : Cx) (scope : Scope) : Prop where
 kind : scope.kind = .function
 nocell : ∀ y ∈ scope.names, y.2 ≠ .cell
 names : ∀ y ∈ scope.names, y.2 = .local → scope.names.lookup y.1 = some .local
 free : ∀ y ∈ scope.names, y.2 = .free → X.env.kindOf y.1 = some .cell ∨ X.env.kindOf y.1 = some .free
 dot : ∀ y, scope.names.lookup (dotS y) = none
 nd : (X.N.map (hid scope)).Nodup
def PIfs (X : Cx) (ifs : List Expr) (t : TT) : Prop :=
 ∀ (pins : List (Addr × Obj)) (s : Shared) (σ : L2.St) (H : Hp) (Q : Bool → Hp → Prop), Inv X pins σ H s → t σ H Q → wpAny (model X.prog X.w) X.A (testsOf ifs X.env) (TP X pins σ Q) X.xe s
def tYes : TT := fun _ H Q => Q true H
section
theorem pifs_nil : PIfs X [] tYes := fun pins s σ H Q I h => wpAny_tests_nil ⟨H, I, h⟩
theorem pifs_one (h : PT X c tt) : PIfs X [c] tt := fun pins s σ H Q I q => wpAny_tests_one (h pins s σ H Q I q)
end
section
variable {σ : L2.St}
def Cmp (J : It) (g : TG) (tt : TT) (te : TE) (σ0 : L2.St) (H0 : Hp) (Z : List V → Hp → Prop) : Prop :=
 ∃ W : Nat → Nat → List V → L2.St → Hp → Prop, (∃ m, W 0 m [] σ0 H0) ∧ ∀ i m ys σ' H', W i m ys σ' H' → ys.length ≤ sizeLine ∧
  ((J.stop i H' ∧ Z ys H') ∨
   (J.go i H' ∧ ∀ x H2, J.yld i H' x H2 → g x σ' H2 fun σ3 H3 => tt σ3 H3 fun b H4 => if b = true then te σ3 H4 fun y H5 => ∃ m', m' < m ∧ W (i + 1) m' (ys ++ [y]) σ3 H5 else ∃ m', m' < m ∧ W (i + 1) m' ys σ3 H4))
theorem inv_block {Nc : List Str} {scope : Scope} {fp : List Addr} {h1 : Heap} {D C : Addr} {t' : Nat} (I : Inv X pins σ H s) (S : CompS X scope) (hf : ∀ b ∈ fp, FpOk X pins H b) (hob : ∀ b ∈ fp, ∃ o, s.heap.get? b = some o)
 (hC : s.heap.objs.size ≤ C) (old : ∀ b o, s.heap.get? b = some o → h1.get? b = some o) (hn : h1.Ns C fun _ => none) :
 Inv (cxC X Nc scope C s H fp) [] (List.replicate Nc.length none ++ σ) H { s with heap := h1, toks := t' } := by
 have hcells : ∀ y ∈ scope.names, y.2 = .free → ∃ c, X.env.cells.lookup y.1 = some c := fun y hy e => I.ok.has y.1 (S.free y hy e)
 have hsub : ∀ {x : Str} {c : Addr}, (clOf scope X.env).lookup x = some c → X.env.cells.lookup x = some c := fun e => (clOf_sub hcells e).1
 have hlt : ∀ x c, X.env.cells.lookup x = some c → c < s.heap.objs.size := fun x c e => let ⟨v, q⟩ := I.cell x c e; q.lt
 refine ⟨⟨I.ok.mod, S.kind, I.ok.glob, I.ok.blt, hC, fun x y c e1 e2 => I.ok.inj x y c (hsub e1) (hsub e2), fun x hx => ?_, fun x c z _ => ?_, I.ok.hd, I.ok.frames, .inl rfl, fun b hb => ⟨?_, fun x c e => (hf b hb).2.2.2.2.1 x c (hsub e)⟩, I.bs, ?_, ?_, ?_, I.stack, I.stkFree⟩,
  rfl, I.bare, Un.kept old, ⟨_, hn, fun i x v e1 e2 e3 => ?_⟩, fun x c e => ?_, I.hok.fresh hC, fun x c e => I.freeC x c (hsub e), fun p hp => absurd (show p ∈ ([] : List (Addr × Obj)) from hp) (by simp), I.hok.kept old, ?_⟩
 · have hx : (relabel scope X.env).names.lookup x = some .cell ∨ (relabel scope X.env).names.lookup x = some .free := hx
   have go : ∀ k, (k = .cell ∨ k = .free) → (relabel scope X.env).names.lookup x = some k → ∃ c, (clOf scope X.env).lookup x = some c := fun k hk e => by
    obtain ⟨k0, e0, h0⟩ := relabel_mem (env := X.env) (names := scope.names) e
    have hm := PySem.mem_of_lookup e0
    have : k0 = .free := by
     rcases h0 with h0 | h0
     · subst h0
       rcases hk with hk | hk
       · exact absurd hk (S.nocell _ hm)
       · exact hk
     · exact h0.1
    subst this
    exact clOf_has hcells hm
   rcases hx with e | e
   · exact go _ (.inl rfl) e
   · exact go _ (.inr rfl) e
 · have z : false = true := z
   cases z
 · obtain ⟨o, e⟩ := hob b hb
   exact Nat.ne_of_lt (Nat.lt_of_lt_of_le (Heap.lt_size e) hC)
 · exact Nat.le_trans I.ok.bsz I.sz
 · intro b o e hb
   rcases (hf b hb).2.2.2.1 with z | z
   · exact I.ok.noex b o e z
   · exact absurd (Nat.lt_of_lt_of_le (Heap.lt_size e) (Nat.le_trans I.ok.bsz z)) (Nat.lt_irrefl _)
 · intro b hb hm
   rcases List.mem_cons.mp (I.stkSub b hm) with z | z
   · exact (hf b hb).2.1 z
   · exact (hf b hb).2.2.1 z
 · have e1 : (Nc ++ X.N.map (hid scope))[i]? = some x := e1
   have e3 : Vis (relabel scope X.env) x := e3
   have hi : Nc.length ≤ i := by
    refine Nat.not_lt.mp fun z => ?_
    rw [List.getElem?_append_left (by simpa using z), List.getElem?_replicate] at e2
    split at e2 <;> cases e2
   rw [List.getElem?_append_right hi] at e1
   rw [List.getElem?_append_right (by simpa using hi), List.length_replicate] at e2
   rw [List.getElem?_map] at e1
   obtain ⟨x0, ex0, hx0⟩ := Option.map_eq_some_iff.mp e1
   have dotn : ∀ y k, (relabel scope X.env).names.lookup (dotS y) ≠ some k := fun y k e => by
    obtain ⟨k0, e0, _⟩ := relabel_mem (env := X.env) (names := scope.names) e
    rw [S.dot] at e0; cases e0
   have hxx : x0 = x ∧ scope.names.lookup x ≠ some .local := by
    rcases hid_cases scope x0 with ⟨_, h2⟩ | ⟨h1, h2⟩
    · rw [h2] at hx0
      subst hx0
      rcases e3 with e | e | e <;> exact absurd e (dotn _ _)
    · rw [h2] at hx0
      subst hx0
      exact ⟨rfl, h1⟩
   obtain ⟨hx1, hnl⟩ := hxx
   rw [hx1] at ex0
   have e1 := ex0
   have hfree : (x, NameKind.free) ∈ scope.names ∧ (relabel scope X.env).names.lookup x ≠ some .local := by
    have go : ∀ k, (relabel scope X.env).names.lookup x = some k → (k = .local ∨ k = .cell ∨ k = .free) → (x, NameKind.free) ∈ scope.names ∧ k ≠ .local := fun k e hk => by
     obtain ⟨k0, e0, h0⟩ := relabel_mem (env := X.env) (names := scope.names) e
     have hm := PySem.mem_of_lookup e0
     rcases h0 with h0 | h0
     · subst h0
       rcases hk with hk | hk | hk
       · subst hk; exact absurd e0 hnl
       · exact absurd hk (S.nocell _ hm)
       · subst hk; exact ⟨hm, by decide⟩
     · obtain ⟨a, b⟩ := h0
       subst a; subst b
       exact ⟨hm, by decide⟩
    rcases e3 with e | e | e
    · exact absurd rfl (go _ e (.inl rfl)).2
    · exact ⟨(go _ e (.inr (.inl rfl))).1, by rw [e]; decide⟩
    · exact ⟨(go _ e (.inr (.inr rfl))).1, by rw [e]; decide⟩
   have hk := S.free _ hfree.1 rfl
   obtain ⟨m, hm, hl⟩ := I.loc
   obtain ⟨u, r, l⟩ := hl (i - Nc.length) x v e1 e2 (.inr hk)
   refine ⟨u, r, ?_⟩
   rcases l with ⟨z, _⟩ | ⟨_, c, hc, z⟩
   · have z : X.env.kindOf x = some .local := z
     rcases hk with hk | hk
     · have hk : X.env.kindOf x = some .cell := hk
       rw [hk] at z; cases z
     · have hk : X.env.kindOf x = some .free := hk
       rw [hk] at z; cases z
   · obtain ⟨c', hc'⟩ := clOf_has hcells hfree.1
     have q := hsub hc'
     rw [hc] at q; cases q
     obtain ⟨o, ho, hd⟩ := z
     refine .inr ⟨?_, c, hc', o, old _ _ ho, hd⟩
     rcases e3 with e | e | e
     · exact absurd e hfree.2
     · exact .inl e
     · exact .inr e
 · obtain ⟨v, o, ho, hd⟩ := I.cell x c (hsub e)
   exact ⟨v, o, old _ _ ho, hd⟩
 · show (List.replicate Nc.length none ++ σ).length = (Nc ++ X.N.map (hid scope)).length
   rw [List.length_append, List.length_append, List.length_replicate, List.length_map, I.len]
end
section
variable {σ : L2.St}
theorem comp_block {it : Addr} {fp : List Addr} {tn : Nat → Heap → Prop} {J : It} {Z : List V → Hp → Prop} {E : Value → Shared → Prop} {RR : Value → Addr → Result → Shared → Prop}
 (hc : X.calm = true) (S : CompS X scope) (I2 : Inv X pins σ H2 s2) (T : Turn X.prog X.w X.K tg J fp it tn) (st2 : tn 0 s2.heap) (f2 : ∀ b ∈ fp, FpOk X pins H2 b)
 (hg : ∀ C s H fp, PG (cxC X Nc scope C s H fp) tg g) (ht : ∀ C s H fp, PIfs (cxC X Nc scope C s H fp) ifs tt) (he : ∀ C s H fp, PE (cxC X Nc scope C s H fp) elt te)
 (h : Cmp J g tt te (List.replicate Nc.length none ++ σ) H2 Z)
 (hRR : ∀ D C s' H3 ys, Inv X pins σ (upd H3 D (.lst ys)) s' → H3 D = none → Z ys H3 → (∃ m, s'.heap.Ns C m) → FpOk X pins (upd H3 D (.lst ys)) C → RR (.ref D) C (.ok .next) s') :
 wpAny (model X.prog X.w) X.A (newList []) (fun acc s₃ => wpAny (model X.prog X.w) X.A (newFunctionEnv scope X.env.globals (clOf scope X.env) [] X.env.qual none .none (some X.env)) (fun cenv s₄ =>
  codeAny (model X.prog X.w) X.A (.compStart (.ListComp elt [⟨tg, iter, ifs, 0⟩] scope pos) 0 (.ref it) acc { cenv with scope := relabel scope X.env }) (RR acc cenv.locals) s₄) E s₃) E s2 := by
 refine wpAny_newObj_type (wpAny_newFunctionEnv S.nocell (by intro y hy; simp at hy) (fun h₁ hns₁ hsb₁ => ?_) S.kind)
 dsimp only at hns₁ hsb₁ ⊢
 generalize hH2 : s2.heap.push { cls := .type "list", dict := none, data := .seq ([] : List Value).toArray } = G at hns₁ hsb₁ ⊢
 have hC : G.objs.size = s2.heap.objs.size + 1 := by rw [← hH2, Heap.size_push]
 generalize hD0 : s2.heap.objs.size = D at *
 generalize hC0 : G.objs.size = C at *
 have hDC : D ≠ C := by omega
 have below : ∀ (b : Nat) o, s2.heap.get? b = some o → b < D := fun b o e => hD0 ▸ Heap.lt_size e
 have belC : ∀ (b : Nat) o, s2.heap.get? b = some o → b ≠ C := fun b o e => by have := below b o e; omega
 have belD : ∀ (b : Nat) o, s2.heap.get? b = some o → b ≠ D := fun b o e => by have := below b o e; omega
 have old : ∀ b o, s2.heap.get? b = some o → h₁.get? b = some o := fun b o e => hsb₁.extBut b o (belC b o e) (by
  have q := Heap.get?_push_of_some { cls := .type (if (some X.env).isSome then "dict" else "frame"), data := .dict #[] } (hH2 ▸ Heap.get?_push_of_some _ e : G.get? b = some o)
  exact q)
 have hacc : h₁.PlainList D #[] := ⟨_, hsb₁.extBut _ _ hDC (Heap.get?_push_of_some _ (by rw [← hH2, ← hD0]; exact Heap.get?_push_size _ rfl))⟩
 obtain ⟨W, ⟨m0, w0⟩, turn⟩ := h
 have hob : ∀ b ∈ fp, ∃ o, s2.heap.get? b = some o := fun b hb => let ⟨o, e, _⟩ := T.obj _ _ st2 b hb; ⟨o, e⟩
 have hfpD : ∀ b : Nat, b ∈ fp → b < D := fun b hb => let ⟨o, e⟩ := hob b hb; below b o e
 have hfpN : ∀ b : Nat, b ∈ fp → b ≠ D := fun b hb => Nat.ne_of_lt (hfpD b hb)
 have hcells : ∀ y ∈ scope.names, y.2 = .free → ∃ c, X.env.cells.lookup y.1 = some c := fun y hy e => I2.ok.has y.1 (S.free y hy e)
 have hsub : ∀ {x : Str} {c : Addr}, (clOf scope X.env).lookup x = some c → X.env.cells.lookup x = some c := fun e => (clOf_sub hcells e).1
 have hclt : ∀ x c, (clOf scope X.env).lookup x = some c → c < D := fun x c e => let ⟨v, q⟩ := I2.cell x c (hsub e); hD0 ▸ q.lt
 have hn0 : h₁.Ns C fun _ => none := hns₁
 have IB : Inv (cxC X Nc scope C s2 H2 fp) [] (List.replicate Nc.length none ++ σ) H2 { s2 with heap := h₁, toks := s2.toks + ([] : List (Str × Value)).length } :=
  inv_block (D := D) I2 S f2 hob (by omega) old hn0
 have hfs : ∀ b : Nat, D ≤ b → b ∉ (cxC X Nc scope C s2 H2 fp).fs := fun b hb hm => by
  obtain ⟨_, o, ho, _⟩ := IB.ok.funs.mem hm
  exact absurd (Nat.lt_of_lt_of_le (below b o ho) hb) (Nat.lt_irrefl _)
 have stat : ∀ {H' : Hp} {ps : List (Addr × Obj)}, (∀ p ∈ ps, Nat.le D p.1) → (∀ b ∈ fp, H' b = none) → ∀ b ∈ fp, FpOk (cxC X Nc scope C s2 H2 fp) ps H' b := fun {H' ps} hps hn b hb =>
  ⟨hn b hb, (let ⟨o, e⟩ := hob b hb; belC b o e), IB.ok.exfs b hb, .inl hb, fun x c e => (f2 b hb).2.2.2.2.1 x c (hsub e), fun p hp => Nat.ne_of_gt (Nat.lt_of_lt_of_le (hfpD b hb) (hps p hp))⟩
 have loop : ∀ s₃ : Shared, s₃ = { s2 with heap := h₁, toks := s2.toks + ([] : List (Str × Value)).length } →
  codeAny (model X.prog X.w) X.A (.compLoop (.ListComp elt [⟨tg, iter, ifs, 0⟩] scope pos) 0 (.ref it) (.ref D) (compEnvC scope (clOf scope X.env) C X.env)) (RR (.ref D) C) s₃ := by
  rintro s₃ rfl
  refine compLoop_go (fun n s' => ∃ i ys σ' H' us k, Inv (cxC X Nc scope C s2 H2 fp) [(D, { cls := .type "list", data := .seq (us : List Value).toArray k })] σ' H' s' ∧ Vals ys us ∧ tn i s'.heap ∧ (∀ b ∈ fp, H' b = none) ∧ W i n ys σ' H') ?_ m0 ?_
  · rintro n s3 ⟨i, ys, σ3, H3, us, k, I3, rv, st3, fr3, w3⟩
    obtain ⟨hz, tu⟩ := turn i n ys σ3 H3 w3
    have hps : ∀ p ∈ [((D : Addr), ({ cls := .type "list", data := .seq (us : List Value).toArray k } : Obj))], Nat.le D p.1 := fun p hp => by
     rcases List.mem_singleton.mp hp with rfl
     exact Nat.le_refl _
    rcases tu with ⟨stop, z⟩ | ⟨go, step⟩
    · refine thn (T.done (cxC X Nc scope C s2 H2 fp) rfl rfl rfl hc i _ s3 σ3 H3 (fun _ _ => False) I3 (stat hps fr3) st3 stop) fun r s4 ⟨hr, I4⟩ => ?_
      subst hr
      obtain ⟨eD, nD, _, _, _⟩ := I4.pin (D, { cls := .type "list", data := .seq (us : List Value).toArray k }) (List.mem_append_right _ (List.mem_singleton.mpr rfl))
      have eD : s4.heap.get? D = _ := eD
      have nD : H3 D = none := nD
      have u4 : Un (frs X.stack) fp H2 H3 s2.heap s4.heap := I4.base
      have hH2D : H2 D = none := I2.hok.fresh (by omega)
      have u5 : Un (frs X.stack) fp H2 (upd H3 D (.lst ys)) s2.heap s4.heap :=
       ⟨u4.keep, u4.slot, fun b o e n x => by rw [upd_ne (belD b o e)]; exact u4.free b o e n x, u4.there, fun b xs e => by rw [upd_ne (ne_of_none e hH2D)]; exact u4.tups b xs e,
        fun b o u e => by rw [upd_ne (ne_of_none e hH2D)]; exact u4.frzs b o u e, fun b ps e => by rw [upd_ne (ne_of_none e hH2D)]; exact u4.tbls b ps e⟩
      have hok : HOk X.prog X.w (upd H3 D (.lst ys)) s4.heap := fun b o e => by
       by_cases hb : b = D
       · subst hb; rw [upd_same] at e; cases e
         exact ⟨hz, us, k, rv, eD⟩
       · rw [upd_ne hb] at e
         exact (I4.hok b o e).stay (fun _ _ _ q => q) (fun c q => by rw [upd_ne (ne_of_none q nD)]; exact q) fun c xs q => by rw [upd_ne (ne_of_none q nD)]; exact q
      have I5 : Inv X pins σ (upd H3 D (.lst ys)) s4 := I2.call' (ch := fp) I4.os u5 hok I4.bare fun b hb => let ⟨a0, a1, a2, a3, a4, a5⟩ := f2 b hb; ⟨a3, a1, a4, a5⟩
      obtain ⟨m, hm, _⟩ := I4.loc
      refine hRR D C s4 H3 ys I5 nD z ⟨m, hm⟩ (I2.fpOk (by omega) ?_)
      rw [upd_ne (Ne.symm hDC)]; exact I4.free
    · refine thn (T.item (cxC X Nc scope C s2 H2 fp) rfl rfl rfl hc i _ s3 σ3 H3 (fun _ _ => False) I3 (stat hps fr3) st3 go) fun r s4 ⟨u, hr, h4⟩ => ?_
      subst hr
      refine thn h4 fun _ s5 ⟨x, H5, I5, r5, y5, st5, fr5⟩ => ?_
      have I5' := I5.pinned (stat hps fr5) (T.obj _ _ st5)
      refine thn (hg C s2 H2 fp _ s5 σ3 H5 x u _ I5' r5 (step x H5 y5)) fun _ s6 ⟨σ6, H6, I6, q6⟩ => ?_
      refine thn (ht C s2 H2 fp _ s6 σ6 H6 _ I6 q6) fun ok s7 ⟨H7, I7, q7⟩ => ?_
      have tnK : ∀ {σ' : L2.St} {H' : Hp} {s' : Shared}, Inv (cxC X Nc scope C s2 H2 fp) ([(D, { cls := .type "list", data := .seq (us : List Value).toArray k })] ++ pinsAt fp s5.heap) σ' H' s' → tn (i + 1) s'.heap ∧ (∀ b ∈ fp, H' b = none) ∧ (∀ b ∈ fp, ∀ o, s5.heap.get? b = some o → s'.heap.get? b = some o) := fun {σ' H' s'} I' =>
       ⟨T.keep _ _ _ st5 fun b hb o e => (I'.pin (b, o) (List.mem_append_right _ (List.mem_append_right _ (mem_pinsAt hb e)))).1, fun b hb => by
        obtain ⟨o, e, d⟩ := T.obj _ _ st5 b hb
        exact (I'.pin (b, o) (List.mem_append_right _ (List.mem_append_right _ (mem_pinsAt hb e)))).2.1, fun b hb o e => (I'.pin (b, o) (List.mem_append_right _ (List.mem_append_right _ (mem_pinsAt hb e)))).1⟩
      cases ok with
      | false =>
       have q7 : ∃ m', m' < n ∧ W (i + 1) m' ys σ6 H7 := q7
       obtain ⟨m', hm, w7⟩ := q7
       obtain ⟨k1, k2, _⟩ := tnK I7
       exact ⟨m', hm, i + 1, ys, σ6, H7, us, k, I7.unpinned, rv, k1, k2, w7⟩
      | true =>
       have q7 : te σ6 H7 fun y H5 => ∃ m', m' < n ∧ W (i + 1) m' (ys ++ [y]) σ6 H5 := q7
       refine thn (he C s2 H2 fp _ s7 σ6 H7 _ I7 q7) fun y s8 ⟨yv, H8, I8, r8, m', hm, w8⟩ => ?_
       obtain ⟨k1, k2, k3⟩ := tnK I8
       obtain ⟨eD, nD, _, nfD, _⟩ := I8.pin (D, { cls := .type "list", data := .seq (us : List Value).toArray k }) (List.mem_append_right _ (List.mem_append_left _ (List.mem_singleton.mpr rfl)))
       have eD : s8.heap.get? D = _ := eD
       have pl : s8.heap.PlainList D us.toArray := ⟨k, eD⟩
       refine wpAny_list_append_plain (hsz := by have := rv.length; simp; omega) pl fun h₉ hl₉ hs₉ => ?_
       obtain ⟨k9, e9⟩ := hl₉
       have I9 : Inv (cxC X Nc scope C s2 H2 fp) [] σ6 H8 { s8 with heap := h₉ } := (I8.pins_of (pins' := []) (fun p hp => nomatch hp)).turned (t' := s8.toks) (it := D) (fun b o hb e => (hs₉.2 b hb).trans e) nD hDC (.inr (by show s2.heap.objs.size ≤ D; omega))
        (fun x c e => Nat.ne_of_lt (hclt x c e)) (fun p hp => absurd (show p ∈ ([] : List (Addr × Obj)) from hp) (by simp))
       refine ⟨m', hm, i + 1, ys ++ [yv], σ6, H8, us ++ [y], k9, I9.pins_of fun p hp => ?_, rv.append (.cons r8 .nil), T.keep _ _ _ k1 fun b hb o e => (hs₉.2 b (hfpN b hb)).trans e, k2, w8⟩
       rcases List.mem_singleton.mp hp with rfl
       refine ⟨?_, nD, hDC, nfD, fun v z => by cases z⟩
       show h₉.get? D = _
       rw [e9]; simp
  · obtain ⟨k, e⟩ := hacc
    refine ⟨0, [], _, H2, [], k, IB.pins_of fun p hp => ?_, .nil, T.keep _ _ _ st2 fun b hb o e => old b o e, fun b hb => (f2 b hb).1, w0⟩
    rcases List.mem_singleton.mp hp with rfl
    exact ⟨e, I2.hok.fresh (by omega), hDC, hfs D (Nat.le_refl _), fun v z => by cases z⟩
 exact codeAny_compStart_list (loop _ rfl) (T.self _ 0 _ _ _ (T.keep _ _ _ st2 fun b hb o e => old b o e) (loop _ rfl))
def tComp (n : Nat) (wi : TI) (g : TG) (tt : TT) (te : TE) : TE := fun σ H Q => wi σ H fun J H1 => Cmp J g tt te (List.replicate n none ++ σ) H1 fun ys H' => ∀ p H2, H' p = none → L2.Same H' H2 → H2 p = some (.lst ys) → Q (.ref p) H2
theorem pe_comp (hc : X.calm = true) (S : CompS X scope) (hs : ∀ x, foldedSetIterable iter X.env x = pure x) (hi : PI X tg iter wi)
 (hg : ∀ C s H fp, PG (cxC X Nc scope C s H fp) tg g) (ht : ∀ C s H fp, PIfs (cxC X Nc scope C s H fp) ifs tt) (he : ∀ C s H fp, PE (cxC X Nc scope C s H fp) elt te) :
 PE X (.ListComp elt [⟨tg, iter, ifs, 0⟩] scope pos) (tComp Nc.length wi g tt te) := by
 intro pins s σ H Q I h
 have hcells := fun y hy e => I.ok.has y.1 (S.free y hy e)
 refine wpAny_comprehension_free rfl hs (closure_of hcells) S.kind S.names (thn (hi pins s σ H _ I h) fun v s1 h1 => thn h1 fun itv s2 h2 => ?_)
 obtain ⟨it, fp, tn, J, H2, e, I2, T, st2, f2, z⟩ := h2
 subst e
 refine comp_block hc S I2 T st2 f2 hg ht he z fun D C s' H3 ys I' hD hz hm hf => ?_
 obtain ⟨m, hm⟩ := hm
 exact ⟨m, hm, fun h' sb => ⟨.ref D, _, I'.turned (fun b o hb e => (sb.2 b hb).trans e) hf.1 hf.2.1 hf.2.2.2.1 hf.2.2.2.2.1 hf.2.2.2.2.2, rfl, hz D _ hD (Br.Same.upd hD) upd_same⟩⟩
theorem ps_setComp {wi : TI} {i : Nat} {y : Str} {py spos : Pos} (hc : X.calm = true) (S : CompS X scope) (hs : ∀ x, foldedSetIterable iter X.env x = pure x) (hN : X.N.Nodup) (hy : X.N[i]? = some y) (hl : Loc X.env.scope y) (hf : X.fn y = true ∨ X.env.scope.names.lookup y = some .local)
 (hsw : swapsWith (.ListComp elt [⟨tg, iter, ifs, 0⟩] scope pos) (some (.Name y py)) spos.line X.env = pure true) (hi : PI X tg iter wi)
 (hg : ∀ C s H fp, PG (cxC X Nc scope C s H fp) tg g) (ht : ∀ C s H fp, PIfs (cxC X Nc scope C s H fp) ifs tt) (he : ∀ C s H fp, PE (cxC X Nc scope C s H fp) elt te) :
 PS X (.Assign [.Name y py] (.ListComp elt [⟨tg, iter, ifs, 0⟩] scope pos) spos) (tAsg (tComp Nc.length wi g tt te) (gName i)) := by
 intro pins s σ H D I h
 have hcells : ∀ y ∈ scope.names, y.2 = .free → ∃ c, X.env.cells.lookup y.1 = some c := fun y hy e => I.ok.has y.1 (S.free y hy e)
 rw [exec_Assign_Name_used _ _ _ _ hsw]
 refine wpAny_bind (wpAny_standAt (wpAny_bind ?_))
 show wpAny _ X.A (do let _ ← comprehension (.ListComp elt [⟨tg, iter, ifs, 0⟩] scope pos) scope X.env _ (newList []) false (eval iter X.env) (some (assign (.Name y py) X.env))) _ _ s
 refine wpAny_bind (wpAny_mono (wpAny_comprehension_free (use := some (assign (.Name y py) X.env)) (Q := fun _ s' => SP X pins D .next s') rfl hs (closure_of hcells) S.kind S.names
  (thn (hi pins s σ H _ I h) fun v s1 h1 => thn h1 fun itv s2 h2 => ?_)) (fun _ s' hq => wpAny_pure (wpAny_pure hq)) fun _ _ e => e)
 obtain ⟨it, fp, tn, J, H2, e, I2, T, st2, f2, z⟩ := h2
 subst e
 refine comp_block (RR := fun acc C => compPost (model X.prog X.w) X.A X.xe (some (assign (.Name y py) X.env)) (fun _ s' => SP X pins D .next s') acc C) hc S I2 T st2 f2 hg ht he z fun Dd C s' H3 ys I' hD hz hm hf' => ?_
 obtain ⟨m, hm⟩ := hm
 show wpAny _ X.A (assign (.Name y py) X.env (.ref Dd)) _ _ _
 refine wpAny_assign_Name (store_ok2 (v := .ref Dd) I' hN hy hl rfl (fun s'' I'' ch => ?_) hf)
 obtain ⟨a, sb, ha⟩ := ch
 have hCa : C ≠ a := by
  rcases ha with rfl | ha
  · exact hf'.2.1
  · exact fun z => hf'.2.2.2.2.1 _ _ ha z.symm
 refine ⟨m, hm.sameBut sb hCa, fun h' sb' => ?_⟩
 exact ⟨_, _, I''.turned (t' := s''.toks) (it := C) (fun b o hb e => (sb'.2 b hb).trans e) hf'.1 hf'.2.1 hf'.2.2.2.1 hf'.2.2.2.2.1 hf'.2.2.2.2.2, hz Dd _ hD (Br.Same.upd hD) upd_same⟩
end
section
theorem vals_bl : ∀ {bs : List Bool} {its : List Value} {i : Nat} {v : Value}, Vals (bs.map V.bl) its → its[i]? = some v → ∃ b, bs[i]? = some b ∧ v = .bool b
 | [], _, i, v, r, e => by cases r; simp_all
 | b :: bs, _, i, v, r, e => by
  cases r with
  | cons r rr =>
   cases i with
   | zero => simp at e; subst e; exact ⟨b, rfl, r⟩
   | succ i =>
    obtain ⟨b', h1, h2⟩ := vals_bl rr (by assumption)
    simp_all
theorem range_all {bs : List Bool} : ((List.range bs.length).all fun i => bs.getD i false) = bs.all id := by
 rw [Bool.eq_iff_iff]
 simp only [List.all_eq_true, List.mem_range, id]
 constructor
 · intro h b hb
   obtain ⟨i, hi, e⟩ := List.getElem_of_mem hb
   simp_all
 · intro h i hi
   rw [List.getD_eq_getElem?_getD, List.getElem?_eq_getElem hi]
   exact h _ (List.getElem_mem hi)
def rAll (K : PySem.W.Frag) (f : List Bool → Bool) : List V → Hp → VK → Prop := fun xs H Q => ∃ p bs, xs = [.ref p] ∧ SqL K H p (bs.map V.bl) ∧ Q (.bl (f bs)) H
theorem truth_bl {bs : List Bool} (r : Vals (bs.map V.bl) its) : TruthOf prog w A (fun i v => its.toArray[i]? = some v) fun i => bs.getD i false := by
 intro i v s Q E e q
 obtain ⟨b, hb, rfl⟩ := vals_bl r (by simpa using e)
 have q : Q (bs.getD i false) s := q
 rw [List.getD_eq_getElem?_getD, hb] at q
 exact wpAny_truthy_bool q
theorem call_all (hc : X.calm = true) : CallR X (.builtin "all") (rAll X.K fun bs => bs.all id) := by
 intro pins s σ H xs us Q I r h
 obtain ⟨p, bs, rfl, hq, q⟩ := h
 obtain ⟨u, rfl, rx⟩ := vals1 r
 cases rx
 obtain ⟨its, r', pl, hz⟩ := I.list hq
 have hp : p < s.heap.objs.size := by obtain ⟨_, _, e, _⟩ := pl; exact Heap.lt_size e
 have hl : its.length = bs.length := by rw [← r'.length, List.length_map]
 refine call_all_walk (wpAny_pyIter_list pl.isList ⟨s.heap.objs.size, _, _, _, _, _, fun i => bs.getD i false, rfl, Walks.list (A := X.A.in1) (I.ok.hd hc) s.heap.objs.size p (Nat.ne_of_lt hp) its.toArray, ⟨⟨_, Heap.get?_push_size _ rfl, rfl, rfl⟩, pl.isList.at fun o e => Heap.get?_push_of_some _ e⟩, truth_bl r', fun h' tk hk => ?_⟩)
 rw [List.size_toArray, hl, range_all]
 exact ⟨.bl _, H, I.kept fun b o e => hk b o (fun z => absurd (Heap.lt_size e) (by simp_all)) (Heap.get?_push_of_some _ e), rfl, q⟩
theorem boot_all : bootBuiltins "all" = some (.builtin "all") := by decide
end
structure JIfs (X : Cx) (es : List Expr) (t : TT) : Prop where h : PIfs X es t
def nodupB : List Str → Bool
 | [] => true
 | x :: r => !(r.any fun y => x == y) && nodupB r
theorem nodupB_of : ∀ {l : List Str}, nodupB l = true → l.Nodup
 | [], _ => List.nodup_nil
 | x :: r, h => by
  unfold nodupB at h
  simp at h
  refine List.nodup_cons.mpr ⟨fun hm => ?_, nodupB_of h.2⟩
  grind
def compB (names0 : List (Str × NameKind)) (N : List Str) (scope : Scope) : Bool :=
 scope.kind == .function && scope.names.all (fun y => y.2 != .cell) && scope.names.all (fun y => y.2 != .local || scope.names.lookup y.1 == some .local) && scope.names.all (fun y => y.2 != .free || names0.lookup y.1 == some .cell || names0.lookup y.1 == some .free) && scope.names.all (fun y => y.1.cps.toList.head? != some 33) && nodupB (N.map (hid scope))
theorem kind_eq {a b : NameKind} (h : (a == b) = true) : a = b := by grind
theorem okind_eq {a b : Option NameKind} (h : (a == b) = true) : a = b := by grind
theorem CompS.of (h : compB X.env.scope.names X.N scope = true) : CompS X scope := by
 unfold compB at h
 simp only [Bool.and_eq_true, List.all_eq_true, Bool.or_eq_true] at h
 obtain ⟨⟨⟨⟨⟨h1, h2⟩, h3⟩, h4⟩, h5⟩, h6⟩ := h
 refine ⟨?_, fun y hy z => ?_, fun y hy z => ?_, fun y hy z => ?_, ?_, nodupB_of h6⟩
 · grind
 · have q := h2 y hy; rw [z] at q; cases q
 · rcases h3 y hy with q | q
   · rw [z] at q; cases q
   · exact okind_eq q
 · rcases h4 y hy with (q | q) | q
   · rw [z] at q; cases q
   · exact .inl (okind_eq q)
   · exact .inr (okind_eq q)
 · intro y
   cases e : scope.names.lookup (dotS y) with
   | none => rfl
   | some k =>
    have hm := PySem.mem_of_lookup e
    have := h5 _ hm
    have hd : (dotS y).cps.toList.head? = some 33 := rfl
    grind
section
theorem f_nil : JIfs X [] tYes := ⟨pifs_nil⟩
theorem f_one (h : JT X c tt) : JIfs X [c] tt := ⟨pifs_one h.h⟩
theorem j_cell (h : At X.N i x) (hk : X.env.scope.names.lookup x = some .cell) (hd : (x == ("__debug__" : Str)) = false) (hcd : (x == ("__classdict__" : Str)) = false) : JE X (.Name x pos) (tVar i) := ⟨pe_var h.get (.inr (.inl hk)) hd hcd⟩
theorem s_setC (h : At X.N i x) (hN : X.N.Nodup) (hk : X.env.scope.names.lookup x = some .cell) (hf : X.fn x = true) (hs : swapsWith e (some (.Name x p)) pos.line X.env = pure false) (he : JE X e te) : JS X (.Assign [.Name x p] e pos) (tAsg te (gName i)) := ⟨ps_set hN h.get (.inr hk) he.h hs (.inl hf)⟩
section
variable (hg : Gl X x) (he : starEach (e :: es) X.env = (false, eval e X.env) :: starEach es X.env) (hpl : (backTo pos (starEach es X.env)).any (·.1) = false)
include hg he hpl
theorem j_all (hx : x = "all") (hc : X.calm = true) (hm : X.mg x = none) (ha : JA X (e :: es) t) : JE X (.Call (.Name x p) (e :: es) [] pos) (tCB (rAll X.K fun bs => bs.all id) t) := ⟨by subst hx; exact pe_callB (call_all hc) hg hm boot_all ha.h (by decide) (by decide) he hpl⟩
end
end
section
variable {K : PySem.W.Frag}
theorem cmp_list (Pv : Nat → List V → L2.St → Hp → Prop) (h0 : Pv 0 [] σ0 H0) (hz : xs.length ≤ sizeLine) (hl : ∀ i ys σ H, i ≤ xs.length → Pv i ys σ H → SqL K H a xs ∧ ys.length ≤ i)
 (hs : ∀ i x ys σ H (N : List V → L2.St → Hp → Prop), xs[i]? = some x → Pv i ys σ H → (∀ ys' σ' H', Pv (i + 1) ys' σ' H' → N ys' σ' H') →
  g x σ H fun σ3 H3 => tt σ3 H3 fun b H4 => if b = true then te σ3 H4 fun y H5 => N (ys ++ [y]) σ3 H5 else N ys σ3 H4)
 (hd : ∀ ys σ H, Pv xs.length ys σ H → Z ys H) : Cmp (Itl K a) g tt te σ0 H0 Z := by
 refine ⟨fun i m ys σ H => m = xs.length - i ∧ i ≤ xs.length ∧ Pv i ys σ H, ⟨xs.length, by simp, Nat.zero_le _, h0⟩, ?_⟩
 rintro i m ys σ H ⟨rfl, hi, p⟩
 obtain ⟨q, hy⟩ := hl i ys σ H hi p
 refine ⟨by omega, ?_⟩
 by_cases hlt : i < xs.length
 · refine .inr ⟨⟨xs, xs[i], q, by simp⟩, fun x H' y => ?_⟩
   obtain ⟨e, y⟩ := y
   subst e
   exact hs i x ys σ _ (fun ys' σ' H' => ∃ m', m' < xs.length - i ∧ m' = xs.length - (i + 1) ∧ i + 1 ≤ xs.length ∧ Pv _ ys' σ' H') (y xs q) p fun ys' σ' H' p' => ⟨xs.length - _, by omega, rfl, hlt, p'⟩
 · have e : i = xs.length := by omega
   subst e
   exact .inl ⟨⟨xs, q, Nat.le_refl _⟩, hd ys σ H p⟩
theorem cmp_range {lo : Int} (Pv : Nat → List V → L2.St → Hp → Prop) (h0 : Pv 0 [] σ0 H0) (hz : n ≤ sizeLine) (hl : ∀ i ys σ H, i ≤ n → Pv i ys σ H → ys.length ≤ i)
 (hs : ∀ i ys σ H (N : List V → L2.St → Hp → Prop), i < n → Pv i ys σ H → (∀ ys' σ' H', Pv (i + 1) ys' σ' H' → N ys' σ' H') →
  g (.int (lo + i)) σ H fun σ3 H3 => tt σ3 H3 fun b H4 => if b = true then te σ3 H4 fun y H5 => N (ys ++ [y]) σ3 H5 else N ys σ3 H4)
 (hd : ∀ ys σ H, Pv n ys σ H → Z ys H) : Cmp (Itr lo n) g tt te σ0 H0 Z := by
 refine ⟨fun i m ys σ H => m = n - i ∧ i ≤ n ∧ Pv i ys σ H, ⟨n, by simp, Nat.zero_le _, h0⟩, ?_⟩
 rintro i m ys σ H ⟨rfl, hi, p⟩
 have hy := hl i ys σ H hi p
 refine ⟨by omega, ?_⟩
 by_cases hlt : i < n
 · refine .inr ⟨hlt, fun x H' y => ?_⟩
   obtain ⟨e, y⟩ := y
   subst e; subst y
   exact hs i ys σ _ (fun ys' σ' H' => ∃ m', m' < n - i ∧ m' = n - _ ∧ i + 1 ≤ n ∧ Pv (i + 1) ys' σ' H') hlt p fun ys' σ' H' p' => ⟨n - (i + 1), by omega, rfl, hlt, p'⟩
 · have e : i = n := by omega
   subst e
   exact .inl ⟨Nat.le_refl _, hd ys σ H p⟩
end
section
theorem loc_C (hk : scope.names.lookup x = some .local) : (cxC X Nc scope C s H fp).env.scope.names.lookup x = some .local := lookup_relabel_local hk
theorem not_mem_of (S : CompS X scope) (hk : scope.names.lookup x = some .local) : x ∉ X.N.map (hid scope) := fun h => by
 obtain ⟨y, _, e⟩ := List.mem_map.mp h
 rcases hid_cases scope y with ⟨_, h2⟩ | ⟨h1, h2⟩
 · rw [h2] at e; rw [← e, S.dot] at hk; grind
 simp_all
theorem g_C1 (S : CompS X scope) (hN : X.N.Nodup) (hk : scope.names.lookup x = some .local) (C : Addr) (s : Shared) (H : Hp) (fp : List Addr) : PG (cxC X [x] scope C s H fp) (.Name x px) (gName 0) :=
 pg_name (List.nodup_cons.mpr ⟨not_mem_of S hk, S.nd⟩) rfl (.inl (loc_C hk)) (.inr (loc_C hk))
theorem g_C2 (hc : X.calm = true) (S : CompS X scope) (hN : X.N.Nodup) (hxy : x ≠ y) (hx : scope.names.lookup x = some .local) (hy : scope.names.lookup y = some .local) (C : Addr) (s : Shared) (H : Hp) (fp : List Addr) :
 PG (cxC X [x, y] scope C s H fp) (.Tuple [.Name x px, .Name y py] k pt) (gTup X.K 2 (gCons (gName 0) (gCons (gName 1) gNil))) := by
 have nd := List.nodup_cons.mpr ⟨fun h => by
  rcases List.mem_cons.mp h with h | h
  · exact hxy h
  · exact not_mem_of S hx h, List.nodup_cons.mpr ⟨not_mem_of S hy, S.nd⟩⟩
 exact pg_tup hc (pgs_cons (pg_name nd rfl (.inl (loc_C hx)) (.inr (loc_C hx))) (pgs_cons (pg_name nd rfl (.inl (loc_C hy)) (.inr (loc_C hy))) pgs_nil))
theorem j_comp1 (hc : X.calm = true) (S : compB X.env.scope.names X.N scope = true) (hs : ∀ x, foldedSetIterable iter X.env x = pure x) (hN : X.N.Nodup) (hk : scope.names.lookup x = some .local) (hi : JI X (.Name x px) iter wi)
 (ht : ∀ C s H fp, JIfs (cxC X [x] scope C s H fp) ifs tt) (he : ∀ C s H fp, JE (cxC X [x] scope C s H fp) elt te) : JE X (.ListComp elt [⟨.Name x px, iter, ifs, 0⟩] scope pos) (tComp 1 wi (gName 0) tt te) :=
 ⟨pe_comp hc (.of S) hs hi.h (g_C1 (.of S) hN hk) (fun C s H fp => (ht C s H fp).h) fun C s H fp => (he C s H fp).h⟩
theorem j_comp2 (hc : X.calm = true) (S : compB X.env.scope.names X.N scope = true) (hs : ∀ x, foldedSetIterable iter X.env x = pure x) (hN : X.N.Nodup) (hxy : x ≠ y) (hx : scope.names.lookup x = some .local) (hy : scope.names.lookup y = some .local)
 (hi : JI X (.Tuple [.Name x px, .Name y py] k pt) iter wi) (ht : ∀ C s H fp, JIfs (cxC X [x, y] scope C s H fp) ifs tt) (he : ∀ C s H fp, JE (cxC X [x, y] scope C s H fp) elt te) :
 JE X (.ListComp elt [⟨.Tuple [.Name x px, .Name y py] k pt, iter, ifs, 0⟩] scope pos) (tComp 2 wi (gTup X.K 2 (gCons (gName 0) (gCons (gName 1) gNil))) tt te) :=
 ⟨pe_comp hc (.of S) hs hi.h (g_C2 hc (.of S) hN hxy hx hy) (fun C s H fp => (ht C s H fp).h) fun C s H fp => (he C s H fp).h⟩
theorem s_comp1 (hc : X.calm = true) (S : compB X.env.scope.names X.N scope = true) (hs : ∀ x, foldedSetIterable iter X.env x = pure x) (hN : X.N.Nodup) (hk : scope.names.lookup x = some .local) (h : At X.N i z) (hz : X.env.scope.names.lookup z = some .local)
 (hsw : swapsWith (.ListComp elt [⟨.Name x px, iter, ifs, 0⟩] scope pos) (some (.Name z p)) spos.line X.env = pure true) (hi : JI X (.Name x px) iter wi)
 (ht : ∀ C s H fp, JIfs (cxC X [x] scope C s H fp) ifs tt) (he : ∀ C s H fp, JE (cxC X [x] scope C s H fp) elt te) :
 JS X (.Assign [.Name z p] (.ListComp elt [⟨.Name x px, iter, ifs, 0⟩] scope pos) spos) (tAsg (tComp 1 wi (gName 0) tt te) (gName i)) :=
 ⟨ps_setComp (Nc := [x]) hc (.of S) hs hN h.get (.inl hz) (.inr hz) hsw hi.h (g_C1 (.of S) hN hk) (fun C s H fp => (ht C s H fp).h) fun C s H fp => (he C s H fp).h⟩
theorem s_comp2 (hc : X.calm = true) (S : compB X.env.scope.names X.N scope = true) (hs : ∀ x, foldedSetIterable iter X.env x = pure x) (hN : X.N.Nodup) (hxy : x ≠ y) (hx : scope.names.lookup x = some .local) (hy : scope.names.lookup y = some .local) (h : At X.N i z) (hz : X.env.scope.names.lookup z = some .local)
 (hsw : swapsWith (.ListComp elt [⟨.Tuple [.Name x px, .Name y py] k pt, iter, ifs, 0⟩] scope pos) (some (.Name z p)) spos.line X.env = pure true) (hi : JI X (.Tuple [.Name x px, .Name y py] k pt) iter wi)
 (ht : ∀ C s H fp, JIfs (cxC X [x, y] scope C s H fp) ifs tt) (he : ∀ C s H fp, JE (cxC X [x, y] scope C s H fp) elt te) :
 JS X (.Assign [.Name z p] (.ListComp elt [⟨.Tuple [.Name x px, .Name y py] k pt, iter, ifs, 0⟩] scope pos) spos) (tAsg (tComp 2 wi (gTup X.K 2 (gCons (gName 0) (gCons (gName 1) gNil))) tt te) (gName i)) :=
 ⟨ps_setComp hc (.of S) hs hN h.get (.inl hz) (.inr hz) hsw hi.h (g_C2 hc (.of S) hN hxy hx hy) (fun C s H fp => (ht C s H fp).h) fun C s H fp => (he C s H fp).h⟩
end
theorem cxC_K : (cxC X Nc scope C s H fp).K = X.K := rfl
section
variable {X : Cx} {K : PySem.W.Frag} (hK : X.K = K)
include hK
theorem k_ix (hs : PlainIx b) (ha : JE X a ta) (hb : JE X b tb) : JE X (.Subscript a b pos) (tOp (rIx K) ta tb) := hK ▸ j_ix hs ha hb
theorem k_append (hbase : attributeBase o "append" X.env (eval o X.env) = eval o X.env) (hfew : ((backTo cpos (starEach [e] X.env)).all (fun x => !x.1) && (backToKw cpos (keywordEach [] X.env)).all (fun x => x.1.isSome)
 && decide (([e] : List Expr).length + ([] : List Keyword).length + (if ([] : List Keyword).isEmpty then 0 else 1) < 30)) = true) (hline : (apos.endLine == cpos.line) = true) (hs : starEach [e] X.env = (false, eval e X.env) :: starEach [] X.env)
 (hpl : (backTo cpos (starEach [] X.env)).any (·.1) = false) (ho : JE X o to) (ha : JA X [e] t) : JE X (.Call (.Attribute o "append" apos) [e] [] cpos) (tBM K "list" rAppend to t) := hK ▸ j_append hbase hfew hline hs hpl ho ha
theorem k_comp2 (hc : X.calm = true) (S : compB X.env.scope.names X.N scope = true) (hs : ∀ x, foldedSetIterable iter X.env x = pure x) (hN : X.N.Nodup) (hxy : x ≠ y) (hx : scope.names.lookup x = some .local) (hy : scope.names.lookup y = some .local)
 (hi : JI X (.Tuple [.Name x px, .Name y py] k pt) iter wi) (ht : ∀ C s H fp, JIfs (cxC X [x, y] scope C s H fp) ifs tt) (he : ∀ C s H fp, JE (cxC X [x, y] scope C s H fp) elt te) :
 JE X (.ListComp elt [⟨.Tuple [.Name x px, .Name y py] k pt, iter, ifs, 0⟩] scope pos) (tComp 2 wi (gTup K 2 (gCons (gName 0) (gCons (gName 1) gNil))) tt te) := hK ▸ j_comp2 hc S hs hN hxy hx hy hi ht he
section
variable (hg : Gl X x) (he : starEach (e :: es) X.env = (false, eval e X.env) :: starEach es X.env) (hpl : (backTo pos (starEach es X.env)).any (·.1) = false)
include hg he hpl
theorem k_isi (hx : x = "isinstance") (hm : X.mg x = none) (ha : JA X (e :: es) t) : JE X (.Call (.Name x p) (e :: es) [] pos) (tCB (rIsi K) t) := hK ▸ j_isi hg he hpl hx hm ha
theorem k_len (hx : x = "len") (hm : X.mg x = none) (ha : JA X (e :: es) t) : JE X (.Call (.Name x p) (e :: es) [] pos) (tCB (rLen K) t) := hK ▸ j_len hg he hpl hx hm ha
theorem k_all (hx : x = "all") (hc : X.calm = true) (hm : X.mg x = none) (ha : JA X (e :: es) t) : JE X (.Call (.Name x p) (e :: es) [] pos) (tCB (rAll K fun bs => bs.all id) t) := hK ▸ j_all hg he hpl hx hc hm ha
end
end
def ikv (ks : List (Int × V)) : List (Key × V) := ks.map fun q => (.inl q.1, q.2)
def rSortD : List V → Hp → VK → Prop := fun xs H Q => ∃ (p : Addr) (ks : List (Int × V)), xs = [.ref p] ∧ H p = some (.dK (ikv ks)) ∧ ks.length < 64 ∧
 ∀ (l : Addr) (ns : List Int) (H' : Hp), H l = none → L2.Same H H' → H' l = some (.lst (ns.map V.int)) → ns.Perm (ks.map (·.1)) → ns.Pairwise (· ≤ ·) → Q (.ref l) H'
theorem ints_vals : ∀ {vs : List Value} {ns : List Int}, IntsAre vs ns → Vals (ns.map V.int) vs
 | _, _, .nil => .nil
 | _, _, .cons n t r => .cons ⟨t, rfl⟩ (ints_vals r)
theorem kv_get : ∀ {ks : List (Int × V)} {vs : List (Key × Value)} {i : Nat} {k : Key} {x : Value}, KV (ikv ks) vs → vs[i]? = some (k, x) → ∃ q, ks[i]? = some q ∧ k = .inl q.1
 | [], _, i, k, x, r, e => by cases r; simp_all
 | q :: ks, _, i, k, x, r, e => by
  cases r with
  | cons r rr =>
   cases i with
   | zero => simp_all
   | succ i =>
    obtain ⟨q', h1, h2⟩ := kv_get rr (by assumption)
    simp_all
theorem ints_of_get : ∀ {vs : List Value} {ns : List Int}, vs.length = ns.length → (∀ (j : Nat) (v : Value), vs[j]? = some v → ∃ n t, ns[j]? = some n ∧ v = .int n t) → IntsAre vs ns
 | [], [], _, _ => .nil
 | [], _ :: _, h, _ => by simp_all
 | _ :: _, [], h, _ => by simp_all
 | v :: vs, n :: ns, h, g => by
  obtain ⟨n', t, e1, e2⟩ := g 0 v rfl
  simp at e1; subst e1; subst e2
  exact .cons n t (ints_of_get (by simpa using h) fun j u e => by
   obtain ⟨n', t', e1, e2⟩ := g (j + 1) u (by simp_all)
   simp_all)
section
theorem call_sortD (hc : X.calm = true) : CallR X (.builtin "sorted") rSortD := by
 intro pins s σ H xs us Q I r h
 obtain ⟨p, ks, rfl, hq, h64, q⟩ := h
 obtain ⟨u, rfl, rx⟩ := vals1 r
 cases rx
 obtain ⟨hz, lo, vs, kv, dd⟩ := (show ObjOk X.prog X.w H s.heap p (.dK (ikv ks)) from I.hok p _ hq)
 obtain ⟨ep, hat⟩ := dd.dictAt
 have hl : vs.length = ks.length := by
  have := Paired.length kv
  rw [← this]; unfold ikv; rw [List.length_map]
 have hsz : (sizeLine : Nat) = 16777216 := sizeLine_eq
 refine Calls.call_function_entry kind_sorted plain_sorted entry_sorted (args_sorted1 _) ?_
 unfold Builtin.«sorted»
 refine wpAny_bind (m := checkCount "sorted" 1 1 _) (wpAny_pure ?_)
 refine wpAny_bind (PySem.W.kdu_collect (A := X.A.in1) (PySem.W.kdl_dict (knd := mixKind X.prog X.w) (kvs := vs) (ep := ep) lo) (I.ok.hd hc) hat (by omega) fun h' tk acc hk hacc => ?_)
 have hI : IntsAre acc.toList (ks.map (·.1)) := ints_of_get (by rw [Array.length_toList, List.length_map, hacc.1, hl]) fun j v e => by
  obtain ⟨k, x, e1, e2⟩ := hacc.2 j v (by rw [← Array.getElem?_toList]; exact e)
  obtain ⟨q', h1, h2⟩ := kv_get kv e1
  subst h2
  have e2 : keyIs (.inl q'.1) v = true := e2
  rcases keyIs_shape e2 with ⟨i, t, ek, e3⟩ | ⟨y, t, ek, e3⟩
  · subst e3
    injection ek with ek
    exact ⟨_, t, by rw [List.getElem?_map, h1]; rfl, by show Value.int i t = Value.int q'.1 t; rw [ek]⟩
  · cases ek
 have hal : acc.toList.length = ks.length := by rw [Array.length_toList, hacc.1, hl]
 refine wpAny_bind (wpAny_newList ?_ (by rw [hal]; omega))
 have hoL : (h'.push (seqObj "list" acc.toList.toArray 0)).get? h'.objs.size = some (seqObj "list" acc.toList.toArray 0) := Heap.get?_push_size _ rfl
 refine wpAny_bind (wpAny_holding (wpAny_call_entry slot_list_sort ⟨_, hoL, rfl⟩ entry_list_sort (list_sort_tree hoL hI (by omega) fun out ns' a1 a2 a3 => ⟨_, rfl, ?_⟩) (args_list_sort _)))
 refine wpAny_pure ⟨_, rfl, ?_⟩
 obtain ⟨n', e'⟩ : ∃ n', (sortedHeap (h'.push (seqObj "list" acc.toList.toArray 0)) h'.objs.size acc.toList out).get? h'.objs.size = some (seqObj "list" out n') := sortedHeap_at hoL
 have I1 : Inv X pins σ H { s with heap := h', toks := tk } := I.kept hk
 have hfr : H h'.objs.size = none := I1.hok.fresh (Nat.le_refl _)
 have keep : ∀ b o, h'.get? b = some o → (sortedHeap (h'.push (seqObj "list" acc.toList.toArray 0)) h'.objs.size acc.toList out).get? b = some o := fun b o e => by
  have hb := Heap.lt_size e
  rw [sortedHeap_old (Nat.ne_of_lt hb) (by rw [Heap.size_push]; exact Nat.lt_succ_of_lt hb)]
  exact Heap.get?_push_of_some _ e
 have hlen : ns'.length ≤ sizeLine := by rw [a2.length_eq, List.length_map]; omega
 have I2 :=
  I1.laid (t' := tk) keep (Nat.le_refl _) (show ObjOk X.prog X.w _ _ _ (.lst (ns'.map V.int)) from ⟨by rw [List.length_map]; exact hlen, out.toList, n', ints_vals a1, by simpa using e'⟩)
 exact ⟨.ref h'.objs.size, _, I2, rfl, q _ _ _ hfr (Br.Same.upd hfr) upd_same a2 a3⟩
theorem boot_sorted : bootBuiltins "sorted" = some (.builtin "sorted") := by rfl
def iSeq (K : PySem.W.Frag) (tl : TE) : TI := fun σ H R => tl σ H fun x H1 => ∃ a, x = .ref a ∧ (((∃ xs, SqL K H1 a xs) ∧ R (Itl K a) H1) ∨ ((∃ xs, SqT K H1 a xs) ∧ R (Itt K a) H1))
theorem pi_seq (hl : PE X l tl) : PI X tg l (iSeq X.K tl) := by
 intro pins s σ H R I h
 refine thn (hl pins s σ H _ I h) fun v s1 ⟨x, H1, I1, r1, q1⟩ => ?_
 obtain ⟨a, e, q1⟩ := q1
 subst e
 cases r1
 rcases q1 with ⟨⟨xs, hq⟩, q⟩ | ⟨⟨xs, hq⟩, q⟩
 · obtain ⟨its, rv, p, hz⟩ := I1.list hq
   refine wpAny_pyIter_list p.isList ?_
   refine ⟨s1.heap.objs.size, [s1.heap.objs.size], _, _, H1, rfl, I1.kept (t' := s1.toks) fun b o e => Heap.get?_push_of_some _ e, turn_list a _, ⟨_, Heap.get?_push_size _ rfl, rfl, rfl⟩, fun b hb => ?_, q⟩
   have e := by simpa using hb
   subst e
   exact I1.fpOk (Nat.le_refl _) (I1.hok.fresh (Nat.le_refl _))
 · obtain ⟨its, rv, p, hz⟩ := I1.tuple hq
   refine wpAny_pyIter_tuple (p) ?_
   refine ⟨s1.heap.objs.size, [s1.heap.objs.size], _, _, H1, rfl, I1.kept fun b o e => Heap.get?_push_of_some _ e, turn_tuple a _, ⟨_, Heap.get?_push_size _ rfl, rfl, rfl⟩, fun b hb => ?_, q⟩
   have e := by simpa using hb
   subst e
   exact I1.fpOk (Nat.le_refl _) (I1.hok.fresh (Nat.le_refl _))
def rSlS (K : PySem.W.Frag) : V → Option Int → Option Int → Hp → VK → Prop := fun x lo hi H Q => ∃ a xs, x = .ref a ∧ ((SqL K H a xs ∧ ∀ p H2, H p = none → L2.Same H H2 → H2 p = some (.lst (cutV xs lo hi)) → Q (.ref p) H2) ∨
 (SqT K H a xs ∧ ¬ (HT.sIx xs.length 0 lo = 0 ∧ HT.sIx xs.length xs.length hi = xs.length) ∧ ∀ p H2, H p = none → L2.Same H H2 → H2 p = some (.tup (cutV xs lo hi)) → Q (.ref p) H2))
theorem sl_S : SlR X (rSlS X.K) := by
 intro pins s σ H x v vl vu lo hi sl Q I rx hs pl pu h
 obtain ⟨a, xs, rfl, h⟩ := h
 rcases h with ⟨hx, q⟩ | ⟨hx, hn, q⟩
 · exact sl_list pins s σ H _ v vl vu lo hi sl Q I rx hs pl pu ⟨a, xs, rfl, hx, fun p hp => q p _ hp (Br.Same.upd hp) upd_same⟩
 · exact sl_tup pins s σ H _ v vl vu lo hi sl Q I rx hs pl pu ⟨a, xs, rfl, hx, hn, fun p hp => q p _ hp (Br.Same.upd hp) upd_same⟩
def rCatTS (K : PySem.W.Frag) : R2 := fun x y H Q => ∃ a b xs ys, x = .ref a ∧ y = .ref b ∧ SqT K H a xs ∧ SqT K H b ys ∧ xs ≠ [] ∧ xs.length + ys.length ≤ sizeLine ∧ ∀ p H2, L2.Same H H2 → SqT K H2 p (xs ++ ys) → Q (.ref p) H2
theorem op_catTS : OpR X (binaryOp .Add) (rCatTS X.K) := fun pins s σ H x y v u Q I rx ry h => by
 obtain ⟨a, b, xs, ys, e1, e2, h1, h2, hx, hz, q⟩ := h
 refine op_catT pins s σ H x y v u Q I rx ry ⟨a, b, xs, ys, e1, e2, h1, h2, hx, hz, fun e => ?_, fun _ p hp => q p _ (Br.Same.upd hp) (SqT.of upd_same)⟩
 exact q a H (L2.Same.refl _) (by simp_all)
def rTupOf (K : PySem.W.Frag) : List V → Hp → VK → Prop := fun xs H Q => ∃ p ys, xs = [.ref p] ∧ SqL K H p ys ∧ ∀ l H2, H l = none → L2.Same H H2 → H2 l = some (.tup ys) → Q (.ref l) H2
theorem call_tupS : CallR X (.type "tuple") (rTupOf X.K) := fun pins s σ H xs us Q I r h => by
 obtain ⟨p, ys, e, hq, q⟩ := h
 exact call_tuple_of pins s σ H xs us Q I r ⟨p, ys, e, .inl ⟨hq, fun l hl => q l _ hl (Br.Same.upd hl) upd_same⟩⟩
def rLstOf (K : PySem.W.Frag) : List V → Hp → VK → Prop := fun xs H Q => ∃ p ys, xs = [.ref p] ∧ (SqL K H p ys ∨ SqT K H p ys) ∧ ∀ l H2, H l = none → L2.Same H H2 → H2 l = some (.lst ys) → Q (.ref l) H2
theorem call_lstS : CallR X (.type "list") (rLstOf X.K) := fun pins s σ H xs us Q I r h => by
 obtain ⟨p, ys, e, hq, q⟩ := h
 exact call_list_of pins s σ H xs us Q I r ⟨p, ys, e, hq, fun l hl => q l _ hl (Br.Same.upd hl) upd_same⟩
theorem op_mulI : OpR X (binaryOp .Mult) (rI IntMulOk fun i j => .int (i * j)) := opI fun _ _ _ _ _ _ _ hc q => mul_int q hc
theorem CMulB.ok (h : CMulB i j) : IntMulOk i j := IntMulOk.of_bits (bits_of h.1) (bits_of h.2)
theorem boot_list' : bootBuiltins "list" = some (.type "list") := by decide +kernel
theorem boot_tuple' : bootBuiltins "tuple" = some (.type "tuple") := by decide
end
section
variable {X : Cx} {K : PySem.W.Frag} (hK : X.K = K)
theorem o_mulI : JOp X .Mult (rI IntMulOk fun i j => .int (i * j)) := ⟨op_mulI⟩
theorem k_seq (hK : X.K = K) (hl : JE X l tl) : JI X tg l (iSeq K tl) := hK ▸ ⟨pi_seq hl.h⟩
theorem k_slS (hK : X.K = K) {lo hi : Option Expr} (he : JE X e te) (hl : JO X lo tl) (hu : JO X hi th) : JE X (.Subscript e (.Slice lo hi none p2) pos) (tSl (rSlS K) te tl th) := hK ▸ ⟨pe_slice sl_S he.h hl.h hu.h⟩
theorem s_dput (hr : Room k X.A) (hs : swapsWith value (some (.Subscript (.Name "counts" p) b pos')) pos.line X.env = pure false) (ho : JE X (.Name "counts" p) td) (hi : JE X b ty) (hv : JE X value tv) : JS X (.Assign [.Subscript (.Name "counts" p) b pos'] value pos) (sDPut td ty tv) :=
 ⟨ps_dput (by have := hr.un; omega) ho.h hi.h hv.h hs⟩
theorem s_ixset (hs : swapsWithSole [.Subscript o b pos'] value pos.line X.env = pure false) (hw : swappedStores [.Subscript o b pos'] value X.env = pure none) (h1 : (assignEach [.Subscript o b pos'] X.env).map (·.2) = [assign (.Subscript o b pos') X.env])
 (ha : ∀ v, assign (.Subscript o b pos') X.env v = (do
  let ov ← holding [v] (eval o X.env)
  let iv ← holding [v, ov] (eval b X.env)
  standAt pos'
  holding [v, ov, iv] (setItem ov iv v)
  release [v, ov, iv] [])) (ho : JE X o to) (hi : JE X b tb) (hv : JE X value tv) : JS X (.Assign [.Subscript o b pos'] value pos) (tAsg tv (gSub to tb rSetL)) := ⟨ps_asg hv.h (pg_sub ho.h hi.h set_list ha) hs hw h1⟩
section
variable (hg : Gl X x) (he : starEach (e :: es) X.env = (false, eval e X.env) :: starEach es X.env) (hpl : (backTo pos (starEach es X.env)).any (·.1) = false)
include hg he hpl
theorem k_tuple (hK : X.K = K) (hx : x = "tuple") (hm : X.mg x = none) (ha : JA X (e :: es) t) : JE X (.Call (.Name x p) (e :: es) [] pos) (tCB (rTupOf K) t) := hK ▸ ⟨by subst hx; exact pe_callTy call_tupS hg hm boot_tuple' ha.h (by decide) (by decide) he hpl⟩
theorem k_listc (hK : X.K = K) (hx : x = "list") (hm : X.mg x = none) (ha : JA X (e :: es) t) : JE X (.Call (.Name x p) (e :: es) [] pos) (tCB (rLstOf K) t) := hK ▸ ⟨by subst hx; exact pe_callTy call_lstS hg hm boot_list' ha.h (by decide) (by decide) he hpl⟩
end
end
section
variable {K : PySem.W.Frag}
theorem cmp_tup (Pv : Nat → List V → L2.St → Hp → Prop) (h0 : Pv 0 [] σ0 H0) (hz : xs.length ≤ sizeLine) (hl : ∀ i ys σ H, i ≤ xs.length → Pv i ys σ H → SqT K H a xs ∧ ys.length ≤ i)
 (hs : ∀ i x ys σ H (N : List V → L2.St → Hp → Prop), xs[i]? = some x → Pv i ys σ H → (∀ ys' σ' H', Pv (i + 1) ys' σ' H' → N ys' σ' H') →
  g x σ H fun σ3 H3 => tt σ3 H3 fun b H4 => if b = true then te σ3 H4 fun y H5 => N (ys ++ [y]) σ3 H5 else N ys σ3 H4)
 (hd : ∀ ys σ H, Pv xs.length ys σ H → Z ys H) : Cmp (Itt K a) g tt te σ0 H0 Z := by
 refine ⟨fun i m ys σ H => m = xs.length - i ∧ i ≤ xs.length ∧ Pv i ys σ H, ⟨xs.length, by simp, Nat.zero_le _, h0⟩, ?_⟩
 rintro i m ys σ H ⟨rfl, hi, p⟩
 obtain ⟨q, hy⟩ := hl i ys σ H hi p
 refine ⟨by omega, ?_⟩
 by_cases hlt : i < xs.length
 · refine .inr ⟨⟨xs, xs[i], q, by simp⟩, fun x H' y => ?_⟩
   obtain ⟨e, y⟩ := y
   subst e
   exact hs i x ys σ _ (fun ys' σ' H' => ∃ m', m' < xs.length - i ∧ m' = xs.length - (i + 1) ∧ i + 1 ≤ xs.length ∧ Pv _ ys' σ' H') (y xs q) p fun ys' σ' H' p' => ⟨xs.length - _, by omega, rfl, hlt, p'⟩
 · have e : i = xs.length := by omega
   subst e
   exact .inl ⟨⟨xs, q, Nat.le_refl _⟩, hd ys σ H p⟩
end
section
theorem tsetAt {c : Addr} {o : Obj} {fs : Array Value} {i : Nat} {x : Value} {Q : Unit → Shared → Prop} (e1 : s.heap.get? c = some o) (e2 : o.data = .fields fs) (hi : i < fs.size)
 (go : ∀ g o', g.get? c = some o' → o'.cls = o.cls → o'.data = .fields (fs.set! i x) → Heap.SameBut c s.heap g → Q () { s with heap := g }) : wpAny (model prog w) A (setField (.ref c) i x) Q E s := by
 refine wpAny_setField e1 e2 hi ?_
 have f : (o.mapFields fun a => a.set! i x).data = .fields (fs.set! i x) := Obj.data_mapFields e2 _
 exact go _ _ (Heap.get?_update_self _ e1 (Obj.isFreed_of_fields f)) (Obj.cls_mapFields ..) f (Heap.SameBut.update ..)
theorem tstep {c d : Addr} {k : Nat} {zs : Array Value} {v : Value} {Q : Value → Shared → Prop} (hI : s.heap.IsTupleIter c d k) (hT : s.heap.IsTuple d zs) (hv : zs[k]? = some v)
 (go : ∀ g, g.IsTupleIter c d (k + 1) → Heap.SameBut c s.heap g → Q v { s with heap := g }) : wpAny (model prog w) A (Builtin.«tuple_iterator.__next__» ⟨[.ref c], []⟩) (fun fin s' => ∃ u, fin = .done (.ret u) ∧ Q u s') E s := by
 have hI' := hI
 obtain ⟨oc, q1, q2, q3⟩ := hI'
 have hT' := hT
 obtain ⟨od, p1, _, nd, p3⟩ := hT'
 have at_ : zs[((k : Nat) : Int).toNat]? = some v := by simpa using hv
 wp_walk using wpAny_field q1 q3 (x := .ref d) rfl, wpAny_field q1 q3 (x := .int k 0) rfl, wpAny_seqItems p1 p3
 rw [at_]
 refine wpAny_bind (tsetAt q1 q3 (by simp) fun g o' a1 a2 a3 sb => ?_)
 wp_walk
 exact ⟨_, rfl, go g ⟨o', a1, a2.trans q2, by rw [a3]; simp [rawInt]⟩ sb⟩
theorem tstop {c d : Addr} {k : Nat} {zs : Array Value} {Q : PySem.Fin → Shared → Prop} (hh : A.handled = none) (hI : s.heap.IsTupleIter c d k) (hT : s.heap.IsTuple d zs) (hv : zs[k]? = none)
 (go : ∀ g e, Heap.ExtBut c s.heap g → (∃ o, g.get? e = some o ∧ o.cls = .type "StopIteration") → E (.ref e) { s with heap := g }) : wpAny (model prog w) A (Builtin.«tuple_iterator.__next__» ⟨[.ref c], []⟩) Q E s := by
 have hI' := hI
 obtain ⟨oc, q1, q2, q3⟩ := hI'
 have hT' := hT
 obtain ⟨od, p1, _, nd, p3⟩ := hT'
 have at_ : zs[((k : Nat) : Int).toNat]? = none := by simpa using hv
 wp_walk using wpAny_field q1 q3 (x := .ref d) rfl, wpAny_field q1 q3 (x := .int k 0) rfl, wpAny_seqItems p1 p3
 rw [at_]
 refine wpAny_bind (wpAny_rule (wpAny_bind (tsetAt q1 q3 (by simp) fun g o' a1 a2 a3 sb => ?_)))
 wp_walk
 unfold raiseNew
 wp_walk using wpAny_handled
 rw [hh]
 wp_walk
 exact go _ _ ((sb.extBut.push _).push _) ⟨_, Heap.get?_push_size _ rfl, rfl⟩
theorem tnext {c d : Addr} {k : Nat} {zs : Array Value} {v : Value} {Q : Value → Shared → Prop} (hI : s.heap.IsTupleIter c d k) (hT : s.heap.IsTuple d zs) (hv : zs[k]? = some v)
 (go : ∀ g, g.IsTupleIter c d (k + 1) → Heap.SameBut c s.heap g → Q v { s with heap := g }) : wpAny (model prog w) A (Builtin.SmallTypes.nextOf (.ref c)) Q E s := by
 have sl := F.slot_tuple_iterator_next
 unfold Builtin.SmallTypes.nextOf
 refine wpAny_bind (wpAny_callSpecial?_slot (name := Str.ofString "__next__") hI.typeIs sl (wpAny_call_entry sl hI.typeIs F.entry_tuple_iterator_next ?_ (F.args_tuple_iterator_next_1 _)))
 exact wpAny_mono (tstep (Q := fun u s' => u = v ∧ Q v s') hI hT hv fun g a b => ⟨rfl, go g a b⟩) (fun fin s' ⟨u, e, e2, q⟩ => ⟨u, e, wpAny_pure (e2 ▸ q)⟩) fun _ _ z => z
theorem tnone {c d : Addr} {k : Nat} {zs : Array Value} {Q : Value → Shared → Prop} (hh : A.handled = none) (hI : s.heap.IsTupleIter c d k) (hT : s.heap.IsTuple d zs) (hv : zs[k]? = none)
 (go : ∀ g e, Heap.ExtBut c s.heap g → (∃ o, g.get? e = some o ∧ o.cls = .type "StopIteration") → E (.ref e) { s with heap := g }) : wpAny (model prog w) A (Builtin.SmallTypes.nextOf (.ref c)) Q E s := by
 have sl := F.slot_tuple_iterator_next
 unfold Builtin.SmallTypes.nextOf
 refine wpAny_bind (wpAny_callSpecial?_slot (name := Str.ofString "__next__") hI.typeIs sl (wpAny_call_entry sl hI.typeIs F.entry_tuple_iterator_next ?_ (F.args_tuple_iterator_next_1 _)))
 exact tstop hh hI hT hv go
structure Zp (h : Heap) (z u o c1 c2 d e : Addr) (xs ys : Array Value) (k : Nat) : Prop where
 zip : IsZip h z u o .none
 its : IsPair h u (.ref c1) (.ref c2)
 own : ∃ a b, IsPair h o a b
 i1 : h.IsTupleIter c1 d k
 i2 : h.IsTupleIter c2 e k
 t1 : h.IsTuple d xs
 t2 : h.IsTuple e ys
structure Ap (z u o c1 c2 d e : Addr) : Prop where
 ne : [z, u, o, c1, c2].Nodup
 nd : ∀ b ∈ [z, u, o, c1, c2], d ≠ b ∧ e ≠ b
theorem Ap.all {z u o c1 c2 d e : Addr} (P : Ap z u o c1 c2 d e) : z ≠ u ∧ z ≠ o ∧ z ≠ c1 ∧ z ≠ c2 ∧ u ≠ o ∧ u ≠ c1 ∧ u ≠ c2 ∧ o ≠ c1 ∧ o ≠ c2 ∧ c1 ≠ c2 := by
 have h := P.ne
 simp only [List.nodup_cons, List.mem_cons, List.mem_nil_iff, or_false, not_or] at h
 exact ⟨h.1.1, h.1.2.1, h.1.2.2.1, h.1.2.2.2, h.2.1.1, h.2.1.2.1, h.2.1.2.2, h.2.2.1.1, h.2.2.1.2, h.2.2.2.1⟩
theorem zdraw {z u o c1 c2 : Addr} {x y : Value} {J1 J2 : Heap → Prop} {Q : Value → Shared → Prop} (ne : [z, u, o, c1, c2].Nodup) (hz : IsZip s.heap z u o .none) (hu : IsPair s.heap u (.ref c1) (.ref c2)) (ho : ∃ a b, IsPair s.heap o a b)
 (s1 : ∀ g, Heap.SameBut z s.heap g → ∀ {R : Value → Shared → Prop} {E' : Value → Shared → Prop}, (∀ g', J1 g' → Heap.SameBut c1 g g' → R x { s with heap := g' }) → wpAny (model prog w) A (Builtin.SmallTypes.nextOf (.ref c1)) R E' { s with heap := g })
 (s2 : ∀ g, (∀ q ob, q ≠ z → q ≠ c1 → q ≠ o → s.heap.get? q = some ob → g.get? q = some ob) → ∀ {R : Value → Shared → Prop} {E' : Value → Shared → Prop}, (∀ g', J2 g' → Heap.SameBut c2 g g' → R y { s with heap := g' }) → wpAny (model prog w) A (Builtin.SmallTypes.nextOf (.ref c2)) R E' { s with heap := g })
 (m1 : ∀ g g', J1 g → (∀ ob, g.get? c1 = some ob → g'.get? c1 = some ob) → J1 g') (m2 : ∀ g g', J2 g → (∀ ob, g.get? c2 = some ob → g'.get? c2 = some ob) → J2 g')
 (go : ∀ g, IsZip g z u o (rawInt s.heap.objs.size) → IsPair g o x y → J1 g → J2 g → IsPair g s.heap.objs.size x y → g.objs.size = s.heap.objs.size + 1 →
  (∀ b ob, b ≠ z → b ≠ o → b ≠ c1 → b ≠ c2 → s.heap.get? b = some ob → g.get? b = some ob) → Q (.ref s.heap.objs.size) { s with heap := g }) :
 wpAny (model prog w) A (Builtin.«zip.__next__» ⟨[.ref z], []⟩) (fun fin s' => ∃ v, fin = .done (.ret v) ∧ Q v s') E s := by
 simp only [List.nodup_cons, List.mem_cons, List.mem_nil_iff, or_false, not_or] at ne
 obtain ⟨⟨n1, n2, n3, n4⟩, ⟨n5, n6, n7⟩, ⟨n8, n9⟩, n10, _⟩ := ne
 obtain ⟨a, b, hO⟩ := ho
 have w0 := fun {R : Unit → Shared → Prop} => wpAny_setField_rec (prog := prog) (w := w) (A := A) (E := E) (k := 0) (x := .ellipsis) (Q := R) hz (by simp)
 wp_walk using wpAny_field hz rfl (x := .bool false) rfl, wpAny_field hz rfl (x := .ref u) rfl, wpAny_field hz rfl (x := .none) rfl, wpAny_field hz rfl (x := .ref o) rfl, wpAny_seqItems hu rfl, w0
 intro g1 zz k1
 have z1 : IsZip g1 z u o .ellipsis := zz
 simp only [List.zipIdx_cons, List.zipIdx_nil, List.forIn_cons, List.forIn_nil]
 refine wpAny_bind (wpAny_bind (wpAny_bind (wpAny_onRaise ?_)))
 have d1 := fun {E' : Value → Shared → Prop} {R : Value → Shared → Prop} => s1 g1 k1 (R := R) (E' := E')
 wp_walk using d1
 intro g2 j2 k2
 have b2 : ∀ q ob, q ≠ z → q ≠ c1 → s.heap.get? q = some ob → g2.get? q = some ob := fun q ob m1 m2 e => k2.extBut _ _ m2 (k1.extBut _ _ m1 e)
 have o2 : IsPair g2 o a b := b2 _ _ (Ne.symm n2) n8 hO
 have up1 := fun {R : Unit → Shared → Prop} => wpAny_updateSeq_pair (prog := prog) (w := w) (A := A) (E := E) (s := { s with heap := g2 }) (k := 0) (x := x) (Q := R) o2
 wp_walk using wpAny_seqItems o2 rfl, up1, wpAny_letGo
 intro g3 zo k3
 have o3 : IsPair g3 o x b := zo
 have b3 : ∀ q ob, q ≠ z → q ≠ c1 → q ≠ o → s.heap.get? q = some ob → g3.get? q = some ob := fun q ob m1 m2 m3 e => k3.extBut _ _ m3 (b2 q ob m1 m2 e)
 have d2 := fun {E' : Value → Shared → Prop} {R : Value → Shared → Prop} => s2 g3 b3 (R := R) (E' := E')
 refine wpAny_bind (wpAny_letGo (wpAny_pure (wpAny_bind (wpAny_bind (wpAny_onRaise ?_)))))
 wp_walk using d2
 intro g4 j4 k4
 have o4 : IsPair g4 o x b := k4.extBut _ _ n9 o3
 have up2 := fun {R : Unit → Shared → Prop} => wpAny_updateSeq_pair (prog := prog) (w := w) (A := A) (E := E) (s := { s with heap := g4 }) (k := 1) (x := y) (Q := R) o4
 wp_walk using wpAny_seqItems o4 rfl, up2, wpAny_letGo
 intro g5 zo5 k5
 have o5 : IsPair g5 o x y := zo5
 have z5 : IsZip g5 z u o .ellipsis := k5.extBut _ _ n2 (k4.extBut _ _ n4 (k3.extBut _ _ n2 (k2.extBut _ _ n3 z1)))
 have len5 : g5.objs.size = s.heap.objs.size := by rw [k5.1, k4.1, k3.1, k2.1, k1.1]
 have zlt : z < g5.objs.size := Heap.lt_size z5
 have z6 : IsZip (g5.push { cls := .type "tuple", data := .seq #[x, y] }) z u o .ellipsis := Heap.get?_push_of_some _ z5
 have w6 := fun {R : Unit → Shared → Prop} => wpAny_setField_rec (prog := prog) (w := w) (A := A) (E := E) (s := { s with heap := g5.push { cls := .type "tuple", data := .seq #[x, y] } }) (k := 0) (x := rawInt g5.objs.size) (Q := R) z6 (by simp)
 wp_walk using wpAny_letGo, wpAny_seqItems o5 rfl, w6
 intro g7 zz7 k7
 have z7 : IsZip g7 z u o (rawInt g5.objs.size) := zz7
 have w7 := fun {R : Unit → Shared → Prop} => wpAny_setField_rec (prog := prog) (w := w) (A := A) (E := E) (s := { s with heap := g7 }) (k := 1) (x := .bool false) (Q := R) z7 (by simp)
 wp_walk using w7
 intro g8 zz8 k8
 have z8 : IsZip g8 z u o (rawInt g5.objs.size) := zz8
 have on : ∀ q ob, q ≠ z → g5.get? q = some ob → g8.get? q = some ob := fun q ob m e => k8.extBut _ _ m (k7.extBut _ _ m (Heap.get?_push_of_some _ e))
 have p8 : IsPair g8 g5.objs.size x y := k8.extBut _ _ (Nat.ne_of_gt zlt) (k7.extBut _ _ (Nat.ne_of_gt zlt) (Heap.get?_push_size _ rfl))
 have len8 : g8.objs.size = g5.objs.size + 1 := by rw [k8.1, k7.1, Heap.size_push]
 rw [len5] at z8 p8 len8
 wp_walk
 refine ⟨_, rfl, ?_⟩
 rw [len5]
 exact go g8 z8 (on _ _ (Ne.symm n2) o5) (m1 _ _ j2 fun ob q => on _ ob (Ne.symm n3) (k5.extBut _ _ (Ne.symm n8) (k4.extBut _ _ n10 (k3.extBut _ _ (Ne.symm n8) q)))) (m2 _ _ j4 fun ob q => on _ ob (Ne.symm n4) (k5.extBut _ _ (Ne.symm n9) q))
  p8 len8 fun q ob m1 m2 m3 m4 e => on q ob m1 (k5.extBut _ _ m2 (k4.extBut _ _ m4 (b3 q ob m1 m3 m2 e)))
theorem zdrawNo {z u o c1 c2 : Addr} {Q : PySem.Fin → Shared → Prop} (ne : [z, u, o, c1, c2].Nodup) (hz : IsZip s.heap z u o .none) (hu : IsPair s.heap u (.ref c1) (.ref c2)) (ho : ∃ a b, IsPair s.heap o a b)
 (src : (∀ g, Heap.SameBut z s.heap g → ∀ {R : Value → Shared → Prop} {E' : Value → Shared → Prop}, (∀ g' f, Heap.ExtBut c1 g g' → (∃ ob, g'.get? f = some ob ∧ ob.cls = .type "StopIteration") → E' (.ref f) { s with heap := g' }) → wpAny (model prog w) A (Builtin.SmallTypes.nextOf (.ref c1)) R E' { s with heap := g }) ∨
  ∃ x, (∀ g, Heap.SameBut z s.heap g → ∀ {R : Value → Shared → Prop} {E' : Value → Shared → Prop}, (∀ g', Heap.SameBut c1 g g' → R x { s with heap := g' }) → wpAny (model prog w) A (Builtin.SmallTypes.nextOf (.ref c1)) R E' { s with heap := g }) ∧
   ∀ g, (∀ q ob, q ≠ z → q ≠ c1 → q ≠ o → s.heap.get? q = some ob → g.get? q = some ob) → ∀ {R : Value → Shared → Prop} {E' : Value → Shared → Prop}, (∀ g' f, Heap.ExtBut c2 g g' → (∃ ob, g'.get? f = some ob ∧ ob.cls = .type "StopIteration") → E' (.ref f) { s with heap := g' }) → wpAny (model prog w) A (Builtin.SmallTypes.nextOf (.ref c2)) R E' { s with heap := g })
 (go : ∀ g x, (∀ b ob, b ≠ z → b ≠ o → b ≠ c1 → b ≠ c2 → s.heap.get? b = some ob → g.get? b = some ob) → (∃ ob, g.get? x = some ob ∧ ob.cls = .type "StopIteration") → E (.ref x) { s with heap := g }) :
 wpAny (model prog w) A (Builtin.«zip.__next__» ⟨[.ref z], []⟩) Q E s := by
 simp only [List.nodup_cons, List.mem_cons, List.mem_nil_iff, or_false, not_or] at ne
 obtain ⟨⟨n1, n2, n3, n4⟩, ⟨n5, n6, n7⟩, ⟨n8, n9⟩, n10, _⟩ := ne
 obtain ⟨a, b, hO⟩ := ho
 have w0 := fun {R : Unit → Shared → Prop} => wpAny_setField_rec (prog := prog) (w := w) (A := A) (E := E) (k := 0) (x := .ellipsis) (Q := R) hz (by simp)
 wp_walk using wpAny_field hz rfl (x := .bool false) rfl, wpAny_field hz rfl (x := .ref u) rfl, wpAny_field hz rfl (x := .none) rfl, wpAny_field hz rfl (x := .ref o) rfl, wpAny_seqItems hu rfl, w0
 intro g1 zz k1
 have z1 : IsZip g1 z u o .ellipsis := zz
 have off : ∀ (g : Heap) (f : Addr), IsZip g z u o .ellipsis → (∃ ob, g.get? f = some ob ∧ ob.cls = .type "StopIteration") → (∀ q ob, q ≠ z → q ≠ o → q ≠ c1 → q ≠ c2 → s.heap.get? q = some ob → g.get? q = some ob) →
  wpAny (model prog w) A (setField (.ref z) 0 .none) (fun _ s' => E (.ref f) s') E { s with heap := g } := fun g f zg ⟨ob, e1, e2⟩ al => by
  have fz : f ≠ z := fun q => by
   rw [q, zg] at e1; cases e1; simp at e2
  exact wpAny_setField_rec zg (by simp) fun g' _ kk => go g' f (fun q oq m1 m2 m3 m4 e => kk.extBut _ _ m1 (al q oq m1 m2 m3 m4 e)) ⟨ob, kk.extBut _ _ fz e1, e2⟩
 simp only [List.zipIdx_cons, List.zipIdx_nil, List.forIn_cons, List.forIn_nil]
 refine wpAny_bind (wpAny_bind (wpAny_bind (wpAny_onRaise ?_)))
 rcases src with s1 | ⟨x1, s1, s2⟩
 · have d1 := fun {E' : Value → Shared → Prop} {R : Value → Shared → Prop} => s1 g1 k1 (R := R) (E' := E')
   wp_walk using d1
   intro g2 f kk st
   exact off g2 f (kk _ _ n3 z1) st fun q ob m1 _ m3 _ e => kk _ _ m3 (k1.extBut _ _ m1 e)
 · have d1 := fun {E' : Value → Shared → Prop} {R : Value → Shared → Prop} => s1 g1 k1 (R := R) (E' := E')
   wp_walk using d1
   intro g2 k2
   have o2 : IsPair g2 o a b := k2.extBut _ _ n8 (k1.extBut _ _ (Ne.symm n2) hO)
   have up1 := fun {R : Unit → Shared → Prop} => wpAny_updateSeq_pair (prog := prog) (w := w) (A := A) (E := E) (s := { s with heap := g2 }) (k := 0) (x := x1) (Q := R) o2
   wp_walk using wpAny_seqItems o2 rfl, up1, wpAny_letGo
   intro g3 zo k3
   have b3 : ∀ q ob, q ≠ z → q ≠ c1 → q ≠ o → s.heap.get? q = some ob → g3.get? q = some ob := fun q ob m1 m2 m3 e => k3.extBut _ _ m3 (k2.extBut _ _ m2 (k1.extBut _ _ m1 e))
   refine wpAny_bind (wpAny_letGo (wpAny_pure (wpAny_bind (wpAny_bind (wpAny_onRaise ?_)))))
   have d2 := fun {E' : Value → Shared → Prop} {R : Value → Shared → Prop} => s2 g3 b3 (R := R) (E' := E')
   wp_walk using d2
   intro g4 f kk st
   exact off g4 f (kk _ _ n4 (k3.extBut _ _ n2 (k2.extBut _ _ n3 z1))) st fun q ob m1 m2 m3 m4 e => kk _ _ m4 (b3 q ob m1 m3 m2 e)
end
theorem sqT_apart {X : Cx} {pins : List (Addr × Obj)} {σ : L2.St} {H : Hp} {s : Shared} {d b : Addr} {xs : List V} (I : Inv X pins σ H s) (h : SqT X.K H d xs) (f : FpOk X pins H b) : d ≠ b := fun z => by
 subst z
 rcases h with h | ⟨o, its, n, hk, _⟩
 · rcases h with h | ⟨o, h⟩
   · rw [f.1] at h; cases h
   · rw [f.1] at h; cases h
 · have e := I.ok.mod.kin d o hk
   rcases f.2.2.2.1 with z | z
   · exact I.ok.noex d o e z
   · exact absurd (Nat.lt_of_lt_of_le (Heap.lt_size e) (Nat.le_trans I.ok.bsz z)) (Nat.lt_irrefl _)
theorem boot_zip : bootBuiltins "zip" = some (.type "zip") := by decide +kernel
theorem preSum_take (ns : List Int) : ∀ n, n ≤ ns.length → preSum (fun i => ns.getD i 0) n = (ns.take n).sum
 | 0, _ => rfl
 | n + 1, h => by
  show preSum _ n + ns.getD n 0 = _
  rw [preSum_take ns n (by omega), List.take_add_one, List.sum_append, List.getD_eq_getElem?_getD, List.getElem?_eq_getElem (by omega)]
  simp
theorem vals_int : ∀ {ns : List Int} {its : List Value} {i : Nat} {v : Value}, Vals (ns.map V.int) its → its[i]? = some v → ∃ n t, ns[i]? = some n ∧ v = .int n t
 | [], _, i, v, r, e => by cases r; simp_all
 | n :: ns, _, i, v, r, e => by
  cases r with
  | cons r rr =>
   cases i with
   | zero => simp at e; subst e; obtain ⟨t, rfl⟩ := r; simp
   | succ i =>
    obtain ⟨n', t, h1, h2⟩ := vals_int rr (by assumption)
    simp_all
theorem boot_sum' : bootBuiltins "sum" = some (.builtin "sum") := by rfl
section
variable {K : PySem.W.Frag}
theorem g_tup2 (hi : At X.N i x) (hj : At X.N j y) (hc : X.calm = true) (hN : X.N.Nodup) (hx : X.env.scope.names.lookup x = some .local) (hy : X.env.scope.names.lookup y = some .local)
 (h1 : (assignEach [.Name x px, .Name y py] X.env).map (·.2) = assign (.Name x px) X.env :: (assignEach [.Name y py] X.env).map (·.2))
 (h2 : (assignEach [.Name y py] X.env).map (·.2) = assign (.Name y py) X.env :: (assignEach [] X.env).map (·.2))
 (hn : (assignEach [.Name x px, .Name y py] X.env).length = 2) (hst : (assignEach [.Name x px, .Name y py] X.env).findIdx? (·.1) = none) : JG X (.Tuple [.Name x px, .Name y py] kt pt) (gTup X.K 2 (gCons (gName i) (gCons (gName j) gNil))) :=
 ⟨pg_tup hc (pgs_cons (pg_name hN hi.get (.inl hx) (.inr hx)) (pgs_cons (pg_name hN hj.get (.inl hy) (.inr hy)) pgs_nil h2) h1) hn hst⟩
end
section
variable {St : Nat → Heap → Prop}
structure Cq (prog : Program) (w : World) (A : Around) (T : Nat → Value → Prop) (bt : Nat → Nat → Bool) (Ok : Heap → Prop) (wr : List Addr) : Prop where
 stay : ∀ h h', Ok h → (∀ b o, b ∉ wr → h.get? b = some o → h'.get? b = some o) → Ok h'
 lt : ∀ i j vi vj (s : Shared) (Q : Value → Shared → Prop) (E : Value → Shared → Prop), Ok s.heap → T i vi → T j vj → Q (.bool (bt i j)) s → wpAny (model prog w) A (richCompare .Lt vi vj) Q E s
abbrev scr (v : Value) (c : Nat) : Obj := { cls := .type "list", dict := none, data := .seq #[v, v] c, slots := #[] }
end
def ltB (ns : List Int) (i j : Nat) : Bool := decide (ns.getD i 0 < ns.getD j 0)
theorem argBest_le (bt : Nat → Nat → Bool) : ∀ n, argBest bt n ≤ n
 | 0 => Nat.le_refl _
 | n + 1 => by
  unfold argBest
  split
  · exact Nat.le_refl _
  · exact Nat.le_succ_of_le (argBest_le bt n)
theorem argBest_first (ns : List Int) : ∀ n, (∀ m, m ≤ n → ns.getD (argBest (ltB ns) n) 0 ≤ ns.getD m 0) ∧ ∀ m, m < argBest (ltB ns) n → ns.getD (argBest (ltB ns) n) 0 < ns.getD m 0
 | 0 => ⟨fun m hm => by have : m = 0 := by omega
                        subst this; exact Int.le_refl _, fun m hm => by simp [argBest] at hm⟩
 | n + 1 => by
  obtain ⟨h1, h2⟩ := argBest_first ns n
  unfold argBest
  by_cases hb : ltB ns (n + 1) (argBest (ltB ns) n) = true
  · have hb' := of_decide_eq_true hb
    grind
  · have hb' := fun z => hb (decide_eq_true z)
    grind
end Br
namespace Br
end Br
namespace Br
open PySem PySem.Spec PySem.Calls PyProof.Rows L2
section
variable {St : Nat → Heap → Prop}
theorem minGoK (W : Walks prog w A.in1 I fp wr n T St) (C : Cq prog w A.in1 T bt Ok (S :: wr)) (hSf : S ∉ fp) :
 ∀ (d j : Nat) (s : Shared) (v : Value) (c : Nat), n - (j + 1) = d → j + 1 ≤ n → St (j + 1) s.heap → Ok s.heap → T (argBest bt j) v → s.heap.get? S = some (scr v c) →
 (∀ v h' tk, T (argBest bt (n - 1)) v → (∀ b o, b ∉ S :: wr → s.heap.get? b = some o → h'.get? b = some o) → R (.ok (.ret v)) { s with heap := h', toks := tk }) → codeAny (model prog w) A (.builtin "min.loop" ⟨[.ref I, .none, .ref S], kw⟩) R s := by
 have apart : S ∉ wr := fun h => hSf (W.sub _ h)
 have out : ∀ {q : Addr}, q ∉ S :: wr → S ≠ q ∧ q ∉ wr := fun h => by
  simp only [List.mem_cons, not_or] at h
  exact ⟨Ne.symm h.1, h.2⟩
 intro d
 induction d with
 | zero =>
  intro j s v c hd hj st ok hv hS go
  have last : j + 1 = n := by omega
  have quiet := Around.under_plainId (A := A) F.plain_min_loop
  apply codeAny_builtin F.entry_min_loop
  rw [quiet]
  have dn := fun {Q' : Option Value → Shared → Prop} {E' : Value → Shared → Prop} => W.done s Q' E' (last ▸ st)
  refine wpAny_bind (wpAny_seqItems hS rfl (wpAny_bind (wpAny_tryCatch (dn fun h1 tk1 k1 => ?_))))
  have hS1 := k1 S _ apart hS
  wp_walk using wpAny_updateSeq hS1 rfl, wpAny_letGo
  exact go v _ tk1 (last ▸ hv) fun q o hq e => (Heap.get?_update_other _ _ (out hq).1).trans (k1 q o (out hq).2 e)
 | succ d ih =>
  intro j s v c hd hj st ok hv hS go
  have more : j + 1 < n := by omega
  have quiet := Around.under_plainId (A := A) F.plain_min_loop
  apply codeAny_builtin F.entry_min_loop
  rw [quiet]
  have it := fun {Q' : Option Value → Shared → Prop} {E' : Value → Shared → Prop} => W.item (j + 1) s Q' E' more st
  refine wpAny_bind (wpAny_seqItems hS rfl (wpAny_bind (wpAny_tryCatch (it fun u h1 tk1 hu st1 k1 => ?_))))
  have hS1 := k1 S _ apart hS
  have ok1 : Ok h1 := C.stay _ _ ok fun q o hq e => k1 q o (out hq).2 e
  have cm := fun {Q' : Value → Shared → Prop} {E' : Value → Shared → Prop} => C.lt (j + 1) (argBest bt j) u v { s with heap := h1, toks := tk1 } Q' E' ok1 hu hv
  wp_walk using cm, wpAny_letGo
  refine wpAny_tryCatch (wpAny_holding (wpAny_bind (cm ?_)))
  wp_walk using wpAny_truthy_bool, wpAny_letGo
  have same : (toString "min" ++ toString ".loop" : String) = "min.loop" := by decide
  by_cases won : bt (j + 1) (argBest bt j) = true
  · have best : argBest bt (j + 1) = j + 1 := by simp [argBest, won]
    have kept : ∀ q o, q ∉ S :: wr → s.heap.get? q = some o → (h1.update S (Obj.mapSeq fun _ => #[u, u])).get? q = some o := fun q o hq e => (Heap.get?_update_other _ _ (out hq).1).trans (k1 q o (out hq).2 e)
    have st2 : St (j + 1 + 1) (h1.update S (Obj.mapSeq fun _ => #[u, u])) := W.frame _ h1 _ st1 fun q hq o e => (Heap.get?_update_other _ _ fun z : S = q => hSf (z ▸ hq)).trans e
    rw [if_pos won]
    refine wpAny_bind (wpAny_updateSeq hS1 rfl (wpAny_bind (wpAny_letGo ?_)))
    rw [same]
    refine wpAny_pure ⟨plainId_quiet F.plain_min_loop _, ?_⟩
    exact ih (j + 1) _ u _ (by omega) more st2 (C.stay _ _ ok kept) (by rw [best]; exact hu) (Heap.get?_update_self _ hS1 rfl) fun v' h' tk' a1 a2 => go v' h' tk' a1 fun q o hq e => a2 q o hq (kept q o hq e)
  · have best : argBest bt (j + 1) = argBest bt j := by simp [argBest, won]
    rw [if_neg won]
    refine wpAny_bind (wpAny_letGo ?_)
    rw [same]
    refine wpAny_pure ⟨plainId_quiet F.plain_min_loop _, ?_⟩
    exact ih (j + 1) _ v c (by omega) more st1 ok1 (by rw [best]; exact hv) hS1 fun v' h' tk' a1 a2 => go v' h' tk' a1 fun q o hq e => a2 q o hq (k1 q o (out hq).2 e)
theorem minStartK (W : Walks prog w A.in1 I fp wr n T St) (C : Cq prog w A.in1 T bt Ok (S :: wr)) (hSf : S ∉ fp) (hn : 0 < n) (st : St 0 s.heap) (ok : Ok s.heap)
 (hS : s.heap.get? S = some { cls := .type "list", dict := none, data := .seq #[] c, slots := #[] })
 (go : ∀ v h' tk, T (argBest bt (n - 1)) v → (∀ b o, b ∉ S :: wr → s.heap.get? b = some o → h'.get? b = some o) → R (.ok (.ret v)) { s with heap := h', toks := tk }) : codeAny (model prog w) A (.builtin "min.loop" ⟨[.ref I, .none, .ref S], kw⟩) R s := by
 have apart : S ∉ wr := fun h => hSf (W.sub _ h)
 have out : ∀ {q : Addr}, q ∉ S :: wr → S ≠ q ∧ q ∉ wr := fun h => by grind
 have quiet := Around.under_plainId (A := A) F.plain_min_loop
 have same : (toString "min" ++ toString ".loop" : String) = "min.loop" := by decide
 have it := fun {Q' : Option Value → Shared → Prop} {E' : Value → Shared → Prop} => W.item 0 s Q' E' hn st
 have sq := fun {Q' : Option (Array Value) → Shared → Prop} => wpAny_seqItems (M := model prog w) (A := A.in1) (E := fun x s' => R (.error x) s') (Q := Q') hS rfl
 apply codeAny_builtin F.entry_min_loop
 rw [quiet]
 apply wpAny_bind
 apply sq
 apply wpAny_bind
 apply wpAny_tryCatch
 apply it
 intro u h1 tk1 hu st1 k1
 have hS1 := k1 S _ apart hS
 wp_walk using wpAny_updateSeq hS1 rfl, wpAny_letGo
 rw [same]
 have kept : ∀ q o, q ∉ S :: wr → s.heap.get? q = some o → (h1.update S (Obj.mapSeq fun _ => #[u, u])).get? q = some o := fun q o hq e => (Heap.get?_update_other _ _ (out hq).1).trans (k1 q o (out hq).2 e)
 have st2 : St (0 + 1) (h1.update S (Obj.mapSeq fun _ => #[u, u])) := W.frame _ h1 _ st1 fun q hq o e => (Heap.get?_update_other _ _ fun z : S = q => hSf (z ▸ hq)).trans e
 exact ⟨plainId_quiet F.plain_min_loop _, minGoK W C hSf _ 0 _ u _ rfl hn st2 (C.stay _ _ ok kept) hu (Heap.get?_update_self _ hS1 rfl) fun v' h' tk' a1 a2 => go v' h' tk' a1 fun q o hq e => a2 q o hq (kept q o hq e)⟩
theorem minNoneK {s : Shared} {c : Nat} {dn : Str} {dv : Value} (W : Walks prog w A.in1 I fp wr 0 T St) (hSf : S ∉ fp) (st : St 0 s.heap)
 (hS : s.heap.get? S = some { cls := .type "list", dict := none, data := .seq #[] c, slots := #[] })
 (go : ∀ h' tk, (∀ b o, b ∉ S :: wr → s.heap.get? b = some o → h'.get? b = some o) → R (.ok (.ret dv)) { s with heap := h', toks := tk }) : codeAny (model prog w) A (.builtin "min.loop" ⟨[.ref I, .none, .ref S], [(dn, dv)]⟩) R s := by
 have quiet := Around.under_plainId (A := A) F.plain_min_loop
 have dn := fun {Q' : Option Value → Shared → Prop} {E' : Value → Shared → Prop} => W.done s Q' E' st
 have sq := fun {Q' : Option (Array Value) → Shared → Prop} => wpAny_seqItems (M := model prog w) (A := A.in1) (E := fun x s' => R (.error x) s') (Q := Q') hS rfl
 apply codeAny_builtin F.entry_min_loop
 rw [quiet]
 apply wpAny_bind
 apply sq
 apply wpAny_bind
 apply wpAny_tryCatch
 apply dn
 intro h1 tk1 k1
 wp_walk
 exact go h1 tk1 fun q o hq e => k1 q o (fun z => hq (List.mem_cons_of_mem _ z)) e
theorem args_minD (a v : Value) : argsOk "min" ⟨[a], [(Str.ofString "default", v)]⟩ := by rfl
theorem minCallD
 (h : wpAny (model prog w) A.in1 (pyIter x) (fun it s2 => ∃ I fp wr n T St, it = .ref I ∧ Walks prog w A.in1 I fp wr n T St ∧ St 0 s2.heap ∧ (∀ b ∈ fp, b < s2.heap.objs.size) ∧
  (0 < n → ∃ bt Ok, Ok (s2.heap.push { cls := .type "list", data := .seq #[] }) ∧ Cq prog w A.in1 T bt Ok (s2.heap.objs.size :: wr) ∧ ∀ v h' tk, T (argBest bt (n - 1)) v → (∀ b o, b ∉ wr → s2.heap.get? b = some o → h'.get? b = some o) → Q v { s2 with heap := h', toks := tk }) ∧
  (n = 0 → ∀ h' tk, (∀ b o, b ∉ wr → s2.heap.get? b = some o → h'.get? b = some o) → Q dv { s2 with heap := h', toks := tk })) E s) : wpAny (model prog w) A (call (.builtin "min") [x] [(Str.ofString "default", dv)]) Q E s := by
 have nam : (toString "min" ++ toString ".loop" : String) = "min.loop" := by decide
 refine kmk_tree F.kind_min F.plain_min F.entry_min (args_minD _ _) ?_
 show wpAny _ A.in1 (Builtin.Builtins.bindParams "min" ["key", "default"] 0 ⟨[], [(Str.ofString "default", dv)]⟩ >>= _) _ _ s
 refine wpAny_bind (wpAny_of_eq (show Builtin.Builtins.bindParams "min" ["key", "default"] 0 ⟨[], [(Str.ofString "default", dv)]⟩ = pure [none, some dv] from rfl) (wpAny_bind (wpAny_pure (wpAny_bind (wpAny_mono h (fun it s2 h2 => ?_) fun _ _ e => e)))))
 obtain ⟨I, fp, wr, n, T, St, rfl, W, st, hfp, go1, go0⟩ := h2
 refine wpAny_bind (wpAny_newObj_type ?_)
 have nS : s2.heap.objs.size ∉ fp := fun hm => Nat.lt_irrefl _ (hfp _ hm)
 rw [nam]
 have off : ∀ {h' : Heap}, (∀ b o, b ∉ s2.heap.objs.size :: wr → (s2.heap.push { cls := .type "list", data := .seq #[] }).get? b = some o → h'.get? b = some o) → ∀ b o, b ∉ wr → s2.heap.get? b = some o → h'.get? b = some o := fun k b o hb e => k b o (fun z => (List.mem_cons.mp z).elim (fun z => absurd (Heap.lt_size e) (by rw [z]; exact Nat.lt_irrefl _)) hb) (Heap.get?_push_of_some _ e)
 by_cases hn : 0 < n
 · obtain ⟨bt, Ok, ok, C, go⟩ := go1 hn
   refine wpAny_pure ⟨plainId_quiet F.plain_min_loop _, minStartK W C nS hn (W.frame 0 _ _ st fun b _ o e => Heap.get?_push_of_some _ e) ok (Heap.get?_push_size _ rfl) fun v h' tk hv k => ?_⟩
   exact go v h' tk hv (off k)
 · have hn0 : n = 0 := by omega
   subst hn0
   refine wpAny_pure ⟨plainId_quiet F.plain_min_loop _, minNoneK W nS (W.frame 0 _ _ st fun b _ o e => Heap.get?_push_of_some _ e) (Heap.get?_push_size _ rfl) fun h' tk k => ?_⟩
   exact go0 rfl h' tk (off k)
end
def CallRD (X : Cx) (f : Value) (nm : Str) (r : List V → V → Hp → VK → Prop) : Prop :=
 ∀ (pins : List (Addr × Obj)) (s : Shared) (σ : L2.St) (H : Hp) (xs : List V) (us : List Value) (d : V) (dv : Value) (Q : VK), Inv X pins σ H s → Vals xs us → RelV d dv → r xs d H Q → wpAny (model X.prog X.w) X.A (call f us [(nm, dv)]) (EP X pins σ Q) X.xe s
def tCBd (r : List V → V → Hp → VK → Prop) (t : TA) (td : TE) : TE := fun σ H Q => t σ H fun vs H1 => td σ H1 fun d H2 => r vs d H2 Q
section
variable {K : PySem.W.Frag} {pos p kp : Pos} {x nm : Str} {id : String}
theorem pe_callBD (hc : CallRD X (.builtin id) nm r) (hg : Gl X x) (hm : X.mg x = none) (hv : bootBuiltins x = some (.builtin id)) (ha : PA X (e :: es) t) (hd : PE X dv td) (hn : x ≠ "__name__" := by decide) (hdb : (x == ("__debug__" : Str)) = false := by decide)
 (he : backTo pos (starEach (e :: es) X.env) = (false, eval e X.env) :: backTo pos (starEach es X.env) := by rfl) (hpl : (backTo pos (starEach (e :: es) X.env)).any (·.1) = false := by rfl) :
 PE X (.Call (.Name x p) (e :: es) [⟨some nm, dv, kp⟩] pos) (tCBd r t td) := by
 intro pins s σ H Q I h
 refine wpAny_Call_Name_kw (ld_blt I hg hm hv ?_ hn hdb)
 refine callWith_kw (thn (ha pos pins s σ H _ I h) fun us s1 ⟨vs, H1, I1, r1, q1⟩ => kws_cons (thn (hd pins s1 σ H1 _ I1 q1) fun v s2 ⟨d, H2, I2, r2, q2⟩ => kws_nil ?_)) he hpl rfl rfl
 exact hc pins s2 σ H2 vs us d v Q I2 r1 r2 q2
def rMinD (K : PySem.W.Frag) : List V → V → Hp → VK → Prop := fun xs d H Q => ∃ (p : Addr) (ns : List Int), xs = [.ref p] ∧ SqL K H p (ns.map V.int) ∧ (∀ v : Int, v ∈ ns → (∀ y ∈ ns, v ≤ y) → Q (.int v) H) ∧ (ns = [] → Q d H)
theorem call_minD (hc : X.calm = true) : CallRD X (.builtin "min") (Str.ofString "default") (rMinD X.K) := by
 intro pins s σ H xs us d dv Q I r rd h
 obtain ⟨p, ns, rfl, hq, q1, q0⟩ := h
 obtain ⟨u, rfl, rx⟩ := vals1 r
 cases rx
 obtain ⟨its, r', pl, hz⟩ := I.list hq
 have hp : p < s.heap.objs.size := by obtain ⟨_, _, e, _⟩ := pl; exact Heap.lt_size e
 have hl : its.length = ns.length := by rw [← r'.length, List.length_map]
 have hval : ∀ (i : Nat) (v : Value), its.toArray[i]? = some v → ∃ t, v = Value.int (ns.getD i 0) t := fun i v e => by
  obtain ⟨n, t, h1, h2⟩ := vals_int r' (by simpa using e)
  exact ⟨t, by rw [h2, List.getD_eq_getElem?_getD, h1]; rfl⟩
 refine minCallD (wpAny_pyIter_list pl.isList ⟨s.heap.objs.size, _, _, _, _, _, rfl, Walks.list (A := X.A.in1) (I.ok.hd hc) s.heap.objs.size p (Nat.ne_of_lt hp) its.toArray, ⟨⟨_, Heap.get?_push_size _ rfl, rfl, rfl⟩, pl.isList.at fun o e => Heap.get?_push_of_some _ e⟩, fun b hb => ?_, fun hn => ⟨ltB ns, fun _ => True, trivial, ⟨fun _ _ _ _ => trivial, fun i j vi vj s' Q' E' _ e1 e2 hQ => CmpOf.ints_lt (fun i => ns.getD i 0) hval i j vi vj s' Q' E' e1 e2 hQ⟩, fun v h' tk e kp => ?_⟩, fun hn h' tk kp => ?_⟩)
 · show b < (s.heap.push _).objs.size
   rw [Heap.size_push]
   rcases List.mem_cons.mp hb with e | hb
   · rw [e]; exact Nat.lt_succ_self _
   · rw [List.mem_singleton.mp hb]; exact Nat.lt_succ_of_lt hp
 · rw [List.size_toArray] at hn
   rw [List.size_toArray, hl] at e
   obtain ⟨t, rfl⟩ := hval _ _ e
   have hle : argBest (ltB ns) (ns.length - 1) < ns.length := by have := argBest_le (ltB ns) (ns.length - 1); omega
   refine ⟨.int (ns.getD (argBest (ltB ns) (ns.length - 1)) 0), H, I.kept fun b o q => kp b o (fun z => absurd (Heap.lt_size q) (by rw [List.mem_singleton.mp z]; exact Nat.lt_irrefl _)) (Heap.get?_push_of_some _ q), ⟨t, rfl⟩, q1 _ ?_ fun y hy => ?_⟩
   · rw [List.getD_eq_getElem?_getD, List.getElem?_eq_getElem hle]; exact List.getElem_mem hle
   · obtain ⟨i, hi, rfl⟩ := List.getElem_of_mem hy
     have := (argBest_first ns (ns.length - 1)).1 i (by omega)
     simp_all
 · rw [List.size_toArray, hl] at hn
   exact ⟨d, H, I.kept fun b o q => kp b o (fun z => absurd (Heap.lt_size q) (by rw [List.mem_singleton.mp z]; exact Nat.lt_irrefl _)) (Heap.get?_push_of_some _ q), rd, q0 (List.length_eq_zero_iff.mp hn)⟩
theorem k_minD (hK : X.K = K) (hg : Gl X x) (he : backTo pos (starEach (e :: es) X.env) = (false, eval e X.env) :: backTo pos (starEach es X.env)) (hpl : (backTo pos (starEach (e :: es) X.env)).any (·.1) = false) (hx : x = "min") (hn : nm = "default") (hc : X.calm = true) (hm : X.mg x = none) (ha : JA X (e :: es) t) (hd : JE X dv td) :
 JE X (.Call (.Name x p) (e :: es) [⟨some nm, dv, kp⟩] pos) (tCBd (rMinD K) t td) := hK ▸ ⟨by subst hx; subst hn; exact pe_callBD (call_minD hc) hg hm boot_min ha.h hd.h (by decide) (by decide) he hpl⟩
def rSortS (K : PySem.W.Frag) : List V → Hp → VK → Prop := fun xs H Q => ∃ (p : Addr) (ns : List Int), xs = [.ref p] ∧ (SqL K H p (ns.map V.int) ∨ SqT K H p (ns.map V.int)) ∧ ns.length < 64 ∧
 ∀ (l : Addr) (ms : List Int) (H' : Hp), H l = none → L2.Same H H' → H' l = some (.lst (ms.map V.int)) → ms.Perm ns → ms.Pairwise (· ≤ ·) → Q (.ref l) H'
theorem vals_ints : ∀ {ns : List Int} {vs : List Value}, Vals (ns.map V.int) vs → IntsAre vs ns
 | [], _, r => by cases r; exact .nil
 | n :: ns, _, r => by
  cases r with
  | cons r rr =>
   obtain ⟨t, rfl⟩ := r
   exact .cons n t (vals_ints rr)
theorem call_sortS : CallR X (.builtin "sorted") (rSortS X.K) := by
 intro pins s σ H xs us Q I r h
 obtain ⟨p, ns, rfl, hq, h64, q⟩ := h
 obtain ⟨u, rfl, rx⟩ := vals1 r
 cases rx
 have hsz : (sizeLine : Nat) = 16777216 := sizeLine_eq
 obtain ⟨its, o, T, cn, r', hT, ho, hcl, hdt⟩ : ∃ (its : List Value) (o : Obj) (T : String) (cn : Nat), Vals (ns.map V.int) its ∧ (T = "list" ∨ T = "tuple") ∧ s.heap.get? p = some o ∧ o.cls = .type T ∧ o.data = .seq its.toArray cn := by
  rcases hq with hq | hq
  · obtain ⟨its, r', pl, hz⟩ := I.list hq
    obtain ⟨o, ho, hc, n, hd⟩ := pl.isList
    exact ⟨its, o, "list", n, r', .inl rfl, ho, hc, hd⟩
  · obtain ⟨its, r', ⟨o, ho, hc, n, hd⟩, hz⟩ := I.tuple hq
    exact ⟨its, o, "tuple", n, r', .inr rfl, ho, hc, hd⟩
 have hl : its.length = ns.length := by rw [← r'.length, List.length_map]
 refine Calls.call_function_entry kind_sorted plain_sorted entry_sorted (args_sorted1 _) ?_
 unfold Builtin.«sorted»
 refine wpAny_bind (m := checkCount "sorted" 1 1 _) (wpAny_pure ?_)
 refine wpAny_bind (wpAny_collect_seq p hT ho hcl hdt (fun h' hk => ?_) (by rw [List.size_toArray]; omega))
 have hI : IntsAre its ns := vals_ints r'
 have eI : its.toArray.toList = its := by simp
 rw [eI]
 refine wpAny_bind (wpAny_newList ?_ (by rw [hl]; omega))
 have hoL : (h'.push (seqObj "list" its.toArray 0)).get? h'.objs.size = some (seqObj "list" its.toArray 0) := Heap.get?_push_size _ rfl
 refine wpAny_bind (wpAny_holding (wpAny_call_entry slot_list_sort ⟨_, hoL, rfl⟩ entry_list_sort (list_sort_tree hoL hI (by omega) fun out ns' a1 a2 a3 => ⟨_, rfl, ?_⟩) (args_list_sort _)))
 refine wpAny_pure ⟨_, rfl, ?_⟩
 obtain ⟨n', e'⟩ : ∃ n', (sortedHeap (h'.push (seqObj "list" its.toArray 0)) h'.objs.size its out).get? h'.objs.size = some (seqObj "list" out n') := sortedHeap_at hoL
 have I1 : Inv X pins σ H { s with heap := h' } := I.kept (t' := s.toks) hk
 have hfr : H h'.objs.size = none := I1.hok.fresh (Nat.le_refl _)
 have keep : ∀ b o, h'.get? b = some o → (sortedHeap (h'.push (seqObj "list" its.toArray 0)) h'.objs.size its out).get? b = some o := fun b o e => by
  have hb := Heap.lt_size e
  rw [sortedHeap_old (Nat.ne_of_lt hb) (by rw [Heap.size_push]; exact Nat.lt_succ_of_lt hb)]
  exact Heap.get?_push_of_some _ e
 have hlen : ns'.length ≤ sizeLine := by rw [a2.length_eq]; omega
 have I2 :=
  I1.laid (t' := s.toks) keep (Nat.le_refl _) (show ObjOk X.prog X.w _ _ _ (.lst (ns'.map V.int)) from ⟨by rw [List.length_map]; exact hlen, out.toList, n', ints_vals a1, by simpa using e'⟩)
 exact ⟨.ref h'.objs.size, _, I2, rfl, q _ _ _ hfr (Br.Same.upd hfr) upd_same a2 a3⟩
def rDm : List V → Hp → VK → Prop := fun xs H Q => ∃ i j, xs = [.int i, .int j] ∧ CDivB i j ∧ ∀ p H2, H p = none → L2.Same H H2 → H2 p = some (.tup [.int (i / j), .int (i % j)]) → Q (.ref p) H2
theorem call_dm : CallR X (.builtin "divmod") rDm := by
 intro pins s σ H xs us Q I r h
 obtain ⟨i, j, rfl, hb, q⟩ := h
 obtain ⟨u, w', rfl, ⟨t, rfl⟩, ⟨t', rfl⟩⟩ := vals2 r
 refine divmod_int (Int.ne_of_gt hb.1) ?_ (.inl (PyProof.noPylong_of_log2 (log2_of hb.1 hb.2)))
 rw [Int.fdiv_eq_ediv_of_nonneg i (Int.le_of_lt hb.1), Int.fmod_eq_emod_of_nonneg i (Int.le_of_lt hb.1)]
 have hn := I.hok.fresh (Nat.le_refl _)
 refine ⟨.ref s.heap.objs.size, _, ?_, rfl, q _ _ hn (Br.Same.upd hn) upd_same⟩
 refine I.laid (fun b o e => Heap.get?_push_of_some _ e) (Nat.le_refl _) ⟨by simp; decide, [.int _ s.toks, .int _ (s.toks + 1)], .cons ⟨_, rfl⟩ (.cons ⟨_, rfl⟩ .nil), ?_⟩
 exact ⟨_, Heap.get?_push_size s.heap rfl, rfl, 0, rfl⟩
theorem boot_divmod' : bootBuiltins "divmod" = some (.builtin "divmod") := by rfl
section
variable (hg : Gl X x) (he : starEach (e :: es) X.env = (false, eval e X.env) :: starEach es X.env) (hpl : (backTo pos (starEach es X.env)).any (·.1) = false)
include hg he hpl
theorem j_dm (hx : x = "divmod") (hm : X.mg x = none) (ha : JA X (e :: es) t) : JE X (.Call (.Name x p) (e :: es) [] pos) (tCB rDm t) := ⟨by subst hx; exact pe_callB call_dm hg hm boot_divmod' ha.h (by decide) (by decide) he hpl⟩
end
end
section
variable {K : PySem.W.Frag}
theorem s_unpackIx (hK : X.K = K) (hj : At X.N j y) (hc : X.calm = true) (hN : X.N.Nodup) (hy : X.env.scope.names.lookup y = some .local)
 (h1 : (assignEach [.Subscript o b pos', .Name y py] X.env).map (·.2) = assign (.Subscript o b pos') X.env :: (assignEach [.Name y py] X.env).map (·.2))
 (h2 : (assignEach [.Name y py] X.env).map (·.2) = assign (.Name y py) X.env :: (assignEach [] X.env).map (·.2))
 (hn : (assignEach [.Subscript o b pos', .Name y py] X.env).length = 2) (hst : (assignEach [.Subscript o b pos', .Name y py] X.env).findIdx? (·.1) = none)
 (hs : swapsWithSole [.Tuple [.Subscript o b pos', .Name y py] kt pt] e pos.line X.env = pure false) (hw : swappedStores [.Tuple [.Subscript o b pos', .Name y py] kt pt] e X.env = pure none)
 (h3 : (assignEach [.Tuple [.Subscript o b pos', .Name y py] kt pt] X.env).map (·.2) = [assign (.Tuple [.Subscript o b pos', .Name y py] kt pt) X.env])
 (ha : ∀ v, assign (.Subscript o b pos') X.env v = (do
  let ov ← holding [v] (eval o X.env)
  let iv ← holding [v, ov] (eval b X.env)
  standAt pos'
  holding [v, ov, iv] (setItem ov iv v)
  release [v, ov, iv] [])) (he : JE X e te) (ho : JE X o to) (hi : JE X b tb) :
 JS X (.Assign [.Tuple [.Subscript o b pos', .Name y py] kt pt] e pos) (tAsg te (gTup K 2 (gCons (gSub to tb rSetL) (gCons (gName j) gNil)))) :=
 hK ▸ ⟨ps_asg he.h (pg_tup hc (pgs_cons (pg_sub ho.h hi.h set_list ha) (pgs_cons (pg_name hN hj.get (.inl hy) (.inr hy)) pgs_nil h2) h1) hn hst) hs hw h3⟩
end
end Br
namespace Br
open PySem PySem.Spec PyProof.Rows L2
def cutS (ns : List Int) (M : Int) : Int := (ns.map fun c => if M < c then M else c).sum
theorem sum_perm : ∀ {l m : List Int}, l.Perm m → l.sum = m.sum := fun p => by
 induction p with
 | nil => rfl
 | cons x _ ih => simp_all
 | swap x y l => simp; omega
 | trans _ _ a b => grind
theorem cutS_perm (p : l.Perm m) (M : Int) : cutS l M = cutS m M := sum_perm (p.map _)
theorem cutS_cons (x : Int) (l : List Int) (M : Int) : cutS (x :: l) M = (if M < x then M else x) + cutS l M := rfl
theorem cutS_nil (M : Int) : cutS [] M = 0 := rfl
theorem cutS_append (l m : List Int) (M : Int) : cutS (l ++ m) M = cutS l M + cutS m M := by unfold cutS; simp
theorem cutS_le_sum : ∀ (l : List Int) (M : Int), cutS l M ≤ l.sum
 | [], _ => Int.le_refl _
 | x :: l, M => by
  rw [cutS_cons, List.sum_cons]
  have := cutS_le_sum l M
  omega
theorem cutS_le_len : ∀ (l : List Int) (M : Int), cutS l M ≤ l.length * M
 | [], M => by rw [cutS_nil]; simp
 | x :: l, M => by
  rw [cutS_cons, List.length_cons]
  have := cutS_le_len l M
  grind
theorem cutS_split : ∀ (l : List Int) (M : Int), l.Pairwise (· ≤ ·) → ∃ k, k ≤ l.length ∧ cutS l M = (l.take k).sum + ((l.length - k : Nat) : Int) * M
 | [], M, _ => ⟨0, Nat.le_refl _, by rw [cutS_nil]; simp⟩
 | x :: l, M, h => by
  rw [List.pairwise_cons] at h
  by_cases hx : M < x
  · refine ⟨0, Nat.zero_le _, ?_⟩
    have all : ∀ (m : List Int), (∀ y ∈ m, M < y) → cutS m M = m.length * M := by
     intro m
     induction m with
     | nil => intro _; rw [cutS_nil]; simp
     | cons y m ih =>
      intro hm
      rw [cutS_cons, if_pos (hm y (.head _)), ih fun z hz => hm z (.tail _ hz), List.length_cons]
      push_cast
      rw [Int.add_mul, Int.one_mul]; omega
    rw [all (x :: l) fun y hy => by
     rcases List.mem_cons.mp hy with rfl | hy
     · exact hx
     · have := h.1 y hy; omega]
    simp
  · obtain ⟨k, hk, e⟩ := cutS_split l M h.2
    refine ⟨k + 1, by rw [List.length_cons]; omega, ?_⟩
    rw [cutS_cons, if_neg hx, e, List.take_succ_cons, List.sum_cons, List.length_cons]
    have : l.length + 1 - (k + 1) = l.length - k := by omega
    rw [this]; omega
theorem cutS_top (l : List Int) (M : Int) (hM : 0 ≤ M) (g : Nat) : cutS l M ≤ (l.take (l.length - g)).sum + g * M := by
 have e : cutS l M = cutS (l.take (l.length - g)) M + cutS (l.drop (l.length - g)) M := by rw [← cutS_append, List.take_append_drop]
 have h1 := cutS_le_sum (l.take (l.length - g)) M
 have h2 := cutS_le_len (l.drop (l.length - g)) M
 have h3 : ((l.drop (l.length - g)).length : Int) * M ≤ g * M := Int.mul_le_mul_of_nonneg_right (by grind) hM
 omega
def Enough (ns : List Int) (d N : Int) : Prop := d * N ≤ cutS ns N
def IsMost (ns : List Int) (d N : Int) : Prop := 0 ≤ N ∧ Enough ns d N ∧ ¬ Enough ns d (N + 1)
theorem sum_nonneg : ∀ {l : List Int}, (∀ x ∈ l, 0 ≤ x) → 0 ≤ l.sum
 | [], _ => Int.le_refl _
 | x :: l, h => by
  rw [List.sum_cons]
  have := sum_nonneg fun y hy => h y (.tail _ hy)
  have := h x (.head _)
  omega
theorem most_is {ns ms : List Int} {d N : Int} (hp : ms.Perm ns) (hs : ms.Pairwise (· ≤ ·)) (h0 : ∀ x ∈ ns, 0 ≤ x) (hd : 1 ≤ d)
 (hin : ∃ g : Nat, (g : Int) < d ∧ N = (ms.take (ms.length - g)).sum / (d - g)) (hle : ∀ g : Nat, (g : Int) < d → N ≤ (ms.take (ms.length - g)).sum / (d - g)) : IsMost ns d N := by
 have hm0 : ∀ x ∈ ms, 0 ≤ x := fun x hx => h0 x (hp.mem_iff.mp hx)
 obtain ⟨g, hg, e⟩ := hin
 have hN : 0 ≤ N := by rw [e]; exact Int.ediv_nonneg (sum_nonneg fun x hx => hm0 x (List.mem_of_mem_take hx)) (by omega)
 refine ⟨hN, ?_, ?_⟩
 · unfold Enough
   rw [← cutS_perm hp]
   obtain ⟨k, hk, ek⟩ := cutS_split ms N hs
   rw [ek]
   have t0 : 0 ≤ (ms.take k).sum := sum_nonneg fun x hx => hm0 x (List.mem_of_mem_take hx)
   by_cases hc : ((ms.length - k : Nat) : Int) < d
   · have h1 := hle _ hc
     have ek2 : ms.length - (ms.length - k) = k := by omega
     rw [ek2] at h1
     have h2 := (Int.le_ediv_iff_mul_le (by omega)).mp h1
     have : d * N = N * (d - ((ms.length - k : Nat) : Int)) + ((ms.length - k : Nat) : Int) * N := by
      rw [Int.mul_comm (((ms.length - k : Nat) : Int)) N, ← Int.mul_add, Int.mul_comm d N]; congr 1; omega
     omega
   · have : d * N ≤ ((ms.length - k : Nat) : Int) * N := Int.mul_le_mul_of_nonneg_right (by omega) hN
     omega
 · unfold Enough
   rw [← cutS_perm hp]
   have h1 := cutS_top ms (N + 1) (by omega) g
   have h2 : (ms.take (ms.length - g)).sum < (N + 1) * (d - g) := (Int.ediv_lt_iff_lt_mul (by omega)).mp (by omega)
   have : d * (N + 1) = (N + 1) * (d - g) + g * (N + 1) := by
    rw [Int.mul_comm (g : Int), ← Int.mul_add, Int.mul_comm d]; congr 1; omega
   omega
theorem cut_down : ∀ {ns : List Int} {M N : Int}, (∀ x ∈ ns, 0 ≤ x) → 0 ≤ M → M ≤ N → cutS ns N * M ≤ cutS ns M * N
 | [], M, N, _, _, _ => by rw [cutS_nil, cutS_nil]; simp
 | x :: ns, M, N, h, h0, h1 => by
  rw [cutS_cons, cutS_cons, Int.add_mul, Int.add_mul]
  have ih := cut_down (fun y hy => h y (.tail _ hy)) h0 h1
  have hx := h x (.head _)
  have : (if N < x then N else x) * M ≤ (if M < x then M else x) * N := by
   by_cases a : N < x
   · rw [if_pos a, if_pos (by omega), Int.mul_comm]; simp
   · rw [if_neg a]
     by_cases b : M < x
     · rw [if_pos b, Int.mul_comm]; exact Int.mul_le_mul_of_nonneg_left (by omega) h0
     · rw [if_neg b]; exact Int.mul_le_mul_of_nonneg_left h1 hx
  omega
theorem Enough.down (h : ∀ x ∈ ns, 0 ≤ x) (h0 : 0 ≤ M) (h1 : M ≤ N) (e : Enough ns d N) : Enough ns d M := by
 by_cases hN : N = 0
 · grind
 · have c := cut_down h h0 h1
   have c2 := Int.mul_le_mul_of_nonneg_right e h0
   have c3 : (d * M) * N ≤ cutS ns M * N := by grind
   exact Int.le_of_mul_le_mul_right c3 (by omega)
theorem IsMost.uniq (h : ∀ x ∈ ns, 0 ≤ x) (a : IsMost ns d M) (b : IsMost ns d N) : M = N := by
 by_cases e : M = N
 · grind
 · by_cases l : M < N
   · exact absurd (b.2.1.down h (by have := a.1; omega) (by omega)) a.2.2
   · exact absurd (a.2.1.down h (by have := b.1; omega) (by omega)) b.2.2
end Br
namespace Br
open PySem PySem.Spec PySem.Calls PyProof.Rows L2
section
theorem iter_seq {pins : List (Addr × Obj)} {s : Shared} {σ : L2.St} {H : Hp} {p : Addr} {ns : List Int} (hc : X.calm = true) (I : Inv X pins σ H s) (hq : SqL X.K H p (ns.map V.int) ∨ SqT X.K H p (ns.map V.int)) {Q : Value → Shared → Prop} {E : Value → Shared → Prop}
 (h : ∀ (T : String) (its : List Value) (St : Nat → Heap → Prop), its.length = ns.length → (∀ (i : Nat) (v : Value), its.toArray[i]? = some v → ∃ t, v = Value.int (ns.getD i 0) t) →
  Walks X.prog X.w X.A.in1 s.heap.objs.size [s.heap.objs.size, p] [s.heap.objs.size] its.toArray.size (fun i v => its.toArray[i]? = some v) St → St 0 (s.heap.push { cls := .type T, data := .fields #[.ref p, .int 0 0] }) → p < s.heap.objs.size →
  Q (.ref s.heap.objs.size) { s with heap := s.heap.push { cls := .type T, data := .fields #[.ref p, .int 0 0] } }) : wpAny (model X.prog X.w) X.A.in1 (pyIter (.ref p)) Q E s := by
 rcases hq with hq | hq
 · obtain ⟨its, r', pl, hz⟩ := I.list hq
   have hp : p < s.heap.objs.size := by obtain ⟨_, _, e, _⟩ := pl; exact Heap.lt_size e
   have hl : its.length = ns.length := by rw [← r'.length, List.length_map]
   exact wpAny_pyIter_list pl.isList (h "list_iterator" its _ hl (fun i v e => by
    obtain ⟨n, t, h1, h2⟩ := vals_int r' (by simpa using e)
    exact ⟨t, by rw [h2, List.getD_eq_getElem?_getD, h1]; rfl⟩) (Walks.list (A := X.A.in1) (I.ok.hd hc) s.heap.objs.size p (Nat.ne_of_lt hp) its.toArray) ⟨⟨_, Heap.get?_push_size _ rfl, rfl, rfl⟩, pl.isList.at fun o e => Heap.get?_push_of_some _ e⟩ hp)
 · obtain ⟨its, r', pl, hz⟩ := I.tuple hq
   have pl' : s.heap.IsTuple p its.toArray := pl
   have hp : p < s.heap.objs.size := by obtain ⟨_, e, _⟩ := pl; exact Heap.lt_size e
   have hl : its.length = ns.length := by rw [← r'.length, List.length_map]
   exact wpAny_pyIter_tuple pl' (h "tuple_iterator" its _ hl (fun i v e => by
    obtain ⟨n, t, h1, h2⟩ := vals_int r' (by simpa using e)
    exact ⟨t, by rw [h2, List.getD_eq_getElem?_getD, h1]; rfl⟩) (Walks.tuple (A := X.A.in1) (I.ok.hd hc) s.heap.objs.size p (Nat.ne_of_lt hp) its.toArray) ⟨⟨_, Heap.get?_push_size _ rfl, rfl, rfl⟩, pl'.at fun o e => Heap.get?_push_of_some _ e⟩ hp)
theorem fp_lt {s : Shared} {p : Addr} (hp : p < s.heap.objs.size) : ∀ b ∈ [s.heap.objs.size, p], b < (s.heap.push o).objs.size := fun b hb => by
 rw [Heap.size_push]
 rcases List.mem_cons.mp hb with e | hb
 · simp_all
 · rw [List.mem_singleton.mp hb]; exact Nat.lt_succ_of_lt hp
def rSumS (K : PySem.W.Frag) : List V → Hp → VK → Prop := fun xs H Q => ∃ (p : Addr) (ns : List Int), xs = [.ref p] ∧ (SqL K H p (ns.map V.int) ∨ SqT K H p (ns.map V.int)) ∧ Q (.int ns.sum) H
theorem call_sumS (hc : X.calm = true) : CallR X (.builtin "sum") (rSumS X.K) := by
 intro pins s σ H xs us Q I r h
 obtain ⟨p, ns, rfl, hq, q⟩ := h
 obtain ⟨u, rfl, rx⟩ := vals1 r
 cases rx
 refine call_sum_walkAnyS (iter_seq hc I hq fun T its St hl hval W st hp => ⟨s.heap.objs.size, _, _, _, _, _, _, fun i => ns.getD i 0, rfl, W.toS, st, fp_lt hp, fun i v e => hval i v e, fun s' t' hm => ?_⟩)
 rw [List.size_toArray, hl, preSum_take ns _ (Nat.le_refl _), List.take_length]
 have hk := fun b o e => hm.heap b o (fun hI => absurd (Heap.lt_size e) (by simp_all)) (Heap.get?_push_of_some _ e)
 rw [Moved.eq_with hm]
 exact ⟨.int ns.sum, H, I.kept hk, ⟨t', rfl⟩, q⟩
def rCatTA (K : PySem.W.Frag) : R2 := fun x y H Q => ∃ a b xs ys, x = .ref a ∧ y = .ref b ∧ SqT K H a xs ∧ SqT K H b ys ∧ xs.length + ys.length ≤ sizeLine ∧ ∀ p H2, L2.Same H H2 → SqT K H2 p (xs ++ ys) → Q (.ref p) H2
theorem op_catTA : OpR X (binaryOp .Add) (rCatTA X.K) := fun pins s σ H x y v u Q I rx ry h => by
 obtain ⟨a, b, xs, ys, e1, e2, h1, h2, hz, q⟩ := h
 by_cases hx : xs = []
 · subst e1; subst e2; subst hx
   cases rx; cases ry
   obtain ⟨its, r1, p1, _⟩ := I.tuple h1
   obtain ⟨its2, r2, p2, _⟩ := I.tuple h2
   have hv := r1.nil_iff.mpr rfl
   obtain ⟨⟨cls, dd, data, sl⟩, ho, hc, n, hd⟩ := id p1
   obtain ⟨⟨cls2, dd2, data2, sl2⟩, ho2, hc2, n2, hd2⟩ := id p2
   subst hc hd hc2 hd2
   exact concat_meets ⟨_, ho, rfl⟩ ⟨_, ho2, rfl⟩ noFill_tuple_add seq_tuple_add PySem.F.slot_tuple_add PySem.F.entry_tuple_add (PySem.F.args_tuple_add_2 _ _)
    (tuple_addW0 a b its.toArray its2.toArray n n2 dd dd2 sl sl2 (by grind)) ⟨ho, ho2, ⟨.ref b, H, I, rfl, q b H (L2.Same.refl _) h2⟩⟩
 · exact op_catTS pins s σ H x y v u Q I rx ry ⟨a, b, xs, ys, e1, e2, h1, h2, hx, hz, q⟩
end
section
variable {K : PySem.W.Frag}
theorem k_addA (hK : X.K = K) : JOp X .Add (fun x y H Q => rI0 (fun i j => .int (i + j)) x y H Q ∨ rCatS x y H Q ∨ rCatTA K x y H Q) := hK ▸ ⟨op_add.or (op_catS.or op_catTA)⟩
section
variable (hg : Gl X x) (he : starEach (e :: es) X.env = (false, eval e X.env) :: starEach es X.env) (hpl : (backTo pos (starEach es X.env)).any (·.1) = false)
include hg he hpl
theorem k_sumS (hK : X.K = K) (hx : x = "sum") (hc : X.calm = true) (hm : X.mg x = none) (ha : JA X (e :: es) t) : JE X (.Call (.Name x p) (e :: es) [] pos) (tCB (rSumS K) t) := hK ▸ ⟨by subst hx; exact pe_callB (call_sumS hc) hg hm boot_sum' ha.h (by decide) (by decide) he hpl⟩
end
theorem j_chain (hm : lastMarks [op, op'] [b, c] = false) (ho : JCop X op r) (ho' : JCop X op' r') (ha : JE X a ta) (hb : JE X b tb) (hc : JE X c tc) : JE X (.Compare a [op, op'] [b, c] pos) (tChain r r' ta tb tc) := ⟨pe_chain ho.h ho'.h ha.h hb.h hc.h hm⟩
def rRepS : R2 := fun x y H Q => ∃ l k xs, x = .ref l ∧ y = .int k ∧ H l = some (.lst xs) ∧ -(2 ^ 63) ≤ k ∧ k < 2 ^ 63 ∧ xs.length * k.toNat ≤ sizeLine ∧ ∀ p H2, H p = none → L2.Same H H2 → H2 p = some (.lst (List.replicate k.toNat xs).flatten) → Q (.ref p) H2
theorem op_repS : OpR X (binaryOp .Mult) rRepS := fun pins s σ H x y v u Q I rx ry h => by
 obtain ⟨l, k, xs, e1, e2, h1, h2, h3, h4, q⟩ := h
 exact op_rep pins s σ H x y v u Q I rx ry ⟨l, k, xs, e1, e2, h1, h2, h3, h4, fun p hp => q p _ hp (Br.Same.upd hp) upd_same⟩
theorem j_repL (ha : JE X (.List es p) ta) (hb : JE X b tb) : JE X (.BinOp (.List es p) .Mult b pos) (tOp rRepS ta tb) := ⟨r_bin op_repS ha.h hb.h⟩
theorem k_notin (hK : X.K = K) : JCop X .NotIn (rIn K true) := hK ▸ ⟨op_notIn_seq⟩
theorem u_cmpM (hm : lastMarks [op] [b] = false) (ho : JCop X op r) (ha : JE X a ta) (hb : JE X b tb) : JT X (.Compare a [op] [b] pos) (tTest (tOp r ta tb)) := ⟨pt_cmpR ho.h ha.h hb.h hm⟩
end
end Br
namespace Br
end Br
namespace Br
open PySem PySem.Spec PySem.Calls PyProof.Rows L2
structure RoomH (k : Nat) (A : Around) : Prop where
 dp : A.depth + 3 * k + 5 < recursionLimit
 un : A.units + 16 * k + 200 < cLine
section
theorem c_isnotN : JCop X .IsNot (fun x y H Q => y = .non ∧ Q (.bl (!decide (x = .non))) H) := ⟨op_notN⟩
end
section
variable {kz : Array Keyed}
theorem one_run {u : SortSt} {n : Nat} {Q : Option Nat → SortSt → Prop} (ik : IntKeys kz) (hn : n ≤ kz.size) (n1 : 1 ≤ n) (sb : SBase kz u) (so : SortedTo (arrOf u) n) (q : Q (some n) u) :
 wpS (model prog w) A E s (countRun' 0 n) Q u := by
 rw [countRun0_eq]
 refine wpS_bind (wpS_ascLoop ik hn (Nat.le_refl 1) n1 sb (fun x y hxy hy => ?_) fun m m1 m2 _ hor => ?_)
 · have e : x = y := by omega
   rw [e]; exact Int.le_refl _
 · have hm : m = n := by
    rcases hor with e | e
    · exact e
    · by_cases z : m = n
      · exact z
      · have := so (m - 1) m (by omega) (by omega); omega
   subst hm
   dsimp only
   rw [if_pos (by simp)]
   exact wpS_pure q
theorem minRun_le : ∀ (f n r : Nat), r ≤ 1 → minRun' f n r ≤ n + r
 | 0, n, r, _ => Nat.le_refl _
 | f + 1, n, r, h => by
  rw [minRun'_succ]
  by_cases c : n < 64
  · rw [if_pos c]; exact Nat.le_refl _
  · rw [if_neg c]
    have := minRun_le f (n / 2) (max r (n % 2)) (by omega)
    omega
theorem runs_one {u : SortSt} {Q : Unit → SortSt → Prop} (ik : IntKeys kz) (sb : SBase kz u) (k2 : 2 ≤ kz.size) (so : SortedTo (arrOf u) kz.size)
 (q : ∀ v, (arrOf v).Perm kz → failedOf v = none → SortedTo (arrOf v) kz.size → Q () v) : wpS (model prog w) A E s sortRuns' Q u := by
 rw [sortRuns'_eq]
 refine wpS_bind (wpS_get ?_)
 dsimp only
 have hmr := minRun_le kz.size kz.size 0 (by decide)
 simp only [sb.size]
 generalize minRun' kz.size kz.size 0 = mr at hmr
 refine wpS_bind (wpS_mono (wpS_forRange (I := fun i c v => (i = 0 ∧ c = (none, 0) ∧ v = u) ∨ (1 ≤ i ∧ c = (none, kz.size) ∧ SDone kz v)) (Q := fun c v => c = (none, kz.size) ∧ SDone kz v) ?turn ?end_ (.inl ⟨rfl, rfl, rfl⟩)) ?then_)
 case end_ =>
  rintro c v (⟨z, _, _⟩ | ⟨_, e, d⟩)
  · omega
  · exact ⟨e, d⟩
 case turn =>
  rintro i c v _ hi (⟨rfl, rfl, rfl⟩ | ⟨i1, rfl, d⟩)
  · dsimp only
    rw [if_neg (by omega)]
    simp only [Nat.sub_zero, Nat.zero_add]
    refine wpS_bind (one_run ik (Nat.le_refl _) (by omega) sb so ?_)
    dsimp only
    rw [if_neg (show ¬ kz.size < mr by omega)]
    have none_ : (pendingOf v).back? = none := by rw [sb.pend]; rfl
    refine wpS_bind (wpS_get ?_)
    rw [none_]
    dsimp only
    refine wpS_bind (wpS_modify (wpS_pure (.inr ⟨?_, rfl, sb.done so⟩)))
    omega
  · dsimp only
    rw [if_pos (Nat.le_refl _)]
    exact wpS_pure ⟨rfl, d⟩
 case then_ =>
  rintro c v ⟨rfl, d⟩
  dsimp only
  refine wpS_bind (wpS_mono (wpS_forRange (I := fun _ c x => x = v ∧ c = (none, ())) (Q := fun c x => x = v ∧ c = (none, ())) ?t2 (fun _ _ y => y) ⟨rfl, rfl⟩) ?t3)
  case t2 =>
   rintro i c x _ _ ⟨rfl, rfl⟩
   refine wpS_bind (wpS_get ?_)
   rw [if_pos (show (pendingOf x).size ≤ 1 by rw [d.2.2.1]; exact Nat.le_refl 1)]
   exact wpS_pure ⟨rfl, rfl⟩
  case t3 =>
   rintro c x ⟨rfl, rfl⟩
   exact wpS_pure (q _ d.1 d.2.1 d.2.2.2)
theorem ints_at : ∀ {vs : List Value} {ns : List Int}, IntsAre vs ns → ∀ i, K (pairsOf vs) i = ns.getD i 0
 | _, _, .nil, i => by unfold K pairsOf; simp
 | _, _, .cons (vs := vs) (ns := ns) n t r, i => by
  have ih := ints_at r
  cases i with
  | zero =>
   have e0 : (pairsOf (Value.int n t :: vs))[0]? = some (Value.int n t, Value.int n t) := by rw [← Array.getElem?_toList, pairsOf_toList]; rfl
   unfold K
   rw [e0]; rfl
  | succ i =>
   have e1 : (pairsOf (Value.int n t :: vs))[i + 1]? = (pairsOf vs)[i]? := by
    rw [← Array.getElem?_toList, ← Array.getElem?_toList, pairsOf_toList, pairsOf_toList]; rfl
   have := ih i
   unfold K at this ⊢
   rw [e1, this]; rfl
theorem so_of {vs : List Value} {ns : List Int} (h : IntsAre vs ns) (p : ns.Pairwise (· ≤ ·)) : SortedTo (pairsOf vs) (pairsOf vs).size := fun i j hij hj => by
 rw [ints_at h, ints_at h]
 rw [pairsOf_size, h.length] at hj
 have e1 : ns.getD i 0 = ns[i] := by rw [List.getD_eq_getElem?_getD, List.getElem?_eq_getElem (by omega)]; rfl
 have e2 : ns.getD j 0 = ns[j] := by rw [List.getD_eq_getElem?_getD, List.getElem?_eq_getElem hj]; rfl
 rw [e1, e2]
 by_cases z : i = j
 · subst z; exact Int.le_refl _
 · exact List.pairwise_iff_getElem.mp p i j (by omega) hj (by omega)
theorem sort_sorted {a : Addr} {vs : List Value} {ns : List Int} {c : Nat} {P : Fin → Shared → Prop} (at_ : s.heap.get? a = some (seqObj "list" vs.toArray c)) (iv : IntsAre vs ns) (pw : ns.Pairwise (· ≤ ·)) (hz : vs.length ≤ sizeLine)
 (q : ∀ (out : Array Value) (ms : List Int), IntsAre out.toList ms → ms.Perm ns → ms.Pairwise (· ≤ ·) → P (.done (.ret .none)) { s with heap := sortedHeap s.heap a vs out }) : wpAny (model prog w) A (Builtin.«list.sort» ⟨[.ref a], []⟩) P E s := by
 rw [list_sort_plain]
 have la : a < s.heap.objs.size := Heap.lt_size at_
 refine wpAny_bind (listItems_at at_ rfl (wpAny_bind (listUpdate_at at_ rfl ?_)))
 obtain ⟨c1, at1⟩ : ∃ c1, (s.heap.update a (Obj.mapSeq fun _ => #[])).get? a = some (seqObj "list" #[] c1) := ⟨_, get?_update_seq at_ (fun _ => #[])⟩
 refine wpAny_bind (seqEpoch_at at1 rfl (wpAny_bind (wpAny_newTuple (wpAny_bind (wpAny_newList (wpAny_holding ?_))) (by show vs.toArray.toList.length ≤ _; simpa using hz))))
 have at2 : (((s.heap.update a (Obj.mapSeq fun _ => #[])).push (seqObj "tuple" vs.toArray 0)).push (seqObj "list" #[] 0)).get? a = some (seqObj "list" #[] c1) := by
  rw [Heap.get?_push_ne, Heap.get?_push_ne]
  · exact at1
  · rw [Heap.size_update]; exact Nat.ne_of_lt la
  · rw [size_push', Heap.size_update]; exact Nat.ne_of_lt (Nat.lt_succ_of_lt la)
 show wpAny (model prog w) A _ P E { s with heap := ((s.heap.update a (Obj.mapSeq fun _ => #[])).push (seqObj "tuple" vs.toArray 0)).push (seqObj "list" #[] 0) }
 dsimp only
 have last : ∀ v : SortSt, (arrOf v).Perm (pairsOf vs) → SortedTo (arrOf v) (pairsOf vs).size → P (.done (.ret .none)) { s with heap := sortedHeap s.heap a vs ((arrOf v).map (·.2)) } := fun v y1 y2 =>
  let ⟨ms, x1, x2, x3⟩ := sorted_out iv y1 y2
  q _ ms x1 x2 x3
 by_cases few : vs.toArray.size < 2
 · rw [if_pos few, if_pos few]
   refine wpAny_bind (wpAny_pure ?_)
   rw [StateT.run_pure]
   refine wpAny_bind (wpAny_pure ?_)
   dsimp only
   refine wpAny_bind (seqEpoch_at at2 rfl (wpAny_bind (listUpdate_at at2 rfl ?_ (hsz2 := by rw [Array.size_map]; show (pairsOf vs).size ≤ _; rw [pairsOf_size]; omega))))
   simp only [bne_self_eq_false, Bool.false_eq_true, if_false]
   exact wpAny_pure (last (SortSt.mk' general' (vs.toArray.zip vs.toArray) #[] 7 none) (Array.Perm.refl _) (so_of iv pw))
 · rw [if_neg few, if_neg few]
   obtain ⟨x, y, r, rfl⟩ : ∃ x y r, vs = x :: y :: r := by
    match vs, few with
    | [], z => simp at z
    | [_], z => simp at z
    | x :: y :: r, _ => exact ⟨x, y, r, rfl⟩
   rw [keyKind_ints iv]
   refine wpAny_bind (wpAny_pure ?_)
   refine wpAny_bind (wpAny_mono (runs_one (kz := pairsOf (x :: y :: r)) (u := SortSt.mk' oneType' ((x :: y :: r).toArray.zip (x :: y :: r).toArray) #[] 7 none)
    (Q := fun _ v => (arrOf v).Perm (pairsOf (x :: y :: r)) ∧ failedOf v = none ∧ SortedTo (arrOf v) (pairsOf (x :: y :: r)).size)
    iv.intKeys ⟨Array.Perm.refl _, rfl, rfl, rfl⟩ (by rw [pairsOf_size]; simp) (so_of iv pw) fun v y1 y2 y3 => ⟨y1, y2, y3⟩) ?_ fun _ _ e => e)
   rintro ⟨⟨⟩, v⟩ s' ⟨rfl, y1, y2, y3⟩
   dsimp only
   refine wpAny_bind (seqEpoch_at at2 rfl (wpAny_bind (listUpdate_at at2 rfl ?_ (hsz2 := Nat.le_trans (Nat.le_of_eq ((Array.size_map ..).trans (y1.size_eq.trans (pairsOf_size _)))) (by omega)))))
   rw [y2]
   simp only [bne_self_eq_false, Bool.false_eq_true, if_false]
   exact wpAny_pure (last v y1 y3)
end
section
def rSortM (K : PySem.W.Frag) : List V → Hp → VK → Prop := fun xs H Q => ∃ (p : Addr) (ns : List Int), xs = [.ref p] ∧ (SqL K H p (ns.map V.int) ∨ SqT K H p (ns.map V.int)) ∧ (ns.length < 64 ∨ ns.Pairwise (· ≤ ·)) ∧
 ∀ (l : Addr) (ms : List Int) (H' : Hp), H l = none → L2.Same H H' → H' l = some (.lst (ms.map V.int)) → ms.Perm ns → ms.Pairwise (· ≤ ·) → Q (.ref l) H'
theorem call_sortM : CallR X (.builtin "sorted") (rSortM X.K) := by
 intro pins s σ H xs us Q I r h
 obtain ⟨p, ns, e1, hq, h64, q⟩ := h
 by_cases hc64 : ns.length < 64
 · exact call_sortS pins s σ H xs us Q I r ⟨p, ns, e1, hq, hc64, q⟩
 have pw : ns.Pairwise (· ≤ ·) := h64.resolve_left hc64
 subst e1
 obtain ⟨u, rfl, rx⟩ := vals1 r
 cases rx
 have hsz : (sizeLine : Nat) = 16777216 := sizeLine_eq
 obtain ⟨its, o, T, cn, r', hT, ho, hcl, hdt, hzz⟩ : ∃ (its : List Value) (o : Obj) (T : String) (cn : Nat), Vals (ns.map V.int) its ∧ (T = "list" ∨ T = "tuple") ∧ s.heap.get? p = some o ∧ o.cls = .type T ∧ o.data = .seq its.toArray cn ∧ (ns.map V.int).length ≤ sizeLine := by
  rcases hq with hq | hq
  · obtain ⟨its, r', pl, hz⟩ := I.list hq
    obtain ⟨o, ho, hc, n, hd⟩ := pl.isList
    exact ⟨its, o, "list", n, r', .inl rfl, ho, hc, hd, hz⟩
  · obtain ⟨its, r', ⟨o, ho, hc, n, hd⟩, hz⟩ := I.tuple hq
    exact ⟨its, o, "tuple", n, r', .inr rfl, ho, hc, hd, hz⟩
 have hl : its.length = ns.length := by rw [← r'.length, List.length_map]
 rw [List.length_map] at hzz
 refine Calls.call_function_entry kind_sorted plain_sorted entry_sorted (args_sorted1 _) ?_
 unfold Builtin.«sorted»
 refine wpAny_bind (m := checkCount "sorted" 1 1 _) (wpAny_pure ?_)
 refine wpAny_bind (wpAny_collect_seq p hT ho hcl hdt (fun h' hk => ?_) (by rw [List.size_toArray]; omega))
 have hI : IntsAre its ns := vals_ints r'
 have eI : its.toArray.toList = its := by simp
 rw [eI]
 refine wpAny_bind (wpAny_newList ?_ (by rw [hl]; omega))
 have hoL : (h'.push (seqObj "list" its.toArray 0)).get? h'.objs.size = some (seqObj "list" its.toArray 0) := Heap.get?_push_size _ rfl
 refine wpAny_bind (wpAny_holding (wpAny_call_entry slot_list_sort ⟨_, hoL, rfl⟩ entry_list_sort (sort_sorted hoL hI pw (by omega) fun out ns' a1 a2 a3 => ⟨_, rfl, ?_⟩) (args_list_sort _)))
 refine wpAny_pure ⟨_, rfl, ?_⟩
 obtain ⟨n', e'⟩ : ∃ n', (sortedHeap (h'.push (seqObj "list" its.toArray 0)) h'.objs.size its out).get? h'.objs.size = some (seqObj "list" out n') := sortedHeap_at hoL
 have I1 : Inv X pins σ H { s with heap := h' } := I.kept (t' := s.toks) hk
 have hfr : H h'.objs.size = none := I1.hok.fresh (Nat.le_refl _)
 have keep : ∀ b o, h'.get? b = some o → (sortedHeap (h'.push (seqObj "list" its.toArray 0)) h'.objs.size its out).get? b = some o := fun b o e => by
  have hb := Heap.lt_size e
  rw [sortedHeap_old (Nat.ne_of_lt hb) (by rw [Heap.size_push]; exact Nat.lt_succ_of_lt hb)]
  exact Heap.get?_push_of_some _ e
 have hlen : ns'.length ≤ sizeLine := by rw [a2.length_eq]; omega
 have I2 : Inv X pins σ (upd H h'.objs.size (.lst (ns'.map V.int))) { s with heap := sortedHeap (h'.push (seqObj "list" its.toArray 0)) h'.objs.size its out } :=
  I1.laid (t' := s.toks) keep (Nat.le_refl _) (show ObjOk X.prog X.w _ _ _ (.lst (ns'.map V.int)) from ⟨by rw [List.length_map]; exact hlen, out.toList, n', ints_vals a1, by simpa using e'⟩)
 exact ⟨.ref h'.objs.size, _, I2, rfl, q _ _ _ hfr (Br.Same.upd hfr) upd_same a2 a3⟩
end
section
variable {K : PySem.W.Frag} (hg : Gl X x) (he : starEach (e :: es) X.env = (false, eval e X.env) :: starEach es X.env) (hpl : (backTo pos (starEach es X.env)).any (·.1) = false)
include hg he hpl
theorem k_sortedM (hK : X.K = K) (hx : x = "sorted") (hc : X.calm = true) (hm : X.mg x = none) (ha : JA X (e :: es) t) : JE X (.Call (.Name x p) (e :: es) [] pos) (tCB (fun xs H Q => rSortD xs H Q ∨ rSortM K xs H Q) t) := hK ▸ ⟨by subst hx; exact pe_callB ((call_sortD hc).or call_sortM) hg hm boot_sorted ha.h (by decide) (by decide) he hpl⟩
end
section
def PureLt (prog : Program) (w : World) (A : Around) (s : Shared) (κ : SortKind) (kz : Array Keyed) (lt : Keyed → Keyed → Bool) : Prop :=
 ∀ x y : Keyed, x ∈ kz.toList → y ∈ kz.toList → ∀ (Q : Bool → Shared → Prop) (E : Value → Shared → Prop), Q (lt x y) s → wpAny (model prog w) A (keyLt' κ x.1 y.1) Q E s
theorem sort_any {a : Addr} {vs : List Value} {c : Nat} {R : Array Value → Prop} {P : Fin → Shared → Prop} (at_ : s.heap.get? a = some (seqObj "list" vs.toArray c)) (hz : vs.length ≤ sizeLine) (h1 : vs.length < 2 → R vs.toArray)
 (hr : 2 ≤ vs.length → ∀ h6 : Heap, (∀ b o, b ≠ a → s.heap.get? b = some o → h6.get? b = some o) → wpAny (model prog w) A (keyKind' vs.toArray) (fun κ s7 => s7 = { s with heap := h6 } ∧
  wpS (model prog w) A E { s with heap := h6 } sortRuns' (fun _ v => failedOf v = none ∧ (arrOf v).size = vs.length ∧ R ((arrOf v).map (·.2))) (SortSt.mk' κ (pairsOf vs) #[] 7 none)) E { s with heap := h6 })
 (q : ∀ out : Array Value, out.size = vs.length → R out → P (.done (.ret .none)) { s with heap := sortedHeap s.heap a vs out }) : wpAny (model prog w) A (Builtin.«list.sort» ⟨[.ref a], []⟩) P E s := by
 rw [list_sort_plain]
 have la : a < s.heap.objs.size := Heap.lt_size at_
 refine wpAny_bind (listItems_at at_ rfl (wpAny_bind (listUpdate_at at_ rfl ?_)))
 obtain ⟨c1, at1⟩ : ∃ c1, (s.heap.update a (Obj.mapSeq fun _ => #[])).get? a = some (seqObj "list" #[] c1) := ⟨_, get?_update_seq at_ (fun _ => #[])⟩
 refine wpAny_bind (seqEpoch_at at1 rfl (wpAny_bind (wpAny_newTuple (wpAny_bind (wpAny_newList (wpAny_holding ?_))) (by show vs.toArray.toList.length ≤ _; simpa using hz))))
 have at2 : (((s.heap.update a (Obj.mapSeq fun _ => #[])).push (seqObj "tuple" vs.toArray 0)).push (seqObj "list" #[] 0)).get? a = some (seqObj "list" #[] c1) := by
  rw [Heap.get?_push_ne, Heap.get?_push_ne]
  · exact at1
  · rw [Heap.size_update]; exact Nat.ne_of_lt la
  · rw [size_push', Heap.size_update]; exact Nat.ne_of_lt (Nat.lt_succ_of_lt la)
 have old : ∀ b o, b ≠ a → s.heap.get? b = some o → (((s.heap.update a (Obj.mapSeq fun _ => #[])).push (seqObj "tuple" vs.toArray 0)).push (seqObj "list" #[] 0)).get? b = some o := fun b o hb e =>
  Heap.get?_push_of_some _ (Heap.get?_push_of_some _ ((Heap.get?_update_other _ _ (Ne.symm hb)).trans e))
 show wpAny (model prog w) A _ P E { s with heap := ((s.heap.update a (Obj.mapSeq fun _ => #[])).push (seqObj "tuple" vs.toArray 0)).push (seqObj "list" #[] 0) }
 dsimp only
 by_cases few : vs.toArray.size < 2
 · rw [if_pos few, if_pos few]
   refine wpAny_bind (wpAny_pure ?_)
   rw [StateT.run_pure]
   refine wpAny_bind (wpAny_pure ?_)
   dsimp only
   refine wpAny_bind (seqEpoch_at at2 rfl (wpAny_bind (listUpdate_at at2 rfl ?_ (hsz2 := by rw [Array.size_map]; show (pairsOf vs).size ≤ _; rw [pairsOf_size]; omega))))
   simp only [bne_self_eq_false, Bool.false_eq_true, if_false]
   have e2 : (vs.toArray.zip vs.toArray).map (·.2) = vs.toArray := by
    have : ((vs.zip vs).map (·.2)) = vs := List.map_snd_zip (Nat.le_refl _)
    apply Array.toList_inj.mp
    simpa using this
   refine wpAny_pure ?_
   have := q vs.toArray (by simp) (h1 (by simpa using few))
   rw [← e2] at this
   exact this
 · rw [if_neg few, if_neg few]
   refine wpAny_bind (wpAny_mono (hr (by simp at few; omega) _ old) ?_ fun _ _ e => e)
   rintro κ s' ⟨rfl, hw⟩
   refine wpAny_bind (wpAny_mono hw ?_ fun _ _ e => e)
   rintro ⟨⟨⟩, v⟩ s' ⟨rfl, y1, y2, y3⟩
   dsimp only
   refine wpAny_bind (seqEpoch_at at2 rfl (wpAny_bind (listUpdate_at at2 rfl ?_ (hsz2 := Nat.le_trans (Nat.le_of_eq ((Array.size_map ..).trans y2)) (by omega)))))
   rw [y1]
   simp only [bne_self_eq_false, Bool.false_eq_true, if_false]
   exact wpAny_pure (q _ ((Array.size_map ..).trans y2) y3)
end
section
theorem katLex_ints {fin : Bool} {X Y : Nat} (hf : fin = decide (X < Y)) : ∀ {vs ws : List Value} {ns ms : List Int} {i : Nat} {Q : Bool → Shared → Prop}, IntsAre vs ns → IntsAre ws ms → ns.length + Y = ms.length + X → Q (HT.lexLt ns ms) s → PySem.W.KatLex prog w A true fin Q (vs.zip ws) i s
 | _, _, _, _, i, Q, .nil, .nil, hl, h => by
  have : fin = false := by rw [hf]; exact decide_eq_false (by simp at hl; omega)
  rw [HT.lexLt_nil_nil, ← this] at h
  exact PySem.W.kat_nil h
 | _, _, _, _, i, Q, .nil, .cons c u r, hl, h => by
  have : fin = true := by rw [hf]; exact decide_eq_true (by simp at hl; omega)
  rw [HT.lexLt_nil_cons, ← this] at h
  exact PySem.W.kat_nil h
 | _, _, _, _, i, Q, .cons c u r, .nil, hl, h => by
  have : fin = false := by rw [hf]; exact decide_eq_false (by simp at hl; omega)
  rw [HT.lexLt_cons_nil, ← this] at h
  exact PySem.W.kat_nil h
 | _, _, _, _, i, Q, .cons a t r, .cons c u r', hl, h => by
  rw [HT.lexLt_cons] at h
  refine PySem.W.kat_cons (wpAny_eqBool_int ?_)
  by_cases e : a = c
  · rw [if_pos e] at h
    subst e
    rw [show (a == a) = true by simp]
    exact PySem.W.kat_yes (katLex_ints hf r r' (by simp at hl; omega) h)
  · rw [if_neg e] at h
    rw [show (a == c) = false by simpa using e]
    refine PySem.W.kat_no ?_
    cases (true && i == 0) with
    | true => exact oneLt_int h
    | false => exact PySem.W.kat_one _ _ (HT.rcLt_int A s a t c u prog w _ _ h)
end
def tkey (H : Hp) : Value → List Int
 | .ref a => match H a with
  | some (.tup xs) => xs.map fun v => match v with | .int i => i | _ => 0
  | _ => []
 | _ => []
theorem tkey_of (h : H a = some (.tup (w.map V.int))) : tkey H (.ref a) = w := by
 show (match H a with | some (.tup xs) => xs.map _ | _ => []) = w
 rw [h]
 show ((w.map V.int).map _) = w
 rw [List.map_map]
 exact (List.map_congr_left fun x _ => rfl).trans (List.map_id _)
section
theorem vals_refs : ∀ {as : List Addr} {its : List Value}, Vals (as.map V.ref) its → its = as.map Value.ref
 | [], _, r => by cases r; rfl
 | a :: as, _, r => by
  cases r with
  | cons r rr => rw [vals_refs rr]; cases r; rfl
end
namespace Tim
structure Ord (lt : Keyed → Keyed → Bool) : Prop where
 irr : ∀ a, lt a a = false
 asy : ∀ a b, lt a b = true → lt b a = false
 tr : ∀ a b c, lt b a = false → lt c b = false → lt c a = false
section
variable {lt : Keyed → Keyed → Bool} {a b o : List Keyed} {p q : Nat}
abbrev Le (lt : Keyed → Keyed → Bool) (x y : Keyed) : Prop := lt y x = false
structure MI (lt : Keyed → Keyed → Bool) (a b o : List Keyed) (p q : Nat) : Prop where
 perm : o.Perm (a.take p ++ b.take q)
 srt : o.Pairwise (Le lt)
 la : ∀ x ∈ o, ∀ y ∈ a.drop p, Le lt x y
 lb : ∀ x ∈ o, ∀ y ∈ b.drop q, Le lt x y
end
def Sm (u v : SortSt) : Prop := kindOf v = kindOf u ∧ arrOf v = arrOf u ∧ pendingOf v = pendingOf u ∧ failedOf v = failedOf u
def PO : Nat → List (Nat × Nat × Nat) → List (List Keyed) → Prop
 | _, [], [] => True
 | s, e :: P, C :: RS => e.1 = s ∧ e.2.1 = C.length ∧ PO (s + C.length) P RS
 | _, _, _ => False
end Tim
theorem perm_lift {α β : Type} (f : α → β) {l m : List β} (h : l.Perm m) : ∀ {zs : List α}, zs.map f = m → ∃ zs' : List α, zs'.Perm zs ∧ zs'.map f = l := by
 induction h with
 | nil => simp
 | cons x _ ih =>
  intro zs e
  cases zs with
  | nil => cases e
  | cons z zs =>
   injection e with e1 e2
   obtain ⟨zs', h1, h2⟩ := ih e2
   exact ⟨z :: zs', h1.cons z, by simp_all⟩
 | swap x y l =>
  intro zs e
  cases zs with
  | nil => cases e
  | cons a zs =>
   cases zs with
   | nil => cases e
   | cons b zs =>
    exact ⟨b :: a :: zs, List.Perm.swap a b zs, by simp_all⟩
 | trans _ _ i1 i2 =>
  intro zs e
  obtain ⟨z1, h1, h2⟩ := i2 e
  obtain ⟨z2, h3, h4⟩ := i1 h2
  exact ⟨z2, h3.trans h1, h4⟩
theorem lexLt_total : ∀ a b : List Int, HT.lexLt a b = true ∨ a = b ∨ HT.lexLt b a = true
 | [], [] => .inr (.inl rfl)
 | [], _ :: _ => .inl rfl
 | _ :: _, [] => .inr (.inr rfl)
 | x :: a, y :: b => by
  rw [HT.lexLt_cons, HT.lexLt_cons]
  by_cases e : x = y
  · subst e
    rw [if_pos rfl, if_pos rfl]
    rcases lexLt_total a b with h | h | h
    · exact .inl h
    · exact .inr (.inl (by rw [h]))
    · exact .inr (.inr h)
  · rw [if_neg e, if_neg (fun z => e z.symm)]
    rcases Int.lt_or_lt_of_ne e with h | h
    · exact .inl (decide_eq_true h)
    simp_all
theorem lexLt_tr : ∀ {a b c : List Int}, HT.lexLt a b = true → HT.lexLt b c = true → HT.lexLt a c = true
 | [], [], _, h, _ => by omega
 | [], _ :: _, [], _, h => by cases h
 | [], _ :: _, _ :: _, _, _ => rfl
 | _ :: _, [], _, h, _ => by cases h
 | _ :: _, _ :: _, [], _, h => by cases h
 | x :: a, y :: b, z :: c, h1, h2 => by
  rw [HT.lexLt_cons] at h1 h2 ⊢
  by_cases e1 : x = y
  · rw [if_pos e1] at h1
    by_cases e2 : y = z
    · rw [if_pos e2] at h2
      rw [if_pos (e1.trans e2)]; exact lexLt_tr h1 h2
    grind
  grind
theorem lexLt_irr : ∀ a : List Int, HT.lexLt a a = false
 | [] => rfl
 | x :: a => by rw [HT.lexLt_cons, if_pos rfl]; exact lexLt_irr a
theorem lexLt_asy (h : HT.lexLt a b = true) : HT.lexLt b a = false := by
 cases e : HT.lexLt b a with
 | false => rfl
 | true => have := lexLt_tr h e; rw [lexLt_irr] at this; grind
theorem ord_lex (key : Keyed → List Int) : Tim.Ord fun x y => HT.lexLt (key x) (key y) :=
 ⟨fun a => lexLt_irr _, fun a b h => lexLt_asy h, fun a b c h1 h2 => by
  cases e : HT.lexLt _ _ with
  | false => rfl
  | true =>
   rcases lexLt_total _ (key b) with h | h | h
   · have := lexLt_tr e h; simp_all
   · grind
   grind⟩
theorem ord_int (key : Keyed → Int) : Tim.Ord fun x y => decide (key x < key y) :=
 ⟨fun a => decide_eq_false (by omega), fun a b h => by grind, fun a b c h1 h2 => by grind⟩
theorem pairs_map {α : Type} (g : α → Value) : ∀ l : List α, (pairsOf (l.map g)).toList = l.map fun z => ((g z, g z) : Keyed)
 | [] => by rw [pairsOf_toList]; rfl
 | z :: l => by
  have ih := pairs_map g l
  rw [pairsOf_toList] at ih ⊢
  grind
section
theorem seq_obj {σ : L2.St} (I : Inv X pins σ H s) (hq : SqL X.K H p xs ∨ SqT X.K H p xs) : ∃ (its : List Value) (o : Obj) (T : String) (cn : Nat), Vals xs its ∧ (T = "list" ∨ T = "tuple") ∧ s.heap.get? p = some o ∧ o.cls = .type T ∧ o.data = .seq its.toArray cn ∧ xs.length ≤ sizeLine := by
 rcases hq with hq | hq
 · obtain ⟨its, r', pl, hz⟩ := I.list hq
   obtain ⟨o, ho, hc, n, hd⟩ := pl.isList
   exact ⟨its, o, "list", n, r', .inl rfl, ho, hc, hd, hz⟩
 · obtain ⟨its, r', ⟨o, ho, hc, n, hd⟩, hz⟩ := I.tuple hq
   exact ⟨its, o, "tuple", n, r', .inr rfl, ho, hc, hd, hz⟩
end
end Br
namespace Br
namespace ZL
open PySem PySem.Spec PySem.Calls PyProof.Rows L2
theorem entry_li : entryFor table "list_iterator.__next__" = some Builtin.«list_iterator.__next__» := by rfl
theorem args_li (a : Value) : argsOk "list_iterator.__next__" { pos := [a] } := by first | rfl | decide +kernel | exact ⟨rfl⟩ | (constructor <;> rfl)
theorem slot_li : Slot "list_iterator" (Str.ofString "__next__") "list_iterator.__next__" := Slot.of (by rw [typeLookup_type, builtinLookup_eq_fast]; rfl) (by rfl) (by rfl) (by rfl) (.inl (by rfl)) (by rw [isSubtype_type]; rfl)
section
theorem tstep {c d : Addr} {k : Nat} {zs : Array Value} {v : Value} {Q : Value → Shared → Prop} (hI : s.heap.IsListIter c d k) (hT : s.heap.IsList d zs) (hv : zs[k]? = some v)
 (go : ∀ g, g.IsListIter c d (k + 1) → Heap.SameBut c s.heap g → Q v { s with heap := g }) : wpAny (model prog w) A (Builtin.«list_iterator.__next__» ⟨[.ref c], []⟩) (fun fin s' => ∃ u, fin = .done (.ret u) ∧ Q u s') E s := by
 have hI' := hI
 obtain ⟨oc, q1, q2, q3⟩ := hI'
 have hT' := hT
 obtain ⟨od, p1, _, nd, p3⟩ := hT'
 have at_ : zs[((k : Nat) : Int).toNat]? = some v := by simpa using hv
 wp_walk using wpAny_field q1 q3 (x := .ref d) rfl, wpAny_field q1 q3 (x := .int k 0) rfl, wpAny_seqItems p1 p3
 rw [at_]
 refine wpAny_bind (tsetAt q1 q3 (by simp) fun g o' a1 a2 a3 sb => ?_)
 wp_walk
 exact ⟨_, rfl, go g ⟨o', a1, a2.trans q2, by rw [a3]; simp [rawInt]⟩ sb⟩
theorem tstop {c d : Addr} {k : Nat} {zs : Array Value} {Q : PySem.Fin → Shared → Prop} (hh : A.handled = none) (hI : s.heap.IsListIter c d k) (hT : s.heap.IsList d zs) (hv : zs[k]? = none)
 (go : ∀ g e, Heap.ExtBut c s.heap g → (∃ o, g.get? e = some o ∧ o.cls = .type "StopIteration") → E (.ref e) { s with heap := g }) : wpAny (model prog w) A (Builtin.«list_iterator.__next__» ⟨[.ref c], []⟩) Q E s := by
 have hI' := hI
 obtain ⟨oc, q1, q2, q3⟩ := hI'
 have hT' := hT
 obtain ⟨od, p1, _, nd, p3⟩ := hT'
 have at_ : zs[((k : Nat) : Int).toNat]? = none := by simpa using hv
 wp_walk using wpAny_field q1 q3 (x := .ref d) rfl, wpAny_field q1 q3 (x := .int k 0) rfl, wpAny_seqItems p1 p3
 rw [at_]
 refine wpAny_bind (wpAny_rule (wpAny_bind (tsetAt q1 q3 (by simp) fun g o' a1 a2 a3 sb => ?_)))
 wp_walk
 unfold raiseNew
 wp_walk using wpAny_handled
 rw [hh]
 wp_walk
 exact go _ _ ((sb.extBut.push _).push _) ⟨_, Heap.get?_push_size _ rfl, rfl⟩
theorem tnext {c d : Addr} {k : Nat} {zs : Array Value} {v : Value} {Q : Value → Shared → Prop} (hI : s.heap.IsListIter c d k) (hT : s.heap.IsList d zs) (hv : zs[k]? = some v)
 (go : ∀ g, g.IsListIter c d (k + 1) → Heap.SameBut c s.heap g → Q v { s with heap := g }) : wpAny (model prog w) A (Builtin.SmallTypes.nextOf (.ref c)) Q E s := by
 have sl := slot_li
 unfold Builtin.SmallTypes.nextOf
 refine wpAny_bind (wpAny_callSpecial?_slot (name := Str.ofString "__next__") hI.typeIs sl (wpAny_call_entry sl hI.typeIs entry_li ?_ (args_li _)))
 exact wpAny_mono (tstep (Q := fun u s' => u = v ∧ Q v s') hI hT hv fun g a b => ⟨rfl, go g a b⟩) (fun fin s' ⟨u, e, e2, q⟩ => ⟨u, e, wpAny_pure (e2 ▸ q)⟩) fun _ _ z => z
theorem tnone {c d : Addr} {k : Nat} {zs : Array Value} {Q : Value → Shared → Prop} (hh : A.handled = none) (hI : s.heap.IsListIter c d k) (hT : s.heap.IsList d zs) (hv : zs[k]? = none)
 (go : ∀ g e, Heap.ExtBut c s.heap g → (∃ o, g.get? e = some o ∧ o.cls = .type "StopIteration") → E (.ref e) { s with heap := g }) : wpAny (model prog w) A (Builtin.SmallTypes.nextOf (.ref c)) Q E s := by
 have sl := slot_li
 unfold Builtin.SmallTypes.nextOf
 refine wpAny_bind (wpAny_callSpecial?_slot (name := Str.ofString "__next__") hI.typeIs sl (wpAny_call_entry sl hI.typeIs entry_li ?_ (args_li _)))
 exact tstop hh hI hT hv go
structure Zp (h : Heap) (z u o c1 c2 d e : Addr) (xs ys : Array Value) (k : Nat) : Prop where
 zip : IsZip h z u o .none
 its : IsPair h u (.ref c1) (.ref c2)
 own : ∃ a b, IsPair h o a b
 i1 : h.IsListIter c1 d k
 i2 : h.IsListIter c2 e k
 t1 : h.IsList d xs
 t2 : h.IsList e ys
structure Ap (z u o c1 c2 d e : Addr) : Prop where
 ne : [z, u, o, c1, c2].Nodup
 nd : ∀ b ∈ [z, u, o, c1, c2], d ≠ b ∧ e ≠ b
end
section
variable {s : Shared}
abbrev zh1 (h : Heap) (d : Addr) : Heap := h.push { cls := .type "list_iterator", data := .fields #[.ref d, .int 0 0] }
end
theorem sqL_apart {X : Cx} {pins : List (Addr × Obj)} {σ : L2.St} {H : Hp} {s : Shared} {d b : Addr} {xs : List V} (I : Inv X pins σ H s) (h : SqL X.K H d xs) (f : FpOk X pins H b) : d ≠ b := fun z => by
 subst z
 rcases h with h | ⟨o, its, n, hk, _⟩
 · rcases h with h | ⟨o, h⟩
   · rw [f.1] at h; cases h
   · rw [f.1] at h; cases h
 · have e := I.ok.mod.kin d o hk
   rcases f.2.2.2.1 with z | z
   · exact I.ok.noex d o e z
   · exact absurd (Nat.lt_of_lt_of_le (Heap.lt_size e) (Nat.le_trans I.ok.bsz z)) (Nat.lt_irrefl _)
end ZL
end Br
namespace Br
open PySem PySem.Spec PySem.Calls PyProof.Rows L2
theorem tl_keys : typeLookup (.type "tuple") (Str.ofString "keys") = pure none := by rw [typeLookup_type, builtinLookup_eq_fast]; rfl
theorem ti_ga {s : Shared} : s.TypeIs (.builtin "tuple.__getattribute__") "wrapper_descriptor" := by rfl
theorem noKeys {prog : Program} {w : World} {A : Around} {E : Value → Shared → Prop} {s : Shared} {t : Addr} {xs : Array Value} {n : Nat} {Q : Option Value → Shared → Prop} (hh : A.handled = none) (ho : s.heap.get? t = some { cls := .type "tuple", data := .seq xs n })
 (go : ∀ h' tk, (∀ b o, s.heap.get? b = some o → h'.get? b = some o) → Q none { s with heap := h', toks := tk }) : wpAny (model prog w) A (getAttr? (.ref t) (Str.ofString "keys")) Q E s := by
 obtain ⟨hp, g, dr, tk, os⟩ := s
 have ho : hp.get? t = some { cls := .type "tuple", data := .seq xs n } := ho
 unfold getAttr?
 refine wpAny_bind (wpAny_mkText ?_)
 unfold getAttrBy?
 refine wpAny_bind (wpAny_attempt ?_)
 unfold getAttrBy
 refine wpAny_holding ?_
 refine wpAny_bind (wpAny_typeOf (T := "tuple") ⟨_, ho, rfl⟩ ?_)
 rw [F.slot_tuple_getattribute.lookup]
 refine wpAny_bind (wpAny_pure ?_)
 show wpAny _ _ (if _ then _ else _) _ _ _
 rw [if_neg (by decide)]
 unfold getAttrByItsOwn
 wp_walk
 unfold bindSpecial
 refine wpAny_bind (wpAny_typeOf (T := "wrapper_descriptor") ti_ga ?_)
 show wpAny _ _ (if _ then _ else _) _ _ _
 rw [if_pos (by decide)]
 refine wpAny_pure ?_
 show wpAny _ _ (call (.builtin "tuple.__getattribute__") [.ref t, _]) _ _ _
 refine wpAny_call_entry F.slot_tuple_getattribute ⟨_, ho, rfl⟩ am_entry_tuple_getattribute ?_ (F.args_tuple_getattribute_2 _ _)
 show wpAny _ _ (Builtin.ObjectAttr.attrName _ >>= _) _ _ _
 refine wpAny_bind ?_
 wp_walk
 rw [tl_keys]
 wp_walk
 refine wpAny_raiseAttrError (A := A.in1) hh fun h' tk' e ne => ?_
 have hT : ∃ ob, h'.get? e = some ob ∧ ob.cls = .type "AttributeError" := let ⟨_, _, a⟩ := ne.there; ⟨_, a, rfl⟩
 show wpAny _ _ (getattributeRaised _ _ _ _ _ _ _) _ _ _
 unfold getattributeRaised
 refine wpAny_bind (wpAny_isInstance (T := "AttributeError") (b := true) hT (by rw [isSubtype_type]; rfl) ?_)
 rw [if_pos rfl]
 unfold hookBehind
 rw [if_neg (by decide), F.plainAttrs_tuple.noGetattr]
 refine wpAny_bind (wpAny_pure ?_)
 unfold hookOrError
 unfold attributeErrorLeaves
 show wpAny _ _ (if (!false) = true then throw _ >>= _ else _) _ _ _
 rw [if_pos (show (!false) = true from rfl)]
 refine wpAny_bind (wpAny_throw ?_)
 refine wpAny_bind (wpAny_isInstance (T := "AttributeError") (b := true) hT (by rw [isSubtype_type]; rfl) ?_)
 rw [if_pos rfl]
 exact wpAny_pure (go h' tk' ne.keeps)
theorem entry_dul : entryFor table "dict.update.loop" = some Builtin.«dict.update.loop» := by rfl
theorem plain_dul : plainId "dict.update.loop" = true := by decide +kernel
def bareT (o : Obj) : Prop := ∃ its n, o = { cls := .type "tuple", data := .seq its n }
section
variable {σ : L2.St}
theorem boot_dict' : bootBuiltins "dict" = some (.type "dict") := by rfl
end
theorem kvGet (r : KV kvs vs) : ∀ {i : Nat} {kv : Key × V}, kvs[i]? = some kv → ∃ v, vs[i]? = some (kv.1, v) ∧ RelV kv.2 v := by
 induction r with
 | nil => intro i kv h; simp_all
 | @cons p q ps qs h t ih =>
  intro i kv e
  cases i with
  | zero =>
   simp at e; subst e
   obtain ⟨q1, q2⟩ := q
   simp_all
  | succ i =>
   simp_all
theorem is_rel (h : (mixKind P w).is k u = true) : RelV (kV k) u := by
 rcases keyIs_shape h with ⟨i, t, rfl, rfl⟩ | ⟨x, t, rfl, rfl⟩
 · exact ⟨t, rfl⟩
 · exact ⟨t, rfl⟩
theorem frz_at (he : o.data = .dict es ep) (ok : HOk P w H h) (e : H a = some (.frz o (.dK kvs))) : ∃ vs, KV kvs vs ∧ h.DictAt (mixKind P w) a vs ep := by
 obtain ⟨g, _, _, vs, r, o', es', ep', q, ex, dt, rest⟩ := (ok a _ e)
 rw [g] at q; cases q
 have e2 := dt
 rw [he] at e2
 injection e2 with _ e2
 subst e2
 exact ⟨vs, r, o, es', g, ex, dt, rest⟩
theorem j_dget2 {X : Cx} {o e f : Expr} {td ty tx : TE} {apos cpos : Pos} {k : Nat} (hr : Room k X.A) (h1 : attributeBase o "get" X.env (eval o X.env) = eval o X.env)
 (h2 : ((backTo cpos (starEach [e, f] X.env)).all (fun x => !x.1) && (backToKw cpos (keywordEach [] X.env)).all (fun x => x.1.isSome)
  && decide (([e, f] : List Expr).length + ([] : List Keyword).length + (if ([] : List Keyword).isEmpty then 0 else 1) < 30)) = true) (h3 : (apos.endLine == cpos.line) = true) (h4 : backTo cpos (starEach [e, f] X.env) = [(false, eval e X.env), (false, eval f X.env)])
 (ho : JE X o td) (he : JE X e ty) (hf : JE X f tx) : JE X (.Call (.Attribute o "get" apos) [e, f] [] cpos) (tDGet2 td ty tx) := ⟨pe_dget2 (by have := hr.un; omega) ho.h he.h hf.h ⟨h1, h2, h3, h4⟩⟩
end Br
namespace Br
namespace ZM
open PySem PySem.Spec PySem.Calls PyProof.Rows L2
section
structure Zp (h : Heap) (z u o c1 c2 d e : Addr) (xs ys : Array Value) (k : Nat) : Prop where
 zip : IsZip h z u o .none
 its : IsPair h u (.ref c1) (.ref c2)
 own : ∃ a b, IsPair h o a b
 i1 : h.IsListIter c1 d k
 i2 : h.IsTupleIter c2 e k
 t1 : h.IsList d xs
 t2 : h.IsTuple e ys
structure Ap (z u o c1 c2 d e : Addr) : Prop where
 ne : [z, u, o, c1, c2].Nodup
 nd : ∀ b ∈ [z, u, o, c1, c2], d ≠ b ∧ e ≠ b
end
end ZM
end Br
namespace Br
open PySem PySem.Spec PySem.Calls PyProof.Rows L2
def rCatTB : R2 := fun x y H Q => ∃ a b xs ys, x = .ref a ∧ y = .ref b ∧ H a = some (.tup xs) ∧ H b = some (.tup ys) ∧ xs.length + ys.length ≤ sizeLine ∧ ∀ p H2, L2.Same H H2 → H2 p = some (.tup (xs ++ ys)) → Q (.ref p) H2
section
theorem op_catTB : OpR X (binaryOp .Add) rCatTB := fun pins s σ H x y v u Q I rx ry h => by
 obtain ⟨a, b, xs, ys, e1, e2, t1, t2, hz, q⟩ := h
 have h1 : SqT X.K H a xs := SqT.of t1
 have h2 : SqT X.K H b ys := SqT.of t2
 by_cases hx : xs = []
 · subst e1; subst e2; subst hx
   cases rx; cases ry
   obtain ⟨its, r1, p1, _⟩ := I.tuple h1
   obtain ⟨its2, r2, p2, _⟩ := I.tuple h2
   have hv := r1.nil_iff.mpr rfl
   obtain ⟨⟨cls, dd, data, sl⟩, ho, hc, n, hd⟩ := id p1
   obtain ⟨⟨cls2, dd2, data2, sl2⟩, ho2, hc2, n2, hd2⟩ := id p2
   subst hc hd hc2 hd2
   exact concat_meets ⟨_, ho, rfl⟩ ⟨_, ho2, rfl⟩ noFill_tuple_add seq_tuple_add PySem.F.slot_tuple_add PySem.F.entry_tuple_add (PySem.F.args_tuple_add_2 _ _)
    (tuple_addW0 a b its.toArray its2.toArray n n2 dd dd2 sl sl2 (by simp [hv])) ⟨ho, ho2, ⟨.ref b, H, I, rfl, q b H (L2.Same.refl _) t2⟩⟩
 · refine op_catT pins s σ H x y v u Q I rx ry ⟨a, b, xs, ys, e1, e2, h1, h2, hx, hz, fun e => ?_, fun _ p hp => q p _ (Br.Same.upd hp) upd_same⟩
   exact q a H (L2.Same.refl _) (by simp_all)
end
def Itk (o : Obj) (a : Addr) (kvs : List (Key × V)) : It :=
 ⟨fun i H => H a = some (.frz o (.dK kvs)) ∧ i < kvs.length,
  fun i H v H' => H' = H ∧ ∃ kv : Key × V, kvs[i]? = some kv ∧ v = kV kv.1,
  fun i H => H a = some (.frz o (.dK kvs)) ∧ kvs.length ≤ i⟩
theorem turn_keys {P : Program} {w : World} {K : PySem.W.Frag} {tg : Expr} {it a : Addr} {o : Obj} {kvs : List (Key × V)} {ds : Array DictEntry} {ep : Nat} (he : o.data = .dict ds ep) :
 Turn P w K tg (Itk o a kvs) [it] it (fun i h => h.IsKeyIter it a i kvs.length ep) where
 mem := by simp
 obj := fun i h st b hb => by
  have e : b = it := by simpa using hb
  subst e
  obtain ⟨o, e, c, d⟩ := st
  exact ⟨o, e, fun v z => by rw [d] at z; cases z⟩
 keep := fun i h h' st k => st.at fun o e => k it (by simp) o e
 item := by
  intro X hP hw hK hc i pins s σ H E I hf st hg
  subst hP hw hK
  obtain ⟨hg, hi⟩ := hg
  obtain ⟨vs, rel, da⟩ := frz_at he I.hok hg
  obtain ⟨kv, hkv⟩ : ∃ kv, kvs[i]? = some kv := ⟨_, List.getElem?_eq_getElem hi⟩
  obtain ⟨v', hv', rx⟩ := kvGet rel hkv
  obtain ⟨f0, f1, f2, f3, f4, f5⟩ := hf it (by simp)
  rw [rel.length] at st
  refine wpAny_pyNext_dict_item (knd := mixKind X.prog X.w) st da hv' fun key h' hkey st' sb => ?_
  have I1 : Inv X pins σ H { s with heap := h' } := I.turned (t' := s.toks) (fun b o hb e => (sb.2 b hb).trans e) f0 f1 f3 f4 f5
  obtain ⟨o', e, c, d⟩ := id st'
  exact ⟨key, rfl, go_of (s := { s with heap := h' }) e c d (by decide) ⟨kV kv.1, H, I1, is_rel hkey, ⟨rfl, kv, hkv, rfl⟩, by rw [rel.length]; exact st', fun b hb => (hf b hb).1⟩⟩
 done := by
  intro X hP hw hK hc i pins s σ H E I hf st hg
  subst hP hw hK
  obtain ⟨hg, hi⟩ := hg
  obtain ⟨vs, rel, da⟩ := frz_at he I.hok hg
  obtain ⟨f0, f1, f2, f3, f4, f5⟩ := hf it (by simp)
  have hl := rel.length
  rw [rel.length] at st
  exact wpAny_pyNext_dict_end (I.ok.hd hc) st da (List.getElem?_eq_none (by omega)) fun h' eb => ⟨rfl, I.turned (t' := s.toks) (fun b o hb e => eb b o hb e) f0 f1 f3 f4 f5⟩
 self := fun _ _ _ _ _ st h => wpAny_pyIter_keyiter st h
def iKeys (td : TE) : TI := fun σ H R => td σ H fun x H1 => ∃ a kvs, x = .ref a ∧ H1 a = some (.dK kvs) ∧ ∀ o H2, H2 = upd H1 a (.frz o (.dK kvs)) → R (Itk o a kvs) H2
theorem pi_keys (ho : PE X o td) : PI X tg o (iKeys td) := by
 intro pins s σ H R I h
 refine thn (ho pins s σ H _ I h) fun u s1 ⟨x, H1, I1, rx, a, kvs, ex, e, q1⟩ => ?_
 subst ex
 obtain rfl : u = Value.ref a := rx
 obtain ⟨z, hd, vs, rel, dd⟩ := dk_of I1.hok e
 obtain ⟨ob, ds, ep, g, ex, dt, rest⟩ := dd
 have gp : ∀ (h : Heap) b o', h.get? b = some o' → ∀ n, (h.push n).get? b = some o' := fun h b o' q n => Heap.get?_push_of_some _ q
 have al := Heap.lt_size g
 refine wpAny_pyIter_dict hd ⟨ob, ds, g, ex, dt, rest⟩ ?_
 have I2 := I1.kept (t' := s1.toks) (h' := (s1.heap.push { cls := .type "dict_keyiterator", data := .fields #[.ref a, .int 0 0, .int vs.length 0, .int ep 0] })) fun b o' q => gp _ _ _ q _
 have I3 := I2.write (x := a) (e := a) (o := .frz ob (.dK kvs)) (t' := s1.toks) (by rw [e]; exact True.intro) (.inl rfl) (fun b u _ q => q) ⟨ob, gp _ _ _ g _⟩ ⟨gp _ _ _ g _, z, hd, vs, rel, ob, ds, ep, gp _ _ _ g _, ex, dt, rest⟩
 refine ⟨s1.heap.objs.size, [_], _, _, _, rfl, I3, turn_keys dt, ⟨_, Heap.get?_push_size _ rfl, rfl, by rw [rel.length]; rfl⟩, fun c hc => ?_, q1 ob _ rfl⟩
 have hc := List.mem_singleton.mp hc
 subst hc
 have f := I1.fpOk (Nat.le_refl _) (I1.hok.fresh (Nat.le_refl _))
 refine ⟨?_, f.2⟩
 rw [upd_ne (Nat.ne_of_gt al)]; exact f.1
theorem k_keys (ho : JE X o td) : JI X tg o (iKeys td) := ⟨pi_keys ho.h⟩
section
theorem cmp_keys (hn : kvs.length ≤ 1000) (Pv : Nat → List V → L2.St → Hp → Prop) (h0 : Pv 0 [] σ0 H0) (hl : ∀ i ys σ H, i ≤ kvs.length → Pv i ys σ H → H a = some (.frz ob (.dK kvs)) ∧ ys.length ≤ i)
 (hs : ∀ i kv ys σ H (N : List V → L2.St → Hp → Prop), kvs[i]? = some kv → Pv i ys σ H → (∀ ys' σ' H', Pv (i + 1) ys' σ' H' → N ys' σ' H') →
  g (kV kv.1) σ H fun σ3 H3 => tt σ3 H3 fun b H4 => if b = true then te σ3 H4 fun y H5 => N (ys ++ [y]) σ3 H5 else N ys σ3 H4)
 (hd : ∀ ys σ H, Pv kvs.length ys σ H → Z ys H) : Cmp (Itk ob a kvs) g tt te σ0 H0 Z := by
 have hsz := sizeLine_eq
 refine ⟨fun i m ys σ H => m = kvs.length - i ∧ i ≤ kvs.length ∧ Pv i ys σ H, ⟨kvs.length, by simp, Nat.zero_le _, h0⟩, ?_⟩
 rintro i m ys σ H ⟨rfl, hi, p⟩
 obtain ⟨q1, hy⟩ := hl i ys σ H hi p
 refine ⟨by omega, ?_⟩
 by_cases hlt : i < kvs.length
 · refine .inr ⟨⟨q1, hlt⟩, fun v H' yl => ?_⟩
   obtain ⟨rfl, kv, e, rfl⟩ := yl
   exact hs i kv ys σ _ (fun ys' σ' H' => ∃ m', m' < kvs.length - i ∧ m' = kvs.length - (i + 1) ∧ i + 1 ≤ kvs.length ∧ Pv (i + 1) ys' σ' H') e p fun ys' σ' H' p' => ⟨kvs.length - (i + 1), by omega, rfl, hlt, p'⟩
 · have e : i = kvs.length := by omega
   subst e
   exact .inl ⟨⟨q1, Nat.le_refl _⟩, hd ys σ H p⟩
end
section
theorem g_tup2C (hi : At X.N i x) (hj : At X.N j y) (hc : X.calm = true) (hN : X.N.Nodup) (hx : Loc X.env.scope x) (hy : Loc X.env.scope y) (hfx : X.fn x = true) (hfy : X.fn y = true)
 (h1 : (assignEach [.Name x px, .Name y py] X.env).map (·.2) = assign (.Name x px) X.env :: (assignEach [.Name y py] X.env).map (·.2))
 (h2 : (assignEach [.Name y py] X.env).map (·.2) = assign (.Name y py) X.env :: (assignEach [] X.env).map (·.2))
 (hn : (assignEach [.Name x px, .Name y py] X.env).length = 2) (hst : (assignEach [.Name x px, .Name y py] X.env).findIdx? (·.1) = none) : JG X (.Tuple [.Name x px, .Name y py] kt pt) (gTup X.K 2 (gCons (gName i) (gCons (gName j) gNil))) :=
 ⟨pg_tup hc (pgs_cons (pg_name hN hi.get hx (.inl hfx)) (pgs_cons (pg_name hN hj.get hy (.inl hfy)) pgs_nil h2) h1) hn hst⟩
end
end Br
namespace Br
namespace ZT
open PySem PySem.Spec PySem.Calls PyProof.Rows L2
section
structure Zp (h : Heap) (z u o c1 c2 d e : Addr) (xs ys : Array Value) (k : Nat) : Prop where
 zip : IsZip h z u o .none
 its : IsPair h u (.ref c1) (.ref c2)
 own : ∃ a b, IsPair h o a b
 i1 : h.IsTupleIter c1 d k
 i2 : h.IsListIter c2 e k
 t1 : h.IsTuple d xs
 t2 : h.IsList e ys
structure Ap (z u o c1 c2 d e : Addr) : Prop where
 ne : [z, u, o, c1, c2].Nodup
 nd : ∀ b ∈ [z, u, o, c1, c2], d ≠ b ∧ e ≠ b
end
end ZT
namespace EL
open PySem PySem.Spec PySem.Calls PyProof.Rows L2
section
variable {s : Shared}
theorem drawsT (hh : A.handled = none) (c d : Addr) (hdc : d ≠ c) (xs : Array Value) :
 Draws prog w A c [c, d] xs.size (fun i x => xs[i]? = some x) (fun i h => h.IsListIter c d i ∧ h.IsList d xs) where
 live := fun i h st => let ⟨o, e, _⟩ := st.1; ⟨o, e⟩
 frame := fun i h h' st k => ⟨st.1.at fun ob q => k _ (by simp) ob q, let ⟨ob, q, r⟩ := st.2; ⟨ob, k _ (by simp) ob q, r⟩⟩
 item := fun i s Q E hi st go => by
  have hx : xs[i]? = some xs[i] := by simp [hi]
  exact ZL.tnext st.1 st.2 hx fun g j k => go _ g s.toks hx ⟨j, st.2.extBut k.extBut hdc⟩ k
 done := fun s Q E st go => ZL.tnone hh st.1 st.2 (by simp) fun g e k he => go g e k he
theorem enone {e c d : Addr} {xs : Array Value} {k : Nat} {old : Value} {Q : PySem.Fin → Shared → Prop} (hh : A.handled = none) (h1 : IsEnum s.heap e c k old) (h2 : s.heap.IsListIter c d k) (h3 : s.heap.IsList d xs) (hv : xs[k]? = none)
 (go : ∀ g x, Heap.ExtBut c s.heap g → (∃ ob, g.get? x = some ob ∧ ob.cls = .type "StopIteration") → E (.ref x) { s with heap := g }) :
 wpAny (model prog w) A (Builtin.«enumerate.__next__» ⟨[.ref e], []⟩) Q E s := by
 show wpAny _ _ (field (.ref e) 2 >>= _) _ _ _
 refine wpAny_bind (wpAny_field h1 rfl (x := .ref c) rfl ?_)
 exact wpAny_bind (ZL.tnone hh h2 h3 hv go)
theorem enext {e c d : Addr} {xs : Array Value} {k : Nat} {x old : Value} {Q : Option Value → Shared → Prop} (hh : A.handled = none) (n1 : e ≠ c) (n2 : d ≠ e) (n3 : d ≠ c) (h1 : IsEnum s.heap e c k old) (h2 : s.heap.IsListIter c d k) (h3 : s.heap.IsList d xs) (hx : xs[k]? = some x)
 (go : ∀ g tk, IsEnumOut g e c (k + 1) x s.heap.objs.size → g.IsListIter c d (k + 1) → IsPair g s.heap.objs.size (.int k tk) x → g.objs.size = s.heap.objs.size + 1 →
  (∀ b ob, b ≠ e → b ≠ c → s.heap.get? b = some ob → g.get? b = some ob) → Q (some (.ref s.heap.objs.size)) { s with heap := g, toks := tk + 1 }) : wpAny (model prog w) A (pyNext (.ref e)) Q E s := by
 have hT : s.TypeIs (.ref e) "enumerate" := ⟨_, h1, rfl⟩
 have hk : k < xs.size := by
  rcases Nat.lt_or_ge k xs.size with h | h
  · exact h
  · rw [Array.getElem?_eq_none h] at hx; cases hx
 unfold pyNext
 refine wpAny_bind (wpAny_attempt (wpAny_callSpecial?_slot (name := Str.ofString "__next__") hT F.slot_enumerate_next (wpAny_call_entry F.slot_enumerate_next hT F.entry_enumerate_next ?_ (F.args_enumerate_next_1 _))))
 refine enumerate_next_itemD (drawsT (A := A.in1) (show A.in1.handled = none from hh) c d n3 xs) h1 ⟨h2, h3⟩ hk n1 (by simp [n1, Ne.symm n2]) fun x' g tk px a1 a2 a3 a4 a5 => wpAny_pure ?_
 have : x' = x := by rw [px] at hx; exact Option.some.inj hx
 subst this
 exact go g tk a1 a2.1 a3 a4 a5
theorem estop {e c d : Addr} {xs : Array Value} {k : Nat} {old : Value} {Q : Option Value → Shared → Prop} (hh : A.handled = none) (h1 : IsEnum s.heap e c k old) (h2 : s.heap.IsListIter c d k) (h3 : s.heap.IsList d xs) (hv : xs[k]? = none)
 (go : ∀ g, Heap.ExtBut c s.heap g → Q none { s with heap := g }) : wpAny (model prog w) A (pyNext (.ref e)) Q E s := by
 have hT : s.TypeIs (.ref e) "enumerate" := ⟨_, h1, rfl⟩
 unfold pyNext
 refine wpAny_bind (wpAny_attempt (wpAny_callSpecial?_slot (name := Str.ofString "__next__") hT F.slot_enumerate_next (wpAny_call_entry F.slot_enumerate_next hT F.entry_enumerate_next (enone hh h1 h2 h3 hv fun g x hk he => ?_) (F.args_enumerate_next_1 _))))
 obtain ⟨ob, hob, hcb⟩ := he
 exact wpAny_bind (wpAny_isInstance (T := "StopIteration") (b := true) ⟨ob, hob, hcb⟩ isSubtype_stop (wpAny_pure (go _ hk)))
theorem wpAny_pureB {b : Bool} (h : ∀ b, Q b s) : wpAny M A (pure b) Q E s := wpAny_pure (h b)
theorem emeets (d : Addr) (xs : Array Value) : Meets (Builtin.«enumerate.__new__» ⟨[.type "enumerate", .ref d], []⟩) (fun _ R s => s.heap.IsList d xs ∧
 R (.ok (.ret (.ref (ZL.zh1 s.heap d).objs.size))) { s with heap := (ZL.zh1 s.heap d).push { cls := .type "enumerate", data := .fields #[.none, .bool false, .ref s.heap.objs.size, rawInt 0, .none, .none] } }) :=
 .of_wp fun prog w A R s h => by
  obtain ⟨hp, g, dr, tk, os⟩ := s
  obtain ⟨h1, h⟩ := h
  have hsub := sub_enumerate
  have q1 : Heap.IsList (Shared.heap ⟨hp, g, dr, tk, os⟩) d xs := h1
  wp_walk using wpAny_pyIter_list q1
  refine wpAny_stack_any fun st => wpAny_pureB fun bb => ?_
  cases bb
  · wp_walk using wpAny_pyIter_list q1
    exact ⟨_, rfl, h⟩
  · wp_walk using wpAny_pyIter_list q1
    exact ⟨_, rfl, h⟩
theorem emake {d : Addr} {xs : Array Value} {Q : Value → Shared → Prop} (h1 : s.heap.IsList d xs)
 (go : ∀ g, IsEnum g (s.heap.objs.size + 1) s.heap.objs.size 0 .none → g.IsListIter s.heap.objs.size d 0 → (∀ b ob, s.heap.get? b = some ob → g.get? b = some ob) → Q (.ref (s.heap.objs.size + 1)) { s with heap := g }) :
 wpAny (model prog w) A (call (.type "enumerate") [.ref d]) Q E s := by
 refine callType_new F.called_enumerate (by decide) (F.typeCall_enumerate_1 _) (F.newCall_enumerate_1 _) (fun obj => F.args_object_init_2 obj _) F.entry_enumerate_new (emeets d xs) ⟨h1, ?_⟩
 have s1 : (ZL.zh1 s.heap d).objs.size = s.heap.objs.size + 1 := Heap.size_push ..
 have g2 : ((ZL.zh1 s.heap d).push { cls := .type "enumerate", data := .fields #[.none, .bool false, .ref s.heap.objs.size, rawInt 0, .none, .none] }).get? (ZL.zh1 s.heap d).objs.size = some _ := Heap.get?_push_size _ rfl
 have g1 : ((ZL.zh1 s.heap d).push { cls := .type "enumerate", data := .fields #[.none, .bool false, .ref s.heap.objs.size, rawInt 0, .none, .none] }).get? s.heap.objs.size = some _ := Heap.get?_push_of_some _ (Heap.get?_push_size _ rfl)
 have old : ∀ b ob, s.heap.get? b = some ob → ((ZL.zh1 s.heap d).push { cls := .type "enumerate", data := .fields #[.none, .bool false, .ref s.heap.objs.size, rawInt 0, .none, .none] }).get? b = some ob := fun b ob q => Heap.get?_push_of_some _ (Heap.get?_push_of_some _ q)
 rw [s1] at g2
 have gz := go _ g2 ⟨_, g1, rfl, rfl⟩ old
 rw [s1]
 exact ⟨⟨_, g2, rfl⟩, gz⟩
end
def Ite (K : PySem.W.Frag) (a : Addr) : It :=
 ⟨fun i H => ∃ xs x, SqL K H a xs ∧ xs[i]? = some x,
  fun i H v H' => ∃ (x : V) (T : Addr), v = .ref T ∧ H T = none ∧ H' = upd H T (.tup [.int i, x]) ∧ ∀ xs, SqL K H a xs → xs[i]? = some x,
  fun i H => ∃ xs, SqL K H a xs ∧ xs.length ≤ i⟩
theorem turn_enum {P : Program} {w : World} {K : PySem.W.Frag} {es : List Expr} {kt : Nat} {pt : Pos} {e c a : Addr} (ne : e ≠ c) :
 Turn P w K (.Tuple es kt pt) (Ite K a) [e, c] e (fun i h => (∃ old, IsEnum h e c i old) ∧ h.IsListIter c a i) where
 mem := by simp
 obj := fun i h st b hb => by
  obtain ⟨⟨old, h1⟩, ⟨o4, h4, _, d4⟩⟩ := st
  simp only [List.mem_cons, List.mem_nil_iff, or_false] at hb
  rcases hb with rfl | rfl
  · exact ⟨_, h1, fun v q => by cases q⟩
  · exact ⟨_, h4, fun v q => by rw [d4] at q; cases q⟩
 keep := fun i h h' st k => by
  obtain ⟨⟨old, h1⟩, h4⟩ := st
  exact ⟨⟨old, k _ (by simp) _ h1⟩, h4.at fun ob q => k _ (by simp) ob q⟩
 item := by
  intro X hP hw hK hc i pins s σ H E I hf st hg
  subst hP hw hK
  obtain ⟨⟨old, h1⟩, h4⟩ := st
  obtain ⟨xs, x, q1, hx⟩ := hg
  obtain ⟨t1, r1, p1, l1⟩ := I.list q1
  have p1 := p1.isList
  obtain ⟨x', hx', rx⟩ := r1.get hx
  have ae : a ≠ e := ZL.sqL_apart I q1 (hf e (by simp))
  have ac : a ≠ c := ZL.sqL_apart I q1 (hf c (by simp))
  refine enext (I.ok.hd hc) ne ae ac h1 h4 p1 (x := x') (by simpa using hx') fun g tk z1 i1 T1 sz kp => ?_
  refine ⟨_, rfl, wpAny_letOwnedTupleGo_enum z1 fun g' z2 k2 => ?_⟩
  have hfr : H s.heap.objs.size = none := I.hok.fresh (Nat.le_refl _)
  have lt : ∀ b ∈ [e, c], b < s.heap.objs.size := fun b hb => by
   simp only [List.mem_cons, List.mem_nil_iff, or_false] at hb
   rcases hb with rfl | rfl
   · exact Heap.lt_size h1
   · obtain ⟨_, h4, _⟩ := h4; exact Heap.lt_size h4
  have all : ∀ b ob, b ∉ [e, c] → s.heap.get? b = some ob → g'.get? b = some ob := fun b ob hb q => by
   simp only [List.mem_cons, List.mem_nil_iff, or_false, not_or] at hb
   exact k2.extBut _ _ hb.1 (kp b ob hb.1 hb.2 q)
  have zl : e < s.heap.objs.size := lt e (by simp)
  have i1' := i1.extBut k2.extBut (Ne.symm ne)
  have T' : IsPair g' s.heap.objs.size (.int i tk) x' := k2.extBut _ _ (Nat.ne_of_gt zl) T1
  have trk : ∀ b v, H b = some v → b ∉ [e, c] := fun b v q hb => by rw [(hf b hb).1] at q; cases q
  have I1 : Inv X pins σ (upd H s.heap.objs.size (.tup [.int i, x])) { s with heap := g', toks := tk + 1 } := by
   refine I.step (g' := s.gens) (d' := s.drawn) (t' := tk + 1) (ch := [e, c]) (fun b hb => ?_) (fun b ob _ _ hb q _ => all b ob hb q) (fun b ob _ _ hb q _ => ⟨ob.slots, all b ob hb q⟩) (fun b ob hb q n => ?_) (fun b ob hb q => ⟨ob, all b ob hb q⟩)
    (fun b v q => ?_) (fun b v v' q => ?_) (fun b v q => ⟨#[], ?_⟩) (fun m hm => ?_) (fun b v q => ?_) I.bare
   · obtain ⟨f0, f1, f2, f3, f4, f5⟩ := hf b hb
     exact ⟨f3, f1, f4, f5⟩
   · rw [upd_ne (Nat.ne_of_lt (Heap.lt_size q))]; exact n
   · rw [upd_ne (ne_of_none q hfr)]; exact q
   · rw [upd_ne (ne_of_none q hfr)]; exact q
   · rw [upd_ne (ne_of_none q hfr), q]; simp
   · obtain ⟨ob, es, ep, ho, r⟩ := hm
     exact ⟨ob, es, ep, all _ ob (fun hb => (hf _ hb).2.1 rfl) ho, r⟩
   · by_cases hcT : b = s.heap.objs.size
     · subst hcT
       rw [upd_same] at q; cases q
       exact ⟨by show 2 ≤ sizeLine; decide, [.int i tk, x'], .cons ⟨tk, rfl⟩ (.cons rx .nil), ⟨_, T', rfl, _, rfl⟩⟩
     · rw [upd_ne hcT] at q
       refine (I.hok b v q).stay (fun c' ob hc' q' => all c' ob ?_ q') (fun c' q' => by rw [upd_ne (ne_of_none q' hfr)]; exact q') fun c' vs q' => by rw [upd_ne (ne_of_none q' hfr)]; exact q'
       rcases hc' with z | z
       · rw [z]; exact trk b v q
       · exact trk c' _ z
  refine ⟨.ref s.heap.objs.size, _, I1, rfl, ⟨x, _, rfl, hfr, rfl, fun xs' e1 => ?_⟩, ⟨⟨_, z2⟩, i1'⟩, fun b hb => ?_⟩
  · rw [I.list_inj e1 q1]; exact hx
  · rw [upd_ne (Nat.ne_of_lt (lt b hb))]; exact (hf b hb).1
 done := by
  intro X hP hw hK hc i pins s σ H E I hf st hg
  subst hP hw hK
  obtain ⟨⟨old, h1⟩, h4⟩ := st
  obtain ⟨xs, q1, hend⟩ := hg
  obtain ⟨t1, r1, p1, l1⟩ := I.list q1
  have p1 := p1.isList
  have e1 := r1.length
  refine estop (I.ok.hd hc) h1 h4 p1 (by simp; omega) fun g kp => ⟨rfl, ?_⟩
  have all : ∀ b ob, b ∉ [e, c] → s.heap.get? b = some ob → g.get? b = some ob := fun b ob hb q => by
   simp only [List.mem_cons, List.mem_nil_iff, or_false, not_or] at hb
   exact kp b ob hb.2 q
  have trk : ∀ b v, H b = some v → b ∉ [e, c] := fun b v q hb => by rw [(hf b hb).1] at q; cases q
  refine I.step (g' := s.gens) (d' := s.drawn) (t' := s.toks) (ch := [e, c]) (fun b hb => ?_) (fun b ob _ _ hb q _ => all b ob hb q) (fun b ob _ _ hb q _ => ⟨ob.slots, all b ob hb q⟩) (fun b ob hb q n => n) (fun b ob hb q => ⟨ob, all b ob hb q⟩)
   (fun b v q => q) (fun b v v' q => q) (fun b v q => ⟨#[], by rw [q]; simp⟩) (fun m hm => ?_) (fun b v q => ?_) I.bare
  · obtain ⟨f0, f1, f2, f3, f4, f5⟩ := hf b hb
    exact ⟨f3, f1, f4, f5⟩
  · obtain ⟨ob, es, ep, ho, r⟩ := hm
    exact ⟨ob, es, ep, all _ ob (fun hb => (hf _ hb).2.1 rfl) ho, r⟩
  · refine (I.hok b v q).stay (fun c' ob hc' q' => all c' ob ?_ q') (fun c' q' => q') fun c' vs q' => q'
    rcases hc' with z | z
    · rw [z]; exact trk b v q
    · exact trk c' _ z
 self := fun _ _ _ _ _ st h => by obtain ⟨⟨old, h1⟩, _⟩ := st; exact wpAny_pyIter_enum h1 h
theorem boot_enum : bootBuiltins "enumerate" = some (.type "enumerate") := by rfl
def iEnum (K : PySem.W.Frag) (ta : TA) : TI := fun σ H R => ta σ H fun vs H1 => ∃ a xs, vs = [.ref a] ∧ SqL K H1 a xs ∧ R (Ite K a) H1
theorem pi_enum {X : Cx} {es : List Expr} {kt : Nat} {pt : Pos} {a : Expr} {ta : TA} {p pos : Pos} (hg : Gl X "enumerate") (hm : X.mg "enumerate" = none) (ha : PA X [a] ta) (hs : starEach [a] X.env = [(false, eval a X.env)]) :
 PI X (.Tuple es kt pt) (.Call (.Name "enumerate" p) [a] [] pos) (iEnum X.K ta) := by
 intro pins s σ H R I h
 refine Call_ (ld_blt I hg hm boot_enum (PyProof.Rows.callWith_type1 (thn (ha pos pins s σ H _ I h) fun us s1 ⟨vs, H1, I1, r1, q1⟩ => ?_) (by rw [hs]; rfl) rfl))
 obtain ⟨a, xs, e, q1, q⟩ := q1
 subst e
 cases r1 with
 | cons r rr =>
  cases rr
  cases r
  obtain ⟨t1, rv1, p1, l1⟩ := I1.list q1
  have p1 := p1.isList
  refine emake p1 fun g h1 h2 old => ?_
  have I2 : Inv X pins σ H1 { s1 with heap := g } := I1.kept (t' := s1.toks) old
  refine wpAny_pyIter_enum h1 ?_
  refine ⟨s1.heap.objs.size + 1, [s1.heap.objs.size + 1, s1.heap.objs.size], _, _, H1, rfl, I2, turn_enum ?_, ⟨⟨_, h1⟩, h2⟩, fun c hc => ?_, q⟩
  · intro z; have z : (_ : Nat) = _ := z; omega
  · have hb : s1.heap.objs.size ≤ c := by
     simp only [List.mem_cons, List.mem_nil_iff, or_false] at hc
     rcases hc with rfl | rfl
     · exact Nat.le_add_right _ _
     · exact Nat.le_refl _
    exact I1.fpOk hb (I1.hok.fresh hb)
theorem k_enum {K : PySem.W.Frag} (hK : X.K = K) {x : Str} (hx : x = "enumerate") (hg : Gl X x) (hm : X.mg x = none) (hs : starEach [a] X.env = [(false, eval a X.env)]) (ha : JA X [a] ta) :
 JI X (.Tuple es kt pt) (.Call (.Name x p) [a] [] pos) (iEnum K ta) := hK ▸ ⟨by subst hx; exact pi_enum hg hm ha.h hs⟩
section
variable {K : PySem.W.Frag}
theorem cmp_enum {n : Nat} (hx : xs.length = n) (hn : n ≤ 10000) (Pv : Nat → List V → L2.St → Hp → Prop) (h0 : Pv 0 [] σ0 H0) (hl : ∀ i ys σ H, i ≤ n → Pv i ys σ H → SqL K H a xs ∧ ys.length ≤ i)
 (hs : ∀ i x ys σ H (T : Addr) (N : List V → L2.St → Hp → Prop), xs[i]? = some x → Pv i ys σ H → H T = none → (∀ ys' σ' H', Pv (i + 1) ys' σ' H' → N ys' σ' H') →
  g (.ref T) σ (upd H T (.tup [.int i, x])) fun σ3 H3 => tt σ3 H3 fun b H4 => if b = true then te σ3 H4 fun y H5 => N (ys ++ [y]) σ3 H5 else N ys σ3 H4)
 (hd : ∀ ys σ H, Pv n ys σ H → Z ys H) : Cmp (Ite K a) g tt te σ0 H0 Z := by
 have hsz : (sizeLine : Nat) = 16777216 := sizeLine_eq
 refine ⟨fun i m ys σ H => m = n - i ∧ i ≤ n ∧ Pv i ys σ H, ⟨n, by simp, Nat.zero_le _, h0⟩, ?_⟩
 rintro i m ys σ H ⟨rfl, hi, p⟩
 obtain ⟨q1, hy⟩ := hl i ys σ H hi p
 refine ⟨by omega, ?_⟩
 by_cases hlt : i < n
 · have e1 : xs[i]? = some xs[i] := List.getElem?_eq_getElem (by omega)
   refine .inr ⟨⟨xs, _, q1, e1⟩, fun v H' yl => ?_⟩
   obtain ⟨x, T, rfl, hT, rfl, hxz⟩ := yl
   have e3 := hxz xs q1
   exact hs i x ys σ _ T (fun ys' σ' H' => ∃ m', m' < n - i ∧ m' = n - (i + 1) ∧ i + 1 ≤ n ∧ Pv (i + 1) ys' σ' H') e3 p hT fun ys' σ' H' p' => ⟨n - (i + 1), by omega, rfl, hlt, p'⟩
 · have e : i = n := by omega
   subst e
   exact .inl ⟨⟨xs, q1, by omega⟩, hd ys σ H p⟩
end
end EL
end Br
namespace Br
open PySem PySem.Spec PySem.Calls PyProof.Rows L2
section
variable {K : PySem.W.Frag} {x nm : Str}
theorem j_dgetA (x : Str) (hr : Room k X.A) (hs : NoSl b) (ho : JE X (.Name x p) td) (hi : JE X b ty) : JE X (.Subscript (.Name x p) b pos) (tDGet td ty) := ⟨pe_dget (by have := hr.un; omega) ho.h hi.h hs⟩
theorem s_dputA (x : Str) (hr : Room k X.A) (hs : swapsWith value (some (.Subscript (.Name x p) b pos')) pos.line X.env = pure false) (ho : JE X (.Name x p) td) (hi : JE X b ty) (hv : JE X value tv) : JS X (.Assign [.Subscript (.Name x p) b pos'] value pos) (sDPut td ty tv) :=
 ⟨ps_dput (by have := hr.un; omega) ho.h hi.h hv.h hs⟩
end
end Br
namespace Br
section
open PySem PyProof.Rows HT
theorem notlt (a c : Int) : (!decide (c < a)) = decide (a ≤ c) := by grind
theorem rcLe_int (A : Around) (s : Shared) (a : Int) (t : Tok) (c : Int) (u : Tok) (prog : Program) (w : World) (E : Value → Shared → Prop) (Q : Value → Shared → Prop) (h : Q (.bool (decide (a ≤ c))) s) :
 wpAny (model prog w) A (richCompare .LtE (.int a t) (.int c u)) Q E s :=
 (PyProof.Rows.le_int h : wpAny _ A _ Q E s)
section
open PySem.SeqAt
open PySem.AutoSeq1 (wpAny_loadPart')
open PySem.MeetsSeq PySem.MeetsSeq2 PySem.MeetsSeq3
theorem tuple_le_ints (l b : Addr) (items items2 : Array Value) (n n2 : Nat) (dd dd2 : Option Addr) (sl sl2 : Array (Option Value)) (ns ms : List Int) (hi : IntsAre items.toList ns) (hj : IntsAre items2.toList ms) :
 Meets (Builtin.«tuple.__le__» ⟨[.ref l, .ref b], []⟩)
  (fun _ R s => s.heap.get? l = some { cls := .type "tuple", dict := dd, data := .seq items n, slots := sl } ∧ s.heap.get? b = some { cls := .type "tuple", dict := dd2, data := .seq items2 n2, slots := sl2 } ∧
   R (.ok (.ret (.bool (!lexLt ms ns)))) s) :=
 .of_wp fun prog w A R s h => by
  obtain ⟨hp, g, d, tk, os⟩ := s; obtain ⟨hl, hb, h⟩ := h
  have f2 := AutoSeq1.sub_tuple_tuple
  have z1 : items.size = ns.length := by rw [← hi.length]; simp
  have z2 : items2.size = ms.length := by rw [← hj.length]; simp
  wp_walk using wpAny_loadPart' hl, wpAny_loadPart' hb, wpAny_forIn_list _ (fun rest b s' => b.1 = none ∧ s' = ⟨hp, g, d, tk, os⟩ ∧ ∃ (vs ws : List Value) (ns' ms' : List Int), rest = vs.zip ws ∧
   IntsAre vs ns' ∧ IntsAre ws ms' ∧ ns'.length + items2.size = ms'.length + items.size ∧ R (.ok (.ret (.bool (!lexLt ms' ns')))) ⟨hp, g, d, tk, os⟩) _
  case turn =>
   rintro ⟨y, x⟩ rest b s' ⟨hb', rfl, vs, ws, ns', ms', hz, hvi, hwi, hlen, hR⟩
   cases hvi with
   | nil => rw [List.zip_nil_left] at hz; cases hz
   | cons a t hvi' =>
    cases hwi with
    | nil => rw [List.zip_nil_right] at hz; cases hz
    | cons c u hwi' =>
     rw [List.zip_cons_cons] at hz
     injection hz with hyx hrest
     injection hyx with hy hx
     subst hy hx
     rw [lexLt_cons] at hR
     simp only [List.length_cons] at hlen
     obtain ⟨e, he, hiff⟩ := eqAt_int A.in1 ⟨hp, g, d, tk, os⟩ a t c u
     refine wpAny_bind (he prog w _ _ ?_)
     cases e with
     | true =>
      rw [if_pos (hiff.mp rfl).symm] at hR
      wp_walk
      exact ⟨rfl, rfl, _, _, _, _, hrest, hvi', hwi', by omega, hR⟩
     | false =>
      rw [if_neg (fun q => absurd (hiff.mpr q.symm) Bool.false_ne_true), notlt] at hR
      have hri := rcLe_int A.in1 ⟨hp, g, d, tk, os⟩ a t c u prog w
      wp_walk using hri
      exact ⟨_, rfl, by simpa using hR⟩
  case fin =>
   rintro ⟨b1, b2⟩ s' ⟨hb', rfl, vs, ws, ns', ms', hz, hvi, hwi, hlen, hR⟩
   simp only at hb'
   subst hb'
   have hv : (!lexLt ms' ns') = decide (items.size ≤ items2.size) := by
    cases hvi with
    | nil =>
     cases hwi with
     | nil =>
      simp only [List.length_nil] at hlen
      rw [lexLt_nil_nil]
      exact (decide_eq_true (by omega)).symm
     | cons c u hw =>
      simp only [List.length_nil, List.length_cons] at hlen
      rw [lexLt_cons_nil]
      exact (decide_eq_true (by omega)).symm
    | cons a t hv =>
     cases hwi with
     | nil =>
      simp only [List.length_nil, List.length_cons] at hlen
      rw [lexLt_nil_cons]
      exact (decide_eq_false (by omega)).symm
     | cons c u hw =>
      rw [List.zip_cons_cons] at hz
      cases hz
   rw [hv] at hR
   wp_walk
   exact ⟨_, rfl, by simpa [Builtin.Tuple.tupleCompareSizes] using hR⟩
  case h =>
   exact ⟨rfl, rfl, items.toList, items2.toList, ns, ms, rfl, hi, hj, by omega, h⟩
end
section
theorem le_tupInts (hl : IsTup s.heap l items) (hb : IsTup s.heap b items2) (hi : IntsAre items.toList ns) (hj : IntsAre items2.toList ms)
 (hu : A.units < cLine) (h : Q (.bool (!lexLt ms ns)) s) : wpAny (model prog w) A (compareOp .LtE (.ref l) (.ref b)) Q E s := by
 obtain ⟨⟨cls, dd, data, sl⟩, ho, hc, n, hd⟩ := id hl
 obtain ⟨⟨cls2, dd2, data2, sl2⟩, ho2, hc2, n2, hd2⟩ := id hb
 subst hc hd hc2 hd2
 exact richCompare_meets_room (op := .LtE) ⟨_, ho, rfl⟩ ⟨_, ho2, rfl⟩ PySem.F.slot_tuple_le PySem.F.entry_tuple_le (PySem.F.args_tuple_le_2 _ _) (tuple_le_ints l b items items2 n n2 dd dd2 sl sl2 ns ms hi hj)
  ⟨ho, ho2, ⟨(fun x => nomatch x), h⟩⟩ hu
end
end
open PySem PySem.Spec PySem.Calls PyProof.Rows L2
def rLeT (K : PySem.W.Frag) : R2 := fun x y H Q => ∃ a b ns ms, x = .ref a ∧ y = .ref b ∧ SqT K H a (ns.map V.int) ∧ SqT K H b (ms.map V.int) ∧ Q (.bl (!HT.lexLt ms ns)) H
def rLtT (K : PySem.W.Frag) : R2 := fun x y H Q => ∃ a b ns ms, x = .ref a ∧ y = .ref b ∧ SqT K H a (ns.map V.int) ∧ SqT K H b (ms.map V.int) ∧ Q (.bl (HT.lexLt ns ms)) H
section
variable {K : PySem.W.Frag}
theorem op_leT (hr : Room k X.A) : OpR X (compareOp .LtE) (rLeT X.K) := fun pins s σ H x y v u Q I rx ry h => by
 obtain ⟨a, b, ns, ms, rfl, rfl, h1, h2, q⟩ := h
 cases rx; cases ry
 obtain ⟨its, r1, p1, _⟩ := I.tuple h1
 obtain ⟨its2, r2, p2, _⟩ := I.tuple h2
 have hu : X.A.units < cLine := by have := hr.un; omega
 exact le_tupInts p1 p2 (intsAre_of r1) (intsAre_of r2) hu ⟨.bl _, H, I, rfl, q⟩
theorem op_ltT (hr : Room k X.A) : OpR X (compareOp .Lt) (rLtT X.K) := fun pins s σ H x y v u Q I rx ry h => by
 obtain ⟨a, b, ns, ms, rfl, rfl, h1, h2, q⟩ := h
 cases rx; cases ry
 obtain ⟨its, r1, p1, _⟩ := I.tuple h1
 obtain ⟨its2, r2, p2, _⟩ := I.tuple h2
 have hu : X.A.units < cLine := by have := hr.un; omega
 exact HT.lt_tupInts p1 p2 (intsAre_of r1) (intsAre_of r2) hu ⟨.bl _, H, I, rfl, q⟩
theorem c_leT (hK : X.K = K) (hr : Room k X.A) : JCop X .LtE (fun x y H Q => rI0 (fun i j => .bl (decide (i ≤ j))) x y H Q ∨ rLeT K x y H Q) := hK ▸ ⟨op_le.or (op_leT hr)⟩
theorem c_ltT (hK : X.K = K) (hr : Room k X.A) : JCop X .Lt (fun x y H Q => rI0 (fun i j => .bl (decide (i < j))) x y H Q ∨ rLtT K x y H Q) := hK ▸ ⟨op_lt.or (op_ltT hr)⟩
end
end Br
namespace Br
open PySem PySem.Spec PySem.Calls PyProof.Rows L2
section
def vv2 (ks : List (Int × Int)) : List (Key × V) := ks.map fun q => (.inl q.1, .int q.2)
end
def dlook : List (Int × Int) → Int → Option Int
 | [], _ => none
 | q :: ks, n => if q.1 = n then some q.2 else dlook ks n
theorem dlook_cons (q : Int × Int) (ks : List (Int × Int)) (n : Int) : dlook (q :: ks) n = if q.1 = n then some q.2 else dlook ks n := rfl
theorem val_vv2 : ∀ (ks : List (Int × Int)) (n : Int), valV (vv2 ks) (.inl n) = (dlook ks n).map V.int
 | [], _ => rfl
 | q :: ks, n => by
  by_cases e : q.1 = n
  · rw [show vv2 _ = ((Sum.inl q.1 : Key), V.int q.2) :: vv2 ks from rfl, valV_pos (by grind)]
    rw [dlook_cons, if_pos e]; rfl
  · rw [show vv2 _ = ((Sum.inl q.1 : Key), V.int q.2) :: vv2 ks from rfl, valV_neg (fun z => e (by simp_all)), val_vv2 ks n]
    rw [dlook_cons, if_neg e]
theorem dlook_none : ∀ {ks : List (Int × Int)} {n : Int}, n ∉ ks.map (·.1) → dlook ks n = none
 | [], _, _ => rfl
 | q :: ks, n, h => by
  rw [dlook_cons, if_neg (fun e => h (by rw [← e]; exact .head _)), dlook_none fun z => h (.tail _ z)]
theorem dlook_some : ∀ {ks : List (Int × Int)} {n c : Int}, dlook ks n = some c → (n, c) ∈ ks
 | q :: ks, n, c, h => by
  rw [dlook_cons] at h
  by_cases e : q.1 = n
  · grind
  · rw [if_neg e] at h; exact .tail _ (dlook_some h)
theorem dlook_mem (nd : (ks.map (·.1)).Nodup) (q : Int × Int) : q ∈ ks ↔ dlook ks q.1 = some q.2 := by
 refine ⟨fun h => ?_, fun h => dlook_some h⟩
 induction ks with
 | nil => cases h
 | cons r ks ih =>
  rw [List.map_cons, List.nodup_cons] at nd
  rw [dlook_cons]
  rcases List.mem_cons.mp h with z | z
  · simp_all
  · rw [if_neg (fun e => nd.1 (by rw [e]; exact List.mem_map.mpr ⟨q, z, rfl⟩))]
    simp_all
def dput (ks : List (Int × Int)) (n m : Int) : List (Int × Int) := if n ∈ ks.map (·.1) then ks.map (fun q => if q.1 = n then (q.1, m) else q) else ks ++ [(n, m)]
theorem vv2_keys (ks : List (Int × Int)) (n : Int) : ((vv2 ks).any fun p => decide (p.1 = (Sum.inl n : Key))) = decide (n ∈ ks.map (·.1)) := by
 induction ks with
 | nil => rfl
 | cons q ks ih =>
  show (decide ((Sum.inl q.1 : Key) = Sum.inl n) || (vv2 ks).any fun p => decide _) = _
  rw [ih]
  by_cases e : q.1 = n
  · rw [decide_eq_true (by rw [e]), decide_eq_true (show n ∈ (q :: ks).map _ by rw [← e]; exact .head _)]; rfl
  · rw [decide_eq_false (fun z => e (by injection z))]
    show decide _ = decide _
    by_cases h : n ∈ ks.map (·.1)
    · rw [decide_eq_true h, decide_eq_true (.tail _ h)]
    · rw [decide_eq_false h, decide_eq_false (fun z => by
       rcases List.mem_cons.mp z with z | z
       · grind
       · exact h z)]
theorem put_vv2 (ks : List (Int × Int)) (n m : Int) : putK (vv2 ks) (.inl n) (.int m) = vv2 (dput ks n m) := by
 unfold putK dput
 rw [vv2_keys]
 by_cases h : n ∈ ks.map (·.1)
 · rw [if_pos (decide_eq_true h), if_pos h]
   unfold vv2
   rw [List.map_map, List.map_map]
   refine List.map_congr_left fun q _ => ?_
   by_cases e : q.1 = n
   · simp [e]
   simp_all
 · rw [if_neg (fun z => h (of_decide_eq_true z)), if_neg h]
   unfold vv2
   simp
theorem dput_keys (ks : List (Int × Int)) (n m : Int) : (dput ks n m).map (·.1) = if n ∈ ks.map (·.1) then ks.map (·.1) else ks.map (·.1) ++ [n] := by
 unfold dput
 split
 · rw [List.map_map]
   refine List.map_congr_left fun q _ => ?_
   show (if q.1 = n then (q.1, m) else q).1 = q.1
   split <;> rfl
 simp
theorem dput_nodup (n m : Int) (nd : (ks.map (·.1)).Nodup) : ((dput ks n m).map (·.1)).Nodup := by
 rw [dput_keys]
 split
 · omega
 · rename_i h
   refine List.nodup_append.mpr ⟨nd, List.nodup_cons.mpr ⟨fun h => (nomatch h), List.nodup_nil⟩, fun a ha b hb => ?_⟩
   rw [List.mem_singleton.mp hb]
   exact fun e => h (by rw [← e]; omega)
theorem dput_len (ks : List (Int × Int)) (n m : Int) : (dput ks n m).length ≤ ks.length + 1 := by
 unfold dput
 split
 · simp
 simp
theorem dput_mem (h : q ∈ dput ks n m) : q ∈ ks ∨ q = (n, m) := by
 unfold dput at h
 split at h
 · obtain ⟨r, hr, rfl⟩ := List.mem_map.mp h
   by_cases e : r.1 = n
   · simp_all
   simp_all
 simp_all
theorem dlook_app : ∀ (ks : List (Int × Int)) (q : Int × Int) (j : Int), dlook (ks ++ [q]) j = match dlook ks j with | some c => some c | none => if q.1 = j then some q.2 else none
 | [], q, j => rfl
 | r :: ks, q, j => by
  rw [List.cons_append, dlook_cons, dlook_cons]
  by_cases e : r.1 = j
  · simp_all
  · rw [if_neg e, if_neg e]; exact dlook_app ks q j
theorem dput_look (ks : List (Int × Int)) (n m j : Int) : dlook (dput ks n m) j = if n = j then some m else dlook ks j := by
 unfold dput
 split
 · rename_i h
   induction ks with
   | nil => simp at h
   | cons q ks ih =>
    rw [List.map_cons, dlook_cons, dlook_cons]
    by_cases e : q.1 = n
    · rw [if_pos e]
      by_cases e2 : n = j
      · rw [if_pos (e.trans e2), if_pos e2]
      · rw [if_neg (fun z => e2 (e.symm.trans z)), if_neg e2, if_neg (fun z => e2 (e.symm.trans z))]
        by_cases h' : n ∈ ks.map (·.1)
        · rw [ih h', if_neg e2]
        · have : (ks.map fun q => if q.1 = n then (q.1, m) else q) = ks := by
           clear ih h
           induction ks with
           | nil => rfl
           | cons r ks ih2 =>
            rw [List.map_cons, if_neg (fun e => h' (by rw [← e]; exact .head _)), ih2 fun z => h' (.tail _ z)]
          rw [this]
    · rw [if_neg e]
      have h' : n ∈ ks.map (·.1) := by
       rcases List.mem_cons.mp h with z | z
       · exact absurd z.symm e
       · exact z
      by_cases e2 : q.1 = j
      · rw [if_pos e2, if_neg (fun z => e (e2.trans z.symm)), if_pos e2]
      · rw [if_neg e2, if_neg e2, ih h']
 · rename_i h
   rw [dlook_app]
   by_cases e : n = j
   · subst e
     rw [dlook_none h, if_pos rfl]
   · rw [if_neg e]
     cases dlook ks j <;> simp [e]
def rTupF (K : PySem.W.Frag) : List V → Hp → VK → Prop := fun xs H Q => ∃ p ys, xs = [.ref p] ∧ SqL K H p ys ∧ ∀ l o H2, H l = none → bareT o → L2.Same H H2 → H2 l = some (.frz o (.tup ys)) → Q (.ref l) H2
section
variable {K : PySem.W.Frag}
theorem call_tupF : CallR X (.type "tuple") (rTupF X.K) := by
 intro pins s σ H xs us Q I r h
 obtain ⟨p, ys, rfl, hq, q⟩ := h
 obtain ⟨u, rfl, rx⟩ := vals1 r
 cases rx
 obtain ⟨its, r', pl, hz⟩ := I.list hq
 have hlen := r'.length
 refine call_tuple_list pl.isList (fun h' kp => ?_) (by grind)
 have I1 := I.kept (t' := s.toks) kp
 have hf := I1.hok.fresh (Nat.le_refl h'.objs.size)
 have I2 : Inv X pins σ (upd H h'.objs.size (.frz { cls := .type "tuple", data := .seq its.toArray } (.tup ys))) { s with heap := h'.push { cls := .type "tuple", data := .seq its.toArray } } :=
  I1.laid (fun b o e => Heap.get?_push_of_some _ e) (Nat.le_refl _) ⟨Heap.get?_push_size _ rfl, hz, its, r', IsTup.new _ _⟩
 exact ⟨.ref h'.objs.size, _, I2, rfl, q _ _ _ hf ⟨_, _, rfl⟩ (Br.Same.upd hf) upd_same⟩
theorem k_tupleF (hg : Gl X x) (he : starEach (e :: es) X.env = (false, eval e X.env) :: starEach es X.env) (hpl : (backTo pos (starEach es X.env)).any (·.1) = false) (hK : X.K = K) (hx : x = "tuple") (hm : X.mg x = none) (ha : JA X (e :: es) t) :
 JE X (.Call (.Name x p) (e :: es) [] pos) (tCB (rTupF K) t) := hK ▸ ⟨by subst hx; exact pe_callTy call_tupF hg hm boot_tuple' ha.h (by decide) (by decide) he hpl⟩
end
mutual
inductive RepF (H : Hp) : V → PyData → Prop
 | non : RepF H .non .none
 | bl (b : Bool) : RepF H (.bl b) (.bool b)
 | int (i : Int) : RepF H (.int i) (.int i)
 | str (x : Str) : RepF H (.str x) (.str x)
 | tup {a : Addr} {xs : List V} {ds : List PyData} (h : Rd H a (.tup xs)) (r : RepsF H xs ds) : RepF H (.ref a) (.tuple ds)
 | lst {a : Addr} {xs : List V} {ds : List PyData} (h : H a = some (.lst xs)) (r : RepsF H xs ds) : RepF H (.ref a) (.list ds)
inductive RepsF (H : Hp) : List V → List PyData → Prop
 | nil : RepsF H [] []
 | cons {x : V} {xs : List V} {d : PyData} {ds : List PyData} (h : RepF H x d) (r : RepsF H xs ds) : RepsF H (x :: xs) (d :: ds)
end
structure Sm (dp wt : Nat) (d : PyData) : Prop where
 sh : d.showable = true
 lay : d.canLay0 = true
 lv : d.leavesShort 60 = true
 dep : d.depth ≤ dp
 wgt : d.weight ≤ wt
section
variable {K : PySem.W.Frag}
theorem s_swapIx (hK : X.K = K) (hc : X.calm = true)
 (h1 : (assignEach [.Subscript o b pos', .Subscript o' b' pos''] X.env).map (·.2) = assign (.Subscript o b pos') X.env :: (assignEach [.Subscript o' b' pos''] X.env).map (·.2))
 (h2 : (assignEach [.Subscript o' b' pos''] X.env).map (·.2) = assign (.Subscript o' b' pos'') X.env :: (assignEach [] X.env).map (·.2))
 (hn : (assignEach [.Subscript o b pos', .Subscript o' b' pos''] X.env).length = 2) (hst : (assignEach [.Subscript o b pos', .Subscript o' b' pos''] X.env).findIdx? (·.1) = none)
 (hs : swapsWithSole [.Tuple [.Subscript o b pos', .Subscript o' b' pos''] kt pt] e pos.line X.env = pure false) (hw : swappedStores [.Tuple [.Subscript o b pos', .Subscript o' b' pos''] kt pt] e X.env = pure none)
 (h3 : (assignEach [.Tuple [.Subscript o b pos', .Subscript o' b' pos''] kt pt] X.env).map (·.2) = [assign (.Tuple [.Subscript o b pos', .Subscript o' b' pos''] kt pt) X.env])
 (ha : ∀ v, assign (.Subscript o b pos') X.env v = (do
  let ov ← holding [v] (eval o X.env)
  let iv ← holding [v, ov] (eval b X.env)
  standAt pos'
  holding [v, ov, iv] (setItem ov iv v)
  release [v, ov, iv] []))
 (ha' : ∀ v, assign (.Subscript o' b' pos'') X.env v = (do
  let ov ← holding [v] (eval o' X.env)
  let iv ← holding [v, ov] (eval b' X.env)
  standAt pos''
  holding [v, ov, iv] (setItem ov iv v)
  release [v, ov, iv] [])) (he : JE X e te) (ho : JE X o to) (hi : JE X b tb) (ho' : JE X o' to') (hi' : JE X b' tb') :
 JS X (.Assign [.Tuple [.Subscript o b pos', .Subscript o' b' pos''] kt pt] e pos) (tAsg te (gTup K 2 (gCons (gSub to tb rSetL) (gCons (gSub to' tb' rSetL) gNil)))) :=
 hK ▸ ⟨ps_asg he.h (pg_tup hc (pgs_cons (pg_sub ho.h hi.h set_list ha) (pgs_cons (pg_sub ho'.h hi'.h set_list ha') pgs_nil h2) h1) hn hst) hs hw h3⟩
end
section
theorem sliceApplied_rev {sl : Addr} {vk : Value} {n : Nat} {Q : Int × Int × Nat → Shared → Prop} (hs : s.heap.IsSliceOf sl .none .none vk) (pk : IsPart vk (some (-1)))
 (h : Q ((n : Int) - 1, -1, n) s) : wpAny (model prog w) A (Builtin.Slice.sliceApplied (.ref sl) (pure (n : Int))) Q E s := by
 obtain ⟨os, hos, hcs, hds⟩ := id hs
 unfold Builtin.Slice.sliceApplied Builtin.Slice.sliceFields
 refine wpAny_bind (wpAny_bind (wpAny_field hos hds (x := .none) rfl (wpAny_bind (wpAny_field hos hds (x := .none) rfl (wpAny_bind (wpAny_field hos hds (x := vk) rfl (wpAny_pure ?_)))))))
 refine wpAny_bind (HT.slicePart_ pk ?_)
 show wpAny _ _ (if ((-1 : Int) == 0) = true then _ else _) _ _ s
 rw [if_neg (by decide)]
 refine wpAny_bind (HT.slicePart_ .none (wpAny_bind (HT.slicePart_ .none (wpAny_bind (wpAny_pure ?_)))))
 show wpAny _ _ (match Builtin.Slice.sliceAdjust none none (-1) (n : Int) with | (lo, hi) => pure (lo, (-1 : Int), Builtin.Slice.slicePlaces lo hi (-1))) _ _ s
 have e1 : Builtin.Slice.sliceAdjust none none (-1) (n : Int) = ((n : Int) - 1, -1) := by
  unfold Builtin.Slice.sliceAdjust
  simp
 have e2 : Builtin.Slice.slicePlaces ((n : Int) - 1) (-1) (-1) = n := by
  unfold Builtin.Slice.slicePlaces
  simp
  omega
 rw [e1]
 show wpAny _ _ (pure ((n : Int) - 1, (-1 : Int), Builtin.Slice.slicePlaces ((n : Int) - 1) (-1) (-1))) _ _ s
 rw [e2]
 exact wpAny_pure h
theorem fm_congr {α β : Type} {f g : α → Option β} : ∀ {l : List α}, (∀ x ∈ l, f x = g x) → l.filterMap f = l.filterMap g
 | [], _ => rfl
 | a :: l, h => by
  rw [List.filterMap_cons, List.filterMap_cons, h a (.head _), fm_congr fun x hx => h x (.tail _ hx)]
theorem pick_rev (xs : Array Value) : ((List.range xs.size).filterMap fun (m : Nat) => xs[(((xs.size : Nat) : Int) - 1 + (m : Int) * (-1)).toNat]?).toArray = xs.toList.reverse.toArray := by
 congr 1
 have e : (List.range xs.size).filterMap (fun (m : Nat) => xs[(((xs.size : Nat) : Int) - 1 + (m : Int) * (-1)).toNat]?) = ((List.range xs.size).map fun k => xs.size - 1 - k).filterMap (xs[·]?) := by
  rw [List.filterMap_map]
  refine fm_congr fun m hm => ?_
  have := List.mem_range.mp hm
  show xs[(((xs.size : Nat) : Int) - 1 + (m : Int) * (-1)).toNat]? = xs[xs.size - 1 - m]?
  rw [show (((xs.size : Nat) : Int) - 1 + (m : Int) * (-1)).toNat = xs.size - 1 - m by omega]
 rw [e, PySem.W.krv_range, List.filterMap_reverse, PySem.W.krv_all]
theorem getItem_tuple_rev {t sl : Addr} {items : Array Value} {vk : Value} {Q : Value → Shared → Prop} (ht : IsTup s.heap t items) (hs : s.heap.IsSliceOf sl .none .none vk) (pk : IsPart vk (some (-1)))
 (h : Q (.ref s.heap.objs.size) { s with heap := s.heap.push { cls := .type "tuple", data := .seq items.toList.reverse.toArray } })
 (hsz : items.size ≤ sizeLine) : wpAny (model prog w) A (getItem (.ref t) (.ref sl)) Q E s := by
 have htake : sizeOk (.seq items.toList.reverse.toArray) := by
  show items.toList.reverse.toArray.size ≤ sizeLine
  rw [List.size_toArray, List.length_reverse, Array.length_toList]
  omega
 obtain ⟨os, hos, hcs, hds⟩ := id hs
 have hTs : s.TypeIs (.ref sl) "slice" := ⟨os, hos, hcs⟩
 unfold getItem
 try with_reducible refine wpAny_holding ?_
 first | refine wpAny_bind (wpAny_pure ?_) | skip
 refine wpAny_bind (wpAny_sequenceKey ht.typeIs (by decide) ?_)
 refine wpAny_bind (wpAny_callSpecial?_slot (name := Str.ofString "__getitem__") ht.typeIs PyProof.Rows.slot_tuple_getitem
  (wpAny_call_entry PyProof.Rows.slot_tuple_getitem ht.typeIs entry_tuple_getitem ?_ (args_tuple_getitem _ _)))
 show wpAny _ _ (Builtin.Tuple.tupleItemsOf (.ref t) >>= _) _ _ s
 refine wpAny_bind (tupleItemsOf_ ht ?_)
 refine wpAny_bind (wpAny_typeOf hTs ?_)
 rw [if_pos (by decide)]
 refine wpAny_bind (sliceApplied_rev hs pk ?_)
 have hno : ¬ (((((items.size : Nat) : Int) - 1) == 0 && (-1 : Int) == 1 && items.size == items.size) = true) := by
  intro q
  rw [Bool.and_eq_true, Bool.and_eq_true] at q
  exact absurd q.1.2 (by decide)
 show wpAny _ _ (if ((((items.size : Nat) : Int) - 1) == 0 && (-1 : Int) == 1 && items.size == items.size) = true then _ else _) _ _ s
 rw [if_neg hno, pick_rev]
 first
  | exact wpAny_bind (m := Builtin.Tuple.tupleExact _) (wpAny_newObj_type (wpAny_pure ⟨_, rfl, wpAny_pure h⟩) htake)
  | exact wpAny_bind (m := Builtin.Tuple.tupleExact _) (wpAny_newObj_type (wpAny_bind (wpAny_pure (wpAny_pure ⟨_, rfl, wpAny_pure h⟩))) htake)
  | exact wpAny_bind (wpAny_bind (m := Builtin.Tuple.tupleExact _) (wpAny_newObj_type (wpAny_pure (wpAny_pure ⟨_, rfl, wpAny_pure h⟩)) htake))
  | exact wpAny_bind (wpAny_bind (m := Builtin.Tuple.tupleExact _) (wpAny_newObj_type (wpAny_pure ⟨_, rfl, wpAny_pure h⟩) htake))
end
section
variable {K : PySem.W.Frag} {e st : Expr}
theorem vals_rev : ∀ {xs : List V} {us : List Value}, Vals xs us → Vals xs.reverse us.reverse := fun {xs us} r => by
 induction r with
 | nil => exact .nil
 | cons h t ih => rw [List.reverse_cons, List.reverse_cons]; exact ih.append (.cons h .nil)
def tRevT (K : PySem.W.Frag) (te ts : TE) : TE := fun σ H Q => te σ H fun x H1 => ts σ H1 fun y H2 => ∃ a xs, x = .ref a ∧ y = .int (-1) ∧ SqT K H2 a xs ∧ ∀ p H3, H2 p = none → L2.Same H2 H3 → H3 p = some (.tup xs.reverse) → Q (.ref p) H3
theorem pe_revT (he : PE X e te) (hst : PE X st ts) : PE X (.Subscript e (.Slice none none (some st) p2) pos) (tRevT X.K te ts) := by
 intro pins s σ H Q I h
 refine Subscript_ (thn (he pins s σ H _ I h) fun v s1 ⟨x, H1, I1, r1, q1⟩ => ?_)
 refine wpAny_Slice ?_
 rw [evalPart_none]
 refine wpAny_pure ?_
 refine wpAny_pure ?_
 rw [evalPart_some]
 refine thn (hst pins s1 σ H1 _ I1 q1) fun vk s3 ⟨y, H3, I3, ry, q3⟩ => ?_
 obtain ⟨a, xs, rfl, rfl, hx, q⟩ := q3
 obtain ⟨t, rfl⟩ := ry
 cases r1
 have I4 : Inv X pins σ H3 { s3 with heap := s3.heap.push { cls := .type "slice", data := .fields #[.none, .none, .int (-1) t] } } := I3.kept (t' := s3.toks) fun b ob q => Heap.get?_push_of_some _ q
 show wpAny (model X.prog X.w) X.A (subscriptTail e (.Slice none none (some st) p2) (.ref a) (.ref s3.heap.objs.size)) (EP X pins σ Q) X.xe { s3 with heap := s3.heap.push { cls := .type "slice", data := .fields #[.none, .none, .int (-1) t] } }
 obtain ⟨its, r, ht, hz⟩ := I4.tuple hx
 have hlen : its.toArray.size = xs.length := by rw [List.size_toArray]; exact r.length.symm
 refine tail_any (ops := [.ref a, .ref s3.heap.objs.size]) ht.typeIs PyProof.Rows.slot_tuple_getitem.lookup ?_ (by with_unfolding_all rfl)
 refine getItem_tuple_rev ht (Heap.IsSliceOf.new ..) (.int (-1) t) ?_ (by rw [hlen]; exact hz)
 generalize hs4 : ({ s3 with heap := s3.heap.push { cls := .type "slice", data := .fields #[.none, .none, .int (-1) t] } } : Shared) = s4 at I4 ht
 have hf : H3 s4.heap.objs.size = none := I4.hok.fresh (Nat.le_refl _)
 refine ⟨.ref s4.heap.objs.size, upd H3 s4.heap.objs.size (.tup xs.reverse), I4.laid (t' := s4.toks) (o := .tup xs.reverse) (fun b ob q => Heap.get?_push_of_some _ q) (Nat.le_refl _) ?_, rfl, q _ _ hf (Br.Same.upd hf) upd_same⟩
 exact ⟨by rw [List.length_reverse]; exact hz, _, vals_rev r, IsTup.new _ _⟩
theorem k_revT (hK : X.K = K) (he : JE X e te) (hst : JE X st ts) : JE X (.Subscript e (.Slice none none (some st) p2) pos) (tRevT K te ts) := hK ▸ ⟨pe_revT he.h hst.h⟩
end
end Br
namespace Br
open PySem PySem.Spec PySem.Calls PyProof.Rows L2 HT
section
theorem getItem_tuple_all {t sl : Addr} {items : Array Value} {vl vu : Value} {lo hi : Option Int} {Q : Value → Shared → Prop} (ht : IsTup s.heap t items) (hs : s.heap.IsSliceOf sl vl vu .none) (pl : IsPart vl lo) (pu : IsPart vu hi)
 (hw : HT.sIx items.size 0 lo = 0 ∧ HT.sIx items.size items.size hi = items.size)
 (h : Q (.ref t) s) : wpAny (model prog w) A (getItem (.ref t) (.ref sl)) Q E s := by
 obtain ⟨os, hos, hcs, hds⟩ := id hs
 have hTs : s.TypeIs (.ref sl) "slice" := ⟨os, hos, hcs⟩
 unfold getItem
 try with_reducible refine wpAny_holding ?_
 first | refine wpAny_bind (wpAny_pure ?_) | skip
 refine wpAny_bind (wpAny_sequenceKey ht.typeIs (by decide) ?_)
 refine wpAny_bind (wpAny_callSpecial?_slot (name := Str.ofString "__getitem__") ht.typeIs PyProof.Rows.slot_tuple_getitem
  (wpAny_call_entry PyProof.Rows.slot_tuple_getitem ht.typeIs entry_tuple_getitem ?_ (args_tuple_getitem _ _)))
 show wpAny _ _ (Builtin.Tuple.tupleItemsOf (.ref t) >>= _) _ _ s
 refine wpAny_bind (tupleItemsOf_ ht ?_)
 refine wpAny_bind (wpAny_typeOf hTs ?_)
 rw [if_pos (by decide)]
 refine wpAny_bind (sliceApplied_gen hs pl pu ?_)
 have hno : (((HT.sIx items.size 0 lo : Nat) : Int) == 0 && (1 : Int) == 1 && (HT.sIx items.size items.size hi - HT.sIx items.size 0 lo) == items.size) = true := by
  rw [hw.1, hw.2]; simp
 show wpAny _ _ (if (((HT.sIx items.size 0 lo : Nat) : Int) == 0 && (1 : Int) == 1 && (HT.sIx items.size items.size hi - HT.sIx items.size 0 lo) == items.size) = true then _ else _) _ _ s
 rw [if_pos hno]
 refine wpAny_bind ?_
 unfold Builtin.Tuple.tupleIsExact
 refine wpAny_bind (wpAny_typeOf ht.typeIs (wpAny_pure ?_))
 rw [if_pos (by decide)]
 refine wpAny_bind (wpAny_rule ?_)
 first
  | exact wpAny_pure ⟨_, rfl, wpAny_pure h⟩
  | exact wpAny_pure (wpAny_pure ⟨_, rfl, wpAny_pure h⟩)
  | exact wpAny_bind (wpAny_pure (wpAny_pure ⟨_, rfl, wpAny_pure h⟩))
end
section
variable {K : PySem.W.Frag}
def rSlW (K : PySem.W.Frag) : V → Option Int → Option Int → Hp → VK → Prop := fun x lo hi H Q => ∃ a xs, x = .ref a ∧ SqT K H a xs ∧ ((HT.sIx xs.length 0 lo = 0 ∧ HT.sIx xs.length xs.length hi = xs.length) → Q (.ref a) H) ∧
 (¬ (HT.sIx xs.length 0 lo = 0 ∧ HT.sIx xs.length xs.length hi = xs.length) → ∀ p H2, H p = none → L2.Same H H2 → H2 p = some (.tup (cutV xs lo hi)) → Q (.ref p) H2)
theorem sl_W : SlR X (rSlW X.K) := by
 intro pins s σ H x v vl vu lo hi sl Q I rx hs pl pu h
 obtain ⟨a, xs, rfl, hx, q1, q2⟩ := h
 by_cases hw : HT.sIx xs.length 0 lo = 0 ∧ HT.sIx xs.length xs.length hi = xs.length
 · cases rx
   obtain ⟨its, r, ht, hz⟩ := I.tuple hx
   have hlen : its.toArray.size = xs.length := by rw [List.size_toArray]; exact r.length.symm
   exact ⟨"tuple", _, PyProof.Rows.slot_tuple_getitem.lookup, ht.typeIs, getItem_tuple_all ht hs pl pu (by rw [hlen]; exact hw) ⟨.ref a, H, I, rfl, q1 hw⟩⟩
 · exact sl_tup pins s σ H _ v vl vu lo hi sl Q I rx hs pl pu ⟨a, xs, rfl, hx, hw, fun p hp => q2 hw p _ hp (Br.Same.upd hp) upd_same⟩
theorem k_slW (hK : X.K = K) {lo hi : Option Expr} {tl th : TO} (he : JE X e te) (hl : JO X lo tl) (hu : JO X hi th) : JE X (.Subscript e (.Slice lo hi none p2) pos) (tSl (rSlW K) te tl th) := hK ▸ ⟨pe_slice sl_W he.h hl.h hu.h⟩
end
end Br
namespace Br
namespace DZ
open PySem PySem.Spec PySem.Calls PyProof.Rows L2 Br.ZM
end DZ
namespace DZ
open PySem PySem.Spec PySem.Calls PyProof.Rows L2
end DZ
end Br
namespace Br
open PySem PySem.Spec PySem.Calls PyProof.Rows L2
end Br
namespace Br
namespace ZL
open PySem PySem.Spec PySem.Calls PyProof.Rows L2
end ZL
end Br
namespace Br
open PySem PySem.Spec PyProof.Rows L2
end Br
namespace Br
open PySem PySem.Spec PySem.Calls PyProof.Rows L2
def EntAt (h : Heap) (d : Addr) (es : Array DictEntry) (ep : Nat) : Prop := ∃ o, h.get? d = some o ∧ o.ExactDict ∧ o.data = .dict es ep
theorem EntAt.at' (x : EntAt h d es ep) (e : ∀ o, h.get? d = some o → h'.get? d = some o) : EntAt h' d es ep := let ⟨o, ho, r⟩ := x; ⟨o, e _ ho, r⟩
theorem EntAt.lt (x : EntAt h d es ep) : d < h.objs.size := let ⟨_, ho, _⟩ := x; Heap.lt_size ho
theorem EntAt.ty {s : Shared} (x : EntAt s.heap d es ep) : s.TypeIs (.ref d) "dict" := let ⟨o, ho, hc, _⟩ := x; ⟨o, ho, hc.1⟩
section
theorem ent_iter (hd : (d == sysModules) = false) (hm : EntAt s.heap d es ep)
 (hQ : Q (.ref s.heap.objs.size) { s with heap := s.heap.push { cls := .type "dict_keyiterator", data := .fields #[.ref d, .int 0 0, .int es.size 0, .int ep 0] } }) : wpAny (model prog w) A (pyIter (.ref d)) Q E s := by
 obtain ⟨o, g1, g2, g3⟩ := id hm
 have hty := hm.ty
 refine wpAny_pyIter_slot hty F.slot_dict_iter (wpAny_call_entry F.slot_dict_iter hty F.entry_dict_iter ?_ (F.args_dict_iter_1 _))
 wp_walk using wpAny_notOrdered_dict hty, wpAny_dictEntries g1 g3, wpAny_dictEpoch g1 g3
 exact ⟨_, rfl, "dict_keyiterator", _, ⟨_, Heap.get?_push_size _ rfl, rfl⟩, F.slot_dict_keyiterator_next.lookup, hQ⟩
theorem ent_item {Q : Option Value → Shared → Prop} (hit : s.heap.IsKeyIter it d i es.size ep) (hm : EntAt s.heap d es ep) (hlt : i < es.size)
 (hQ : ∀ h', h'.IsKeyIter it d (i + 1) es.size ep → Heap.SameBut it s.heap h' → Q (some es[i].key) { s with heap := h' }) : wpAny (model prog w) A (pyNext (.ref it)) Q E s := by
 obtain ⟨⟨cls, dd, dt, sl⟩, h1, h2, h3⟩ := id hit
 simp only at h2 h3
 subst h2 h3
 obtain ⟨od, g1, g2, g3⟩ := id hm
 have hT := hit.typeIs
 refine wpAny_bind (wpAny_attempt (wpAny_callSpecial?_slot hT F.slot_dict_keyiterator_next (wpAny_call_entry F.slot_dict_keyiterator_next hT F.entry_dict_keyiterator_next ?_ (F.args_dict_keyiterator_next_1 _))))
 wp_walk using wpAny_typeNameOfWhole_keyiter hT, wpAny_fieldsOf h1 rfl, wpAny_dictEntries g1 g3, wpAny_dictEpoch g1 g3, wpAny_isOneOf_keyiter hT
 rw [show (if (i : Int) < 0 then none else es[(i : Int).toNat]?) = some es[i] by rw [if_neg (by omega)]; simpa using hlt]
 wp_walk using wpAny_typeNameOfWhole_keyiter hT, wpAny_isOneOf_keyiter hT
 exact ⟨_, rfl, wpAny_pure (hQ _ ⟨_, Heap.get?_update_self _ h1 rfl, rfl, rfl⟩ (Heap.SameBut.update ..))⟩
theorem ent_end {Q : Option Value → Shared → Prop} (hh : A.handled = none) (hit : s.heap.IsKeyIter it d i es.size ep) (hm : EntAt s.heap d es ep) (hge : es.size ≤ i) (hQ : ∀ h', Heap.ExtBut it s.heap h' → Q none { s with heap := h' }) : wpAny (model prog w) A (pyNext (.ref it)) Q E s := by
 obtain ⟨⟨cls, dd, dt, sl⟩, h1, h2, h3⟩ := id hit
 simp only at h2 h3
 subst h2 h3
 obtain ⟨od, g1, g2, g3⟩ := id hm
 have hT := hit.typeIs
 refine wpAny_bind (wpAny_attempt (wpAny_callSpecial?_slot hT F.slot_dict_keyiterator_next (wpAny_call_entry F.slot_dict_keyiterator_next hT F.entry_dict_keyiterator_next ?_ (F.args_dict_keyiterator_next_1 _))))
 wp_walk using wpAny_typeNameOfWhole_keyiter hT, wpAny_fieldsOf h1 rfl, wpAny_dictEntries g1 g3, wpAny_dictEpoch g1 g3, wpAny_isOneOf_keyiter hT
 rw [show (if (i : Int) < 0 then none else es[(i : Int).toNat]?) = none by rw [if_neg (by omega)]; simpa using hge]
 wp_walk using wpAny_typeNameOfWhole_keyiter hT, wpAny_isOneOf_keyiter hT
 refine wpAny_raiseNew_none hh (wpAny_bind (wpAny_isInstance (b := true) ⟨_, Heap.get?_push_size _ rfl, rfl⟩ isSubtype_stop (wpAny_pure (hQ _ fun b o hb e => ?_))))
 exact Heap.get?_push_of_some _ (Heap.get?_push_of_some _ (by rw [Heap.get?_update_other _ _ hb.symm]; exact e))
theorem ent_walks (hh : A.handled = none) (I d : Addr) (hne : d ≠ I) (es : Array DictEntry) (ep : Nat) :
 Walks prog w A I [I, d] [I] es.size (fun i v => ∃ e, es[i]? = some e ∧ v = e.key) (fun i h => h.IsKeyIter I d i es.size ep ∧ EntAt h d es ep) where
 sub := fun b hb => by simp_all
 frame := fun _ _ _ ⟨x, y⟩ hk => ⟨x.at fun o e => hk I (by simp) o e, y.at' fun o e => hk d (by simp) o e⟩
 item := fun i t Q E hi st hQ => by
  refine ent_item st.1 st.2 hi fun h' hit' hs' => ?_
  exact hQ _ h' t.toks ⟨es[i], Array.getElem?_eq_getElem hi, rfl⟩ ⟨hit', st.2.at' fun o e => hs'.extBut d o hne e⟩ fun b o hb e => hs'.extBut b o (fun h => hb (by simp [h])) e
 done := fun s Q E st hQ => ent_end hh st.1 st.2 (Nat.le_refl _) fun h' he' => hQ h' s.toks fun b o hb e => he' b o (fun h => hb (by simp [h])) e
 self := fun _ _ _ _ ⟨x, _⟩ hQ => wpAny_pyIter_keyiter x hQ
theorem ent_src (lo : (d == sysModules) = false) : PySem.W.KdlSrc prog w "dict" d d es.size (fun i v => ∃ e, es[i]? = some e ∧ v = e.key) (fun h => EntAt h d es ep) where
 type := fun _ hm => hm.ty
 there := fun _ hm => ⟨hm.lt, hm.lt⟩
 keep := fun _ _ x hk => x.at' fun o e => hk d (.inl rfl) o e
 notList := by decide
 notTuple := by decide
 hint := fun _ _ _ _ hm hq => PySem.W.kdl_hint_dict hm.ty hq
 iter := fun _ _ hh hm => ⟨_, _, (fun _ _ hq => ent_iter lo hm hq), ent_walks hh _ d (Nat.ne_of_lt hm.lt) es ep, ⟨⟨_, Heap.get?_push_size _ rfl, rfl, rfl⟩, hm.at' fun o e => Heap.get?_push_of_some _ e⟩⟩
end
theorem paired_get : ∀ {l₁ : List α} {l₂ : List β}, Paired F l₁ l₂ → ∀ {i : Nat} {a : α}, l₁[i]? = some a → ∃ b, l₂[i]? = some b ∧ F a b
 | _, _, .nil, i, a, e => by simp_all
 | _, _, .cons r t, i, a, e => by
  cases i with
  | zero => simp_all
  | succ i =>
   obtain ⟨b, h1, h2⟩ := paired_get t (by assumption)
   simp_all
def pLt (x y : List Int × Int) : Bool := if x.1 = y.1 then decide (x.2 < y.2) else HT.lexLt x.1 y.1
theorem pLt_irr (x : List Int × Int) : pLt x x = false := by unfold pLt; simp
theorem pLt_asy (h : pLt x y = true) : pLt y x = false := by
 unfold pLt at h ⊢
 by_cases e : x.1 = y.1
 · rw [if_pos e] at h; rw [if_pos e.symm]; grind
 · rw [if_neg e] at h; rw [if_neg (Ne.symm e)]; exact lexLt_asy h
theorem lexLt_ntr (h1 : HT.lexLt b a = false) (h2 : HT.lexLt c b = false) : HT.lexLt c a = false := by
 cases e : HT.lexLt c a with
 | false => rfl
 | true =>
  rcases lexLt_total a b with h | h | h
  · have := lexLt_tr e h; simp_all
  · grind
  grind
theorem pLt_ntr (h1 : pLt b a = false) (h2 : pLt c b = false) : pLt c a = false := by
 unfold pLt at h1 h2 ⊢
 by_cases e1 : b.1 = a.1
 · rw [if_pos e1] at h1
   have h1 := of_decide_eq_false h1
   by_cases e2 : c.1 = b.1
   · rw [if_pos e2] at h2
     have h2 := of_decide_eq_false h2
     rw [if_pos (e2.trans e1)]
     exact decide_eq_false (by omega)
   simp_all
 · rw [if_neg e1] at h1
   by_cases e2 : c.1 = b.1
   · simp_all
   · rw [if_neg e2] at h2
     by_cases e3 : c.1 = a.1
     · rcases lexLt_total a.1 b.1 with h | h | h
       · rw [← e3, h2] at h; cases h
       · exact absurd h.symm e1
       · rw [h1] at h; cases h
     · rw [if_neg e3]; exact lexLt_ntr h1 h2
def pkey (H : Hp) : Value → List Int × Int
 | .ref a => match H a with
  | some (.tup [.ref b, .int n]) => (tkey H (.ref b), n)
  | _ => ([], 0)
 | _ => ([], 0)
theorem pkey_of (h : H a = some (.tup [.ref b, .int n])) (hb : H b = some (.tup (w.map V.int))) : pkey H (.ref a) = (w, n) := by
 show (match H a with | some (.tup [.ref b, .int n]) => (tkey H _, n) | _ => ([], 0)) = _
 rw [h]
 show (tkey H _, n) = _
 rw [tkey_of hb]
theorem ord_pair (key : Keyed → List Int × Int) : Tim.Ord fun x y => pLt (key x) (key y) := ⟨fun a => pLt_irr _, fun a b h => pLt_asy h, fun a b c h1 h2 => pLt_ntr h1 h2⟩
end Br
namespace Br
def upD (t b : Int) : Int := -(-t / b)
def mostN (need s m : Int) (zs : List Int) : Int := min m (upD (need - zs.sum) s)
def tooLong (need s m more : Int) (rows : List (List Int)) : Prop := ∃ r ∈ rows, r.sum < need ∧ need ≤ r.sum + more ∧ 60 < (r.length : Int) + mostN need s m r
instance (need s m more : Int) (rows : List (List Int)) : Decidable (tooLong need s m more rows) := by unfold tooLong; exact inferInstance
end Br
namespace Br
open PySem PySem.Spec PySem.Calls PyProof.Rows L2
section
theorem s_augSub {i : Nat} {x : Str} {e : Expr} {te : TE} {pos pos' : Pos} (hi : At X.N i x) (hN : X.N.Nodup) (hx : Loc X.env.scope x) (hf : X.fn x = true) (he : JE X e te) : JS X (.AugAssign (.Name x pos') .Sub e pos) (tAug i te (ipI fun i j => i - j)) :=
 ⟨ps_aug hN hi.get hx he.h ip_sub (.inl hf)⟩
theorem o_addC : JOp X .Add (fun x y H Q => rI0 (fun i j => .int (i + j)) x y H Q ∨ rCatS x y H Q ∨ rCatTB x y H Q) := ⟨op_add.or (op_catS.or op_catTB)⟩
end
def PrsAt (H : Hp) (as : List Addr) (qs : List (List Int × Int)) : Prop := as.length = qs.length ∧ ∀ (i : Nat) (a : Addr), as[i]? = some a → ∃ (q : List Int × Int) (c : Addr), qs[i]? = some q ∧ H a = some (.tup [.ref c, .int q.2]) ∧ H c = some (.tup (q.1.map V.int))
section
theorem prs_pick {H : Hp} : ∀ {as : List Addr} {ks : List (List Int × Int)}, PrsAt H as ks → ∃ cs : List Addr, cs.length = ks.length ∧ ∀ (i : Nat) (a c : Addr) (q : List Int × Int), as[i]? = some a → cs[i]? = some c → ks[i]? = some q → H a = some (.tup [.ref c, .int q.2]) ∧ H c = some (.tup (q.1.map V.int))
 | [], [], _ => ⟨[], rfl, fun i a c q h => by cases h⟩
 | [], _ :: _, h => by have := h.1; simp at this
 | _ :: _, [], h => by simp
 | a :: as, q :: ks, h => by
  obtain ⟨cs, h1, h2⟩ := prs_pick (as := as) (ks := ks) ⟨by have := h.1; simpa using this, fun i a h' => h.2 (i + 1) a h'⟩
  obtain ⟨q', c, e1, e2, e3⟩ := h.2 0 a rfl
  cases e1
  refine ⟨c :: cs, by simp; omega, fun i a' c' q' x1 x2 x3 => ?_⟩
  cases i with
  | zero => grind
  | succ i => exact h2 i a' c' q' x1 x2 x3
end
end Br
namespace Br
open PySem PySem.Spec PyProof.Rows L2
end Br
namespace Br
open PySem PySem.Spec PySem.Calls PyProof.Rows L2
def vT (ks : List (List Int × Int)) : List (List Key × V) := ks.map fun q => (q.1.map Sum.inl, V.int q.2)
theorem inl_inj {a b : List Int} (h : (a.map Sum.inl : List Key) = b.map Sum.inl) : a = b := (List.map_inj_right fun _ _ h => Sum.inl.inj h).mp h
theorem kV_inl (u : List Int) : ((u.map Sum.inl : List Key).map kV) = u.map V.int := by rw [List.map_map]; rfl
def tlook : List (List Int × Int) → List Int → Option Int
 | [], _ => none
 | q :: ks, n => if q.1 = n then some q.2 else tlook ks n
def tput : List (List Int × Int) → List Int → Int → List (List Int × Int)
 | [], n, m => [(n, m)]
 | q :: ks, n, m => if q.1 = n then (n, m) :: ks else q :: tput ks n m
theorem val_vT : ∀ (ks : List (List Int × Int)) (n : List Int), valV (vT ks) (n.map Sum.inl) = (tlook ks n).map V.int
 | [], _ => rfl
 | q :: ks, n => by
  have e0 : vT (q :: ks) = ((q.1.map Sum.inl : List Key), V.int q.2) :: vT ks := rfl
  by_cases e : q.1 = n
  · rw [e0, valV_pos (by rw [e])]
    show _ = Option.map V.int (if q.1 = n then some q.2 else tlook ks n)
    simp_all
  · rw [e0, valV_neg (fun z => e (inl_inj z)), val_vT ks n]
    show _ = Option.map V.int (if q.1 = n then some q.2 else tlook ks n)
    simp_all
theorem vT_keys (ks : List (List Int × Int)) (n : List Int) : ((vT ks).any fun p => decide (p.1 = (n.map Sum.inl : List Key))) = decide (n ∈ ks.map (·.1)) := by
 induction ks with
 | nil => rfl
 | cons q ks ih =>
  show (decide ((q.1.map Sum.inl : List Key) = n.map Sum.inl) || (vT ks).any fun p => decide _) = _
  rw [ih]
  by_cases e : q.1 = n
  · rw [decide_eq_true (by rw [e]), decide_eq_true (show n ∈ (q :: ks).map _ by rw [← e]; exact .head _)]; rfl
  · rw [decide_eq_false (fun z => e (inl_inj z))]
    show decide _ = decide _
    by_cases h : n ∈ ks.map (·.1)
    · rw [decide_eq_true h, decide_eq_true (.tail _ h)]
    · rw [decide_eq_false h, decide_eq_false (fun z => by
       rcases List.mem_cons.mp z with z | z
       · grind
       · exact h z)]
theorem tput_in : ∀ {ks : List (List Int × Int)} {n : List Int} (m : Int), (ks.map (·.1)).Nodup → n ∈ ks.map (·.1) → tput ks n m = ks.map fun q => if q.1 = n then (q.1, m) else q
 | q :: ks, n, m, nd, h => by
  rw [List.map_cons, List.nodup_cons] at nd
  show (if q.1 = n then (n, m) :: ks else q :: tput ks n m) = _
  by_cases e : q.1 = n
  · rw [if_pos e, List.map_cons, if_pos e, e]
    congr 1
    have hn : n ∉ ks.map (·.1) := by rw [← e]; exact nd.1
    clear nd h
    induction ks with
    | nil => rfl
    | cons r ks ih => rw [List.map_cons, if_neg (fun z => hn (by grind)), ← ih fun z => hn (.tail _ z)]
  · rw [if_neg e, List.map_cons, if_neg e]
    rcases List.mem_cons.mp h with z | z
    · simp_all
    · rw [tput_in m nd.2 z]
theorem tput_out : ∀ {ks : List (List Int × Int)} {n : List Int} (m : Int), n ∉ ks.map (·.1) → tput ks n m = ks ++ [(n, m)]
 | [], _, _, _ => rfl
 | q :: ks, n, m, h => by
  show (if q.1 = n then (n, m) :: ks else q :: tput ks n m) = _
  rw [if_neg (fun z => h (by rw [← z]; exact .head _)), tput_out m fun z => h (.tail _ z)]; rfl
theorem put_vT (n : List Int) (m : Int) (nd : (ks.map (·.1)).Nodup) : putK (vT ks) (n.map Sum.inl) (.int m) = vT (tput ks n m) := by
 unfold putK
 rw [vT_keys]
 by_cases h : n ∈ ks.map (·.1)
 · rw [if_pos (decide_eq_true h), tput_in m nd h]
   unfold vT
   rw [List.map_map, List.map_map]
   refine List.map_congr_left fun q _ => ?_
   by_cases e : q.1 = n
   · simp [e]
   · have h2 := fun z => e (inl_inj z)
     simp_all
 · rw [if_neg (fun z => h (of_decide_eq_true z)), tput_out m h]
   unfold vT
   simp
theorem tput_keys : ∀ (ks : List (List Int × Int)) (n : List Int) (m : Int), (tput ks n m).map (·.1) = if n ∈ ks.map (·.1) then ks.map (·.1) else ks.map (·.1) ++ [n]
 | [], n, m => by rfl
 | q :: ks, n, m => by
  show (if q.1 = n then (n, m) :: ks else q :: tput ks n m).map _ = _
  by_cases e : q.1 = n
  · rw [if_pos e, if_pos (by rw [← e]; exact .head _), List.map_cons, List.map_cons, e]
  · rw [if_neg e, List.map_cons, List.map_cons, tput_keys ks n m]
    grind
theorem tput_nodup (n : List Int) (m : Int) (nd : (ks.map (·.1)).Nodup) : ((tput ks n m).map (·.1)).Nodup := by
 rw [tput_keys]
 split
 · omega
 · rename_i h
   refine List.nodup_append.mpr ⟨nd, List.nodup_cons.mpr ⟨fun h => (nomatch h), List.nodup_nil⟩, fun a ha b hb => ?_⟩
   rw [List.mem_singleton.mp hb]
   exact fun e => h (by rw [← e]; omega)
theorem tput_len : ∀ (ks : List (List Int × Int)) (n : List Int) (m : Int), (tput ks n m).length ≤ ks.length + 1
 | [], n, m => by show 1 ≤ _; omega
 | q :: ks, n, m => by
  show (if q.1 = n then (n, m) :: ks else q :: tput ks n m).length ≤ _
  have := tput_len ks n m
  grind
theorem tput_mem : ∀ {ks : List (List Int × Int)} {n : List Int} {m : Int} {q : List Int × Int}, q ∈ tput ks n m → q ∈ ks ∨ q = (n, m)
 | [], n, m, q, h => .inr (List.mem_singleton.mp h)
 | r :: ks, n, m, q, h => by
  have h : q ∈ (if r.1 = n then (n, m) :: ks else r :: tput ks n m) := h
  by_cases e : r.1 = n
  · rw [if_pos e] at h
    rcases List.mem_cons.mp h with z | z
    · exact .inr z
    simp_all
  · rw [if_neg e] at h
    rcases List.mem_cons.mp h with z | z
    · simp_all
    · rcases tput_mem z with y | y
      · exact .inl (.tail _ y)
      · exact .inr y
theorem tlook_mem (nd : (ks.map (·.1)).Nodup) (h : q ∈ ks) : tlook ks q.1 = some q.2 := by
 induction ks with
 | nil => cases h
 | cons r ks ih =>
  rw [List.map_cons, List.nodup_cons] at nd
  show (if r.1 = q.1 then some r.2 else tlook ks q.1) = _
  rcases List.mem_cons.mp h with z | z
  · simp_all
  · rw [if_neg (fun e => nd.1 (by rw [e]; exact List.mem_map.mpr ⟨q, z, rfl⟩))]
    simp_all
def wsum (g : List Int → Int) (ks : List (List Int × Int)) : Int := (ks.map fun q => q.2 * g q.1).sum
theorem wsum_nil (g : List Int → Int) : wsum g [] = 0 := rfl
theorem wsum_cons (g : List Int → Int) (q : List Int × Int) (ks : List (List Int × Int)) : wsum g (q :: ks) = q.2 * g q.1 + wsum g ks := rfl
theorem wsum_append (g : List Int → Int) : ∀ (a b : List (List Int × Int)), wsum g (a ++ b) = wsum g a + wsum g b
 | [], b => by rw [List.nil_append, wsum_nil, Int.zero_add]
 | q :: a, b => by rw [List.cons_append, wsum_cons, wsum_cons, wsum_append g a b, Int.add_assoc]
def RisT (fs : List (List Int × Int)) : Prop := fs.Pairwise fun a b => HT.lexLt a.1 b.1 = true
theorem RisT.nodup (h : RisT fs) : (fs.map (·.1)).Nodup := by
 unfold List.Nodup
 rw [List.pairwise_map]
 exact h.imp fun {a b} z e => by rw [e, lexLt_irr] at z; grind
theorem risT_of {us : List (List Int)} (nd : us.Nodup) (h : us.Pairwise fun u v => HT.lexLt v u = false) : us.Pairwise fun u v => HT.lexLt u v = true := by
 refine (h.and nd).imp fun {a b} ⟨h1, h2⟩ => ?_
 rcases lexLt_total a b with z | z | z
 · omega
 · exact absurd z h2
 grind
theorem sort_keysT {us : List (List Int)} (nd : (ks.map (·.1)).Nodup) (hp : us.Perm (ks.map (·.1))) (hs : us.Pairwise fun u v => HT.lexLt v u = false) :
 RisT (us.map fun u => (u, (tlook ks u).getD 0)) ∧ (us.map fun u => (u, (tlook ks u).getD 0)).Perm ks := by
 refine ⟨?_, ?_⟩
 · unfold RisT
   rw [List.pairwise_map]
   exact risT_of (hp.nodup_iff.mpr nd) hs
 · have h := hp.map fun u => (u, (tlook ks u).getD 0)
   rw [List.map_map] at h
   refine h.trans ?_
   have e : List.map ((fun u => (u, (tlook ks u).getD 0)) ∘ fun x => x.1) ks = ks := by
    conv => rhs; rw [← List.map_id ks]
    refine List.map_congr_left fun q hq => ?_
    show (q.1, (tlook ks q.1).getD 0) = q
    rw [tlook_mem nd hq]; rfl
   rw [e]
def cntF (fs : List (List Int × Int)) (n : Int) : Int := wsum (fun l => ((l.count n : Nat) : Int)) fs
theorem cntF_append (a b : List (List Int × Int)) (n : Int) : cntF (a ++ b) n = cntF a n + cntF b n := wsum_append _ a b
theorem cntF_one (f : List Int × Int) (n : Int) : cntF [f] n = f.2 * ((f.1.count n : Nat) : Int) := by unfold cntF; rw [wsum_cons, wsum_nil, Int.add_zero]
end Br
namespace Br
namespace DK
open PySem PySem.Spec PySem.Calls PyProof.Rows L2
section
def Ks (prog : Program) (w : World) (h : Heap) (ps : List (Addr × List Key × Value)) : Prop := ∀ p ∈ ps, (tupleKind (mixKind prog w)).is h p.2.1 p.1
theorem Ks.keep (K : Ks prog w h ps) (kp : ∀ p ∈ ps, ∀ ob, h.get? p.1 = some ob → h'.get? p.1 = some ob) : Ks prog w h' ps := fun p hp => by
 obtain ⟨o, its, n, h1, h2⟩ := K p hp
 exact ⟨o, its, n, kp p hp o h1, h2⟩
def DO (h : Heap) (prog : Program) (w : World) (dd : Addr) (xs : List (List Key × Addr × Value)) : Prop :=
 ∃ o es ep, h.get? dd = some o ∧ o.ExactDict ∧ o.data = .dict es ep ∧ es.toList = xs.map (entryOfKey (tupleKind (mixKind prog w))) ∧ (xs.map (·.1)).Nodup
def Src (ps : List (Addr × List Key × Value)) (xs : List (List Key × Addr × Value)) : Prop := ∀ x ∈ xs, ∃ p ∈ ps, p.1 = x.2.1 ∧ p.2.1 = x.1
theorem Src.put (h : Src ps xs) (hp : p ∈ ps) : Src ps (storedH xs p.2.1 p.1 p.2.2) := fun x hx => by
 unfold storedH at hx
 split at hx
 · obtain ⟨y, hy, rfl⟩ := List.mem_map.mp hx
   obtain ⟨q, hq, e1, e2⟩ := h y hy
   refine ⟨q, hq, ?_, ?_⟩ <;> (unfold putAt; split <;> assumption)
 · rcases List.mem_append.mp hx with z | z
   · exact h x z
   · rw [List.mem_singleton.mp z]; exact ⟨p, hp, rfl, rfl⟩
theorem storedH_len (xs : List (List Key × Addr × Value)) (k : List Key) (a : Addr) (v : Value) : (storedH xs k a v).length ≤ xs.length + 1 := by
 unfold storedH; split
 · simp
 simp
end
def mergeT (kvs : List (List Key × V)) (qs : List (List Key × V)) : List (List Key × V) := qs.foldl (fun a q => putK a q.1 q.2) kvs
theorem mergeT_len : ∀ (qs kvs : List (List Key × V)), (mergeT kvs qs).length ≤ kvs.length + qs.length
 | [], kvs => Nat.le_refl _
 | q :: qs, kvs => by
  have h := mergeT_len qs (putK kvs q.1 q.2)
  have h2 := length_putK kvs q.1 q.2
  show (mergeT (putK kvs q.1 q.2) qs).length ≤ kvs.length + (qs.length + 1)
  omega
abbrev PK (H : Hp) : List (List Key × V) → List (Addr × List Key × Value) → Prop := Paired fun q p => q.1 = p.2.1 ∧ H p.1 = some (.tup (q.1.map kV)) ∧ RelV q.2 p.2.2
theorem PK.merge (r : PK H qs ps) : ∀ {kvs : List (List Key × V)} {xs : List (List Key × Addr × Value)}, KT H kvs xs → KT H (mergeT kvs qs) (ps.foldl (fun a p => storedH a p.2.1 p.1 p.2.2) xs) := by
 induction r with
 | nil => intro kvs xs h; exact h
 | @cons q p qs ps h t ih =>
  intro kvs xs k
  obtain ⟨h1, h2, h3⟩ := h
  show KT H _ (List.foldl _ (storedH xs p.2.1 p.1 p.2.2) ps)
  refine ih ?_
  rw [← h1]
  exact k.put q.1 h2 h3
theorem vals_refs : ∀ (as : List Addr) (l : List Value), Vals (as.map V.ref) l → l = as.map Value.ref
 | [], l, r => by cases r; rfl
 | a :: as, l, r => by
  cases r with
  | cons h t => rw [vals_refs as _ t, List.map_cons]; cases h; rfl
end DK
open PySem PySem.Spec PySem.Calls PyProof.Rows L2
section
abbrev PT := Addr × Addr × List Key × Value
structure PrT (h : Heap) (t : Addr) (ps : List PT) : Prop where
 tup : h.IsTuple t (ps.map fun p => Value.ref p.1).toArray
 each : ∀ p ∈ ps, h.IsTuple p.1 #[.ref p.2.1, p.2.2.2]
theorem PrT.up (P : PrT h t ps) {ok : Addr → Prop} (ht : ok t) (hp : ∀ p ∈ ps, ok p.1) (k : ∀ b o, ok b → h.get? b = some o → h'.get? b = some o) : PrT h' t ps :=
 ⟨let ⟨o, a, b⟩ := P.tup; ⟨o, k _ _ ht a, b⟩, fun p hq => let ⟨o, a, b⟩ := P.each p hq; ⟨o, k _ _ (hp p hq) a, b⟩⟩
theorem dulT (hh : A.handled = none) (hu : A.units + 1 < cLine) (ndc : d ≠ c) (nt : t ≠ d ∧ t ≠ c) (hpn : ∀ p ∈ ps, (p.1 ≠ d ∧ p.1 ≠ c) ∧ p.2.1 ≠ d ∧ p.2.1 ≠ c) (result : Value) :
 ∀ (m i : Nat) (s : Shared) (vs : List (List Key × Addr × Value)), ps.length - i = m → i ≤ ps.length → s.heap.IsTupleIter c t i → PrT s.heap t ps → DK.Ks prog w s.heap (ps.map (·.2)) → DK.Src (ps.map (·.2)) vs → DK.DO s.heap prog w d vs → vs.length + (ps.length - i) ≤ sizeLine →
 (∀ h' tk, DK.DO h' prog w d (((ps.map (·.2)).drop i).foldl (fun a p => storedH a p.2.1 p.1 p.2.2) vs) → (∀ b o, b ≠ d ∧ b ≠ c → s.heap.get? b = some o → h'.get? b = some o) → R (.ok (.ret result)) { s with heap := h', toks := tk }) →
 codeAny (model prog w) A (.builtin "dict.update.loop" ⟨[.ref d, .ref c, rawInt i, result], []⟩) R s := by
 intro m
 induction m with
 | zero =>
  intro i s vs hm hi st P K S D hl go
  obtain rfl : i = ps.length := by omega
  refine codeAny_builtin entry_dul ?_
  rw [Around.under_plainId plain_dul _]
  refine wpAny_bind (wpAny_pyNext_tuple_end (A := A.in1) hh st P.tup (by simp) fun h' eb => wpAny_bind (wpAny_pure (a := ()) (wpAny_pure (go h' _ ?_ fun b o hb q => eb b o hb.2 q))))
  rw [show (ps.map (·.2)).drop ps.length = [] by rw [← List.length_map (as := ps) (f := (·.2)), List.drop_length]]
  obtain ⟨o, es, ep, q, r⟩ := D
  exact ⟨o, es, ep, eb _ _ ndc q, r⟩
 | succ m ih =>
  intro i s vs hm hi st P K S D hl go
  have hlt : i < ps.length := by omega
  obtain ⟨p, hp⟩ : ∃ p, ps[i]? = some p := ⟨_, List.getElem?_eq_getElem hlt⟩
  have hpm := List.mem_of_getElem? hp
  have hpm2 : p.2 ∈ ps.map (·.2) := List.mem_map_of_mem hpm
  refine codeAny_builtin entry_dul ?_
  rw [Around.under_plainId plain_dul _]
  refine wpAny_bind (wpAny_pyNext_tuple_item st P.tup (x := .ref p.1) (by simp [hp]) fun h1 st1 sb1 => ?_)
  have k1 : ∀ b o, b ≠ d ∧ b ≠ c → s.heap.get? b = some o → h1.get? b = some o := fun b o hb q => (sb1.2 b hb.2).trans q
  have P1 := P.up (ok := fun b => b ≠ d ∧ b ≠ c) nt (fun q hq => (hpn q hq).1) k1
  have K1 : DK.Ks prog w h1 (ps.map (·.2)) := K.keep fun q hq ob e => by
   obtain ⟨x, hx, rfl⟩ := List.mem_map.mp hq
   exact k1 _ ob (hpn x hx).2 e
  have D1 : h1.DictOfH (tupleKind (mixKind prog w)) d vs := by
   obtain ⟨o', es, ep, q, r1, r2, r3, r4⟩ := D
   refine ⟨o', es, ep, (sb1.2 d ndc).trans q, r1, r2, r3, fun x hx => ?_, r4⟩
   obtain ⟨q, hq, e1, e2⟩ := S x hx
   rw [← e1, ← e2]; exact K1 q hq
  obtain ⟨op, hop, hcp, np, hdp⟩ := P1.each p hpm
  refine wpAny_bind (wpAny_holding (wpAny_bind (wpAny_tryCatch ?_)))
  unfold Builtin.Dict.pairItems
  refine wpAny_bind (wpAny_typeOf (T := "tuple") ⟨op, hop, hcp⟩ ?_)
  rw [if_pos (by decide)]
  refine wpAny_bind (wpAny_seqItems hop hdp (wpAny_pure ?_))
  show wpAny _ _ (holding [.ref p.2.1, p.2.2.2] (dictSet d (.ref p.2.1) p.2.2.2)) _ _ _
  refine wpAny_holding (wpAny_dictSet_heap (s := { s with heap := h1 }) (hsz := by omega) (tupleKind_room_in1 hu) (K1 p.2 hpm2) D1 fun h2 D2 sb2 => ?_)
  have ei : ((i : Int) + 1) = ((i + 1 : Nat) : Int) := by omega
  show wpAny _ _ (again (.builtin "dict.update.loop" ⟨[.ref d, .ref c, rawInt ((i : Int) + 1), result], []⟩)) _ _ _
  rw [ei]
  have hsl := DK.storedH_len vs p.2.2.1 p.2.1 p.2.2.2
  have k2 : ∀ b o, b ≠ d ∧ b ≠ c → s.heap.get? b = some o → h2.get? b = some o := fun b o hb q => (sb2.2 b hb.1).trans (k1 b o hb q)
  refine wpAny_pure ⟨plainId_quiet plain_dul _, ih (i + 1) _ _ (by omega) (by omega) ?_ (P.up (ok := fun b => b ≠ d ∧ b ≠ c) nt (fun q hq => (hpn q hq).1) k2) (K.keep fun q hq ob e => ?_) (S.put hpm2) ?_ (by omega) fun h' tk D' k' => ?_⟩
  · obtain ⟨o, q, r⟩ := st1
    exact ⟨o, (sb2.2 c (Ne.symm ndc)).trans q, r⟩
  · obtain ⟨x, hx, rfl⟩ := List.mem_map.mp hq
    exact k2 _ ob (hpn x hx).2 e
  · obtain ⟨o', es, ep, q, r1, r2, r3, _, r4⟩ := D2
    exact ⟨o', es, ep, q, r1, r2, r3, r4⟩
  · refine go h' tk ?_ fun b o hb q => k' b o hb (k2 b o hb q)
    have hg : (ps.map (·.2))[i]? = some p.2 := by rw [List.getElem?_map, hp]; rfl
    have hl2 : i < (ps.map (·.2)).length := by rw [List.length_map]; exact hlt
    have : (ps.map (·.2)).drop i = p.2 :: (ps.map (·.2)).drop (i + 1) := by
     rw [List.drop_eq_getElem_cons hl2]
     congr 1
     exact Option.some.inj ((List.getElem?_eq_getElem hl2).symm.trans hg)
    rw [this, List.foldl_cons]
    exact D'
theorem dictOfT (hh : A.handled = none) (hu : A.units + 3 < cLine) (ho : s.heap.get? t = some { cls := .type "tuple", data := .seq (ps.map fun p => Value.ref p.1).toArray n }) (P : PrT s.heap t ps)
 (hK : DK.Ks prog w s.heap (ps.map (·.2))) (hkl : ∀ p ∈ ps, p.2.1 < s.heap.objs.size) (hl : ps.length ≤ sizeLine)
 (go : ∀ h' tk, DK.DO h' prog w s.heap.objs.size ((ps.map (·.2)).foldl (fun a p => storedH a p.2.1 p.1 p.2.2) []) → (∀ b o, s.heap.get? b = some o → h'.get? b = some o) → Q (.ref s.heap.objs.size) { s with heap := h', toks := tk }) :
 wpAny (model prog w) A (call (.type "dict") [.ref t]) Q E s := by
 refine callType_codes F.kt_called_dict (F.kt_typeCall_dict_1 _) F.entry_dict_init (kt_code_dict_new (.ref t) (Q₁ := fun obj s1 => obj = .ref s.heap.objs.size ∧ s1 = { s with heap := s.heap.push { cls := .type "dict", data := .dict #[] } }) ⟨rfl, rfl⟩) fun obj s1 e => ?_
 obtain ⟨rfl, rfl⟩ := e
 have hd0 : (s.heap.push { cls := .type "dict", data := .dict #[] }).get? s.heap.objs.size = some _ := Heap.get?_push_size _ rfl
 refine ⟨⟨_, hd0, rfl⟩, F.args_dict_init_2 _ _, ?_⟩
 have k0 : ∀ b o, s.heap.get? b = some o → (s.heap.push { cls := .type "dict", data := .dict #[] }).get? b = some o := fun b o q => Heap.get?_push_of_some _ q
 show wpAny _ _ (Builtin.Dict.selfAndRest "__init__" _ >>= _) _ _ _
 unfold Builtin.Dict.selfAndRest Builtin.Dict.notOrdered
 refine wpAny_bind (wpAny_bind ?_)
 rw [if_pos (by decide)]
 refine wpAny_bind (wpAny_typeOf (T := "dict") ⟨_, hd0, rfl⟩ ?_)
 rw [if_neg (by decide)]
 refine wpAny_pure (wpAny_bind (wpAny_pure (wpAny_pure ?_)))
 show wpAny _ _ (Builtin.Dict.updateFrom "dict.__init__" s.heap.objs.size (.ref t) [] .none) _ _ _
 unfold Builtin.Dict.updateFrom
 refine wpAny_bind (wpAny_typeOf (T := "tuple") ⟨_, k0 _ _ ho, rfl⟩ ?_)
 rw [if_pos (by decide)]
 refine wpAny_bind (noKeys hh (k0 _ _ ho) fun h1 tk1 k1 => ?_)
 have hit : h1.IsTuple t (ps.map fun p => Value.ref p.1).toArray := ⟨_, k1 _ _ (k0 _ _ ho), rfl, n, rfl⟩
 refine wpAny_bind (wpAny_rule (wpAny_bind (wpAny_pyIter_tuple hit ?_)))
 have lt0 : s.heap.objs.size < h1.objs.size := Heap.lt_size (k1 _ _ hd0)
 have kk : ∀ b o, s.heap.get? b = some o → (h1.push { cls := .type "tuple_iterator", data := .fields #[.ref t, .int 0 0] }).get? b = some o := fun b o q => Heap.get?_push_of_some _ (k1 _ _ (k0 _ _ q))
 have far : ∀ b, b < s.heap.objs.size → b ≠ s.heap.objs.size ∧ b ≠ h1.objs.size := fun b hb => ⟨Nat.ne_of_lt hb, Nat.ne_of_lt (Nat.lt_trans hb lt0)⟩
 refine wpAny_pure ⟨plainId_quiet plain_dul _, dulT (A := A.in1) (c := h1.objs.size) (t := t) (ps := ps) (show A.in1.handled = none from hh) (show A.units + 1 + 1 < cLine by omega) (Nat.ne_of_lt lt0) (far _ (Heap.lt_size ho)) (fun p hp => ⟨far _ (let ⟨o, q, _⟩ := P.each p hp; Heap.lt_size q), far _ (hkl p hp)⟩) .none ps.length 0 _ [] (by omega) (by omega)
  ⟨_, Heap.get?_push_size _ rfl, rfl, rfl⟩ (P.up (ok := fun _ => True) trivial (fun _ _ => trivial) fun b o _ q => kk b o q) (hK.keep fun q _ ob e => kk _ _ e) (fun x hx => nomatch hx) ⟨_, #[], 0, Heap.get?_push_of_some _ (k1 _ _ hd0), ⟨rfl, rfl, rfl⟩, rfl, rfl, List.nodup_nil⟩ (by simpa using hl)
  fun h' tk D' k' => ⟨rfl, go h' tk (by rw [List.drop_zero] at D'; exact D') fun b o q => k' b o (far _ (Heap.lt_size q)) (kk b o q)⟩⟩
end
section
variable {σ : L2.St}
def PairsT (H : Hp) (t : Addr) (kvs : List (List Key × V)) : Prop := ∃ (o : Obj) (as bs : List Addr), bareT o ∧ H t = some (.frz o (.tup (as.map V.ref))) ∧ as.length = kvs.length ∧ bs.length = kvs.length ∧ kvs.length ≤ 1000 ∧ ∀ (i : Nat) a b kv, as[i]? = some a → bs[i]? = some b → kvs[i]? = some kv → H a = some (.tup [.ref b, kv.2]) ∧ H b = some (.tup (kv.1.map kV))
def rDictT : List V → Hp → VK → Prop := fun xs H Q => ∃ t kvs, xs = [.ref t] ∧ PairsT H t kvs ∧ ∀ p H2, H p = none → L2.Same H H2 → H2 p = some (.dT (DK.mergeT [] kvs)) → Q (.ref p) H2
theorem raw_T (I : Inv X pins σ H s) : ∀ (as bs : List Addr) (kvs : List (List Key × V)), as.length = kvs.length → bs.length = kvs.length → (∀ (i : Nat) a b kv, as[i]? = some a → bs[i]? = some b → kvs[i]? = some kv → H a = some (.tup [.ref b, kv.2]) ∧ H b = some (.tup (kv.1.map kV))) →
 ∃ ps : List PT, ps.map (fun p => Value.ref p.1) = as.map Value.ref ∧ (∀ p ∈ ps, s.heap.IsTuple p.1 #[.ref p.2.1, p.2.2.2]) ∧ (∀ p ∈ ps, p.2.1 < s.heap.objs.size) ∧ DK.PK H kvs (ps.map (·.2))
 | [], [], [], _, _, _ => ⟨[], rfl, fun p hp => (nomatch hp), fun p hp => (nomatch hp), .nil⟩
 | [], _ :: _, [], _, hl2, _ => by simp at hl2
 | _ :: _, _, [], hl, _, _ => by simp at hl
 | [], _, _ :: _, hl, _, _ => by simp at hl
 | _ :: _, [], _ :: _, _, hl2, _ => by simp at hl2
 | a :: as, b :: bs, kv :: kvs, hl, hl2, h => by
  obtain ⟨ps, e1, e2, e3, e4⟩ := raw_T I as bs kvs (by simpa using hl) (by simpa using hl2) fun i a b kv q1 q2 q3 => h (i + 1) a b kv (by simpa using q1) (by simpa using q2) (by simpa using q3)
  obtain ⟨ha, hb⟩ := h 0 a b kv rfl rfl rfl
  obtain ⟨its, rv, p, _⟩ := I.tuple (SqT.of ha)
  have hbl : b < s.heap.objs.size := by
   obtain ⟨_, _, _, o, q, _⟩ := (show ObjOk X.prog X.w H s.heap b (.tup (kv.1.map kV)) from I.hok b _ hb)
   exact Heap.lt_size q
  cases rv with
  | cons rk rr =>
   cases rr with
   | @cons _ vu _ _ rv rr =>
    cases rr
    cases rk
    refine ⟨(a, b, kv.1, vu) :: ps, by rw [List.map_cons, List.map_cons, e1], fun q hq => ?_, fun q hq => ?_, .cons ⟨rfl, hb, rv⟩ e4⟩
    · rcases List.mem_cons.mp hq with rfl | hq
      · exact p
      · exact e2 q hq
    · rcases List.mem_cons.mp hq with rfl | hq
      · exact hbl
      · exact e3 q hq
theorem call_dictT {k : Nat} (hr : Room k X.A) (hc : X.calm = true) : CallR X (.type "dict") rDictT := fun pins s σ H xs us Q I r h => by
 obtain ⟨t, kvs, rfl, ⟨o, as, bs, ⟨its, n, rfl⟩, ht, hl, hl2, hk, hp⟩, q⟩ := h
 obtain ⟨u, rfl, rx⟩ := vals1 r
 cases rx
 obtain ⟨ps, e1, e2, e3, pk⟩ := raw_T I as bs kvs hl hl2 hp
 have hsz : (sizeLine : Nat) = 16777216 := sizeLine_eq
 obtain ⟨g0, hz, its', rv, pt⟩ := (show ObjOk X.prog X.w H s.heap t (.frz { cls := .type "tuple", data := .seq its n } (.tup (as.map V.ref))) from I.hok t _ ht)
 have hits : its = its'.toArray := by
  obtain ⟨o2, h1, _, n2, h3⟩ := pt
  rw [g0] at h1; cases h1
  injection h3 with h3
 have hvr := DK.vals_refs as its' rv
 have hpl : ps.length = kvs.length := by have := congrArg List.length e1; rw [List.length_map, List.length_map] at this; omega
 have g1 : s.heap.get? t = some { cls := .type "tuple", data := .seq (ps.map fun p => Value.ref p.1).toArray n } := by rw [e1, ← hvr, ← hits]; exact g0
 have hK0 : DK.Ks X.prog X.w s.heap (ps.map (·.2)) := by
  have go : ∀ {qs : List (List Key × V)} {ps : List (Addr × List Key × Value)}, DK.PK H qs ps → DK.Ks X.prog X.w s.heap ps := by
   intro qs ps r
   induction r with
   | nil => intro p hp; exact nomatch hp
   | @cons q p qs ps h t ih =>
    intro x hx
    rcases List.mem_cons.mp hx with rfl | hx
    · rw [← h.1]; exact key_of I.hok h.2.1
    · exact ih x hx
  exact go pk
 refine dictOfT (I.ok.hd hc) (by have := hr.un; omega) g1 ⟨⟨_, g1, rfl, _, rfl⟩, e2⟩ hK0 e3 (by omega) fun h' tk D kp => ?_
 obtain ⟨o', es, ep, d1, d2, d3, d4, d5⟩ := D
 have hml := DK.mergeT_len kvs []
 rw [List.length_nil] at hml
 have hfr : H s.heap.objs.size = none := I.hok.fresh (Nat.le_refl _)
 refine ⟨.ref s.heap.objs.size, upd H s.heap.objs.size (.dT (DK.mergeT [] kvs)), I.laid (a := s.heap.objs.size) (o := .dT (DK.mergeT [] kvs)) (t' := tk) kp (Nat.le_refl _) ⟨by omega, beq_eq_false_iff_ne.mpr (Ne.symm (Nat.ne_of_lt I.big)), _, (pk.merge (kvs := []) (xs := []) .nil).keeps fun c ys ec => ?_, o', es, ep, d1, d2, d3, d4, d5⟩, rfl, q _ _ hfr (Br.Same.upd hfr) upd_same⟩
 rw [upd_ne (ne_of_none ec hfr)]; exact ec
theorem j_dictPT (hr : Room k X.A) (hg : Gl X x) (he : starEach (e :: es) X.env = (false, eval e X.env) :: starEach es X.env) (hpl : (backTo pos (starEach es X.env)).any (·.1) = false) (hx : x = "dict") (hc : X.calm = true) (hm : X.mg x = none) (ha : JA X (e :: es) t) :
 JE X (.Call (.Name x p) (e :: es) [] pos) (tCB rDictT t) := ⟨by subst hx; exact pe_callTy (call_dictT hr hc) hg hm boot_dict' ha.h (by decide) (by decide) he hpl⟩
end
theorem merge_vT (nd : (qs.map (·.1)).Nodup) : DK.mergeT [] (vT qs) = vT qs := by
 have gen : ∀ (rs ks : List (List Int × Int)), ((ks ++ rs).map (·.1)).Nodup → DK.mergeT (vT ks) (vT rs) = vT (ks ++ rs) := fun rs => by
  induction rs with
  | nil => intro ks _; rw [List.append_nil]; rfl
  | cons r rs ih =>
   intro ks h
   have e : DK.mergeT (vT ks) (vT (r :: rs)) = DK.mergeT (putK (vT ks) _ (.int r.2)) (vT rs) := rfl
   have h' := h
   rw [List.map_append, List.nodup_append] at h
   have hr := fun z => h.2.2 _ z r.1 (.head _) rfl
   rw [e, put_vT _ _ h.1, tput_out _ hr, ih _ (by simp_all), List.append_assoc]; rfl
 exact gen qs [] nd
end Br
namespace Br
namespace Kas
open PySem PySem.Spec PySem.Calls PyProof.Rows L2
open PySem.W
structure Rel (rel : Nat → Nat → Bool) : Prop where
 irr : ∀ a, rel a a = false
 asy : ∀ a b, rel a b = true → rel b a = false
 tr : ∀ a b c, rel b a = false → rel c b = false → rel c a = false
section
abbrev g (p : Array Nat) (k : Nat) : Nat := p.getD k 0
def Up (rel : Nat → Nat → Bool) (p : Array Nat) (m : Nat) : Prop := ∀ i j, i ≤ j → j < m → rel (g p j) (g p i) = false
def Dn (rel : Nat → Nat → Bool) (p : Array Nat) (m : Nat) : Prop := ∀ i j, i ≤ j → j < m → rel (g p i) (g p j) = false
theorem Up.one (R : Rel rel) : Up rel p 1 := fun i j a b => by
 obtain rfl : i = 0 := by omega
 obtain rfl : j = 0 := by omega
 exact R.irr _
theorem Up.more (R : Rel rel) (h : Up rel p m) (m1 : 1 ≤ m) (e : rel (g p m) (g p (m - 1)) = false) : Up rel p (m + 1) := fun i j a b => by
 by_cases z : j < m
 · exact h i j a z
 obtain rfl : j = m := by omega
 by_cases y : i = j
 · rw [y]; exact R.irr _
 · exact R.tr _ _ _ (h i _ (by omega) (by omega)) e
theorem Dn.more (R : Rel rel) (h : Dn rel p m) (m1 : 1 ≤ m) (e : rel (g p (m - 1)) (g p m) = false) : Dn rel p (m + 1) := fun i j a b => by
 by_cases z : j < m
 · exact h i j a z
 obtain rfl : j = m := by omega
 by_cases y : i = j
 · rw [y]; exact R.irr _
 · exact R.tr _ _ _ e (h i _ (by omega) (by omega))
theorem g_rev (hj : j ≤ p.size) (k : Nat) : g (kas_rev p i j) k = if i ≤ k ∧ k < j then g p (i + j - 1 - k) else g p k := by
 have h := getElem?_mirror_all (i := i) hj k
 unfold g kas_rev
 rw [Array.getD_eq_getD_getElem?, h]
 split <;> rw [Array.getD_eq_getD_getElem?]
theorem Dn.up (h : Dn rel p m) (hm : m ≤ p.size) : Up rel (kas_rev p 0 m) m := fun i j a b => by
 rw [g_rev hm, g_rev hm, if_pos (by omega), if_pos (by omega)]
 exact h _ _ (by omega) (by omega)
theorem Up.dn (h : Up rel p m) (hm : m ≤ p.size) : Dn rel (kas_rev p 0 m) m := fun i j a b => by
 rw [g_rev hm, g_rev hm, if_pos (by omega), if_pos (by omega)]
 exact h _ _ (by omega) (by omega)
theorem Dn.rev (h : Dn rel p m) (hm : m ≤ p.size) (he : ∀ i j, a ≤ i → i < m → a ≤ j → j < m → rel (g p i) (g p j) = false) : Dn rel (kas_rev p a m) m := fun i j x y => by
 rw [g_rev hm, g_rev hm]
 split <;> split
 · exact he _ _ (by omega) (by omega) (by omega) (by omega)
 · omega
 · exact h _ _ (by omega) (by omega)
 · exact h _ _ x y
structure Z where
 prog : Program
 w : World
 A : Around
 s : Shared
 κ : SortKind
 it : Array Keyed
abbrev Z.cmp (z : Z) : Nat → Nat → (Bool → Shared → Prop) → Shared → Prop := kas_cmp z.prog z.w z.A z.κ z.it
structure T (z : Z) (t : KasT α) (G : α → Prop) : Prop where
 h : KasT.kasWp z.cmp t (fun a s' => s' = z.s ∧ G a) z.s
theorem T.ret {a : α} (h : G a) : T z (.ret a) G := ⟨⟨rfl, h⟩⟩
theorem T.bind {t : KasT α} {R : β → Prop} (h : T z t G) (k : ∀ a, G a → T z (f a) R) : T z (t.bind f) R := ⟨by
 rw [KasT.kasWp_bind]
 exact kas_wp_mono h.h fun a s' ⟨e, g⟩ => e ▸ (k a g).h⟩
structure Ok (z : Z) (rel : Nat → Nat → Bool) (n : Nat) : Prop where
 R : Rel rel
 n2 : 0 < n
 ask : ∀ i j (C : Bool → Shared → Prop), i < n → j < n → C (rel i j) z.s → z.cmp i j C z.s
def Ar (n : Nat) (p : Array Nat) : Prop := p.size = n ∧ p.toList.Perm (List.range n)
theorem Ar.lt (a : Ar n p) (h : 0 < n) (k : Nat) : g p k < n := by
 unfold g
 rw [Array.getD_eq_getD_getElem?]
 cases e : p[k]? with
 | none => exact h
 | some x =>
  have h1 := by
   have e1 : p.toList[k]? = some x := by simp_all
   exact List.mem_of_getElem? e1
  exact List.mem_range.mp (a.2.mem_iff.mp h1)
theorem Ar.rev (a : Ar n p) (i j : Nat) : Ar n (kas_rev p i j) := ⟨(kas_rev_size i j).trans a.1, (Array.perm_iff_toList_perm.mp (mirror_perm _ _ _ _)).trans a.2⟩
theorem T.ask (O : Ok z rel n) (a : Ar n p) {G : α → Prop} (h : T z (k (rel (g p x) (g p y))) G) : T z (.ask (p.getD x 0) (p.getD y 0) k) G :=
 ⟨by exact O.ask _ _ _ (a.lt O.n2 x) (a.lt O.n2 y) h.h⟩
theorem asc_ok (O : Ok z rel n) (a : Ar n p) : ∀ f m, 1 ≤ m → Up rel p m → T z (kas_asc p f m) fun r => m ≤ r ∧ r ≤ m + f ∧ Up rel p r ∧ (r < m + f → rel (g p r) (g p (r - 1)) = true)
 | 0, m, _, u => by exact T.ret ⟨Nat.le_refl _, Nat.le_refl _, u, fun h => absurd h (Nat.lt_irrefl _)⟩
 | f + 1, m, m1, u => by
  refine T.ask O a ?_
  cases e : rel _ _ with
  | true => exact T.ret ⟨Nat.le_refl _, by omega, u, fun _ => e⟩
  | false =>
   have := asc_ok O a f _ (by omega) (u.more O.R m1 e)
   exact ⟨kas_wp_mono this.h fun r s' ⟨e, h1, h2, h3, h4⟩ => ⟨e, by omega, by omega, h3, fun h => h4 (by omega)⟩⟩
structure Fl (rel : Nat → Nat → Bool) (n : Nat) (p : Array Nat) (m q : Nat) : Prop where
 a : Ar n p
 d : Dn rel p m
 l : q + 1 ≤ m
 e : ∀ i j, m - (q + 1) ≤ i → i < m → m - (q + 1) ≤ j → j < m → rel (g p i) (g p j) = false
theorem Fl.turn (h : Fl rel n p m q) (hm : m ≤ n) : Ar n (kas_rev p (m - (q + 1)) m) ∧ Dn rel (kas_rev p (m - (q + 1)) m) m := ⟨h.a.rev _ _, h.d.rev (by rw [h.a.1]; omega) h.e⟩
theorem desc_ok (O : Ok z rel n) : ∀ f (p : Array Nat) m q, m + f ≤ n → Fl rel n p m q → T z (kas_desc f p m q) fun r => m ≤ r.2.1 ∧ r.2.1 ≤ m + f ∧ Fl rel n r.1 r.2.1 r.2.2
 | 0, p, m, q, hm, h => by rw [kas_desc]; exact T.ret ⟨Nat.le_refl _, Nat.le_refl _, h⟩
 | f + 1, p, m, q, hm, h => by
  rw [kas_desc]
  have m1 : 1 ≤ m := by have := h.l; omega
  have go : ∀ (p' : Array Nat) q', Fl rel n p' (m + 1) q' → T z (kas_desc f p' (m + 1) q') fun r => m ≤ r.2.1 ∧ r.2.1 ≤ m + (f + 1) ∧ Fl rel n r.1 r.2.1 r.2.2 := fun p' q' h' =>
   ⟨kas_wp_mono (desc_ok O f p' (m + 1) q' (by omega) h').h fun r s' ⟨e, h1, h2, h3⟩ => ⟨e, by omega, by omega, h3⟩⟩
  have one : ∀ (p' : Array Nat), Ar n p' → Dn rel p' (m + 1) → Fl rel n p' (m + 1) 0 := fun p' a d => ⟨a, d, by omega, fun i j h1 h2 h3 h4 => by
   obtain rfl : i = j := by omega
   exact O.R.irr _⟩
  refine T.ask O h.a ?_
  cases e : rel (g p m) (g p (m - 1)) with
  | true =>
   have ea := O.R.asy _ _ e
   show T z (if q > 0 then _ else _) _
   split
   · obtain ⟨a1, d1⟩ := h.turn (by omega)
     refine go _ 0 (one _ a1 (d1.more O.R m1 ?_))
     have hs : m ≤ p.size := by rw [h.a.1]; omega
     rw [g_rev hs, g_rev hs, if_pos (by have := h.l; omega), if_neg (by omega)]
     exact O.R.tr _ _ _ ea (h.d _ _ (by omega) (by have := h.l; omega))
   · exact go _ 0 (one _ h.a (h.d.more O.R m1 ea))
  | false =>
   refine T.ask O h.a ?_
   cases e2 : rel (g p (m - 1)) (g p m) with
   | true => exact T.ret ⟨Nat.le_refl _, by show m ≤ _; omega, h⟩
   | false =>
    have d2 := h.d.more O.R m1 e2
    refine go _ (q + 1) ⟨h.a, d2, by have := h.l; omega, fun i j h1 h2 h3 h4 => ?_⟩
    by_cases x : i ≤ j
    · exact d2 i j x h4
    by_cases y : i < m
    · exact h.e _ _ (by omega) (by omega) (by omega) (by omega)
    obtain rfl : i = m := by omega
    exact O.R.tr _ _ _ (h.e _ _ (by omega) (by omega) (by have := h.l; omega) (by omega)) e
theorem tail_ok (O : Ok z rel n) (a : Ar n p) (d : Dn rel p m) (m1 : 1 ≤ m) (hm : m ≤ n) : T z (kas_tail3 m n p) fun r => 1 ≤ r.1 ∧ r.1 ≤ n ∧ Ar n r.2 ∧ Up rel r.2 r.1 := by
 exact (asc_ok O (a.rev 0 m) _ m m1 (d.up (by rw [a.1]; omega))).bind fun r ⟨h1, h2, h3, _⟩ => T.ret ⟨by grind, by grind, a.rev _ _, h3⟩
theorem part_ok (O : Ok z rel n) (a : Ar n p) (d : Dn rel p (m + 1)) (hm : m + 1 ≤ n) : T z (kas_descPart m n p) fun r => 1 ≤ r.1 ∧ r.1 ≤ n ∧ Ar n r.2 ∧ Up rel r.2 r.1 := by
 refine (desc_ok O _ p (m + 1) 0 (by omega) ⟨a, d, by omega, fun i j h1 h2 h3 h4 => ?_⟩).bind fun r ⟨h1, h2, h3⟩ => ?_
 · obtain rfl : i = j := by omega
   exact O.R.irr _
 · split
   · obtain ⟨a1, d1⟩ := h3.turn (by omega)
     exact tail_ok O a1 d1 (by omega) (by omega)
   · exact tail_ok O h3.a h3.d (by omega) (by omega)
theorem count_ok (O : Ok z rel n) (a : Ar n p) : T z (kas_count n p) fun r => 1 ≤ r.1 ∧ r.1 ≤ n ∧ Ar n r.2 ∧ Up rel r.2 r.1 := by
 have n2 := O.n2
 refine (asc_ok O a (n - 1) 1 (Nat.le_refl _) (Up.one O.R)).bind fun m ⟨h1, h2, h3, h4⟩ => ?_
 split
 · exact T.ret ⟨h1, by omega, a, h3⟩
 · next hn =>
   have hn : m ≠ n := by simpa using hn
   have e := h4 (by omega)
   have ea := O.R.asy _ _ e
   split
   · refine T.ask O a ?_
     cases e2 : rel (g p 0) (g p (m - 1)) with
     | true => exact T.ret ⟨h1, by omega, a, h3⟩
     | false =>
      have hs : m ≤ p.size := by rw [a.1]; omega
      refine part_ok O (a.rev 0 m) ((h3.dn hs).more O.R h1 ?_) (by omega)
      rw [g_rev hs, g_rev hs, if_pos (by omega), if_neg (by omega)]
      rw [show 0 + m - 1 - (m - 1) = 0 by omega]
      exact O.R.tr _ _ _ ea e2
   · refine part_ok O a (Dn.more O.R (fun i j x y => ?_) h1 ea) (by omega)
     obtain rfl : i = j := by omega
     exact O.R.irr _
theorem place_ok (O : Ok z rel n) (a : Ar n p) {k : Nat} (u : Up rel p k) : ∀ f l r, l ≤ r → r ≤ k → r - l ≤ f → (∀ i, i < l → rel (g p k) (g p i) = false) → (∀ i, r ≤ i → i < k → rel (g p i) (g p k) = false) →
 T z (kas_place p k f l r) fun x => x ≤ k ∧ (∀ i, i < x → rel (g p k) (g p i) = false) ∧ ∀ i, x ≤ i → i < k → rel (g p i) (g p k) = false
 | 0, l, r, h1, h2, h3, h4, h5 => by rw [kas_place]; exact T.ret ⟨by omega, h4, fun i x y => h5 i (by omega) y⟩
 | f + 1, l, r, h1, h2, h3, h4, h5 => by
  rw [kas_place]
  split
  · exact T.ret ⟨by omega, h4, fun i x y => h5 i (by omega) y⟩
  · refine T.ask O a ?_
    cases e : rel (g p k) _ with
    | true =>
     refine place_ok O a u f l ((l + r) / 2) (by omega) (by omega) (by omega) h4 fun i x y => ?_
     exact O.R.tr _ _ _ (O.R.asy _ _ e) (u ((l + r) / 2) i x y)
    | false => exact place_ok O a u f _ r (by omega) (by omega) (by omega) (fun i x => O.R.tr _ _ _ (u i ((l + r) / 2) (by omega) (by omega)) e) h5
theorem g_bub (hk : k < p.size) (hd : d ≤ k) (i : Nat) : g (bubble p k d) i = if i = k - d then g p k else if k - d < i ∧ i ≤ k then g p (i - 1) else g p i := by
 have h := getElem?_bubble hk d hd i
 simp only [g, Array.getD_eq_getD_getElem?, h]
 split <;> (try split) <;> rfl
theorem bin_ok (O : Ok z rel n) : ∀ f (p : Array Nat) k, k + f = n → Ar n p → Up rel p k → T z (kas_bin f p k) fun p' => Ar n p' ∧ Up rel p' n
 | 0, p, k, h, a, u => by
  rw [kas_bin]
  obtain rfl : k = n := by omega
  exact T.ret ⟨a, u⟩
 | f + 1, p, k, h, a, u => by
  rw [kas_bin]
  refine (place_ok O a u k 0 k (Nat.zero_le _) (Nat.le_refl _) (Nat.le_refl _) (fun i h => nomatch h) fun i x y => by omega).bind fun l ⟨h1, h2, h3⟩ => ?_
  refine bin_ok O f _ (k + 1) (by omega) ⟨(bubble_size _ _ _).trans a.1, (Array.perm_iff_toList_perm.mp (bubble_perm _ _ _)).trans a.2⟩ fun i j x y => ?_
  have hk : k < p.size := by rw [a.1]; omega
  rw [g_bub hk (by omega), g_bub hk (by omega)]
  have e : k - (k - l) = l := by omega
  rw [e]
  by_cases i1 : i = l
  · rw [if_pos i1]
    by_cases j1 : j = l
    · rw [if_pos j1]; exact O.R.irr _
    grind
  · rw [if_neg i1]
    by_cases j1 : j = l
    · rw [if_pos j1, if_neg (by omega)]; exact h2 _ (by omega)
    · rw [if_neg j1]
      by_cases i2 : l < i
      · rw [if_pos (by omega), if_pos (by omega)]; exact u _ _ (by omega) (by omega)
      · rw [if_neg (show ¬(l < i ∧ i ≤ k) by omega)]
        by_cases j2 : l < j
        · rw [if_pos (by omega)]; exact u _ _ (by omega) (by omega)
        · rw [if_neg (by omega)]; exact u _ _ x (by omega)
theorem sort_ok (O : Ok z rel n) : T z (kas_sort n) fun p => Ar n p ∧ Up rel p n := by
 refine (count_ok O (p := (List.range n).toArray) ⟨by simp, List.Perm.refl _⟩).bind fun r ⟨h1, h2, h3, h4⟩ => ?_
 split
 · rw [show max r.1 1 = r.1 by omega]; exact bin_ok O _ _ _ (by omega) h3 h4
 · rw [show r.1 = n by omega] at h4; exact T.ret ⟨h3, h4⟩
end
end Kas
namespace Tim
open PySem PySem.Spec PySem.Calls PyProof.Rows L2 PySem.W
theorem sortShortK {prog : Program} {w : World} {A : Around} {E : Value → Shared → Prop} {s : Shared} {κ : SortKind} {kz : Array Keyed} {lt : Keyed → Keyed → Bool} {Q : Unit → SortSt → Prop} (O : Ord lt) (c : PureLt prog w A s κ kz lt) (k2 : 2 ≤ kz.size) (k64 : kz.size < 64)
 (q : ∀ v, failedOf v = none → (arrOf v).toList.Perm kz.toList → (arrOf v).toList.Pairwise (Le lt) → Q () v) : wpS (model prog w) A E s sortRuns' Q (SortSt.mk' κ kz #[] 7 none) := by
 have hit : ∀ {i : Nat} (h : i < kz.size), kas_item kz i = kz[i] := fun {i} h => by
  unfold kas_item
  rw [Array.getD_eq_getD_getElem?, Array.getElem?_eq_getElem h]; rfl
 have hkz : (List.range kz.size).map (kas_item kz) = kz.toList := by
  refine List.ext_getElem (by simp) fun i h1 h2 => ?_
  simp at h1
  rw [List.getElem_map, List.getElem_range, hit h1]; rfl
 have ok : Kas.Ok ⟨prog, w, A, s, κ, kz⟩ (fun i j => lt (kas_item kz i) (kas_item kz j)) kz.size := ⟨⟨fun a => O.irr _, fun a b h => O.asy _ _ h, fun a b c h1 h2 => O.tr _ _ _ h1 h2⟩, by omega, fun i j C hi hj h => by
  have mem : ∀ {i : Nat} (h : i < kz.size), kas_item kz i ∈ kz.toList := fun h => by rw [hit h]; simp
  exact c _ _ (mem hi) (mem hj) _ _ h⟩
 have st : SortSt.mk' κ kz #[] 7 none = kas_st κ kz (List.range kz.size).toArray := by
  unfold kas_st
  have : Array.map (kas_item kz) (List.range kz.size).toArray = kz := by
   apply Array.toList_inj.mp
   rw [Array.toList_map]; exact hkz
  rw [this]
 rw [st]
 refine kas_runs (Q := fun r v s' => s' = s ∧ Q r v) k2 k64 (fun p st' s' hp ha hf ⟨e, h1, h2⟩ => ⟨e, q st' hf ?_ ?_⟩) (Kas.sort_ok ok).h
 · rw [ha, Array.toList_map, ← hkz]; exact h1.2.map _
 · rw [ha, Array.toList_map, List.pairwise_map]
   refine List.pairwise_iff_getElem.mpr fun i j hi hj hij => ?_
   have hj' : j < p.size := by simpa using hj
   have := h2 i j (by omega) (by rw [← h1.1]; exact hj')
   unfold Kas.g at this
   rw [Array.getD_eq_getD_getElem?, Array.getD_eq_getD_getElem?, Array.getElem?_eq_getElem hj', Array.getElem?_eq_getElem (show i < p.size by omega)] at this
   exact this
end Tim
namespace Tim
open PySem PySem.Spec PySem.Calls PyProof.Rows L2
end Tim
open PySem PySem.Spec PySem.Calls PyProof.Rows L2
section
theorem sorted_gen2S {α : Type} {p : Addr} {f : α → V} {g : α → Value} {pins : List (Addr × Obj)} {s : Shared} {σ : L2.St} {Q : VK} (F : Shared → Hp → List α → Prop) (lt : Hp → Keyed → Keyed → Bool) (O : ∀ H, Tim.Ord (lt H))
 (col : ∀ (R : List Value → Shared → Prop) (E : Value → Shared → Prop), (∀ (s1 : Shared) (H1 : Hp) (zs : List α), Inv X pins σ H1 s1 → F s1 H1 zs → R (zs.map g) s1) → wpAny (model X.prog X.w) X.A.in1 (collect (.ref p)) R E s)
 (each : ∀ s1 H1 zs, F s1 H1 zs → (∀ z ∈ zs, RelV (f z) (g z)) ∧ zs.length < 64)
 (hk : ∀ s1 H1 zs, Inv X pins σ H1 s1 → F s1 H1 zs → 2 ≤ zs.length → ∀ h6 : Heap, (∀ b o, H1 b ≠ none → s1.heap.get? b = some o → h6.get? b = some o) →
  ∃ κ, (∀ Q : SortKind → Shared → Prop, ∀ E, Q κ { s1 with heap := h6 } → wpAny (model X.prog X.w) X.A.in1.in1 (keyKind' (zs.map g).toArray) Q E { s1 with heap := h6 }) ∧ PureLt X.prog X.w X.A.in1.in1 { s1 with heap := h6 } κ (pairsOf (zs.map g)) (lt H1))
 (q : ∀ s1 H1 zs, F s1 H1 zs → ∀ (l : Addr) (ys : List α) (H' : Hp), H1 l = none → L2.Same H1 H' → H' l = some (.lst (ys.map f)) → ys.Perm zs → (ys.map fun z => ((g z, g z) : Keyed)).Pairwise (Tim.Le (lt H1)) → Q (.ref l) H') :
 wpAny (model X.prog X.w) X.A (call (.builtin "sorted") [.ref p]) (EP X pins σ Q) X.xe s := by
 have hsz : (sizeLine : Nat) = 16777216 := sizeLine_eq
 refine Calls.call_function_entry kind_sorted plain_sorted entry_sorted (args_sorted1 _) ?_
 unfold Builtin.«sorted»
 refine wpAny_bind (m := checkCount "sorted" 1 1 _) (wpAny_pure ?_)
 refine wpAny_bind (col _ _ fun s1 H zs I1 hF => ?_)
 obtain ⟨each, hzz⟩ := each s1 H zs hF
 have hk := hk s1 H zs I1 hF
 have q := q s1 H zs hF
 clear hF
 obtain ⟨h', gs, dr, tk, os⟩ := s1
 refine wpAny_bind (wpAny_newList ?_ (by rw [List.length_map]; omega))
 have hoL : (h'.push (seqObj "list" (zs.map g).toArray 0)).get? h'.objs.size = some (seqObj "list" (zs.map g).toArray 0) := Heap.get?_push_size _ rfl
 have hfr : H h'.objs.size = none := I1.hok.fresh (Nat.le_refl _)
 refine wpAny_bind (wpAny_holding (wpAny_call_entry slot_list_sort ⟨_, hoL, rfl⟩ entry_list_sort (sort_any (R := fun out => ∃ ys : List α, out = (ys.map g).toArray ∧ ys.Perm zs ∧ (ys.map fun z => ((g z, g z) : Keyed)).Pairwise (Tim.Le (lt H))) hoL (by rw [List.length_map]; omega) (fun h1 => ⟨zs, rfl, List.Perm.refl _, ?_⟩) (fun h2 h6 old => ?_) fun out ho ⟨ys, hR, hp, hs⟩ => ⟨_, rfl, ?_⟩) (args_list_sort _)))
 · rw [List.length_map] at h1
   match zs, h1 with
   | [], _ => exact List.Pairwise.nil
   | [_], _ => exact List.pairwise_singleton _ _
   | _ :: _ :: _, h => simp at h; omega
 · rw [List.length_map] at h2
   obtain ⟨κ, k1, k2⟩ := hk h2 h6 fun b o hb e => old b o (fun z => hb (by rw [z]; exact hfr)) (Heap.get?_push_of_some _ e)
   refine k1 _ _ ⟨rfl, ?_⟩
   refine Tim.sortShortK (O H) k2 (by rw [← Array.length_toList, pairs_map, List.length_map]; omega) (by rw [← Array.length_toList, pairs_map, List.length_map]; omega) fun v e1 e2 e3 => ⟨e1, ?_, ?_⟩
   · have := e2.length_eq
     rw [Array.length_toList, pairsOf_toList, List.length_zip] at this
     omega
   · have e := pairs_map g zs
     rw [e] at e2
     obtain ⟨ys, h3, h4⟩ := perm_lift (fun z => ((g z, g z) : Keyed)) e2 rfl
     refine ⟨ys, ?_, h3, by rw [h4]; exact e3⟩
     apply Array.toList_inj.mp
     rw [Array.toList_map, ← h4, List.map_map]; simp
 · refine wpAny_pure ⟨_, rfl, ?_⟩
   subst hR
   obtain ⟨n', e'⟩ : ∃ n', (sortedHeap (h'.push (seqObj "list" (zs.map g).toArray 0)) h'.objs.size (zs.map g) (ys.map g).toArray).get? h'.objs.size = some (seqObj "list" (ys.map g).toArray n') := sortedHeap_at hoL
   have keep : ∀ b o, h'.get? b = some o → (sortedHeap (h'.push (seqObj "list" (zs.map g).toArray 0)) h'.objs.size (zs.map g) (ys.map g).toArray).get? b = some o := fun b o e => by
    have hb := Heap.lt_size e
    rw [sortedHeap_old (Nat.ne_of_lt hb) (by rw [Heap.size_push]; exact Nat.lt_succ_of_lt hb)]
    exact Heap.get?_push_of_some _ e
   have vals : ∀ {l : List α}, (∀ z ∈ l, RelV (f z) (g z)) → Vals (l.map f) (l.map g) := fun {l} => by
    induction l with
    | nil => exact fun _ => .nil
    | cons a l ih => exact fun h => .cons (h a (.head _)) (ih fun z hz => h z (.tail _ hz))
   have I2 : Inv X pins σ (upd H h'.objs.size (.lst (ys.map f))) ⟨sortedHeap (h'.push (seqObj "list" (zs.map g).toArray 0)) h'.objs.size (zs.map g) (ys.map g).toArray, gs, dr, tk, os⟩ :=
    I1.laid (t' := tk) keep (Nat.le_refl _) (show ObjOk X.prog X.w _ _ _ (.lst (ys.map f)) from ⟨by rw [List.length_map, hp.length_eq]; omega, ys.map g, n', vals fun z hz => each z (hp.mem_iff.mp hz), e'⟩)
   exact ⟨.ref h'.objs.size, _, I2, rfl, q _ ys _ hfr (Br.Same.upd hfr) upd_same hp hs⟩
theorem sorted_genS {α : Type} {p : Addr} {zs : List α} {f : α → V} {g : α → Value} {pins : List (Addr × Obj)} {s : Shared} {σ : L2.St} {H : Hp} {Q : VK} (lt : Keyed → Keyed → Bool) (O : Tim.Ord lt) (I : Inv X pins σ H s) (each : ∀ z ∈ zs, RelV (f z) (g z))
 (hob : ∃ (o : Obj) (T : String) (cn : Nat), (T = "list" ∨ T = "tuple") ∧ s.heap.get? p = some o ∧ o.cls = .type T ∧ o.data = .seq (zs.map g).toArray cn ∧ zs.length < 64)
 (hk : 2 ≤ zs.length → ∀ h6 : Heap, (∀ b o, H b ≠ none → s.heap.get? b = some o → h6.get? b = some o) → ∃ κ, (∀ Q : SortKind → Shared → Prop, ∀ E, Q κ { s with heap := h6 } → wpAny (model X.prog X.w) X.A.in1.in1 (keyKind' (zs.map g).toArray) Q E { s with heap := h6 }) ∧ PureLt X.prog X.w X.A.in1.in1 { s with heap := h6 } κ (pairsOf (zs.map g)) lt)
 (q : ∀ (l : Addr) (ys : List α) (H' : Hp), H l = none → L2.Same H H' → H' l = some (.lst (ys.map f)) → ys.Perm zs → (ys.map fun z => ((g z, g z) : Keyed)).Pairwise (Tim.Le lt) → Q (.ref l) H') :
 wpAny (model X.prog X.w) X.A (call (.builtin "sorted") [.ref p]) (EP X pins σ Q) X.xe s := by
 have hsz := sizeLine_eq
 obtain ⟨o, T, cn, hT, ho, hcl, hdt, hzz⟩ := hob
 refine sorted_gen2S (f := f) (g := g) (fun s1 H1 ws => H1 = H ∧ ws = zs ∧ ∃ h', s1 = { s with heap := h' } ∧ ∀ b o, s.heap.get? b = some o → h'.get? b = some o) (fun _ => lt) (fun _ => O) (fun R E r => ?_) (fun s1 H1 ws ⟨_, e, _⟩ => ?_) (fun s1 H1 ws _ ⟨e1, e2, h', e3, kp⟩ h2 h6 old => ?_) fun s1 H1 ws ⟨e1, e2, _⟩ => ?_
 · have eI : ((zs.map g).toArray).toList = zs.map g := by simp
   refine wpAny_collect_seq p hT ho hcl hdt (fun h' hk' => ?_) (by grind)
   rw [eI]
   exact r { s with heap := h' } H zs (I.kept (t' := s.toks) hk') ⟨rfl, rfl, h', rfl, hk'⟩
 · subst e; exact ⟨each, hzz⟩
 · subst e1; subst e2; subst e3
   exact hk h2 h6 fun b o hb e => old b o hb (kp b o e)
 · subst e1; subst e2; exact q
end
def rSortPs (K : PySem.W.Frag) : List V → Hp → VK → Prop := fun xs H Q => ∃ (p : Addr) (as : List Addr) (ks : List (List Int × Int)), xs = [.ref p] ∧ (SqL K H p (as.map V.ref) ∨ SqT K H p (as.map V.ref)) ∧ PrsAt H as ks ∧ as.length < 64 ∧
 ∀ (l : Addr) (bs : List Addr) (qs : List (List Int × Int)) (H' : Hp), H l = none → L2.Same H H' → H' l = some (.lst (bs.map V.ref)) → PrsAt H' bs qs → qs.Perm ks → qs.Pairwise (fun u v => pLt v u = false) → Q (.ref l) H'
section
theorem call_sortPs (hr : Room k X.A) : CallR X (.builtin "sorted") (rSortPs X.K) := by
 intro pins s σ H xs us Q I r h
 obtain ⟨p, as, ks, e1, hq, hat, h64, q⟩ := h
 subst e1
 obtain ⟨u, rfl, rx⟩ := vals1 r
 cases rx
 obtain ⟨its, o, T, cn, rv, hT, ho, hcl, hd, hz⟩ := seq_obj I hq
 obtain ⟨cs, hcl', hcs⟩ := prs_pick hat
 have hlen := hat.1
 generalize hzs : as.zip (cs.zip ks) = zs
 have hfst : zs.map (·.1) = as := by rw [← hzs]; exact List.map_fst_zip (by rw [List.length_zip]; omega)
 have hsnd : zs.map (·.2.2) = ks := by
  have a1 : zs.map (·.2) = cs.zip ks := by rw [← hzs]; exact List.map_snd_zip (by rw [List.length_zip]; omega)
  have a2 : (cs.zip ks).map (·.2) = ks := List.map_snd_zip (by omega)
  calc zs.map (·.2.2) = (zs.map (·.2)).map (·.2) := by rw [List.map_map]; rfl
   _ = ks := by rw [a1, a2]
 have hzl : zs.length = as.length := by rw [← hfst, List.length_map]
 have hits : its = zs.map (fun z => Value.ref z.1) := by
  rw [vals_refs rv]
  calc as.map Value.ref = (zs.map (·.1)).map Value.ref := by rw [hfst]
   _ = _ := by rw [List.map_map]; rfl
 have each : ∀ z ∈ zs, H z.1 = some (.tup [.ref z.2.1, .int z.2.2.2]) ∧ H z.2.1 = some (.tup (z.2.2.1.map V.int)) := fun z hz => by
  obtain ⟨i, hi, e⟩ := List.getElem_of_mem hz
  have e' : zs[i]? = some z := by rw [List.getElem?_eq_getElem hi, e]
  rw [← hzs, List.getElem?_zip_eq_some] at e'
  have e2 := e'.2
  rw [show z.2 = (z.2.1, z.2.2) from rfl, List.getElem?_zip_eq_some] at e2
  exact hcs i z.1 z.2.1 z.2.2 e'.1 e2.1 e2.2
 subst hits
 refine sorted_genS (α := Addr × (Addr × List Int × Int)) (zs := zs) (f := fun z => .ref z.1) (g := fun z => .ref z.1) (fun x y => pLt (pkey H x.1) (pkey H y.1)) (ord_pair fun x => pkey H x.1) I (fun z _ => rfl) ⟨o, T, cn, hT, ho, hcl, hd, by omega⟩ (fun h2 h6 old => ?_) fun l ys H' n1 s1 e1 hp hs => ?_
 · skip
   have hu : X.A.in1.in1.units < cLine := by have := hr.un; show X.A.units + 1 + 1 < cLine; omega
   have tup : ∀ z ∈ zs, ∃ (t : Tok) (its : List Value), IsTup h6 z.1 #[.ref z.2.1, .int z.2.2.2 t] ∧ IntsAre its z.2.2.1 ∧ IsTup h6 z.2.1 its.toArray := fun z hz => by
    obtain ⟨e1, e2⟩ := each z hz
    obtain ⟨its, rt, ⟨o, ho, hc, n, hd⟩, _⟩ := I.tuple (SqT.of e1)
    obtain ⟨its2, rt2, ⟨o2, ho2, hc2, n2, hd2⟩, _⟩ := I.tuple (SqT.of e2)
    cases rt with
    | cons r1 rr =>
     cases rr with
     | cons r2 rr =>
      cases rr
      cases r1
      obtain ⟨t, rfl⟩ := r2
      exact ⟨t, its2, ⟨o, old z.1 o (by rw [e1]; exact fun z => nomatch z) ho, hc, n, hd⟩, vals_ints rt2, ⟨o2, old z.2.1 o2 (by rw [e2]; exact fun z => nomatch z) ho2, hc2, n2, hd2⟩⟩
   have kt : ∀ l : List (Addr × (Addr × List Int × Int)), (∀ z ∈ l, z ∈ zs) → ∃ fs : List Value, PySem.W.KatTups h6 (l.map fun z => Value.ref z.1) fs ∧ fs.length = l.length ∧ ∀ v ∈ fs, ∃ c o, v = Value.ref c ∧ h6.get? c = some o ∧ o.cls = .type "tuple" := fun l => by
    induction l with
    | nil => exact fun _ => ⟨[], trivial, rfl, fun v hv => nomatch hv⟩
    | cons a l ih =>
     intro hl
     obtain ⟨fs, f1, f2, f3⟩ := ih fun b hb => hl b (.tail _ hb)
     obtain ⟨t, its, ⟨o, ho, hc, n, hd⟩, _, ⟨o2, ho2, hc2, _⟩⟩ := tup a (hl a (.head _))
     exact ⟨.ref a.2.1 :: fs, PySem.W.KatTups.cons ho hc hd rfl f1, by rw [List.length_cons, List.length_cons, f2], fun v hv => by
      rcases List.mem_cons.mp hv with z | z
      · exact ⟨_, o2, z, ho2, hc2⟩
      · exact f3 v z⟩
   obtain ⟨fs, f1, f2, f3⟩ := kt zs fun _ h => h
   refine ⟨tuples' false, fun Q E hQ => PySem.W.kat_kind (T := .type "tuple") f1 (by omega) (fun v hv => by obtain ⟨c, o, rfl, hc, ht⟩ := f3 v hv; rw [← ht]; exact (PySem.W.Looks.ld hc).andThen .now) (by decide) hQ, fun x y hx hy Q E hQ => ?_⟩
   rw [pairs_map] at hx hy
   obtain ⟨z1, m1, e1⟩ := List.mem_map.mp hx
   obtain ⟨z2, m2, e2⟩ := List.mem_map.mp hy
   obtain ⟨t1, it1, ⟨o1, ho1, _, n1, hd1⟩, i1, p1⟩ := tup z1 m1
   obtain ⟨t2, it2, ⟨o2, ho2, _, n2, hd2⟩, i2, p2⟩ := tup z2 m2
   rw [← e1, ← e2] at hQ ⊢
   have hQ : Q (pLt (pkey H (.ref z1.1)) (pkey H (.ref z2.1))) _ := hQ
   rw [pkey_of (each z1 m1).1 (each z1 m1).2, pkey_of (each z2 m2).1 (each z2 m2).2] at hQ
   have tk : ∀ {c : Addr} {its : List Value} {w : List Int}, IntsAre its w → IsTup h6 c its.toArray → IsTupleKey (mixKind X.prog X.w) h6 (w.map Sum.inl) c := fun {c its w} hi ⟨o, h1, h2, n, h3⟩ => ⟨o, its.toArray, n, h1, h2, h3, by
    have : Vals ((w.map Sum.inl).map kV) its := by
     have := ints_vals hi
     rw [List.map_map]; exact this
    simpa using items_are this⟩
   refine PySem.W.kat_lt ho1 hd1 ho2 hd2 (PySem.W.kat_cons (wpAny_eqBool_tuple hu (tk i1 p1) (tk i2 p2) ?_))
   unfold pLt at hQ
   by_cases ek : z1.2.2.1 = z2.2.2.1
   · rw [if_pos ek] at hQ
     rw [show decide (z1.2.2.1.map Sum.inl = (z2.2.2.1.map Sum.inl : List Key)) = true from decide_eq_true (by rw [ek])]
     refine PySem.W.kat_yes (PySem.W.kat_cons (wpAny_eqBool_int ?_))
     by_cases en : z1.2.2.2 = z2.2.2.2
     · rw [show (z1.2.2.2 == z2.2.2.2) = true by simpa using en]
       rw [decide_eq_false (by omega)] at hQ
       exact PySem.W.kat_yes (PySem.W.kat_nil hQ)
     · rw [show (z1.2.2.2 == z2.2.2.2) = false by simpa using en]
       exact PySem.W.kat_no (PySem.W.kat_one _ _ (HT.rcLt_int _ _ _ _ _ _ _ _ _ _ hQ))
   · rw [if_neg ek] at hQ
     rw [show decide (z1.2.2.1.map Sum.inl = (z2.2.2.1.map Sum.inl : List Key)) = false from decide_eq_false (fun z => ek ((List.map_inj_right fun _ _ h => Sum.inl.inj h).mp z))]
     exact PySem.W.kat_no (PySem.W.kat_one _ _ (HT.lt_tupInts p1 p2 (by simpa using i1) (by simpa using i2) hu hQ))
 · refine q l (ys.map (·.1)) (ys.map (·.2.2)) H' n1 s1 ?_ ⟨by rw [List.length_map, List.length_map], fun i b hb => ?_⟩ (by rw [← hsnd]; exact hp.map _) ?_
   · rw [e1, List.map_map]; rfl
   · rw [List.getElem?_map] at hb
     obtain ⟨z, hz, rfl⟩ := Option.map_eq_some_iff.mp hb
     obtain ⟨e1, e2⟩ := each z (hp.mem_iff.mp (List.mem_of_getElem? hz))
     exact ⟨z.2.2, z.2.1, by rw [List.getElem?_map, hz]; rfl, s1 _ _ e1, s1 _ _ e2⟩
   · rw [List.pairwise_map] at hs ⊢
     refine List.Pairwise.imp_of_mem (fun {a b} ha hb h => ?_) hs
     have h : pLt (pkey H (.ref b.1)) (pkey H (.ref a.1)) = false := h
     obtain ⟨f1, f2⟩ := each b (hp.mem_iff.mp hb)
     obtain ⟨f3, f4⟩ := each a (hp.mem_iff.mp ha)
     rw [pkey_of f1 f2, pkey_of f3 f4] at h
     exact h
end
section
variable {K : PySem.W.Frag}
theorem k_sortedPs (hr : Room k X.A) (hg : Gl X x) (he : starEach (e :: es) X.env = (false, eval e X.env) :: starEach es X.env) (hpl : (backTo pos (starEach es X.env)).any (·.1) = false) (hK : X.K = K) (hx : x = "sorted") (hm : X.mg x = none) (ha : JA X (e :: es) t) : JE X (.Call (.Name x p) (e :: es) [] pos) (tCB (rSortPs K) t) := hK ▸ ⟨by subst hx; exact pe_callB (call_sortPs hr) hg hm boot_sorted ha.h (by decide) (by decide) he hpl⟩
end
def rSortT2s : List V → Hp → VK → Prop := fun xs H Q => ∃ (p : Addr) (kvs : List (List Key × V)) (ws : List (List Int)), xs = [.ref p] ∧ H p = some (.dT kvs) ∧ kvs.map (·.1) = ws.map (List.map Sum.inl) ∧ (2 ≤ ws.length → ∀ w ∈ ws, w ≠ []) ∧ ws.length < 64 ∧
 ∀ (l : Addr) (bs : List Addr) (us : List (List Int)) (H' : Hp), H l = none → L2.Same H H' → H' l = some (.lst (bs.map V.ref)) → bs.length = us.length → (∀ (i : Nat) b, bs[i]? = some b → ∃ u, us[i]? = some u ∧ H' b = some (.tup (u.map V.int))) →
  us.Perm ws → us.Pairwise (fun u v => HT.lexLt v u = false) → Q (.ref l) H'
section
theorem call_sortT2s (hc : X.calm = true) : CallR X (.builtin "sorted") rSortT2s := by
 intro pins s σ H xs us Q I r h
 obtain ⟨p, kvs, ws, rfl, hq, hws, hne, h64, q⟩ := h
 obtain ⟨u, rfl, rx⟩ := vals1 r
 cases rx
 obtain ⟨hz, lo, ks, pr, o, es, ep, g1, g2, g3, g4, nd⟩ := (show ObjOk X.prog X.w H s.heap p (.dT kvs) from I.hok p _ hq)
 have hlk : kvs.length = ks.length := Paired.length pr
 have hlw : kvs.length = ws.length := by have := congrArg List.length hws; simpa using this
 have hle : es.size = ws.length := by rw [← Array.length_toList, g4, List.length_map]; omega
 have hat : EntAt s.heap p es ep := ⟨o, g1, g2, g3⟩
 have key : ∀ (i : Nat) (e : DictEntry), es[i]? = some e → ∃ (a : Addr) (w : List Int), e.key = .ref a ∧ ws[i]? = some w ∧ H a = some (.tup (w.map V.int)) := fun i e he => by
  rw [← Array.getElem?_toList, g4, List.getElem?_map] at he
  obtain ⟨x, hx, rfl⟩ := Option.map_eq_some_iff.mp he
  have hi : i < ks.length := (List.getElem?_eq_some_iff.mp hx).1
  have hp : kvs[i]? = some kvs[i] := List.getElem?_eq_getElem (by omega)
  obtain ⟨x', h1, h2, h3, _⟩ := paired_get pr hp
  rw [hx] at h1; cases h1
  have hw : ws[i]? = some ws[i] := List.getElem?_eq_getElem (by omega)
  have e1 : (kvs.map (·.1))[i]? = some kvs[i].1 := by rw [List.getElem?_map, hp]; rfl
  rw [hws, List.getElem?_map, hw] at e1
  have e2 : ws[i].map Sum.inl = kvs[i].1 := by simpa using e1
  refine ⟨x.2.1, ws[i], rfl, hw, ?_⟩
  rw [h3, ← e2, List.map_map]; rfl
 refine sorted_gen2S (α := Addr × List Int) (f := fun z => .ref z.1) (g := fun z => .ref z.1) (fun _ H' zs => H' = H ∧ (∀ z ∈ zs, H z.1 = some (.tup (z.2.map V.int))) ∧ zs.map (·.2) = ws ∧ zs.length < 64)
  (fun H' x y => HT.lexLt (tkey H' x.1) (tkey H' y.1)) (fun H' => ord_lex fun x => tkey H' x.1) (fun R E hR => ?_) (fun s3 H3 zs hF => ⟨fun z _ => rfl, hF.2.2.2⟩) (fun s3 H3 zs I3 hF h2 h6 old => ?_) (fun s3 H3 zs hF l ys H' n1 q3 e1 hp hs => ?_)
 · refine PySem.W.kdu_collect (A := X.A.in1) (ent_src (es := es) (ep := ep) lo) (I.ok.hd hc) hat (by omega) fun h' tk acc hk hacc => ?_
   have each : ∃ zs : List (Addr × List Int), acc.toList = zs.map (fun z => Value.ref z.1) ∧ (∀ z ∈ zs, H z.1 = some (.tup (z.2.map V.int))) ∧ zs.map (·.2) = ws := by
    have hl : acc.toList.length = ws.length := by rw [Array.length_toList, hacc.1, hle]
    have hg : ∀ (j : Nat) (v : Value), acc.toList[j]? = some v → ∃ (a : Addr) (w : List Int), v = .ref a ∧ ws[j]? = some w ∧ H a = some (.tup (w.map V.int)) := fun j v e => by
     obtain ⟨e', h1, h2⟩ := hacc.2 j v (by rw [← Array.getElem?_toList]; exact e)
     obtain ⟨a, w, h3, h4, h5⟩ := key j e' h1
     exact ⟨a, w, h2.trans h3, h4, h5⟩
    generalize acc.toList = vs at hl hg
    clear key hws hlw hle hne h64 q hR hacc hat nd
    induction vs generalizing ws with
    | nil => cases ws with
     | nil => exact ⟨[], rfl, fun z hz => (nomatch hz), rfl⟩
     | cons => simp at hl
    | cons v vs ih =>
     cases ws with
     | nil => simp at hl
     | cons w ws =>
      obtain ⟨zs, h1, h2, h3⟩ := ih ws (by simpa using hl) fun j v e => hg (j + 1) v (by simpa using e)
      obtain ⟨a, w', e1, e2, e3⟩ := hg 0 v rfl
      cases e2
      subst e1
      refine ⟨(a, w) :: zs, by rw [h1]; rfl, fun z hz => ?_, by rw [List.map_cons, h3]⟩
      rcases List.mem_cons.mp hz with e | hz
      · rw [e]; exact e3
      · exact h2 z hz
   obtain ⟨zs, h1, h2, h3⟩ := each
   rw [h1]
   exact hR _ H zs (I.kept hk) ⟨rfl, h2, h3, by have := congrArg List.length h3; rw [List.length_map] at this; omega⟩
 · obtain ⟨rfl, each, hzw, _⟩ := hF
   have hlz : zs.length = ws.length := by rw [← hzw, List.length_map]
   have tup : ∀ z ∈ zs, ∃ its : List Value, IntsAre its z.2 ∧ IsTup h6 z.1 its.toArray := fun z hz => by
    obtain ⟨its, rt, ⟨o, ho, hc, n, hd⟩, _⟩ := I3.tuple (SqT.of (each z hz))
    exact ⟨its, vals_ints rt, o, old z.1 o (by rw [each z hz]; exact fun z => nomatch z) ho, hc, n, hd⟩
   have kt : ∀ l : List (Addr × List Int), (∀ z ∈ l, z ∈ zs) → ∃ fs : List Value, PySem.W.KatTups h6 (l.map fun z => Value.ref z.1) fs ∧ fs.length = l.length ∧ ∀ v ∈ fs, ∃ n t, v = Value.int n t := fun l => by
    induction l with
    | nil => exact fun _ => ⟨[], trivial, rfl, fun v hv => nomatch hv⟩
    | cons a l ih =>
     intro hl
     obtain ⟨fs, f1, f2, f3⟩ := ih fun b hb => hl b (.tail _ hb)
     obtain ⟨its, hi, o, ho, hc, n, hd⟩ := tup a (hl a (.head _))
     have hnn := hne (by omega) a.2 (by rw [← hzw]; exact List.mem_map.mpr ⟨a, hl a (.head _), rfl⟩)
     obtain ⟨aa, aw⟩ := a
     cases hi with
     | nil => exact absurd rfl hnn
     | cons n0 t0 r0 => exact ⟨.int n0 t0 :: fs, PySem.W.KatTups.cons ho hc hd (by simp) f1, by simp [f2], fun v hv => by
      rcases List.mem_cons.mp hv with z | z
      · exact ⟨_, _, z⟩
      · exact f3 v z⟩
   obtain ⟨fs, f1, f2, f3⟩ := kt zs fun _ h => h
   refine ⟨tuples' true, fun Q E hQ => PySem.W.kat_kind (T := .type "int") f1 (by omega) (fun v hv => by obtain ⟨n, t, rfl⟩ := f3 v hv; exact .now) (by decide) hQ, fun x y hx hy Q E hQ => ?_⟩
   rw [pairs_map] at hx hy
   obtain ⟨z1, m1, e1⟩ := List.mem_map.mp hx
   obtain ⟨z2, m2, e2⟩ := List.mem_map.mp hy
   obtain ⟨it1, i1, o1, ho1, _, n1, hd1⟩ := tup z1 m1
   obtain ⟨it2, i2, o2, ho2, _, n2, hd2⟩ := tup z2 m2
   rw [← e1, ← e2] at hQ ⊢
   have hQ : Q (HT.lexLt (tkey H3 (.ref z1.1)) (tkey H3 (.ref z2.1))) _ := hQ
   rw [tkey_of (each z1 m1), tkey_of (each z2 m2)] at hQ
   refine PySem.W.kat_lt ho1 hd1 ho2 hd2 (katLex_ints rfl ?_ ?_ ?_ hQ)
   · simpa using i1
   · simpa using i2
   · have := i1.length; have := i2.length; simp; omega
 · obtain ⟨rfl, each, hzw, _⟩ := hF
   refine q l (ys.map (·.1)) (ys.map (·.2)) H' n1 q3 ?_ (by rw [List.length_map, List.length_map]) (fun i b hb => ?_) (by rw [← hzw]; exact hp.map _) ?_
   · rw [e1, List.map_map]; rfl
   · rw [List.getElem?_map] at hb
     obtain ⟨z, hz, rfl⟩ := Option.map_eq_some_iff.mp hb
     exact ⟨z.2, by rw [List.getElem?_map, hz]; rfl, q3 _ _ (each z (hp.mem_iff.mp (List.mem_of_getElem? hz)))⟩
   · rw [List.pairwise_map] at hs ⊢
     refine List.Pairwise.imp_of_mem (fun {a b} ha hb h => ?_) hs
     have h : HT.lexLt (tkey H3 (.ref b.1)) (tkey H3 (.ref a.1)) = false := h
     rw [tkey_of (each b (hp.mem_iff.mp hb)), tkey_of (each a (hp.mem_iff.mp ha))] at h
     exact h
end
section
variable {K : PySem.W.Frag} (hg : Gl X x) (he : starEach (e :: es) X.env = (false, eval e X.env) :: starEach es X.env) (hpl : (backTo pos (starEach es X.env)).any (·.1) = false)
include hg he hpl
theorem k_sortedT2s (hK : X.K = K) (hx : x = "sorted") (hc : X.calm = true) (hm : X.mg x = none) (ha : JA X (e :: es) t) : JE X (.Call (.Name x p) (e :: es) [] pos) (tCB rSortT2s t) := ⟨by subst hx; exact pe_callB (call_sortT2s hc) hg hm boot_sorted ha.h (by decide) (by decide) he hpl⟩
end
end Br
namespace Br
open PySem PySem.Spec PySem.Calls PyProof.Rows L2
def Sk (w : World) (D : Addr) (o : Obj) (ns : List Int) : Prop := (∀ h : Heap, h.get? D = some o → SetI w h D ns) ∧ ∀ v, o.data ≠ .cell v
theorem Sk.of (x : SetI w h D ns) : ∃ o, h.get? D = some o ∧ Sk w D o ns := by
 obtain ⟨o, es, ep, t, ho, r⟩ := x
 exact ⟨o, ho, fun h' e => ⟨o, es, ep, t, e, r⟩, fun v z => by simp_all⟩
def SetO (w : World) (a : Addr) (ns : List Int) : HO := .ext fun h => SetI w h a ns
theorem setO_ok (x : SetI w h a ns) : ObjOk P w H h a (SetO w a ns) :=
 ⟨x, let ⟨o, _, _, _, e, _⟩ := x; ⟨o, e⟩, fun h1 h2 q k => q.at k⟩
section
variable {prog : Program} {w : World} {A : Around} {R : Result → Shared → Prop} {E : Value → Shared → Prop} {s : Shared}
theorem call_addI {tk : Nat} (hS : SetI w s.heap a ns) (hb : ns.length + 1 < scanBound)
 (h : ∀ h' t' ns', Heap.SameBut a s.heap h' → SetI w h' a ns' → ns'.Perm (if n ∈ ns then ns else n :: ns) → Q .none { s with heap := h', toks := t' }) : wpAny (model prog w) A (call (.builtin "set.add") [.ref a, .int n tk]) Q E s := by
 have hT : s.TypeIs (.ref a) "set" := let ⟨o, _, _, _, e, x, _⟩ := hS; ⟨o, e, x.1⟩
 refine wpAny_call_entry F.slot_set_add hT F.entry_set_add ?_ (F.args_set_add_2 _ _)
 refine wpAny_bind (wpAny_bind (wpAny_pure (wpAny_pure (wpAny_bind (set_add hS hb fun b h' t' ns' sb si pe => wpAny_pure ⟨_, rfl, h h' t' ns' sb si pe⟩)))))
theorem turn_set (elt target iter : Expr) (ifs : List Expr) (scope : Scope) (pos : Pos) (it : Value) (D : Addr) (env : Env) : compTurn (.SetComp elt [⟨target, iter, ifs, 0⟩] scope pos) 0 it (.ref D) env = (do
 standAt iter.pos
 match ← pyNext it with
 | none => pure (.done .next)
 | some u =>
  letOwnedTupleGo target it u
  assign target env u
  let mut ok := true
  for c in ifs do
   if ok then ok ← isTrue c env (eval c env)
  if ok then (do let v ← eval elt env; standAt elt.pos; let _ ← call (.builtin "set.add") [.ref D, v])
  again (.compLoop (.SetComp elt [⟨target, iter, ifs, 0⟩] scope pos) 0 it (.ref D) env)) := by rfl
theorem compLoop_goS (I : Nat → Shared → Prop)
 (turn : ∀ n s, I n s → wpAny (model prog w) A (pyNext it) (fun r s1 => match r with
  | none => R (.ok .next) s1
  | some v => wpAny (model prog w) A (letOwnedTupleGo target it v) (fun _ s1 => wpAny (model prog w) A (assign target env v) (fun _ s2 =>
   wpAny (model prog w) A (testsOf ifs env) (fun ok s3 =>
    if ok = true then wpAny (model prog w) A (eval elt env) (fun x s4 => wpAny (model prog w) A (call (.builtin "set.add") [.ref D, x]) (fun _ s5 => ∃ m, m < n ∧ I m s5) (fun _ _ => False) s4) (fun _ _ => False) s3
    else ∃ m, m < n ∧ I m s3) (fun _ _ => False) s2) (fun _ _ => False) s1) (fun _ _ => False) s1) (fun _ _ => False) s)
 (n : Nat) (h : I n s) : codeAny (model prog w) A (.compLoop (.SetComp elt [⟨target, iter, ifs, 0⟩] scope pos) 0 it (.ref D) env) R s := by
 apply codeAny_loop rfl I _ n h
 intro k s hI
 apply wpAny_noted
 apply wpAny_mono (E := fun _ _ => False) _ (fun _ _ q => q) fun _ _ f => f.elim
 rw [turn_set]
 refine wpAny_bind (wpAny_standAt (wpAny_bind (thn (turn k s hI) fun r s1 q1 => ?_)))
 rcases r with _ | v
 · exact wpAny_pure q1
 refine wpAny_bind (thn q1 fun _ s2 q2 => wpAny_bind (thn q2 fun _ s3 q3 => wpAny_bind (thn q3 fun ok s4 q4 => ?_)))
 cases ok
 · exact wpAny_pure ⟨rfl, q4⟩
 · exact wpAny_bind (wpAny_bind (thn q4 fun x s5 q5 => wpAny_bind (wpAny_standAt (wpAny_bind (thn q5 fun _ s6 q6 => wpAny_pure (wpAny_pure ⟨rfl, q6⟩))))))
end
section
variable {prog : Program} {w : World} {A : Around} {R : Result → Shared → Prop} {s : Shared}
theorem compStart_set (h0 : codeAny (model prog w) A (.compLoop (.SetComp elt [⟨target, iter, ifs, 0⟩] scope pos) 0 it acc env) R s)
 (h : wpAny (model prog w) A (pyIter it) (fun it' s' => codeAny (model prog w) A (.compLoop (.SetComp elt [⟨target, iter, ifs, 0⟩] scope pos) 0 it' acc env) R s') (notedBy (model prog w) A env fun x s' => R (.error x) s') s) :
 codeAny (model prog w) A (.compStart (.SetComp elt [⟨target, iter, ifs, 0⟩] scope pos) 0 it acc env) R s := by
 refine codeAny_of_tree ?_
 refine wpAny_notedAt ?_
 refine wpAny_bind (wpAny_askSetting (wpAny_ite ?_))
 split
 · first | rfl | exact wpAny_pure ⟨rfl, h0⟩
 · first | exact wpAny_bind (wpAny_rule (wpAny_bind (wpAny_standAt (wpAny_bind (wpAny_mono h (fun it' s' h' => wpAny_pure ⟨rfl, h'⟩) fun _ _ x => x))))) | rfl
end
def CmpS (J : It) (g : TG) (tt : TT) (te : TE) (σ0 : L2.St) (H0 : Hp) (Z : List V → Hp → Prop) : Prop :=
 ∃ W : Nat → Nat → List V → L2.St → Hp → Prop, (∃ m, W 0 m [] σ0 H0) ∧ ∀ i m ys σ' H', W i m ys σ' H' → ys.length < 2000 ∧
  ((J.stop i H' ∧ Z ys H') ∨ (J.go i H' ∧ ∀ x H2, J.yld i H' x H2 → g x σ' H2 fun σ3 H3 => tt σ3 H3 fun b H4 => if b = true then te σ3 H4 fun y H5 => ∃ k : Int, y = .int k ∧ ∃ m', m' < m ∧ W (i + 1) m' (ys ++ [y]) σ3 H5 else ∃ m', m' < m ∧ W (i + 1) m' ys σ3 H4))
section
variable {K : PySem.W.Frag} {a : Addr} {xs : List V} {g : TG} {tt : TT} {te : TE} {σ0 : L2.St} {H0 : Hp} {Z : List V → Hp → Prop}
theorem cmps_list (Pv : Nat → List V → L2.St → Hp → Prop) (h0 : Pv 0 [] σ0 H0) (hz : xs.length < 2000) (hl : ∀ i ys σ H, i ≤ xs.length → Pv i ys σ H → SqL K H a xs ∧ ys.length ≤ i)
 (hs : ∀ i x ys σ H (N : List V → L2.St → Hp → Prop), xs[i]? = some x → Pv i ys σ H → (∀ ys' σ' H', Pv (i + 1) ys' σ' H' → N ys' σ' H') → g x σ H fun σ3 H3 => tt σ3 H3 fun b H4 => if b = true then te σ3 H4 fun y H5 => ∃ k : Int, y = .int k ∧ N (ys ++ [y]) σ3 H5 else N ys σ3 H4)
 (hd : ∀ ys σ H, Pv xs.length ys σ H → Z ys H) : CmpS (Itl K a) g tt te σ0 H0 Z := by
 refine ⟨fun i m ys σ H => m = xs.length - i ∧ i ≤ xs.length ∧ Pv i ys σ H, ⟨xs.length, by simp, Nat.zero_le _, h0⟩, ?_⟩
 rintro i m ys σ H ⟨rfl, hi, p⟩
 obtain ⟨q, hy⟩ := hl i ys σ H hi p
 refine ⟨by omega, ?_⟩
 by_cases hlt : i < xs.length
 · refine .inr ⟨⟨xs, xs[i], q, by simp [hlt]⟩, fun x H' y => ?_⟩
   obtain ⟨e, y⟩ := y
   subst e
   exact hs i x ys σ _ (fun ys' σ' H' => ∃ m', m' < xs.length - i ∧ m' = xs.length - (i + 1) ∧ i + 1 ≤ xs.length ∧ Pv (i + 1) ys' σ' H') (y xs q) p fun ys' σ' H' p' => ⟨xs.length - (i + 1), by omega, rfl, hlt, p'⟩
 · have e : i = xs.length := by omega
   subst e
   exact .inl ⟨⟨xs, q, Nat.le_refl _⟩, hd ys σ H p⟩
end
section
variable {X : Cx} {pins : List (Addr × Obj)} {σ : L2.St} {H2 : Hp} {s2 : Shared} {tg iter elt : Expr} {ifs : List Expr} {scope : Scope} {pos : Pos} {Nc : List Str} {g : TG} {tt : TT} {te : TE}
theorem scomp_block {it : Addr} {fp : List Addr} {tn : Nat → Heap → Prop} {J : It} {Z : List V → Hp → Prop} {E : Value → Shared → Prop} {RR : Value → Addr → Result → Shared → Prop}
 (hc : X.calm = true) (S : CompS X scope) (I2 : Inv X pins σ H2 s2) (T : Turn X.prog X.w X.K tg J fp it tn) (st2 : tn 0 s2.heap) (f2 : ∀ b ∈ fp, FpOk X pins H2 b)
 (hg : ∀ C s H fp, PG (cxC X Nc scope C s H fp) tg g) (ht : ∀ C s H fp, PIfs (cxC X Nc scope C s H fp) ifs tt) (he : ∀ C s H fp, PE (cxC X Nc scope C s H fp) elt te)
 (h : CmpS J g tt te (List.replicate Nc.length none ++ σ) H2 Z)
 (hRR : ∀ D C s' H3 ys ns, Inv X pins σ (upd H3 D (SetO X.w D ns)) s' → H3 D = none → Z ys H3 → (∀ x, x ∈ ns ↔ V.int x ∈ ys) → (∃ m, s'.heap.Ns C m) → FpOk X pins (upd H3 D (SetO X.w D ns)) C → RR (.ref D) C (.ok .next) s') :
 wpAny (model X.prog X.w) X.A (newSet (.type "set")) (fun acc s₃ => wpAny (model X.prog X.w) X.A (newFunctionEnv scope X.env.globals (clOf scope X.env) [] X.env.qual none .none (some X.env)) (fun cenv s₄ =>
  codeAny (model X.prog X.w) X.A (.compStart (.SetComp elt [⟨tg, iter, ifs, 0⟩] scope pos) 0 (.ref it) acc { cenv with scope := relabel scope X.env }) (RR acc cenv.locals) s₄) E s₃) E s2 := by
 refine newSetI (wpAny_newFunctionEnv S.nocell (by intro y hy; simp at hy) (fun h₁ hns₁ hsb₁ => ?_) S.kind)
 dsimp only at hns₁ hsb₁ ⊢
 have big := I2.big
 generalize hH2 : s2.heap.push { cls := .type "set", dict := none, data := .set #[] 0 (.fresh 0 0 (!byT X.w)) } = G at hns₁ hsb₁ ⊢
 have hC : G.objs.size = s2.heap.objs.size + 1 := by rw [← hH2, Heap.size_push]
 generalize hD0 : s2.heap.objs.size = D at *
 generalize hC0 : G.objs.size = C at *
 have hDC : D ≠ C := by omega
 have below : ∀ (b : Nat) o, s2.heap.get? b = some o → b < D := fun b o e => hD0 ▸ Heap.lt_size e
 have belC : ∀ (b : Nat) o, s2.heap.get? b = some o → b ≠ C := fun b o e => by have := below b o e; omega
 have belD : ∀ (b : Nat) o, s2.heap.get? b = some o → b ≠ D := fun b o e => by have := below b o e; omega
 have old : ∀ b o, s2.heap.get? b = some o → h₁.get? b = some o := fun b o e => hsb₁.extBut b o (belC b o e) (by
  have q := Heap.get?_push_of_some { cls := .type (if (some X.env).isSome then "dict" else "frame"), data := .dict #[] } (hH2 ▸ Heap.get?_push_of_some _ e : G.get? b = some o)
  exact q)
 have hacc : h₁.get? D = some { cls := .type "set", dict := none, data := .set #[] 0 (.fresh 0 0 (!byT X.w)) } := hsb₁.extBut _ _ hDC (Heap.get?_push_of_some _ (by rw [← hH2, ← hD0]; exact Heap.get?_push_size _ rfl))
 obtain ⟨W, ⟨m0, w0⟩, turn⟩ := h
 have hob : ∀ b ∈ fp, ∃ o, s2.heap.get? b = some o := fun b hb => let ⟨o, e, _⟩ := T.obj _ _ st2 b hb; ⟨o, e⟩
 have hfpD : ∀ b : Nat, b ∈ fp → b < D := fun b hb => let ⟨o, e⟩ := hob b hb; below b o e
 have hfpN : ∀ b : Nat, b ∈ fp → b ≠ D := fun b hb => Nat.ne_of_lt (hfpD b hb)
 have hcells : ∀ y ∈ scope.names, y.2 = .free → ∃ c, X.env.cells.lookup y.1 = some c := fun y hy e => I2.ok.has y.1 (S.free y hy e)
 have hsub : ∀ {x : Str} {c : Addr}, (clOf scope X.env).lookup x = some c → X.env.cells.lookup x = some c := fun e => (clOf_sub hcells e).1
 have hclt : ∀ x c, (clOf scope X.env).lookup x = some c → c < D := fun x c e => let ⟨v, q⟩ := I2.cell x c (hsub e); hD0 ▸ q.lt
 have hn0 : h₁.Ns C fun _ => none := hns₁
 have IB : Inv (cxC X Nc scope C s2 H2 fp) [] (List.replicate Nc.length none ++ σ) H2 { s2 with heap := h₁, toks := s2.toks + ([] : List (Str × Value)).length } :=
  inv_block (D := D) I2 S f2 hob (by omega) old hn0
 have hfs : ∀ b : Nat, D ≤ b → b ∉ (cxC X Nc scope C s2 H2 fp).fs := fun b hb hm => by
  obtain ⟨_, o, ho, _⟩ := IB.ok.funs.mem hm
  exact absurd (Nat.lt_of_lt_of_le (below b o ho) hb) (Nat.lt_irrefl _)
 have stat : ∀ {H' : Hp} {ps : List (Addr × Obj)}, (∀ p ∈ ps, Nat.le D p.1) → (∀ b ∈ fp, H' b = none) → ∀ b ∈ fp, FpOk (cxC X Nc scope C s2 H2 fp) ps H' b := fun {H' ps} hps hn b hb =>
  ⟨hn b hb, (let ⟨o, e⟩ := hob b hb; belC b o e), IB.ok.exfs b hb, .inl hb, fun x c e => (f2 b hb).2.2.2.2.1 x c (hsub e), fun p hp => Nat.ne_of_gt (Nat.lt_of_lt_of_le (hfpD b hb) (hps p hp))⟩
 have loop : ∀ s₃ : Shared, s₃ = { s2 with heap := h₁, toks := s2.toks + ([] : List (Str × Value)).length } →
  codeAny (model X.prog X.w) X.A (.compLoop (.SetComp elt [⟨tg, iter, ifs, 0⟩] scope pos) 0 (.ref it) (.ref D) (compEnvC scope (clOf scope X.env) C X.env)) (RR (.ref D) C) s₃ := by
  rintro s₃ rfl
  refine compLoop_goS (fun n s' => ∃ i ys σ' H' ns ob, Inv (cxC X Nc scope C s2 H2 fp) [(D, ob)] σ' H' s' ∧ ((∀ x, x ∈ ns ↔ V.int x ∈ ys) ∧ ns.length ≤ ys.length ∧ ns.length ≤ 2000) ∧ Sk X.w D ob ns ∧ tn i s'.heap ∧ (∀ b ∈ fp, H' b = none) ∧ W i n ys σ' H') ?_ m0 ?_
  · rintro n s3 ⟨i, ys, σ3, H3, ns, ob, I3, rv, dk, st3, fr3, w3⟩
    obtain ⟨hz, tu⟩ := turn i n ys σ3 H3 w3
    have hps : ∀ p ∈ [((D : Addr), ob)], Nat.le D p.1 := fun p hp => by
     rcases List.mem_singleton.mp hp with rfl
     exact Nat.le_refl _
    rcases tu with ⟨stop, z⟩ | ⟨go, step⟩
    · refine thn (T.done (cxC X Nc scope C s2 H2 fp) rfl rfl rfl hc i _ s3 σ3 H3 (fun _ _ => False) I3 (stat hps fr3) st3 stop) fun r s4 ⟨hr, I4⟩ => ?_
      subst hr
      obtain ⟨eD, nD, _, _, _⟩ := I4.pin (D, ob) (List.mem_append_right _ (List.mem_singleton.mpr rfl))
      have eD : s4.heap.get? D = _ := eD
      have nD : H3 D = none := nD
      have u4 : Un (frs X.stack) fp H2 H3 s2.heap s4.heap := I4.base
      have hH2D : H2 D = none := I2.hok.fresh (by omega)
      have u5 : Un (frs X.stack) fp H2 (upd H3 D (SetO X.w D ns)) s2.heap s4.heap :=
       ⟨u4.keep, u4.slot, fun b o e n x => by rw [upd_ne (belD b o e)]; exact u4.free b o e n x, u4.there, fun b xs e => by rw [upd_ne (ne_of_none e hH2D)]; exact u4.tups b xs e,
        fun b o u e => by rw [upd_ne (ne_of_none e hH2D)]; exact u4.frzs b o u e, fun b ps e => by rw [upd_ne (ne_of_none e hH2D)]; exact u4.tbls b ps e⟩
      have hok : HOk X.prog X.w (upd H3 D (SetO X.w D ns)) s4.heap := fun b o e => by
       by_cases hb : b = D
       · subst hb; rw [upd_same] at e; cases e
         exact setO_ok (dk.1 _ eD)
       · rw [upd_ne hb] at e
         exact (I4.hok b o e).stay (fun _ _ _ q => q) (fun c q => by rw [upd_ne (ne_of_none q nD)]; exact q) fun c xs q => by rw [upd_ne (ne_of_none q nD)]; exact q
      have I5 : Inv X pins σ (upd H3 D (SetO X.w D ns)) s4 := I2.call' (ch := fp) I4.os u5 hok I4.bare fun b hb => let ⟨a0, a1, a2, a3, a4, a5⟩ := f2 b hb; ⟨a3, a1, a4, a5⟩
      obtain ⟨m, hm, _⟩ := I4.loc
      refine hRR D C s4 H3 ys ns I5 nD z rv.1 ⟨m, hm⟩ (I2.fpOk (by omega) ?_)
      rw [upd_ne (Ne.symm hDC)]; exact I4.free
    · refine thn (T.item (cxC X Nc scope C s2 H2 fp) rfl rfl rfl hc i _ s3 σ3 H3 (fun _ _ => False) I3 (stat hps fr3) st3 go) fun r s4 ⟨u, hr, h4⟩ => ?_
      subst hr
      refine thn h4 fun _ s5 ⟨x, H5, I5, r5, y5, st5, fr5⟩ => ?_
      have I5' := I5.pinned (stat hps fr5) (T.obj _ _ st5)
      refine thn (hg C s2 H2 fp _ s5 σ3 H5 x u _ I5' r5 (step x H5 y5)) fun _ s6 ⟨σ6, H6, I6, q6⟩ => ?_
      refine thn (ht C s2 H2 fp _ s6 σ6 H6 _ I6 q6) fun ok s7 ⟨H7, I7, q7⟩ => ?_
      have tnK : ∀ {σ' : L2.St} {H' : Hp} {s' : Shared}, Inv (cxC X Nc scope C s2 H2 fp) ([(D, ob)] ++ pinsAt fp s5.heap) σ' H' s' → tn (i + 1) s'.heap ∧ (∀ b ∈ fp, H' b = none) ∧ (∀ b ∈ fp, ∀ o, s5.heap.get? b = some o → s'.heap.get? b = some o) := fun {σ' H' s'} I' =>
       ⟨T.keep _ _ _ st5 fun b hb o e => (I'.pin (b, o) (List.mem_append_right _ (List.mem_append_right _ (mem_pinsAt hb e)))).1, fun b hb => by
        obtain ⟨o, e, d⟩ := T.obj _ _ st5 b hb
        exact (I'.pin (b, o) (List.mem_append_right _ (List.mem_append_right _ (mem_pinsAt hb e)))).2.1, fun b hb o e => (I'.pin (b, o) (List.mem_append_right _ (List.mem_append_right _ (mem_pinsAt hb e)))).1⟩
      cases ok with
      | false =>
       have q7 : ∃ m', m' < n ∧ W (i + 1) m' ys σ6 H7 := q7
       obtain ⟨m', hm, w7⟩ := q7
       obtain ⟨k1, k2, _⟩ := tnK I7
       exact ⟨m', hm, i + 1, ys, σ6, H7, ns, ob, I7.unpinned, rv, dk, k1, k2, w7⟩
      | true =>
       have q7 : te σ6 H7 fun y H5 => ∃ k : Int, y = .int k ∧ ∃ m', m' < n ∧ W (i + 1) m' (ys ++ [y]) σ6 H5 := q7
       refine thn (he C s2 H2 fp _ s7 σ6 H7 _ I7 q7) fun y s9 ⟨yv, H9, I9, r9, ke, eke, m', hm, w9⟩ => ?_
       subst eke
       obtain ⟨tok, rfl⟩ := r9
       obtain ⟨k1, k2, k3⟩ := tnK I9
       obtain ⟨eD, nD, _, nfD, _⟩ := I9.pin (D, ob) (List.mem_append_right _ (List.mem_append_left _ (List.mem_singleton.mpr rfl)))
       have eD : s9.heap.get? D = _ := eD
       refine call_addI (dk.1 _ eD) (by have : scanBound = 4096 := rfl; omega) fun h' t' ns' sb si pe => ?_
       obtain ⟨ob', eo, dk'⟩ := Sk.of si
       have I10 : Inv (cxC X Nc scope C s2 H2 fp) [] σ6 H9 { s9 with heap := h', toks := t' } := (I9.pins_of (pins' := []) (fun p hp => nomatch hp)).turned (t' := t') (it := D) (fun b o hb e => (sb.2 b hb).trans e) nD hDC (.inr (by show s2.heap.objs.size ≤ D; omega))
        (fun x c e => Nat.ne_of_lt (hclt x c e)) (fun p hp => absurd (show p ∈ ([] : List (Addr × Obj)) from hp) (by simp))
       have mem : ∀ x, x ∈ ns' ↔ V.int x ∈ ys ++ [V.int ke] := fun x => by
        rw [pe.mem_iff, List.mem_append, List.mem_singleton, ← rv.1 x]
        by_cases hk : ke ∈ ns
        · rw [if_pos hk]
          exact ⟨.inl, fun z => z.elim id fun z => by cases z; exact hk⟩
        · rw [if_neg hk, List.mem_cons]
          exact ⟨fun z => z.elim (fun z => .inr (by rw [z])) .inl, fun z => z.elim .inr fun z => by cases z; exact .inl rfl⟩
       have len : ns'.length ≤ (ys ++ [V.int ke]).length ∧ ns'.length ≤ 2000 := by
        have := rv.2.1
        rw [pe.length_eq, List.length_append]
        split
        · exact ⟨by omega, by omega⟩
        · rw [List.length_cons]; exact ⟨by simp; omega, by omega⟩
       refine ⟨m', hm, i + 1, ys ++ [V.int ke], σ6, H9, ns', ob', I10.pins_of fun p hp => ?_, ⟨mem, len⟩, dk', T.keep _ _ _ k1 fun b hb o e => (sb.2 b (hfpN b hb)).trans e, k2, w9⟩
       rcases List.mem_singleton.mp hp with rfl
       exact ⟨eo, nD, hDC, nfD, dk'.2⟩
  · refine ⟨0, [], _, H2, [], _, IB.pins_of fun p hp => ?_, ⟨fun x => ⟨fun z => (nomatch z), fun z => (nomatch z)⟩, Nat.le_refl _, Nat.zero_le _⟩, ⟨fun h e => setI_new h D e, fun v z => by cases z⟩, T.keep _ _ _ st2 fun b hb o e => old b o e, fun b hb => (f2 b hb).1, w0⟩
    rcases List.mem_singleton.mp hp with rfl
    exact ⟨hacc, I2.hok.fresh (by omega), hDC, hfs D (Nat.le_refl _), fun v z => by cases z⟩
 exact compStart_set (loop _ rfl) (T.self _ 0 _ _ _ (T.keep _ _ _ st2 fun b hb o e => old b o e) (loop _ rfl))
def tSComp (w : World) (n : Nat) (wi : TI) (g : TG) (tt : TT) (te : TE) : TE := fun σ H Q => ∃ Z : List V → Hp → Prop, (wi σ H fun J H1 => CmpS J g tt te (List.replicate n none ++ σ) H1 Z) ∧ ∀ ys H', Z ys H' → ∀ p ns H2, H' p = none → L2.Same H' H2 → (∀ x, x ∈ ns ↔ V.int x ∈ ys) → ns.Nodup → H2 p = some (SetO w p ns) → Q (.ref p) H2
theorem pe_scomp (hc : X.calm = true) (S : CompS X scope) (hs : ∀ x, foldedSetIterable iter X.env x = pure x) (hi : PI X tg iter wi)
 (hg : ∀ C s H fp, PG (cxC X Nc scope C s H fp) tg g) (ht : ∀ C s H fp, PIfs (cxC X Nc scope C s H fp) ifs tt) (he : ∀ C s H fp, PE (cxC X Nc scope C s H fp) elt te) :
 PE X (.SetComp elt [⟨tg, iter, ifs, 0⟩] scope pos) (tSComp X.w Nc.length wi g tt te) := by
 intro pins s σ H Q I ⟨Z, h, hZ⟩
 have hcells := fun y hy e => I.ok.has y.1 (S.free y hy e)
 refine wpAny_comprehension_free rfl hs (closure_of hcells) S.kind S.names (thn (hi pins s σ H _ I h) fun v s1 h1 => thn h1 fun itv s2 h2 => ?_)
 obtain ⟨it, fp, tn, J, H2, e, I2, T, st2, f2, z⟩ := h2
 subst e
 refine scomp_block hc S I2 T st2 f2 hg ht he z fun D C s' H3 ys ns I' hD hz hmem hm hf => ?_
 obtain ⟨m, hm⟩ := hm
 exact ⟨m, hm, fun h' sb => ⟨.ref D, _, I'.turned (fun b o hb e => (sb.2 b hb).trans e) hf.1 hf.2.1 hf.2.2.2.1 hf.2.2.2.2.1 hf.2.2.2.2.2, rfl, hZ ys H3 hz D ns _ hD (Br.Same.upd hD) hmem (let ⟨_, _, _, _, _, _, _, _, _, n, _⟩ := (I'.hok D _ upd_same).1; n) upd_same⟩⟩
end
section
variable {X : Cx}
theorem inv_draws {σ : L2.St} (I : Inv X pins σ H s) (d : _) : Inv X pins σ H { s with drawn := d } := ⟨I.ok, I.os, I.bare, I.base, I.loc, I.cell, I.free, I.freeC, I.pin, I.hok, I.len⟩
def rSortSet (w : World) : List V → Hp → VK → Prop := fun xs H Q => ∃ (p : Addr) (ns : List Int), xs = [.ref p] ∧ H p = some (SetO w p ns) ∧ ns.length < 64 ∧ ∀ (l : Addr) (ms : List Int) (H' : Hp), H l = none → L2.Same H H' → H' l = some (.lst (ms.map V.int)) → ms.Pairwise (· < ·) → (∀ x, x ∈ ms ↔ x ∈ ns) → Q (.ref l) H'
theorem call_sortSet (hc : X.calm = true) : CallR X (.builtin "sorted") (rSortSet X.w) := by
 intro pins s σ H xs us Q I r h
 obtain ⟨p, ns, rfl, hq, hlen, q⟩ := h
 obtain ⟨u, rfl, rx⟩ := vals1 r
 cases rx
 have si : SetI X.w s.heap p ns := (show ObjOk X.prog X.w H s.heap p (SetO X.w p ns) from I.hok p _ hq).1
 have hnd : ns.Nodup := let ⟨_, _, _, _, _, _, _, _, _, n, _⟩ := si; n
 refine sorted_gen2S (α := Int × Tok) (f := fun z => .int z.1) (g := fun z => .int z.1 z.2) (fun _ H' zs => H' = H ∧ (zs.map (·.1)).Perm ns) (fun _ x y => decide (numOf x.1 < numOf y.1)) (fun _ => ord_int fun x => numOf x.1) (fun R E hR => ?_) (fun s3 H3 zs hF => ⟨fun z _ => ⟨z.2, rfl⟩, ?_⟩) (fun s3 H3 zs I3 hF h2 h6 old => ⟨oneType', fun Q E hQ => ?_, fun x y hx hy Q E hQ => ?_⟩) (fun s3 H3 zs hF l ys H' n1 q3 e1 hp hs => ?_)
 · refine set_collect (A := X.A.in1) (I.ok.hd hc) si fun h' d tk vs os k pe iv => ?_
   obtain ⟨zs, z1, z2⟩ : ∃ zs : List (Int × Tok), zs.map (·.1) = os ∧ zs.map (fun z => Value.int z.1 z.2) = vs := by
    clear pe k
    induction iv with
    | nil => exact ⟨[], rfl, rfl⟩
    | cons n t _ ih =>
     obtain ⟨zs, h1, h2⟩ := ih
     exact ⟨(n, t) :: zs, by rw [List.map_cons, h1], by rw [List.map_cons, h2]⟩
   rw [← z2]
   exact hR _ H zs (inv_draws (I.kept (t' := tk) k) d) ⟨rfl, by rw [z1]; exact pe⟩
 · have := hF.2.length_eq
   rw [List.length_map] at this; omega
 · match zs, h2 with
   | z1 :: z2 :: zr, _ =>
    have ii : ∀ l : List (Int × Tok), IntsAre (l.map fun z => Value.int z.1 z.2) (l.map (·.1)) := fun l => by
     induction l with
     | nil => exact .nil
     | cons z l ih => exact .cons _ _ ih
    rw [List.map_cons, List.map_cons, keyKind_ints (ii (z1 :: z2 :: zr))]
    exact wpAny_pure hQ
   | [], h => simp at h
   | [_], h => simp at h
 · rw [pairs_map] at hx hy
   obtain ⟨z1, _, e1⟩ := List.mem_map.mp hx
   obtain ⟨z2, _, e2⟩ := List.mem_map.mp hy
   rw [← e1, ← e2] at hQ ⊢
   rw [keyLt'_oneType]
   exact oneLt_int hQ
 · obtain ⟨rfl, pn⟩ := hF
   have pm : (ys.map (·.1)).Perm ns := (hp.map _).trans pn
   have nd : (ys.map (·.1)).Nodup := pm.nodup_iff.mpr hnd
   refine q l (ys.map (·.1)) H' n1 q3 (by rw [e1, List.map_map]; rfl) ?_ fun x => pm.mem_iff
   have hs' : (ys.map (·.1)).Pairwise fun a b : Int => ¬ b < a := List.pairwise_map.mpr ((List.pairwise_map.mp hs).imp fun {a b} h => of_decide_eq_false h)
   exact (hs'.and nd).imp fun {a b} ⟨h1, h2⟩ => by omega
def rSet (w : World) (K : PySem.W.Frag) : List V → Hp → VK → Prop := fun xs H Q => ∃ (p : Addr) (ns : List Int), xs = [.ref p] ∧ (SqL K H p (ns.map V.int) ∨ SqT K H p (ns.map V.int)) ∧ ns.length < 2000 ∧ ∀ (d : Addr) (ms : List Int) (H' : Hp), H d = none → L2.Same H H' → H' d = some (SetO w d ms) → (∀ x, x ∈ ms ↔ x ∈ ns) → ms.length ≤ ns.length → Q (.ref d) H'
theorem nodup_len : ∀ {ms ns : List Int}, ms.Nodup → (∀ x ∈ ms, x ∈ ns) → ms.length ≤ ns.length
 | [], _, _, _ => Nat.zero_le _
 | m :: ms, ns, nd, h => by
  rw [List.nodup_cons] at nd
  have hm := h m (.head _)
  have p := List.perm_cons_erase hm
  have := nodup_len nd.2 fun x hx => (List.mem_erase_of_ne (fun z : x = m => nd.1 (by grind))).mpr (h x (.tail _ hx))
  rw [p.length_eq, List.length_cons, List.length_cons]; omega
theorem call_setL (hc : X.calm = true) : CallR X (.type "set") (rSet X.w X.K) := by
 intro pins s σ H xs us Q I r h
 obtain ⟨p, ns, rfl, hq, hlen, q⟩ := h
 obtain ⟨u, rfl, rx⟩ := vals1 r
 cases rx
 obtain ⟨its, o, T, cn, rv, hT, ho, hcl, hd, hz⟩ := seq_obj I hq
 have iv : IntsAre its ns := Br.vals_ints rv
 have hb : (its.toArray).size + 1 < scanBound := by
  have := iv.length
  rw [List.size_toArray, this, show scanBound = 4096 from rfl]; omega
 refine call_setI (I.ok.hd hc) (ns := ns) (by rcases hT with rfl | rfl; exact .inl ⟨o, ho, hcl, cn, hd⟩; exact .inr ⟨o, ho, hcl, cn, hd⟩) (by simpa using iv) hb fun h' tk ms si hm k => ?_
 have nd : ms.Nodup := let ⟨_, _, _, _, _, _, _, _, _, n, _⟩ := si; n
 exact ⟨.ref s.heap.objs.size, _, I.laid (t' := tk) k (Nat.le_refl _) (setO_ok si), rfl, q _ ms _ (I.hok.fresh (Nat.le_refl _)) (Br.Same.upd (I.hok.fresh (Nat.le_refl _))) upd_same hm (nodup_len nd fun x hx => (hm x).mp hx)⟩
theorem PE.weak (h : PE X e t) (w : ∀ σ H Q, t' σ H Q → t σ H Q) : PE X e t' := fun pins s σ H Q I q => h pins s σ H Q I (w σ H Q q)
theorem boot_set : bootBuiltins "set" = some (.type "set") := by rfl
def tUp (te : TE) : TE := fun σ H Q => ∃ Q', te σ H Q' ∧ ∀ v H', Q' v H' → Q v H'
theorem PE.up (h : PE X e te) : PE X e (tUp te) := fun pins s σ H Q I ⟨Q', q, m⟩ => wpAny_mono (h pins s σ H Q' I q) (fun u s' ⟨v, H', I', r, q'⟩ => ⟨v, H', I', r, m v H' q'⟩) fun _ _ x => x
theorem same_none (s : L2.Same H H') (h : H' a = none) : H a = none := by
 cases e : H a with
 | none => rfl
 | some o => rw [s _ _ e] at h; omega
def tSortSet (K : PySem.W.Frag) (te : TE) : TE := fun σ H Q => te σ H fun v H1 => ∃ (p : Addr) (ns : List Int), v = .ref p ∧ (SqL K H1 p (ns.map V.int) ∨ SqT K H1 p (ns.map V.int)) ∧ ns.length < 64 ∧ ∀ (l : Addr) (ms : List Int) (H' : Hp), H1 l = none → L2.Same H1 H' → H' l = some (.lst (ms.map V.int)) → ms.Pairwise (· < ·) → (∀ x, x ∈ ms ↔ x ∈ ns) → Q (.ref l) H'
theorem k_sortSet {K : PySem.W.Frag} {x y : Str} (hK : X.K = K) (hx : x = "sorted") (hy : y = "set") (hgx : Gl X x) (hgy : Gl X y) (hmx : X.mg x = none) (hmy : X.mg y = none) (hc : X.calm = true)
 (s1 : starEach [e] X.env = (false, eval e X.env) :: starEach [] X.env) (s2 : starEach [.Call (.Name y p1) [e] [] p2] X.env = (false, eval (.Call (.Name y p1) [e] [] p2) X.env) :: starEach [] X.env) (hpl : ∀ pos, (backTo pos (starEach [] X.env)).any (·.1) = false)
 (he : JE X e te) : JE X (.Call (.Name x p3) [.Call (.Name y p1) [e] [] p2] [] p4) (tSortSet K te) := by
 subst hK hx hy
 refine ⟨PE.weak (pe_callB (call_sortSet hc) hgx hmx boot_sorted (pa_cons (pe_callTy (call_setL hc) hgy hmy boot_set (pa_cons (PE.up he.h) pa_nil s1) (by decide) (by decide) s1 (hpl _)) pa_nil s2) (by decide) (by decide) s2 (hpl _)) fun σ H Q h => ⟨_, h, fun v H1 q => ?_⟩⟩
 obtain ⟨p, ns, rfl, hq, hl, q⟩ := q
 exact ⟨p, ns, rfl, hq, by omega, fun d ms H2 nd s2 e2 hm hml => ⟨d, ms, rfl, e2, by omega, fun l rs H3 nl s3 e3 pw hr => q l rs H3 (same_none s2 nl) (s2.trans s3) e3 pw fun x => (hr x).trans (hm x)⟩⟩
def tSortSC (n : Nat) (wi : TI) (g : TG) (tt : TT) (te : TE) : TE := fun σ H Q => wi σ H fun J H1 => CmpS J g tt te (List.replicate n none ++ σ) H1 fun ys H' => ys.length < 64 ∧ ∀ (l : Addr) (ms : List Int) (H2 : Hp), H' l = none → L2.Same H' H2 → H2 l = some (.lst (ms.map V.int)) → ms.Pairwise (· < ·) → (∀ x, x ∈ ms ↔ V.int x ∈ ys) → Q (.ref l) H2
theorem k_sortSC1 {x y : Str} {ifs : List Expr} {scope : Scope} {wi : TI} {tt : TT} {te : TE} (hx : x = "sorted") (hgx : Gl X x) (hmx : X.mg x = none) (hc : X.calm = true) (S : compB X.env.scope.names X.N scope = true) (hs : ∀ x, foldedSetIterable iter X.env x = pure x) (hN : X.N.Nodup)
 (s2 : starEach [.SetComp elt [⟨.Name y py, iter, ifs, 0⟩] scope pos] X.env = (false, eval (.SetComp elt [⟨.Name y py, iter, ifs, 0⟩] scope pos) X.env) :: starEach [] X.env) (hpl : ∀ pos, (backTo pos (starEach [] X.env)).any (·.1) = false)
 (hk : scope.names.lookup y = some .local) (hi : JI X (.Name y py) iter wi) (ht : ∀ C s H fp, JIfs (cxC X [y] scope C s H fp) ifs tt) (he : ∀ C s H fp, JE (cxC X [y] scope C s H fp) elt te) :
 JE X (.Call (.Name x p3) [.SetComp elt [⟨.Name y py, iter, ifs, 0⟩] scope pos] [] p4) (tSortSC 1 wi (gName 0) tt te) := by
 subst hx
 refine ⟨PE.weak (pe_callB (call_sortSet hc) hgx hmx boot_sorted (pa_cons (pe_scomp (Nc := [y]) hc (.of S) hs hi.h (g_C1 (.of S) hN hk) (fun C s H fp => (ht C s H fp).h) fun C s H fp => (he C s H fp).h) pa_nil s2) (by decide) (by decide) s2 (hpl _)) fun σ H Q h => ⟨_, h, fun ys H' q p ns H2 np s2 hm nd e2 => ?_⟩⟩
 obtain ⟨hl, q⟩ := q
 have hln := by
  exact Nat.le_trans (nodup_len nd (ns := ys.filterMap fun v => match v with | .int k => some k | _ => none) fun x hx => List.mem_filterMap.mpr ⟨_, (hm x).mp hx, rfl⟩) (List.length_filterMap_le _ _)
 exact ⟨p, ns, rfl, e2, by omega, fun l ms H3 nl s3 e3 pw hr => q l ms H3 (same_none s2 nl) (s2.trans s3) e3 pw fun x => (hr x).trans (hm x)⟩
end
end Br
namespace Br
namespace ZG
open PySem PySem.Spec PySem.Calls PyProof.Rows L2
def SI : Bool → Heap → Addr → Addr → Nat → Prop
 | true, h, c, d, k => h.IsTupleIter c d k
 | false, h, c, d, k => h.IsListIter c d k
def SS : Bool → Heap → Addr → Array Value → Prop
 | true, h, d, xs => h.IsTuple d xs
 | false, h, d, xs => h.IsList d xs
def SqS : Bool → PySem.W.Frag → Hp → Addr → List V → Prop
 | true, K, H, a, xs => SqT K H a xs
 | false, K, H, a, xs => SqL K H a xs
abbrev itn (f : Bool) : String := if f = true then "tuple_iterator" else "list_iterator"
theorem SI.at (i : SI f h c d k) (q : ∀ ob, h.get? c = some ob → h'.get? c = some ob) : SI f h' c d k := by
 cases f with
 | true => exact Heap.IsTupleIter.at i q
 | false => exact Heap.IsListIter.at i q
theorem SS.at (i : SS f h d xs) (q : ∀ ob, h.get? d = some ob → h'.get? d = some ob) : SS f h' d xs := by
 cases f with
 | true => obtain ⟨ob, a, b⟩ := i; exact ⟨ob, q _ a, b⟩
 | false => obtain ⟨ob, a, b⟩ := i; exact ⟨ob, q _ a, b⟩
theorem SI.ob (i : SI f h c d k) : ∃ ob, h.get? c = some ob ∧ ob.data = .fields #[.ref d, rawInt k] := by
 cases f with
 | true => obtain ⟨ob, a, _, b⟩ := i; exact ⟨ob, a, b⟩
 | false => obtain ⟨ob, a, _, b⟩ := i; exact ⟨ob, a, b⟩
theorem SI.new (e : h.get? c = some { cls := .type (itn f), data := .fields #[.ref d, .int 0 0] }) : SI f h c d 0 := by
 cases f with
 | true => exact ⟨_, e, rfl, rfl⟩
 | false => exact ⟨_, e, rfl, rfl⟩
section
variable {s : Shared}
theorem gnext (hI : SI f s.heap c d k) (hT : SS f s.heap d zs) (hv : zs[k]? = some v)
 (go : ∀ g, SI f g c d (k + 1) → Heap.SameBut c s.heap g → Q v { s with heap := g }) : wpAny (model prog w) A (Builtin.SmallTypes.nextOf (.ref c)) Q E s := by
 cases f with
 | true => exact Br.tnext hI hT hv go
 | false => exact ZL.tnext hI hT hv go
theorem gnone (hh : A.handled = none) (hI : SI f s.heap c d k) (hT : SS f s.heap d zs) (hv : zs[k]? = none)
 (go : ∀ g e, Heap.ExtBut c s.heap g → (∃ o, g.get? e = some o ∧ o.cls = .type "StopIteration") → E (.ref e) { s with heap := g }) : wpAny (model prog w) A (Builtin.SmallTypes.nextOf (.ref c)) Q E s := by
 cases f with
 | true => exact Br.tnone hh hI hT hv go
 | false => exact ZL.tnone hh hI hT hv go
theorem giter (hT : SS f s.heap d zs) (h : Q (.ref s.heap.objs.size) { s with heap := s.heap.push { cls := .type (itn f), data := .fields #[.ref d, .int 0 0] } }) : wpAny (model prog w) A (pyIter (.ref d)) Q E s := by
 cases f with
 | true => exact wpAny_pyIter_tuple hT h
 | false => exact wpAny_pyIter_list hT h
structure Zp (f1 f2 : Bool) (h : Heap) (z u o c1 c2 d e : Addr) (xs ys : Array Value) (k : Nat) : Prop where
 zip : IsZip h z u o .none
 its : IsPair h u (.ref c1) (.ref c2)
 own : ∃ a b, IsPair h o a b
 i1 : SI f1 h c1 d k
 i2 : SI f2 h c2 e k
 t1 : SS f1 h d xs
 t2 : SS f2 h e ys
theorem zitem {Q : Value → Shared → Prop} (P : Ap z u o c1 c2 d e) (Z : Zp f1 f2 s.heap z u o c1 c2 d e xs ys k) (hx : xs[k]? = some x) (hy : ys[k]? = some y)
 (go : ∀ g, IsZip g z u o (rawInt s.heap.objs.size) → IsPair g o x y → SI f1 g c1 d (k + 1) → SI f2 g c2 e (k + 1) → IsPair g s.heap.objs.size x y → g.objs.size = s.heap.objs.size + 1 →
  (∀ b ob, b ≠ z → b ≠ o → b ≠ c1 → b ≠ c2 → s.heap.get? b = some ob → g.get? b = some ob) → Q (.ref s.heap.objs.size) { s with heap := g }) :
 wpAny (model prog w) A (Builtin.«zip.__next__» ⟨[.ref z], []⟩) (fun fin s' => ∃ v, fin = .done (.ret v) ∧ Q v s') E s := by
 obtain ⟨n1, n2, n3, n4, n5, n6, n7, n8, n9, n10⟩ := P.all
 obtain ⟨dz, ez⟩ := P.nd z (by simp)
 obtain ⟨do', eo⟩ := P.nd o (by simp)
 obtain ⟨dc1, ec1⟩ := P.nd c1 (by simp)
 exact zdraw P.ne Z.zip Z.its Z.own
  (fun g q _ _ r => gnext (Z.i1.at fun ob a => q.extBut _ ob (Ne.symm n3) a) (Z.t1.at fun ob a => q.extBut _ _ dz a) hx r)
  (fun g q _ _ r => gnext (Z.i2.at fun ob a => q _ ob (Ne.symm n4) (Ne.symm n10) (Ne.symm n9) a) (Z.t2.at fun ob a => q _ _ ez ec1 eo a) hy r)
  (fun _ _ j q => j.at q) (fun _ _ j q => j.at q) go
theorem znone (hh : A.handled = none) (P : Ap z u o c1 c2 d e) (Z : Zp f1 f2 s.heap z u o c1 c2 d e xs ys k) (hv : xs[k]? = none ∨ ys[k]? = none)
 (go : ∀ g x, (∀ b ob, b ≠ z → b ≠ o → b ≠ c1 → b ≠ c2 → s.heap.get? b = some ob → g.get? b = some ob) → (∃ ob, g.get? x = some ob ∧ ob.cls = .type "StopIteration") → E (.ref x) { s with heap := g }) :
 wpAny (model prog w) A (Builtin.«zip.__next__» ⟨[.ref z], []⟩) Q E s := by
 obtain ⟨n1, n2, n3, n4, n5, n6, n7, n8, n9, n10⟩ := P.all
 obtain ⟨dz, ez⟩ := P.nd z (by simp)
 obtain ⟨do', eo⟩ := P.nd o (by simp)
 obtain ⟨dc1, ec1⟩ := P.nd c1 (by simp)
 cases hx : xs[k]? with
 | none =>
  exact zdrawNo P.ne Z.zip Z.its Z.own (.inl fun g q _ _ r => gnone hh (Z.i1.at fun ob a => q.extBut _ ob (Ne.symm n3) a) (Z.t1.at fun ob a => q.extBut _ _ dz a) hx r) go
 | some x1 =>
  have hy := hv.resolve_left (by grind)
  exact zdrawNo P.ne Z.zip Z.its Z.own (.inr ⟨x1, fun g q _ _ r => gnext (Z.i1.at fun ob a => q.extBut _ ob (Ne.symm n3) a) (Z.t1.at fun ob a => q.extBut _ _ dz a) hx fun g' _ e => r g' e,
   fun g q _ _ r => gnone hh (Z.i2.at fun ob a => q _ ob (Ne.symm n4) (Ne.symm n10) (Ne.symm n9) a) (Z.t2.at fun ob a => q _ _ ez ec1 eo a) hy r⟩) go
theorem znext (P : Ap z u o c1 c2 d e) (Z : Zp f1 f2 s.heap z u o c1 c2 d e xs ys k) (hx : xs[k]? = some x) (hy : ys[k]? = some y)
 (go : ∀ g, IsZip g z u o (rawInt s.heap.objs.size) → IsPair g o x y → SI f1 g c1 d (k + 1) → SI f2 g c2 e (k + 1) → IsPair g s.heap.objs.size x y → g.objs.size = s.heap.objs.size + 1 →
  (∀ b ob, b ≠ z → b ≠ o → b ≠ c1 → b ≠ c2 → s.heap.get? b = some ob → g.get? b = some ob) → Q (some (.ref s.heap.objs.size)) { s with heap := g }) : wpAny (model prog w) A (pyNext (.ref z)) Q E s := by
 have hT : s.TypeIs (.ref z) "zip" := ⟨_, Z.zip, rfl⟩
 exact wpAny_bind (wpAny_attempt (wpAny_callSpecial?_slot hT F.slot_zip_next (wpAny_call_entry F.slot_zip_next hT F.entry_zip_next (zitem P Z hx hy fun g a1 a2 a3 a4 a5 a6 a7 => wpAny_pure (go g a1 a2 a3 a4 a5 a6 a7)) (F.args_zip_next_1 _))))
theorem zstop (hh : A.handled = none) (P : Ap z u o c1 c2 d e) (Z : Zp f1 f2 s.heap z u o c1 c2 d e xs ys k) (hv : xs[k]? = none ∨ ys[k]? = none)
 (go : ∀ g, (∀ b ob, b ≠ z → b ≠ o → b ≠ c1 → b ≠ c2 → s.heap.get? b = some ob → g.get? b = some ob) → Q none { s with heap := g }) : wpAny (model prog w) A (pyNext (.ref z)) Q E s := by
 have hT : s.TypeIs (.ref z) "zip" := ⟨_, Z.zip, rfl⟩
 refine wpAny_bind (wpAny_attempt (wpAny_callSpecial?_slot hT F.slot_zip_next (wpAny_call_entry F.slot_zip_next hT F.entry_zip_next (znone hh P Z hv fun g x hk he => ?_) (F.args_zip_next_1 _))))
 obtain ⟨ob, hob, hcb⟩ := he
 exact wpAny_bind (wpAny_isInstance ⟨ob, hob, hcb⟩ isSubtype_stop (wpAny_pure (go _ hk)))
abbrev zh1 (f1 : Bool) (h : Heap) (d : Addr) : Heap := h.push { cls := .type (itn f1), data := .fields #[.ref d, .int 0 0] }
abbrev zh2 (f1 f2 : Bool) (h : Heap) (d e : Addr) : Heap := (zh1 f1 h d).push { cls := .type (itn f2), data := .fields #[.ref e, .int 0 0] }
abbrev zh3 (f1 f2 : Bool) (h : Heap) (d e : Addr) : Heap := (zh2 f1 f2 h d e).push { cls := .type "tuple", data := .seq #[.ref h.objs.size, .ref (zh1 f1 h d).objs.size] }
abbrev zh4 (f1 f2 : Bool) (h : Heap) (d e : Addr) : Heap := (zh3 f1 f2 h d e).push { cls := .type "tuple", data := .seq #[.none, .none] }
abbrev zh5 (f1 f2 : Bool) (h : Heap) (d e : Addr) : Heap := (zh4 f1 f2 h d e).push { cls := .type "zip", data := .fields #[.none, .bool false, .bool false, .ref (zh2 f1 f2 h d e).objs.size, .ref (zh3 f1 f2 h d e).objs.size] }
theorem zmeets (f1 f2 : Bool) (d e : Addr) (xs ys : Array Value) : Meets (Builtin.«zip.__new__» ⟨[.type "zip", .ref d, .ref e], []⟩) (fun _ R s => SS f1 s.heap d xs ∧ SS f2 s.heap e ys ∧ R (.ok (.ret (.ref (zh4 f1 f2 s.heap d e).objs.size))) { s with heap := zh5 f1 f2 s.heap d e }) :=
 .of_wp fun prog w A R s h => by
  obtain ⟨hp, g, dr, tk, os⟩ := s
  obtain ⟨h1, h2, h⟩ := h
  have hsub := sub_zip
  have q1 : SS f1 (Shared.heap ⟨hp, g, dr, tk, os⟩) d xs := h1
  have q2 : SS f2 (Shared.heap ⟨hp.push { cls := .type (itn f1), data := .fields #[.ref d, .int 0 0] }, g, dr, tk, os⟩) e ys := h2.at fun ob q => Heap.get?_push_of_some _ q
  wp_walk using giter q1, giter q2
  exact ⟨_, rfl, h⟩
theorem zmake (h1 : SS f1 s.heap d xs) (h2 : SS f2 s.heap e ys)
 (go : ∀ g, Zp f1 f2 g (s.heap.objs.size + 4) (s.heap.objs.size + 2) (s.heap.objs.size + 3) s.heap.objs.size (s.heap.objs.size + 1) d e xs ys 0 → (∀ b ob, s.heap.get? b = some ob → g.get? b = some ob) → Q (.ref (s.heap.objs.size + 4)) { s with heap := g }) :
 wpAny (model prog w) A (call (.type "zip") [.ref d, .ref e]) Q E s := by
 refine callType_new F.called_zip (by decide) (F.typeCall_zip_2 _ _) (F.newCall_zip_2 _ _) (fun obj => F.args_object_init_3 obj _ _) F.entry_zip_new (zmeets f1 f2 d e xs ys) ⟨h1, h2, ?_⟩
 have s1 : (zh1 f1 s.heap d).objs.size = s.heap.objs.size + 1 := Heap.size_push ..
 have s2 : (zh2 f1 f2 s.heap d e).objs.size = s.heap.objs.size + 2 := by rw [Heap.size_push, s1]
 have s3 : (zh3 f1 f2 s.heap d e).objs.size = s.heap.objs.size + 3 := by rw [Heap.size_push, s2]
 have s4 : (zh4 f1 f2 s.heap d e).objs.size = s.heap.objs.size + 4 := by rw [Heap.size_push, s3]
 have g5 : (zh5 f1 f2 s.heap d e).get? (zh4 f1 f2 s.heap d e).objs.size = some _ := Heap.get?_push_size _ rfl
 have g4 : (zh5 f1 f2 s.heap d e).get? (zh3 f1 f2 s.heap d e).objs.size = some _ := Heap.get?_push_of_some _ (Heap.get?_push_size _ rfl)
 have g3 : (zh5 f1 f2 s.heap d e).get? (zh2 f1 f2 s.heap d e).objs.size = some _ := Heap.get?_push_of_some _ (Heap.get?_push_of_some _ (Heap.get?_push_size _ rfl))
 have g2 : (zh5 f1 f2 s.heap d e).get? (zh1 f1 s.heap d).objs.size = some _ := Heap.get?_push_of_some _ (Heap.get?_push_of_some _ (Heap.get?_push_of_some _ (Heap.get?_push_size _ rfl)))
 have g1 : (zh5 f1 f2 s.heap d e).get? s.heap.objs.size = some _ := Heap.get?_push_of_some _ (Heap.get?_push_of_some _ (Heap.get?_push_of_some _ (Heap.get?_push_of_some _ (Heap.get?_push_size _ rfl))))
 have old : ∀ b ob, s.heap.get? b = some ob → (zh5 f1 f2 s.heap d e).get? b = some ob := fun b ob q => Heap.get?_push_of_some _ (Heap.get?_push_of_some _ (Heap.get?_push_of_some _ (Heap.get?_push_of_some _ (Heap.get?_push_of_some _ q))))
 rw [s4] at g5
 rw [s3] at g4
 rw [s2] at g3
 rw [s1] at g2
 rw [s1] at g3
 rw [s2, s3] at g5
 have gz := go (zh5 f1 f2 s.heap d e) ⟨g5, g3, ⟨_, _, g4⟩, SI.new g1, SI.new g2, h1.at fun ob q => old _ _ q, h2.at fun ob q => old _ _ q⟩ old
 rw [s4]
 exact ⟨⟨_, g5, rfl⟩, gz⟩
end
section
variable {σ : L2.St}
theorem inv_seq (I : Inv X pins σ H s) (h : SqS f X.K H a xs) : ∃ its : List Value, Vals xs its ∧ SS f s.heap a its.toArray := by
 cases f with
 | true => obtain ⟨t, r, p, _⟩ := I.tuple h; exact ⟨t, r, p⟩
 | false => obtain ⟨t, r, p, _⟩ := I.list h; exact ⟨t, r, p.isList⟩
theorem sqS_apart (I : Inv X pins σ H s) (h : SqS f X.K H d xs) (q : FpOk X pins H b) : d ≠ b := by
 cases f with
 | true => exact sqT_apart I h q
 | false => exact ZL.sqL_apart I h q
theorem sqS_inj (I : Inv X pins σ H s) (h : SqS f X.K H a xs) (q : SqS f X.K H a ys) : xs = ys := by
 cases f with
 | true => exact I.tuple_inj h q
 | false => exact I.list_inj h q
end
def Itz (f1 f2 : Bool) (K : PySem.W.Frag) (a b : Addr) : It :=
 ⟨fun i H => ∃ xs ys x y, SqS f1 K H a xs ∧ SqS f2 K H b ys ∧ xs[i]? = some x ∧ ys[i]? = some y,
  fun i H v H' => ∃ (x y : V) (T : Addr), v = .ref T ∧ H T = none ∧ H' = upd H T (.tup [x, y]) ∧ ∀ xs ys, SqS f1 K H a xs → SqS f2 K H b ys → xs[i]? = some x ∧ ys[i]? = some y,
  fun i H => ∃ xs ys, SqS f1 K H a xs ∧ SqS f2 K H b ys ∧ (xs.length ≤ i ∨ ys.length ≤ i)⟩
theorem turn_zip {f1 f2 : Bool} {P : Program} {w : World} {K : PySem.W.Frag} {es : List Expr} {kt : Nat} {pt : Pos} {z u o c1 c2 a b : Addr} (ne : [z, u, o, c1, c2].Nodup) :
 Turn P w K (.Tuple es kt pt) (Itz f1 f2 K a b) [z, u, o, c1, c2] z (fun i h => IsZip h z u o .none ∧ IsPair h u (.ref c1) (.ref c2) ∧ (∃ x y, IsPair h o x y) ∧ SI f1 h c1 a i ∧ SI f2 h c2 b i) where
 mem := by simp
 obj := fun i h st c hc => by
  obtain ⟨h1, h2, ⟨x, y, h3⟩, h4, h5⟩ := st
  obtain ⟨o4, h4, d4⟩ := h4.ob
  obtain ⟨o5, h5, d5⟩ := h5.ob
  simp only [List.mem_cons, List.mem_nil_iff, or_false] at hc
  rcases hc with rfl | rfl | rfl | rfl | rfl
  · exact ⟨_, h1, fun v q => by cases q⟩
  · exact ⟨_, h2, fun v q => by cases q⟩
  · exact ⟨_, h3, fun v q => by cases q⟩
  · exact ⟨_, h4, fun v q => by rw [d4] at q; cases q⟩
  · exact ⟨_, h5, fun v q => by rw [d5] at q; cases q⟩
 keep := fun i h h' st k => by
  obtain ⟨h1, h2, ⟨x, y, h3⟩, h4, h5⟩ := st
  exact ⟨k _ (by simp) _ h1, k _ (by simp) _ h2, ⟨x, y, k _ (by simp) _ h3⟩, h4.at fun ob q => k _ (by simp) ob q, h5.at fun ob q => k _ (by simp) ob q⟩
 item := by
  intro X hP hw hK hc i pins s σ H E I hf st hg
  subst hP hw hK
  obtain ⟨h1, h2, h3, h4, h5⟩ := st
  obtain ⟨xs, ys, x, y, q1, q2, hx, hy⟩ := hg
  obtain ⟨t1, r1, p1⟩ := inv_seq I q1
  obtain ⟨t2, r2, p2⟩ := inv_seq I q2
  obtain ⟨x', hx', rx⟩ := r1.get hx
  obtain ⟨y', hy', ry⟩ := r2.get hy
  have ap : Ap z u o c1 c2 a b := ⟨ne, fun c hc => ⟨sqS_apart I q1 (hf c hc), sqS_apart I q2 (hf c hc)⟩⟩
  obtain ⟨n1, n2, n3, n4, n5, n6, n7, n8, n9, n10⟩ := ap.all
  refine znext ap ⟨h1, h2, h3, h4, h5, p1, p2⟩ (x := x') (y := y') (by simpa using hx') (by simpa using hy') fun g z1 o1 i1 i2 T1 sz kp => ?_
  refine ⟨_, rfl, wpAny_letOwnedTupleGo_zip z1 fun g' z2 k2 => ?_⟩
  have hfr : H s.heap.objs.size = none := I.hok.fresh (Nat.le_refl _)
  have lt : ∀ c ∈ [z, u, o, c1, c2], c < s.heap.objs.size := fun c hc => by
   simp only [List.mem_cons, List.mem_nil_iff, or_false] at hc
   rcases hc with rfl | rfl | rfl | rfl | rfl
   · exact Heap.lt_size h1
   · exact Heap.lt_size h2
   · obtain ⟨_, _, h3⟩ := h3; exact Heap.lt_size h3
   · obtain ⟨_, h4, _⟩ := h4.ob; exact Heap.lt_size h4
   · obtain ⟨_, h5, _⟩ := h5.ob; exact Heap.lt_size h5
  have all : ∀ c ob, c ∉ [z, u, o, c1, c2] → s.heap.get? c = some ob → g'.get? c = some ob := fun c ob hc q => by
   simp only [List.mem_cons, List.mem_nil_iff, or_false, not_or] at hc
   exact k2.extBut _ _ hc.1 (kp c ob hc.1 hc.2.2.1 hc.2.2.2.1 hc.2.2.2.2 q)
  have zl : z < s.heap.objs.size := lt z (by simp)
  have u' : IsPair g' u (.ref c1) (.ref c2) := k2.extBut _ _ (Ne.symm n1) (kp _ _ (Ne.symm n1) n5 n6 n7 h2)
  have o' : IsPair g' o x' y' := k2.extBut _ _ (Ne.symm n2) o1
  have i1' := i1.at fun ob q => k2.extBut _ ob (Ne.symm n3) q
  have i2' := i2.at fun ob q => k2.extBut _ ob (Ne.symm n4) q
  have T' : IsPair g' s.heap.objs.size x' y' := k2.extBut _ _ (Nat.ne_of_gt zl) T1
  have trk : ∀ c v, H c = some v → c ∉ [z, u, o, c1, c2] := fun c v q hc => by rw [(hf c hc).1] at q; cases q
  have I1 : Inv X pins σ (upd H s.heap.objs.size (.tup [x, y])) { s with heap := g' } := by
   refine I.step (g' := s.gens) (d' := s.drawn) (t' := s.toks) (ch := [z, u, o, c1, c2]) (fun c hc => ?_) (fun c ob _ _ hc q _ => all c ob hc q) (fun c ob _ _ hc q _ => ⟨ob.slots, all c ob hc q⟩) (fun c ob hc q n => ?_) (fun c ob hc q => ⟨ob, all c ob hc q⟩)
    (fun c v q => ?_) (fun c v v' q => ?_) (fun c v q => ⟨#[], ?_⟩) (fun m hm => ?_) (fun c v q => ?_) I.bare
   · obtain ⟨f0, f1, f2, f3, f4, f5⟩ := hf c hc
     exact ⟨f3, f1, f4, f5⟩
   · rw [upd_ne (Nat.ne_of_lt (Heap.lt_size q))]; exact n
   · rw [upd_ne (ne_of_none q hfr)]; exact q
   · rw [upd_ne (ne_of_none q hfr)]; exact q
   · rw [upd_ne (ne_of_none q hfr), q]; simp
   · obtain ⟨ob, es, ep, ho, r⟩ := hm
     exact ⟨ob, es, ep, all _ ob (fun hc => (hf _ hc).2.1 rfl) ho, r⟩
   · by_cases hcT : c = s.heap.objs.size
     · subst hcT
       rw [upd_same] at q; cases q
       exact ⟨by show 2 ≤ sizeLine; decide, [x', y'], .cons rx (.cons ry .nil), ⟨_, T', rfl, _, rfl⟩⟩
     · rw [upd_ne hcT] at q
       refine (I.hok c v q).stay (fun c' ob hc' q' => all c' ob ?_ q') (fun c' q' => by rw [upd_ne (ne_of_none q' hfr)]; exact q') fun c' vs q' => by rw [upd_ne (ne_of_none q' hfr)]; exact q'
       rcases hc' with e | e
       · rw [e]; exact trk c v q
       · exact trk c' _ e
  refine ⟨.ref s.heap.objs.size, _, I1, rfl, ⟨x, y, _, rfl, hfr, rfl, fun xs' ys' e1 e2 => ?_⟩, ⟨z2, u', ⟨_, _, o'⟩, i1', i2'⟩, fun c hc => ?_⟩
  · rw [sqS_inj I e1 q1, sqS_inj I e2 q2]; exact ⟨hx, hy⟩
  · rw [upd_ne (Nat.ne_of_lt (lt c hc))]; exact (hf c hc).1
 done := by
  intro X hP hw hK hc i pins s σ H E I hf st hg
  subst hP hw hK
  obtain ⟨h1, h2, h3, h4, h5⟩ := st
  obtain ⟨xs, ys, q1, q2, hend⟩ := hg
  obtain ⟨t1, r1, p1⟩ := inv_seq I q1
  obtain ⟨t2, r2, p2⟩ := inv_seq I q2
  have ap : Ap z u o c1 c2 a b := ⟨ne, fun c hc => ⟨sqS_apart I q1 (hf c hc), sqS_apart I q2 (hf c hc)⟩⟩
  have e1 := r1.length
  have e2 := r2.length
  refine zstop (I.ok.hd hc) ap ⟨h1, h2, h3, h4, h5, p1, p2⟩ (by
   rcases hend with q | q
   · exact .inl (by simp; omega)
   · exact .inr (by simp; omega)) fun g kp => ⟨rfl, ?_⟩
  have all : ∀ c ob, c ∉ [z, u, o, c1, c2] → s.heap.get? c = some ob → g.get? c = some ob := fun c ob hc q => by
   simp only [List.mem_cons, List.mem_nil_iff, or_false, not_or] at hc
   exact kp c ob hc.1 hc.2.2.1 hc.2.2.2.1 hc.2.2.2.2 q
  have trk : ∀ c v, H c = some v → c ∉ [z, u, o, c1, c2] := fun c v q hc => by rw [(hf c hc).1] at q; cases q
  refine I.step (g' := s.gens) (d' := s.drawn) (t' := s.toks) (ch := [z, u, o, c1, c2]) (fun c hc => ?_) (fun c ob _ _ hc q _ => all c ob hc q) (fun c ob _ _ hc q _ => ⟨ob.slots, all c ob hc q⟩) (fun c ob hc q n => n) (fun c ob hc q => ⟨ob, all c ob hc q⟩)
   (fun c v q => q) (fun c v v' q => q) (fun c v q => ⟨#[], by rw [q]; simp⟩) (fun m hm => ?_) (fun c v q => ?_) I.bare
  · obtain ⟨f0, f1, f2, f3, f4, f5⟩ := hf c hc
    exact ⟨f3, f1, f4, f5⟩
  · obtain ⟨ob, es, ep, ho, r⟩ := hm
    exact ⟨ob, es, ep, all _ ob (fun hc => (hf _ hc).2.1 rfl) ho, r⟩
  · refine (I.hok c v q).stay (fun c' ob hc' q' => all c' ob ?_ q') (fun c' q' => q') fun c' vs q' => q'
    rcases hc' with e | e
    · rw [e]; exact trk c v q
    · exact trk c' _ e
 self := fun _ _ _ _ _ st h => wpAny_pyIter_zip st.1 h
def iZip (K : PySem.W.Frag) (ta : TA) : TI := fun σ H R => ta σ H fun vs H1 => ∃ (f1 f2 : Bool) (a b : Addr) (xs ys : List V), vs = [.ref a, .ref b] ∧ SqS f1 K H1 a xs ∧ SqS f2 K H1 b ys ∧ R (Itz f1 f2 K a b) H1
theorem pi_zip (hg : Gl X "zip") (hm : X.mg "zip" = none) (ha : PA X [a, b] ta) (hs : starEach [a, b] X.env = [(false, eval a X.env), (false, eval b X.env)]) (hs2 : starEach [b] X.env = [(false, eval b X.env)]) :
 PI X (.Tuple es kt pt) (.Call (.Name "zip" p) [a, b] [] pos) (iZip X.K ta) := by
 intro pins s σ H R I h
 refine Call_ (ld_blt I hg hm boot_zip (PyProof.Rows.callWith_type1 (thn (ha pos pins s σ H _ I h) fun us s1 ⟨vs, H1, I1, r1, q1⟩ => ?_) (by rw [hs, hs2]) (by rw [hs2]; rfl)))
 obtain ⟨f1, f2, a, b, xs, ys, e, q1, q2, q⟩ := q1
 subst e
 cases r1 with
 | cons r rr =>
  cases rr with
  | cons r' rr =>
   cases rr
   cases r
   cases r'
   obtain ⟨t1, rv1, p1⟩ := inv_seq I1 q1
   obtain ⟨t2, rv2, p2⟩ := inv_seq I1 q2
   refine zmake p1 p2 fun g Z old => ?_
   have I2 : Inv X pins σ H1 { s1 with heap := g } := I1.kept (t' := s1.toks) old
   refine wpAny_pyIter_zip Z.zip ?_
   refine ⟨s1.heap.objs.size + 4, [s1.heap.objs.size + 4, s1.heap.objs.size + 2, s1.heap.objs.size + 3, s1.heap.objs.size, s1.heap.objs.size + 1], _, _, H1, rfl, I2, turn_zip ?_, ⟨Z.zip, Z.its, Z.own, Z.i1, Z.i2⟩, fun c hc => ?_, q⟩
   · simp
   · have hb : s1.heap.objs.size ≤ c := by grind
     exact I1.fpOk hb (I1.hok.fresh hb)
theorem k_zip {K : PySem.W.Frag} (hK : X.K = K) {x : Str} (hx : x = "zip") (hg : Gl X x) (hm : X.mg x = none) (hs : starEach [a, b] X.env = [(false, eval a X.env), (false, eval b X.env)]) (hs2 : starEach [b] X.env = [(false, eval b X.env)]) (ha : JA X [a, b] ta) :
 JI X (.Tuple es kt pt) (.Call (.Name x p) [a, b] [] pos) (iZip K ta) := hK ▸ ⟨by subst hx; exact pi_zip hg hm ha.h hs hs2⟩
section
variable {K : PySem.W.Frag}
theorem cmp_zip (hx : n ≤ xs.length) (hy : ys.length = n) (hn : n ≤ 1000) (Pv : Nat → List V → L2.St → Hp → Prop) (h0 : Pv 0 [] σ0 H0) (hl : ∀ i zs σ H, i ≤ n → Pv i zs σ H → SqS f1 K H a xs ∧ SqS f2 K H b ys ∧ zs.length ≤ i)
 (hs : ∀ i x y zs σ H (T : Addr) (N : List V → L2.St → Hp → Prop), xs[i]? = some x → ys[i]? = some y → Pv i zs σ H → H T = none → (∀ zs' σ' H', Pv (i + 1) zs' σ' H' → N zs' σ' H') →
  g (.ref T) σ (upd H T (.tup [x, y])) fun σ3 H3 => tt σ3 H3 fun b H4 => if b = true then te σ3 H4 fun y H5 => N (zs ++ [y]) σ3 H5 else N zs σ3 H4)
 (hd : ∀ zs σ H, Pv n zs σ H → Z zs H) : Cmp (Itz f1 f2 K a b) g tt te σ0 H0 Z := by
 have hsz := sizeLine_eq
 refine ⟨fun i m zs σ H => m = n - i ∧ i ≤ n ∧ Pv i zs σ H, ⟨n, by simp, Nat.zero_le _, h0⟩, ?_⟩
 rintro i m zs σ H ⟨rfl, hi, p⟩
 obtain ⟨q1, q2, hy'⟩ := hl i zs σ H hi p
 refine ⟨by omega, ?_⟩
 by_cases hlt : i < n
 · have e1 : xs[i]? = some xs[i] := List.getElem?_eq_getElem (by omega)
   have e2 : ys[i]? = some ys[i] := List.getElem?_eq_getElem (by omega)
   refine .inr ⟨⟨xs, ys, _, _, q1, q2, e1, e2⟩, fun v H' yl => ?_⟩
   obtain ⟨x, y, T, rfl, hT, rfl, hxz⟩ := yl
   obtain ⟨e3, e4⟩ := hxz xs ys q1 q2
   exact hs i x y zs σ _ T (fun ys' σ' H' => ∃ m', m' < n - i ∧ m' = n - (i + 1) ∧ i + 1 ≤ n ∧ Pv (i + 1) ys' σ' H') e3 e4 p hT fun ys' σ' H' p' => ⟨n - (i + 1), by omega, rfl, hlt, p'⟩
 · have e : i = n := by omega
   subst e
   exact .inl ⟨⟨xs, ys, q1, q2, .inr (by omega)⟩, hd zs σ H p⟩
end
end ZG
namespace Wh
def cutGo (N : Int) : Int → List Int → List Int
 | _, [] => []
 | l, c :: cs => min (min c N) l :: cutGo N (l - min (min c N) l) cs
theorem cutGo_len (N : Int) : ∀ (cs : List Int) (l : Int), (cutGo N l cs).length = cs.length
 | [], _ => rfl
 | c :: cs, l => by simp [cutGo, cutGo_len N cs]
theorem cutGo_sum (hN : 0 ≤ N) : ∀ (cs : List Int) (l : Int), (∀ x ∈ cs, 0 ≤ x) → 0 ≤ l → l ≤ cutS cs N → (cutGo N l cs).sum = l
 | [], l, _, h1, h2 => by rw [cutS_nil] at h2; simp [cutGo]; omega
 | c :: cs, l, h0, h1, h2 => by
  rw [cutS_cons] at h2
  have hcn : 0 ≤ cutS cs N := sum_nonneg fun x hx => by grind
  show min _ l + (cutGo N _ cs).sum = l
  rw [cutGo_sum hN cs _ (fun x hx => h0 x (.tail _ hx)) (by omega) (by omega)]
  omega
theorem cutGo_at (hN : 0 ≤ N) : ∀ (cs : List Int) (l : Int), (∀ x ∈ cs, 0 ≤ x) → 0 ≤ l → ∀ (i : Nat), i < cs.length → 0 ≤ (cutGo N l cs).getD i 0 ∧ (cutGo N l cs).getD i 0 ≤ N ∧ (cutGo N l cs).getD i 0 ≤ cs.getD i 0
 | [], _, _, _, i, hi => by simp at hi
 | c :: cs, l, h0, h1, 0, _ => by
  have := h0 c (.head _)
  show 0 ≤ min _ l ∧ min (min c N) l ≤ N ∧ min _ l ≤ c
  omega
 | c :: cs, l, h0, h1, i + 1, hi => by
  have := cutGo_at hN cs (l - min (min c N) l) (fun x hx => h0 x (.tail _ hx)) (by omega) i (by grind)
  assumption
theorem take_sum (l : List Int) (i : Nat) : (l.take (i + 1)).sum = (l.take i).sum + l.getD i 0 := by
 rw [List.take_add_one, List.sum_append, List.getD_eq_getElem?_getD]
 cases l[i]? <;> simp
theorem hit_step {N p s c : Int} (hN : 0 < N) (h0 : 0 ≤ c) (h1 : c ≤ N) : (if (p - s) % N < c then 1 else 0 : Int) = (s + c - p + N - 1) / N - (s - p + N - 1) / N := by
 have e1 := Int.mul_ediv_add_emod (p - s) N
 have r0 := Int.emod_nonneg (p - s) (show N ≠ 0 by omega)
 have r1 := Int.emod_lt_of_pos (p - s) hN
 generalize (p - s) % N = r at *
 generalize (p - s) / N = q at *
 have a : (s - p + N - 1) / N = -q := by
  rw [show s - p + N - 1 = (N - 1 - r) + N * (-q) by rw [Int.mul_neg]; omega, Int.add_mul_ediv_left _ _ (by omega), Int.ediv_eq_zero_of_lt (by omega) (by omega)]; omega
 by_cases hc : r < c
 · rw [if_pos hc, a, show s + c - p + N - 1 = (c - 1 - r) + N * (1 - q) by rw [Int.mul_sub, Int.mul_one]; omega, Int.add_mul_ediv_left _ _ (by omega), Int.ediv_eq_zero_of_lt (by omega) (by omega)]; omega
 · rw [if_neg hc, a, show s + c - p + N - 1 = (N - 1 - r + c) + N * (-q) by rw [Int.mul_neg]; omega, Int.add_mul_ediv_left _ _ (by omega), Int.ediv_eq_zero_of_lt (by omega) (by omega)]; omega
def colsN (N : Int) (cut : List Int) (p : Int) (k : Nat) : List Nat := (List.range k).filter fun i => decide ((p - (cut.take i).sum) % N < cut.getD i 0)
def cols (N : Int) (cut : List Int) (p : Int) : List Int := (colsN N cut p cut.length).map fun (i : Nat) => (i : Int)
theorem colsN_len (hN : 0 < N) (hc : ∀ i, i < cut.length → 0 ≤ cut.getD i 0 ∧ cut.getD i 0 ≤ N) (p : Int) : ∀ k, k ≤ cut.length → ((colsN N cut p k).length : Int) = ((cut.take k).sum - p + N - 1) / N - (0 - p + N - 1) / N
 | 0, _ => by simp [colsN]
 | k + 1, hk => by
  have ih := colsN_len hN hc p k (by omega)
  obtain ⟨c0, c1⟩ := hc k (by omega)
  have st := hit_step (p := p) (s := (cut.take k).sum) hN c0 c1
  unfold colsN at ih ⊢
  rw [List.range_succ, List.filter_append, List.length_append, take_sum]
  by_cases h : (p - (cut.take k).sum) % N < cut.getD k 0
  · rw [List.filter_cons_of_pos (by simp_all), List.filter_nil]
    rw [if_pos h] at st
    grind
  · rw [List.filter_cons_of_neg (by simpa using h), List.filter_nil]
    rw [if_neg h] at st
    simp only [List.length_nil]
    omega
theorem cols_len (hN : 0 < N) (hc : ∀ i, i < cut.length → 0 ≤ cut.getD i 0 ∧ cut.getD i 0 ≤ N) (hs : cut.sum = d * N) (h0 : 0 ≤ p) (h1 : p < N) : ((cols N cut p).length : Int) = d := by
 unfold cols
 rw [List.length_map, colsN_len hN hc p _ (Nat.le_refl _), List.take_length, hs, show d * N - p + N - 1 = (N - 1 - p) + N * d by grind, Int.add_mul_ediv_left _ _ (by omega), Int.ediv_eq_zero_of_lt (by omega) (by omega), Int.ediv_eq_zero_of_lt (by omega) (by omega)]
 omega
theorem cols_pw (N : Int) (cut : List Int) (p : Int) : (cols N cut p).Pairwise (· < ·) := by
 unfold cols colsN
 rw [List.pairwise_map]
 exact (List.pairwise_lt_range.filter _).imp fun {a b} h => by omega
theorem cols_mem : x ∈ cols N cut p ↔ ∃ i : Nat, x = i ∧ i < cut.length ∧ (p - (cut.take i).sum) % N < cut.getD i 0 := by
 unfold cols colsN
 rw [List.mem_map]
 constructor
 · rintro ⟨i, hi, rfl⟩
   obtain ⟨h1, h2⟩ := List.mem_filter.mp hi
   exact ⟨i, rfl, List.mem_range.mp h1, of_decide_eq_true h2⟩
 · rintro ⟨i, rfl, h1, h2⟩
   exact ⟨i, List.mem_filter.mpr ⟨List.mem_range.mpr h1, decide_eq_true h2⟩, rfl⟩
def ahead (N e c x : Int) : Int := if e + c ≤ N then min (max (x - e) 0) c else max (x - e) 0 + min x (e + c - N)
theorem mod_at {N p s : Int} (hN : 0 < N) (h0 : 0 ≤ p) (h1 : p < N) : (p - s) % N = if s % N ≤ p then p - s % N else p - s % N + N := by
 have r0 := Int.emod_nonneg s (show N ≠ 0 by omega)
 have r1 := Int.emod_lt_of_pos s hN
 have e := Int.mul_ediv_add_emod s N
 generalize s % N = r at *
 generalize s / N = q at *
 split
 · rw [show p - s = (p - r) + N * (-q) by grind, Int.add_mul_emod_self_left, Int.emod_eq_of_lt (by omega) (by omega)]
 · rw [show p - s = (p - r + N) + N * (-q - 1) by grind, Int.add_mul_emod_self_left, Int.emod_eq_of_lt (by omega) (by omega)]
theorem end_at {N s c : Int} (hN : 0 < N) (h0 : 0 ≤ c) (h1 : c ≤ N) : (s + c) % N = if s % N + c < N then s % N + c else s % N + c - N := by
 have r0 := Int.emod_nonneg s (show N ≠ 0 by omega)
 have r1 := Int.emod_lt_of_pos s hN
 have e := Int.mul_ediv_add_emod s N
 generalize s % N = r at *
 generalize s / N = q at *
 split
 · rw [show s + c = (r + c) + N * q by omega, Int.add_mul_emod_self_left, Int.emod_eq_of_lt (by omega) (by omega)]
 · rw [show s + c = (r + c - N) + N * (q + 1) by grind, Int.add_mul_emod_self_left, Int.emod_eq_of_lt (by omega) (by omega)]
theorem block (hN : 0 < N) (c0 : 0 ≤ c) (c1 : c ≤ N) (h0 : 0 ≤ p) (hpb : p < b) (hb : b ≤ N) (he : s % N ≤ p ∨ b ≤ s % N) (hf : (s + c) % N ≤ p ∨ b ≤ (s + c) % N) :
 (if (p - s) % N < c then b - p else 0) = ahead N (s % N) c b - ahead N (s % N) c p := by
 rw [mod_at hN h0 (by omega)]
 rw [end_at hN c0 c1] at hf
 unfold ahead
 grind
def blocks (N : Int) : List Int → List (Int × Int)
 | [] => []
 | [p] => [(p, N)]
 | p :: b :: r => (p, b) :: blocks N (b :: r)
theorem used_go {N s c : Int} (hN : 0 < N) (c0 : 0 ≤ c) (c1 : c ≤ N) : ∀ (ch : List Int) (p : Int), (p :: ch).Pairwise (· < ·) → 0 ≤ p → (∀ x ∈ p :: ch, x < N) → (s % N ≤ p ∨ s % N ∈ ch) → ((s + c) % N ≤ p ∨ (s + c) % N ∈ ch) →
 ((blocks N (p :: ch)).map fun q => if (q.1 - s) % N < c then q.2 - q.1 else 0).sum = ahead N (s % N) c N - ahead N (s % N) c p
 | [], p, _, h0, hx, he, hf => by
  have hp := hx p (.head _)
  have := block hN c0 c1 h0 hp (Int.le_refl _) (he.elim .inl fun z => (nomatch z)) (hf.elim .inl fun z => (nomatch z))
  simp only [blocks, List.map_cons, List.map_nil, List.sum_cons, List.sum_nil]
  omega
 | b :: r, p, pw, h0, hx, he, hf => by
  obtain ⟨p1, p2⟩ := List.pairwise_cons.mp pw
  obtain ⟨p3, p4⟩ := List.pairwise_cons.mp p2
  have hpb := p1 b (.head _)
  have hb := hx b (.tail _ (.head _))
  have far : ∀ y, y ∈ b :: r → b ≤ y := fun y hy => by grind
  have nxt : ∀ y, (y ≤ p ∨ y ∈ b :: r) → y ≤ b ∨ y ∈ r := fun y hy => by grind
  have bl := block hN c0 c1 h0 hpb (by omega) (he.imp id (far _)) (hf.imp id (far _))
  have ih := used_go hN c0 c1 r b p2 (by omega) (fun x hx' => hx x (.tail _ hx')) (nxt _ he) (nxt _ hf)
  show (if (p - s) % N < c then b - p else 0) + ((blocks N (b :: r)).map fun q => if (q.1 - s) % N < c then q.2 - q.1 else 0).sum = _
  rw [bl, ih]; omega
theorem ahead_all (h0 : 0 ≤ e) (h1 : e < N) (c0 : 0 ≤ c) (c1 : c ≤ N) : ahead N e c N - ahead N e c 0 = c := by
 unfold ahead; grind
theorem blocks_sum : ∀ (ch : List Int) (p : Int), ((blocks N (p :: ch)).map fun q => q.2 - q.1).sum = N - p
 | [], p => by simp [blocks]
 | b :: r, p => by
  show (b - p) + ((blocks N _).map fun q => q.2 - q.1).sum = _
  rw [blocks_sum r b]; omega
theorem blocks_mem : ∀ (ch : List Int) (p : Int), (p :: ch).Pairwise (· < ·) → (∀ x ∈ p :: ch, x < N) → ∀ q ∈ blocks N (p :: ch), p ≤ q.1 ∧ q.1 < q.2 ∧ q.1 < N
 | [], p, _, hx, q, hq => by
  rw [List.mem_singleton.mp hq]; simp_all
 | b :: r, p, pw, hx, q, hq => by
  obtain ⟨p1, p2⟩ := List.pairwise_cons.mp pw
  have := p1 b (.head _)
  rcases List.mem_cons.mp hq with rfl | hq
  · simp_all
  · have := blocks_mem r b p2 (fun x hx' => hx x (.tail _ hx')) q hq
    omega
def IsBin (m : Nat) (d : Int) (cs : List Int) : Prop := cs.Pairwise (· < ·) ∧ (cs.length : Int) = d ∧ ∀ x ∈ cs, 0 ≤ x ∧ x < m
end Wh
end Br
namespace Br
open PySem PySem.Spec PySem.Calls PyProof.Rows L2
theorem args_min3 (a b c : Value) : argsOk "min" ⟨[a, b, c], []⟩ := rfl
section
variable {prog : Program} {w : World} {A : Around} {E : Value → Shared → Prop} {s : Shared}
theorem min_three (hh : A.handled = none) (h : ∀ h' tk x, (∀ c o, s.heap.get? c = some o → h'.get? c = some o) → Q (.int (min (min a b) c) x) { s with heap := h', toks := tk }) :
 wpAny (model prog w) A (call (.builtin "min") [.int a t, .int b u, .int c v]) Q E s := by
 refine call_function_tree F.kind_min F.plain_min F.entry_min (args_min3 _ _ _) ?_
 refine wpAny_bind (wpAny_of_eq (show Builtin.Builtins.bindParams "min" ["key", "default"] 0 ⟨[], []⟩ = pure [none, none] from rfl) ?_)
 show wpAny _ A.in1 (newTuple [.int a t, .int b u, .int c v] >>= _) _ _ s
 refine wpAny_bind (wpAny_newObj_type ?_)
 generalize hg : s.heap.push { cls := .type "tuple", data := .seq ([.int a t, .int b u, .int c v] : List Value).toArray } = g
 have gk : ∀ b o, s.heap.get? b = some o → g.get? b = some o := fun b o e => by rw [← hg]; exact Heap.get?_push_of_some _ e
 have gz : g.objs.size = s.heap.objs.size + 1 := by rw [← hg, Heap.size_push]
 have hT : g.IsTuple s.heap.objs.size (intItems #[(a, t), (b, u), (c, v)]) := ⟨_, by rw [← hg]; exact Heap.get?_push_size _ rfl, rfl, 0, by simp [intItems]⟩
 have nI : s.heap.objs.size ≠ g.objs.size := by rw [gz]; exact Nat.ne_of_lt (Nat.lt_succ_self _)
 refine wpAny_bind (wpAny_pyIter_tuple hT (wpAny_bind (wpAny_newObj_type ?_)))
 rw [show (toString "min" ++ toString ".loop" : String) = "min.loop" by decide]
 have st : ∀ h2 : Heap, (∀ b o, (g.push { cls := .type "tuple_iterator", data := .fields #[.ref s.heap.objs.size, .int 0 0] }).get? b = some o → h2.get? b = some o) → h2.IsTupleIter g.objs.size s.heap.objs.size 0 ∧ h2.IsTuple s.heap.objs.size (intItems #[(a, t), (b, u), (c, v)]) := fun h2 k =>
  ⟨⟨_, k _ _ (Heap.get?_push_size _ rfl), rfl, rfl⟩, let ⟨o, e, r⟩ := hT; ⟨o, k _ _ (Heap.get?_push_of_some _ e), r⟩⟩
 refine wpAny_pure ⟨plainId_quiet F.plain_min_loop _, codeAny_min_loop_first (Walks.tuple (A := A.in1) hh _ s.heap.objs.size nI (intItems #[(a, t), (b, u), (c, v)])) _ (CmpOf.ints_lt (numAt #[(a, t), (b, u), (c, v)]) (fun _ _ => intItems_at)) _ (fun z => ?_) (by simp [intItems]) (st _ fun b o e => Heap.get?_push_of_some _ e) (Heap.get?_push_size _ rfl) fun x h' tk hP hk => ?_⟩
 · rw [Heap.size_push, gz] at z
   rcases List.mem_cons.mp z with z | z
   · exact Nat.ne_of_gt (Nat.lt_succ_self _) z
   · exact Nat.ne_of_gt (Nat.lt_succ_of_lt (Nat.lt_succ_self _)) (List.mem_singleton.mp z)
 · have hP' : (intItems #[(a, t), (b, u), (c, v)])[argBest (fun i j => decide (numAt #[(a, t), (b, u), (c, v)] i < numAt #[(a, t), (b, u), (c, v)] j)) 2]? = some x := by
    have e : (intItems #[(a, t), (b, u), (c, v)]).size - 1 = 2 := by simp [intItems]
    rw [← e]; exact hP
   have hx : ∃ y, x = .int (min (min a b) c) y := by
    by_cases h1 : b < a
    · by_cases h2 : c < b
      · have e : argBest (fun i j => decide (numAt #[(a, t), (b, u), (c, v)] i < numAt #[(a, t), (b, u), (c, v)] j)) 2 = 2 := by simp [argBest, numAt, h1, h2]
        rw [e] at hP'
        refine ⟨v, ?_⟩
        rw [show min (min a b) c = c by omega]; simpa [intItems] using hP'.symm
      · have e : argBest (fun i j => decide (numAt #[(a, t), (b, u), (c, v)] i < numAt #[(a, t), (b, u), (c, v)] j)) 2 = 1 := by simp [argBest, numAt, h1, h2]
        rw [e] at hP'
        refine ⟨u, ?_⟩
        rw [show min (min a b) c = b by omega]; simpa [intItems] using hP'.symm
    · by_cases h2 : c < a
      · have e : argBest (fun i j => decide (numAt #[(a, t), (b, u), (c, v)] i < numAt #[(a, t), (b, u), (c, v)] j)) 2 = 2 := by simp [argBest, numAt, h1, h2]
        rw [e] at hP'
        refine ⟨v, ?_⟩
        rw [show min (min a b) c = c by omega]; simpa [intItems] using hP'.symm
      · have e : argBest (fun i j => decide (numAt #[(a, t), (b, u), (c, v)] i < numAt #[(a, t), (b, u), (c, v)] j)) 2 = 0 := by simp [argBest, numAt, h1, h2]
        rw [e] at hP'
        refine ⟨t, ?_⟩
        rw [show min (min a b) c = a by omega]; simpa [intItems] using hP'.symm
   obtain ⟨y, rfl⟩ := hx
   refine h h' tk y fun b o e => hk b o (fun z => ?_) ?_ (Heap.get?_push_of_some _ (Heap.get?_push_of_some _ (gk b o e)))
   · have := List.mem_singleton.mp z
     exact Nat.ne_of_lt (Nat.lt_succ_of_lt (Heap.lt_size e)) (by rw [this, gz])
   · rw [Heap.size_push, gz]; exact Nat.ne_of_lt (Nat.lt_succ_of_lt (Nat.lt_succ_of_lt (Heap.lt_size e)))
end
section
variable {X : Cx} {e : Expr} {es : List Expr} {t : TA} {pos p : Pos} {x : Str}
theorem call_min3 (hc : X.calm = true) : CallR X (.builtin "min") (fun xs H Q => ∃ i j k, xs = [.int i, .int j, .int k] ∧ Q (.int (min (min i j) k)) H) := by
 intro pins s σ H xs us Q I r h
 obtain ⟨i, j, k, rfl, q⟩ := h
 cases r with
 | cons r1 r =>
  obtain ⟨u, w', rfl, ⟨t, rfl⟩, ⟨t', rfl⟩⟩ := vals2 r
  obtain ⟨t0, rfl⟩ := r1
  exact min_three (I.ok.hd hc) fun h' tk x kp => ⟨.int _, H, I.kept kp, ⟨_, rfl⟩, q⟩
theorem j_min3 (hg : Gl X x) (he : starEach (e :: es) X.env = (false, eval e X.env) :: starEach es X.env) (hpl : (backTo pos (starEach es X.env)).any (·.1) = false) (hx : x = "min") (hc : X.calm = true) (hm : X.mg x = none) (ha : JA X (e :: es) t) :
 JE X (.Call (.Name x p) (e :: es) [] pos) (tCB (fun xs H Q => ∃ i j k, xs = [.int i, .int j, .int k] ∧ Q (.int (min (min i j) k)) H) t) := ⟨by subst hx; exact pe_callB (call_min3 hc) hg hm boot_min ha.h (by decide) (by decide) he hpl⟩
end
namespace ZG
section
variable {K : PySem.W.Frag} {a b : Addr} {xs ys : List V} {g : TG} {tb : TS} {D : Ends} {σ0 : L2.St} {H0 : Hp}
theorem for_zip (hx : n ≤ xs.length) (hy : ys.length = n) (Pv : Nat → L2.St → Hp → Prop) (h0 : Pv 0 σ0 H0) (hl : ∀ i σ H, i ≤ n → Pv i σ H → SqS f1 K H a xs ∧ SqS f2 K H b ys)
 (hs : ∀ i x y σ H (T : Addr), xs[i]? = some x → ys[i]? = some y → Pv i σ H → H T = none → g (.ref T) σ (upd H T (.tup [x, y])) fun σ2 H2 => tb { D with nx := Pv (i + 1), ct := Pv (i + 1), bk := D.nx } σ2 H2) (hd : ∀ σ H, Pv n σ H → D.nx σ H) :
 ∃ W : Nat → Nat → L2.St → Hp → Prop, (∃ m, W 0 m σ0 H0) ∧ ∀ i m σ H, W i m σ H →
  ((Itz f1 f2 K a b).stop i H ∧ D.nx σ H) ∨ ((Itz f1 f2 K a b).go i H ∧ ∃ N : L2.St → Hp → Prop, (∀ σ' H', N σ' H' → ∃ m', m' < m ∧ W (i + 1) m' σ' H') ∧ ∀ x H', (Itz f1 f2 K a b).yld i H x H' → g x σ H' fun σ2 H2 => tb { D with nx := N, ct := N, bk := D.nx } σ2 H2) := by
 refine ⟨fun i m σ H => m = n - i ∧ i ≤ n ∧ Pv i σ H, ⟨n, by simp, Nat.zero_le _, h0⟩, ?_⟩
 rintro i m σ H ⟨rfl, hi, p⟩
 obtain ⟨q1, q2⟩ := hl i σ H hi p
 by_cases hlt : i < n
 · have e1 : xs[i]? = some xs[i] := List.getElem?_eq_getElem (by omega)
   have e2 : ys[i]? = some ys[i] := List.getElem?_eq_getElem (by omega)
   refine .inr ⟨⟨xs, ys, _, _, q1, q2, e1, e2⟩, Pv (i + 1), fun σ' H' p' => ⟨n - (i + 1), by omega, rfl, hlt, p'⟩, fun v H' yl => ?_⟩
   obtain ⟨x, y, T, rfl, hT, rfl, hxz⟩ := yl
   obtain ⟨e3, e4⟩ := hxz xs ys q1 q2
   grind
 · have e : i = n := by omega
   subst e
   exact .inl ⟨⟨xs, ys, q1, q2, .inr (by omega)⟩, hd σ H p⟩
end
end ZG
end Br
namespace Br
namespace Wh
def cb (l : List Int) (m : Int) : Nat := (l.filter fun x => decide (x < m)).length
theorem cb_cons (x : Int) (l : List Int) (m : Int) : cb (x :: l) m = (if x < m then 1 else 0) + cb l m := by
 unfold cb
 grind
theorem lex_of : ∀ {A B : List Int}, A.Pairwise (· < ·) → B.Pairwise (· < ·) → A.length = B.length → (∀ m, cb B m ≤ cb A m) → (∃ m, cb B m < cb A m) → HT.lexLt A B = true
 | [], [], _, _, _, _, ⟨m, h⟩ => by simp [cb] at h
 | [], _ :: _, _, _, h, _, _ => by simp at h
 | _ :: _, [], _, _, h, _, _ => by simp at h
 | x :: a, y :: b, pa, pb, hl, hle, hlt => by
  obtain ⟨p1, p2⟩ := List.pairwise_cons.mp pa
  obtain ⟨q1, q2⟩ := List.pairwise_cons.mp pb
  rw [HT.lexLt_cons]
  rcases Int.lt_trichotomy x y with h | h | h
  · grind
  · subst h
    rw [if_pos rfl]
    refine lex_of p2 q2 (by simpa using hl) (fun m => ?_) ?_
    · have := hle m; rw [cb_cons, cb_cons] at this; omega
    · obtain ⟨m, h⟩ := hlt
      rw [cb_cons, cb_cons] at h
      exact ⟨m, by omega⟩
  · have h1 := hle (y + 1)
    have h2 : cb (x :: a) (y + 1) = 0 := by
     unfold cb
     rw [List.filter_eq_nil_iff.mpr]
     · rfl
     grind
    rw [cb_cons, if_pos (by omega)] at h1
    omega
theorem cols_cb (N : Int) (cut : List Int) (p m : Int) : cb (cols N cut p) m = (colsN N cut p (min m.toNat cut.length)).length := by
 unfold cb cols
 rw [List.filter_map, List.length_map]
 unfold colsN
 have e : cut.length = min m.toNat cut.length + (cut.length - min m.toNat cut.length) := by omega
 generalize hk : min m.toNat cut.length = k at *
 rw [e, List.range_add, List.filter_append, List.filter_append, List.length_append]
 have h1 : (((List.range k).filter fun i => decide ((p - (cut.take i).sum) % N < cut.getD i 0)).filter ((fun x : Int => decide (x < m)) ∘ fun i : Nat => (i : Int))) = (List.range k).filter fun i => decide ((p - (cut.take i).sum) % N < cut.getD i 0) := by
  rw [List.filter_eq_self]
  grind
 have h2 : ((((List.range (cut.length - k)).map (k + ·)).filter fun i => decide ((p - (cut.take i).sum) % N < cut.getD i 0)).filter ((fun x => decide (x < m)) ∘ fun i : Nat => (i : Int))) = [] := by simp; omega
 rw [h1, h2]; rfl
theorem cols_lex (hN : 0 < N) (hc : ∀ i, i < cut.length → 0 ≤ cut.getD i 0 ∧ cut.getD i 0 ≤ N) (hs : cut.sum = d * N) (h0 : 0 ≤ p) (hpq : p < q) (hq : q < N) (hk : k < cut.length) (e : (cut.take k).sum % N = q) :
 HT.lexLt (cols N cut p) (cols N cut q) = true := by
 have z : ∀ x : Int, 0 ≤ x → x < N → (0 - x + N - 1) / N = 0 := fun x h1 h2 => Int.ediv_eq_zero_of_lt (by omega) (by omega)
 have len : ∀ x j, 0 ≤ x → x < N → j ≤ cut.length → ((colsN N cut x j).length : Int) = ((cut.take j).sum - x + N - 1) / N := fun x j h1 h2 hj => by rw [colsN_len hN hc x j hj, z x h1 h2]; omega
 refine lex_of (cols_pw _ _ _) (cols_pw _ _ _) ?_ (fun m => ?_) ⟨k, ?_⟩
 · have a := cols_len hN hc hs h0 (by omega)
   have b := cols_len hN hc hs (by omega) hq
   omega
 · rw [cols_cb, cols_cb]
   have a := len p (min m.toNat cut.length) h0 (by omega) (by omega)
   have b := len q (min m.toNat cut.length) (by omega) hq (by omega)
   have := Int.ediv_le_ediv hN (show (cut.take (min m.toNat cut.length)).sum - q + N - 1 ≤ (cut.take (min m.toNat cut.length)).sum - p + N - 1 by omega)
   omega
 · rw [cols_cb, cols_cb, Int.toNat_natCast, Nat.min_eq_left (by omega)]
   have a := len p k h0 (by omega) (by omega)
   have b := len q k (by omega) hq (by omega)
   have m := Int.mul_ediv_add_emod (cut.take k).sum N
   rw [e] at m
   generalize (cut.take k).sum / N = t at *
   rw [show (cut.take k).sum - q + N - 1 = (N - 1) + N * t by omega, Int.add_mul_ediv_left _ _ (by omega), Int.ediv_eq_zero_of_lt (by omega) (by omega)] at b
   rw [show (cut.take k).sum - p + N - 1 = (q - p - 1) + N * (t + 1) by rw [Int.mul_add]; omega, Int.add_mul_ediv_left _ _ (by omega)] at a
   have := Int.ediv_nonneg (show 0 ≤ q - p - 1 by omega) (show 0 ≤ N by omega)
   omega
end Wh
end Br
namespace Br
open PySem PySem.Spec PySem.Calls PyProof.Rows L2
section
variable {X : Cx}
def rSortB (K : PySem.W.Frag) : List V → Hp → VK → Prop := fun xs H Q => ∃ (p : Addr) (ns : List Int), xs = [.ref p] ∧ (SqL K H p (ns.map V.int) ∨ SqT K H p (ns.map V.int)) ∧ ns.length < 64 ∧
 ∀ (l : Addr) (ms : List Int) (H' : Hp), H l = none → L2.Same H H' → H' l = some (.lst (ms.map V.int)) → ms.Perm ns → ms.Pairwise (· ≤ ·) → Q (.ref l) H'
theorem call_sortB : CallR X (.builtin "sorted") (rSortB X.K) := by
 rintro pins s σ H xs us Q I r ⟨p, ns, e1, hq, hl, q⟩
 subst e1
 obtain ⟨u, rfl, rx⟩ := vals1 r
 cases rx
 obtain ⟨its, o, T, cn, rv, hT, ho, hcl, hd, hz⟩ := seq_obj I hq
 obtain ⟨zs, hzs1, hzs2⟩ : ∃ zs : List (Int × Tok), zs.map (·.1) = ns ∧ zs.map (fun z => Value.int z.1 z.2) = its := by
  clear hd hz hq q hl
  induction ns generalizing its with
  | nil => cases rv; exact ⟨[], rfl, rfl⟩
  | cons n ns ih =>
   cases rv with
   | cons r rr =>
    obtain ⟨t, rfl⟩ := r
    obtain ⟨zs, h1, h2⟩ := ih _ rr
    exact ⟨(n, t) :: zs, by rw [List.map_cons, h1], by rw [List.map_cons, h2]⟩
 subst hzs1 hzs2
 refine sorted_genS (α := Int × Tok) (zs := zs) (f := fun z => .int z.1) (g := fun z => .int z.1 z.2) (fun x y => decide (numOf x.1 < numOf y.1)) (ord_int fun x => numOf x.1) I (fun z _ => ⟨z.2, rfl⟩) ⟨o, T, cn, hT, ho, hcl, hd, by simpa using hl⟩ (fun h2 h6 _ => ⟨oneType', fun Q E hQ => ?_, fun x y hx hy Q E hQ => ?_⟩) fun l ys H' n1 s1 e1 hp hs => ?_
 · match zs, h2 with
   | z1 :: z2 :: zr, _ =>
    have ii : ∀ l : List (Int × Tok), IntsAre (l.map fun z => Value.int z.1 z.2) (l.map (·.1)) := fun l => by
     induction l with
     | nil => exact .nil
     | cons z l ih => exact .cons _ _ ih
    rw [List.map_cons, List.map_cons, keyKind_ints (ii (z1 :: z2 :: zr))]
    exact wpAny_pure hQ
   | [], h => simp at h
   | [_], h => simp at h
 · rw [pairs_map] at hx hy
   obtain ⟨z1, _, e1⟩ := List.mem_map.mp hx
   obtain ⟨z2, _, e2⟩ := List.mem_map.mp hy
   rw [← e1, ← e2] at hQ ⊢
   rw [keyLt'_oneType]
   exact oneLt_int hQ
 · refine q l (ys.map (·.1)) H' n1 s1 ?_ (hp.map _) ?_
   · rw [e1, List.map_map]; rfl
   · rw [List.pairwise_map] at hs ⊢
     exact hs.imp fun {a b} h => by have := of_decide_eq_false h; exact Int.not_lt.mp this
end
section
variable {X : Cx} {K : PySem.W.Frag} {e : Expr} {es : List Expr} {t : TA} {pos p : Pos} {x : Str}
theorem k_sortedB (hg : Gl X x) (he : starEach (e :: es) X.env = (false, eval e X.env) :: starEach es X.env) (hpl : (backTo pos (starEach es X.env)).any (·.1) = false) (hK : X.K = K) (hx : x = "sorted") (hm : X.mg x = none) (ha : JA X (e :: es) t) : JE X (.Call (.Name x p) (e :: es) [] pos) (tCB (rSortB K) t) := hK ▸ ⟨by subst hx; exact pe_callB call_sortB hg hm boot_sorted ha.h (by decide) (by decide) he hpl⟩
end
end Br
namespace Br
open PySem PySem.Spec PySem.Calls PyProof.Rows L2
open AutoSeq1 (wpAny_loadPart')
section
variable {prog : Program} {w : World} {A : Around} {E : Value → Shared → Prop} {s : Shared}
def GotR (S : Addr) (s : Shared) (a c : Int) (n : Nat) (s' : Shared) : Prop := ∃ h' tk acc c', s' = { s with heap := h', toks := tk } ∧ (∀ b o, s.heap.get? b = some o → h'.get? b = some o) ∧ h'.get? S = some { cls := .type "list", dict := none, data := .seq acc c', slots := #[] } ∧ ItemsOf (fun i v => ∃ t, v = .int (a + i * c) t) acc n
theorem collect_range {Q : List Value → Shared → Prop} {r : Addr} {a b c : Int} {t u v : Tok} {n : Nat} (hh : A.handled = none) (hr : IsRange s.heap r a b c t u v) (hsmall : Builtin.Range.small a b c = true)
 (hn : Builtin.Range.rangeSize a b c = n) (hlen : n ≤ 2 ^ 24)
 (hQ : ∀ h' tk acc, (∀ b o, s.heap.get? b = some o → h'.get? b = some o) → ItemsOf (fun i v => ∃ t, v = .int (a + i * c) t) acc n → Q acc.toList { s with heap := h', toks := tk }) :
 wpAny (model prog w) A (collect (.ref r)) Q E s := by
 unfold collect
 wp_walk using codeAny_builtin F.entry_proto_collect
 refine And.intro (plainId_quiet (by decide +kernel) _) ?_
 apply codeAny_builtin (b := Builtin.«list.__iadd__») (by exact F.entry_list_iadd)
 rw [Around.under_plainId (by decide +kernel) _]
 have e0 : (s.heap.push { cls := .type "list", data := .seq #[] }).get? s.heap.objs.size = some { cls := .type "list", data := .seq #[] } := Heap.get?_push_size _ rfl
 apply wpAny_mono (wpAny_extend_range (R := fun x s' => x = .ok (.ret (.ref s.heap.objs.size)) ∧ GotR s.heap.objs.size s a c n s') hh (Heap.get?_push_of_some _ hr) hsmall hn hlen s.heap.objs.size (.ref s.heap.objs.size) 0 e0 ?g)
 case g => exact fun h' tk acc c' k e i => ⟨rfl, h', tk, acc, c', rfl, fun b o q => k b o (fun z => Nat.lt_irrefl _ (z ▸ Heap.lt_size q)) (Heap.get?_push_of_some _ q), e, i⟩
 have key : ∀ s', GotR s.heap.objs.size s a c n s' → wpAny (model prog w) A (do match (← load s.heap.objs.size).data with
  | .seq xs _ => pure xs.toList
  | _ => unsupported "internal:collect") Q E s' := by
  rintro _ ⟨h', tk, acc, c', rfl, kp, e, i⟩
  wp_walk using wpAny_load e
  exact hQ h' tk acc kp i
 case hQ =>
  rintro (f | c') s' ⟨z1, z2⟩
  · cases z1; exact key s' z2
  · exact ⟨z1, codeAny_mono z2 fun x s'' ⟨y1, y2⟩ => by subst y1; exact key s'' y2⟩
 case hE => exact fun e s' z => nomatch z.1
def TOfR (l : Addr) (a b c : Int) (t u v : Tok) (n : Nat) (A : Around) (R : Result → Shared → Prop) (s : Shared) : Prop := A.handled = none ∧ IsRange s.heap l a b c t u v ∧
 ∀ (h' : Heap) (tk : Nat) (acc : Array Value), (∀ b o', s.heap.get? b = some o' → h'.get? b = some o') → ItemsOf (fun i v => ∃ t, v = .int (a + i * c) t) acc n → R (.ok (.ret (.ref h'.objs.size))) { s with heap := h'.push { cls := .type "tuple", data := .seq acc }, toks := tk }
theorem new_tuple_range {l : Addr} {a b c : Int} {t u v : Tok} {n : Nat} (q : Builtin.Range.small a b c = true ∧ Builtin.Range.rangeSize a b c = n ∧ n ≤ 2 ^ 24) : Meets (Builtin.«tuple.__new__» ⟨[.type "tuple", .ref l], []⟩) (TOfR l a b c t u v n) := by
 refine .of_wp fun prog w A R s ⟨hd, ir, h⟩ => ?_
 have x1 := sub_tuple_self
 have x2 := init_tuple_lookup
 have x3 := madeHere_tuple
 cases s with
 | mk hp g d tk os =>
  wp_walk using wpAny_loadPart' ir, wpAny_typeOf (T := "range") ⟨_, ir, rfl⟩, collect_range (A := A.in1) hd ir q.1 q.2.1 q.2.2
  rintro h' tk' acc kp i
  wp_walk
  rw [if_neg (by rw [Array.toArray_toList, i.1, sizeLine_eq]; have := q.2.2; omega)]
  wp_walk
  rw [Array.toArray_toList]
  exact ⟨_, rfl, h h' tk' acc kp i⟩
theorem call_tuple_range {Q : Value → Shared → Prop} {l : Addr} {a b c : Int} {t u v : Tok} {n : Nat} (q : Builtin.Range.small a b c = true ∧ Builtin.Range.rangeSize a b c = n ∧ n ≤ 2 ^ 24) (hh : A.handled = none) (hr : IsRange s.heap l a b c t u v)
 (h : ∀ (h' : Heap) (tk : Nat) (acc : Array Value), (∀ b o', s.heap.get? b = some o' → h'.get? b = some o') → ItemsOf (fun i v => ∃ t, v = .int (a + i * c) t) acc n → Q (.ref h'.objs.size) { s with heap := h'.push { cls := .type "tuple", data := .seq acc }, toks := tk }) :
 wpAny (model prog w) A (call (.type "tuple") [.ref l]) Q E s := by
 have ok : ∀ obj : Value, argsOk "object.__init__" ⟨[obj, .ref l], []⟩ := (F.args_object_init_2 · _)
 refine callType_new (Bn := Builtin.«tuple.__new__») (g := new_tuple_range (t := t) (u := u) (v := v) q) (ft := F.called_tuple) (hok := ok) (entryN := F.entry_tuple_new) (hne := rfl) (hct := F.typeCall_tuple_1 _) (hcn := F.newCall_tuple_1 _) ?_
 refine ⟨hh, hr, fun h' tk acc kp i => And.intro ?_ (h h' tk acc kp i)⟩
 exact Exists.intro _ (And.intro (Heap.get?_push_size _ rfl) rfl)
end
def upToV (n : Nat) : List V := (List.range n).map fun (k : Nat) => V.int (k : Int)
theorem vals_upTo {acc : Array Value} {n : Nat} (h : ItemsOf (fun i v => ∃ t, v = .int (0 + i * 1) t) acc n) : Vals (upToV n) acc.toList := by
 have hs : acc.toList.length = n := by rw [Array.length_toList]; exact h.1
 have key : ∀ (l : List Value) (xs : List V), xs.length = l.length → (∀ (i : Nat) (x : V) (y : Value), xs[i]? = some x → l[i]? = some y → RelV x y) → Vals xs l := by
  intro l
  induction l with
  | nil => intro xs e _; cases xs with | nil => exact .nil | cons => cases e
  | cons y l ih =>
   intro xs e k
   cases xs with
   | nil => cases e
   | cons x xs => exact .cons (k 0 x y rfl rfl) (ih xs (Nat.succ.inj e) fun i x y e1 e2 => k (i + 1) x y e1 e2)
 refine key _ _ (by rw [hs]; simp [upToV]) fun i x y e1 e2 => ?_
 have hi : i < n := by
  have := (List.getElem?_eq_some_iff.mp e2).1
  omega
 have e1' : x = .int (i : Int) := by
  rw [upToV, List.getElem?_map, List.getElem?_range hi] at e1
  exact (Option.some.inj e1).symm
 obtain ⟨t, rfl⟩ := h.2 i y (by rw [← Array.getElem?_toList]; exact e2)
 subst e1'
 have e : (0 + (i : Int) * 1) = (i : Int) := by omega
 rw [e]
 exact ⟨t, rfl⟩
section
variable {X : Cx}
def tTupR (te : TE) : TE := fun σ H Q => te σ H fun v H1 => ∃ n : Int, v = .int n ∧ 0 ≤ n ∧ n ≤ 10000 ∧ ∀ p, H1 p = none → Q (.ref p) (upd H1 p (.tup (upToV n.toNat)))
theorem k_tupR {x y : Str} {e : Expr} {te : TE} {p1 p2 p3 p4 : Pos} (hx : x = "tuple") (hy : y = "range") (hgx : Gl X x) (hgy : Gl X y) (hmx : X.mg x = none) (hmy : X.mg y = none) (hc : X.calm = true)
 (s1 : starEach [e] X.env = (false, eval e X.env) :: starEach [] X.env) (s2 : starEach [.Call (.Name y p1) [e] [] p2] X.env = (false, eval (.Call (.Name y p1) [e] [] p2) X.env) :: starEach [] X.env) (hpl : ∀ pos, (backTo pos (starEach [] X.env)).any (·.1) = false)
 (he : JE X e te) : JE X (.Call (.Name x p3) [.Call (.Name y p1) [e] [] p2] [] p4) (tTupR te) := by
 subst hx hy
 refine ⟨fun pins s σ H Q I h => ?_⟩
 refine wpAny_Call_Name_kw (ld_blt I hgx hmx boot_tuple' ?_ (by decide) (by decide))
 refine PyProof.Rows.callWith_type1 ?_ s2 (hpl _)
 rw [s2]
 show wpAny _ _ (spliced ((false, eval (.Call (.Name "range" p1) [e] [] p2) X.env) :: backTo p4 (starEach [] X.env))) _ _ s
 refine Calls.spliced_cons (Call_ (ld_blt I hgy hmy boot_range (PyProof.Rows.callWith_type1 ?_ s1 (hpl _))))
 rw [s1]
 show wpAny _ _ (spliced ((false, eval e X.env) :: backTo p2 (starEach [] X.env))) _ _ s
 refine Calls.spliced_cons (thn (he.h pins s σ H _ I h) fun u s1 ⟨v, H1, I1, r1, n, ev, n0, n1, q⟩ => ?_)
 subst ev
 obtain ⟨t, rfl⟩ := r1
 refine Calls.spliced_nil (call_range_1 (Calls.spliced_nil ?_))
 have hh : X.A.handled = none := I.ok.hd hc
 refine call_tuple_range (n := n.toNat) (a := 0) (b := n) (c := 1) ⟨small_one (by decide) (by decide) (by omega) (by omega), by rw [rangeSize_one]; split <;> omega, by omega⟩ hh (Heap.get?_push_size _ rfl) fun h' tk acc k i => ?_
 have I2 : Inv X pins σ H1 { s1 with heap := h', toks := tk } := I1.kept (t' := tk) fun b o eb => k b o (Heap.get?_push_of_some _ eb)
 have rv := vals_upTo i
 have hz : acc.toList.length ≤ sizeLine := by rw [Array.length_toList, i.1, sizeLine_eq]; omega
 have I3 : Inv X pins σ (upd H1 h'.objs.size (.tup (upToV n.toNat))) { s1 with heap := h'.push { cls := .type "tuple", data := .seq acc }, toks := tk } :=
  I2.laid (t' := tk) (fun b o eb => Heap.get?_push_of_some _ eb) (Nat.le_refl _) (show ObjOk X.prog X.w _ _ _ (.tup (upToV n.toNat)) from ⟨by rw [rv.length]; exact hz, acc.toList, rv, by rw [Array.toArray_toList]; exact IsTup.new _ _⟩)
 exact ⟨.ref h'.objs.size, _, I3, rfl, q _ (I2.hok.fresh (Nat.le_refl _))⟩
end
end Br
open PySem PySem.Spec PyProof.Rows L2 Br
local macro_rules | `(tactic| wtm_at "at") => `(tactic| first | exact At.here | (apply At.there; wtm_at "at") | fail)
local macro_rules | `(tactic| wtm_at "K") => `(tactic| first | exact cxC_K | exact cxC_K.trans cxC_K | rfl | fail)
local macro_rules | `(tactic| wtm_at "op") => `(tactic| first | (apply k_addA; wtm_at "K") | apply o_sub | apply o_mulI | apply o_mod | apply o_fdiv | apply o_pow | fail)
local macro_rules | `(tactic| wtm_at "cop") => `(tactic| first | apply c_eq | apply c_ne | apply c_lt | apply c_le | apply c_gt | apply c_ge | apply c_isnotN | apply c_is | (apply k_in; wtm_at "K") | (apply k_notin; wtm_at "K") | fail)
local macro_rules | `(tactic| wtm_at "pe") => `(tactic| first
 | apply j_int
 | (apply j_name; (wtm_at "at"); (rfl); (decide +kernel); (decide +kernel))
 | (apply j_cell; (wtm_at "at"); (rfl); (decide +kernel); (decide +kernel))
 | (apply j_repL; (wtm_at "pe"); (wtm_at "pe"))
 | (apply j_bin; (wtm_at "op"); (wtm_at "pe"); (wtm_at "pe"))
 | (apply k_ix; (wtm_at "K"); (exact fun _ _ => rfl); (wtm_at "pe"); (wtm_at "pe"))
 | wtm_at "call"
 | (apply j_tup; (wtm_at "pa"))
 | (apply j_lst; (wtm_at "pa"))
 | (apply j_cmp; (decide); (decide); (wtm_at "cop"); (wtm_at "pe"); (wtm_at "pe"))
 | (apply j_chain; (with_unfolding_all rfl); (wtm_at "cop"); (wtm_at "cop"); (wtm_at "pe"); (wtm_at "pe"); (wtm_at "pe"))
 | apply j_bl | apply j_non | apply j_str
 | (apply j_neg; (wtm_at "pe"))
 | (apply k_slS; (wtm_at "K"); (wtm_at "pe"); (wtm_at "po"); (wtm_at "po"))
 | (apply j_one; (wtm_at "pe"))
 | (apply j_and; (wtm_at "pe"); (wtm_at "pe"))
 | apply j_dict0
 | (apply j_comp1; (rfl); (rfl); (intro _; rfl); (wtm_at "nd"); (rfl); (wtm_at "pi"); (intro cC cs cH cfp; wtm_at "pf"); (intro cC cs cH cfp; wtm_at "pe"))
 | (apply k_comp2; (wtm_at "K"); (rfl); (rfl); (intro _; rfl); (wtm_at "nd"); (decide +kernel); (rfl); (rfl); (wtm_at "pi"); (intro cC cs cH cfp; wtm_at "pf"); (intro cC cs cH cfp; wtm_at "pe"))
 | (apply j_bty (T := "int"); (rfl); (assumption); (decide +kernel); (decide +kernel); (decide +kernel))
 | (apply j_bty (T := "bool"); (rfl); (assumption); (decide +kernel); (decide +kernel); (decide +kernel))
 | (apply j_bty (T := "tuple"); (rfl); (assumption); (decide +kernel); (decide +kernel); (decide +kernel))
 | (apply j_bty (T := "list"); (rfl); (assumption); (decide +kernel); (decide +kernel); (decide +kernel))
 | (apply j_bty (T := "ValueError"); (rfl); (assumption); (decide +kernel); (decide +kernel); (decide +kernel))
 | fail)
local macro_rules | `(tactic| wtm_at "call") => `(tactic| first
 | (apply k_append; (wtm_at "K"); (rfl); (rfl); (rfl); (rfl); (rfl); (wtm_at "pe"); (wtm_at "pa"))
 | (apply j_call; (assumption); (wtm_at "room"); (rfl); (decide +kernel); (rfl); (rfl); (wtm_at "pa"))
 | (apply k_isi; (wtm_at "K"); (rfl); (rfl); (rfl); (with_reducible rfl); (assumption); (wtm_at "pa"))
 | (apply k_len; (wtm_at "K"); (rfl); (rfl); (rfl); (with_reducible rfl); (assumption); (wtm_at "pa"))
 | (apply j_max; (rfl); (rfl); (rfl); (with_reducible rfl); (rfl); (assumption); (wtm_at "pa"))
 | (apply j_min; (rfl); (rfl); (rfl); (with_reducible rfl); (rfl); (assumption); (wtm_at "pa"))
 | (apply j_intc; (rfl); (rfl); (rfl); (with_reducible rfl); (assumption); (wtm_at "pa"))
 | (apply k_minD; (wtm_at "K"); (rfl); (rfl); (rfl); (with_reducible rfl); (with_reducible rfl); (rfl); (assumption); (wtm_at "pa"); (wtm_at "pe"))
 | (apply j_dm; (rfl); (rfl); (rfl); (with_reducible rfl); (assumption); (wtm_at "pa"))
 | (apply k_sortedM; (rfl); (rfl); (rfl); (wtm_at "K"); (with_reducible rfl); (rfl); (assumption); (wtm_at "pa"))
 | (apply k_tuple; (rfl); (rfl); (rfl); (wtm_at "K"); (with_reducible rfl); (assumption); (wtm_at "pa"))
 | (apply k_listc; (rfl); (rfl); (rfl); (wtm_at "K"); (with_reducible rfl); (assumption); (wtm_at "pa"))
 | (apply k_sumS; (rfl); (rfl); (rfl); (wtm_at "K"); (with_reducible rfl); (rfl); (assumption); (wtm_at "pa"))
 | (apply k_all; (wtm_at "K"); (rfl); (rfl); (rfl); (with_reducible rfl); (rfl); (assumption); (wtm_at "pa"))
 | fail)
local macro_rules | `(tactic| wtm_at "roomH") => `(tactic| first | assumption | exact RoomH.mark (by assumption) (by decide) | exact RoomH.of (by assumption) (by decide) | exact RoomH.mono (by assumption) (by decide) | fail)
local macro_rules | `(tactic| wtm_at "room") => `(tactic| first | assumption | exact Room.mono (by assumption) (by decide) | fail)
local macro_rules | `(tactic| wtm_at "pa") => `(tactic| first | apply j_nil | (apply j_cons; (rfl); (wtm_at "pe"); (wtm_at "pa")) | fail)
local macro_rules | `(tactic| wtm_at "po") => `(tactic| first | apply j_onone | (apply j_osome; (wtm_at "pe")) | fail)
local macro_rules | `(tactic| wtm_at "pt") => `(tactic| first
 | (apply u_cmp; (decide); (decide); (wtm_at "cop"); (wtm_at "pe"); (wtm_at "pe"))
 | (apply u_cmpM; (with_unfolding_all rfl); (wtm_at "cop"); (wtm_at "pe"); (wtm_at "pe"))
 | (apply u_or; (wtm_at "pw"))
 | (apply u_and; (wtm_at "pw"))
 | (apply u_not; (wtm_at "pt"))
 | (apply u_call; (wtm_at "pe"))
 | fail)
local macro_rules | `(tactic| wtm_at "pw") => `(tactic| first
 | (apply w_and1; (wtm_at "pt"))
 | (apply w_or1; (wtm_at "pt"))
 | (apply w_and; (wtm_at "pt"); (wtm_at "pw"))
 | (apply w_or; (wtm_at "pt"); (wtm_at "pw"))
 | fail)
local macro_rules | `(tactic| wtm_at "pi") => `(tactic| first
 | (apply i_range1; (with_reducible rfl); (rfl); (assumption); (rfl); (wtm_at "pa"))
 | (apply k_zip; (wtm_at "K"); (with_reducible rfl); (rfl); (assumption); (rfl); (rfl); (wtm_at "pa"))
 | (apply k_seq; (wtm_at "K"); (wtm_at "pe"))
 | fail)
local macro_rules | `(tactic| wtm_at "pg") => `(tactic| first
 | (apply g_name; (wtm_at "at"); (assumption); (rfl))
 | (apply g_tup2; (wtm_at "at"); (wtm_at "at"); (rfl); (assumption); (rfl); (rfl); (rfl); (rfl); (rfl); (rfl))
 | (apply g_tup2C; (wtm_at "at"); (wtm_at "at"); (rfl); (assumption); (first | exact .inl rfl | exact .inr rfl); (first | exact .inl rfl | exact .inr rfl); (rfl); (rfl); (rfl); (rfl); (rfl); (rfl))
 | fail)
local macro_rules | `(tactic| wtm_at "ps") => `(tactic| first
 | (apply s_set; (wtm_at "at"); (assumption); (rfl); (rfl); (wtm_at "pe"))
 | (apply s_setC; (wtm_at "at"); (assumption); (rfl); (rfl); (rfl); (wtm_at "pe"))
 | (apply s_if; (wtm_at "pt"); (wtm_at "pss"); (wtm_at "pss"))
 | (apply s_ret; (wtm_at "pe"))
 | (apply s_for; (exact PassesOwn.never); (rfl); (intro _; rfl); (wtm_at "pi"); (wtm_at "pg"); (wtm_at "pss"))
 | (apply s_expr; (rfl); (wtm_at "pe"))
 | (apply s_comp1; (rfl); (rfl); (intro _; rfl); (assumption); (rfl); (wtm_at "at"); (rfl); (rfl); (wtm_at "pi"); (intro cC cs cH cfp; wtm_at "pf"); (intro cC cs cH cfp; wtm_at "pe"))
 | (apply s_comp2; (rfl); (rfl); (intro _; rfl); (assumption); (decide +kernel); (rfl); (rfl); (wtm_at "at"); (rfl); (rfl); (wtm_at "pi"); (intro cC cs cH cfp; wtm_at "pf"); (intro cC cs cH cfp; wtm_at "pe"))
 | (apply s_unpack2; (wtm_at "at"); (wtm_at "at"); (rfl); (assumption); (rfl); (rfl); (rfl); (rfl); (rfl); (rfl); (rfl); (rfl); (rfl); (wtm_at "pe"))
 | (apply s_ixset; (rfl); (rfl); (rfl); (intro _; rfl); (wtm_at "pe"); (wtm_at "pe"); (wtm_at "pe"))
 | (apply s_unpackIx; (wtm_at "K"); (wtm_at "at"); (rfl); (assumption); (rfl); (rfl); (rfl); (rfl); (rfl); (rfl); (rfl); (rfl); (intro _; rfl); (wtm_at "pe"); (wtm_at "pe"); (wtm_at "pe"))
 | fail)
local macro_rules | `(tactic| wtm_at "nd") => `(tactic| first | assumption | decide +kernel | fail)
local macro_rules | `(tactic| wtm_at "pf") => `(tactic| first | apply f_nil | (apply f_one; (wtm_at "pt")) | fail)
local macro_rules | `(tactic| wtm_at "pss") => `(tactic| first
 | (apply ss_cons; (wtm_at "ps"); (wtm_at "pss"))
 | apply ss_nil
 | fail)
local macro_rules | `(tactic| wtm_at "pex") => `(tactic| first
 | fail)
local macro_rules | `(tactic| wtm_at "psx") => `(tactic| first
 | fail)
local macro_rules | `(tactic| wtm_at "pssx") => `(tactic| first
 | fail)
local macro_rules | `(tactic| wtm_at "body") => `(tactic| (refine' ss_cons ?a ?b; (case a => wtm_at "ps"); (case b => wtm_at "pss")))
local macro_rules | `(tactic| wtm_at "side") => `(tactic| first
 | (with_reducible exact IntMulOk.of_right (by decide))
 | (with_reducible exact IntMulOk.of_left (by decide))
 | (with_reducible refine CMulB.ok (mulB ?_ ?_) <;> omega)
 | (with_reducible refine mulB ?_ ?_ <;> omega)
 | (with_reducible refine divB ?_ ?_ <;> omega)
 | (show (0 : Int) < _; omega)
 | (show (0 : Int) < _; decide)
 | (exact ⟨by omega, by omega, by omega⟩)
 | fail)
local macro_rules | `(tactic| wtm_at "rd1") => `(tactic| first
 | refine ⟨_, rfl, ?_⟩
 | (refine ⟨_, _, rfl, rfl, ?c, ?_⟩; (case c => wtm_at "side"))
 | refine ⟨_, _, rfl, rfl, ?_⟩
 | refine .inl ⟨_, _, rfl, rfl, ?_⟩
 | refine ⟨_, _, rfl, ?_⟩
 | fail)
local macro_rules | `(tactic| wtm_at "rd") => `(tactic| repeat wtm_at "rd1")
namespace K75
def top (i : Nat) : Stmt := PySem.Challenge.pw_brimyard_k75_wheels_judged.main.body.getD i (.Pass ⟨0, 0, 0, 0⟩)
abbrev sDeal : Stmt := top 13
abbrev sTake : Stmt := top 14
def Mo (ps : List Addr) (H H' : Hp) : Prop := ∀ b o, b ∉ ps → H b = some o → H' b = some o
theorem Mo.refl : Mo ps H H := fun _ _ _ e => e
theorem Mo.trans (a : Mo ps H H') (b : Mo ps H' H'') : Mo ps H H'' := fun c o n e => b c o n (a c o n e)
theorem Mo.of (s : L2.Same H H') : Mo ps H H' := fun b o _ e => s b o e
theorem Mo.put (hp : p ∈ ps) : Mo ps H (L2.upd H p o) := fun b u n e => by rw [upd_ne (fun z => n (by simp_all))]; omega
theorem Mo.more (h : Mo ps H H') (s : ∀ b ∈ ps, b ∈ qs) : Mo qs H H' := fun b o n e => h b o (fun z => n (s b z)) e
def Pot (H : Hp) (p : Addr) : Prop := ∃ x : Int, H p = some (.lst [.int x]) ∧ 0 ≤ x
theorem Pot.same {H H' : Hp} {p : Addr} (h : Pot H p) (s : L2.Same H H') : Pot H' p := let ⟨x, e, a⟩ := h; ⟨x, s _ _ e, a⟩
section
variable {P : Program} {w : World} {K : PySem.W.Frag} {mg : Str → Option Value} {base : Heap}
theorem scDeal : FnScope ["cell", "many", "number", "one", "k", "two"] ["cell", "many"] (defScope sDeal) := ⟨rfl, rfl, rfl, by decide +kernel, rfl, by decide +kernel, by decide +kernel⟩
def spDeal : Sp := fun vs H Q _ => ∃ c m : Int, vs = [.int c, .int m] ∧ 0 ≤ m ∧ m ≤ 1000 ∧ ∀ (p : Addr) (H' : Hp), H p = none → L2.Same H H' → Pot H' p → Q (.ref p) H'
theorem ok_deal {f : Addr} {fd : FuncData} (F : Fun K "_law_deal" "_law_deal" sDeal f fd) (mR : mg "range" = none) : FnOk P w K mg base CX0 1 f fd ["cell", "many"] spDeal := by
 refine Br.Fun.j F scDeal (fun vs H Q E h => ?_) (fun cdv A outer s H vs Q E hr h => ?_)
 · obtain ⟨_, _, rfl, _⟩ := h; rfl
 · obtain ⟨c, m, rfl, hm0, hm1, h⟩ := h
   have nd := scDeal.nd
   refine' ⟨_, ?d, ?r⟩
   case d => wtm_at "body"
   case r =>
    refine ⟨_, ?_, fun _ _ h => h⟩
    wtm_at "rd"
    refine ite2 (fun hc => ?_) (fun hc => ?_)
    · have hc := of_decide_eq_true hc
      wtm_at "rd"
      refine ⟨lenLe (n := 1) rfl (by decide), fun p H' hp s' e' => h p H' hp s' ⟨_, e', by omega⟩⟩
    · wtm_at "rd"
      refine ⟨by omega, by omega, for_range (fun i σ H2 => H2 = H ∧ ∃ (n one : Int) (x y : Option V), 0 ≤ n ∧ 0 ≤ one ∧ one < 2147483647 ∧ σ = [some (.int c), some (.int m), some (.int n), some (.int one), x, y]) ⟨rfl, 0, _, none, none, by decide, Int.emod_nonneg _ (by decide), Int.emod_lt_of_pos _ (by decide), rfl⟩ ?_ ?_⟩
      · rintro i σ H2 hi ⟨rfl, n, one, x, y, hn, h1, h2, rfl⟩
        wtm_at "rd"
        generalize hz : (one * 48271 + (0 + (i : Int)) + 1) % 2147483647 = z
        have hz0 : 0 ≤ z ∧ z < 2147483647 := by omega
        refine ⟨rfl, _, _, _, _, ?_, ?_, ?_, rfl⟩ <;> omega
      · rintro σ H2 ⟨rfl, n, one, x, y, hn, h1, h2, rfl⟩
        wtm_at "rd"
        refine ⟨lenLe (n := 1) rfl (by decide), fun p H' hp s' e' => h p H' hp s' ⟨_, e', hn⟩⟩
theorem scTake : FnScope ["pot", "many", "digit"] ["pot", "many"] (defScope sTake) := ⟨rfl, rfl, rfl, by decide +kernel, rfl, by decide +kernel, by decide +kernel⟩
def spTake : Sp := fun vs H Q _ => ∃ (p : Addr) (m : Int), vs = [.ref p, .int m] ∧ Pot H p ∧ 0 < m ∧ m < 2 ^ 250 ∧ ∀ (r : Int) (H' : Hp), Mo [p] H H' → Pot H' p → 0 ≤ r → r < m → Q (.int r) H'
theorem ok_take {f : Addr} {fd : FuncData} (F : Fun K "_law_take" "_law_take" sTake f fd) (mD : mg "divmod" = none) : FnOk P w K mg base CX0 1 f fd ["pot", "many"] spTake := by
 refine Br.Fun.j F scTake (fun vs H Q E h => ?_) (fun cdv A outer s H vs Q E hr h => ?_)
 · obtain ⟨_, _, rfl, _⟩ := h; rfl
 · obtain ⟨p, m, rfl, ⟨x, hp, hx⟩, hm, hm2, h⟩ := h
   have nd := scTake.nd
   refine' ⟨_, ?d, ?r⟩
   case d => wtm_at "body"
   case r =>
    wtm_at "rd"
    refine .inl ⟨p, _, _, _, rfl, rfl, SqL.of hp, (show atI [V.int x] 0 = some (.int x) from rfl), ?_⟩
    wtm_at "rd"
    refine ⟨divB hm hm2, fun t H2 ht s2 e2 => ?_⟩
    refine ⟨t, _, rfl, SqT.of e2, rfl, _, _, rfl, ?_⟩
    refine ⟨_, rfl, p, _, _, 0, rfl, rfl, s2 _ _ hp, rfl, ?_⟩
    refine ⟨_, _, rfl, rfl, _, rfl, h _ _ ((Mo.of s2).trans (Mo.put (by simp))) ⟨x / m, upd_same, Int.ediv_nonneg hx (by omega)⟩ (Int.emod_nonneg _ (by omega)) (Int.emod_lt_of_pos _ hm)⟩
end
section
variable {P : Program} {w : World} {K : PySem.W.Frag} {mg : Str → Option Value} {base : Heap}
abbrev sMost : Stmt := top 6
abbrev sEnough : Stmt := top 16
theorem scMost : FnScope ["counts", "d", "rising", "rests"] ["counts", "d"] (defScope sMost) := ⟨rfl, rfl, rfl, by decide +kernel, rfl, by decide +kernel, by decide +kernel⟩
def spMost (K : PySem.W.Frag) : Sp := fun vs H Q _ => ∃ (c : Addr) (ns : List Int) (d : Int), vs = [.ref c, .int d] ∧ SqT K H c (ns.map V.int) ∧ ns.length < 64 ∧ (∀ x ∈ ns, 0 ≤ x) ∧ 1 ≤ d ∧ d ≤ 100 ∧ ∀ (N : Int) (H' : Hp), L2.Same H H' → IsMost ns d N → Q (.int N) H'
theorem ok_most {f : Addr} {fd : FuncData} (F : Fun K "most_bins" "most_bins" sMost f fd) (mS : mg "sorted" = none) (mU : mg "sum" = none) (mX : mg "max" = none) (mL : mg "len" = none) (mR : mg "range" = none) (mN : mg "min" = none) : FnOk P w K mg base CX0 1 f fd ["counts", "d"] (spMost K) := by
 refine Br.Fun.j F scMost (fun vs H Q E h => ?_) (fun cdv A outer s H vs Q E hr h => ?_)
 · obtain ⟨_, _, _, rfl, _⟩ := h; rfl
 · obtain ⟨c, ns, d, rfl, hS, h64, h0, hd, hd1, h⟩ := h
   have nd := scMost.nd
   have hsz : (sizeLine : Nat) = 16777216 := sizeLine_eq
   refine' ⟨_, ?d, ?r⟩
   case d => wtm_at "body"
   case r =>
    wtm_at "rd"
    refine .inr ⟨c, ns, rfl, .inr hS, .inl h64, fun l ms H1 hl s1 e1 hp hs => ?_⟩
    wtm_at "rd"
    refine ⟨by omega, by omega, ?_⟩
    refine cmp_range (lo := 0) (n := d.toNat) (fun i ys σ H2 => L2.Same H1 H2 ∧ ys = ((List.range i).map fun g : Nat => V.int ((ms.take (ms.length - g)).sum / (d - g))) ∧ ∃ x : Option V, σ = [x, some (.ref c), some (.int d), some (.ref l), none])
     ⟨L2.Same.refl _, rfl, none, rfl⟩ (by omega) (fun i ys σ H2 _ ⟨_, e2, _⟩ => by rw [e2, List.length_map, List.length_range]; exact Nat.le_refl _) ?_ ?_
    · rintro i ys σ H2 N hi ⟨sh, rfl, x0, rfl⟩ hN
      wtm_at "rd"
      refine .inl ⟨l, _, rfl, .inl (SqL.of (sh _ _ e1)), ?_⟩
      wtm_at "rd"
      have hcut : cutV (ms.map V.int) none (some (if ((ms.map V.int).length : Int) - (0 + (i : Int)) > 0 then ((ms.map V.int).length : Int) - (0 + (i : Int)) else 0)) = (ms.take (ms.length - i)).map V.int := by
       rw [List.length_map]
       unfold cutV HT.sIx
       simp only [List.length_map, List.drop_zero, Nat.sub_zero, List.map_take]
       congr 1
       split <;> split <;> omega
      refine ⟨l, _, rfl, .inl ⟨SqL.of (sh _ _ e1), fun q H3 hq s3 e3 => ?_⟩⟩
      rw [hcut] at e3
      refine ⟨q, _, rfl, .inl (SqL.of e3), ?_⟩
      wtm_at "rd"
      refine hN _ _ _ ⟨sh.trans s3, ?_, _, rfl⟩
      rw [List.range_succ, List.map_append]
      simp
    rintro ys σ H2 ⟨sh, rfl, x0, rfl⟩ pw H3 hpw s3 e3
    wtm_at "rd"
    refine ⟨pw, (List.range d.toNat).map (fun g : Nat => (ms.take (ms.length - g)).sum / (d - g)), rfl, SqL.of (by rw [e3, List.map_map]; rfl), fun N hN hle => ?_, fun hn => ?_⟩
    · refine h N H3 (s1.trans (sh.trans s3)) (most_is hp hs h0 hd ?_ fun g hg => ?_)
      · obtain ⟨g, hg, e⟩ := List.mem_map.mp hN
        exact ⟨g, by have := List.mem_range.mp hg; omega, e.symm⟩
      · exact hle _ (List.mem_map.mpr ⟨g, List.mem_range.mpr (by omega), rfl⟩)
    · have := congrArg List.length hn
      rw [List.length_map, List.length_range] at this
      simp at this; omega
theorem scEnough : FnScope ["counts", "d", "number"] ["counts", "d", "number"] (defScope sEnough) := ⟨rfl, rfl, rfl, by decide +kernel, rfl, by decide +kernel, by decide +kernel⟩
def spEnough (K : PySem.W.Frag) : Sp := fun vs H Q _ => ∃ (c : Addr) (ns : List Int) (d N : Int), vs = [.ref c, .int d, .int N] ∧ SqT K H c (ns.map V.int) ∧ ns.length < 64 ∧ 0 ≤ d ∧ d ≤ 100 ∧ ∀ (H' : Hp), L2.Same H H' → Q (.bl (decide (d * N ≤ cutS ns N))) H'
theorem ok_enough {f : Addr} {fd : FuncData} (F : Fun K "_law_enough" "_law_enough" sEnough f fd) (mU : mg "sum" = none) (mN : mg "min" = none) : FnOk P w K mg base CX0 1 f fd ["counts", "d", "number"] (spEnough K) := by
 refine Br.Fun.j F scEnough (fun vs H Q E h => ?_) (fun cdv A outer s H vs Q E hr h => ?_)
 · obtain ⟨_, _, _, _, rfl, _⟩ := h; rfl
 · obtain ⟨c, ns, d, N, rfl, hS, h64, hd, hd1, h⟩ := h
   have nd := scEnough.nd
   have hsz : (sizeLine : Nat) = 16777216 := sizeLine_eq
   refine' ⟨_, ?d, ?r⟩
   case d => wtm_at "body"
   case r =>
    wtm_at "rd"
    refine .inr ⟨⟨_, hS⟩, ?_⟩
    refine cmp_tup (K := K) (a := c) (xs := ns.map V.int) (fun i ys σ H2 => H2 = H ∧ ys = (ns.take i).map (fun x => V.int (if N < x then N else x)) ∧ ∃ x : Option V, σ = [x, some (.ref c), some (.int d), some (.int N)])
     ⟨rfl, rfl, none, rfl⟩ (by rw [List.length_map]; omega) (fun i ys σ H2 _ ⟨e1, e2, _⟩ => ⟨by rw [e1]; exact hS, by rw [e2, List.length_map, List.length_take]; omega⟩) ?_ ?_
    · rintro i x ys σ H2 N' hx ⟨rfl, rfl, x0, rfl⟩ hN
      rw [List.getElem?_map] at hx
      obtain ⟨n, hn, rfl⟩ := Option.map_eq_some_iff.mp hx
      wtm_at "rd"
      refine hN _ _ _ ⟨rfl, ?_, _, rfl⟩
      rw [List.take_add_one, hn, List.map_append]; rfl
    rintro ys σ H2 ⟨rfl, rfl, x0, rfl⟩ pw H3 hpw s3 e3
    have e3' : H3 pw = some (.lst ((ns.map fun x => if N < x then N else x).map V.int)) := by
     rw [e3, List.length_map, List.take_length, List.map_map]; rfl
    refine ⟨pw, _, rfl, .inl (SqL.of e3'), ?_⟩
    refine ⟨_, rfl, _, rfl, _, _, rfl, rfl, IntMulOk.of_left (intBits_le_64 (by omega) (by omega)), ?_⟩
    refine ⟨_, _, rfl, rfl, h _ s3⟩
end
section
variable {P : Program} {w : World} {K : PySem.W.Frag} {mg : Str → Option Value} {base : Heap}
abbrev sCounts : Stmt := top 15
theorem scCounts : FnScope ["pot", "many", "kind", "base", "found", "k"] ["pot"] (defScope sCounts) := ⟨rfl, rfl, rfl, by decide +kernel, rfl, by decide +kernel, by decide +kernel⟩
def spCounts : Sp := fun vs H Q _ => ∃ (p : Addr), vs = [.ref p] ∧ Pot H p ∧ ∀ (c : Addr) (ns : List Int) (H' : Hp), Mo [p] H H' → Pot H' p → H' c = some (.tup (ns.map V.int)) → 1 ≤ ns.length → ns.length ≤ 12 → (∀ x ∈ ns, 0 ≤ x ∧ x ≤ 10 ^ 60) → Q (.ref c) H'
def CntInv (p l : Addr) (m0 kd : Int) (H6 : Hp) (i : Nat) (σ : L2.St) (H7 : Hp) : Prop := ∃ (zs : List Int) (b : Int) (x5 : Option V), zs.length = i ∧ (∀ x ∈ zs, 0 ≤ x ∧ x ≤ 10 ^ 60) ∧ 0 ≤ b ∧ b < 10 ^ 60 ∧ H7 l = some (.lst (zs.map V.int)) ∧ Pot H7 p ∧ Mo [p, l] H6 H7 ∧
 σ = [some (.ref p), some (.int (1 + m0)), some (.int kd), some (.int b), some (.ref l), x5]
theorem cnt_put {p l : Addr} {m0 kd : Int} {H6 H7 H8 : Hp} {i : Nat} {zs : List Int} {v b : Int} {x5 : Option V} (hlp : l ≠ p) (hzl : zs.length = i) (hzs : ∀ x ∈ zs, 0 ≤ x ∧ x ≤ 10 ^ 60) (hv : 0 ≤ v) (hv2 : v ≤ 10 ^ 60) (hb : 0 ≤ b) (hb2 : b < 10 ^ 60) (m8 : Mo [p] H7 H8) (p8 : Pot H8 p) (m7 : Mo [p, l] H6 H7) :
 CntInv p l m0 kd H6 (i + 1) [some (.ref p), some (.int (1 + m0)), some (.int kd), some (.int b), some (.ref l), x5] (upd H8 l (.lst (zs.map V.int ++ [V.int v]))) := by
 refine ⟨zs ++ [v], b, x5, by rw [List.length_append, hzl]; rfl, fun x hx => ?_, hb, hb2, by rw [upd_same, List.map_append]; rfl, ?_, m7.trans ((m8.more (by simp)).trans (Mo.put (by simp))), rfl⟩
 · rcases List.mem_append.mp hx with z | z
   · exact hzs x z
   · rw [List.mem_singleton.mp z]; exact ⟨hv, hv2⟩
 · obtain ⟨u, e, a⟩ := p8
   exact ⟨u, by rw [upd_ne (Ne.symm hlp)]; exact e, a⟩
theorem ok_counts {f : Addr} {fd : FuncData} (F : Fun K "_law_counts" "_law_counts" sCounts f fd) (cT : Callee CX0 P w K mg base "_law_take" 1 ["pot", "many"] spTake) (mR : mg "range" = none) (mT : mg "tuple" = none) : FnOk P w K mg base CX0 2 f fd ["pot"] spCounts := by
 refine Br.Fun.j F scCounts (fun vs H Q E h => ?_) (fun cdv A outer s H vs Q E hr h => ?_)
 · obtain ⟨_, rfl, _⟩ := h; rfl
 · obtain ⟨p, rfl, hp, h⟩ := h
   have nd := scCounts.nd
   have hsz : (sizeLine : Nat) = 16777216 := sizeLine_eq
   have e6 : (10 : Int) ^ Int.toNat 6 = 1000000 := by decide
   have e30 : (10 : Int) ^ Int.toNat 30 = 1000000000000000000000000000000 := by decide
   have e60 : (10 : Int) ^ Int.toNat 60 = 1000000000000000000000000000000000000000000000000000000000000 := by decide
   refine' ⟨_, ?d, ?r⟩
   case d => wtm_at "body"
   case r =>
    wtm_at "rd"
    refine ⟨hp, by decide, by decide, fun m0 H1 m1 p1 a0 a1 => ?_⟩
    wtm_at "rd"
    refine ⟨p1, by decide, by decide, fun kd H2 m2 p2 b0 b1 => ?_⟩
    wtm_at "rd"
    refine ⟨lenLe (n := 5) rfl (by decide), fun l5 H3 hl5 s3 g3 => ?_⟩
    wtm_at "rd"
    refine ⟨p2.same s3, by decide, by decide, fun i5 H4 m4 p4 c0 c1 => ?_⟩
    have g4 : H4 l5 = _ := m4 l5 _ (by intro z; rw [List.mem_singleton.mp z] at hl5; obtain ⟨_, q, _⟩ := p2; rw [q] at hl5; cases hl5) g3
    obtain ⟨z, hz, _, ez⟩ := atI_ints (zs := [5, 40, 10 ^ 6, 10 ^ 30, 10 ^ 60]) (i := i5) (by omega) (by simp; omega)
    have hz' : 5 ≤ z ∧ z ≤ 10 ^ 60 := by simp at hz; omega
    refine .inl ⟨l5, _, _, _, rfl, rfl, SqL.of g4, ez, ?_⟩
    refine ⟨p, z, rfl, p4, by omega, by omega, fun bs H5 m5 p5 d0 d1 => ?_⟩
    wtm_at "rd"
    refine ⟨by decide, fun l H6 hl s6 g6 => ?_⟩
    wtm_at "rd"
    have hlp : l ≠ p := fun z => by obtain ⟨_, e, _⟩ := p5; rw [z, e] at hl; cases hl
    have q6 := p5.same s6
    refine ⟨by omega, by omega, for_range (CntInv p l m0 kd H6) ⟨[], bs, none, rfl, by simp, d0, by omega, g6, q6, Mo.refl, rfl⟩ ?_ ?_⟩
    · rintro i σ H7 hi ⟨zs, b, x5, hzl, hzs, hb0, hb1, e7, p7, m7, rfl⟩
      have hi12 : i < 12 := by omega
      have hlen : (zs.map V.int).length < sizeLine := by rw [List.length_map]; omega
      have at8 : ∀ {H8 : Hp}, Mo [p] H7 H8 → H8 l = some (.lst (zs.map V.int)) := fun m => m l _ (by simpa using hlp) e7
      refine ⟨_, ?_, fun _ _ h => h⟩
      wtm_at "rd"
      refine ⟨rfl, _, rfl, ?_⟩
      refine ite2 (fun hc => ?_) (fun hc => ?_)
      · wtm_at "rd"
        refine ⟨.inl ⟨rfl, _, SqL.of e7⟩, ?_⟩
        wtm_at "rd"
        refine ⟨_, _, _, rfl, rfl, e7, hlen, ?_⟩
        exact cnt_put hlp hzl hzs hb0 (by omega) hb0 hb1 Mo.refl p7 m7
      refine ⟨_, ?_, fun _ _ h => h⟩
      wtm_at "rd"
      refine ⟨rfl, _, rfl, ?_⟩
      refine ite2 (fun hc => ?_) (fun hc => ?_)
      · wtm_at "rd"
        refine ⟨.inl ⟨rfl, _, SqL.of e7⟩, ?_⟩
        wtm_at "rd"
        refine ⟨p7, by decide, by decide, fun r H8 m8 p8 r0 r1 => ?_⟩
        refine ⟨_, _, _, rfl, rfl, at8 m8, hlen, ?_⟩
        exact cnt_put hlp hzl hzs r0 (by omega) hb0 hb1 m8 p8 m7
      refine ⟨_, ?_, fun _ _ h => h⟩
      wtm_at "rd"
      refine ⟨rfl, _, rfl, ?_⟩
      refine ite2 (fun hc => ?_) (fun hc => ?_)
      · wtm_at "rd"
        refine ⟨.inl ⟨rfl, _, SqL.of e7⟩, ?_⟩
        wtm_at "rd"
        refine ⟨p7, by decide, by decide, fun r H8 m8 p8 r0 r1 => ?_⟩
        wtm_at "rd"
        refine ⟨_, _, _, rfl, rfl, at8 m8, hlen, ?_⟩
        wtm_at "rd"
        exact cnt_put hlp hzl hzs (by omega) (by omega) (Int.ediv_nonneg hb0 (by decide)) (by omega) m8 p8 m7
      refine ⟨_, ?_, fun _ _ h => h⟩
      wtm_at "rd"
      refine ⟨rfl, _, rfl, ?_⟩
      refine ite2 (fun hc => ?_) (fun hc => ?_)
      · wtm_at "rd"
        refine ⟨.inl ⟨rfl, _, SqL.of e7⟩, ?_⟩
        wtm_at "rd"
        refine ⟨p7, by decide, by decide, fun r H8 m8 p8 r0 r1 => ?_⟩
        wtm_at "rd"
        refine ⟨p8, by decide, by decide, fun r' H9 m9 p9 r0' r1' => ?_⟩
        wtm_at "rd"
        refine ⟨lenLe (n := 3) rfl (by decide), fun l3 H10 hl3 s10 g10 => ?_⟩
        wtm_at "rd"
        refine ⟨p9.same s10, by decide, by decide, fun i3 H11 m11 p11 c0 c1 => ?_⟩
        have g11 : H11 l3 = _ := m11 l3 _ (by intro z; rw [List.mem_singleton.mp z] at hl3; obtain ⟨_, q, _⟩ := p9; rw [q] at hl3; cases hl3) g10
        obtain ⟨z3, hz3, _, ez3⟩ := atI_ints (zs := [10 ^ 60 - r, r', 0]) (i := i3) (by omega) (by simp; omega)
        have hz3' : 0 ≤ z3 ∧ z3 ≤ 10 ^ 60 := by simp at hz3; omega
        refine .inl ⟨l3, _, _, _, rfl, rfl, SqL.of g11, ez3, ?_⟩
        have mm := m8.trans (m9.trans ((Mo.of s10).trans m11))
        refine ⟨_, _, _, rfl, rfl, at8 mm, hlen, ?_⟩
        exact cnt_put hlp hzl hzs hz3'.1 hz3'.2 hb0 hb1 mm p11 m7
      · wtm_at "rd"
        refine ⟨.inl ⟨rfl, _, SqL.of e7⟩, ?_⟩
        wtm_at "rd"
        refine ⟨p7, by omega, by omega, fun r H8 m8 p8 r0 r1 => ?_⟩
        refine ⟨_, _, _, rfl, rfl, at8 m8, hlen, ?_⟩
        exact cnt_put hlp hzl hzs r0 (by omega) hb0 hb1 m8 p8 m7
    · rintro σ H7 ⟨zs, b, x5, hzl, hzs, hb0, hb1, e7, p7, m7, rfl⟩
      wtm_at "rd"
      refine ⟨l, _, rfl, SqL.of e7, fun t H8 ht s8 e8 => ?_⟩
      refine h t zs H8 ?_ (p7.same s8) e8 (by omega) (by omega) hzs
      intro b o n e
      have e5 := m5 b o n (m4 b o n (s3 _ _ (m2 b o n (m1 b o n e))))
      refine s8 _ _ (m7 b o (fun z => ?_) (s6 _ _ e5))
      simp only [List.mem_cons, List.mem_nil_iff, or_false] at z
      rcases z with z | z
      · exact n (by simp [z])
      · exact ne_of_none e5 hl z
end
section
local macro_rules | `(tactic| wtm_at "call") => `(tactic| (apply j_min3; (rfl); (rfl); (rfl); (with_reducible rfl); (rfl); (assumption); (wtm_at "pa")))
local macro_rules | `(tactic| wtm_at "ps") => `(tactic| (apply s_augSub; (wtm_at "at"); (assumption); (exact .inl rfl); (rfl); (wtm_at "pe")))
variable {P : Program} {w : World} {K : PySem.W.Frag} {mg : Str → Option Value} {base : Heap}
abbrev sCut : Stmt := top 7
theorem scCut : FnScope ["counts", "d", "bins", "left", "cut", "many", "taken"] ["counts", "d", "bins"] (defScope sCut) := ⟨rfl, rfl, rfl, by decide +kernel, rfl, by decide +kernel, by decide +kernel⟩
def spCut : Sp := fun vs H Q _ => ∃ (c : Addr) (ns : List Int) (d N : Int), vs = [.ref c, .int d, .int N] ∧ H c = some (.tup (ns.map V.int)) ∧ ns.length < 64 ∧ 1 ≤ d ∧ d ≤ 100 ∧ ∀ (l : Addr) (H' : Hp), H l = none → L2.Same H H' → H' l = some (.lst ((Wh.cutGo N (d * N) ns).map V.int)) → Q (.ref l) H'
theorem ok_cut {f : Addr} {fd : FuncData} (F : Fun K "cut_counts" "cut_counts" sCut f fd) (mN : mg "min" = none) : FnOk P w K mg base CX0 1 f fd ["counts", "d", "bins"] spCut := by
 refine Br.Fun.j F scCut (fun vs H Q E h => ?_) (fun cdv A outer s H vs Q E hr h => ?_)
 · obtain ⟨_, _, _, _, rfl, _⟩ := h; rfl
 · obtain ⟨c, ns, d, N, rfl, hS, h64, hd, hd1, h⟩ := h
   have nd := scCut.nd
   have hsz : (sizeLine : Nat) = 16777216 := sizeLine_eq
   refine' ⟨_, ?d, ?r⟩
   case d => wtm_at "body"
   case r =>
    wtm_at "rd"
    refine ⟨IntMulOk.of_left (intBits_le_64 (by omega) (by omega)), ?_⟩
    wtm_at "rd"
    refine ⟨by simp, fun l H1 nl s1 e1 => ?_⟩
    wtm_at "rd"
    have hcl : c ≠ l := ne_of_none hS nl
    refine .inr ⟨⟨_, SqT.of (s1 _ _ hS)⟩, ?_⟩
    refine for_tup (K := K) (a := c) (xs := ns.map V.int) (fun i σ G => (∀ b o, b ≠ l → H1 b = some o → G b = some o) ∧ ∃ (lf : Int) (ys : List Int) (x y : Option V), G l = some (.lst (ys.map V.int)) ∧ ys.length = i ∧ ys ++ Wh.cutGo N lf (ns.drop i) = Wh.cutGo N (d * N) ns ∧ σ = [some (.ref c), some (.int d), some (.int N), some (.int lf), some (.ref l), x, y])
     ⟨fun _ _ _ e => e, d * N, [], none, none, e1, rfl, rfl, rfl⟩ (fun i σ G _ ⟨kG, _⟩ => ?_) ?_ ?_
    · exact SqT.of (kG _ _ hcl (s1 _ _ hS))
    · rintro i x σ G hx ⟨kG, lf, ys, x0, y0, eG, hyl, hc, rfl⟩
      rw [List.getElem?_map] at hx
      obtain ⟨m, hm, rfl⟩ := Option.map_eq_some_iff.mp hx
      have hi := (List.getElem?_eq_some_iff.mp hm).1
      wtm_at "rd"
      refine ⟨_, _, _, rfl, ?_⟩
      wtm_at "rd"
      refine ⟨.inl ⟨rfl, _, SqL.of eG⟩, ?_⟩
      wtm_at "rd"
      refine ⟨l, _, _, rfl, rfl, eG, by rw [List.length_map]; omega, ?_⟩
      wtm_at "rd"
      refine ⟨fun b o nb e => by rw [upd_ne nb]; exact kG b o nb e, _, ys ++ [min (min m N) lf], _, _, by rw [upd_same, List.map_append]; rfl, by rw [List.length_append]; simp; omega, ?_, rfl⟩
      rw [List.append_assoc, ← hc]
      congr 1
      rw [List.drop_eq_getElem_cons hi, (List.getElem?_eq_some_iff.mp hm).2]
      rfl
    · rintro σ G ⟨kG, lf, ys, x0, y0, eG, hyl, hc, rfl⟩
      rw [List.length_map, List.drop_length] at hc
      have hc : ys = Wh.cutGo N (d * N) ns := by rw [← hc]; show ys = ys ++ []; simp
      wtm_at "rd"
      subst hc
      exact h l G nl (fun b o e => kG b o (ne_of_none e nl) (s1 _ _ e)) eG
end
def startsL (cut : List Int) : List Int := (List.range cut.length).map fun i => (cut.take i).sum
section
variable {P : Program} {w : World} {K : PySem.W.Frag} {mg : Str → Option Value} {base : Heap}
abbrev sStarts : Stmt := top 8
theorem scStarts : FnScope ["counts"] ["counts"] (defScope sStarts) := ⟨rfl, rfl, rfl, by decide +kernel, rfl, by decide +kernel, by decide +kernel⟩
def spStarts : Sp := fun vs H Q _ => ∃ (c : Addr) (ns : List Int), vs = [.ref c] ∧ H c = some (.lst (ns.map V.int)) ∧ ns.length < 64 ∧ ∀ (l : Addr) (H' : Hp), H l = none → L2.Same H H' → H' l = some (.lst ((startsL ns).map V.int)) → Q (.ref l) H'
theorem ok_starts {f : Addr} {fd : FuncData} (F : Fun K "starts_of" "starts_of" sStarts f fd) (mU : mg "sum" = none) (mR : mg "range" = none) (mL : mg "len" = none) : FnOk P w K mg base CX0 1 f fd ["counts"] spStarts := by
 refine Br.Fun.j F scStarts (fun vs H Q E h => ?_) (fun cdv A outer s H vs Q E hr h => ?_)
 · obtain ⟨_, _, rfl, _⟩ := h; rfl
 · obtain ⟨c, ns, rfl, hS, h64, h⟩ := h
   have nd := scStarts.nd
   have hsz : (sizeLine : Nat) = 16777216 := sizeLine_eq
   refine' ⟨_, ?d, ?r⟩
   case d => wtm_at "body"
   case r =>
    wtm_at "rd"
    refine .inl ⟨c, _, rfl, .inl (SqL.of hS), ?_⟩
    wtm_at "rd"
    refine ⟨by omega, by rw [List.length_map]; omega, ?_⟩
    refine cmp_range (lo := 0) (n := (ns.map V.int).length) (fun i ys σ H2 => L2.Same H H2 ∧ ys = ((List.range i).map fun g : Nat => V.int (ns.take g).sum) ∧ ∃ x : Option V, σ = [x, some (.ref c)])
     ⟨L2.Same.refl _, rfl, none, rfl⟩ (by rw [List.length_map]; omega) (fun i ys σ H2 _ ⟨_, e2, _⟩ => by rw [e2, List.length_map, List.length_range]; exact Nat.le_refl _) ?_ ?_
    · rintro i ys σ H2 N hi ⟨sh, rfl, x0, rfl⟩ hN
      wtm_at "rd"
      rw [List.length_map] at hi
      have hcut : cutV (ns.map V.int) none (some (0 + (i : Int))) = (ns.take i).map V.int := by
       unfold cutV HT.sIx
       simp only [List.length_map, List.drop_zero, Nat.sub_zero, List.map_take]
       congr 1
       split <;> omega
      refine ⟨c, _, rfl, .inl ⟨SqL.of (sh _ _ hS), fun q H3 hq s3 e3 => ?_⟩⟩
      rw [hcut] at e3
      refine ⟨q, _, rfl, .inl (SqL.of e3), ?_⟩
      wtm_at "rd"
      refine hN _ _ _ ⟨sh.trans s3, ?_, _, rfl⟩
      rw [List.range_succ, List.map_append]
      simp
    · rintro ys σ H2 ⟨sh, rfl, x0, rfl⟩ pw H3 hpw s3 e3
      wtm_at "rd"
      refine h pw H3 (same_none sh hpw) (sh.trans s3) (by rw [e3, List.length_map]; unfold startsL; rw [List.map_map]; rfl)
end
theorem dl0 {ks : List (Int × Int)} (h : ∀ q ∈ ks, 0 ≤ q.2) (n : Int) : 0 ≤ (dlook ks n).getD 0 := by
 cases e : dlook ks n with
 | none => exact Int.le_refl _
 | some c => exact h _ (dlook_some e)
def IsT (o : HO) : Prop := (∃ xs, o = .tup xs) ∨ ∃ ob xs, o = .frz ob (.tup xs)
def Tu (H H' : Hp) : Prop := ∀ b o, H b = some o → IsT o → H' b = some o
theorem Tu.of (s : L2.Same H H') : Tu H H' := fun b o e _ => s b o e
theorem Tu.trans (a : Tu H H') (b : Tu H' H'') : Tu H H'' := fun c o e x => b c o (a c o e x) x
def Lotp (H : Hp) (v : V) (q : List Int × Int) : Prop := ∃ r c : Addr, v = .ref r ∧ H r = some (.tup [.ref c, .int q.2]) ∧ H c = some (.tup (q.1.map V.int))
def Lots (H : Hp) (vs : List V) (fs : List (List Int × Int)) : Prop := vs.length = fs.length ∧ ∀ (i : Nat) (v : V), vs[i]? = some v → ∃ q, fs[i]? = some q ∧ Lotp H v q
def Tp (K : PySem.W.Frag) (H : Hp) (f : Addr) (vs : List V) : Prop := SqT K H f vs
theorem Tp.tu {K : PySem.W.Frag} {H H' : Hp} {f : Addr} {vs : List V} (h : Tp K H f vs) (m : Tu H H') : Tp K H' f vs := h.imp (fun e => e.imp (fun e => m _ _ e (.inl ⟨_, rfl⟩)) fun ⟨o, e⟩ => ⟨o, m _ _ e (.inr ⟨_, _, rfl⟩)⟩) id
theorem Tp.same {K : PySem.W.Frag} {H H' : Hp} {f : Addr} {vs : List V} (h : Tp K H f vs) (s : L2.Same H H') : Tp K H' f vs := h.tu (Tu.of s)
theorem Tp.sq {K : PySem.W.Frag} {H : Hp} {f : Addr} {vs : List V} (h : Tp K H f vs) : SqT K H f vs := h
def FillAt (K : PySem.W.Frag) (H : Hp) (f : Addr) (fs : List (List Int × Int)) : Prop := ∃ vs, Tp K H f vs ∧ Lots H vs fs
theorem Lotp.tu {H H' : Hp} {v : V} {q : List Int × Int} (x : Lotp H v q) (m : Tu H H') : Lotp H' v q := let ⟨r, c, h1, h2, h3⟩ := x; ⟨r, c, h1, m _ _ h2 (.inl ⟨_, rfl⟩), m _ _ h3 (.inl ⟨_, rfl⟩)⟩
theorem Lots.tu {H H' : Hp} {vs : List V} {fs : List (List Int × Int)} (x : Lots H vs fs) (m : Tu H H') : Lots H' vs fs := ⟨x.1, fun i v e => let ⟨q, h1, h2⟩ := x.2 i v e; ⟨q, h1, h2.tu m⟩⟩
theorem FillAt.tu {K : PySem.W.Frag} {H H' : Hp} {f : Addr} {fs : List (List Int × Int)} (x : FillAt K H f fs) (m : Tu H H') : FillAt K H' f fs := let ⟨vs, h1, h2⟩ := x; ⟨vs, h1.tu m, h2.tu m⟩
theorem Lots.nil {H : Hp} : Lots H [] [] := ⟨rfl, fun i v e => by simp at e⟩
theorem Lots.snoc {H : Hp} {vs : List V} {fs : List (List Int × Int)} {v : V} {q : List Int × Int} (k : Lots H vs fs) (e : Lotp H v q) : Lots H (vs ++ [v]) (fs ++ [q]) := by
 have k1 := k.1
 refine ⟨by rw [List.length_append, List.length_append, k1]; rfl, fun i u h => ?_⟩
 by_cases hi : i < vs.length
 · rw [List.getElem?_append_left hi] at h
   obtain ⟨q', h1, h2⟩ := k.2 i u h
   exact ⟨q', by rw [List.getElem?_append_left (by omega)]; exact h1, h2⟩
 · have hi2 : i = vs.length := by have := (List.getElem?_eq_some_iff.mp h).1; rw [List.length_append] at this; simp at this; omega
   subst hi2
   rw [List.getElem?_append_right (Nat.le_refl _), Nat.sub_self] at h
   simp at h
   exact ⟨q, by rw [k1, List.getElem?_append_right (Nat.le_refl _), Nat.sub_self]; rfl, by rw [← h]; exact e⟩
theorem cnt_take {zs : List Int} (e : zs[i]? = some z) (n : Int) : (zs.take (i + 1)).count n = (zs.take i).count n + if z = n then 1 else 0 := by
 rw [List.take_add_one, e, List.count_append]
 show _ + List.count n [z] = _
 rw [List.count_singleton]
 simp
structure CntIs (ks : List (Int × Int)) (fs : List (List Int × Int)) : Prop where
 nd : (ks.map (·.1)).Nodup
 eq : ∀ n, (dlook ks n).getD 0 = cntF fs n
 pos : ∀ q ∈ ks, 1 ≤ q.2
theorem dput_getD (ks : List (Int × Int)) (z v n : Int) : (dlook (dput ks z v) n).getD 0 = if z = n then v else (dlook ks n).getD 0 := by
 rw [dput_look]; split <;> rfl
section
local macro_rules | `(tactic| wtm_at "pe") => `(tactic| (apply j_dget2; (assumption); (rfl); (rfl); (rfl); (rfl); (wtm_at "pe"); (wtm_at "pe"); (wtm_at "pe")))
local macro_rules | `(tactic| wtm_at "ps") => `(tactic| (apply s_dput; (assumption); (rfl); (wtm_at "pe"); (wtm_at "pe"); (wtm_at "pe")))
variable {P : Program} {w : World} {K : PySem.W.Frag} {mg : Str → Option Value} {base : Heap}
abbrev sCin : Stmt := top 3
theorem scCin : FnScope ["filling", "counts", "lot", "times", "size"] ["filling"] (defScope sCin) := ⟨rfl, rfl, rfl, by decide +kernel, rfl, by decide +kernel, by decide +kernel⟩
def spCin (K : PySem.W.Frag) : Sp := fun vs H Q _ => ∃ (f : Addr) (fs : List (List Int × Int)), vs = [.ref f] ∧ FillAt K H f fs ∧ fs.length ≤ 100 ∧ (∀ g ∈ fs, g.1.length ≤ 100) ∧ (∀ g ∈ fs, 1 ≤ g.2) ∧
 ∀ (d : Addr) (ks : List (Int × Int)) (H' : Hp), H d = none → L2.Same H H' → H' d = some (.dK (vv2 ks)) → CntIs ks fs → ks.length ≤ 100 * fs.length → Q (.ref d) H'
theorem ok_cin {f : Addr} {fd : FuncData} (F : Fun K "counts_in" "counts_in" sCin f fd) : FnOk P w K mg base CX0 1 f fd ["filling"] (spCin K) := by
 refine Br.Fun.j F scCin (fun vs H Q E h => ?_) (fun cdv A outer s H vs Q E hr h => ?_)
 · obtain ⟨_, _, rfl, _⟩ := h; rfl
 · obtain ⟨fa, fs, rfl, ⟨us, h1, h2⟩, hfl, hll, hp1, h⟩ := h
   have nd := scCin.nd
   have hsz : (sizeLine : Nat) = 16777216 := sizeLine_eq
   have hul := h2.1
   refine' ⟨_, ?d, ?r⟩
   case d => wtm_at "body"
   case r =>
    refine fun d H1 hd s1 e1 => ?_
    refine ⟨_, rfl, fa, rfl, .inr ⟨⟨_, (h1.same s1).sq⟩, ?_⟩⟩
    refine for_tup (K := K) (a := fa) (xs := us) (fun i σ G => L2.Same H G ∧ ∃ (ks : List (Int × Int)) (x2 x3 x4 : Option V), G d = some (.dK (vv2 ks)) ∧ CntIs ks (fs.take i) ∧ ks.length ≤ 100 * i ∧ σ = [some (.ref fa), some (.ref d), x2, x3, x4])
     ⟨s1, [], none, none, none, e1, ⟨List.nodup_nil, fun n => rfl, fun q hq => (nomatch hq)⟩, Nat.le_refl _, rfl⟩ (fun i σ G _ ⟨sG, _⟩ => (h1.same sG).sq) ?_ ?_
    · rintro i x σ G hx ⟨sG, ks, x2, x3, x4, eG, hC, hkl, rfl⟩
      obtain ⟨q, hq, r, c, rfl, hrr, hcc⟩ := h2.2 i x hx
      have hi : i < fs.length := (List.getElem?_eq_some_iff.mp hq).1
      have hql := hll q (List.mem_of_getElem? hq)
      refine ⟨r, _, rfl, SqT.of (sG _ _ hrr), rfl, _, _, rfl, _, _, rfl, rfl, ?_⟩
      refine ⟨_, rfl, c, rfl, .inr ⟨⟨_, SqT.of (sG _ _ hcc)⟩, ?_⟩⟩
      refine for_tup (K := K) (a := c) (xs := q.1.map V.int) (fun j σ G => L2.Same H G ∧ ∃ (ks : List (Int × Int)) (x4 : Option V), G d = some (.dK (vv2 ks)) ∧ CntIs ks (fs.take i ++ [(q.1.take j, q.2)]) ∧ ks.length ≤ 100 * i + j ∧ σ = [some (.ref fa), some (.ref d), some (.ref c), some (.int q.2), x4])
       ⟨sG, ks, x4, eG, ⟨hC.nd, fun n => by rw [hC.eq n, cntF_append, cntF_one]; show _ = _ + q.2 * 0; omega, hC.pos⟩, hkl, rfl⟩ (fun j σ G _ ⟨sG, _⟩ => SqT.of (sG _ _ hcc)) ?_ ?_
      · rintro j x σ G hx ⟨sG, ks, x4, eG, hC, hkl, rfl⟩
        rw [List.getElem?_map] at hx
        obtain ⟨z, hz, rfl⟩ := Option.map_eq_some_iff.mp hx
        have hj : j < q.1.length := (List.getElem?_eq_some_iff.mp hz).1
        have dg := DGet.k (k := .inl z) eG
        rw [val_vv2] at dg
        have hlen : (vv2 ks).length = ks.length := by unfold vv2; rw [List.length_map]
        have gd : ((dlook ks z).map V.int).getD (.int 0) = .int ((dlook ks z).getD 0) := by cases dlook ks z <;> rfl
        refine ⟨_, rfl, d, rfl, .inl ⟨_, .inl eG⟩, _, rfl, _, dg, ?_⟩
        rw [gd]
        refine ⟨_, rfl, .inl ⟨_, _, rfl, rfl, ?_⟩⟩
        refine ⟨_, rfl, _, rfl, d, _, rfl, DPut.k (k := .inl z) eG (by rw [hlen]; omega), fun b o e => ?_, dput ks z ((dlook ks z).getD 0 + q.2), _, by rw [upd_same, put_vv2], ⟨dput_nodup _ _ hC.nd, fun n => ?_, fun c hc => ?_⟩, ?_, rfl⟩
        · rw [upd_ne (ne_of_none e hd)]; exact sG _ _ e
        · rw [dput_getD]
          have hn := hC.eq n
          rw [cntF_append, cntF_one] at hn ⊢
          show _ = cntF (fs.take i) n + q.2 * (((q.1.take (j + 1)).count n : Nat) : Int)
          have hn : (dlook ks n).getD 0 = cntF (fs.take i) n + q.2 * (((q.1.take j).count n : Nat) : Int) := hn
          rw [cnt_take hz n]
          by_cases e : z = n
          · subst e
            rw [if_pos rfl, if_pos rfl, hn, Int.natCast_add, Int.mul_add]
            show _ + q.2 = _ + (_ + q.2 * 1)
            omega
          · rw [if_neg e, if_neg e, hn]; rfl
        · rcases dput_mem hc with w | rfl
          · exact hC.pos c w
          · have h1 := hp1 q (List.mem_of_getElem? hq)
            have h2 := dl0 (ks := ks) (fun x hx => by have := hC.pos x hx; omega) z
            show 1 ≤ (dlook ks z).getD 0 + q.2
            omega
        · have := dput_len ks z ((dlook ks z).getD 0 + q.2); omega
      · rintro σ G ⟨sG, ks, x4, eG, hC, hkl, rfl⟩
        rw [List.length_map] at hkl hC
        rw [List.take_length] at hC
        refine ⟨sG, ks, _, _, _, eG, ?_, by omega, rfl⟩
        rw [List.take_add_one, hq]; exact hC
    · rintro σ G ⟨sG, ks, x2, x3, x4, eG, hC, hkl, rfl⟩
      rw [hul, List.take_length] at hC
      rw [hul] at hkl
      exact ⟨_, rfl, h d ks G hd sG eG hC hkl⟩
end
section
variable {P : Program} {w : World} {K : PySem.W.Frag} {mg : Str → Option Value} {base : Heap}
abbrev sCof : Stmt := top 4
theorem scCof : FnScope ["filling"] ["filling"] (defScope sCof) := ⟨rfl, rfl, rfl, by decide +kernel, rfl, by decide +kernel, by decide +kernel⟩
def spCof (K : PySem.W.Frag) : Sp := fun vs H Q _ => ∃ (f : Addr) (fs : List (List Int × Int)), vs = [.ref f] ∧ FillAt K H f fs ∧ fs.length ≤ 1000 ∧ ∀ (H' : Hp), L2.Same H H' → Q (.int (fs.map (·.2)).sum) H'
theorem ok_cof {f : Addr} {fd : FuncData} (F : Fun K "count_of" "count_of" sCof f fd) (mU : mg "sum" = none) : FnOk P w K mg base CX0 1 f fd ["filling"] (spCof K) := by
 refine Br.Fun.j F scCof (fun vs H Q E h => ?_) (fun cdv A outer s H vs Q E hr h => ?_)
 · obtain ⟨_, _, rfl, _⟩ := h; rfl
 · obtain ⟨fa, fs, rfl, ⟨us, h1, h2⟩, hfl, h⟩ := h
   have nd := scCof.nd
   have hsz : (sizeLine : Nat) = 16777216 := sizeLine_eq
   have hul := h2.1
   refine' ⟨_, ?d, ?r⟩
   case d => wtm_at "body"
   case r =>
    refine ⟨_, rfl, fa, rfl, .inr ⟨⟨_, h1.sq⟩, ?_⟩⟩
    refine cmp_tup (K := K) (a := fa) (xs := us) (fun j ys σ G => G = H ∧ ys = ((fs.map (·.2)).take j).map V.int ∧ ∃ x y : Option V, σ = [x, y, some (.ref fa)])
     ⟨rfl, rfl, none, none, rfl⟩ (by omega) (fun j ys σ G _ ⟨e1, e2, _⟩ => ⟨by rw [e1]; exact h1.sq, by rw [e2, List.length_map, List.length_take]; omega⟩) ?_ ?_
    · rintro j x ys σ G N hx ⟨rfl, rfl, x0, y0, rfl⟩ hN
      obtain ⟨q, hq, r, c, rfl, hrr, hcc⟩ := h2.2 j x hx
      refine ⟨r, _, rfl, SqT.of hrr, rfl, _, _, rfl, _, _, rfl, rfl, ?_⟩
      refine ⟨_, rfl, hN _ _ _ ⟨rfl, ?_, _, _, rfl⟩⟩
      rw [List.take_add_one, List.getElem?_map, hq, List.map_append]; rfl
    rintro ys σ G ⟨eG, rfl, x0, y0, rfl⟩ pl G1 hpl s2 e1
    subst eG
    rw [List.take_of_length_le (by rw [List.length_map]; omega)] at e1
    exact ⟨pl, _, rfl, .inl (SqL.of e1), h G1 s2⟩
end
def risL (us : List (List Int)) : Bool := ((us.zip us.tail).map fun p : List Int × List Int => HT.lexLt p.1 p.2).all id
def risB (ns : List Int) : Bool := ((ns.zip ns.tail).map fun p : Int × Int => decide (p.1 < p.2)).all id
theorem risL_iff {us : List (List Int)} : risL us = true ↔ ∀ (i : Nat) (u v : List Int), us[i]? = some u → us[i + 1]? = some v → HT.lexLt u v = true := by
 unfold risL
 rw [List.all_map, List.all_eq_true]
 refine ⟨fun h i u v hu hv => ?_, fun h p hp => ?_⟩
 · exact h (u, v) (List.mem_of_getElem? (i := i) (by rw [List.getElem?_zip_eq_some]; exact ⟨hu, by rw [List.getElem?_tail]; exact hv⟩))
 · obtain ⟨i, hi⟩ := List.getElem?_of_mem hp
   rw [List.getElem?_zip_eq_some, List.getElem?_tail] at hi
   exact h i p.1 p.2 hi.1 hi.2
theorem risB_iff {ns : List Int} : risB ns = true ↔ ns.Pairwise (· < ·) := by
 unfold risB
 rw [List.all_map, List.all_eq_true]
 refine ⟨fun h => ?_, fun h p hp => ?_⟩
 · induction ns with
   | nil => exact .nil
   | cons a r ih =>
    cases r with
    | nil => exact List.pairwise_singleton _ _
    | cons b r =>
     have ih := ih fun p hp => h p (by rw [List.tail_cons] at hp ⊢; exact List.mem_cons_of_mem _ hp)
     have hab : a < b := of_decide_eq_true (h (a, b) (by simp))
     rw [List.pairwise_cons]
     refine ⟨fun x hx => ?_, ih⟩
     rcases List.mem_cons.mp hx with z | z
     · rw [z]; exact hab
     · have := (List.pairwise_cons.mp ih).1 x z; omega
 · obtain ⟨i, hi⟩ := List.getElem?_of_mem hp
   rw [List.getElem?_zip_eq_some, List.getElem?_tail] at hi
   obtain ⟨h1, h1'⟩ := List.getElem?_eq_some_iff.mp hi.1
   obtain ⟨h2, h2'⟩ := List.getElem?_eq_some_iff.mp hi.2
   have := List.pairwise_iff_getElem.mp h i (i + 1) h1 h2 (by omega)
   rw [h1', h2'] at this; exact decide_eq_true this
section
local macro_rules | `(tactic| wtm_at "pi") => `(tactic| (apply ZG.k_zip; (wtm_at "K"); (with_reducible rfl); (rfl); (assumption); (rfl); (rfl); (wtm_at "pa")))
local macro_rules | `(tactic| wtm_at "cop") => `(tactic| (apply c_ltT; (wtm_at "K"); assumption))
variable {P : Program} {w : World} {K : PySem.W.Frag} {mg : Str → Option Value} {base : Heap}
abbrev sRising : Stmt := top 1
theorem scRising : FnScope ["things"] ["things"] (defScope sRising) := ⟨rfl, rfl, rfl, by decide +kernel, rfl, by decide +kernel, by decide +kernel⟩
def spRising : Sp := fun vs H Q _ => ∃ (l : Addr) (as : List Addr) (us : List (List Int)), vs = [.ref l] ∧ H l = some (.lst (as.map V.ref)) ∧ as.length = us.length ∧ (∀ (i : Nat) a u, as[i]? = some a → us[i]? = some u → H a = some (.tup (u.map V.int))) ∧ us.length ≤ 100 ∧ ∀ H', L2.Same H H' → Q (.bl (risL us)) H'
theorem ok_rising {f : Addr} {fd : FuncData} (F : Fun K "is_rising" "is_rising" sRising f fd) (mA : mg "all" = none) (mZ : mg "zip" = none) : FnOk P w K mg base CX0 1 f fd ["things"] spRising := by
 refine Br.Fun.j F scRising (fun vs H Q E h => ?_) (fun cdv A outer s H vs Q E hr h => ?_)
 · obtain ⟨_, _, _, rfl, _⟩ := h; rfl
 · obtain ⟨l, as, us, rfl, hl, hau, hat, hn, h⟩ := h
   have nd := scRising.nd
   have hsz : (sizeLine : Nat) = 16777216 := sizeLine_eq
   refine' ⟨_, ?d, ?r⟩
   case d => wtm_at "body"
   case r =>
    refine ⟨_, rfl, _, rfl, ?_⟩
    wtm_at "rd"
    refine ⟨l, _, rfl, .inl ⟨SqL.of hl, fun l2 G1 n2 s1 e1 => ?_⟩⟩
    have hcut : cutV (as.map V.ref) (some 1) none = as.tail.map V.ref := by
     unfold cutV
     rw [show (some (1 : Int)) = some ((1 : Nat) : Int) from rfl, HT.sIx_nat, HT.sIx_none]
     cases as with
     | nil => rfl
     | cons a r => simp; rw [List.take_of_length_le (by rw [List.length_map]; exact Nat.le_refl _)]
    rw [hcut] at e1
    have hl1 := s1 _ _ hl
    have htl : (as.tail.map V.ref).length = as.length - 1 := by rw [List.length_map, List.length_tail]
    refine ⟨false, false, l, l2, _, _, rfl, SqL.of hl1, SqL.of e1, ?_⟩
    refine ZG.cmp_zip (f1 := false) (f2 := false) (K := K) (a := l) (b := l2) (xs := as.map V.ref) (ys := as.tail.map V.ref) (n := as.length - 1) (by rw [List.length_map]; omega) htl (by omega)
     (fun k zs σ G => L2.Same G1 G ∧ zs = (((us.zip us.tail).map fun p : List Int × List Int => HT.lexLt p.1 p.2).take k).map V.bl ∧ ∃ x y : Option V, σ = [x, y, some (.ref l)])
     ⟨L2.Same.refl _, rfl, none, none, rfl⟩ (fun k zs σ G _ ⟨sG, e, _⟩ => ⟨SqL.of (sG _ _ hl1), SqL.of (sG _ _ e1), by rw [e, List.length_map, List.length_take]; omega⟩) ?_ ?_
    · rintro k x y zs σ G T N hx hy ⟨sG, rfl, x0, y0, rfl⟩ nT hN
      rw [List.getElem?_map] at hx hy
      obtain ⟨a, ha, rfl⟩ := Option.map_eq_some_iff.mp hx
      obtain ⟨b, hb, rfl⟩ := Option.map_eq_some_iff.mp hy
      rw [List.getElem?_tail] at hb
      have hk1 := (List.getElem?_eq_some_iff.mp hb).1
      have hu : us[k]? = some us[k] := List.getElem?_eq_getElem (by omega)
      have hv : us[k + 1]? = some us[k + 1] := List.getElem?_eq_getElem (by omega)
      have sT : L2.Same G (upd G T (.tup [.ref a, .ref b])) := Br.Same.upd nT
      generalize hG1 : upd G T (.tup [.ref a, .ref b]) = G2 at sT
      have eT : G2 T = some (.tup [.ref a, .ref b]) := by rw [← hG1]; exact upd_same
      have sA := s1.trans (sG.trans sT)
      refine ⟨T, _, rfl, SqT.of eT, rfl, _, _, rfl, _, _, rfl, rfl, ?_⟩
      refine ⟨_, rfl, _, rfl, .inr ⟨a, b, us[k], us[k + 1], rfl, rfl, SqT.of (sA _ _ (hat k a _ ha hu)), SqT.of (sA _ _ (hat (k + 1) b _ hb hv)), hN _ _ _ ⟨sG.trans sT, ?_, _, _, rfl⟩⟩⟩
      have hzz : (us.zip us.tail)[k]? = some (us[k], us[k + 1]) := by rw [List.getElem?_zip_eq_some]; exact ⟨hu, by rw [List.getElem?_tail]; exact hv⟩
      rw [List.take_add_one, List.getElem?_map, hzz, List.map_append]; rfl
    · rintro zs σ G ⟨sG, rfl, x0, y0, rfl⟩ pl G2 npl s2 e2
      rw [List.take_of_length_le (by rw [List.length_map, List.length_zip, List.length_tail]; omega)] at e2
      exact ⟨pl, _, rfl, SqL.of e2, h G2 (s1.trans (sG.trans s2))⟩
end
section
local macro_rules | `(tactic| wtm_at "pi") => `(tactic| (apply ZG.k_zip; (wtm_at "K"); (with_reducible rfl); (rfl); (assumption); (rfl); (rfl); (wtm_at "pa")))
local macro_rules | `(tactic| wtm_at "cop") => `(tactic| (apply c_ltT; (wtm_at "K"); assumption))
variable {P : Program} {w : World} {K : PySem.W.Frag} {mg : Str → Option Value} {base : Heap}
def spRisI : Sp := fun vs H Q _ => ∃ (a : Addr) (ns : List Int), vs = [.ref a] ∧ H a = some (.tup (ns.map V.int)) ∧ ns.length ≤ 100 ∧ ns ≠ [] ∧ ∀ H', L2.Same H H' → Q (.bl (risB ns)) H'
theorem ok_risI {f : Addr} {fd : FuncData} (F : Fun K "is_rising" "is_rising" sRising f fd) (mA : mg "all" = none) (mZ : mg "zip" = none) : FnOk P w K mg base CX0 1 f fd ["things"] spRisI := by
 refine Br.Fun.j F scRising (fun vs H Q E h => ?_) (fun cdv A outer s H vs Q E hr h => ?_)
 · obtain ⟨_, _, rfl, _⟩ := h; rfl
 · obtain ⟨l, ns, rfl, hl, hn, hne, h⟩ := h
   have nd := scRising.nd
   have hsz : (sizeLine : Nat) = 16777216 := sizeLine_eq
   have hnl : 0 < ns.length := List.length_pos_iff.mpr hne
   refine' ⟨_, ?d, ?r⟩
   case d => wtm_at "body"
   case r =>
    refine ⟨_, rfl, _, rfl, ?_⟩
    wtm_at "rd"
    refine ⟨l, _, rfl, .inr ⟨SqT.of hl, ?_, fun l2 G1 n2 s1 e1 => ?_⟩⟩
    · rintro ⟨z, _⟩
      rw [show (some (1 : Int)) = some ((1 : Nat) : Int) from rfl, HT.sIx_nat, List.length_map] at z
      omega
    have hcut : cutV (ns.map V.int) (some 1) none = ns.tail.map V.int := by
     unfold cutV
     rw [show (some (1 : Int)) = some ((1 : Nat) : Int) from rfl, HT.sIx_nat, HT.sIx_none]
     cases ns with
     | nil => rfl
     | cons a r => simp; rw [List.take_of_length_le (by rw [List.length_map]; exact Nat.le_refl _)]
    rw [hcut] at e1
    have hl1 := s1 _ _ hl
    have htl : (ns.tail.map V.int).length = (ns.zip ns.tail).length := by rw [List.length_map, List.length_zip, List.length_tail]; omega
    refine ⟨true, true, l, l2, _, _, rfl, SqT.of hl1, SqT.of e1, ?_⟩
    refine ZG.cmp_zip (f1 := true) (f2 := true) (K := K) (a := l) (b := l2) (xs := ns.map V.int) (ys := ns.tail.map V.int) (n := (ns.zip ns.tail).length) (by rw [List.length_map, List.length_zip]; omega) htl (by rw [List.length_zip]; omega)
     (fun k zs σ G => L2.Same G1 G ∧ zs = (((ns.zip ns.tail).map fun p : Int × Int => decide (p.1 < p.2)).take k).map V.bl ∧ ∃ x y : Option V, σ = [x, y, some (.ref l)])
     ⟨L2.Same.refl _, rfl, none, none, rfl⟩ (fun k zs σ G _ ⟨sG, e, _⟩ => ⟨SqT.of (sG _ _ hl1), SqT.of (sG _ _ e1), by rw [e, List.length_map, List.length_take]; omega⟩) ?_ ?_
    · rintro k x y zs σ G T N hx hy ⟨sG, rfl, x0, y0, rfl⟩ nT hN
      rw [List.getElem?_map] at hx hy
      obtain ⟨a, ha, rfl⟩ := Option.map_eq_some_iff.mp hx
      obtain ⟨b, hb, rfl⟩ := Option.map_eq_some_iff.mp hy
      have sT : L2.Same G (upd G T (.tup [.int a, .int b])) := Br.Same.upd nT
      generalize hG1 : upd G T (.tup [.int a, .int b]) = G2 at sT
      have eT : G2 T = some (.tup [.int a, .int b]) := by rw [← hG1]; exact upd_same
      have hzz : (ns.zip ns.tail)[k]? = some (a, b) := by rw [List.getElem?_zip_eq_some]; exact ⟨ha, hb⟩
      refine ⟨T, _, rfl, SqT.of eT, rfl, _, _, rfl, _, _, rfl, rfl, ?_⟩
      refine ⟨_, rfl, _, rfl, .inl ⟨_, _, rfl, rfl, hN _ _ _ ⟨sG.trans sT, ?_, _, _, rfl⟩⟩⟩
      rw [List.take_add_one, List.getElem?_map, hzz, List.map_append]; rfl
    · rintro zs σ G ⟨sG, rfl, x0, y0, rfl⟩ pl G2 npl s2 e2
      rw [List.take_of_length_le (by rw [List.length_map]; exact Nat.le_refl _)] at e2
      exact ⟨pl, _, rfl, SqL.of e2, h G2 (s1.trans (sG.trans s2))⟩
end
theorem k_tupleW {X : Cx} {K : PySem.W.Frag} {x y : Str} {t : TA} {py p pos : Pos} (hg : Gl X x) (he : starEach [.Name y py] X.env = (false, eval (.Name y py) X.env) :: starEach [] X.env) (hpl : (backTo pos (starEach [] X.env)).any (·.1) = false) (hK : X.K = K) (hx : x = "tuple") (hm : X.mg x = none) (ha : JA X [.Name y py] t) (hy : y = "wheel") :
 JE X (.Call (.Name x p) [.Name y py] [] pos) (tCB (rTupF K) t) := k_tupleF hg he hpl hK hx hm ha
section
local macro_rules | `(tactic| wtm_at "call") => `(tactic| first | (apply k_tupleW; (rfl); (rfl); (rfl); (wtm_at "K"); (with_reducible rfl); (assumption); (wtm_at "pa"); (with_reducible rfl)) | (apply k_sortSC1; (with_reducible rfl); (rfl); (assumption); (rfl); (rfl); (intro _; rfl); (wtm_at "nd"); (rfl); (intro _; rfl); (rfl); (wtm_at "pi"); (intro cC cs cH cfp; wtm_at "pf"); (intro cC cs cH cfp; wtm_at "pe")))
local macro_rules | `(tactic| wtm_at "pi") => `(tactic| first | (apply ZG.k_zip; (wtm_at "K"); (with_reducible rfl); (rfl); (assumption); (rfl); (rfl); (wtm_at "pa")) | (apply EL.k_enum; (wtm_at "K"); (with_reducible rfl); (rfl); (assumption); (rfl); (wtm_at "pa")))
variable {P : Program} {w : World} {K : PySem.W.Frag} {mg : Str → Option Value} {base : Heap}
abbrev sWheel : Stmt := top 9
theorem scWheel : FnScope ["counts", "d", "bins", "cut", "starts", "changes", "wheel", "place", "behind", "colours"] ["counts", "d"] (defScope sWheel) := ⟨rfl, rfl, rfl, by decide +kernel, rfl, by decide +kernel, by decide +kernel⟩
def PrW (H : Hp) (a : Addr) (q : List Int × Int) : Prop := ∃ c, H a = some (.tup [.ref c, .int q.2]) ∧ H c = some (.tup (q.1.map V.int))
def FillZ (H : Hp) (t : Addr) (bs : List (List Int × Int)) : Prop := (bs = [] ∧ H t = some (.tup [])) ∨ ∃ (o : Obj) (vs : List V), bareT o ∧ H t = some (.frz o (.tup vs)) ∧ Lots H vs bs
theorem FillZ.at {K : PySem.W.Frag} {H : Hp} {t : Addr} {bs : List (List Int × Int)} (h : FillZ H t bs) : FillAt K H t bs := by
 rcases h with ⟨rfl, e⟩ | ⟨o, vs, b, e, l⟩
 · exact ⟨[], SqT.of e, Lots.nil⟩
 · exact ⟨vs, .inl (.inr ⟨o, e⟩), l⟩
theorem FillZ.tu {H H' : Hp} {t : Addr} {bs : List (List Int × Int)} (h : FillZ H t bs) (m : Tu H H') : FillZ H' t bs := by
 rcases h with ⟨rfl, e⟩ | ⟨o, vs, b, e, l⟩
 · exact .inl ⟨rfl, m _ _ e (.inl ⟨_, rfl⟩)⟩
 · exact .inr ⟨o, vs, b, m _ _ e (.inr ⟨_, _, rfl⟩), l.tu m⟩
def GoodW (ns : List Int) (d N : Int) (bs : List (List Int × Int)) : Prop := (∀ q ∈ bs, Wh.IsBin ns.length d q.1 ∧ 1 ≤ q.2) ∧ (bs.map (·.2)).sum = N ∧ (∀ i : Nat, i < ns.length → (bs.map fun q => if (i : Int) ∈ q.1 then q.2 else 0).sum ≤ ns.getD i 0) ∧ bs.length ≤ ns.length ∧ (bs.map (·.1)).Pairwise (fun u v => HT.lexLt u v = true)
theorem blocks_zip (N : Int) : ∀ (ch : List Int), Wh.blocks N ch = ch.zip (ch.tail ++ [N])
 | [] => rfl
 | [p] => rfl
 | p :: b :: r => by
  show (p, b) :: Wh.blocks N (b :: r) = (p, b) :: (b :: r).zip (r ++ [N])
  rw [blocks_zip N (b :: r)]; rfl
theorem good_wheel {ns chs : List Int} {d N : Int} (h1 : 1 ≤ ns.length) (h0 : ∀ x ∈ ns, 0 ≤ x) (hd : 1 ≤ d) (hM : IsMost ns d N) (hN : 0 < N) (pw : chs.Pairwise (· < ·)) (hmem : ∀ x, x ∈ chs ↔ ∃ i, i < (Wh.cutGo N (d * N) ns).length ∧ ((Wh.cutGo N (d * N) ns).take i).sum % N = x) (hcl : chs.length ≤ ns.length) :
 GoodW ns d N ((Wh.blocks N chs).map fun q => (Wh.cols N (Wh.cutGo N (d * N) ns) q.1, q.2 - q.1)) := by
 have hl := Wh.cutGo_len N ns (d * N)
 have hdN : 0 ≤ d * N := Int.mul_nonneg (by omega) (by omega)
 have hs := Wh.cutGo_sum (by omega) ns (d * N) h0 hdN hM.2.1
 have hat := Wh.cutGo_at (N := N) (by omega) ns (d * N) h0 hdN
 generalize Wh.cutGo N (d * N) ns = cut at *
 have hc : ∀ i, i < cut.length → 0 ≤ cut.getD i 0 ∧ cut.getD i 0 ≤ N := fun i hi => ⟨(hat i (by omega)).1, (hat i (by omega)).2.1⟩
 have h00 : (0 : Int) ∈ chs := (hmem 0).mpr ⟨0, by omega, by simp⟩
 have hbd : ∀ x ∈ chs, 0 ≤ x ∧ x < N := fun x hx => by
  obtain ⟨i, _, rfl⟩ := (hmem x).mp hx
  exact ⟨Int.emod_nonneg _ (by omega), Int.emod_lt_of_pos _ hN⟩
 cases chs with
 | nil => cases h00
 | cons p ch =>
  have hp0 : p = 0 := by
   rcases List.mem_cons.mp h00 with z | z
   · exact z.symm
   · have := (List.pairwise_cons.mp pw).1 0 z
     have := (hbd p (.head _)).1
     omega
  subst hp0
  have mem := Wh.blocks_mem ch 0 pw fun x hx => (hbd x hx).2
  refine ⟨fun q hq => ?_, ?_, fun i hi => ?_, ?_, ?_⟩
  · obtain ⟨b, hb, rfl⟩ := List.mem_map.mp hq
    obtain ⟨m1, m2, m3⟩ := mem b hb
    refine ⟨⟨Wh.cols_pw _ _ _, Wh.cols_len hN hc hs m1 m3, fun x hx => ?_⟩, by show 1 ≤ b.2 - b.1; omega⟩
    obtain ⟨i, rfl, hi, _⟩ := Wh.cols_mem.mp hx
    omega
  · rw [List.map_map]
    have := Wh.blocks_sum (N := N) ch 0
    have e : ((Wh.blocks N (0 :: ch)).map ((fun q : List Int × Int => q.2) ∘ fun q => (Wh.cols N cut q.1, q.2 - q.1))) = (Wh.blocks N (0 :: ch)).map fun q => q.2 - q.1 := rfl
    rw [e, this]; omega
  · rw [List.map_map]
    obtain ⟨c0, c1, c2⟩ := hat i hi
    have his : ∀ y, (∃ k, k ≤ cut.length ∧ (cut.take k).sum % N = y) → y ≤ 0 ∨ y ∈ ch := fun y ⟨k, hk, e⟩ => by
     rcases Nat.lt_or_ge k cut.length with z | z
     · rcases List.mem_cons.mp ((hmem y).mpr ⟨k, z, e⟩) with z | z
       · exact .inl (by omega)
       · exact .inr z
     · rw [List.take_of_length_le z, hs, Int.mul_emod_left] at e
       exact .inl (by omega)
    have us := Wh.used_go (s := (cut.take i).sum) (c := cut.getD i 0) hN c0 c1 ch 0 pw (Int.le_refl _) (fun x hx => (hbd x hx).2) (his _ ⟨i, by omega, rfl⟩) (his _ ⟨i + 1, by omega, by rw [Wh.take_sum]⟩)
    rw [Wh.ahead_all (Int.emod_nonneg _ (by omega)) (Int.emod_lt_of_pos _ hN) c0 c1] at us
    have e : ((Wh.blocks N (0 :: ch)).map ((fun q : List Int × Int => if (i : Int) ∈ q.1 then q.2 else 0) ∘ fun q => (Wh.cols N cut q.1, q.2 - q.1))) = (Wh.blocks N (0 :: ch)).map fun q => if (q.1 - (cut.take i).sum) % N < cut.getD i 0 then q.2 - q.1 else 0 := by
     refine List.map_congr_left fun q _ => ?_
     show (if (i : Int) ∈ Wh.cols N cut q.1 then q.2 - q.1 else 0) = _
     by_cases hq : (q.1 - (cut.take i).sum) % N < cut.getD i 0
     · rw [if_pos hq, if_pos (Wh.cols_mem.mpr ⟨i, rfl, by omega, hq⟩)]
     · rw [if_neg hq, if_neg]
       intro z
       obtain ⟨k, e, _, q2⟩ := Wh.cols_mem.mp z
       have : k = i := by omega
       subst this; exact hq q2
    rw [e, us]; exact c2
  · rw [List.length_map, blocks_zip, List.length_zip]; omega
  · rw [List.map_map, blocks_zip]
    have e : ((0 :: ch).zip ((0 :: ch).tail ++ [N])).map ((fun q : List Int × Int => q.1) ∘ fun q => (Wh.cols N cut q.1, q.2 - q.1)) = (0 :: ch).map (Wh.cols N cut) := by
     rw [show ((fun q : List Int × Int => q.1) ∘ fun q : Int × Int => (Wh.cols N cut q.1, q.2 - q.1)) = Wh.cols N cut ∘ Prod.fst from rfl, ← List.map_map, List.map_fst_zip (by simp)]
    rw [e, List.pairwise_map]
    refine List.Pairwise.imp_of_mem (fun {a b} ha hb h => ?_) pw
    obtain ⟨k, hk, ek⟩ := (hmem b).mp hb
    exact Wh.cols_lex hN hc hs (hbd a ha).1 h (hbd b hb).2 hk ek
theorem rise_eq : ∀ {a b : List Int}, a.Pairwise (· < ·) → b.Pairwise (· < ·) → (∀ x, x ∈ a ↔ x ∈ b) → a = b
 | [], [], _, _, _ => rfl
 | [], y :: b, _, _, h => absurd ((h y).mpr (.head _)) (by simp)
 | x :: a, [], _, _, h => absurd ((h x).mp (.head _)) (by simp)
 | x :: a, y :: b, pa, pb, h => by
  obtain ⟨p1, p2⟩ := List.pairwise_cons.mp pa
  obtain ⟨q1, q2⟩ := List.pairwise_cons.mp pb
  have e : x = y := by
   rcases List.mem_cons.mp ((h x).mp (.head _)) with z | z
   · exact z
   · rcases List.mem_cons.mp ((h y).mpr (.head _)) with u | u
     · exact u.symm
     · have := q1 x z; have := p1 y u; omega
  subst e
  rw [rise_eq p2 q2 fun z => ⟨fun hz => ?_, fun hz => ?_⟩]
  · rcases List.mem_cons.mp ((h z).mp (.tail _ hz)) with u | u
    · have := p1 z hz; omega
    · exact u
  · rcases List.mem_cons.mp ((h z).mpr (.tail _ hz)) with u | u
    · have := q1 z hz; omega
    · exact u
def spWheel (K : PySem.W.Frag) : Sp := fun vs H Q _ => ∃ (c : Addr) (ns : List Int) (d : Int), vs = [.ref c, .int d] ∧ H c = some (.tup (ns.map V.int)) ∧ 1 ≤ ns.length ∧ ns.length < 64 ∧ (∀ x ∈ ns, 0 ≤ x ∧ x ≤ 10 ^ 61) ∧ 1 ≤ d ∧ d ≤ 100 ∧
 ∀ (N : Int) (r t : Addr) (bs : List (List Int × Int)) (H' : Hp), L2.Same H H' → IsMost ns d N → H' r = some (.tup [.int N, .ref t]) → FillZ H' t bs → GoodW ns d N bs → Q (.ref r) H'
theorem ok_wheel {f : Addr} {fd : FuncData} (F : Fun K "wheel_of" "wheel_of" sWheel f fd) (cM : Callee CX0 P w K mg base "most_bins" 1 ["counts", "d"] (spMost K)) (cC : Callee CX0 P w K mg base "cut_counts" 1 ["counts", "d", "bins"] spCut) (cS : Callee CX0 P w K mg base "starts_of" 1 ["counts"] spStarts)
 (mS : mg "sorted" = none) (mZ : mg "zip" = none) (mE : mg "enumerate" = none) (mT : mg "tuple" = none) : FnOk P w K mg base CX0 2 f fd ["counts", "d"] (spWheel K) := by
 refine Br.Fun.j F scWheel (fun vs H Q E h => ?_) (fun cdv A outer s H vs Q E hr h => ?_)
 · obtain ⟨_, _, _, rfl, _⟩ := h; rfl
 · obtain ⟨c, ns, d, rfl, hS, h1, h64, h0, hd, hd1, h⟩ := h
   have nd := scWheel.nd
   have hsz : (sizeLine : Nat) = 16777216 := sizeLine_eq
   refine' ⟨_, ?d, ?r⟩
   case d => wtm_at "body"
   case r =>
    wtm_at "rd"
    refine ⟨c, ns, d, rfl, SqT.of hS, h64, fun x hx => (h0 x hx).1, hd, hd1, fun N H1 s1 hM => ?_⟩
    wtm_at "rd"
    refine ⟨fun σ' G => G = H1 ∧ N ≠ 0 ∧ σ' = [some (.ref c), some (.int d), some (.int N), none, none, none, none, none, none, none], ?_, ?_⟩
    · wtm_at "rd"
      refine ⟨rfl, _, rfl, ite2 (fun hz => ?_) (fun hz => ⟨rfl, fun z => hz (decide_eq_true (by rw [z])), rfl⟩)⟩
      have hz : N = 0 := by have := of_decide_eq_true hz; injection this
      subst hz
      wtm_at "rd"
      refine ⟨lenLe (n := 0) rfl (by decide), fun t H2 nt s2 e2 => ?_⟩
      wtm_at "rd"
      refine ⟨lenLe (n := 2) rfl (by decide), fun r H3 nr s3 e3 => ?_⟩
      refine h 0 r t [] H3 (s1.trans (s2.trans s3)) hM e3 (.inl ⟨rfl, s3 _ _ e2⟩) ⟨fun q hq => (nomatch hq), rfl, fun i hi => ?_, Nat.zero_le _, List.Pairwise.nil⟩
      show 0 ≤ ns.getD i 0
      rw [List.getD_eq_getElem?_getD, List.getElem?_eq_getElem hi]
      exact (h0 _ (List.getElem_mem hi)).1
    rintro σ' G ⟨rfl, hN0, rfl⟩
    have hN : 0 < N := by have := hM.1; omega
    generalize hcut : Wh.cutGo N (d * N) ns = cut at *
    wtm_at "rd"
    refine ⟨c, ns, d, N, rfl, s1 _ _ hS, h64, hd, hd1, fun l H2 nl s2 e2 => ?_⟩
    rw [hcut] at e2
    have hcl : cut.length = ns.length := by rw [← hcut]; exact Wh.cutGo_len _ _ _
    wtm_at "rd"
    refine ⟨l, cut, rfl, e2, by omega, fun m H3 nm s3 e3 => ?_⟩
    have hsl : (startsL cut).length = cut.length := by unfold startsL; rw [List.length_map, List.length_range]
    wtm_at "rd"
    refine .inl ⟨⟨_, SqL.of e3⟩, ?_⟩
    refine cmps_list (K := K) (a := m) (xs := (startsL cut).map V.int) (fun i ys σ G => G = H3 ∧ ys = ((startsL cut).take i).map (fun s => V.int (s % N)) ∧ ∃ x : Option V, σ = [x, some (.ref c), some (.int d), some (.int N), some (.ref l), some (.ref m), none, none, none, none, none])
     ⟨rfl, rfl, none, rfl⟩ (by rw [List.length_map]; omega) (fun i ys σ G _ ⟨e, e', _⟩ => ⟨by rw [e]; exact SqL.of e3, by rw [e', List.length_map, List.length_take]; omega⟩) ?_ ?_
    · rintro i x ys σ G M hx ⟨rfl, rfl, x0, rfl⟩ hM'
      rw [List.getElem?_map] at hx
      obtain ⟨st, hst, rfl⟩ := Option.map_eq_some_iff.mp hx
      wtm_at "rd"
      refine hM' _ _ _ ⟨rfl, ?_, _, rfl⟩
      rw [List.take_add_one, hst, List.map_append]; rfl
    rintro ys σ G ⟨rfl, rfl, x0, rfl⟩
    refine ⟨by rw [List.length_map, List.length_take, List.length_map]; omega, fun cl chs H4 ncl s4 e4 pw hmem => ?_⟩
    rw [List.length_map, List.take_length] at hmem
    wtm_at "rd"
    refine ⟨by simp, fun wl H5 nwl s5 e5 => ?_⟩
    wtm_at "rd"
    have hct : cutV (chs.map V.int) (some 1) none = chs.tail.map V.int := by
     unfold cutV HT.sIx
     simp only [List.length_map]
     rw [← List.map_drop]
     cases chs with
     | nil => simp
     | cons a r => simp [List.take_of_length_le]
    refine ⟨cl, _, rfl, .inl ⟨SqL.of (s5 _ _ e4), fun q H6 nq s6 e6 => ?_⟩⟩
    rw [hct] at e6
    wtm_at "rd"
    refine ⟨lenLe (n := 1) rfl (by decide), fun q2 H7 n7 s7 e7 => ?_⟩
    have hmem' : ∀ x, x ∈ chs ↔ ∃ i, i < cut.length ∧ (cut.take i).sum % N = x := fun x => by
     rw [hmem]
     constructor
     · intro hx
       obtain ⟨st, hst, e⟩ := List.mem_map.mp hx
       obtain ⟨i, hi, rfl⟩ := List.mem_map.mp hst
       injection e with e
       exact ⟨i, List.mem_range.mp hi, e⟩
     · rintro ⟨i, hi, rfl⟩
       exact List.mem_map.mpr ⟨_, List.mem_map.mpr ⟨i, List.mem_range.mpr hi, rfl⟩, rfl⟩
    have hchl : chs.length ≤ cut.length := by
     have := nodup_len (ns := (startsL cut).map (· % N)) (pw.imp fun {a b} h => Int.ne_of_lt h) fun x hx => by
      obtain ⟨i, hi, e⟩ := (hmem' x).mp hx
      exact List.mem_map.mpr ⟨_, List.mem_map.mpr ⟨i, List.mem_range.mpr hi, rfl⟩, e⟩
     rw [List.length_map] at this; omega
    refine .inr (.inl ⟨q, q2, _, _, rfl, rfl, s7 _ _ e6, e7, by simp; omega, fun z H8 n8 s8 e8 => ?_⟩)
    have e8 : H8 z = some (.lst ((chs.tail ++ [N]).map V.int)) := by rw [e8, List.map_append]; rfl
    wtm_at "rd"
    have s58 : L2.Same H5 H8 := s6.trans (s7.trans s8)
    refine ⟨false, false, cl, z, _, _, rfl, SqL.of (s58 _ _ (s5 _ _ e4)), SqL.of e8, ?_⟩
    have hne : 0 < chs.length := List.length_pos_of_mem ((hmem' 0).mpr ⟨0, by omega, by simp⟩)
    have htl : (chs.tail ++ [N]).length = chs.length := by rw [List.length_append, List.length_tail, List.length_singleton]; omega
    have hwl : ∀ b o, H4 b = some o → b ≠ wl := fun b o e => ne_of_none e nwl
    refine ZG.for_zip (f1 := false) (f2 := false) (K := K) (a := cl) (b := z) (xs := chs.map V.int) (ys := (chs.tail ++ [N]).map V.int) (n := (chs.tail ++ [N]).length) (by rw [List.length_map, htl]; exact Nat.le_refl _) (by rw [List.length_map])
     (fun i σ G => (∀ b o, b ≠ wl → H8 b = some o → G b = some o) ∧ ∃ (as : List Addr) (x y u : Option V), G wl = some (.lst (as.map V.ref)) ∧ as.length = i ∧ (∀ (j : Nat) a, as[j]? = some a → ∃ pb, (Wh.blocks N chs)[j]? = some pb ∧ PrW G a (Wh.cols N cut pb.1, pb.2 - pb.1)) ∧
      σ = [some (.ref c), some (.int d), some (.int N), some (.ref l), some (.ref m), some (.ref cl), some (.ref wl), x, y, u])
     ⟨fun _ _ _ e => e, [], none, none, none, s58 _ _ e5, rfl, fun j a e => (by cases e), rfl⟩ (fun i σ G _ ⟨kG, _⟩ => ⟨SqL.of (kG _ _ (hwl _ _ e4) (s58 _ _ (s5 _ _ e4))), SqL.of (kG _ _ (fun y => by rw [y, s7 _ _ (s6 _ _ e5)] at n8; cases n8) e8)⟩) ?_ ?_
    · rintro i x y σ G T hx hy ⟨kG, as, x0, y0, u0, eG, hal, hat, rfl⟩ hT
      rw [List.getElem?_map] at hx hy
      obtain ⟨p, hp, rfl⟩ := Option.map_eq_some_iff.mp hx
      obtain ⟨b, hb, rfl⟩ := Option.map_eq_some_iff.mp hy
      have hil := (List.getElem?_eq_some_iff.mp hb).1
      have sT : L2.Same G (upd G T (.tup [.int p, .int b])) := Br.Same.upd hT
      refine ⟨T, _, rfl, SqT.of upd_same, rfl, _, _, rfl, _, _, rfl, rfl, ?_⟩
      wtm_at "rd"
      generalize hG1 : upd G T (.tup [.int p, .int b]) = G1 at *
      have mG : G1 m = some (.lst ((startsL cut).map V.int)) := sT _ _ (kG _ _ (hwl _ _ (s4 _ _ e3)) (s58 _ _ (s5 _ _ (s4 _ _ e3))))
      have lG : G1 l = some (.lst (cut.map V.int)) := sT _ _ (kG _ _ (hwl _ _ (s4 _ _ (s3 _ _ e2))) (s58 _ _ (s5 _ _ (s4 _ _ (s3 _ _ e2)))))
      refine ⟨m, _, rfl, SqL.of mG, ?_⟩
      refine EL.cmp_enum (K := K) (a := m) (xs := (startsL cut).map V.int) (n := cut.length) (by rw [List.length_map]; exact hsl) (by omega)
       (fun i ys σ G2 => L2.Same G1 G2 ∧ ys = (Wh.colsN N cut p i).map (fun k : Nat => V.int k) ∧ ∃ x y : Option V, σ = [x, y, some (.ref c), some (.int d), some (.int N), some (.ref l), some (.ref m), some (.ref cl), some (.ref wl), some (.int p), some (.int b), u0])
       ⟨L2.Same.refl _, rfl, none, none, rfl⟩ (fun i ys σ G2 _ ⟨e, e', _⟩ => ⟨SqL.of (e _ _ mG), ?_⟩) ?_ ?_
      · rw [e', List.length_map]; unfold Wh.colsN
        exact Nat.le_trans (List.length_filter_le _ _) (by rw [List.length_range]; exact Nat.le_refl _)
      · rintro j x ys σ G2 T2 M hx ⟨sG2, rfl, x1, y1, rfl⟩ hT2 hM2
        rw [List.getElem?_map] at hx
        obtain ⟨st, hst, rfl⟩ := Option.map_eq_some_iff.mp hx
        have hj : j < cut.length := by have := (List.getElem?_eq_some_iff.mp hst).1; omega
        have est : st = (cut.take j).sum := by
         unfold startsL at hst
         rw [List.getElem?_map, List.getElem?_range hj] at hst
         exact (Option.some.inj hst).symm
        subst est
        have sT2 : L2.Same G2 (upd G2 T2 (.tup [.int (j : Int), .int (cut.take j).sum])) := Br.Same.upd hT2
        refine ⟨T2, _, rfl, SqT.of upd_same, rfl, _, _, rfl, _, _, rfl, rfl, ?_⟩
        wtm_at "rd"
        refine .inl ⟨l, _, (j : Int), _, rfl, rfl, SqL.of (sT2 _ _ (sG2 _ _ lG)), (show atI (cut.map V.int) (j : Int) = some (.int (cut.getD j 0)) from ?_), ?_⟩
        · simp [atI, ixN, List.getD_eq_getElem?_getD, hj]
        have eC : Wh.colsN N cut p (j + 1) = Wh.colsN N cut p j ++ [j].filter fun i => decide ((p - (cut.take i).sum) % N < cut.getD i 0) := by unfold Wh.colsN; rw [List.range_succ, List.filter_append]
        refine ⟨_, _, rfl, rfl, _, rfl, ite2 (fun hc => ?_) (fun hc => ?_)⟩
        · refine ⟨_, rfl, hM2 _ _ _ ⟨sG2.trans sT2, ?_, _, _, rfl⟩⟩
          rw [eC, List.filter_cons_of_pos (by exact hc), List.filter_nil, List.map_append]; rfl
        · refine hM2 _ _ _ ⟨sG2.trans sT2, ?_, _, _, rfl⟩
          rw [eC, List.filter_cons_of_neg (by exact hc), List.filter_nil, List.append_nil]
      · rintro ys σ G2 ⟨sG2, rfl, x1, y1, rfl⟩ pl G3 npl s3' e3'
        have e3' : G3 pl = some (.lst ((Wh.cols N cut p).map V.int)) := by rw [e3']; unfold Wh.cols; rw [List.map_map]; rfl
        have wG : G1 wl = some (.lst (as.map V.ref)) := sT _ _ eG
        have s13 := sG2.trans s3'
        wtm_at "rd"
        refine ⟨.inl ⟨rfl, _, SqL.of (s13 _ _ wG)⟩, ?_⟩
        wtm_at "rd"
        refine ⟨pl, _, rfl, SqL.of e3', fun a G4 na s4' e4' => ?_⟩
        wtm_at "rd"
        refine ⟨lenLe (n := 2) rfl (by decide), fun r G5 nr s5' e5' => ?_⟩
        have s15 := s13.trans (s4'.trans s5')
        refine ⟨wl, _, _, rfl, rfl, s15 _ _ wG, by rw [List.length_map]; rw [htl] at hil; omega, ?_⟩
        have keep : ∀ b o, b ≠ wl → G5 b = some o → upd G5 wl (.lst (as.map V.ref ++ [V.ref r])) b = some o := fun b o nb e => by rw [upd_ne nb]; exact e
        have nw : ∀ b o, G1 b = some o → ∀ b' o', G5 b' = some (.tup o') → b' ≠ wl := fun b o _ b' o' e z => by rw [z, s15 _ _ wG] at e; cases e
        wtm_at "rd"
        refine ⟨fun b o nb e => keep b o nb (s15 _ _ (sT _ _ (kG b o nb e))), as ++ [r], _, _, _, by rw [upd_same, List.map_append]; rfl, by rw [List.length_append]; simp; omega, fun j a' hj => ?_, rfl⟩
        rcases Nat.lt_or_ge j as.length with hl | hl
        · rw [List.getElem?_append_left hl] at hj
          obtain ⟨pb, q1, cc, q2, q3⟩ := hat j a' hj
          exact ⟨pb, q1, cc, keep _ _ (nw _ _ wG _ _ (s15 _ _ (sT _ _ q2))) (s15 _ _ (sT _ _ q2)), keep _ _ (nw _ _ wG _ _ (s15 _ _ (sT _ _ q3))) (s15 _ _ (sT _ _ q3))⟩
        · rw [List.getElem?_append_right hl] at hj
          have hj0 : j - as.length = 0 := by
           rcases Nat.eq_zero_or_pos (j - as.length) with z | z
           · exact z
           · rw [List.getElem?_eq_none (by simp; omega)] at hj; cases hj
          rw [hj0] at hj
          cases hj
          have eji : j = i := by omega
          subst eji
          refine ⟨(p, b), by rw [blocks_zip, List.getElem?_zip_eq_some]; exact ⟨hp, hb⟩, a, keep _ _ (nw _ _ wG _ _ e5') e5', keep _ _ (nw _ _ wG _ _ (s5' _ _ e4')) (s5' _ _ e4')⟩
    · rintro σ G ⟨kG, as, x0, y0, u0, eG, hal, hat, rfl⟩
      wtm_at "rd"
      refine ⟨wl, _, rfl, SqL.of eG, fun t ob G1 nt bo s1' e1' => ?_⟩
      wtm_at "rd"
      refine ⟨lenLe (n := 2) rfl (by decide), fun r G2 nr s2' e2' => ?_⟩
      refine h N r t _ G2 ?_ hM e2' (.inr ⟨ob, _, bo, s2' _ _ e1', ?_, fun i v hv => ?_⟩) (good_wheel h1 (fun x hx => (h0 x hx).1) hd hM hN pw (by rw [hcut]; exact hmem') (by omega))
      · exact fun b o e => s2' _ _ (s1' _ _ (kG b o (hwl _ _ (s4 _ _ (s3 _ _ (s2 _ _ (s1 _ _ e))))) (s58 _ _ (s5 _ _ (s4 _ _ (s3 _ _ (s2 _ _ (s1 _ _ e))))))))
      · rw [List.length_map, List.length_map, blocks_zip, List.length_zip, htl, hal, htl]; omega
      · rw [List.getElem?_map] at hv
        obtain ⟨a, ha, rfl⟩ := Option.map_eq_some_iff.mp hv
        obtain ⟨pb, q1, cc, q2, q3⟩ := hat i a ha
        rw [hcut]
        exact ⟨_, by rw [List.getElem?_map, q1]; rfl, a, cc, rfl, s2' _ _ (s1' _ _ q2), s2' _ _ (s1' _ _ q3)⟩
end
structure JW (ns : List Int) (d N : Int) (bs : List (List Int × Int)) : Prop where
 most : IsMost ns d N
 sum : (bs.map (·.2)).sum = N
 len : bs.length ≤ ns.length
 bin : ∀ q ∈ bs, Wh.IsBin ns.length d q.1 ∧ 1 ≤ q.2
 ris : risL (bs.map (·.1)) = true
 use : ∀ i : Nat, i < ns.length → (bs.map fun q => if (i : Int) ∈ q.1 then q.2 else 0).sum ≤ ns.getD i 0
section
variable {P : Program} {w : World} {K : PySem.W.Frag} {mg : Str → Option Value} {base : Heap}
abbrev sChoice : Stmt := top 10
theorem scChoice : FnScope ["counts", "d", "colours"] ["counts", "d", "colours"] (defScope sChoice) := ⟨rfl, rfl, rfl, by decide +kernel, rfl, by decide +kernel, by decide +kernel⟩
def spChoice : Sp := fun vs H Q _ => ∃ (c a : Addr) (ns cs : List Int) (d : Int), vs = [.ref c, .int d, .ref a] ∧ H c = some (.tup (ns.map V.int)) ∧ H a = some (.tup (cs.map V.int)) ∧ ns.length < 64 ∧ cs.length ≤ 60 ∧ 1 ≤ d ∧ d ≤ 100 ∧ ∀ (b : Bool) (H' : Hp), L2.Same H H' → (b = true ↔ Wh.IsBin ns.length d cs) → Q (.bl b) H'
theorem ok_choice {f : Addr} {fd : FuncData} (F : Fun K "is_choice" "is_choice" sChoice f fd) (cR : Callee CX0 P w K mg base "is_rising" 1 ["things"] spRisI) (mL : mg "len" = none) (mA : mg "all" = none) : FnOk P w K mg base CX0 2 f fd ["counts", "d", "colours"] spChoice := by
 refine Br.Fun.j F scChoice (fun vs H Q E h => ?_) (fun cdv A outer s H vs Q E hr h => ?_)
 · obtain ⟨_, _, _, _, _, rfl, _⟩ := h; rfl
 · obtain ⟨c, a, ns, cs, d, rfl, hc, ha, h64, hcl, hd, hd1, h⟩ := h
   have nd := scChoice.nd
   have hsz : (sizeLine : Nat) = 16777216 := sizeLine_eq
   refine' ⟨_, ?d, ?r⟩
   case d => wtm_at "body"
   case r =>
    wtm_at "rd"
    refine .inl ⟨a, _, rfl, .inr (SqT.of ha), ?_⟩
    wtm_at "rd"
    refine ⟨rfl, _, rfl, ite2 (fun e => ?_) (fun e => ?_)⟩
    rotate_left
    · refine h _ H (L2.Same.refl _) ⟨fun z => (nomatch z), fun z => absurd ?_ e⟩
      rw [List.length_map, z.2.1]; simp
    have hcd : (cs.length : Int) = d := by have := of_decide_eq_true e; rw [List.length_map] at this; injection this
    wtm_at "rd"
    refine ⟨a, cs, rfl, ha, by omega, fun z => by rw [z] at hcd; simp at hcd; omega, fun H1 s1 => ?_⟩
    refine ⟨_, rfl, ite2 (fun e1 => ?_) (fun e1 => ?_)⟩
    rotate_left
    · exact h _ H1 s1 ⟨fun z => (nomatch z), fun z => absurd (risB_iff.mpr z.1) e1⟩
    wtm_at "rd"
    refine .inr ⟨⟨_, SqT.of (s1 _ _ ha)⟩, ?_⟩
    refine cmp_tup (K := K) (a := a) (xs := cs.map V.int) (fun i ys σ G => G = H1 ∧ ys = ((cs.take i).map fun z : Int => decide (0 ≤ z) && decide (z < (ns.length : Int))).map V.bl ∧ ∃ x : Option V, σ = [x, some (.ref c), some (.int d), some (.ref a)])
     ⟨rfl, rfl, none, rfl⟩ (by rw [List.length_map]; omega) (fun i ys σ G _ ⟨e, e', _⟩ => ⟨by rw [e]; exact SqT.of (s1 _ _ ha), by rw [e', List.length_map, List.length_map, List.length_take]; omega⟩) ?_ ?_
    · rintro i x ys σ G M hx ⟨rfl, rfl, x0, rfl⟩ hM
      rw [List.getElem?_map] at hx
      obtain ⟨z, hz, rfl⟩ := Option.map_eq_some_iff.mp hx
      wtm_at "rd"
      refine ite2 (fun e0 => ?_) (fun e0 => ?_)
      · wtm_at "rd"
        refine .inl ⟨c, _, rfl, .inr (SqT.of (s1 _ _ hc)), ?_⟩
        wtm_at "rd"
        refine hM _ _ _ ⟨rfl, ?_, _, rfl⟩
        rw [List.take_add_one, hz, List.map_append, List.map_append, List.length_map]
        show _ = _ ++ [V.bl (decide (0 ≤ z) && decide (z < (ns.length : Int)))]
        rw [e0, Bool.true_and]
      · refine hM _ _ _ ⟨rfl, ?_, _, rfl⟩
        rw [List.take_add_one, hz, List.map_append, List.map_append]
        show _ = _ ++ [V.bl (decide (0 ≤ z) && decide (z < (ns.length : Int)))]
        rw [eq_false_of_ne_true e0, Bool.false_and]
    · rintro ys σ G ⟨rfl, rfl, x0, rfl⟩ pl G2 npl s2 e2
      rw [List.take_of_length_le (by rw [List.length_map]; exact Nat.le_refl _)] at e2
      wtm_at "rd"
      refine ⟨pl, _, rfl, SqL.of e2, ?_⟩
      refine h _ G2 (s1.trans s2) ?_
      show ((cs.map fun z : Int => decide (0 ≤ z) && decide (z < (ns.length : Int))).all id) = true ↔ _
      rw [List.all_map, List.all_eq_true]
      refine ⟨fun z => ⟨risB_iff.mp e1, hcd, fun x hx => ?_⟩, fun z x hx => ?_⟩
      · have := z x hx
        simp only [Function.comp, id, Bool.and_eq_true, decide_eq_true_eq] at this; exact this
      · have := z.2.2 x hx
        simp only [Function.comp, id, Bool.and_eq_true, decide_eq_true_eq]; exact this
end
theorem k_keysT {X : Cx} {p : Pos} {td : TE} {tg : Expr} (ho : JE X (.Name "taken" p) td) : JI X tg (.Name "taken" p) (iKeys td) := k_keys ho
theorem zero_sum {α : Type} : ∀ (l : List α), (l.map fun _ => (0 : Int)).sum = 0
 | [] => rfl
 | _ :: l => by rw [List.map_cons, List.sum_cons, zero_sum l]; rfl
theorem cnt_used (n : Int) : ∀ (bs : List (List Int × Int)), (∀ q ∈ bs, q.1.Pairwise (· < ·)) → cntF bs n = (bs.map fun q => if n ∈ q.1 then q.2 else 0).sum
 | [], _ => rfl
 | q :: bs, h => by
  have ih := cnt_used n bs fun x hx => h x (.tail _ hx)
  have hp := h q (.head _)
  unfold cntF at ih ⊢
  rw [wsum_cons, ih, List.map_cons, List.sum_cons]
  congr 1
  have nd : q.1.Nodup := hp.imp fun {a b} h => Int.ne_of_lt h
  by_cases hm : n ∈ q.1
  · have c1 := List.nodup_iff_count.mp nd n
    have c2 := List.count_pos_iff.mpr hm
    rw [if_pos hm, show q.1.count n = 1 by omega]; simp
  · rw [if_neg hm, List.count_eq_zero_of_not_mem hm]; simp
section
local macro_rules | `(tactic| wtm_at "pi") => `(tactic| (apply k_keysT; (wtm_at "pe")))
local macro_rules | `(tactic| wtm_at "pe") => `(tactic| (apply j_dgetA "taken"; (assumption); (exact fun _ _ => rfl); (wtm_at "pe"); (wtm_at "pe")))
variable {P : Program} {w : World} {K : PySem.W.Frag} {mg : Str → Option Value} {base : Heap}
abbrev sRight : Stmt := top 11
theorem scRight : FnScope ["counts", "d", "told", "bins", "wheel", "taken"] ["counts", "d", "told"] (defScope sRight) := ⟨rfl, rfl, rfl, by decide +kernel, rfl, by decide +kernel, by decide +kernel⟩
structure Ask (K : PySem.W.Frag) (H : Hp) (c r : Addr) (ns : List Int) (d N : Int) (bs : List (List Int × Int)) : Prop where
 c : H c = some (.tup (ns.map V.int))
 r : ∃ t, H r = some (.tup [.int N, .ref t]) ∧ FillAt K H t bs
 n1 : 1 ≤ ns.length
 n2 : ns.length < 64
 n0 : ∀ x ∈ ns, 0 ≤ x
 d1 : 1 ≤ d
 d2 : d ≤ 60
 bl : bs.length ≤ 60
 cl : ∀ q ∈ bs, q.1.length ≤ 60
def spRight (K : PySem.W.Frag) : Sp := fun vs H Q _ => ∃ (c r : Addr) (ns : List Int) (d N : Int) (bs : List (List Int × Int)), vs = [.ref c, .int d, .ref r] ∧ Ask K H c r ns d N bs ∧ ∀ (b : Bool) (H' : Hp), L2.Same H H' → (b = true ↔ JW ns d N bs) → Q (.bl b) H'
theorem ok_right {f : Addr} {fd : FuncData} (F : Fun K "wheel_right" "wheel_right" sRight f fd) (cM : Callee CX0 P w K mg base "most_bins" 1 ["counts", "d"] (spMost K)) (cO : Callee CX0 P w K mg base "count_of" 1 ["filling"] (spCof K)) (cI : Callee CX0 P w K mg base "counts_in" 1 ["filling"] (spCin K)) (cC : Callee CX0 P w K mg base "is_choice" 2 ["counts", "d", "colours"] spChoice) (cR : Callee CX0 P w K mg base "is_rising" 1 ["things"] spRising)
 (mL : mg "len" = none) (mA : mg "all" = none) : FnOk P w K mg base CX0 3 f fd ["counts", "d", "told"] (spRight K) := by
 refine Br.Fun.j F scRight (fun vs H Q E h => ?_) (fun cdv A outer s H vs Q E hr h => ?_)
 · obtain ⟨_, _, _, _, _, _, rfl, _⟩ := h; rfl
 · obtain ⟨c, r, ns, d, N, bs, rfl, ⟨hc, ⟨t, hrr, hw⟩, h1, h64, h0, hd, hd1, hbl, hcl⟩, h⟩ := h
   have nd := scRight.nd
   have hsz : (sizeLine : Nat) = 16777216 := sizeLine_eq
   refine' ⟨_, ?d, ?r⟩
   case d => wtm_at "body"
   case r =>
    wtm_at "rd"
    refine ⟨r, _, rfl, SqT.of hrr, rfl, _, _, rfl, _, _, rfl, rfl, ?_⟩
    obtain ⟨vs, eT, hlv⟩ := id hw
    have hal := hlv.1
    have no : ∀ {G : Hp}, L2.Same H G → ¬ JW ns d N bs → Q (.bl false) G := fun s n => h false _ s ⟨fun z => (nomatch z), fun j => absurd j n⟩
    refine ⟨fun σ' G => L2.Same H G ∧ IsMost ns d N ∧ (bs.map (·.2)).sum = N ∧ bs.length ≤ ns.length ∧ σ' = [some (.ref c), some (.int d), some (.ref r), some (.int N), some (.ref t), none], ?_, ?_⟩
    · wtm_at "rd"
      refine ⟨c, ns, d, rfl, SqT.of hc, h64, h0, hd, by omega, fun M H1 s1 hM1 => ?_⟩
      refine ⟨rfl, _, rfl, ite2 (fun hz => ?_) (fun hz => ?_)⟩
      · refine no s1 fun j => ?_
        have e := IsMost.uniq h0 hM1 j.most
        rw [e] at hz; simp at hz
      have hMN : M = N := Classical.byContradiction fun n => hz (by simpa using fun e => n e.symm)
      subst hMN
      wtm_at "rd"
      refine ⟨t, bs, rfl, hw.tu (Tu.of s1), by omega, fun H2 s2 => ?_⟩
      wtm_at "rd"
      have s12 := s1.trans s2
      refine ⟨rfl, _, rfl, ite2 (fun hz => ?_) (fun hz => ?_)⟩
      · refine no s12 fun j => ?_
        rw [j.sum] at hz; simp at hz
      have hsum : (bs.map (·.2)).sum = M := Classical.byContradiction fun n => hz (by simpa using n)
      wtm_at "rd"
      refine .inl ⟨t, _, rfl, .inr (eT.same s12).sq, ?_⟩
      wtm_at "rd"
      refine .inl ⟨c, _, rfl, .inr (SqT.of (s12 _ _ hc)), ?_⟩
      wtm_at "rd"
      refine ite2 (fun hz => ?_) (fun hz => ⟨s12, hM1, hsum, ?_, rfl⟩)
      · refine no s12 fun j => ?_
        have := of_decide_eq_true hz
        have := j.len
        rw [List.length_map] at *; omega
      · rw [List.length_map, decide_eq_true_eq] at hz; omega
    rintro σ' G ⟨sG, hM, hsum, hlen, rfl⟩
    refine ⟨fun σ' G' => L2.Same H G' ∧ (∀ q ∈ bs, Wh.IsBin ns.length d q.1 ∧ 1 ≤ q.2) ∧ σ' = [some (.ref c), some (.int d), some (.ref r), some (.int N), some (.ref t), none], ?_, ?_⟩
    · wtm_at "rd"
      refine .inr ⟨⟨_, (eT.same sG).sq⟩, ?_⟩
      refine cmp_tup (K := K) (a := t) (xs := vs) (fun i ys σ G' => L2.Same G G' ∧ (∃ zs : List Bool, ys = zs.map V.bl ∧ zs.length = i ∧ ∀ (j : Nat) (z : Bool), zs[j]? = some z → ∃ q, bs[j]? = some q ∧ (z = true ↔ Wh.IsBin ns.length d q.1 ∧ 1 ≤ q.2)) ∧ ∃ x y : Option V, σ = [x, y, some (.ref c), some (.int d), some (.ref r), some (.int N), some (.ref t), none])
       ⟨L2.Same.refl _, ⟨[], rfl, rfl, fun j z e => by cases e⟩, none, none, rfl⟩ (by omega) (fun i ys σ G' _ ⟨e, ⟨zs, e', e2, _⟩, _⟩ => ⟨(eT.same (sG.trans e)).sq, by rw [e', List.length_map]; omega⟩) ?_ ?_
      · rintro i x ys σ G' M hx ⟨sG', ⟨zs, rfl, hzl, hzs⟩, x0, y0, rfl⟩ hM'
        obtain ⟨q, hq, a, cc, rfl, q2, q3⟩ := hlv.2 i x hx
        have sA := sG.trans sG'
        have put : ∀ {G1 : Hp} (z : Bool), L2.Same G' G1 → (z = true ↔ Wh.IsBin ns.length d q.1 ∧ 1 ≤ q.2) → ∀ {σ1 : L2.St}, (∃ x y : Option V, σ1 = [x, y, some (.ref c), some (.int d), some (.ref r), some (.int N), some (.ref t), none]) → M (zs.map V.bl ++ [V.bl z]) σ1 G1 := fun {G1} z s1 hz {σ1} hσ => hM' _ _ _ ⟨sG'.trans s1, ⟨zs ++ [z], by rw [List.map_append]; rfl, by rw [List.length_append, hzl]; rfl, fun j z' hj => by
         rcases Nat.lt_or_ge j zs.length with hl | hl
         · rw [List.getElem?_append_left hl] at hj; exact hzs j z' hj
         · rw [List.getElem?_append_right hl] at hj
           have hj0 : j - zs.length = 0 := by
            rcases Nat.eq_zero_or_pos (j - zs.length) with y | y
            · exact y
            · rw [List.getElem?_eq_none (by simp; omega)] at hj; cases hj
           rw [hj0] at hj; cases hj
           have : j = i := by omega
           subst this
           exact ⟨q, hq, hz⟩⟩, hσ⟩
        refine ⟨a, _, rfl, SqT.of (sA _ _ q2), rfl, _, _, rfl, _, _, rfl, rfl, ?_⟩
        wtm_at "rd"
        refine ⟨c, cc, ns, q.1, d, rfl, sA _ _ hc, sA _ _ q3, h64, hcl q (List.mem_of_getElem? hq), hd, by omega, fun b G1 s1 hb => ?_⟩
        refine ⟨_, rfl, ite2 (fun e => ?_) (fun e => ?_)⟩
        · wtm_at "rd"
          exact put _ s1 (by rw [decide_eq_true_eq]; exact ⟨fun z => ⟨hb.mp e, z⟩, fun z => z.2⟩) ⟨_, _, rfl⟩
        · exact put false s1 ⟨fun z => (nomatch z), fun z => absurd (hb.mpr z.1) e⟩ ⟨_, _, rfl⟩
      · rintro ys σ G' ⟨sG', ⟨zs, rfl, hzl, hzs⟩, x0, y0, rfl⟩ pl G2 npl s2 e2
        wtm_at "rd"
        refine ⟨pl, _, rfl, SqL.of e2, ?_⟩
        have sA := sG.trans (sG'.trans s2)
        have hall : (zs.all id = true) ↔ ∀ q ∈ bs, Wh.IsBin ns.length d q.1 ∧ 1 ≤ q.2 := by
         rw [List.all_eq_true]
         refine ⟨fun z q hq => ?_, fun z b hb => ?_⟩
         · obtain ⟨j, hj⟩ := List.getElem?_of_mem hq
           have hjl := (List.getElem?_eq_some_iff.mp hj).1
           obtain ⟨q', hq', hz'⟩ := hzs j zs[j] (List.getElem?_eq_getElem (by omega))
           rw [hj] at hq'; cases hq'
           exact hz'.mp (z _ (List.getElem_mem _))
         · obtain ⟨j, hj⟩ := List.getElem?_of_mem hb
           obtain ⟨q', hq', hz'⟩ := hzs j b hj
           exact hz'.mpr (z q' (List.mem_of_getElem? hq'))
        refine ⟨_, rfl, ite2 (fun hz => no sA fun j => ?_) (fun hz => ⟨sA, hall.mp ?_, rfl⟩)⟩
        · have hz : (!(zs.all id)) = true := hz
          rw [hall.mpr j.bin] at hz; cases hz
        · have hz : ¬ (!(zs.all id)) = true := hz
          cases q : zs.all id with
          | true => rfl
          | false => exact absurd (by rw [q]; rfl) hz
    rintro σ' G1 ⟨sG1, g1, rfl⟩
    have hq1 : ∀ q ∈ bs, 1 ≤ q.2 := fun q hq => (g1 q hq).2
    have hql : ∀ q ∈ bs, q.1.length ≤ 100 := fun q hq => by have := hcl q hq; omega
    wtm_at "rd"
    refine ⟨t, bs, rfl, hw.tu (Tu.of sG1), by omega, hql, hq1, fun dd ks G2 nd2 s2 e2 hC hkl => ?_⟩
    have sA2 := sG1.trans s2
    wtm_at "rd"
    refine .inr ⟨⟨_, (eT.same sA2).sq⟩, ?_⟩
    refine cmp_tup (K := K) (a := t) (xs := vs) (fun i ys σ G' => G' = G2 ∧ (∃ bs' : List Addr, ys = bs'.map V.ref ∧ bs'.length = i ∧ ∀ (j : Nat) a, bs'[j]? = some a → ∃ q, bs[j]? = some q ∧ G2 a = some (.tup (q.1.map V.int))) ∧ ∃ x y : Option V, σ = [x, y, some (.ref c), some (.int d), some (.ref r), some (.int N), some (.ref t), some (.ref dd)])
     ⟨rfl, ⟨[], rfl, rfl, fun j a z => by cases z⟩, none, none, rfl⟩ (by omega) (fun i ys σ G' _ ⟨e, ⟨bs', e', e'', _⟩, _⟩ => ⟨by rw [e]; exact (eT.same sA2).sq, by rw [e', List.length_map]; omega⟩) ?_ ?_
    · rintro i x ys σ G' M hx ⟨rfl, ⟨bs', rfl, hbl', hbt⟩, x0, y0, rfl⟩ hM'
      obtain ⟨q, hq, a, cc, rfl, q2, q3⟩ := hlv.2 i x hx
      refine ⟨a, _, rfl, SqT.of (sA2 _ _ q2), rfl, _, _, rfl, _, _, rfl, rfl, ?_⟩
      wtm_at "rd"
      refine hM' _ _ _ ⟨rfl, ⟨bs' ++ [cc], by rw [List.map_append]; rfl, by rw [List.length_append, hbl']; rfl, fun j a' hj => ?_⟩, _, _, rfl⟩
      rcases Nat.lt_or_ge j bs'.length with hl | hl
      · rw [List.getElem?_append_left hl] at hj; exact hbt j a' hj
      · rw [List.getElem?_append_right hl] at hj
        have hj0 : j - bs'.length = 0 := by
         rcases Nat.eq_zero_or_pos (j - bs'.length) with z | z
         · exact z
         · rw [List.getElem?_eq_none (by simp; omega)] at hj; cases hj
        rw [hj0] at hj; cases hj
        have : j = i := by omega
        subst this
        exact ⟨q, hq, sA2 _ _ q3⟩
    rintro ys σ G' ⟨rfl, ⟨bs', rfl, hbl', hbt⟩, x0, y0, rfl⟩ pl G3 npl s3 e3
    wtm_at "rd"
    refine ⟨pl, bs', bs.map (·.1), rfl, e3, by rw [List.length_map]; omega, fun i a u hi hu => ?_, by rw [List.length_map]; omega, fun G4 s4 => ?_⟩
    · obtain ⟨q, h1, h2⟩ := hbt i a hi
      rw [List.getElem?_map, h1] at hu
      cases hu
      exact s3 _ _ h2
    have sA4 := sA2.trans (s3.trans s4)
    refine ⟨_, rfl, ite2 (fun hris => ?_) (fun hris => no sA4 fun j => absurd j.ris hris)⟩
    wtm_at "rd"
    refine ⟨dd, _, rfl, s4 _ _ (s3 _ _ e2), fun ob G5 e5 => ?_⟩
    have d5 : G5 dd = some (.frz ob (.dK (vv2 ks))) := by rw [e5, upd_same]
    have s5 : ∀ b o, b ≠ dd → G4 b = some o → G5 b = some o := fun b o nb e => by rw [e5, upd_ne nb]; exact e
    have ndd : ∀ b o, H b = some o → b ≠ dd := fun b o e => ne_of_none (sG1 _ _ e) nd2
    have sH5 : L2.Same H G5 := fun b o e => s5 b o (ndd b o e) (s4 _ _ (s3 _ _ (sA2 _ _ e)))
    have hvl : (vv2 ks).length = ks.length := by unfold vv2; rw [List.length_map]
    have cntU : ∀ n : Int, (dlook ks n).getD 0 = (bs.map fun x => if n ∈ x.1 then x.2 else 0).sum := fun n => by
     rw [hC.eq n, cnt_used _ bs fun x hx => (g1 x hx).1.1]
    have key : ∀ q ∈ ks, q.2 = (bs.map fun x => if q.1 ∈ x.1 then x.2 else 0).sum ∧ 0 ≤ q.1 ∧ q.1 < ns.length := fun q hqm => by
     have hlq : dlook ks q.1 = some q.2 := (dlook_mem hC.nd q).mp hqm
     have hq1' := hC.pos q hqm
     have hcq : q.2 = (bs.map fun x => if q.1 ∈ x.1 then x.2 else 0).sum := by have := cntU q.1; rw [hlq] at this; exact this
     have hin : ∃ x ∈ bs, q.1 ∈ x.1 := Classical.byContradiction fun z => by
      have e : (bs.map fun x => if q.1 ∈ x.1 then x.2 else 0) = bs.map fun _ => (0 : Int) := List.map_congr_left fun x hx => if_neg fun y => z ⟨x, hx, y⟩
      rw [e, zero_sum] at hcq
      omega
     obtain ⟨x, hx, hm⟩ := hin
     exact ⟨hcq, (g1 x hx).1.2.2 _ hm⟩
    have hks : ks.length ≤ ns.length := by
     have := nodup_len (ms := ks.map (·.1)) (ns := (List.range ns.length).map fun (i : Nat) => (i : Int)) hC.nd fun x hx => by
      obtain ⟨q, hq, rfl⟩ := List.mem_map.mp hx
      have := (key q hq).2
      exact List.mem_map.mpr ⟨q.1.toNat, List.mem_range.mpr (by omega), by omega⟩
     rw [List.length_map, List.length_map, List.length_range] at this; exact this
    refine cmp_keys (a := dd) (ob := ob) (kvs := vv2 ks) (by rw [hvl]; omega) (fun i ys σ G => G = G5 ∧ ys = ((ks.take i).map fun q : Int × Int => decide (q.2 ≤ ns.getD q.1.toNat 0)).map V.bl ∧ ∃ x : Option V, σ = [x, some (.ref c), some (.int d), some (.ref r), some (.int N), some (.ref t), some (.ref dd)])
     ⟨rfl, rfl, none, rfl⟩ (fun i ys σ G hi ⟨e, e', _⟩ => ⟨by rw [e]; exact d5, by rw [e', List.length_map, List.length_map, List.length_take]; omega⟩) ?_ ?_
    · rintro i kv ys σ G M hkv ⟨rfl, rfl, x1, rfl⟩ hM'
      rw [show (vv2 ks)[i]? = (ks[i]?).map fun q => ((.inl q.1, .int q.2) : Key × V) by unfold vv2; rw [List.getElem?_map]] at hkv
      obtain ⟨q, hq, rfl⟩ := Option.map_eq_some_iff.mp hkv
      have hqm := List.mem_of_getElem? hq
      have hlq : dlook ks q.1 = some q.2 := (dlook_mem hC.nd q).mp hqm
      obtain ⟨hcq, hin⟩ := key q hqm
      have dg : DGet G dd (.int q.1) (some (.int q.2)) := .inl ⟨vv2 ks, .inl q.1, .inr ⟨_, d5⟩, rfl, by rw [val_vv2, hlq]; rfl⟩
      wtm_at "rd"
      refine ⟨dd, _, rfl, dg, ?_⟩
      wtm_at "rd"
      have hat' : atI (ns.map V.int) q.1 = some (V.int (ns.getD q.1.toNat 0)) := by
       have := atI_nat (xs := ns.map V.int) (j := q.1.toNat) (v := V.int (ns.getD q.1.toNat 0)) (by rw [List.getElem?_map, List.getD_eq_getElem?_getD, List.getElem?_eq_getElem (by omega)]; rfl)
       rw [show ((q.1.toNat : Nat) : Int) = q.1 by omega] at this; exact this
      refine .inr (.inl ⟨c, _, q.1, _, rfl, rfl, SqT.of (sH5 _ _ hc), hat', ?_⟩)
      refine ⟨_, _, rfl, rfl, hM' _ _ _ ⟨rfl, ?_, _, rfl⟩⟩
      rw [List.take_add_one, hq, List.map_append, List.map_append]; rfl
    · rintro ys σ G ⟨rfl, rfl, x1, rfl⟩ pl2 G6 npl2 s6 e6
      rw [List.take_of_length_le (by rw [hvl]; exact Nat.le_refl _)] at e6
      wtm_at "rd"
      refine ⟨pl2, _, rfl, SqL.of e6, ?_⟩
      refine h _ G6 (sH5.trans s6) ?_
      show ((ks.map fun q : Int × Int => decide (q.2 ≤ ns.getD q.1.toNat 0)).all id) = true ↔ _
      rw [List.all_map, List.all_eq_true]
      refine ⟨fun z => ⟨hM, hsum, hlen, g1, hris, fun i hi => ?_⟩, fun j q hq => ?_⟩
      · rw [← cntU]
        cases e : dlook ks (i : Int) with
        | none =>
         show (0 : Int) ≤ _
         rw [List.getD_eq_getElem?_getD, List.getElem?_eq_getElem hi]
         exact h0 _ (List.getElem_mem hi)
        | some v =>
         have hm := (dlook_mem hC.nd ((i : Int), v)).mpr e
         have := z _ hm
         simp only [Function.comp, id, decide_eq_true_eq, Int.toNat_natCast] at this
         exact this
      · obtain ⟨hcq, hin⟩ := key q hq
        have hle := j.use q.1.toNat (by omega)
        rw [show ((q.1.toNat : Nat) : Int) = q.1 by omega, ← hcq] at hle
        exact decide_eq_true hle
end
def usedL (m : Nat) (X : List (List Int × Int)) : List Int := (List.range m).map fun (j : Nat) => (X.map fun q => if (j : Int) ∈ q.1 then q.2 else 0).sum
theorem usedL_len (m : Nat) (X : List (List Int × Int)) : (usedL m X).length = m := by unfold usedL; rw [List.length_map, List.length_range]
theorem usedL_at {m : Nat} (X : List (List Int × Int)) {j : Nat} (h : j < m) : (usedL m X)[j]? = some ((X.map fun q => if (j : Int) ∈ q.1 then q.2 else 0).sum) := by
 unfold usedL; rw [List.getElem?_map, List.getElem?_range h]; rfl
theorem used_set {m : Nat} {cs : List Int} {X : List (List Int × Int)} {k : Nat} {z t : Int} (pw : cs.Pairwise (· < ·)) (hz : cs[k]? = some z) (z0 : 0 ≤ z) (z1 : z < m) :
 usedL m (X ++ [(cs.take (k + 1), t)]) = (usedL m (X ++ [(cs.take k, t)])).set z.toNat ((usedL m (X ++ [(cs.take k, t)])).getD z.toNat 0 + t) := by
 have hnot : z ∉ cs.take k := fun hm => by
  obtain ⟨j, hj⟩ := List.getElem?_of_mem hm
  rw [List.getElem?_take] at hj
  split at hj
  · next hjk =>
    obtain ⟨a1, b1⟩ := List.getElem?_eq_some_iff.mp hj
    obtain ⟨a2, b2⟩ := List.getElem?_eq_some_iff.mp hz
    have := List.pairwise_iff_getElem.mp pw j k a1 a2 hjk
    omega
  · cases hj
 have ek : cs.take (k + 1) = cs.take k ++ [z] := by rw [List.take_add_one, hz]; rfl
 have used : ∀ j : Nat, ((X ++ [(cs.take (k + 1), t)]).map fun q : List Int × Int => if (j : Int) ∈ q.1 then q.2 else 0).sum = ((X ++ [(cs.take k, t)]).map fun q => if (j : Int) ∈ q.1 then q.2 else 0).sum + if (j : Int) = z then t else 0 := fun j => by
  rw [List.map_append, List.map_append, List.sum_append, List.sum_append, ek]
  simp only [List.map_cons, List.map_nil, List.sum_cons, List.sum_nil]
  by_cases e : (j : Int) = z
  · rw [if_pos e, if_pos (by simp [e]), if_neg (by rw [e]; exact hnot)]; omega
  · rw [if_neg e]
    by_cases h : (j : Int) ∈ cs.take k
    · rw [if_pos h, if_pos (by simp [h])]; omega
    · rw [if_neg h, if_neg (by simp [h, e])]; omega
 apply List.ext_getElem?
 intro j
 rcases Nat.lt_or_ge j m with hj | hj
 · rw [usedL_at _ hj, used j, List.getElem?_set]
   by_cases e : z.toNat = j
   · have e' : (j : Int) = z := by omega
     have hv : (usedL m (X ++ [(cs.take k, t)])).getD j 0 = ((X ++ [(cs.take k, t)]).map fun q => if (j : Int) ∈ q.1 then q.2 else 0).sum := by rw [List.getD_eq_getElem?_getD, usedL_at _ hj]; rfl
     rw [if_pos e, if_pos e', if_pos (by rw [usedL_len]; omega), e, hv]
   · rw [if_neg e, if_neg (by omega), usedL_at _ hj]; congr 1; omega
 · rw [List.getElem?_eq_none (by rw [usedL_len]; exact hj), List.getElem?_eq_none (by rw [List.length_set, usedL_len]; exact hj)]
theorem atI_head : ∀ (l : List Int) (h : l ≠ []), atI (l.map V.int) 0 = some (.int (l.head h))
 | [], h => absurd rfl h
 | z :: r, _ => by simp [atI, ixN]
theorem plL (ns : List Int) : Pl (.list (ns.map PyData.int)) := by
 have h1 : ∀ ns : List Int, PyData.canLayAll0 (ns.map PyData.int) = true := fun ns => by
  induction ns with
  | nil => rfl
  | cons n ns ih => assumption
 have h2 : ∀ ns : List Int, PyData.depthAll (ns.map PyData.int) ≤ 1 := fun ns => by
  induction ns with
  | nil => simp [PyData.depthAll]
  | cons n ns ih => assumption
 refine ⟨by exact h1 ns, ?_⟩
 have := h2 ns
 simp [PyData.depth]; omega
structure JR (ns : List Int) (d N : Int) (bs : List (List Int × Int)) : Prop where
 sum : (bs.map (·.2)).sum = N
 len : bs.length ≤ ns.length
 bin : ∀ q ∈ bs, Wh.IsBin ns.length d q.1 ∧ 1 ≤ q.2
 ris : risL (bs.map (·.1)) = true
 use : ∀ i : Nat, i < ns.length → (bs.map fun q => if (i : Int) ∈ q.1 then q.2 else 0).sum ≤ ns.getD i 0
theorem jw_iff {ns : List Int} {d N : Int} {bs : List (List Int × Int)} : JW ns d N bs ↔ IsMost ns d N ∧ JR ns d N bs := ⟨fun ⟨a, b, c, e, f, g⟩ => ⟨a, b, c, e, f, g⟩, fun ⟨a, b, c, e, f, g⟩ => ⟨a, b, c, e, f, g⟩⟩
theorem eqv_ints : ∀ ts us : List Int, PyData.eqvAll (ts.map PyData.int) (us.map PyData.int) = (ts == us)
 | [], [] => rfl
 | [], _ :: _ => rfl
 | _ :: _, [] => rfl
 | t :: r, u :: q => by
  rw [List.map_cons, List.map_cons]; simp only [PyData.eqvAll, PyData.eqv, eqv_ints r q]; rfl
section
local macro_rules | `(tactic| wtm_at "call") => `(tactic| (apply k_sortSet; (wtm_at "K"); (with_reducible rfl); (with_reducible rfl); (rfl); (rfl); (assumption); (assumption); (rfl); (rfl); (rfl); (intro _; rfl); (wtm_at "pe")))
local macro_rules | `(tactic| wtm_at "cop") => `(tactic| first | (apply c_neD; assumption) | (apply c_leT; (wtm_at "K"); assumption))
local macro_rules | `(tactic| wtm_at "pi") => `(tactic| (apply ZG.k_zip; (wtm_at "K"); (with_reducible rfl); (rfl); (assumption); (rfl); (rfl); (wtm_at "pa")))
variable {P : Program} {w : World} {K : PySem.W.Frag} {mg : Str → Option Value} {base : Heap}
abbrev sLwh : Stmt := top 17
theorem scLwh : FnScope ["counts", "d", "number", "pairs", "colours", "times", "used", "last", "colour"] ["counts", "d", "number", "pairs"] (defScope sLwh) := ⟨rfl, rfl, rfl, by decide +kernel, rfl, by decide +kernel, by decide +kernel⟩
def spLwh (K : PySem.W.Frag) : Sp := fun vs H Q _ => ∃ (c t : Addr) (ns : List Int) (d N : Int) (bs : List (List Int × Int)), vs = [.ref c, .int d, .int N, .ref t] ∧ H c = some (.tup (ns.map V.int)) ∧ FillAt K H t bs ∧ 1 ≤ ns.length ∧ ns.length < 64 ∧ 1 ≤ d ∧ d ≤ 60 ∧ bs.length ≤ 60 ∧ (∀ q ∈ bs, q.1.length ≤ 60) ∧ ∀ (b : Bool) (H' : Hp), L2.Same H H' → (b = true ↔ JR ns d N bs) → Q (.bl b) H'
theorem ok_lwh {f : Addr} {fd : FuncData} (F : Fun K "_law_wheel" "_law_wheel" sLwh f fd) (mS : mg "sorted" = none) (mE : mg "set" = none) (mA : mg "all" = none) (mL : mg "list" = none) (mN : mg "len" = none) (mU : mg "sum" = none) (mZ : mg "zip" = none) : FnOk P w K mg base CX0 1 f fd ["counts", "d", "number", "pairs"] (spLwh K) := by
 refine Br.Fun.j F scLwh (fun vs H Q E h => ?_) (fun cdv A outer s H vs Q E hr h => ?_)
 · obtain ⟨_, _, _, _, _, _, rfl, _⟩ := h; rfl
 · obtain ⟨c, t, ns, d, N, bs, rfl, hc, hw, h1, h64, hd, hd1, hbl, hcl, h⟩ := h
   have nd := scLwh.nd
   have hsz : (sizeLine : Nat) = 16777216 := sizeLine_eq
   refine' ⟨_, ?d, ?r⟩
   case d => wtm_at "body"
   case r =>
    wtm_at "rd"
    obtain ⟨vs, eT, hlv⟩ := id hw
    have hal := hlv.1
    have no : ∀ {G : Hp}, L2.Same H G → ¬ JR ns d N bs → Q (.bl false) G := fun s n => h false _ s ⟨fun z => (nomatch z), fun j => absurd j n⟩
    refine ⟨fun σ' G => L2.Same H G ∧ (bs.map (·.2)).sum = N ∧ bs.length ≤ ns.length ∧ σ' = [some (.ref c), some (.int d), some (.int N), some (.ref t), none, none, none, none, none], ?_, ?_⟩
    · wtm_at "rd"
      refine .inl ⟨t, _, rfl, .inr eT.sq, ?_⟩
      wtm_at "rd"
      refine .inl ⟨c, _, rfl, .inr (SqT.of hc), ?_⟩
      wtm_at "rd"
      refine ite2 (fun hz => no (L2.Same.refl _) fun j => ?_) (fun hlen => ?_)
      · have := of_decide_eq_true hz
        have := j.len
        rw [List.length_map] at *; omega
      rw [List.length_map, decide_eq_true_eq] at hlen
      wtm_at "rd"
      refine .inr ⟨⟨_, eT.sq⟩, ?_⟩
      refine cmp_tup (K := K) (a := t) (xs := vs) (fun i ys σ G' => G' = H ∧ ys = ((bs.map (·.2)).take i).map V.int ∧ ∃ x y : Option V, σ = [x, y, some (.ref c), some (.int d), some (.int N), some (.ref t), none, none, none, none, none])
       ⟨rfl, rfl, none, none, rfl⟩ (by omega) (fun i ys σ G' _ ⟨e, e', _⟩ => ⟨by rw [e]; exact eT.sq, by rw [e', List.length_map, List.length_take]; omega⟩) ?_ ?_
      · rintro i x ys σ G' M hx ⟨rfl, rfl, x0, y0, rfl⟩ hM'
        obtain ⟨q, hq, a, cc, rfl, q2, q3⟩ := hlv.2 i x hx
        refine ⟨a, _, rfl, SqT.of q2, rfl, _, _, rfl, _, _, rfl, rfl, ?_⟩
        wtm_at "rd"
        refine hM' _ _ _ ⟨rfl, ?_, _, _, rfl⟩
        rw [List.take_add_one, List.getElem?_map, hq, List.map_append]; rfl
      · rintro ys σ G' ⟨rfl, rfl, x0, y0, rfl⟩ pl G1 npl s1 e1
        rw [List.take_of_length_le (by rw [List.length_map]; omega)] at e1
        wtm_at "rd"
        refine ⟨pl, _, rfl, .inl (SqL.of e1), ?_⟩
        wtm_at "rd"
        refine .inl ⟨rfl, _, rfl, ite2 (fun hz => no s1 fun j => ?_) (fun hz => ⟨s1, Classical.byContradiction fun n => hz (by simpa using n), by omega, rfl⟩)⟩
        rw [j.sum] at hz; simp at hz
    rintro σ' G ⟨sG, hsum, hlen, rfl⟩
    refine ⟨lenLe (n := 1) rfl (by decide), fun l0 G1 nl0 s0 e0 => ?_⟩
    have sG1 := sG.trans s0
    wtm_at "rd"
    refine .inl ⟨c, _, rfl, .inr (SqT.of (sG1 _ _ hc)), ?_⟩
    refine ⟨l0, _, _, rfl, rfl, e0, by rw [List.length_map]; omega, by rw [List.length_map]; omega, by rw [List.length_map]; show 1 * ns.length ≤ sizeLine; omega, fun lu G2 nlu s2 e2 => ?_⟩
    have sG2 := sG1.trans s2
    have nluH : H lu = none := same_none sG1 nlu
    have e2 : G2 lu = some (.lst ((usedL ns.length (bs.take 0)).map V.int)) := by
     rw [e2, List.length_map]; congr 2
     show (List.replicate ns.length [V.int 0]).flatten = _
     apply List.ext_getElem
     · simp [usedL_len]
     · intro i h1 h2
       simp [usedL]
    wtm_at "rd"
    have tuU : ∀ {G' : Hp}, (∀ b o, b ≠ lu → G2 b = some o → G' b = some o) → L2.Same H G' := fun k b o e => k b o (ne_of_none e nluH) (sG2 _ _ e)
    refine .inr ⟨⟨_, (eT.same sG2).sq⟩, ?_⟩
    refine for_tup (K := K) (a := t) (xs := vs) (fun i σ G' => (∀ b o, b ≠ lu → G2 b = some o → G' b = some o) ∧ G' lu = some (.lst ((usedL ns.length (bs.take i)).map V.int)) ∧ (∀ (j : Nat) (q : List Int × Int), j < i → bs[j]? = some q → Wh.IsBin ns.length d q.1 ∧ 1 ≤ q.2) ∧ (∀ (j : Nat) (u v : List Int × Int), j + 1 < i → bs[j]? = some u → bs[j + 1]? = some v → HT.lexLt u.1 v.1 = true) ∧ ∃ (x y z : Option V) (v : V), ((i = 0 ∧ v = .non) ∨ ∃ (j : Nat) (cc : Addr) (q : List Int × Int), i = j + 1 ∧ v = .ref cc ∧ bs[j]? = some q ∧ H cc = some (.tup (q.1.map V.int))) ∧ σ = [some (.ref c), some (.int d), some (.int N), some (.ref t), x, y, some (.ref lu), some v, z])
     ⟨fun _ _ _ e => e, e2, fun j q hj => absurd hj (Nat.not_lt_zero _), fun j u v hj => absurd hj (Nat.not_lt_zero _), none, none, none, .non, .inl ⟨rfl, rfl⟩, rfl⟩ (fun i σ G' _ ⟨kG, _⟩ => (eT.same (tuU kG)).sq) ?_ ?_
    · rintro i x σ G' hx ⟨kG, eU, hgood, hrise, x0, y0, z0, v, hv, rfl⟩
      obtain ⟨q, hq, a, cc, rfl, q2, q3⟩ := hlv.2 i x hx
      have hqm := List.mem_of_getElem? hq
      have hq60 := hcl q hqm
      have kH : L2.Same H G' := tuU kG
      refine ⟨a, _, rfl, SqT.of (kH _ _ q2), rfl, _, _, rfl, _, _, rfl, rfl, ?_⟩
      refine ⟨fun σ' G3 => L2.Same G' G3 ∧ q.1.Pairwise (· < ·) ∧ (q.1.length : Int) = d ∧ 1 ≤ q.2 ∧ σ' = [some (.ref c), some (.int d), some (.int N), some (.ref t), some (.ref cc), some (.int q.2), some (.ref lu), some v, z0], ?_, ?_⟩
      · wtm_at "rd"
        refine .inl ⟨cc, _, rfl, .inr (SqT.of (kH _ _ q3)), ?_⟩
        wtm_at "rd"
        refine .inl ⟨rfl, _, rfl, ite2 (fun hz => ?_) (fun hz => ?_)⟩
        · refine no kH fun j => ?_
          rw [List.length_map, (j.bin q hqm).1.2.1] at hz; simp at hz
        have hld : (q.1.length : Int) = d := Classical.byContradiction fun n => hz (by simpa using n)
        wtm_at "rd"
        refine ite2 (fun hz => ?_) (fun hz => ?_)
        · refine no kH fun j => ?_
          have := of_decide_eq_true hz
          have := (j.bin q hqm).2
          omega
        rw [decide_eq_true_eq] at hz
        wtm_at "rd"
        refine ⟨cc, _, rfl, .inr (SqT.of (kH _ _ q3)), fun u G3 nu s3 e3 => ?_⟩
        wtm_at "rd"
        refine ⟨cc, q.1, rfl, .inr (SqT.of (s3 _ _ (kH _ _ q3))), by omega, fun u2 ms G4 nu2 s4 e4 pw hmem => ?_⟩
        refine .inr ⟨.list (q.1.map PyData.int), .list (ms.map PyData.int), .lst (s4 _ _ e3) (Reps.ints _), .lst e4 (Reps.ints _), plL _, plL _, ?_⟩
        rw [show PyData.eqv (.list (q.1.map PyData.int)) (.list (ms.map PyData.int)) = (q.1 == ms) by simp only [PyData.eqv]; exact eqv_ints _ _]
        refine ⟨_, rfl, ite2 (fun hz => ?_) (fun hz => ⟨s3.trans s4, ?_, hld, by omega, rfl⟩)⟩
        · refine no (kH.trans (s3.trans s4)) fun j => ?_
          rw [rise_eq pw (j.bin q hqm).1.1 hmem, beq_self_eq_true] at hz; cases hz
        · have : (q.1 == ms) = true := by
           cases e : (q.1 == ms) with
           | true => rfl
           | false => exact absurd (by rw [e]; rfl) hz
          rw [eq_of_beq this]; exact pw
      rintro σ' G3 ⟨s3, b1, b2, b4, rfl⟩
      have kH3 : L2.Same H G3 := kH.trans s3
      have hne : q.1 ≠ [] := fun z => by rw [z] at b2; simp at b2; omega
      refine ⟨fun σ' G4 => G4 = G3 ∧ (∀ x ∈ q.1, 0 ≤ x ∧ x < ns.length) ∧ σ' = [some (.ref c), some (.int d), some (.int N), some (.ref t), some (.ref cc), some (.int q.2), some (.ref lu), some v, z0], ?_, ?_⟩
      · wtm_at "rd"
        have h00 := atI_head q.1 hne
        have hll : atI (q.1.map V.int) (-1) = some (.int (q.1.getLast hne)) := by
         have e : q.1.map V.int = (q.1.map V.int).dropLast ++ [V.int (q.1.getLast hne)] := by
          have := (List.dropLast_concat_getLast (l := q.1.map V.int) (by simpa using hne)).symm
          rw [List.getLast_map] at this; exact this
         rw [e, atI_last]
        have c0 := List.head_mem hne
        have c1 := List.getLast_mem hne
        refine .inr (.inl ⟨cc, _, 0, _, rfl, rfl, SqT.of (kH3 _ _ q3), h00, ?_⟩)
        wtm_at "rd"
        refine ite2 (fun hz => no kH3 fun j => ?_) (fun hz => ?_)
        · have := of_decide_eq_true hz
          have := (j.bin q hqm).1.2.2 _ c0
          omega
        rw [decide_eq_true_eq] at hz
        wtm_at "rd"
        refine .inr (.inl ⟨cc, _, -1, _, rfl, rfl, SqT.of (kH3 _ _ q3), hll, ?_⟩)
        wtm_at "rd"
        refine .inl ⟨c, _, rfl, .inr (SqT.of (kH3 _ _ hc)), ?_⟩
        wtm_at "rd"
        refine ite2 (fun hy => no kH3 fun j => ?_) (fun hy => ⟨rfl, fun x hx => ?_, rfl⟩)
        · have := of_decide_eq_true hy
          have := (j.bin q hqm).1.2.2 _ c1
          rw [List.length_map] at *; omega
        · rw [List.length_map, decide_eq_true_eq] at hy
          obtain ⟨jx, hjx⟩ := List.getElem?_of_mem hx
          obtain ⟨a1, a2⟩ := List.getElem?_eq_some_iff.mp hjx
          have l0 : q.1.head hne ≤ x := by
           rw [List.head_eq_getElem, ← a2]
           rcases Nat.eq_zero_or_pos jx with z | z
           · subst z; exact Int.le_refl _
           · exact Int.le_of_lt (List.pairwise_iff_getElem.mp b1 0 jx (by omega) a1 z)
          have l1 : x ≤ q.1.getLast hne := by
           rw [List.getLast_eq_getElem, ← a2]
           rcases Nat.lt_or_ge jx (q.1.length - 1) with z | z
           · exact Int.le_of_lt (List.pairwise_iff_getElem.mp b1 jx (q.1.length - 1) a1 (by omega) z)
           · have e : jx = q.1.length - 1 := by omega
             subst e; exact Int.le_refl _
          omega
      rintro σ' G4 ⟨rfl, b3, rfl⟩
      refine ⟨fun σ' G5 => G5 = G4 ∧ (∀ (j : Nat) (u v : List Int × Int), j + 1 < i + 1 → bs[j]? = some u → bs[j + 1]? = some v → HT.lexLt u.1 v.1 = true) ∧ σ' = [some (.ref c), some (.int d), some (.int N), some (.ref t), some (.ref cc), some (.int q.2), some (.ref lu), some v, z0], ?_, ?_⟩
      · wtm_at "rd"
        rcases hv with ⟨hi0, rfl⟩ | ⟨j, cc', q', hij, rfl, hq', hcc'⟩
        · exact ⟨rfl, _, rfl, ite2 (fun hz => absurd hz (by simp)) (fun _ => iteF ⟨rfl, fun j u v hj => absurd hj (by omega), rfl⟩)⟩
        · refine ⟨rfl, _, rfl, ite2 (fun _ => ?_) (fun hz => absurd (by simp) hz)⟩
          wtm_at "rd"
          refine .inr ⟨cc, cc', q.1, q'.1, rfl, rfl, SqT.of (kH3 _ _ q3), SqT.of (kH3 _ _ hcc'), ?_⟩
          subst hij
          refine ⟨_, rfl, ite2 (fun hz => no kH3 fun jr => ?_) (fun hz => ⟨rfl, fun j2 u v hj hu hv => ?_, rfl⟩)⟩
          · have := risL_iff.mp jr.ris j q'.1 q.1 (by rw [List.getElem?_map, hq']; rfl) (by rw [List.getElem?_map, hq]; rfl)
            rw [this] at hz; cases hz
          · by_cases e : j2 = j
            · subst e
              rw [hq'] at hu; rw [hq] at hv; cases hu; cases hv
              cases e : HT.lexLt q'.1 q.1 with
              | true => rfl
              | false => exact absurd (by rw [e]; rfl) hz
            · exact hrise j2 u v (by omega) hu hv
      rintro σ' G5 ⟨rfl, hrise', rfl⟩
      wtm_at "rd"
      refine .inr ⟨⟨_, SqT.of (kH3 _ _ q3)⟩, ?_⟩
      have eU3 := s3 _ _ eU
      refine for_tup (K := K) (a := cc) (xs := q.1.map V.int) (fun k σ G5' => (∀ b o, b ≠ lu → G5 b = some o → G5' b = some o) ∧ G5' lu = some (.lst ((usedL ns.length (bs.take i ++ [(q.1.take k, q.2)])).map V.int)) ∧ ∃ z : Option V, σ = [some (.ref c), some (.int d), some (.int N), some (.ref t), some (.ref cc), some (.int q.2), some (.ref lu), some (.ref cc), z])
       ⟨fun _ _ _ e => e, ?_, _, rfl⟩ (fun k σ G5' _ ⟨k5, _⟩ => SqT.of (k5 _ _ (ne_of_none q3 nluH) (kH3 _ _ q3))) ?_ ?_
      · rw [eU3]; congr 2
        unfold usedL
        congr 1
        exact List.map_congr_left fun j _ => by rw [List.map_append, List.sum_append]; simp
      · rintro k x σ G5' hx ⟨k5, e5, z1, rfl⟩
        rw [List.getElem?_map] at hx
        obtain ⟨z, hz, rfl⟩ := Option.map_eq_some_iff.mp hx
        obtain ⟨zz0, zz1⟩ := b3 z (List.mem_of_getElem? hz)
        have hset := used_set (m := ns.length) (X := bs.take i) (t := q.2) b1 hz zz0 zz1
        have hzl := usedL_len ns.length (bs.take i ++ [(q.1.take k, q.2)])
        wtm_at "rd"
        rw [hset]
        generalize usedL ns.length (bs.take i ++ [(q.1.take k, q.2)]) = zs at e5 hzl ⊢
        have hck : z.toNat < zs.length := by omega
        have hat' : atI (zs.map V.int) z = some (V.int (zs.getD z.toNat 0)) := by
         have := atI_nat (xs := zs.map V.int) (j := z.toNat) (v := V.int (zs.getD z.toNat 0)) (by rw [List.getElem?_map, List.getD_eq_getElem?_getD, List.getElem?_eq_getElem hck]; rfl)
         rw [show ((z.toNat : Nat) : Int) = z by omega] at this; exact this
        refine .inl ⟨lu, _, _, _, rfl, rfl, SqL.of e5, hat', ?_⟩
        wtm_at "rd"
        refine ⟨lu, _, _, z.toNat, rfl, rfl, e5, ?_, ?_⟩
        · show ixN (zs.map V.int).length z = some z.toNat
          unfold ixN
          rw [if_pos zz0, if_pos (by rw [List.length_map]; omega)]
        refine ⟨fun b o nb e => by rw [upd_ne nb]; exact k5 b o nb e, by rw [upd_same, List.map_set], _, rfl⟩
      · rintro σ G5' ⟨k5, e5, z1, rfl⟩
        rw [List.length_map, List.take_length] at e5
        refine ⟨fun b o nb e => k5 b o nb (s3 _ _ (kG b o nb e)), ?_, fun j u hj hu => ?_, hrise', _, _, _, .ref cc, .inr ⟨i, cc, q, rfl, rfl, hq, q3⟩, rfl⟩
        · rw [e5, List.take_add_one, hq]; rfl
        · by_cases e : j = i
          · subst e; rw [hq] at hu; cases hu; exact ⟨⟨b1, b2, b3⟩, b4⟩
          · exact hgood j u (by omega) hu
    · rintro σ G' ⟨kG, eU, hgood, hrise, x0, y0, z0, v, hv, rfl⟩
      rw [hal, List.take_length] at eU
      rw [hal] at hgood hrise
      wtm_at "rd"
      have sHG := tuU kG
      have cG : G' c = some (.tup (ns.map V.int)) := sHG _ _ hc
      refine ⟨false, true, lu, c, _, _, rfl, SqL.of eU, SqT.of cG, ?_⟩
      refine ZG.cmp_zip (f1 := false) (f2 := true) (K := K) (a := lu) (b := c) (xs := (usedL ns.length bs).map V.int) (ys := ns.map V.int) (n := ns.length) (by rw [List.length_map, usedL_len]; exact Nat.le_refl _) (by rw [List.length_map]) (by omega)
       (fun k zs σ G => L2.Same G' G ∧ zs = ((List.range k).map fun i : Nat => decide ((bs.map fun q => if (i : Int) ∈ q.1 then q.2 else 0).sum ≤ ns.getD i 0)).map V.bl ∧ ∃ x y : Option V, σ = [x, y, some (.ref c), some (.int d), some (.int N), some (.ref t), x0, y0, some (.ref lu), some v, z0])
       ⟨L2.Same.refl _, rfl, none, none, rfl⟩ (fun k zs σ G _ ⟨sG, e, _⟩ => ⟨SqL.of (sG _ _ eU), SqT.of (sG _ _ cG), by rw [e, List.length_map, List.length_map, List.length_range]; exact Nat.le_refl _⟩) ?_ ?_
      · rintro k x y zs σ G T M hx hy ⟨sG', rfl, x1, y1, rfl⟩ nT hM'
        rw [List.getElem?_map] at hx hy
        obtain ⟨a, ha, rfl⟩ := Option.map_eq_some_iff.mp hx
        obtain ⟨b, hb, rfl⟩ := Option.map_eq_some_iff.mp hy
        have hk := (List.getElem?_eq_some_iff.mp hb).1
        rw [usedL_at _ hk] at ha
        have ha : (bs.map fun q => if (k : Int) ∈ q.1 then q.2 else 0).sum = a := by injection ha
        have hb : ns.getD k 0 = b := by rw [List.getD_eq_getElem?_getD, hb]; rfl
        have sT : L2.Same G (upd G T (.tup [.int a, .int b])) := Br.Same.upd nT
        refine ⟨T, _, rfl, SqT.of upd_same, rfl, _, _, rfl, _, _, rfl, rfl, ?_⟩
        wtm_at "rd"
        refine hM' _ _ _ ⟨sG'.trans sT, ?_, _, _, rfl⟩
        rw [List.range_succ, List.map_append, List.map_append, ← ha, ← hb]; rfl
      · rintro zs σ G ⟨sG', rfl, x1, y1, rfl⟩ pl G6 npl s6 e6
        wtm_at "rd"
        refine ⟨pl, _, rfl, SqL.of e6, ?_⟩
        refine h _ G6 (sHG.trans (sG'.trans s6)) ?_
        show (((List.range ns.length).map fun i : Nat => decide ((bs.map fun q => if (i : Int) ∈ q.1 then q.2 else 0).sum ≤ ns.getD i 0)).all id) = true ↔ _
        rw [List.all_map, List.all_eq_true]
        refine ⟨fun z => ⟨hsum, hlen, fun q hq => ?_, risL_iff.mpr fun j u v hu hv => ?_, fun i hi => ?_⟩, fun j i hi => decide_eq_true (j.use i (List.mem_range.mp hi))⟩
        · obtain ⟨j, hj⟩ := List.getElem?_of_mem hq
          exact hgood j q (List.getElem?_eq_some_iff.mp hj).1 hj
        · rw [List.getElem?_map] at hu hv
          obtain ⟨u', hu', rfl⟩ := Option.map_eq_some_iff.mp hu
          obtain ⟨v', hv', rfl⟩ := Option.map_eq_some_iff.mp hv
          exact hrise j u' v' (List.getElem?_eq_some_iff.mp hv').1 hu' hv'
        · exact of_decide_eq_true (z i (List.mem_range.mpr hi))
end
theorem Ask.same {K : PySem.W.Frag} {H H' : Hp} {c r : Addr} {ns : List Int} {d N : Int} {bs : List (List Int × Int)} (a : Ask K H c r ns d N bs) (m : Tu H H') : Ask K H' c r ns d N bs :=
 ⟨m _ _ a.c (.inl ⟨_, rfl⟩), (let ⟨t, e, f⟩ := a.r; ⟨t, m _ _ e (.inl ⟨_, rfl⟩), f.tu m⟩), a.n1, a.n2, a.n0, a.d1, a.d2, a.bl, a.cl⟩
section
variable {P : Program} {w : World} {K : PySem.W.Frag} {mg : Str → Option Value} {base : Heap}
abbrev sLr : Stmt := top 18
theorem scLr : FnScope ["counts", "d", "told", "number", "pairs"] ["counts", "d", "told"] (defScope sLr) := ⟨rfl, rfl, rfl, by decide +kernel, rfl, by decide +kernel, by decide +kernel⟩
theorem ok_lr {f : Addr} {fd : FuncData} (F : Fun K "_law_right" "_law_right" sLr f fd) (cE : Callee CX0 P w K mg base "_law_enough" 1 ["counts", "d", "number"] (spEnough K)) (cW : Callee CX0 P w K mg base "_law_wheel" 1 ["counts", "d", "number", "pairs"] (spLwh K)) : FnOk P w K mg base CX0 2 f fd ["counts", "d", "told"] (spRight K) := by
 refine Br.Fun.j F scLr (fun vs H Q E h => ?_) (fun cdv A outer s H vs Q E hr h => ?_)
 · obtain ⟨_, _, _, _, _, _, rfl, _⟩ := h; rfl
 · obtain ⟨c, r, ns, d, N, bs, rfl, ⟨hc, ⟨t, hrr, hw⟩, h1, h64, h0, hd, hd1, hbl, hcl⟩, h⟩ := h
   have nd := scLr.nd
   have hsz : (sizeLine : Nat) = 16777216 := sizeLine_eq
   refine' ⟨_, ?d, ?r⟩
   case d => wtm_at "body"
   case r =>
    wtm_at "rd"
    refine ⟨r, _, rfl, SqT.of hrr, rfl, _, _, rfl, _, _, rfl, rfl, ?_⟩
    have no : ∀ {G : Hp}, L2.Same H G → ¬ JW ns d N bs → Q (.bl false) G := fun s n => h false _ s ⟨fun z => (nomatch z), fun j => absurd j n⟩
    refine ⟨fun σ' G => L2.Same H G ∧ 0 ≤ N ∧ Enough ns d N ∧ σ' = [some (.ref c), some (.int d), some (.ref r), some (.int N), some (.ref t)], ?_, ?_⟩
    · wtm_at "rd"
      refine ite2 (fun hz => no (L2.Same.refl _) fun j => ?_) (fun hz => ?_)
      · have := of_decide_eq_true hz
        have := j.most.1
        omega
      rw [decide_eq_true_eq] at hz
      wtm_at "rd"
      refine ⟨c, ns, d, N, rfl, SqT.of hc, h64, by omega, by omega, fun G1 s1 => ?_⟩
      refine ⟨_, rfl, ite2 (fun hy => no s1 fun j => ?_) (fun hy => ⟨s1, by omega, ?_, rfl⟩)⟩
      · have : decide (d * N ≤ cutS ns N) = true := decide_eq_true j.most.2.1
        rw [this] at hy; cases hy
      · show d * N ≤ cutS ns N
        cases e : decide (d * N ≤ cutS ns N) with
        | true => exact of_decide_eq_true e
        | false => exact absurd (by rw [e]; rfl) hy
    rintro σ' G ⟨sG, n0, en, rfl⟩
    refine ⟨fun σ' G' => L2.Same H G' ∧ ¬ Enough ns d (N + 1) ∧ σ' = [some (.ref c), some (.int d), some (.ref r), some (.int N), some (.ref t)], ?_, ?_⟩
    · wtm_at "rd"
      refine ⟨c, ns, d, N + 1, rfl, SqT.of (sG _ _ hc), h64, by omega, by omega, fun G1 s1 => ?_⟩
      have s01 := sG.trans s1
      refine ⟨_, rfl, ite2 (fun hy => no s01 fun j => j.most.2.2 (show d * (N + 1) ≤ cutS ns (N + 1) from of_decide_eq_true hy)) (fun hy => ⟨s01, fun z => hy (by rw [decide_eq_true_eq]; exact z), rfl⟩)⟩
    rintro σ' G1 ⟨sG1, nen, rfl⟩
    wtm_at "rd"
    refine ⟨c, t, ns, d, N, bs, rfl, sG1 _ _ hc, hw.tu (Tu.of sG1), h1, h64, hd, hd1, hbl, hcl, fun b G2 s2 hb => ?_⟩
    exact h b G2 (sG1.trans s2) (hb.trans ⟨fun z => jw_iff.mpr ⟨⟨n0, en, nen⟩, z⟩, fun z => (jw_iff.mp z).2⟩)
abbrev sAsked : Stmt := top 24
theorem scAsked : FnScope ["counts", "d", "told", "due", "found"] ["counts", "d", "told"] (defScope sAsked) := ⟨rfl, rfl, rfl, by decide +kernel, rfl, by decide +kernel, by decide +kernel⟩
def spAsked (K : PySem.W.Frag) : Sp := fun vs H Q _ => ∃ (c r : Addr) (ns : List Int) (d N : Int) (bs : List (List Int × Int)), vs = [.ref c, .int d, .ref r] ∧ Ask K H c r ns d N bs ∧ ∀ H', L2.Same H H' → Q (.bl true) H'
theorem ok_asked {f : Addr} {fd : FuncData} (F : Fun K "_law_asked" "_law_asked" sAsked f fd) (cL : Callee CX0 P w K mg base "_law_right" 2 ["counts", "d", "told"] (spRight K)) (cR : Callee CX0 P w K mg base "wheel_right" 3 ["counts", "d", "told"] (spRight K)) (mI : mg "isinstance" = none) (mB : mg "bool" = none) : FnOk P w K mg base CX0 4 f fd ["counts", "d", "told"] (spAsked K) := by
 refine Br.Fun.j F scAsked (fun vs H Q E h => ?_) (fun cdv A outer s H vs Q E hr h => ?_)
 · obtain ⟨_, _, _, _, _, _, rfl, _⟩ := h; rfl
 · obtain ⟨c, r, ns, d, N, bs, rfl, ask, h⟩ := h
   have nd := scAsked.nd
   refine' ⟨_, ?d, ?r⟩
   case d => wtm_at "body"
   case r =>
    wtm_at "rd"
    refine ⟨c, r, ns, d, N, bs, rfl, ask, fun b1 H1 s1 e1 => ?_⟩
    wtm_at "rd"
    refine ⟨c, r, ns, d, N, bs, rfl, ask.same (Tu.of s1), fun b2 H2 s2 e2 => ?_⟩
    have e : b1 = b2 := by rw [Bool.eq_iff_iff]; exact e1.trans e2.symm
    subst e
    wtm_at "rd"
    refine .inl ⟨_, _, _, _, rfl, .of (TyOf.bl _), rfl, ?_⟩
    refine ⟨_, rfl, iteT ?_⟩
    wtm_at "rd"
    refine ⟨rfl, ?_⟩
    rw [decide_eq_true rfl]
    exact h H2 (s1.trans s2)
end
theorem nin {p b : Addr} (hb : b ≠ p) : b ∉ [p] := fun z => hb (List.mem_singleton.mp z)
theorem Pot.ne {H : Hp} {p b : Addr} (h : Pot H p) (e : H b = none) : b ≠ p := fun z => by obtain ⟨_, q, _⟩ := h; rw [z, q] at e; cases e
theorem Pot.tn {H : Hp} {p b : Addr} {o : HO} (h : Pot H p) (e : H b = some o) (t : IsT o) : b ≠ p := fun z => by
 obtain ⟨_, q, _⟩ := h
 rw [z, q] at e
 rcases t with ⟨xs, t⟩ | ⟨ob, xs, t⟩ <;> (rw [t] at e; cases e)
theorem Tu.mo {p : Addr} {H H' : Hp} (hp : Pot H p) (m : Mo [p] H H') : Tu H H' := fun b o e x => m b o (nin (hp.tn e x)) e
theorem cutW {vs : List V} {lo hi : Option Int} (h : HT.sIx vs.length 0 lo = 0 ∧ HT.sIx vs.length vs.length hi = vs.length) : cutV vs lo hi = vs := by
 unfold cutV; rw [h.1, h.2, List.drop_zero, Nat.sub_zero, List.take_length]
theorem cutTk {vs : List V} {k : Nat} : cutV vs none (some (k : Int)) = vs.take k := by
 unfold cutV
 rw [HT.sIx_nat, HT.sIx_none, List.drop_zero, Nat.sub_zero]
 rcases Nat.le_total k vs.length with h | h
 · rw [Nat.min_eq_left h]
 · rw [Nat.min_eq_right h, List.take_length, List.take_of_length_le h]
theorem cutDp {vs : List V} {k : Nat} : cutV vs (some (k : Int)) none = vs.drop k := by
 unfold cutV
 rw [HT.sIx_nat, HT.sIx_none]
 rcases Nat.le_total k vs.length with h | h
 · rw [Nat.min_eq_left h, List.take_of_length_le (by rw [List.length_drop]; exact Nat.le_refl _)]
 · rw [Nat.min_eq_right h, Nat.sub_self, List.drop_of_length_le h]; rfl
theorem slT {K : PySem.W.Frag} {H : Hp} {Q : VK} {a : Addr} {zs : List V} {lo hi : Option Int} (ha : H a = some (.tup zs)) (k : ∀ (b : Addr) (H' : Hp), L2.Same H H' → H' b = some (.tup (cutV zs lo hi)) → Q (.ref b) H') : rSlW K (.ref a) lo hi H Q :=
 ⟨a, zs, rfl, SqT.of ha, fun z => k a H (L2.Same.refl _) (by rw [cutW z]; exact ha), fun _ p H2 _ s e => k p H2 s e⟩
theorem slS {K : PySem.W.Frag} {H : Hp} {Q : VK} {a : Addr} {zs : List V} {lo hi : Option Int} (ha : SqT K H a zs) (k : ∀ (b : Addr) (H' : Hp), L2.Same H H' → SqT K H' b (cutV zs lo hi) → Q (.ref b) H') : rSlW K (.ref a) lo hi H Q :=
 ⟨a, zs, rfl, ha, fun z => k a H (L2.Same.refl _) (by rw [cutW z]; exact ha), fun _ p H2 _ s e => k p H2 s (SqT.of e)⟩
theorem atI_mem {xs : List V} {i : Int} (h0 : 0 ≤ i) (h1 : i < xs.length) : ∃ v, atI xs i = some v ∧ v ∈ xs := by
 have hl : i.toNat < xs.length := by omega
 have e : xs[i.toNat]? = some xs[i.toNat] := List.getElem?_eq_getElem hl
 have e2 := atI_nat e
 rw [Int.toNat_of_nonneg h0] at e2
 exact ⟨_, e2, List.getElem_mem hl⟩
section
local macro_rules | `(tactic| wtm_at "op") => `(tactic| apply o_addC)
local macro_rules | `(tactic| wtm_at "call") => `(tactic| first | (apply k_sortedB; (rfl); (rfl); (rfl); (wtm_at "K"); (with_reducible rfl); (assumption); (wtm_at "pa")))
local macro_rules | `(tactic| wtm_at "pe") => `(tactic| first
 | (apply k_slW; (wtm_at "K"); (wtm_at "pe"); (wtm_at "po"); (wtm_at "po"))
 | (apply k_revT; (wtm_at "K"); (wtm_at "pe"); (wtm_at "pe"))
 | fail)
variable {P : Program} {w : World} {K : PySem.W.Frag} {mg : Str → Option Value} {base : Heap}
abbrev sBy : Stmt := top 19
theorem scBy : FnScope ["pot"] ["pot"] (defScope sBy) := ⟨rfl, rfl, rfl, by decide +kernel, rfl, by decide +kernel, by decide +kernel⟩
def spBy : Sp := fun vs H Q _ => ∃ p : Addr, vs = [.ref p] ∧ Pot H p ∧ ∀ (r : Int) (H' : Hp), Mo [p] H H' → Pot H' p → -(10 ^ 59) ≤ r → r ≤ 10 ^ 59 → Q (.int r) H'
theorem ok_by {f : Addr} {fd : FuncData} (F : Fun K "_law_by" "_law_by" sBy f fd) (cT : Callee CX0 P w K mg base "_law_take" 1 ["pot", "many"] spTake) : FnOk P w K mg base CX0 2 f fd ["pot"] spBy := by
 refine Br.Fun.j F scBy (fun vs H Q E h => ?_) (fun cdv A outer s H vs Q E hr h => ?_)
 · obtain ⟨_, rfl, _⟩ := h; rfl
 · obtain ⟨p, rfl, hp, h⟩ := h
   have nd := scBy.nd
   have hsz : (sizeLine : Nat) = 16777216 := sizeLine_eq
   refine' ⟨_, ?d, ?r⟩
   case d => wtm_at "body"
   case r =>
    wtm_at "rd"
    refine ⟨lenLe (n := 5) rfl (by decide), fun l H1 nl s1 e1 => ?_⟩
    refine ⟨_, rfl, p, 5, rfl, hp.same s1, by decide, by decide, fun r H2 m2 p2 a5 b5 => ?_⟩
    have e59 : (10 : Int) ^ Int.toNat 59 = 10 ^ 59 := by decide
    obtain ⟨v, hv, hm⟩ := K75.atI_mem a5 (show r < ([V.int 1, V.int (-1), V.int 2, V.int (-10 ^ Int.toNat 59), V.int (10 ^ Int.toNat 59)].length : Int) from b5)
    refine .inl ⟨l, _, _, _, rfl, rfl, SqL.of (m2 _ _ (nin (hp.ne nl)) e1), hv, ?_⟩
    have m := (Mo.of (ps := [p]) s1).trans m2
    simp only [List.mem_cons, List.not_mem_nil, or_false] at hm
    rcases hm with rfl | rfl | rfl | rfl | rfl
    · exact h _ H2 m p2 (by decide) (by decide)
    · exact h _ H2 m p2 (by decide) (by decide)
    · exact h _ H2 m p2 (by decide) (by decide)
    · exact h _ H2 m p2 (by decide) (by decide)
    · exact h _ H2 m p2 (by decide) (by decide)
abbrev sCol : Stmt := top 20
theorem scCol : FnScope ["pot", "colours", "at", "way"] ["pot", "colours"] (defScope sCol) := ⟨rfl, rfl, rfl, by decide +kernel, rfl, by decide +kernel, by decide +kernel⟩
def spCol : Sp := fun vs H Q _ => ∃ (p a : Addr) (cs : List Int), vs = [.ref p, .ref a] ∧ Pot H p ∧ H a = some (.tup (cs.map V.int)) ∧ cs.length ≤ 50 ∧ ∀ (a' : Addr) (cs' : List Int) (H' : Hp), Mo [p] H H' → Pot H' p → H' a' = some (.tup (cs'.map V.int)) → cs'.length ≤ cs.length + 1 → Q (.ref a') H'
theorem ok_col {f : Addr} {fd : FuncData} (F : Fun K "_law_colours" "_law_colours" sCol f fd) (cT : Callee CX0 P w K mg base "_law_take" 1 ["pot", "many"] spTake) (cB : Callee CX0 P w K mg base "_law_by" 2 ["pot"] spBy) (mL : mg "len" = none) (mS : mg "sorted" = none) (mT : mg "tuple" = none) : FnOk P w K mg base CX0 3 f fd ["pot", "colours"] spCol := by
 refine Br.Fun.j F scCol (fun vs H Q E h => ?_) (fun cdv A outer s H vs Q E hr h => ?_)
 · obtain ⟨_, _, _, rfl, _⟩ := h; rfl
 · obtain ⟨p, a, cs, rfl, hp, ha, hl, h⟩ := h
   have nd := scCol.nd
   have hsz : (sizeLine : Nat) = 16777216 := sizeLine_eq
   refine' ⟨_, ?d, ?r⟩
   case d => wtm_at "body"
   case r =>
    wtm_at "rd"
    refine .inl ⟨a, _, rfl, .inr (SqT.of ha), ?_⟩
    wtm_at "rd"
    refine ⟨hp, by omega, by rw [List.length_map]; omega, fun at' H1 m1 p1 a0 a1 => ?_⟩
    rw [List.length_map] at a1
    have ha1 := Tu.mo hp m1 _ _ ha (.inl ⟨_, rfl⟩)
    refine ⟨_, rfl, p, 4, rfl, p1, by decide, by decide, fun wy H2 m2 p2 w0 w1 => ?_⟩
    have ha2 := Tu.mo p1 m2 _ _ ha1 (.inl ⟨_, rfl⟩)
    have m12 := m1.trans m2
    obtain ⟨k, rfl⟩ := Int.eq_ofNat_of_zero_le a0
    refine ⟨fun σ' G => G = H2 ∧ σ' = [some (.ref p), some (.ref a), some (.int k), some (.int wy)], ?_, ?_⟩
    · refine ⟨_, rfl, rfl, _, rfl, ite2 (fun _ => ?_) (fun _ => ⟨rfl, rfl⟩)⟩
      refine ⟨_, rfl, ?_⟩
      wtm_at "rd"
      refine .inl ⟨a, _, rfl, .inr (SqT.of ha2), ?_⟩
      refine ⟨_, _, rfl, rfl, _, rfl, ite2 (fun hk => ?_) (fun _ => ⟨rfl, rfl⟩)⟩
      rw [List.length_map, decide_eq_true_eq] at hk
      have hk : k < cs.length := by omega
      refine ⟨_, rfl, ?_⟩
      wtm_at "rd"
      refine slT ha2 fun s1 G1 t1 f1 => ?_
      rw [cutTk, ← List.map_take] at f1
      refine ⟨_, rfl, _, rfl, ?_⟩
      refine .inr (.inl ⟨a, _, _, _, rfl, rfl, SqT.of (t1 _ _ ha2), atI_nat (by rw [List.getElem?_map, List.getElem?_eq_getElem hk]; rfl), ?_⟩)
      refine ⟨_, rfl, p, rfl, p2.same t1, fun r G2 m3 p3 r0 r1 => .inl ⟨_, _, rfl, rfl, ?_⟩⟩
      refine ⟨lenLe (n := 1) rfl (by decide), fun s4 G3 n4 t4 f4 => ?_⟩
      have tG := Tu.mo (p2.same t1) m3
      have f1' := t4 _ _ (tG _ _ f1 (.inl ⟨_, rfl⟩))
      refine .inr (.inr ⟨s1, s4, _, _, rfl, rfl, f1', f4, by rw [hsz, List.length_map, List.length_take]; simp only [List.length_cons, List.length_nil]; omega, fun s5 G4 t5 f5 => ?_⟩)
      refine ⟨_, rfl, ?_⟩
      wtm_at "rd"
      have ha5 := t5 _ _ (t4 _ _ (tG _ _ (t1 _ _ ha2) (.inl ⟨_, rfl⟩)))
      unfold tNoPart
      refine slT ha5 fun s6 G5 t6 f6 => ?_
      rw [show ((k : Int) + 1) = ((k + 1 : Nat) : Int) by omega, cutDp, ← List.map_drop] at f6
      refine .inr (.inr ⟨s5, s6, _, _, rfl, rfl, t6 _ _ f5, f6, by rw [hsz, List.length_append, List.length_map, List.length_map, List.length_take, List.length_drop]; simp only [List.length_cons, List.length_nil]; omega, fun s7 G6 t7 f7 => ?_⟩)
      have f7 : G6 s7 = some (.tup (((cs.take k ++ [cs[k] + r]) ++ cs.drop (k + 1)).map V.int)) := by rw [f7, List.map_append, List.map_append]; rfl
      have t47 := t4.trans (t5.trans (t6.trans t7))
      exact h s7 _ G6 (m12.trans ((Mo.of t1).trans (m3.trans (Mo.of t47)))) (p3.same t47) f7 (by rw [List.length_append, List.length_append, List.length_take, List.length_drop]; simp only [List.length_cons, List.length_nil]; omega)
    rintro σ' G ⟨rfl, rfl⟩
    refine ⟨fun σ' G' => G' = G ∧ σ' = [some (.ref p), some (.ref a), some (.int k), some (.int wy)], ?_, ?_⟩
    · refine ⟨_, rfl, rfl, _, rfl, ite2 (fun _ => ?_) (fun _ => ⟨rfl, rfl⟩)⟩
      refine ⟨_, rfl, ?_⟩
      wtm_at "rd"
      refine ⟨p2, by decide, by decide, fun r G1 m3 p3 r0 r1 => ?_⟩
      wtm_at "rd"
      refine ⟨lenLe (n := 1) rfl (by decide), fun t1 G2 nt1 q1 f1 => ?_⟩
      have ha3 := q1 _ _ (Tu.mo p2 m3 _ _ ha2 (.inl ⟨_, rfl⟩))
      refine .inr (.inr ⟨a, t1, _, _, rfl, rfl, ha3, f1, by rw [hsz, List.length_map]; simp only [List.length_cons, List.length_nil]; omega, fun s3 G3 q3 f3 => ?_⟩)
      have f3 : G3 s3 = some (.tup ((cs ++ [r - 1]).map V.int)) := by rw [f3, List.map_append]; rfl
      refine ⟨s3, _, rfl, .inr (SqT.of f3), by rw [List.length_append]; simp only [List.length_cons, List.length_nil]; omega, fun l4 ms G4 n4 q4 f4 pm pw => ?_⟩
      refine ⟨l4, _, rfl, SqL.of f4, fun tt G5 n5 q5 f5 => ?_⟩
      have q15 := q1.trans (q3.trans (q4.trans q5))
      exact h tt _ G5 (m12.trans (m3.trans (Mo.of q15))) (p3.same q15) f5 (by rw [pm.length_eq, List.length_append]; exact Nat.le_refl _)
    rintro σ' G ⟨rfl, rfl⟩
    refine ⟨fun σ' G' => G' = G ∧ σ' = [some (.ref p), some (.ref a), some (.int k), some (.int wy)], ?_, ?_⟩
    · refine ⟨_, rfl, rfl, _, rfl, ite2 (fun _ => ?_) (fun _ => ⟨rfl, rfl⟩)⟩
      refine ⟨_, rfl, ?_⟩
      wtm_at "rd"
      refine slT ha2 fun s1 G1 t1 f1 => ?_
      rw [cutTk, ← List.map_take] at f1
      refine ⟨_, rfl, ?_⟩
      wtm_at "rd"
      unfold tNoPart
      refine slT (t1 _ _ ha2) fun s2 G2 t2 f2 => ?_
      rw [show ((k : Int) + 1) = ((k + 1 : Nat) : Int) by omega, cutDp, ← List.map_drop] at f2
      refine .inr (.inr ⟨s1, s2, _, _, rfl, rfl, t2 _ _ f1, f2, by rw [hsz, List.length_map, List.length_map, List.length_take, List.length_drop]; omega, fun s3 G3 t3 f3 => ?_⟩)
      rw [← List.map_append] at f3
      exact h s3 _ G3 (m12.trans (Mo.of (t1.trans (t2.trans t3)))) (p2.same (t1.trans (t2.trans t3))) f3 (by rw [List.length_append, List.length_take, List.length_drop]; omega)
    rintro σ' G ⟨rfl, rfl⟩
    refine ⟨_, rfl, ?_⟩
    wtm_at "rd"
    refine ⟨a, _, rfl, rfl, SqT.of ha2, fun b G1 nb t1 f1 => ?_⟩
    rw [← List.map_reverse] at f1
    exact h b _ G1 (m12.trans (Mo.of t1)) (p2.same t1) f1 (by rw [List.length_reverse]; omega)
end
theorem Lots.append {H : Hp} {vs us : List V} {bs cs : List (List Int × Int)} (a : Lots H vs bs) (b : Lots H us cs) : Lots H (vs ++ us) (bs ++ cs) := by
 have h1 := a.1
 have h2 := b.1
 refine ⟨by rw [List.length_append, List.length_append, h1, h2], fun i v e => ?_⟩
 rcases Nat.lt_or_ge i vs.length with h | h
 · rw [List.getElem?_append_left h] at e
   rw [List.getElem?_append_left (by omega)]; exact a.2 i v e
 · rw [List.getElem?_append_right h] at e
   rw [List.getElem?_append_right (by omega), ← h1]; exact b.2 _ v e
theorem Lots.take {H : Hp} {vs : List V} {bs : List (List Int × Int)} (a : Lots H vs bs) (k : Nat) : Lots H (vs.take k) (bs.take k) := by
 refine ⟨by rw [List.length_take, List.length_take, a.1], fun i v e => ?_⟩
 rw [List.getElem?_take] at e ⊢
 split at e
 · next h => rw [if_pos h]; exact a.2 i v e
 · cases e
theorem Lots.drop {H : Hp} {vs : List V} {bs : List (List Int × Int)} (a : Lots H vs bs) (k : Nat) : Lots H (vs.drop k) (bs.drop k) := by
 refine ⟨by rw [List.length_drop, List.length_drop, a.1], fun i v e => ?_⟩
 rw [List.getElem?_drop] at e ⊢
 exact a.2 _ v e
theorem Lots.one {H : Hp} {v : V} {q : List Int × Int} (h : Lotp H v q) : Lots H [v] [q] := Lots.snoc (vs := []) (fs := []) Lots.nil h
theorem Lots.set {H : Hp} {vs : List V} {bs : List (List Int × Int)} (a : Lots H vs bs) (k : Nat) {v : V} {q : List Int × Int} (h : Lotp H v q) : Lots H (vs.set k v) (bs.set k q) := by
 have h1 := a.1
 refine ⟨by rw [List.length_set, List.length_set, h1], fun i u e => ?_⟩
 rw [List.getElem?_set] at e ⊢
 by_cases z : k = i
 · rw [if_pos z] at e ⊢
   by_cases y : k < vs.length
   · rw [if_pos y] at e
     rw [if_pos (by omega)]
     cases e; exact ⟨q, rfl, h⟩
   · rw [if_neg y] at e; cases e
 · rw [if_neg z] at e ⊢; exact a.2 i u e
theorem Lots.prs {H : Hp} : ∀ {vs : List V} {bs : List (List Int × Int)}, Lots H vs bs → ∃ as : List Addr, vs = as.map V.ref ∧ PrsAt H as bs
 | [], bs, h => ⟨[], rfl, by have := h.1; exact ⟨this, fun i a e => by cases e⟩⟩
 | v :: vs, [], h => by have := h.1; cases this
 | v :: vs, q :: bs, h => by
  obtain ⟨q', e, r, c, rfl, h1, h2⟩ := h.2 0 v rfl
  cases e
  obtain ⟨as, e1, e2⟩ := Lots.prs (vs := vs) (bs := bs) ⟨by have := h.1; simpa using this, fun i u e => h.2 (i + 1) u (by simpa using e)⟩
  refine ⟨r :: as, by rw [e1]; rfl, by have := e2.1; simp [this], fun i a e => ?_⟩
  cases i with
  | zero => simp at e; subst e; exact ⟨q, c, rfl, h1, h2⟩
  | succ i => exact e2.2 i a (by simpa using e)
theorem Lots.of {H : Hp} {as : List Addr} {bs : List (List Int × Int)} (h : PrsAt H as bs) : Lots H (as.map V.ref) bs := by
 refine ⟨by rw [List.length_map]; exact h.1, fun i v e => ?_⟩
 rw [List.getElem?_map] at e
 obtain ⟨a, ha, rfl⟩ := Option.map_eq_some_iff.mp e
 obtain ⟨q, c, h1, h2, h3⟩ := h.2 i a ha
 exact ⟨q, h1, a, c, rfl, h2, h3⟩
def Szd (L : Nat) (B : Int) (bs : List (List Int × Int)) : Prop := bs.length ≤ L ∧ ∀ q ∈ bs, q.1.length ≤ L ∧ -B ≤ q.2 ∧ q.2 ≤ B
theorem ixNn {m n : Nat} (h : n < m) : L2.ixN m (n : Int) = some n := by
 unfold L2.ixN
 rw [if_pos (by omega), if_pos (by omega)]
 rfl
theorem cutOne {vs : List V} {k : Nat} (h : k < vs.length) : cutV vs (some (k : Int)) (some ((k : Int) + 1)) = (vs.drop k).take 1 := by
 unfold cutV
 rw [show ((k : Int) + 1) = ((k + 1 : Nat) : Int) by omega, HT.sIx_nat, HT.sIx_nat, Nat.min_eq_left (by omega), Nat.min_eq_left (by omega), show k + 1 - k = 1 by omega]
section
local macro_rules | `(tactic| wtm_at "op") => `(tactic| (apply k_addA; wtm_at "K"))
local macro_rules | `(tactic| wtm_at "call") => `(tactic| first | (apply k_sortedPs; (assumption); (rfl); (rfl); (rfl); (wtm_at "K"); (with_reducible rfl); (assumption); (wtm_at "pa")))
local macro_rules | `(tactic| wtm_at "ps") => `(tactic| first
 | (apply s_swapIx; (wtm_at "K"); (rfl); (rfl); (rfl); (rfl); (rfl); (rfl); (rfl); (rfl); (intro _; rfl); (intro _; rfl); (wtm_at "pe"); (wtm_at "pe"); (wtm_at "pe"); (wtm_at "pe"); (wtm_at "pe"))
 | fail)
local macro_rules | `(tactic| wtm_at "pe") => `(tactic| first
 | (apply k_slW; (wtm_at "K"); (wtm_at "pe"); (wtm_at "po"); (wtm_at "po"))
 | fail)
variable {P : Program} {w : World} {K : PySem.W.Frag} {mg : Str → Option Value} {base : Heap}
abbrev sPrs : Stmt := top 21
theorem scPrs : FnScope ["pot", "pairs", "at", "other", "colours", "times", "way", "some", "other_times", "by", "other_pair"] ["pot", "pairs"] (defScope sPrs) := ⟨rfl, rfl, rfl, by decide +kernel, rfl, by decide +kernel, by decide +kernel⟩
def spPrs (K : PySem.W.Frag) : Sp := fun vs H Q _ => ∃ (p t : Addr) (bs : List (List Int × Int)) (L : Nat) (B : Int), vs = [.ref p, .ref t] ∧ Pot H p ∧ FillAt K H t bs ∧ bs ≠ [] ∧ Szd L B bs ∧ L ≤ 45 ∧ 10 ^ 60 ≤ B ∧ B ≤ 10 ^ 70 ∧ ∀ (t' : Addr) (bs' : List (List Int × Int)) (H' : Hp), Mo [p] H H' → Pot H' p → FillAt K H' t' bs' → Szd (L + 1) (10 * B) bs' → Q (.ref t') H'
theorem ok_prs {f : Addr} {fd : FuncData} (F : Fun K "_law_pairs" "_law_pairs" sPrs f fd) (cT : Callee CX0 P w K mg base "_law_take" 1 ["pot", "many"] spTake) (cB : Callee CX0 P w K mg base "_law_by" 2 ["pot"] spBy) (cC : Callee CX0 P w K mg base "_law_colours" 3 ["pot", "colours"] spCol) (mL : mg "len" = none) (mS : mg "sorted" = none) (mT : mg "tuple" = none) (mLi : mg "list" = none) (mM : mg "max" = none) : FnOk P w K mg base CX0 4 f fd ["pot", "pairs"] (spPrs K) := by
 refine Br.Fun.j F scPrs (fun vs H Q E h => ?_) (fun cdv A outer s H vs Q E hr h => ?_)
 · obtain ⟨_, _, _, _, _, rfl, _⟩ := h; rfl
 · obtain ⟨p, t, bs, L, B, rfl, hp, hf, hne, ⟨hL, hq⟩, hL40, hB0, hB1, h⟩ := h
   have nd := scPrs.nd
   have hsz : (sizeLine : Nat) = 16777216 := sizeLine_eq
   refine' ⟨_, ?d, ?r⟩
   case d => wtm_at "body"
   case r =>
    have hbp : 0 < bs.length := List.length_pos_iff.mpr hne
    obtain ⟨vs, eT, lv⟩ := hf
    have lvl := lv.1
    have moT : ∀ {G G' : Hp} {s : Addr} {xs : List V}, Pot G p → Mo [p] G G' → SqT K G s xs → SqT K G' s xs := fun hp m e => Tp.tu e (Tu.mo hp m)
    wtm_at "rd"
    refine .inl ⟨t, _, rfl, .inr eT, ?_⟩
    wtm_at "rd"
    refine ⟨hp, by omega, by omega, fun at' H1 m1 p1 a0 a1 => ?_⟩
    wtm_at "rd"
    refine .inl ⟨t, _, rfl, .inr (moT hp m1 eT), ?_⟩
    wtm_at "rd"
    refine ⟨p1, by omega, by omega, fun ot H2 m2 p2 o0 o1 => ?_⟩
    have m12 := m1.trans m2
    have eT2 := moT hp m12 eT
    have lv2 := lv.tu (Tu.mo hp m12)
    obtain ⟨i, rfl⟩ := Int.eq_ofNat_of_zero_le a0
    obtain ⟨j, rfl⟩ := Int.eq_ofNat_of_zero_le o0
    have hi : i < vs.length := by omega
    have hj : j < vs.length := by omega
    have ei : vs[i]? = some vs[i] := List.getElem?_eq_getElem hi
    have ej : vs[j]? = some vs[j] := List.getElem?_eq_getElem hj
    have ai := atI_nat ei
    have aj := atI_nat ej
    generalize vs[i] = vi at ei ai
    generalize vs[j] = vj at ej aj
    obtain ⟨q, hqi, r, cc, rfl, er, ec⟩ := lv2.2 i vi ei
    obtain ⟨q', hqj, r', cc', rfl, er', ec'⟩ := lv2.2 j vj ej
    have bq := hq q (List.mem_of_getElem? hqi)
    have bq' := hq q' (List.mem_of_getElem? hqj)
    wtm_at "rd"
    refine .inr (.inl ⟨t, _, _, _, rfl, rfl, eT2, ai, ?_⟩)
    refine ⟨r, _, rfl, SqT.of er, rfl, _, _, rfl, _, _, rfl, rfl, ?_⟩
    wtm_at "rd"
    refine ⟨p2, by decide, by decide, fun wy H3 m3 p3 w0 w1 => ?_⟩
    have m13 := m12.trans m3
    have eT3 := moT p2 m3 eT2
    have lv3 := lv2.tu (Tu.mo p2 m3)
    have tu3 := Tu.mo p2 m3
    have er3 := tu3 _ _ er (.inl ⟨_, rfl⟩)
    have ec3 := tu3 _ _ ec (.inl ⟨_, rfl⟩)
    have er3' := tu3 _ _ er' (.inl ⟨_, rfl⟩)
    have ec3' := tu3 _ _ ec' (.inl ⟨_, rfl⟩)
    clear m1 m2 m3 eT eT2 lv lv2 tu3 er ec er' ec'
    have fin : ∀ {G : Hp} {t' : Addr} {vs' : List V} {bs' : List (List Int × Int)}, Mo [p] H3 G → Pot G p → SqT K G t' vs' → Lots G vs' bs' → bs'.length ≤ L + 1 → (∀ x ∈ bs', x ∈ bs ∨ (x.1.length ≤ L + 1 ∧ -(10 * B) ≤ x.2 ∧ x.2 ≤ 10 * B)) → Q (.ref t') G := fun {G t' vs' bs'} m pG e l hl hx => by
     refine h t' bs' G (m13.trans m) pG ⟨vs', e, l⟩ ⟨hl, fun x hxm => ?_⟩
     rcases hx x hxm with z | z
     · have := hq x z; omega
     · exact z
    have sm : ∀ {G : Hp} {s : Addr} {xs : List V}, L2.Same H3 G → SqT K H3 s xs → SqT K G s xs := fun s e => Tp.same e s
    refine ⟨fun σ' G => G = H3 ∧ σ' = [some (.ref p), some (.ref t), some (.int i), some (.int j), some (.ref cc), some (.int q.2), some (.int wy), none, none, none, none], ?_, ?_⟩
    · refine ⟨_, rfl, rfl, _, rfl, ite2 (fun _ => ?_) (fun _ => ⟨rfl, rfl⟩)⟩
      refine ⟨_, rfl, ?_⟩
      wtm_at "rd"
      refine slS eT3 fun s1 G1 t1 f1 => ?_
      rw [cutTk] at f1
      refine ⟨_, rfl, ?_⟩
      wtm_at "rd"
      unfold tNoPart
      refine slS (sm t1 eT3) fun s2 G2 t2 f2 => ?_
      rw [show ((i : Int) + 1) = ((i + 1 : Nat) : Int) by omega, cutDp] at f2
      refine .inr (.inr ⟨s1, s2, _, _, rfl, rfl, Tp.same f1 t2, f2, by rw [hsz, List.length_take, List.length_drop]; omega, fun s3 G3 t3 f3 => ?_⟩)
      have t13 := t1.trans (t2.trans t3)
      refine fin (Mo.of t13) (p3.same t13) f3 (((lv3.take i).append (lv3.drop (i + 1))).tu (Tu.of t13)) (by rw [List.length_append, List.length_take, List.length_drop]; omega) fun x hx => .inl ?_
      exact (List.mem_append.mp hx).elim List.mem_of_mem_take List.mem_of_mem_drop
    rintro σ' G ⟨rfl, rfl⟩
    refine ⟨fun σ' G' => G' = G ∧ σ' = [some (.ref p), some (.ref t), some (.int i), some (.int j), some (.ref cc), some (.int q.2), some (.int wy), none, none, none, none], ?_, ?_⟩
    · refine ⟨_, rfl, rfl, _, rfl, ite2 (fun _ => ?_) (fun _ => ⟨rfl, rfl⟩)⟩
      refine ⟨_, rfl, ?_⟩
      wtm_at "rd"
      refine slS eT3 fun s1 G1 t1 f1 => ?_
      rw [cutTk] at f1
      refine ⟨_, rfl, ?_⟩
      wtm_at "rd"
      refine slS (sm t1 eT3) fun s2 G2 t2 f2 => ?_
      rw [cutOne hi] at f2
      refine .inr (.inr ⟨s1, s2, _, _, rfl, rfl, Tp.same f1 t2, f2, by rw [hsz, List.length_take, List.length_take, List.length_drop]; omega, fun s3 G3 t3 f3 => ?_⟩)
      refine ⟨_, rfl, ?_⟩
      wtm_at "rd"
      have t13 := t1.trans (t2.trans t3)
      unfold tNoPart
      refine slS (sm t13 eT3) fun s4 G4 t4 f4 => ?_
      rw [cutDp] at f4
      refine .inr (.inr ⟨s3, s4, _, _, rfl, rfl, Tp.same f3 t4, f4, by rw [hsz, List.length_append, List.length_take, List.length_take, List.length_drop]; omega, fun s5 G5 t5 f5 => ?_⟩)
      have t15 := t13.trans (t4.trans t5)
      refine fin (Mo.of t15) (p3.same t15) f5 ((((lv3.take i).append ((lv3.drop i).take 1)).append (lv3.drop i)).tu (Tu.of t15)) (by rw [List.length_append, List.length_append, List.length_take, List.length_take, List.length_drop]; omega) fun x hx => .inl ?_
      rcases List.mem_append.mp hx with z | z
      · exact (List.mem_append.mp z).elim List.mem_of_mem_take fun y => List.mem_of_mem_drop (List.mem_of_mem_take y)
      · exact List.mem_of_mem_drop z
    rintro σ' G ⟨rfl, rfl⟩
    refine ⟨fun σ' G' => G' = G ∧ σ' = [some (.ref p), some (.ref t), some (.int i), some (.int j), some (.ref cc), some (.int q.2), some (.int wy), none, none, none, none], ?_, ?_⟩
    · refine ⟨_, rfl, rfl, _, rfl, ite2 (fun _ => ?_) (fun _ => ⟨rfl, rfl⟩)⟩
      wtm_at "rd"
      refine ⟨t, _, rfl, .inr eT3, fun m G1 nm t1 f1 => ?_⟩
      wtm_at "rd"
      refine .inl ⟨m, _, _, _, rfl, rfl, SqL.of f1, aj, ?_⟩
      wtm_at "rd"
      refine .inl ⟨m, _, _, _, rfl, rfl, SqL.of f1, ai, ?_⟩
      refine ⟨lenLe (n := 2) rfl (by decide), fun b1 G2 n2 t2 f2 => ?_⟩
      refine ⟨b1, _, rfl, SqT.of f2, rfl, _, _, rfl, ?_⟩
      refine ⟨_, rfl, _, rfl, m, _, _, i, rfl, rfl, t2 _ _ f1, ixNn hi, ?_⟩
      refine ⟨_, _, rfl, _, rfl, _, rfl, m, _, _, j, rfl, rfl, upd_same, ixNn (by rw [List.length_set]; exact hj), rfl, ?_⟩
      refine ⟨_, rfl, m, _, rfl, SqL.of upd_same, fun tt G3 n3 t3 f3 => ?_⟩
      have t03 : L2.Same G G3 := fun b o e => t3 _ _ (by rw [upd_ne (ne_of_none e nm), upd_ne (ne_of_none e nm)]; exact t2 _ _ (t1 _ _ e))
      have hLi : Lotp G3 (.ref r) q := ⟨r, cc, rfl, t03 _ _ er3, t03 _ _ ec3⟩
      have hLj : Lotp G3 (.ref r') q' := ⟨r', cc', rfl, t03 _ _ er3', t03 _ _ ec3'⟩
      refine fin (Mo.of t03) (p3.same t03) (SqT.of f3) (((lv3.tu (Tu.of t03)).set i hLj).set j hLi) (by rw [List.length_set, List.length_set]; omega) fun x hx => .inl ?_
      rcases List.mem_or_eq_of_mem_set hx with z | z
      · rcases List.mem_or_eq_of_mem_set z with z | z
        · exact z
        · rw [z]; exact List.mem_of_getElem? hqj
      · rw [z]; exact List.mem_of_getElem? hqi
    rintro σ' G ⟨rfl, rfl⟩
    refine ⟨fun σ' G' => G' = G ∧ σ' = [some (.ref p), some (.ref t), some (.int i), some (.int j), some (.ref cc), some (.int q.2), some (.int wy), none, none, none, none], ?_, ?_⟩
    · refine ⟨_, rfl, rfl, _, rfl, ite2 (fun _ => ?_) (fun _ => ⟨rfl, rfl⟩)⟩
      wtm_at "rd"
      refine ⟨p3, fun rb G1 m4 p4 r0 r1 => ?_⟩
      wtm_at "rd"
      refine ⟨lenLe (n := 2) rfl (by decide), fun l2 G2 n2 t2 f2 => ?_⟩
      refine ⟨_, rfl, p, 2, rfl, p4.same t2, by decide, by decide, fun r2 G3 m5 p5 c0 c1 => ?_⟩
      obtain ⟨tm, htm, _, etm⟩ := atI_ints (zs := [q.2 + rb, 0]) (i := r2) (by omega) (by simp; omega)
      have htm' : -(10 * B) ≤ tm ∧ tm ≤ 10 * B := by
       simp only [List.mem_cons, List.not_mem_nil, or_false] at htm
       rcases htm with z | z <;> (rw [z]; omega)
      refine .inl ⟨l2, _, _, _, rfl, rfl, SqL.of (m5 _ _ (nin (p4.ne n2)) f2), etm, ?_⟩
      have m35 : Mo [p] G G3 := m4.trans ((Mo.of t2).trans m5)
      have tuG := Tu.mo p3 m35
      have eT5 := moT p3 m35 eT3
      refine ⟨_, rfl, ?_⟩
      wtm_at "rd"
      refine slS eT5 fun s1 G4 t4 f4 => ?_
      rw [cutTk] at f4
      refine ⟨_, rfl, _, rfl, lenLe (n := 2) rfl (by decide), fun pr G5 n5 t5 f5 => ?_⟩
      refine ⟨lenLe (n := 1) rfl (by decide), fun tp G6 n6 t6 f6 => ?_⟩
      refine .inr (.inr ⟨s1, tp, _, _, rfl, rfl, Tp.same f4 (t5.trans t6), SqT.of f6, by rw [hsz, List.length_take]; simp only [List.length_cons, List.length_nil]; omega, fun s7 G7 t7 f7 => ?_⟩)
      refine ⟨_, rfl, ?_⟩
      wtm_at "rd"
      have t47 := t4.trans (t5.trans (t6.trans t7))
      unfold tNoPart
      refine slS (Tp.same eT5 t47) fun s8 G8 t8 f8 => ?_
      rw [show ((i : Int) + 1) = ((i + 1 : Nat) : Int) by omega, cutDp] at f8
      refine .inr (.inr ⟨s7, s8, _, _, rfl, rfl, Tp.same f7 t8, f8, by rw [hsz, List.length_append, List.length_take, List.length_drop]; simp only [List.length_cons, List.length_nil]; omega, fun s9 G9 t9 f9 => ?_⟩)
      have t49 := t47.trans (t8.trans t9)
      have tu9 : Tu G G9 := tuG.trans (Tu.of t49)
      have hLn : Lotp G9 (.ref pr) (q.1, tm) := ⟨pr, cc, rfl, (t6.trans (t7.trans (t8.trans t9))) _ _ f5, tu9 _ _ ec3 (.inl ⟨_, rfl⟩)⟩
      refine fin (m35.trans (Mo.of t49)) (p5.same t49) f9 ((((lv3.tu tu9).take i).append (Lots.one hLn)).append ((lv3.tu tu9).drop (i + 1))) (by rw [List.length_append, List.length_append, List.length_take, List.length_drop]; simp only [List.length_cons, List.length_nil]; omega) fun x hx => ?_
      rcases List.mem_append.mp hx with z | z
      · rcases List.mem_append.mp z with z | z
        · exact .inl (List.mem_of_mem_take z)
        · rw [List.mem_singleton.mp z]; exact .inr ⟨by show q.1.length ≤ _; omega, htm'⟩
      · exact .inl (List.mem_of_mem_drop z)
    rintro σ' G ⟨rfl, rfl⟩
    refine ⟨fun σ' G' => G' = G ∧ σ' = [some (.ref p), some (.ref t), some (.int i), some (.int j), some (.ref cc), some (.int q.2), some (.int wy), none, none, none, none], ?_, ?_⟩
    · refine ⟨_, rfl, rfl, _, rfl, ite2 (fun _ => ?_) (fun _ => ⟨rfl, rfl⟩)⟩
      refine ⟨_, rfl, _, rfl, rfl, _, rfl, ite2 (fun hij => ?_) (fun _ => ⟨rfl, rfl⟩)⟩
      have hij : i ≠ j := fun z => by rw [z] at hij; simp at hij
      wtm_at "rd"
      refine ⟨t, _, rfl, .inr eT3, fun m G1 nm t1 f1 => ?_⟩
      wtm_at "rd"
      refine ⟨p3.same t1, by split <;> omega, by split <;> omega, fun rb G2 m4 p4 r0 r1 => .inl ⟨_, _, rfl, rfl, ?_⟩⟩
      have hrb : 0 ≤ rb ∧ rb < B := by
       refine ⟨r0, ?_⟩
       revert r1; split <;> (intro r1; omega)
      have m34 : Mo [p] G G2 := (Mo.of t1).trans m4
      have tu4 := Tu.mo p3 m34
      have f2 := m4 _ _ (nin (p3.ne nm)) f1
      refine ⟨_, rfl, ?_⟩
      wtm_at "rd"
      refine ⟨lenLe (n := 2) rfl (by decide), fun b1 G3 n3 t3 f3 => ?_⟩
      refine ⟨_, rfl, _, rfl, m, _, _, i, rfl, rfl, t3 _ _ f2, ixNn hi, ?_⟩
      have ej2 : (vs.set i (V.ref b1))[j]? = some (.ref r') := by rw [List.getElem?_set_ne hij]; exact ej
      have b1m : b1 ≠ m := fun z => by rw [z, f2] at n3; cases n3
      have hne : ∀ b o, G b = some o → b ≠ m := fun b o e => ne_of_none e nm
      have er4 : (upd G3 m (.lst (vs.set i (V.ref b1)))) r' = some (.tup [.ref cc', .int q'.2]) := by rw [upd_ne (hne _ _ er3')]; exact t3 _ _ (tu4 _ _ er3' (.inl ⟨_, rfl⟩))
      wtm_at "rd"
      refine .inl ⟨m, _, _, _, rfl, rfl, SqL.of upd_same, atI_nat ej2, ?_⟩
      wtm_at "rd"
      refine .inr (.inl ⟨r', _, 0, _, rfl, rfl, SqT.of er4, (show atI [V.ref cc', V.int q'.2] 0 = some (.ref cc') from rfl), ?_⟩)
      refine ⟨_, rfl, ?_⟩
      wtm_at "rd"
      refine .inl ⟨m, _, _, _, rfl, rfl, SqL.of upd_same, atI_nat ej2, ?_⟩
      wtm_at "rd"
      refine .inr (.inl ⟨r', _, 1, _, rfl, rfl, SqT.of er4, (show atI [V.ref cc', V.int q'.2] 1 = some (.int q'.2) from rfl), ?_⟩)
      refine ⟨_, rfl, .inl ⟨_, _, rfl, rfl, ?_⟩⟩
      refine ⟨lenLe (n := 2) rfl (by decide), fun b2 G4 n4 t4 f4 => ?_⟩
      refine ⟨_, rfl, _, rfl, m, _, _, j, rfl, rfl, t4 _ _ upd_same, ixNn (by rw [List.length_set]; exact hj), ?_⟩
      refine ⟨_, rfl, m, _, rfl, SqL.of upd_same, fun tt G5 n5 t5 f5 => ?_⟩
      have b2m : b2 ≠ m := fun z => by rw [z, upd_same] at n4; cases n4
      have k4 : ∀ b o, b ≠ m → G3 b = some o → G5 b = some o := fun b o nb e => t5 _ _ (by rw [upd_ne nb]; exact t4 _ _ (by rw [upd_ne nb]; exact e))
      have m05 : Mo [p] G G5 := fun b o nb e => k4 b o (hne b o e) (t3 _ _ (m34 b o nb e))
      have tu5 : Tu G G5 := Tu.mo p3 m05
      have p5 : Pot G5 p := let ⟨x, e, x0⟩ := p4; ⟨x, k4 _ _ (Ne.symm (p3.ne nm)) (t3 _ _ e), x0⟩
      have hLi : Lotp G5 (.ref b1) (q.1, q.2 - (1 + rb)) := ⟨b1, cc, rfl, k4 _ _ b1m f3, tu5 _ _ ec3 (.inl ⟨_, rfl⟩)⟩
      have hLj : Lotp G5 (.ref b2) (q'.1, q'.2 + (1 + rb)) := ⟨b2, cc', rfl, t5 _ _ (by rw [upd_ne b2m]; exact f4), tu5 _ _ ec3' (.inl ⟨_, rfl⟩)⟩
      refine fin m05 p5 (SqT.of f5) (((lv3.tu tu5).set i hLi).set j hLj) (by rw [List.length_set, List.length_set]; omega) fun x hx => ?_
      rcases List.mem_or_eq_of_mem_set hx with z | z
      · rcases List.mem_or_eq_of_mem_set z with z | z
        · exact .inl z
        · rw [z]; exact .inr ⟨by show q.1.length ≤ _; omega, by show _ ≤ q.2 - (1 + rb); omega, by show q.2 - (1 + rb) ≤ _; omega⟩
      · rw [z]; exact .inr ⟨by show q'.1.length ≤ _; omega, by show _ ≤ q'.2 + (1 + rb); omega, by show q'.2 + (1 + rb) ≤ _; omega⟩
    rintro σ' G ⟨rfl, rfl⟩
    wtm_at "rd"
    refine ⟨p, cc, q.1, rfl, p3, ec3, by omega, fun c2 cs2 G1 m4 p4 f4 hl2 => ?_⟩
    have tu4 := Tu.mo p3 m4
    have eT4 := moT p3 m4 eT3
    refine ⟨_, rfl, lenLe (n := 2) rfl (by decide), fun pr G2 n2 t2 f2 => ?_⟩
    refine ⟨_, rfl, ?_⟩
    wtm_at "rd"
    refine slS (Tp.same eT4 t2) fun s1 G4 t4 g4 => ?_
    rw [cutTk] at g4
    refine ⟨_, rfl, lenLe (n := 1) rfl (by decide), fun tp G6 n6 t6 f6 => ?_⟩
    refine .inr (.inr ⟨s1, tp, _, _, rfl, rfl, Tp.same g4 t6, SqT.of f6, by rw [hsz, List.length_take]; simp only [List.length_cons, List.length_nil]; omega, fun s7 G7 t7 f7 => ?_⟩)
    refine ⟨_, rfl, ?_⟩
    wtm_at "rd"
    have t27 := t2.trans (t4.trans (t6.trans t7))
    unfold tNoPart
    refine slS (Tp.same eT4 t27) fun s8 G8 t8 f8 => ?_
    rw [show ((i : Int) + 1) = ((i + 1 : Nat) : Int) by omega, cutDp] at f8
    refine .inr (.inr ⟨s7, s8, _, _, rfl, rfl, Tp.same f7 t8, f8, by rw [hsz, List.length_append, List.length_take, List.length_drop]; simp only [List.length_cons, List.length_nil]; omega, fun s9 G9 t9 f9 => ?_⟩)
    have t29 := t27.trans (t8.trans t9)
    have t49 := t4.trans (t6.trans (t7.trans (t8.trans t9)))
    have tu9 : Tu G G9 := tu4.trans (Tu.of t29)
    have hLn : Lotp G9 (.ref pr) (cs2, q.2) := ⟨pr, c2, rfl, t49 _ _ f2, (t2.trans t49) _ _ f4⟩
    have LL := (((lv3.tu tu9).take i).append (Lots.one hLn)).append ((lv3.tu tu9).drop (i + 1))
    have hln : (bs.take i ++ [(cs2, q.2)] ++ bs.drop (i + 1)).length ≤ L + 1 := by
     rw [List.length_append, List.length_append, List.length_take, List.length_drop]; simp only [List.length_cons, List.length_nil]; omega
    have hmem : ∀ x ∈ bs.take i ++ [(cs2, q.2)] ++ bs.drop (i + 1), x ∈ bs ∨ (x.1.length ≤ L + 1 ∧ -(10 * B) ≤ x.2 ∧ x.2 ≤ 10 * B) := fun x hx => by
     rcases List.mem_append.mp hx with z | z
     · rcases List.mem_append.mp z with z | z
       · exact .inl (List.mem_of_mem_take z)
       · rw [List.mem_singleton.mp z]; exact .inr ⟨by show cs2.length ≤ _; omega, by show _ ≤ q.2; omega, by show q.2 ≤ _; omega⟩
     · exact .inl (List.mem_of_mem_drop z)
    generalize bs.take i ++ [(cs2, q.2)] ++ bs.drop (i + 1) = bs2 at LL hln hmem
    obtain ⟨as, eas, pas⟩ := LL.prs
    rw [eas] at f9
    refine ⟨s9, as, bs2, rfl, .inr f9, pas, by have := pas.1; omega, fun l3 bs3 qs3 GA nA tA fA pA pm pw => ?_⟩
    refine ⟨l3, _, rfl, SqL.of fA, fun tt GB nB tB fB => ?_⟩
    exact fin (m4.trans (Mo.of (t29.trans (tA.trans tB)))) (p4.same (t29.trans (tA.trans tB))) (SqT.of fB) ((Lots.of pA).tu (Tu.of tB)) (by rw [pm.length_eq]; exact hln) fun x hx => hmem x (pm.mem_iff.mp hx)
end
theorem prs_keys {H : Hp} : ∀ {bs : List Addr} {rs : List (List Int × Int)}, PrsAt H bs rs → ∃ cs : List Addr, cs.length = rs.length ∧ ∀ (i : Nat) b c q, bs[i]? = some b → cs[i]? = some c → rs[i]? = some q → H b = some (.tup [.ref c, .int q.2]) ∧ H c = some (.tup (q.1.map V.int))
 | [], [], _ => ⟨[], rfl, fun i b c q h => by simp at h⟩
 | [], _ :: _, h => by have := h.1; simp at this
 | _ :: _, [], h => by have := h.1; simp at this
 | b :: bs, q :: rs, h => by
  obtain ⟨q', c, e1, e2, e3⟩ := h.2 0 b rfl
  simp at e1; subst e1
  obtain ⟨cs, h1, h2⟩ := prs_keys (bs := bs) (rs := rs) ⟨by simpa using h.1, fun i u e => h.2 (i + 1) u (by simpa using e)⟩
  refine ⟨c :: cs, by rw [List.length_cons, List.length_cons, h1], fun i b' c' q' x1 x2 x3 => ?_⟩
  cases i with
  | zero => simp at x1 x2 x3; subst x1; subst x2; subst x3; exact ⟨e2, e3⟩
  | succ i => exact h2 i b' c' q' (by simpa using x1) (by simpa using x2) (by simpa using x3)
theorem prs_pairs {H : Hp} {fa : Addr} {bs : List Addr} {rs : List (List Int × Int)} (h : PrsAt H bs rs) (hf : ∃ ob, bareT ob ∧ H fa = some (.frz ob (.tup (bs.map V.ref)))) (hl : rs.length ≤ 1000) : PairsT H fa (vT rs) := by
 obtain ⟨ob, b1, e1⟩ := hf
 obtain ⟨cs, h1, h2⟩ := prs_keys h
 have hv : (vT rs).length = rs.length := by unfold vT; rw [List.length_map]
 refine ⟨ob, bs, cs, b1, e1, by rw [hv]; exact h.1, by rw [hv]; exact h1, by omega, fun i a b kv x1 x2 x3 => ?_⟩
 unfold vT at x3
 rw [List.getElem?_map] at x3
 obtain ⟨q, hq, rfl⟩ := Option.map_eq_some_iff.mp x3
 obtain ⟨y1, y2⟩ := h2 i a b q x1 x2 hq
 exact ⟨y1, by rw [kV_inl]; exact y2⟩
theorem dgetT (e : H a = some (.dT (vT ks))) (eb : H b = some (.tup (zs.map V.int))) : DGet H a (.ref b) ((tlook ks zs).map V.int) := by
 rw [← val_vT]; exact DGet.t e (by rw [kV_inl]; omega)
theorem dputT (e : H a = some (.dT (vT ks))) (eb : H b = some (.tup (zs.map V.int))) (nd : (ks.map (·.1)).Nodup) (hl : ks.length < sizeLine) : DPut H a (.ref b) (.int m) (upd H a (.dT (vT (tput ks zs m)))) := by
 rw [← put_vT zs m nd]; exact DPut.t e (by rw [kV_inl]; omega) (by unfold vT; simp_all)
def Bn (d : Int) (cs : List Int) : Prop := cs.Pairwise (· < ·) ∧ (cs.length : Int) = d
theorem Bn.sub {d : Int} {a b : List Int} (ha : Bn d a) (hb : Bn d b) (h : ∀ x ∈ a, x ∈ b) : ∀ x ∈ b, x ∈ a := fun x hx => by
 refine Classical.byContradiction fun n => ?_
 have l1 := nodup_len (ms := x :: a) (ns := b) (List.nodup_cons.mpr ⟨n, ha.1.imp fun h => Int.ne_of_lt h⟩) fun y hy => by
  rcases List.mem_cons.mp hy with z | z
  · rw [z]; exact hx
  · exact h y z
 have := ha.2
 have := hb.2
 rw [List.length_cons] at l1; omega
theorem in_ints (x : Int) : ∀ zs : List Int, inV (.int x) (zs.map V.int) = decide (x ∈ zs)
 | [] => by rfl
 | z :: r => by
  have ih := in_ints x r
  unfold inV at *
  rw [List.map_cons, List.any_cons, ih]
  by_cases c : z = x
  · subst c; simp [eqV]
  · have c' : ¬ x = z := fun q => c q.symm
    simp [eqV, c, c']
theorem flat_ints : ∀ zs : List Int, (zs.map V.int).all flatV = true
 | [] => rfl
 | z :: r => by rw [List.map_cons, List.all_cons, flat_ints r]; rfl
def MI (a b : List Int) : List Int := a.filter fun z => !decide (z ∈ b)
theorem mi_mem {a b : List Int} {z : Int} : z ∈ MI a b ↔ z ∈ a ∧ z ∉ b := by
 unfold MI; rw [List.mem_filter, Bool.not_eq_true', decide_eq_false_iff_not]
theorem mi_take {a b : List Int} {k : Nat} {z : Int} (h : a[k]? = some z) : MI (a.take (k + 1)) b = if z ∈ b then MI (a.take k) b else MI (a.take k) b ++ [z] := by
 unfold MI
 rw [List.take_add_one, h, List.filter_append]
 by_cases e : z ∈ b
 · rw [if_pos e]; simp [e]
 · rw [if_neg e]; simp [e]
theorem mi_len (a b : List Int) : (MI a b).length ≤ a.length := List.length_filter_le _ _
theorem Bn.swap {d : Int} {cs ms : List Int} {o c : Int} (h : Bn d cs) (ho : o ∈ cs) (hc : c ∉ cs) (p : ms.Perm (cs.filter (fun z => decide (z ≠ o)) ++ [c])) (s : ms.Pairwise (· ≤ ·)) : Bn d ms := by
 have nd : cs.Nodup := h.1.imp fun h => Int.ne_of_lt h
 have e : cs.filter (fun z => decide (z ≠ o)) = cs.erase o := by
  rw [List.Nodup.erase_eq_filter nd]
  congr 1; funext z; simp [bne]
  rw [Bool.eq_iff_iff, decide_eq_true_eq, beq_iff_eq]
 have l : (cs.filter (fun z => decide (z ≠ o))).length + 1 = cs.length := by
  rw [e, List.length_erase_of_mem ho]
  have := List.length_pos_of_mem ho
  omega
 have nm : ms.Nodup := p.nodup_iff.mpr (List.nodup_append.mpr ⟨nd.filter _, by simp, fun x hx y hy z => by
  rw [List.mem_singleton.mp hy] at z
  exact hc (z ▸ (List.mem_filter.mp hx).1)⟩)
 refine ⟨(s.and nm).imp fun {a b} h => by have := h.1; have := h.2; omega, ?_⟩
 rw [p.length_eq, List.length_append, List.length_singleton, l]; exact h.2
theorem k_sortedL {X : Cx} {K : PySem.W.Frag} {x y : Str} {t : TA} {py p pos : Pos} (hg : Gl X x) (he : starEach [.Name y py] X.env = (false, eval (.Name y py) X.env) :: starEach [] X.env) (hpl : (backTo pos (starEach [] X.env)).any (·.1) = false) (hK : X.K = K) (hx : x = "sorted") (hc : X.calm = true) (hm : X.mg x = none) (ha : JA X [.Name y py] t) (hy : y = "laid") :
 JE X (.Call (.Name x p) [.Name y py] [] pos) (tCB rSortT2s t) := k_sortedT2s hg he hpl hK hx hc hm ha
theorem k_tupleC {X : Cx} {K : PySem.W.Frag} {x : Str} {t : TA} {el : Expr} {gs : List Comprehension} {sc : Scope} {pc p pos : Pos} (hg : Gl X x) (he : starEach [.ListComp el gs sc pc] X.env = (false, eval (.ListComp el gs sc pc) X.env) :: starEach [] X.env) (hpl : (backTo pos (starEach [] X.env)).any (·.1) = false) (hK : X.K = K) (hx : x = "tuple") (hm : X.mg x = none) (ha : JA X [.ListComp el gs sc pc] t) :
 JE X (.Call (.Name x p) [.ListComp el gs sc pc] [] pos) (tCB (rTupF K) t) := k_tupleF hg he hpl hK hx hm ha
theorem g_tup3C {X : Cx} {px py pz pt : Pos} {x y z : Str} {i j k kt : Nat} (hi : At X.N i x) (hj : At X.N j y) (hk : At X.N k z) (hc : X.calm = true) (hN : X.N.Nodup) (hx : Loc X.env.scope x) (hy : Loc X.env.scope y) (hz : Loc X.env.scope z) (fx : X.fn x = true ∨ X.env.scope.names.lookup x = some .local) (fy : X.fn y = true ∨ X.env.scope.names.lookup y = some .local) (fz : X.fn z = true ∨ X.env.scope.names.lookup z = some .local)
 (h1 : (assignEach [.Name x px, .Name y py, .Name z pz] X.env).map (·.2) = assign (.Name x px) X.env :: (assignEach [.Name y py, .Name z pz] X.env).map (·.2))
 (h2 : (assignEach [.Name y py, .Name z pz] X.env).map (·.2) = assign (.Name y py) X.env :: (assignEach [.Name z pz] X.env).map (·.2))
 (h3 : (assignEach [.Name z pz] X.env).map (·.2) = assign (.Name z pz) X.env :: (assignEach [] X.env).map (·.2))
 (hn : (assignEach [.Name x px, .Name y py, .Name z pz] X.env).length = 3) (hst : (assignEach [.Name x px, .Name y py, .Name z pz] X.env).findIdx? (·.1) = none) :
 JG X (.Tuple [.Name x px, .Name y py, .Name z pz] kt pt) (gTup X.K 3 (gCons (gName i) (gCons (gName j) (gCons (gName k) gNil)))) :=
 ⟨pg_tup hc (pgs_cons (pg_name hN hi.get hx fx) (pgs_cons (pg_name hN hj.get hy fy) (pgs_cons (pg_name hN hk.get hz fz) pgs_nil h3) h2) h1) hn hst⟩
section
local macro_rules | `(tactic| wtm_at "pg") => `(tactic| (apply g_tup3C; (wtm_at "at"); (wtm_at "at"); (wtm_at "at"); (rfl); (assumption); (first | exact .inl rfl | exact .inr rfl); (first | exact .inl rfl | exact .inr rfl); (first | exact .inl rfl | exact .inr rfl); (first | exact .inl rfl | exact .inr rfl); (first | exact .inl rfl | exact .inr rfl); (first | exact .inl rfl | exact .inr rfl); (rfl); (rfl); (rfl); (rfl); (rfl)))
local macro_rules | `(tactic| wtm_at "call") => `(tactic| first | (apply k_tupleC; (rfl); (rfl); (rfl); (wtm_at "K"); (with_reducible rfl); (assumption); (wtm_at "pa")) | (apply k_sortedL; (rfl); (rfl); (rfl); (wtm_at "K"); (with_reducible rfl); (rfl); (assumption); (wtm_at "pa"); (with_reducible rfl)) | (apply k_sortedB; (rfl); (rfl); (rfl); (wtm_at "K"); (with_reducible rfl); (assumption); (wtm_at "pa")))
local macro_rules | `(tactic| wtm_at "pe") => `(tactic| first | (apply j_dictPT; (assumption); (rfl); (rfl); (rfl); (with_reducible rfl); (rfl); (assumption); (wtm_at "pa")) | (apply j_dget2; (assumption); (rfl); (rfl); (rfl); (rfl); (wtm_at "pe"); (wtm_at "pe"); (wtm_at "pe")) | (apply j_dgetA "laid"; (assumption); (exact fun _ _ => rfl); (wtm_at "pe"); (wtm_at "pe")))
local macro_rules | `(tactic| wtm_at "ps") => `(tactic| (apply s_dputA "laid"; (assumption); (rfl); (wtm_at "pe"); (wtm_at "pe"); (wtm_at "pe")))
variable {P : Program} {w : World} {K : PySem.W.Frag} {mg : Str → Option Value} {base : Heap}
abbrev sEx : Stmt := top 22
theorem scEx : FnScope ["pot", "pairs", "one", "other", "mine", "theirs", "give", "get", "laid", "colours", "out", "come", "made"] ["pot", "pairs"] (defScope sEx) := ⟨rfl, rfl, rfl, by decide +kernel, rfl, by decide +kernel, by decide +kernel⟩
def spEx : Sp := fun vs H Q _ => ∃ (p t : Addr) (bs : List (List Int × Int)) (L : Nat) (d : Int), vs = [.ref p, .ref t] ∧ Pot H p ∧ FillZ H t bs ∧ RisT bs ∧ bs.length ≤ L ∧ L ≤ 50 ∧ 1 ≤ d ∧ d ≤ 40 ∧ (∀ q ∈ bs, Bn d q.1) ∧ ∀ (t' : Addr) (bs' : List (List Int × Int)) (H' : Hp), Mo [p] H H' → Pot H' p → FillZ H' t' bs' → RisT bs' → bs'.length ≤ L + 2 → (∀ q ∈ bs', Bn d q.1) → Q (.ref t') H'
theorem ok_ex {f : Addr} {fd : FuncData} (F : Fun K "_law_exchanged" "_law_exchanged" sEx f fd) (cT : Callee CX0 P w K mg base "_law_take" 1 ["pot", "many"] spTake) (mL : mg "len" = none) (mS : mg "sorted" = none) (mT : mg "tuple" = none) (mD : mg "dict" = none) : FnOk P w K mg base CX0 2 f fd ["pot", "pairs"] spEx := by
 refine Br.Fun.j F scEx (fun vs H Q E h => ?_) (fun cdv A outer s H vs Q E hr h => ?_)
 · obtain ⟨_, _, _, _, _, rfl, _⟩ := h; rfl
 · obtain ⟨p, t, bs, L, d, rfl, hp, hf, hris, hL, hL50, hd, hd1, hbn, h⟩ := h
   have nd := scEx.nd
   have hsz : (sizeLine : Nat) = 16777216 := sizeLine_eq
   refine' ⟨_, ?d, ?r⟩
   case d => wtm_at "body"
   case r =>
    obtain ⟨vs0, eT0, lv0⟩ := id (hf.at (K := K))
    have lvl0 := lv0.1
    refine ⟨fun σ' G => G = H ∧ bs ≠ [] ∧ σ' = [some (.ref p), some (.ref t), none, none, none, none, none, none, none, none, none, none, none], ?_, ?_⟩
    · wtm_at "rd"
      refine .inl ⟨t, _, rfl, .inr eT0, ?_⟩
      wtm_at "rd"
      refine ⟨rfl, _, rfl, ite2 (fun _ => ?_) (fun hz => ⟨rfl, fun z => hz (by rw [z] at lvl0; rw [lvl0]; simp), rfl⟩)⟩
      exact ⟨_, rfl, h t bs H (Mo.of (L2.Same.refl _)) hp hf hris (by omega) hbn⟩
    rintro σ' G ⟨rfl, hne, rfl⟩
    have hbp : 0 < bs.length := List.length_pos_iff.mpr hne
    obtain ⟨ob, vs, bo, eF, lv⟩ : ∃ (o : Obj) (vs : List V), bareT o ∧ G t = some (.frz o (.tup vs)) ∧ Lots G vs bs := hf.elim (fun z => absurd z.1 hne) id
    have lvl := lv.1
    have moT : ∀ {G G' : Hp}, Pot G p → Mo [p] G G' → G t = some (.frz ob (.tup vs)) → G' t = some (.frz ob (.tup vs)) := fun hp m e => Tu.mo hp m _ _ e (.inr ⟨_, _, rfl⟩)
    have sq : ∀ {G : Hp}, G t = some (.frz ob (.tup vs)) → SqT K G t vs := fun e => .inl (.inr ⟨_, e⟩)
    wtm_at "rd"
    refine .inl ⟨t, _, rfl, .inr (sq eF), ?_⟩
    wtm_at "rd"
    refine ⟨hp, by omega, by omega, fun i1 H1 m1 p1 a0 a1 => ?_⟩
    obtain ⟨i, rfl⟩ := Int.eq_ofNat_of_zero_le a0
    have hi : i < vs.length := by omega
    have ei : vs[i]? = some vs[i] := List.getElem?_eq_getElem hi
    have ai := atI_nat ei
    generalize vs[i] = vi at ei ai
    have tu1 := Tu.mo hp m1
    obtain ⟨q1, hq1, r1, c1, rfl, er1, ec1⟩ := (lv.tu tu1).2 i vi ei
    refine .inr (.inl ⟨t, _, _, _, rfl, rfl, sq (moT hp m1 eF), ai, ?_⟩)
    wtm_at "rd"
    refine .inr (.inl ⟨r1, _, 0, _, rfl, rfl, SqT.of er1, (show atI [V.ref c1, V.int q1.2] 0 = some (.ref c1) from rfl), ?_⟩)
    wtm_at "rd"
    refine .inl ⟨t, _, rfl, .inr (sq (moT hp m1 eF)), ?_⟩
    wtm_at "rd"
    refine ⟨p1, by omega, by omega, fun i2 H2 m2 p2 b0 b1 => ?_⟩
    obtain ⟨j, rfl⟩ := Int.eq_ofNat_of_zero_le b0
    have hj : j < vs.length := by omega
    have ej : vs[j]? = some vs[j] := List.getElem?_eq_getElem hj
    have aj := atI_nat ej
    generalize vs[j] = vj at ej aj
    have m12 := m1.trans m2
    have tu2 := Tu.mo hp m12
    obtain ⟨q2, hq2, r2, c2, rfl, er2, ec2⟩ := (lv.tu tu2).2 j vj ej
    have ec1 := Tu.mo p1 m2 _ _ ec1 (.inl ⟨_, rfl⟩)
    have b1 := hbn q1 (List.mem_of_getElem? hq1)
    have b2 := hbn q2 (List.mem_of_getElem? hq2)
    refine .inr (.inl ⟨t, _, _, _, rfl, rfl, sq (moT hp m12 eF), aj, ?_⟩)
    wtm_at "rd"
    refine .inr (.inl ⟨r2, _, 0, _, rfl, rfl, SqT.of er2, (show atI [V.ref c2, V.int q2.2] 0 = some (.ref c2) from rfl), ?_⟩)
    wtm_at "rd"
    refine .inr ⟨⟨_, SqT.of ec1⟩, ?_⟩
    have lq1 : q1.1.length ≤ 40 := by have := b1.2; omega
    have lq2 : q2.1.length ≤ 40 := by have := b2.2; omega
    refine cmp_tup (K := K) (a := c1) (xs := q1.1.map V.int) (fun i ys σ G' => G' = H2 ∧ ys = (MI (q1.1.take i) q2.1).map V.int ∧ ∃ x : Option V, σ = [x, some (.ref p), some (.ref t), some (.ref c1), some (.ref c2), none, none, none, none, none, none, none, none, none])
     ⟨rfl, rfl, none, rfl⟩ (by rw [List.length_map]; omega) (fun i ys σ G' _ ⟨e, e', _⟩ => ⟨by rw [e]; exact SqT.of ec1, by rw [e', List.length_map]; exact Nat.le_trans (mi_len _ _) (by rw [List.length_take]; omega)⟩) ?_ ?_
    · rintro k x ys σ G' M hx ⟨rfl, rfl, x0, rfl⟩ hM
      rw [List.getElem?_map] at hx
      obtain ⟨z, hz, rfl⟩ := Option.map_eq_some_iff.mp hx
      wtm_at "rd"
      refine ⟨c2, _, rfl, .inr (SqT.of ec2), rfl, flat_ints _, _, rfl, ?_⟩
      rw [in_ints]
      refine ite2 (fun e => ?_) (fun e => ?_)
      · wtm_at "rd"
        refine hM _ _ _ ⟨rfl, ?_, _, rfl⟩
        rw [mi_take hz, if_neg (by simpa using e), List.map_append]; rfl
      · refine hM _ _ _ ⟨rfl, ?_, _, rfl⟩
        rw [mi_take hz, if_pos (by simpa using e)]
    rintro ys σ G' ⟨rfl, rfl, x0, rfl⟩ l3 G3 n3 s3 e3
    rw [List.take_of_length_le (by rw [List.length_map]; exact Nat.le_refl _)] at e3
    have ec1' := s3 _ _ ec1
    have ec2' := s3 _ _ ec2
    wtm_at "rd"
    refine .inr ⟨⟨_, SqT.of ec2'⟩, ?_⟩
    refine cmp_tup (K := K) (a := c2) (xs := q2.1.map V.int) (fun i ys σ G' => G' = G3 ∧ ys = (MI (q2.1.take i) q1.1).map V.int ∧ ∃ x : Option V, σ = [x, some (.ref p), some (.ref t), some (.ref c1), some (.ref c2), some (.ref l3), none, none, none, none, none, none, none, none])
     ⟨rfl, rfl, none, rfl⟩ (by rw [List.length_map]; omega) (fun i ys σ G' _ ⟨e, e', _⟩ => ⟨by rw [e]; exact SqT.of ec2', by rw [e', List.length_map]; exact Nat.le_trans (mi_len _ _) (by rw [List.length_take]; omega)⟩) ?_ ?_
    · rintro k x ys σ G' M hx ⟨rfl, rfl, x0, rfl⟩ hM
      rw [List.getElem?_map] at hx
      obtain ⟨z, hz, rfl⟩ := Option.map_eq_some_iff.mp hx
      wtm_at "rd"
      refine ⟨c1, _, rfl, .inr (SqT.of ec1'), rfl, flat_ints _, _, rfl, ?_⟩
      rw [in_ints]
      refine ite2 (fun e => ?_) (fun e => ?_)
      · wtm_at "rd"
        refine hM _ _ _ ⟨rfl, ?_, _, rfl⟩
        rw [mi_take hz, if_neg (by simpa using e), List.map_append]; rfl
      · refine hM _ _ _ ⟨rfl, ?_, _, rfl⟩
        rw [mi_take hz, if_pos (by simpa using e)]
    rintro ys σ G' ⟨rfl, rfl, x0, rfl⟩ l4 G4 n4 s4 e4
    rw [List.take_of_length_le (by rw [List.length_map]; exact Nat.le_refl _)] at e4
    have e3 := s4 _ _ e3
    have ec1 := s4 _ _ ec1'
    have ec2 := s4 _ _ ec2'
    have p4 := p2.same (s3.trans s4)
    have m4 : Mo [p] G G4 := m12.trans (Mo.of (s3.trans s4))
    have l1 := mi_len q1.1 q2.1
    have l2 := mi_len q2.1 q1.1
    have hn4 : ∀ b, G4 b = none → b ≠ p := fun b e => p4.ne e
    refine ⟨fun σ' G' => G' = G4 ∧ MI q1.1 q2.1 ≠ [] ∧ σ' = [some (.ref p), some (.ref t), some (.ref c1), some (.ref c2), some (.ref l3), some (.ref l4), none, none, none, none, none, none, none], ?_, ?_⟩
    · wtm_at "rd"
      refine .inl ⟨l3, _, rfl, .inl (SqL.of e3), ?_⟩
      wtm_at "rd"
      refine ⟨rfl, _, rfl, ite2 (fun _ => ?_) (fun hz => ⟨rfl, fun z => hz (by rw [z]; rfl), rfl⟩)⟩
      exact ⟨_, rfl, h t bs G4 m4 p4 (hf.tu (Tu.mo hp m4)) hris (by omega) hbn⟩
    rintro σ' G' ⟨rfl, hmi, rfl⟩
    have hm0 : 0 < (MI q1.1 q2.1).length := List.length_pos_iff.mpr hmi
    have ht0 : 0 < (MI q2.1 q1.1).length := by
     refine List.length_pos_iff.mpr fun z => hmi ?_
     have sub : ∀ x ∈ q2.1, x ∈ q1.1 := fun x hx => Classical.byContradiction fun n => by
      have := mi_mem.mpr ⟨hx, n⟩
      rw [z] at this; cases this
     have sub2 := Bn.sub b2 b1 sub
     exact List.eq_nil_iff_forall_not_mem.mpr fun x hx => (mi_mem.mp hx).2 (sub2 x (mi_mem.mp hx).1)
    wtm_at "rd"
    refine .inl ⟨l3, _, rfl, .inl (SqL.of e3), ?_⟩
    wtm_at "rd"
    refine ⟨p4, by rw [List.length_map]; omega, by rw [List.length_map]; omega, fun g1 H5 m5 p5 x0 x1 => ?_⟩
    rw [List.length_map] at x1
    obtain ⟨gv, hgv, _, egv⟩ := atI_ints (zs := MI q1.1 q2.1) (i := g1) x0 x1
    refine .inl ⟨l3, _, _, _, rfl, rfl, SqL.of (m5 _ _ (nin (p2.ne n3)) e3), egv, ?_⟩
    wtm_at "rd"
    have e45 := m5 _ _ (nin ((p2.same s3).ne n4)) e4
    refine .inl ⟨l4, _, rfl, .inl (SqL.of e45), ?_⟩
    wtm_at "rd"
    refine ⟨p5, by rw [List.length_map]; omega, by rw [List.length_map]; omega, fun g2 H6 m6 p6 y0 y1 => ?_⟩
    rw [List.length_map] at y1
    obtain ⟨gt, hgt, _, egt⟩ := atI_ints (zs := MI q2.1 q1.1) (i := g2) y0 y1
    refine .inl ⟨l4, _, _, _, rfl, rfl, SqL.of (m6 _ _ (nin ((p2.same s3).ne n4)) e45), egt, ?_⟩
    obtain ⟨gv1, gv2⟩ := mi_mem.mp hgv
    obtain ⟨gt1, gt2⟩ := mi_mem.mp hgt
    have m46 := m5.trans m6
    have m06 := m4.trans m46
    have tu6 := Tu.mo hp m06
    have eF6 := moT hp m06 eF
    have lv6 := lv.tu tu6
    have ec1 := Tu.mo p4 m46 _ _ ec1 (.inl ⟨_, rfl⟩)
    have ec2 := Tu.mo p4 m46 _ _ ec2 (.inl ⟨_, rfl⟩)
    clear e3 e4 e45 s3 s4 n3 n4 m1 m2 m12 tu1 tu2 er1 er2
    obtain ⟨as, eas, pas⟩ := lv6.prs
    wtm_at "rd"
    refine ⟨t, vT bs, rfl, prs_pairs pas ⟨ob, bo, by rw [← eas]; exact eF6⟩ (by omega), fun dd H7 nd7 s7 e7 => ?_⟩
    rw [merge_vT hris.nodup] at e7
    have p7 := p6.same s7
    have ndp : dd ≠ p := p6.ne nd7
    have ec1 := s7 _ _ ec1
    have ec2 := s7 _ _ ec2
    have c1d : c1 ≠ dd := fun z => by rw [z, e7] at ec1; cases ec1
    have c2d : c2 ≠ dd := fun z => by rw [z, e7] at ec2; cases ec2
    refine ⟨_, rfl, _, rfl, lenLe (n := 2) rfl (by decide), fun lo H8 n8 s8 e8 => ?_⟩
    have kdd : ∀ {G1 G2 : Hp} {o : HO}, L2.Same G1 G2 → ∀ b o', b ≠ dd → G1 b = some o' → (upd G2 dd o) b = some o' := fun s b o' nb e => by rw [upd_ne nb]; exact s _ _ e
    have lod : lo ≠ dd := fun z => by rw [z, e7] at n8; cases n8
    refine ⟨lo, rfl, .inl ⟨⟨_, SqL.of e8⟩, ?_⟩⟩
    refine for_list (K := K) (a := lo) (xs := [V.ref c1, V.ref c2]) (fun k σ G => (∀ b o, b ≠ dd → H8 b = some o → G b = some o) ∧ (∃ ks : List (List Int × Int), G dd = some (.dT (vT ks)) ∧ ks.map (·.1) = bs.map (·.1)) ∧ ∃ x : Option V, σ = [some (.ref p), some (.ref t), some (.ref c1), some (.ref c2), some (.ref l3), some (.ref l4), some (.int gv), some (.int gt), some (.ref dd), x, none, none, none])
     ⟨fun _ _ _ e => e, ⟨bs, s8 _ _ e7, rfl⟩, none, rfl⟩ (fun k σ G _ ⟨kG, _⟩ => SqL.of (kG _ _ lod e8)) ?_ ?_
    · rintro k x σ G hx ⟨kG, ⟨ks, eG, hks⟩, x0, rfl⟩
      have hx2 : ∃ (cx : Addr) (cs : List Int), x = .ref cx ∧ G cx = some (.tup (cs.map V.int)) ∧ cs ∈ bs.map (·.1) := by
       match k, hx with
       | 0, hx => simp at hx; exact ⟨c1, q1.1, hx.symm, kG _ _ c1d (s8 _ _ ec1), List.mem_map_of_mem (List.mem_of_getElem? hq1)⟩
       | 1, hx => simp at hx; exact ⟨c2, q2.1, hx.symm, kG _ _ c2d (s8 _ _ ec2), List.mem_map_of_mem (List.mem_of_getElem? hq2)⟩
      obtain ⟨cx, cs, rfl, ecx, hcs⟩ := hx2
      have nks : (ks.map (·.1)).Nodup := by rw [hks]; exact hris.nodup
      rw [← hks] at hcs
      obtain ⟨qk, hqk, rfl⟩ := List.mem_map.mp hcs
      have dg := dgetT eG ecx
      rw [tlook_mem nks hqk] at dg
      wtm_at "rd"
      refine ⟨dd, _, rfl, dg, ?_⟩
      wtm_at "rd"
      have hkl : ks.length = bs.length := by have := congrArg List.length hks; rw [List.length_map, List.length_map] at this; exact this
      refine ⟨dd, _, rfl, dputT eG ecx nks (by omega), fun b o nb e => by rw [upd_ne nb]; exact kG b o nb e, ⟨_, upd_same, ?_⟩, _, rfl⟩
      rw [tput_keys, if_pos hcs, hks]
    rintro σ G ⟨kG, ⟨ks, eG, hks⟩, x0, rfl⟩
    have nks : (ks.map (·.1)).Nodup := by rw [hks]; exact hris.nodup
    have hkl : ks.length = bs.length := by have := congrArg List.length hks; rw [List.length_map, List.length_map] at this; exact this
    have hkb : ∀ q ∈ ks, Bn d q.1 := fun q hq => by
     have : q.1 ∈ bs.map (·.1) := hks ▸ List.mem_map_of_mem hq
     obtain ⟨q', hq', e⟩ := List.mem_map.mp this
     rw [← e]; exact hbn q' hq'
    have ec1 := kG _ _ c1d (s8 _ _ ec1)
    have ec2 := kG _ _ c2d (s8 _ _ ec2)
    have mG : Mo [p] H6 G := fun b o nb e => kG b o (ne_of_none e nd7) (s8 _ _ (s7 _ _ e))
    have pG : Pot G p := let ⟨x, e, x0⟩ := p7; ⟨x, kG _ _ (Ne.symm ndp) (s8 _ _ e), x0⟩
    clear e7 e8 n8 s7 p7
    refine ⟨_, rfl, _, rfl, _, rfl, lenLe (n := 3) rfl (by decide), fun t1 H9 n9 s9 e9 => ?_⟩
    refine ⟨_, rfl, _, rfl, _, rfl, lenLe (n := 3) rfl (by decide), fun t2 HA nA sA eA => ?_⟩
    refine ⟨lenLe (n := 2) rfl (by decide), fun lo2 HB nB sB eB => ?_⟩
    have eGB := sB _ _ (sA _ _ (s9 _ _ eG))
    have sGB := s9.trans (sA.trans sB)
    have t1d : t1 ≠ dd := fun z => by rw [z, eG] at n9; cases n9
    have t2d : t2 ≠ dd := fun z => by rw [z, s9 _ _ eG] at nA; cases nA
    have lod2 : lo2 ≠ dd := fun z => by rw [z, sA _ _ (s9 _ _ eG)] at nB; cases nB
    have e9B := sB _ _ (sA _ _ e9)
    have eAB := sB _ _ eA
    have ec1B := sGB _ _ ec1
    have ec2B := sGB _ _ ec2
    refine ⟨lo2, rfl, .inl ⟨⟨_, SqL.of eB⟩, ?_⟩⟩
    refine for_list (K := K) (a := lo2) (xs := [V.ref t1, V.ref t2]) (fun k σ G' => (∀ b o, b ≠ dd → HB b = some o → G' b = some o) ∧ (∃ ks : List (List Int × Int), G' dd = some (.dT (vT ks)) ∧ (ks.map (·.1)).Nodup ∧ (∀ q ∈ ks, Bn d q.1) ∧ ks.length ≤ bs.length + k) ∧ ∃ x y z u : Option V, σ = [some (.ref p), some (.ref t), some (.ref c1), some (.ref c2), some (.ref l3), some (.ref l4), some (.int gv), some (.int gt), some (.ref dd), x, y, z, u])
     ⟨fun _ _ _ e => e, ⟨ks, eGB, nks, hkb, by omega⟩, _, _, _, _, rfl⟩ (fun k σ G' _ ⟨kG', _⟩ => SqL.of (kG' _ _ lod2 eB)) ?_ ?_
    · rintro k x σ G' hx ⟨kG', ⟨ks, eK, nks, hkb, hkl⟩, y1, y2, y3, y4, rfl⟩
      have hk2 : k < 2 := (List.getElem?_eq_some_iff.mp hx).1
      have hx2 : ∃ (tx cx : Addr) (cs : List Int) (o c : Int), x = .ref tx ∧ G' tx = some (.tup [.ref cx, .int o, .int c]) ∧ G' cx = some (.tup (cs.map V.int)) ∧ cx ≠ dd ∧ Bn d cs ∧ o ∈ cs ∧ c ∉ cs ∧ cs.length ≤ 40 := by
       match k, hx with
       | 0, hx => simp at hx; exact ⟨t1, c1, q1.1, gv, gt, hx.symm, kG' _ _ t1d e9B, kG' _ _ c1d ec1B, c1d, b1, gv1, gt2, lq1⟩
       | 1, hx => simp at hx; exact ⟨t2, c2, q2.1, gt, gv, hx.symm, kG' _ _ t2d eAB, kG' _ _ c2d ec2B, c2d, b2, gt1, gv2, lq2⟩
      obtain ⟨tx, cx, cs, o, c, rfl, etx, ecx, cxd, hb, ho, hc, hcl⟩ := hx2
      refine ⟨tx, _, rfl, SqT.of etx, rfl, _, _, rfl, _, _, rfl, _, _, rfl, rfl, ?_⟩
      wtm_at "rd"
      refine .inr ⟨⟨_, SqT.of ecx⟩, ?_⟩
      refine cmp_tup (K := K) (a := cx) (xs := cs.map V.int) (fun i ys σ G2 => G2 = G' ∧ ys = ((cs.take i).filter fun z => decide (z ≠ o)).map V.int ∧ ∃ x : Option V, σ = [x, some (.ref p), some (.ref t), some (.ref c1), some (.ref c2), some (.ref l3), some (.ref l4), some (.int gv), some (.int gt), some (.ref dd), some (.ref cx), some (.int o), some (.int c), y4])
       ⟨rfl, rfl, none, rfl⟩ (by rw [List.length_map]; omega) (fun i ys σ G2 _ ⟨e, e', _⟩ => ⟨by rw [e]; exact SqT.of ecx, by rw [e', List.length_map]; exact Nat.le_trans (List.length_filter_le _ _) (by rw [List.length_take]; omega)⟩) ?_ ?_
      · rintro k x ys σ G2 M hx ⟨rfl, rfl, x0, rfl⟩ hM
        rw [List.getElem?_map] at hx
        obtain ⟨z, hz, rfl⟩ := Option.map_eq_some_iff.mp hx
        wtm_at "rd"
        refine ⟨rfl, _, rfl, ite2 (fun e => ?_) (fun e => ?_)⟩
        · wtm_at "rd"
          refine hM _ _ _ ⟨rfl, ?_, _, rfl⟩
          have e : z ≠ o := by simpa using e
          rw [List.take_add_one, hz, List.filter_append, List.map_append]
          simp [e]
        · refine hM _ _ _ ⟨rfl, ?_, _, rfl⟩
          have e : z = o := by simpa using e
          rw [List.take_add_one, hz, List.filter_append, List.map_append]
          simp [e]
      rintro ys σ G2 ⟨rfl, rfl, x0, rfl⟩ fl HC nC sC eC
      rw [List.take_of_length_le (by rw [List.length_map]; exact Nat.le_refl _)] at eC
      refine ⟨_, rfl, lenLe (n := 1) rfl (by decide), fun l5 HD nD sD eD => ?_⟩
      refine .inr (.inl ⟨fl, l5, _, _, rfl, rfl, sD _ _ eC, eD, by rw [hsz, List.length_map]; have := List.length_filter_le (fun z => decide (z ≠ o)) cs; simp only [List.length_cons, List.length_nil]; omega, fun l6 HE nE sE eE => ?_⟩)
      have eE : HE l6 = some (.lst ((cs.filter (fun z => decide (z ≠ o)) ++ [c]).map V.int)) := by rw [eE, List.map_append]; rfl
      refine ⟨l6, _, rfl, .inl (SqL.of eE), by have := List.length_filter_le (fun z => decide (z ≠ o)) cs; rw [List.length_append]; simp only [List.length_cons, List.length_nil]; omega, fun l7 ms HF nF sF eF' pm pw => ?_⟩
      refine ⟨l7, _, rfl, SqL.of eF', fun tm HG nG sG' eG' => ?_⟩
      have hbm := hb.swap ho hc pm pw
      have sCG := sC.trans (sD.trans (sE.trans (sF.trans sG')))
      have eK2 := sCG _ _ eK
      have dg := dgetT eK2 eG'
      have gd : ((tlook ks ms).map V.int).getD (.int 0) = .int ((tlook ks ms).getD 0) := by cases tlook ks ms <;> rfl
      refine ⟨_, rfl, dd, rfl, .inr ⟨_, .inl eK2⟩, _, rfl, _, dg, ?_⟩
      rw [gd]
      wtm_at "rd"
      refine ⟨dd, _, rfl, dputT eK2 eG' nks (by omega), fun b o nb e => by rw [upd_ne nb]; exact sCG _ _ (kG' b o nb e), ⟨_, upd_same, tput_nodup _ _ nks, fun q hq => ?_, ?_⟩, _, _, _, _, rfl⟩
      · rcases tput_mem hq with z | z
        · exact hkb q z
        · rw [z]; exact hbm
      · have := tput_len ks ms ((tlook ks ms).getD 0 + 1)
        show (tput ks ms ((tlook ks ms).getD 0 + 1)).length ≤ _
        omega
    rintro σ G' ⟨kG', ⟨ks, eK, nks, hkb, hkl⟩, y1, y2, y3, y4, rfl⟩
    have hkl : ks.length ≤ bs.length + 2 := hkl
    wtm_at "rd"
    have hvk : (vT ks).map (·.1) = (ks.map (·.1)).map (List.map Sum.inl) := by unfold vT; rw [List.map_map, List.map_map]; rfl
    refine ⟨dd, _, ks.map (·.1), rfl, eK, hvk, fun _ w hw z => ?_, by rw [List.length_map]; omega, fun sl bs2 us HC nC sC eC hbl hbt pm pw => ?_⟩
    · obtain ⟨q, hq, rfl⟩ := List.mem_map.mp hw
      have := (hkb q hq).2
      rw [z] at this; simp at this; omega
    have eK2 := sC _ _ eK
    have husl : us.length ≤ bs.length + 2 := by have := pm.length_eq; rw [List.length_map] at this; omega
    obtain ⟨sk1, sk2⟩ := sort_keysT nks pm pw
    refine ⟨sl, rfl, .inl ⟨⟨_, SqL.of eC⟩, ?_⟩⟩
    refine cmp_list (K := K) (a := sl) (xs := bs2.map V.ref) (fun j ys σ G2 => L2.Same HC G2 ∧ Lots G2 ys (((us.take j).map fun u => (u, (tlook ks u).getD 0)).filter fun q => decide (0 < q.2)) ∧ ∃ x : Option V, σ = [x, some (.ref p), some (.ref t), some (.ref c1), some (.ref c2), some (.ref l3), some (.ref l4), some (.int gv), some (.int gt), some (.ref dd), y1, y2, y3, y4])
     ⟨.refl _, Lots.nil, none, rfl⟩ (by rw [List.length_map]; omega) (fun j ys σ G2 _ ⟨s2, l2, _⟩ => ⟨SqL.of (s2 _ _ eC), by rw [l2.1]; exact Nat.le_trans (List.length_filter_le _ _) (by rw [List.length_map, List.length_take]; omega)⟩) ?_ ?_
    · rintro j x ys σ G2 M hx ⟨s2, l2, x0, rfl⟩ hM
      rw [List.getElem?_map] at hx
      obtain ⟨b, hb, rfl⟩ := Option.map_eq_some_iff.mp hx
      obtain ⟨u, hu, eu⟩ := hbt j b hb
      have hum : u ∈ ks.map (·.1) := pm.mem_iff.mp (List.mem_of_getElem? hu)
      obtain ⟨qk, hqk, rfl⟩ := List.mem_map.mp hum
      have htl := tlook_mem nks hqk
      have dg := dgetT (s2 _ _ eK2) (s2 _ _ eu)
      rw [htl] at dg
      have etk : ((us.take (j + 1)).map fun u => (u, (tlook ks u).getD 0)) = ((us.take j).map fun u => (u, (tlook ks u).getD 0)) ++ [(qk.1, qk.2)] := by
       rw [List.take_add_one, hu, List.map_append]
       show _ ++ [(qk.1, (tlook ks qk.1).getD 0)] = _
       rw [htl]; rfl
      wtm_at "rd"
      refine ⟨dd, _, rfl, dg, ?_⟩
      wtm_at "rd"
      refine ite2 (fun e => ?_) (fun e => ?_)
      · wtm_at "rd"
        refine ⟨dd, _, rfl, dg, ?_⟩
        refine ⟨lenLe (n := 2) rfl (by decide), fun r G3 nr s3 e3 => hM _ _ _ ⟨s2.trans s3, ?_, _, rfl⟩⟩
        rw [etk, List.filter_append]
        have e : 0 < qk.2 := of_decide_eq_true e
        rw [show [(qk.1, qk.2)].filter (fun q => decide (0 < q.2)) = [(qk.1, qk.2)] by simp [e]]
        exact (l2.tu (Tu.of s3)).snoc ⟨r, b, rfl, e3, (s2.trans s3) _ _ eu⟩
      · refine hM _ _ _ ⟨s2, ?_, _, rfl⟩
        rw [etk, List.filter_append]
        have e : ¬ 0 < qk.2 := fun z => e (decide_eq_true z)
        rw [show [(qk.1, qk.2)].filter (fun q => decide (0 < q.2)) = [] by simp [e], List.append_nil]
        exact l2
    rintro ys σ G2 ⟨s2, l2, x0, rfl⟩ pl HD nD sD eD
    rw [List.take_of_length_le (by rw [List.length_map]; omega)] at l2
    refine ⟨pl, _, rfl, SqL.of eD, fun tt ob2 HE nE bE sE eE => ?_⟩
    have sCE := sC.trans (s2.trans (sD.trans sE))
    have mGB : Mo [p] G HB := Mo.of sGB
    have pGB := pG.same sGB
    have nddp := ndp
    have pG' : Pot G' p := let ⟨x, e, x0⟩ := pGB; ⟨x, kG' _ _ (Ne.symm ndp) e, x0⟩
    refine h tt _ HE ?_ (pG'.same sCE) (.inr ⟨ob2, _, bE, eE, (l2.tu (Tu.of sD)).tu (Tu.of sE)⟩) (sk1.filter _) ?_ ?_
    · intro b o nb e
      have e6 := m06 b o nb e
      have bd : b ≠ dd := ne_of_none e6 nd7
      exact sCE _ _ (kG' b o bd (sGB _ _ (mG b o nb e6)))
    · exact Nat.le_trans (List.length_filter_le _ _) (by rw [List.length_map]; omega)
    · intro q hq
      have hq := (List.mem_filter.mp hq).1
      exact hkb q (sk2.mem_iff.mp hq)
end
section
local macro_rules | `(tactic| wtm_at "op") => `(tactic| (apply k_addA; wtm_at "K"))
local macro_rules | `(tactic| wtm_at "pe") => `(tactic| first
 | (apply k_slW; (wtm_at "K"); (wtm_at "pe"); (wtm_at "po"); (wtm_at "po"))
 | fail)
local macro_rules | `(tactic| wtm_at "call") => `(tactic| (apply k_tupR; (rfl); (rfl); (rfl); (rfl); (assumption); (assumption); (rfl); (rfl); (rfl); (intro _; rfl); (wtm_at "pe")))
variable {P : Program} {w : World} {K : PySem.W.Frag} {mg : Str → Option Value} {base : Heap}
abbrev sCh : Stmt := top 23
theorem scCh : FnScope ["pot", "told", "d", "number", "pairs", "way", "by", "colours", "times"] ["pot", "told", "d"] (defScope sCh) := ⟨rfl, rfl, rfl, by decide +kernel, rfl, by decide +kernel, by decide +kernel⟩
def Told (K : PySem.W.Frag) (H : Hp) (r : Addr) (N : Int) (bs : List (List Int × Int)) : Prop := ∃ t, H r = some (.tup [.int N, .ref t]) ∧ FillAt K H t bs
theorem Told.tu {K : PySem.W.Frag} {H H' : Hp} {r : Addr} {N : Int} {bs : List (List Int × Int)} (x : Told K H r N bs) (m : Tu H H') : Told K H' r N bs := let ⟨t, e, f⟩ := x; ⟨t, m _ _ e (.inl ⟨_, rfl⟩), f.tu m⟩
def spCh (K : PySem.W.Frag) : Sp := fun vs H Q _ => ∃ (p r : Addr) (N d : Int) (bs : List (List Int × Int)) (L : Nat) (B : Int), vs = [.ref p, .ref r, .int d] ∧ Pot H p ∧ Told K H r N bs ∧ 1 ≤ d ∧ d ≤ 20 ∧ Szd L B bs ∧ 20 ≤ L ∧ L ≤ 45 ∧ 10 ^ 60 ≤ B ∧ B ≤ 10 ^ 70 ∧ ∀ (r' : Addr) (N' : Int) (bs' : List (List Int × Int)) (H' : Hp), Mo [p] H H' → Pot H' p → Told K H' r' N' bs' → Szd (L + 1) (10 * B) bs' → Q (.ref r') H'
theorem ok_ch {f : Addr} {fd : FuncData} (F : Fun K "_law_changed" "_law_changed" sCh f fd) (cT : Callee CX0 P w K mg base "_law_take" 1 ["pot", "many"] spTake) (cB : Callee CX0 P w K mg base "_law_by" 2 ["pot"] spBy) (cP : Callee CX0 P w K mg base "_law_pairs" 4 ["pot", "pairs"] (spPrs K)) (mL : mg "len" = none) (mT : mg "tuple" = none) (mR : mg "range" = none) : FnOk P w K mg base CX0 5 f fd ["pot", "told", "d"] (spCh K) := by
 refine Br.Fun.j F scCh (fun vs H Q E h => ?_) (fun cdv A outer s H vs Q E hr h => ?_)
 · obtain ⟨_, _, _, _, _, _, _, rfl, _⟩ := h; rfl
 · obtain ⟨p, r, N, d, bs, L, B, rfl, hp, ⟨t, er, hf⟩, hd, hd1, hz, hL0, hL, hB0, hB1, h⟩ := h
   have nd := scCh.nd
   have hsz : (sizeLine : Nat) = 16777216 := sizeLine_eq
   refine' ⟨_, ?d, ?r⟩
   case d => wtm_at "body"
   case r =>
    obtain ⟨vs, eT, lv⟩ := id hf
    have lvl := lv.1
    wtm_at "rd"
    refine ⟨r, _, rfl, SqT.of er, rfl, _, _, rfl, _, _, rfl, rfl, ?_⟩
    wtm_at "rd"
    refine ⟨hp, by decide, by decide, fun wy H1 m1 p1 w0 w1 => ?_⟩
    have tu1 := Tu.mo hp m1
    have hf1 := hf.tu tu1
    have eT1 := Tp.tu eT tu1
    have lv1 := lv.tu tu1
    have szm : ∀ {bs' : List (List Int × Int)}, Szd L B bs' → Szd (L + 1) (10 * B) bs' := fun z => ⟨by have := z.1; omega, fun q hq => by have := z.2 q hq; omega⟩
    have fin : ∀ {G : Hp} {r' t' : Addr} {N' : Int} {vs' : List V} {bs' : List (List Int × Int)}, Mo [p] H1 G → Pot G p → G r' = some (.tup [.int N', .ref t']) → SqT K G t' vs' → Lots G vs' bs' → Szd (L + 1) (10 * B) bs' → Q (.ref r') G := fun {G r' t' N' vs' bs'} m pG er e l z => h r' N' bs' G (m1.trans m) pG ⟨t', er, vs', e, l⟩ z
    wtm_at "rd"
    refine ⟨fun σ' G => G = H1 ∧ σ' = [some (.ref p), some (.ref r), some (.int d), some (.int N), some (.ref t), some (.int wy), none, none, none], ?_, ?_⟩
    · wtm_at "rd"
      refine .inl ⟨t, _, rfl, .inr eT1, ?_⟩
      refine ⟨rfl, _, rfl, ite2 (fun _ => ?_) (fun _ => ⟨rfl, rfl⟩)⟩
      refine ⟨_, rfl, _, _, rfl, rfl, _, rfl, ite2 (fun _ => ?_) (fun _ => ⟨rfl, rfl⟩)⟩
      refine ⟨_, rfl, _, rfl, _, rfl, by omega, by omega, fun c nc => ?_⟩
      wtm_at "rd"
      refine ⟨lenLe (n := 2) rfl (by decide), fun pr G2 n2 t2 f2 => ?_⟩
      refine ⟨lenLe (n := 1) rfl (by decide), fun tp G3 n3 t3 f3 => ?_⟩
      refine ⟨lenLe (n := 2) rfl (by decide), fun rr G4 n4 t4 f4 => ?_⟩
      have t0 : L2.Same H1 (upd H1 c (.tup (upToV d.toNat))) := Br.Same.upd nc
      have t24 := t2.trans (t3.trans t4)
      have eu : upToV d.toNat = ((List.range d.toNat).map fun (k : Nat) => (k : Int)).map V.int := by unfold upToV; rw [List.map_map]; rfl
      have ec := t24 _ _ (upd_same (H := H1) (a := c) (o := .tup (upToV d.toNat)))
      rw [eu] at ec
      have hL1 : Lotp G4 (.ref pr) ((List.range d.toNat).map (fun (k : Nat) => (k : Int)), 1) := ⟨pr, c, rfl, (t3.trans t4) _ _ f2, ec⟩
      refine fin (Mo.of (t0.trans t24)) (p1.same (t0.trans t24)) f4 (SqT.of (t4 _ _ f3)) (Lots.one hL1) ⟨by simp, fun q hq => ?_⟩
      rw [List.mem_singleton.mp hq]
      exact ⟨by show List.length _ ≤ _; rw [List.length_map, List.length_range]; omega, by show -(10 * B) ≤ 1; omega, by show 1 ≤ 10 * B; omega⟩
    rintro σ' G ⟨rfl, rfl⟩
    refine ⟨fun σ' G' => (G' = G ∧ bs ≠ []) ∧ σ' = [some (.ref p), some (.ref r), some (.int d), some (.int N), some (.ref t), some (.int wy), none, none, none], ?_, ?_⟩
    · have ret : ∀ σ'' : L2.St, σ'' = [some (.ref p), some (.ref r), some (.int d), some (.int N), some (.ref t), some (.int wy), none, none, none] → True := fun _ _ => trivial
      have go : ∀ (G' : Hp) (rb : Int) (rr : Addr) (G3 : Hp), Mo [p] G G' → Pot G' p → L2.Same G' G3 → G3 rr = some (.tup [.int (N + rb), .ref t]) → Q (.ref rr) G3 := fun G' rb rr G3 m2 p2 t3 f3 => by
       have tu2 := (Tu.mo p1 m2).trans (Tu.of t3)
       exact fin (m2.trans (Mo.of t3)) (p2.same t3) f3 (Tp.tu eT1 tu2) (lv1.tu tu2) (szm hz)
      refine ⟨_, rfl, rfl, _, rfl, ite2 (fun _ => ?_) (fun _ => ?_)⟩
      · refine ite2 (fun _ => ?_) (fun z => absurd rfl z)
        wtm_at "rd"
        refine ⟨p1, fun rb G2 m2 p2 r0 r1 => ?_⟩
        refine .inl ⟨_, _, rfl, rfl, ?_⟩
        wtm_at "rd"
        refine ⟨lenLe (n := 2) rfl (by decide), fun rr G3 n3 t3 f3 => ?_⟩
        exact go G2 rb rr G3 m2 p2 t3 f3
      · wtm_at "rd"
        refine .inl ⟨t, _, rfl, .inr eT1, ?_⟩
        refine ⟨rfl, _, rfl, ite2 (fun _ => ?_) (fun z => ⟨⟨rfl, fun e => ?_⟩, rfl⟩)⟩
        · wtm_at "rd"
          refine ⟨p1, fun rb G2 m2 p2 r0 r1 => ?_⟩
          refine .inl ⟨_, _, rfl, rfl, ?_⟩
          wtm_at "rd"
          refine ⟨lenLe (n := 2) rfl (by decide), fun rr G3 n3 t3 f3 => ?_⟩
          exact go G2 rb rr G3 m2 p2 t3 f3
        · rw [e] at lvl
          rw [List.length_eq_zero_iff.mp lvl] at z
          exact z rfl
    rintro σ' G ⟨⟨rfl, hne⟩, rfl⟩
    refine ⟨fun σ' G' => G' = G ∧ σ' = [some (.ref p), some (.ref r), some (.int d), some (.int N), some (.ref t), some (.int wy), none, none, none], ?_, ?_⟩
    · refine ⟨_, rfl, rfl, _, rfl, ite2 (fun _ => ?_) (fun _ => ⟨rfl, rfl⟩)⟩
      wtm_at "rd"
      refine ⟨p1, fun rb G2 m2 p2 r0 r1 => ?_⟩
      have tu2 := Tu.mo p1 m2
      have eT2 := Tp.tu eT1 tu2
      have lv2 := lv1.tu tu2
      wtm_at "rd"
      have hbp : 0 < vs.length := by rw [lvl]; exact List.length_pos_iff.mpr hne
      have e0 : vs[0]? = some vs[0] := List.getElem?_eq_getElem hbp
      have a0 := atI_nat e0
      generalize vs[0] = v0 at e0 a0
      obtain ⟨q, hqi, pr, cc, rfl, er2, ec2⟩ := lv2.2 0 v0 e0
      have bq := hz.2 q (List.mem_of_getElem? hqi)
      refine .inr (.inl ⟨t, _, _, _, rfl, rfl, eT2, a0, ?_⟩)
      refine ⟨pr, _, rfl, SqT.of er2, rfl, _, _, rfl, _, _, rfl, rfl, ?_⟩
      wtm_at "rd"
      refine ⟨lenLe (n := 2) rfl (by decide), fun np G3 n3 t3 f3 => ?_⟩
      refine ⟨lenLe (n := 1) rfl (by decide), fun tp G4 n4 t4 f4 => ?_⟩
      unfold tNoPart
      have t34 := t3.trans t4
      refine ⟨_, rfl, ?_⟩
      wtm_at "rd"
      refine slS (Tp.same eT2 t34) fun s5 G5 t5 f5 => ?_
      rw [show (1 : Int) = ((1 : Nat) : Int) from rfl, cutDp] at f5
      refine .inr (.inr ⟨tp, s5, _, _, rfl, rfl, SqT.of (t5 _ _ f4), f5, by rw [hsz, List.length_drop]; simp only [List.length_cons, List.length_nil]; have := hz.1; omega, fun s6 G6 t6 f6 => ?_⟩)
      refine ⟨lenLe (n := 2) rfl (by decide), fun rr G7 n7 t7 f7 => ?_⟩
      have t57 := t5.trans (t6.trans t7)
      have t37 := t34.trans t57
      have tu7 := tu2.trans (Tu.of t37)
      have hLn : Lotp G7 (.ref np) (q.1, q.2 + rb) := ⟨np, cc, rfl, (t4.trans t57) _ _ f3, t37 _ _ ec2⟩
      have LL := (Lots.one hLn).append ((lv1.tu tu7).drop 1)
      refine fin (m2.trans (Mo.of t37)) (p2.same t37) f7 (Tp.same f6 t7) LL ⟨by rw [List.length_append, List.length_drop]; simp only [List.length_cons, List.length_nil]; have := hz.1; omega, fun x hx => ?_⟩
      rcases List.mem_append.mp hx with z | z
      · rw [List.mem_singleton.mp z]; exact ⟨by show q.1.length ≤ _; omega, by show _ ≤ q.2 + rb; omega, by show q.2 + rb ≤ _; omega⟩
      · have := hz.2 x (List.mem_of_mem_drop z); omega
    rintro σ' G ⟨rfl, rfl⟩
    wtm_at "rd"
    refine ⟨p, t, bs, L, B, rfl, p1, hf1, hne, hz, hL, hB0, hB1, fun t' bs' G2 m2 p2 f2 z2 => ?_⟩
    obtain ⟨vs', e2, l2⟩ := f2
    refine ⟨lenLe (n := 2) rfl (by decide), fun rr G3 n3 t3 f3 => ?_⟩
    exact fin (m2.trans (Mo.of t3)) (p2.same t3) f3 (Tp.same e2 t3) (l2.tu (Tu.of t3)) z2
end
section
local macro_rules | `(tactic| wtm_at "op") => `(tactic| (apply k_addA; wtm_at "K"))
theorem k_slWc {X : Cx} {K : PySem.W.Frag} (hK : X.K = K) {x : Str} {p q p2 pos : Pos} {es : List Expr} {te : TE} {lo hi : Option Expr} {tl th : TO} (he : JE X (.Call (.Name x p) es [] q) te) (hl : JO X lo tl) (hu : JO X hi th) : JE X (.Subscript (.Call (.Name x p) es [] q) (.Slice lo hi none p2) pos) (tSl (rSlW K) te tl th) := k_slW hK he hl hu
local macro_rules | `(tactic| wtm_at "pe") => `(tactic| first
 | (apply k_slWc; (wtm_at "K"); (wtm_at "pe"); (wtm_at "po"); (wtm_at "po"))
 | fail)
variable {P : Program} {w : World} {K : PySem.W.Frag} {mg : Str → Option Value} {base : Heap}
theorem sum_top : ∀ {l : List Int} {B : Int}, (∀ x ∈ l, x ≤ B) → l.sum ≤ l.length * B
 | [], B, _ => by simp
 | x :: l, B, h => by
  have := sum_top (l := l) fun y hy => h y (.tail _ hy)
  have := h x (.head _)
  rw [List.sum_cons, List.length_cons, Int.natCast_add, Int.add_mul]; omega
theorem le_sum : ∀ {l : List Int} {x : Int}, (∀ y ∈ l, 0 ≤ y) → x ∈ l → x ≤ l.sum
 | y :: l, x, h, m => by
  rw [List.sum_cons]
  have := sum_nonneg (l := l) fun z hz => h z (.tail _ hz)
  rcases List.mem_cons.mp m with z | z
  · omega
  · have := le_sum (l := l) (fun z hz => h z (.tail _ hz)) z
    have := h y (.head _)
    omega
theorem good_szd {ns : List Int} {d N : Int} {bs : List (List Int × Int)} (g : GoodW ns d N bs) (m : IsMost ns d N) (hl : ns.length ≤ 12) (h0 : ∀ x ∈ ns, 0 ≤ x ∧ x ≤ 10 ^ 58) (h1 : 1 ≤ d) (h2 : d ≤ 12) : Szd 20 (10 ^ 60) bs := by
 obtain ⟨g1, g2, _, g4, _⟩ := g
 have hs := sum_top (l := ns) (B := 10 ^ 58) fun x hx => (h0 x hx).2
 have hc := cutS_le_sum ns N
 have he : d * N ≤ cutS ns N := m.2.1
 have h3 : 1 * N ≤ d * N := Int.mul_le_mul_of_nonneg_right h1 m.1
 refine ⟨by omega, fun q hq => ?_⟩
 have q1 := g1 q hq
 have q2 := le_sum (l := bs.map (·.2)) (x := q.2) (fun y hy => by
  obtain ⟨z, hz, rfl⟩ := List.mem_map.mp hy
  have := (g1 z hz).2; omega) (List.mem_map_of_mem hq)
 have := q1.1.2.1
 have := q1.2
 have hl' : (ns.length : Int) * 10 ^ 58 ≤ 12 * 10 ^ 58 := Int.mul_le_mul_of_nonneg_right (by omega) (by decide)
 rw [g2] at q2
 exact ⟨by omega, by omega, by omega⟩
abbrev sLaw : Stmt := top 25
theorem scLaw : FnScope ["script", "cell", "pot", "most", "d", "counts", "told", "turned", "turn", "one", "other"] ["script"] (defScope sLaw) := ⟨rfl, rfl, rfl, by decide +kernel, rfl, by decide +kernel, by decide +kernel⟩
def spLaw (K : PySem.W.Frag) : Sp := fun vs H Q _ => ∃ (a : Addr) (ns : List Int), vs = [.ref a] ∧ SqL K H a (ns.map V.int) ∧ ns.length ≤ 63 ∧ ∀ H', Q (.bl true) H'
theorem ok_law {f : Addr} {fd : FuncData} (F : Fun K "law" "law" sLaw f fd) (cD : Callee CX0 P w K mg base "_law_deal" 1 ["cell", "many"] spDeal) (cT : Callee CX0 P w K mg base "_law_take" 1 ["pot", "many"] spTake) (cC : Callee CX0 P w K mg base "_law_counts" 2 ["pot"] spCounts)
 (cW : Callee CX0 P w K mg base "wheel_of" 2 ["counts", "d"] (spWheel K)) (cA : Callee CX0 P w K mg base "_law_asked" 4 ["counts", "d", "told"] (spAsked K)) (cE : Callee CX0 P w K mg base "_law_exchanged" 2 ["pot", "pairs"] spEx) (cH : Callee CX0 P w K mg base "_law_changed" 5 ["pot", "told", "d"] (spCh K))
 (mR : mg "range" = none) (mN : mg "int" = none) (mM : mg "min" = none) (mT : mg "tuple" = none) : FnOk P w K mg base CX0 6 f fd ["script"] (spLaw K) := by
 refine Br.Fun.j F scLaw (fun vs H Q E h => ?_) (fun cdv A outer s H vs Q E hr h => ?_)
 · obtain ⟨_, _, rfl, _⟩ := h; rfl
 · obtain ⟨a, ns, rfl, hS, hlen, k⟩ := h
   have nd := scLaw.nd
   have hsz : (sizeLine : Nat) = 16777216 := sizeLine_eq
   refine' ⟨_, ?d, ?r⟩
   case d => wtm_at "body"
   case r =>
    wtm_at "rd"
    refine ⟨a, _, rfl, .inl ⟨hS, fun la H1 nla s1 e1 => ?_⟩⟩
    have hcut : cutV (ns.map V.int) none (some 10) = (ns.take 10).map V.int := by
     unfold cutV
     rw [show (10 : Int) = ((10 : Nat) : Int) from rfl, HT.sIx_nat, HT.sIx_none, List.drop_zero, Nat.sub_zero, ← List.map_take, List.length_map]
     congr 1
     rw [List.take_eq_take_iff]; omega
    rw [hcut] at e1
    refine ⟨lenLe (n := 1) rfl (by decide), fun lb H2 nlb s2 e2 => ?_⟩
    refine .inr (.inl ⟨la, lb, _, _, rfl, rfl, s2 _ _ e1, e2, by rw [hsz, List.length_map, List.length_take]; simp only [List.length_cons, List.length_nil]; omega, fun lc H3 nlc s3 e3 => ?_⟩)
    have e3 : H3 lc = some (.lst ((ns.take 10 ++ [0]).map V.int)) := by rw [e3, List.map_append]; rfl
    refine ⟨_, rfl, .inl ⟨⟨_, SqL.of e3⟩, ?_⟩⟩
    refine for_list (K := K) (a := lc) (xs := (ns.take 10 ++ [0]).map V.int) (fun i σ G => L2.Same H3 G ∧ ∃ x1 x2 x3 x4 x5 x6 x7 x8 x9 y1 : Option V, σ = [some (.ref a), x1, x2, x3, x4, x5, x6, x7, x8, x9, y1])
     ⟨L2.Same.refl _, none, none, none, none, none, none, none, none, none, none, rfl⟩ (fun i σ G _ ⟨sG, _⟩ => SqL.of (sG _ _ e3)) ?_ ?_
    · rintro i x σ G hx ⟨sG, x1, x2, x3, x4, x5, x6, x7, x8, x9, y1, rfl⟩
      rw [List.getElem?_map] at hx
      obtain ⟨c, hc, rfl⟩ := Option.map_eq_some_iff.mp hx
      refine ⟨_, rfl, c, 260, rfl, by decide, by decide, fun p G1 np q1 p1 => ?_⟩
      have npH : H3 p = none := by
       cases e : H3 p with
       | none => rfl
       | some o => rw [sG _ _ e] at np; cases np
      have ms : ∀ {A B : Hp}, L2.Same H3 A → Mo [p] A B → L2.Same H3 B := fun {A B} s m b o e => m b o (by simpa using ne_of_none e npH) (s b o e)
      wtm_at "rd"
      refine ⟨lenLe (n := 2) rfl (by decide), fun lm G2 nlm q2 e2' => ?_⟩
      have lmp := p1.ne nlm
      wtm_at "rd"
      refine ⟨p1.same q2, by decide, by decide, fun r1 G3 m3 p3 h10 h11 => ?_⟩
      refine ⟨_, _, rfl, rfl, ?_⟩
      refine .inr ⟨_, rfl, ?_⟩
      obtain ⟨mk, hm1, hm2, hat⟩ : ∃ mk : Nat, 4 ≤ mk ∧ mk ≤ 12 ∧ atI [V.int 12, V.int 7] (if decide ((0 : Int) < r1) = true then 1 else 0) = some (.int (mk : Int)) := by
       generalize decide ((0 : Int) < r1) = wb
       cases wb
       · exact ⟨12, by decide, by decide, rfl⟩
       · exact ⟨7, by decide, by decide, rfl⟩
      refine .inl ⟨lm, _, _, _, rfl, rfl, SqL.of (m3 _ _ (by simpa using lmp) e2'), hat, ?_⟩
      wtm_at "rd"
      refine ⟨lenLe (n := 2) rfl (by decide), fun lm2 G4 nlm2 q4 e4 => ?_⟩
      have lmp2 := p3.ne nlm2
      wtm_at "rd"
      refine ⟨p3.same q4, by decide, by decide, fun r2 G5 m5 p5 h20 h21 => ?_⟩
      obtain ⟨tp, ht1, ht2, hat2⟩ : ∃ tp : Int, 0 < tp ∧ tp ≤ 12 ∧ atI [V.int 4, V.int (mk : Int)] r2 = some (.int tp) := by
       rcases (show r2 = 0 ∨ r2 = 1 by omega) with rfl | rfl
       · exact ⟨4, by decide, by decide, rfl⟩
       · exact ⟨mk, by omega, by omega, rfl⟩
      refine .inl ⟨lm2, _, _, _, rfl, rfl, SqL.of (m5 _ _ (by simpa using lmp2) e4), hat2, ?_⟩
      wtm_at "rd"
      refine ⟨p5, ht1, by omega, fun r3 G6 m6 p6 h30 h31 => ?_⟩
      refine .inl ⟨_, _, rfl, rfl, ?_⟩
      have hd1 : 1 ≤ 1 + r3 := by omega
      have hd2 : 1 + r3 ≤ 12 := by omega
      have s36 : L2.Same H3 G6 := ms ((ms ((ms ((sG.trans q1).trans q2) m3).trans q4) m5)) m6
      wtm_at "rd"
      refine ⟨p6, fun c0 cs0 G7 m7 p7 e7 l7 l7' b7 => ?_⟩
      unfold tNoPart
      refine ⟨_, rfl, ?_⟩
      wtm_at "rd"
      refine slT e7 fun c1 G8 s8 e8 => ?_
      rw [cutTk, ← List.map_take] at e8
      have l1 : (cs0.take mk).length ≤ 12 := by rw [List.length_take]; omega
      have l0 : 1 ≤ (cs0.take mk).length := by rw [List.length_take]; omega
      have b1 : ∀ x ∈ cs0.take mk, 0 ≤ x := fun x hx => (b7 x (List.mem_of_mem_take hx)).1
      generalize cs0.take mk = cs1 at e8 l1 l0 b1
      have s38 := (ms s36 m7).trans s8
      have p8 := p7.same s8
      refine ⟨_, rfl, .inr ⟨⟨_, SqT.of e8⟩, ?_⟩⟩
      refine cmp_tup (K := K) (a := c1) (xs := cs1.map V.int) (fun i ys σ G => G = G8 ∧ ys = (cs1.take i).map (fun x => V.int (if 10 ^ 58 < x then 10 ^ 58 else x)) ∧ ∃ x : Option V, σ = [x, some (.ref a), some (.int c), some (.ref p), some (.int mk), some (.int (1 + r3)), x5, x6, x7, x8, x9, y1])
       ⟨rfl, rfl, none, rfl⟩ (by rw [List.length_map]; omega) (fun i ys σ G _ ⟨z1, z2, _⟩ => ⟨by rw [z1]; exact SqT.of e8, by rw [z2, List.length_map, List.length_take]; omega⟩) ?_ ?_
      · rintro i x ys σ G N' hx ⟨rfl, rfl, x0, rfl⟩ hN
        rw [List.getElem?_map] at hx
        obtain ⟨n, hn, rfl⟩ := Option.map_eq_some_iff.mp hx
        wtm_at "rd"
        refine hN _ _ _ ⟨rfl, ?_, _, rfl⟩
        rw [List.take_add_one, hn, List.map_append]; rfl
      rintro ys σ G ⟨rfl, rfl, x0, rfl⟩ pw G9 hpw s9 e9
      have e9' : G9 pw = some (.lst ((cs1.map fun x => if 10 ^ 58 < x then 10 ^ 58 else x).map V.int)) := by
       rw [e9, List.length_map, List.take_length, List.map_map]; rfl
      refine ⟨pw, _, rfl, SqL.of e9', fun cc G10 nc s10 e10 => ?_⟩
      have l1' : (cs1.map fun x : Int => if 10 ^ 58 < x then 10 ^ 58 else x).length ≤ 12 := by rw [List.length_map]; exact l1
      have l0' : 1 ≤ (cs1.map fun x : Int => if 10 ^ 58 < x then 10 ^ 58 else x).length := by rw [List.length_map]; exact l0
      have b1' : ∀ x ∈ (cs1.map fun x : Int => if 10 ^ 58 < x then 10 ^ 58 else x), 0 ≤ x ∧ x ≤ 10 ^ 58 := fun x hx => by
       obtain ⟨y, hy, rfl⟩ := List.mem_map.mp hx
       have := b1 y hy
       split <;> omega
      generalize (cs1.map fun x : Int => if 10 ^ 58 < x then 10 ^ 58 else x) = cs at e9' e10 l1' l0' b1'
      have sA : L2.Same H3 G10 := s38.trans (s9.trans s10)
      have pA := p8.same (s9.trans s10)
      wtm_at "rd"
      refine ⟨cc, cs, 1 + r3, rfl, e10, l0', by omega, fun x hx => ⟨(b1' x hx).1, by have := (b1' x hx).2; omega⟩, hd1, by omega, fun N r t bs GW sW hM er fz gw => ?_⟩
      have szd := good_szd gw hM l1' b1' hd1 hd2
      have bn0 : ∀ q ∈ bs, Bn (1 + r3) q.1 := fun q hq => ⟨(gw.1 q hq).1.1, (gw.1 q hq).1.2.1⟩
      have rs0 : RisT bs := List.pairwise_map.mp gw.2.2.2.2
      have lb0 : bs.length ≤ 12 := Nat.le_trans gw.2.2.2.1 l1'
      have sB : L2.Same H3 GW := sA.trans sW
      have pW := pA.same sW
      have ecW := sW _ _ e10
      have mkA : ∀ {G : Hp} {r' t' : Addr} {N' : Int} {bs' : List (List Int × Int)}, Tu GW G → G r' = some (.tup [.int N', .ref t']) → FillAt K G t' bs' → bs'.length ≤ 60 → (∀ q ∈ bs', q.1.length ≤ 60) → Ask K G cc r' cs (1 + r3) N' bs' := fun {G r' t' N' bs'} tu e f h1 h2 =>
       ⟨tu _ _ ecW (.inl ⟨_, rfl⟩), ⟨t', e, f⟩, l0', by omega, fun x hx => (b1' x hx).1, hd1, by omega, h1, h2⟩
      refine ⟨fun σ' G' => L2.Same GW G' ∧ σ' = [some (.ref a), some (.int c), some (.ref p), some (.int mk), some (.int (1 + r3)), some (.ref cc), some (.ref r), x7, x8, x9, y1], ?_, ?_⟩
      · refine ⟨_, rfl, _, rfl, _, rfl, cc, r, cs, 1 + r3, N, bs, rfl, mkA (fun _ _ e _ => e) er fz.at (by omega) (fun q hq => by have := (bn0 q hq).2; omega), fun G' s' => ⟨_, rfl, ite2 (fun z => absurd z (by decide)) (fun _ => ⟨s', rfl⟩)⟩⟩
      rintro σ' GA ⟨sA', rfl⟩
      wtm_at "rd"
      refine .inr (.inl ⟨r, _, _, _, rfl, rfl, SqT.of (sA' _ _ er), rfl, ?_⟩)
      have pA' := pW.same sA'
      have sBA := sB.trans sA'
      wtm_at "rd"
      refine ⟨pA', by decide, by decide, fun r4 GB mB pB h40 h41 => ?_⟩
      have tuA : Tu GW GA := Tu.of sA'
      have tuB : Tu GW GB := tuA.trans (Tu.mo pA' mB)
      have sCB : L2.Same H3 GB := ms sBA mB
      refine .inl ⟨_, _, rfl, rfl, _, rfl, by omega, by omega, ?_⟩
      refine for_range (fun k σ G => L2.Same H3 G ∧ Tu GW G ∧ Pot G p ∧ ∃ (tt : Addr) (bs' : List (List Int × Int)) (y : Option V), FillZ G tt bs' ∧ RisT bs' ∧ bs'.length ≤ 12 + 2 * k ∧ (∀ q ∈ bs', Bn (1 + r3) q.1) ∧ σ = [some (.ref a), some (.int c), some (.ref p), some (.int mk), some (.int (1 + r3)), some (.ref cc), some (.ref r), some (.ref tt), y, x9, y1])
       ⟨sCB, tuB, pB, t, bs, x8, fz.tu tuB, rs0, by omega, bn0, rfl⟩ ?_ ?_
      · rintro k σ G hk ⟨sG, tuG, pG, tt, bs', y, fG, rG, lG, bG, rfl⟩
        have hk8 : k < 8 := by omega
        wtm_at "rd"
        refine ⟨p, tt, bs', 12 + 2 * k, 1 + r3, rfl, pG, fG, rG, lG, by omega, hd1, by omega, bG, fun t2 bs2 G2 m2 p2 f2 r2 l2 b2 => ?_⟩
        have tu2 : Tu GW G2 := tuG.trans (Tu.mo pG m2)
        have sG2 := ms sG m2
        refine ⟨fun σ' G' => L2.Same G2 G' ∧ σ' = [some (.ref a), some (.int c), some (.ref p), some (.int mk), some (.int (1 + r3)), some (.ref cc), some (.ref r), some (.ref t2), some (.int (0 + k)), x9, y1], ?_, ?_⟩
        · wtm_at "rd"
          refine .inr (.inl ⟨r, _, _, _, rfl, rfl, SqT.of (tu2 _ _ er (.inl ⟨_, rfl⟩)), rfl, ?_⟩)
          wtm_at "rd"
          refine ⟨lenLe (n := 2) rfl (by decide), fun pr G3 n3 s3 e3 => ?_⟩
          refine ⟨cc, pr, cs, 1 + r3, N, bs2, rfl, mkA (tu2.trans (Tu.of s3)) e3 (f2.tu (Tu.of s3)).at (by omega) (fun q hq => by have := (b2 q hq).2; omega), fun G' s' => ⟨_, rfl, ite2 (fun z => absurd z (by decide)) (fun _ => ⟨s3.trans s', rfl⟩)⟩⟩
        rintro σ' G' ⟨s', rfl⟩
        exact ⟨sG2.trans s', tu2.trans (Tu.of s'), p2.same s', t2, bs2, _, f2.tu (Tu.of s'), r2, by omega, b2, rfl⟩
      · rintro σ G ⟨sG, tuG, pG, tt, bs', y, fG, rG, lG, bG, rfl⟩
        refine ⟨_, rfl, by decide, by decide, for_range (fun k σ G => L2.Same H3 G ∧ Tu GW G ∧ Pot G p ∧ ∃ (y1 y2 y3 : Option V), σ = [some (.ref a), some (.int c), some (.ref p), some (.int mk), some (.int (1 + r3)), some (.ref cc), some (.ref r), some (.ref tt), y1, y2, y3]) ⟨sG, tuG, pG, _, _, _, rfl⟩ ?_ ?_⟩
        · rintro k σ G hk ⟨sG, tuG, pG, z1, z2, z3, rfl⟩
          wtm_at "rd"
          refine ⟨p, r, N, 1 + r3, bs, 20, 10 ^ 60, rfl, pG, ⟨t, tuG _ _ er (.inl ⟨_, rfl⟩), (fz.tu tuG).at⟩, hd1, by omega, szd, by decide, by decide, by omega, by omega, fun r1 N1 bs1 G1 m1 p1 told1 szd1 => ?_⟩
          refine ⟨_, rfl, _, rfl, _, rfl, p, r1, N1, 1 + r3, bs1, 21, 10 * 10 ^ 60, rfl, p1, told1, hd1, by omega, szd1, by decide, by decide, by omega, by omega, fun r2 N2 bs2 G2 m2 p2 told2 szd2 => ?_⟩
          have tu1 : Tu G1 G2 := Tu.mo p1 m2
          have tu2 : Tu GW G2 := (tuG.trans (Tu.mo pG m1)).trans tu1
          have sG2 : L2.Same H3 G2 := ms (ms sG m1) m2
          refine ⟨fun σ' G' => L2.Same G2 G' ∧ σ' = [some (.ref a), some (.int c), some (.ref p), some (.int mk), some (.int (1 + r3)), some (.ref cc), some (.ref r), some (.ref tt), some (.int (0 + k)), some (.ref r1), some (.ref r2)], ?_, ?_⟩
          · obtain ⟨t1, f1, g1⟩ := told1.tu tu1
            obtain ⟨t2, f2, g2⟩ := told2
            refine ⟨_, rfl, _, rfl, _, rfl, cc, r1, cs, 1 + r3, N1, bs1, rfl, mkA tu2 f1 g1 (by have := szd1.1; omega) (fun q hq => by have := (szd1.2 q hq).1; omega), fun G' s' => ⟨_, rfl, ite2 (fun z => absurd z (by decide)) (fun _ => ?_)⟩⟩
            have tu3 := tu2.trans (Tu.of s')
            refine ⟨_, rfl, _, rfl, _, rfl, cc, r2, cs, 1 + r3, N2, bs2, rfl, mkA tu3 (s' _ _ f2) (g2.tu (Tu.of s')) (by have := szd2.1; omega) (fun q hq => by have := (szd2.2 q hq).1; omega), fun G'' s'' => ⟨_, rfl, ite2 (fun z => absurd z (by decide)) (fun _ => ⟨s'.trans s'', rfl⟩)⟩⟩
          rintro σ' G' ⟨s', rfl⟩
          exact ⟨sG2.trans s', tu2.trans (Tu.of s'), p2.same s', _, _, _, rfl⟩
        · rintro σ G ⟨sG, tuG, pG, z1, z2, z3, rfl⟩
          exact ⟨sG, _, _, _, _, _, _, _, _, _, _, rfl⟩
    · rintro σ G ⟨sG, x1, x2, x3, x4, x5, x6, x7, x8, x9, y1, rfl⟩
      exact k _
end
abbrev GAt (K : PySem.W.Frag) (x : Str) (v : Value) : Prop := PySem.W.nsIn K mainGlobals x = some (some v)
abbrev NAt (K : PySem.W.Frag) (x : Str) : Prop := PySem.W.nsIn K mainGlobals x = some none
def DfAt (K : PySem.W.Frag) (x : Str) (st : Stmt) : Prop := ∃ f oc od kV dc pm an cd ct sl, GAt K x (.ref f) ∧ K.lookup f = some ⟨oc, od, .func (PySem.W.fnOf x x (defArgs st) (defBody st) (defScope st) .none kV dc pm an cd ct), sl⟩ ∧ PySem.W.codeIn K cd x = true ∧ PySem.W.keepIn K (.ref f) = true
theorem DfAt.of {K : PySem.W.Frag} {x : Str} {st : Stmt} {f : Addr} {oc kV dc pm cd ct : Value} {od an : Option Addr} {sl : Array (Option Value)} (a : PySem.W.nsIn K mainGlobals x = some (some (.ref f))) (l : K.lookup f = some ⟨oc, od, .func (PySem.W.fnOf x x (defArgs st) (defBody st) (defScope st) .none kV dc pm an cd ct), sl⟩) (c : PySem.W.codeIn K cd x = true) (k : PySem.W.keepIn K (.ref f) = true) : DfAt K x st := ⟨_, _, _, _, _, _, _, _, _, _, a, l, c, k⟩
theorem DfAt.cal {K : PySem.W.Frag} {h : Heap} {mg : Str → Option Value} {x : Str} {st : Stmt} {CX : CXT} {k : Nat} {ps : List Str} {sp : Sp} (d : DfAt K x st) (P : Program) (w : World) (base : Heap) (X : K.In h) (G : h.Ns mainGlobals mg) (ok : ∀ {f : Addr} {fd : FuncData}, Fun K x x st f fd → FnOk P w K mg base CX k f fd ps sp)
 (b : ∀ (kV doc pm : Value) (an : Option Addr) (cdv ct : Value) (us : List Value), us.length = ps.length → bindArgs (PySem.W.fnOf x x (defArgs st) (defBody st) (defScope st) .none kV doc pm an cdv ct) ⟨us, []⟩ = pure (ps.zip us)) : Callee CX P w K mg base x k ps sp :=
 let ⟨_, _, _, _, _, _, _, _, _, _, a, l, c, k⟩ := d; ⟨_, _, ok (fun_mk l c k), PySem.W.mg_of X G a, k, (fun_mk l c k).binds b⟩
local macro_rules | `(tactic| wtm_at "b1") => `(tactic| exact fun _ _ _ _ _ _ us hl => match us, hl with | [_], _ => rfl)
local macro_rules | `(tactic| wtm_at "b2") => `(tactic| exact fun _ _ _ _ _ _ us hl => match us, hl with | [_, _], _ => rfl)
local macro_rules | `(tactic| wtm_at "b3") => `(tactic| exact fun _ _ _ _ _ _ us hl => match us, hl with | [_, _, _], _ => rfl)
local macro_rules | `(tactic| wtm_at "b4") => `(tactic| exact fun _ _ _ _ _ _ us hl => match us, hl with | [_, _, _, _], _ => rfl)
theorem all_mk {l : PySem.W.OpenLaw} {w : World} {K : PySem.W.Frag} {h : Heap} {mg : Str → Option Value} {fa : Addr} (X : K.In h) (G : h.Ns mainGlobals mg) (hfa : mg "law" = some (.ref fa))
 (d1 : DfAt K "_law_deal" sDeal)
 (d2 : DfAt K "_law_take" sTake)
 (d3 : DfAt K "most_bins" sMost)
 (d4 : DfAt K "_law_enough" sEnough)
 (d5 : DfAt K "_law_counts" sCounts)
 (d6 : DfAt K "cut_counts" sCut)
 (d7 : DfAt K "starts_of" sStarts)
 (d8 : DfAt K "counts_in" sCin)
 (d9 : DfAt K "count_of" sCof)
 (d10 : DfAt K "is_rising" sRising)
 (d12 : DfAt K "wheel_of" sWheel)
 (d13 : DfAt K "is_choice" sChoice)
 (d14 : DfAt K "wheel_right" sRight)
 (d15 : DfAt K "_law_wheel" sLwh)
 (d16 : DfAt K "_law_right" sLr)
 (d17 : DfAt K "_law_asked" sAsked)
 (d18 : DfAt K "_law_by" sBy)
 (d19 : DfAt K "_law_colours" sCol)
 (d20 : DfAt K "_law_pairs" sPrs)
 (d21 : DfAt K "_law_exchanged" sEx)
 (d22 : DfAt K "_law_changed" sCh)
 (d23 : DfAt K "law" sLaw)
 (n_range : NAt K "range")
 (n_divmod : NAt K "divmod")
 (n_sorted : NAt K "sorted")
 (n_sum : NAt K "sum")
 (n_max : NAt K "max")
 (n_len : NAt K "len")
 (n_min : NAt K "min")
 (n_tuple : NAt K "tuple")
 (n_all : NAt K "all")
 (n_zip : NAt K "zip")
 (n_enumerate : NAt K "enumerate")
 (n_set : NAt K "set")
 (n_list : NAt K "list")
 (n_isinstance : NAt K "isinstance")
 (n_bool : NAt K "bool")
 (n_dict : NAt K "dict")
 (n_int : NAt K "int") :
 ∃ fd : FuncData, (∀ (s : Shared) (v : Value), BindsTo s fd ⟨[v], []⟩ [("script", v)]) ∧ ∀ base : Heap, K.In base → base.Ns mainGlobals mg → FnOk l.prog w K mg base CX0 6 fa fd ["script"] (spLaw K) := by
 obtain ⟨fL, oc, od, kV, dc, pm, an, cd, ct, sl, aL, lL, cL, kL⟩ := d23
 have e := hfa.symm.trans (PySem.W.mg_of X G aL)
 cases e
 have F23 := fun_mk (st := sLaw) lL cL kL
 have z_range := PySem.W.mg_none_of X G n_range
 have z_divmod := PySem.W.mg_none_of X G n_divmod
 have z_sorted := PySem.W.mg_none_of X G n_sorted
 have z_sum := PySem.W.mg_none_of X G n_sum
 have z_max := PySem.W.mg_none_of X G n_max
 have z_len := PySem.W.mg_none_of X G n_len
 have z_min := PySem.W.mg_none_of X G n_min
 have z_tuple := PySem.W.mg_none_of X G n_tuple
 have z_all := PySem.W.mg_none_of X G n_all
 have z_zip := PySem.W.mg_none_of X G n_zip
 have z_enumerate := PySem.W.mg_none_of X G n_enumerate
 have z_set := PySem.W.mg_none_of X G n_set
 have z_list := PySem.W.mg_none_of X G n_list
 have z_isinstance := PySem.W.mg_none_of X G n_isinstance
 have z_bool := PySem.W.mg_none_of X G n_bool
 have z_dict := PySem.W.mg_none_of X G n_dict
 have z_int := PySem.W.mg_none_of X G n_int
 refine ⟨PySem.W.fnOf "law" "law" (defArgs sLaw) (defBody sLaw) (defScope sLaw) .none kV dc pm an cd ct, fun s v => .of_eq rfl, fun base _ _ => ?_⟩
 have C1 := d1.cal l.prog w base X G (fun F => ok_deal F z_range) (by wtm_at "b2")
 have C2 := d2.cal l.prog w base X G (fun F => ok_take F z_divmod) (by wtm_at "b2")
 have C3 := d3.cal l.prog w base X G (fun F => ok_most F z_sorted z_sum z_max z_len z_range z_min) (by wtm_at "b2")
 have C4 := d4.cal l.prog w base X G (fun F => ok_enough F z_sum z_min) (by wtm_at "b3")
 have C5 := d5.cal l.prog w base X G (fun F => ok_counts F C2 z_range z_tuple) (by wtm_at "b1")
 have C6 := d6.cal l.prog w base X G (fun F => ok_cut F z_min) (by wtm_at "b3")
 have C7 := d7.cal l.prog w base X G (fun F => ok_starts F z_sum z_range z_len) (by wtm_at "b1")
 have C8 := d8.cal l.prog w base X G (fun F => ok_cin F) (by wtm_at "b1")
 have C9 := d9.cal l.prog w base X G (fun F => ok_cof F z_sum) (by wtm_at "b1")
 have C10 := d10.cal l.prog w base X G (fun F => ok_rising F z_all z_zip) (by wtm_at "b1")
 have C11 := d10.cal l.prog w base X G (fun F => ok_risI F z_all z_zip) (by wtm_at "b1")
 have C12 := d12.cal l.prog w base X G (fun F => ok_wheel F C3 C6 C7 z_sorted z_zip z_enumerate z_tuple) (by wtm_at "b2")
 have C13 := d13.cal l.prog w base X G (fun F => ok_choice F C11 z_len z_all) (by wtm_at "b3")
 have C14 := d14.cal l.prog w base X G (fun F => ok_right F C3 C9 C8 C13 C10 z_len z_all) (by wtm_at "b3")
 have C15 := d15.cal l.prog w base X G (fun F => ok_lwh F z_sorted z_set z_all z_list z_len z_sum z_zip) (by wtm_at "b4")
 have C16 := d16.cal l.prog w base X G (fun F => ok_lr F C4 C15) (by wtm_at "b3")
 have C17 := d17.cal l.prog w base X G (fun F => ok_asked F C16 C14 z_isinstance z_bool) (by wtm_at "b3")
 have C18 := d18.cal l.prog w base X G (fun F => ok_by F C2) (by wtm_at "b1")
 have C19 := d19.cal l.prog w base X G (fun F => ok_col F C2 C18 z_len z_sorted z_tuple) (by wtm_at "b2")
 have C20 := d20.cal l.prog w base X G (fun F => ok_prs F C2 C18 C19 z_len z_sorted z_tuple z_list z_max) (by wtm_at "b2")
 have C21 := d21.cal l.prog w base X G (fun F => ok_ex F C2 z_len z_sorted z_tuple z_dict) (by wtm_at "b2")
 have C22 := d22.cal l.prog w base X G (fun F => ok_ch F C2 C18 C20 z_len z_tuple z_range) (by wtm_at "b3")
 exact ok_law F23 C1 C2 C5 C12 C17 C21 C22 z_range z_int z_min z_tuple
theorem walk {l : PySem.W.OpenLaw} {q : Program} {loose : List Str} {XP : (Str → Option Value) → Heap → Prop} {YP : World → Heap → Prop} {d : DefRec} {K : Params → PySem.W.Frag} (hn : l.most = some 63) (hdf : d.params.defaults = [])
 (hY : ∀ (w : World) (h : Heap), YP w h → (K w.params).In h)
 (F : ∀ (w : World) (mg : Str → Option Value) (fa : Addr) (h : Heap), (K w.params).In h → h.Ns mainGlobals mg → mg d.name = some (.ref fa) →
  ∃ fd : FuncData, (∀ (s : Shared) (u : Value), BindsTo s fd ⟨[u], []⟩ [("script", u)]) ∧ ∀ base : Heap, (K w.params).In base → base.Ns mainGlobals mg → FnOk l.prog w (K w.params) mg base CX0 6 fa fd ["script"] (spLaw (K w.params))) :
 PySem.W.WalkO q loose XP YP l.row.toRowW d [] (fun f vs => PySem.call f vs) :=
 L2.walk_of (n := 63) (k := 6) (x := "script") (CX := fun _ => CX0) (sp := fun w => spLaw (K w.params)) hn (by decide) hdf ⟨rfl, by decide, by decide, rfl⟩ hY F (fun _ _ a ns hl _ hS => ⟨a, ns, rfl, hS, hl, fun _ => rfl⟩) fun _ _ _ _ _ z => z
end K75
local macro_rules | `(tactic| wtm_at "keq") => `(tactic| (show _ = _; k_is))
local macro_rules | `(tactic| wtm_at "dat") => `(tactic| (refine' K75.DfAt.of ?a ?l ?c ?k; (case a => k_is); (case l => k_is); (case c => k_is); (case k => k_is)))
def PySem.W.Fast.tw1273857871164525535 : Nat := 0
def PySem.W.Fast.tw9633047977369329642 : Nat := 0
def PySem.W.Fast.tw13908846237870048977 : Nat := 0
def PySem.W.Fast.tw3229797244598295645 : Nat := 0
def PySem.W.Fast.tw14005126006368863330 : Nat := 0
def PySem.W.Fast.tw15453722984710656831 : Nat := 0
def PySem.W.Fast.tw2900767949120356214 : Nat := 0
def PySem.W.Fast.tw12971259191644409012 : Nat := 0
open PySem PySem.W PyProof.Rows
set_option maxRecDepth 100000 in
set_option maxHeartbeats 0 in
theorem PySem.Challenge.cw_brimyard_k75_wheels_judged_holds : PySem.Challenge.rw_brimyard_k75_wheels_judged.Holds := by
 w_on; refine holds_law (by decide +kernel) fun said => ?_
 k_head; (case hw => w_witness2)
 k_fill
 refine K75.walk (l := PySem.Challenge.rw_brimyard_k75_wheels_judged) rfl rfl (fun w h Y => PySem.W.kIn_of Y) ?F
 case F =>
  intro w mg fa h KX G hmg
  refine' K75.all_mk KX G hmg ?d1 ?d2 ?d3 ?d4 ?d5 ?d6 ?d7 ?d8 ?d9 ?d10 ?d12 ?d13 ?d14 ?d15 ?d16 ?d17 ?d18 ?d19 ?d20 ?d21 ?d22 ?d23 ?n_range ?n_divmod ?n_sorted ?n_sum ?n_max ?n_len ?n_min ?n_tuple ?n_all ?n_zip ?n_enumerate ?n_set ?n_list ?n_isinstance ?n_bool ?n_dict ?n_int
  (case d1 | d2 | d3 | d4 | d5 | d6 | d7 | d8 | d9 | d10 | d12 | d13 | d14 | d15 | d16 | d17 | d18 | d19 | d20 | d21 | d22 | d23 => wtm_at "dat")
  (case n_range | n_divmod | n_sorted | n_sum | n_max | n_len | n_min | n_tuple | n_all | n_zip | n_enumerate | n_set | n_list | n_isinstance | n_bool | n_dict | n_int => wtm_at "keq")
