import PyProof.Rows.All
import Wide.All
import OpenK.AllK
import Wide.FinOn
import Lean
import PyProof.EqAt
import PyProof.EqKinds
import PyProof.TupleCall
import PyProof.NeData
import KE.KSortTup
import PyProof.Rows.FStr
import PyProof.AutoIntG2
import PyProof.DictTruth
import PyProof.Rows.CountFlat
import PyProof.Rows.SeqMore
import PyProof.DictWalks
import KE.KItemsList
import PyProof.ReprRoads
import PyProof.ReprLen
import PyProof.Rows.ReprOcc
import KE.KRevIter
import KE.KRevSl
import PyProof.Rows.Range3
import PyProof.DictCompW
import KE.KSortAsk
import PySem.Challenge.RW_brimyard_k16_whole_lean_lots_lie_in_all
set_option compiler.extract_closed false
set_option Elab.async false
set_option linter.all false
set_option maxRecDepth 100000
namespace L2
open PySem PySem.Spec PyProof.Rows
abbrev Key := Sum Int Str
def keyIs : Key → Value → Bool
 | .inl k, v => Value.isInt k v
 | .inr x, v => Value.isStrOf x v
def keyH (w : World) : Key → Int
 | .inl k => hashInt k
 | .inr x => hashStr w x
theorem keyIs_shape : ∀ {k : Key} {v : Value}, keyIs k v = true → (∃ i t, k = Sum.inl i ∧ v = Value.int i t) ∨ (∃ x t, k = Sum.inr x ∧ v = Value.str x t)
 | .inl i, v, h => by
  obtain ⟨t, e⟩ := Value.isInt_shape h
  exact .inl ⟨i, t, rfl, e⟩
 | .inr x, v, h => by
  obtain ⟨t, e⟩ := Value.isStrOf_shape h
  exact .inr ⟨x, t, rfl, e⟩
theorem keyIs_int (i : Int) (t : Tok) : keyIs (.inl i) (.int i t) = true := by simp [keyIs, Value.isInt]
theorem keyIs_str (x : Str) (t : Tok) : keyIs (.inr x) (.str x t) = true := by simp [keyIs, Value.isStrOf]
theorem key_ll (a b : Int) : decide ((Sum.inl a : Key) = Sum.inl b) = (a == b) := by
 by_cases e : a = b
 · simp_all
 simp_all
theorem key_rr (a b : Str) : decide ((Sum.inr a : Key) = Sum.inr b) = decide (a = b) := by simp
theorem key_lr (a : Int) (b : Str) : decide ((Sum.inl a : Key) = Sum.inr b) = false := rfl
theorem key_rl (a : Str) (b : Int) : decide ((Sum.inr a : Key) = Sum.inl b) = false := rfl
def mixKind (prog : Program) (w : World) : PySem.KeyKind prog w Key where
 is := keyIs
 hash := keyH w
 inj := fun v a b ha hb => by
  rcases keyIs_shape ha with ⟨i, t, rfl, rfl⟩ | ⟨x, t, rfl, rfl⟩
  · rcases keyIs_shape hb with ⟨j, u, rfl, e⟩ | ⟨y, u, rfl, e⟩
    · injection e with e1 _; rw [e1]
    · exact nomatch e
  · rcases keyIs_shape hb with ⟨j, u, rfl, e⟩ | ⟨y, u, rfl, e⟩
    · exact nomatch e
    · injection e with e1 _; rw [e1]
 byValue := fun k v h => by
  rcases keyIs_shape h with ⟨i, t, rfl, rfl⟩ | ⟨x, t, rfl, rfl⟩ <;> rfl
 pyHash := fun hv h => by
  rcases keyIs_shape hv with ⟨i, t, rfl, rfl⟩ | ⟨x, t, rfl, rfl⟩
  · exact wpAny_pyHash_int h
  · exact wpAny_pyHash_str h
 eqBool := fun hu hv h => by
  rcases keyIs_shape hu with ⟨i, t, rfl, rfl⟩ | ⟨x, t, rfl, rfl⟩
  · rcases keyIs_shape hv with ⟨j, u, rfl, rfl⟩ | ⟨y, u, rfl, rfl⟩
    · rw [key_ll] at h; exact wpAny_eqBool_int h
    · rw [key_lr] at h; exact SeqAt.EqAt.int_str i t y u _ _ _ _ h
  · rcases keyIs_shape hv with ⟨j, u, rfl, rfl⟩ | ⟨y, u, rfl, rfl⟩
    · rw [key_rl] at h; exact SeqAt.EqAt.str_int x t j u _ _ _ _ h
    · rw [key_rr] at h; exact wpAny_eqBool_str h
 «strs» := fun k x t v h => by
  rcases keyIs_shape h with ⟨i, u, rfl, e⟩ | ⟨y, u, rfl, e⟩
  · exact nomatch e
  · injection e with e1 _
    subst e1
    cases v <;> rfl
theorem mixKind_int (prog : Program) (w : World) (i : Int) (t : Tok) : (mixKind prog w).is (.inl i) (.int i t) = true := keyIs_int i t
theorem mixKind_str (prog : Program) (w : World) (x : Str) (t : Tok) : (mixKind prog w).is (.inr x) (.str x t) = true := keyIs_str x t
inductive V where
 | non | bl (b : Bool) | int (i : Int) | str (x : Str) | byt (b : Array UInt8) | flt (b : UInt64) | ref (a : Addr) | ty (n : String)
 deriving DecidableEq
def RelV : V → Value → Prop
 | .non, u => u = Value.none
 | .bl b, u => u = Value.bool b
 | .int i, u => ∃ t, u = Value.int i t
 | .str x, u => ∃ t, u = Value.str x t
 | .byt b, u => ∃ t, u = Value.bytes b t
 | .flt b, u => ∃ t, u = Value.float b t
 | .ref a, u => u = Value.ref a
 | .ty n, u => u = Value.type n
abbrev Vals : List V → List Value → Prop := Paired RelV
theorem Vals.length (r : Vals xs us) : xs.length = us.length := Paired.length r
theorem Vals.get : ∀ {xs : List V} {us : List Value} {i : Nat} {x : V}, Vals xs us → xs[i]? = some x → ∃ u, us[i]? = some u ∧ RelV x u
 | _, _, _, _, .nil, e => by simp_all
 | _, _, 0, _, .cons r _, e => by simp_all
 | _, _, i + 1, x, .cons _ t, e => by
  obtain ⟨u, h1, h2⟩ := Vals.get t (by assumption)
  simp_all
theorem Vals.set (r : RelV x u) : ∀ {xs : List V} {us : List Value} (i : Nat), Vals xs us → Vals (xs.set i x) (us.set i u)
 | _, _, _, .nil => .nil
 | _, _, 0, .cons _ t => .cons r t
 | _, _, i + 1, .cons q t => .cons q (Vals.set r i t)
theorem Vals.append : ∀ {xs ys : List V} {us ws : List Value}, Vals xs us → Vals ys ws → Vals (xs ++ ys) (us ++ ws)
 | _, _, _, _, .nil, s => s
 | _, _, _, _, .cons r t, s => .cons r (Vals.append t s)
theorem Vals.take : ∀ {xs : List V} {us : List Value} (n : Nat), Vals xs us → Vals (xs.take n) (us.take n)
 | _, _, 0, _ => .nil
 | _, _, _ + 1, .nil => .nil
 | _, _, n + 1, .cons r t => .cons r (Vals.take n t)
theorem Vals.drop : ∀ {xs : List V} {us : List Value} (n : Nat), Vals xs us → Vals (xs.drop n) (us.drop n)
 | _, _, 0, r => r
 | _, _, _ + 1, .nil => .nil
 | _, _, n + 1, .cons _ t => Vals.drop n t
def RelO : Option V → Option Value → Prop
 | some v, some u => RelV v u
 | none, none => True
 | _, _ => False
def KV {κ : Type} : List (κ × V) → List (κ × Value) → Prop := Paired fun (p : κ × V) (q : κ × Value) => p.1 = q.1 ∧ RelV p.2 q.2
def kV : Key → V
 | .inl i => .int i
 | .inr x => .str x
inductive HO where
 | lst (xs : List V)
 | tup (xs : List V)
 | dK (kvs : List (Key × V)) | dT (kvs : List (List Key × V))
 | set (S : Int → Bool) (n : Nat)
 | ins (C dx : Addr) (fs : List (Str × V))
 | own (x : Addr)
 | xd (fs : List (Str × V))
 | met (f x : Addr)
 | rng (lo hi : Int)
 | frz (o : Obj) (u : HO)
 | tbl (ps : Array Value)
 | ext (φ : Heap → Prop)
abbrev Hp := Addr → Option HO
def upd (H : Hp) (a : Addr) (o : HO) : Hp := fun b => if b = a then some o else H b
theorem upd_same : upd H a o a = some o := by unfold upd; simp
theorem upd_ne (h : b ≠ a) : upd H a o b = H b := by unfold upd; simp_all
theorem ne_of {H : Hp} {a b : Addr} {o u : HO} (h : H a = some o) (h' : H b = some u) (d : o ≠ u) : a ≠ b := by
 intro e; subst e; rw [h] at h'; exact d (Option.some.inj h')
theorem ne_of_none {H : Hp} (h : H a = some o) (h' : H b = none) : a ≠ b := by grind
def IsTupB (h : Heap) (a : Addr) (items : Array Value) : Prop := ∃ o, h.get? a = some o ∧ o.cls = .type "tuple" ∧ o.dict = none ∧ ∃ n, o.data = .seq items n
theorem IsTupB.tup {h : Heap} {a : Addr} {items : Array Value} (x : IsTupB h a items) : IsTup h a items := let ⟨o, e, c, _, n⟩ := x; ⟨o, e, c, n⟩
theorem IsTupB.lt {h : Heap} {a : Addr} {items : Array Value} (x : IsTupB h a items) : a < h.objs.size := x.tup.lt
theorem IsTupB.new (h : Heap) (items : Array Value) : IsTupB (h.push { cls := .type "tuple", data := .seq items }) h.objs.size items := ⟨_, Heap.get?_push_size _ rfl, rfl, rfl, _, rfl⟩
section
variable (P : Program) (w : World)
def ObjOk (H : Hp) (h : Heap) (a : Addr) : HO → Prop
 | .lst xs => xs.length ≤ sizeLine ∧ ∃ (its : List Value) (n : Nat), Vals xs its ∧ h.get? a = some { cls := .type "list", data := .seq its.toArray n }
 | .tup xs => xs.length ≤ sizeLine ∧ ∃ its : List Value, Vals xs its ∧ IsTupB h a its.toArray
 | .dK kvs => kvs.length ≤ sizeLine ∧ (a == sysModules) = false ∧ ∃ vs, KV kvs vs ∧ h.DictOf (mixKind P w) a vs
 | .dT kvs => kvs.length ≤ sizeLine ∧ (a == sysModules) = false ∧ ∃ xs : List (List Key × Addr × Value),
  Paired (fun (p : List Key × V) (q : List Key × Addr × Value) => p.1 = q.1 ∧ H q.2.1 = some (.tup (p.1.map kV)) ∧ RelV p.2 q.2.2) kvs xs ∧
  ∃ o es ep, h.get? a = some o ∧ o.ExactDict ∧ o.data = .dict es ep ∧ es.toList = xs.map (entryOfKey (tupleKind (mixKind P w))) ∧ (xs.map (·.1)).Nodup
 | .set S n => h.SetOf (intKind P w) a S n
 | .ins C dx fs => H dx = some (.own a) ∧ fs.length ≤ 1000 ∧ dx ≠ a ∧ h.get? a = some (PySem.W.instObj C dx) ∧
  ∃ mA, h.Ns1 dx mA ∧ (∀ f, RelO (fs.lookup f) (mA f)) ∧ PySem.Within mA (fs.map (·.1))
 | .own _ => ∃ o, h.get? a = some o
 | .xd fs => ∃ mA, h.Ns1 a mA ∧ ∀ f, RelO (fs.lookup f) (mA f)
 | .rng lo hi => ∃ t u v, h.get? a = some { cls := .type "range", data := .fields #[.int lo t, .int hi u, .int 1 v] }
 | .frz o u => h.get? a = some o ∧ ObjOk H h a u
 | .tbl ps => h.get? a = some { cls := .none, data := .fields ps }
 | .met f x => h.get? a = some (PySem.W.methodObj (.ref f) (.ref x))
 | .ext φ => φ h ∧ (∃ o, h.get? a = some o) ∧ ∀ h1 h2 : Heap, φ h1 → (∀ o, h1.get? a = some o → h2.get? a = some o) → φ h2
def HOk (H : Hp) (h : Heap) : Prop := ∀ a o, H a = some o → ObjOk P w H h a o
end
section
variable {a : Addr}
theorem ObjOk.lt (x : ObjOk P w H h a o) : a < h.objs.size := by
 cases o with
 | lst xs => obtain ⟨_, _, _, _, e⟩ := x; exact Heap.lt_size e
 | tup xs => obtain ⟨_, _, _, p⟩ := x; exact p.lt
 | dK kvs => obtain ⟨_, _, _, _, o, _, _, e, _⟩ := x; exact Heap.lt_size e
 | dT kvs => obtain ⟨_, _, _, _, o, _, _, e, _⟩ := x; exact Heap.lt_size e
 | set S n => obtain ⟨o, _, _, _, e, _⟩ := x; exact Heap.lt_size e
 | ins C dx fs => obtain ⟨_, _, _, e, _⟩ := x; exact Heap.lt_size e
 | own y => obtain ⟨_, e⟩ := x; exact Heap.lt_size e
 | xd fs => obtain ⟨_, ⟨_, _, _, e, _⟩, _⟩ := x; exact Heap.lt_size e
 | rng lo hi => obtain ⟨_, _, _, e⟩ := x; exact Heap.lt_size e
 | frz ob u => obtain ⟨e, _⟩ := x; exact Heap.lt_size e
 | tbl ps => exact Heap.lt_size (x)
 | met f y => exact Heap.lt_size (x)
 | ext φ => obtain ⟨_, ⟨_, e⟩, _⟩ := x; exact Heap.lt_size e
theorem Paired.mapP : ∀ {l₁ : List α} {l₂ : List β}, Paired F l₁ l₂ → (∀ a b, F a b → G a b) → Paired G l₁ l₂
 | _, _, .nil, _ => .nil
 | _, _, .cons r t, f => .cons (f _ _ r) (Paired.mapP t f)
theorem ObjOk.stay (x : ObjOk P w H h a o) (k : ∀ b u, (b = a ∨ H b = some (.own a)) → h.get? b = some u → h'.get? b = some u)
 (ho : ∀ b, H b = some (.own a) → H' b = some (.own a)) (ht : ∀ b xs, H b = some (.tup xs) → H' b = some (.tup xs)) : ObjOk P w H' h' a o := by
 induction o with
 | lst xs => obtain ⟨z, its, n, r, e⟩ := x; exact ⟨z, its, n, r, k _ _ (.inl rfl) e⟩
 | tup xs => obtain ⟨z, its, r, ob, e, c⟩ := x; exact ⟨z, its, r, ob, k _ _ (.inl rfl) e, c⟩
 | dK kvs => obtain ⟨z, y, vs, r, ob, es, ep, e, c⟩ := x; exact ⟨z, y, vs, r, ob, es, ep, k _ _ (.inl rfl) e, c⟩
 | dT kvs =>
  obtain ⟨z, y, xs, r, ob, es, ep, e, c⟩ := x
  exact ⟨z, y, xs, Paired.mapP r fun p q z => ⟨z.1, ht _ _ z.2.1, z.2.2⟩, ob, es, ep, k _ _ (.inl rfl) e, c⟩
 | set S n => obtain ⟨ob, es, ep, t, e, c⟩ := x; exact ⟨ob, es, ep, t, k _ _ (.inl rfl) e, c⟩
 | ins C dx fs =>
  obtain ⟨d, z, ne, e, mA, ⟨od, es, ep, e2, c⟩, r⟩ := x
  exact ⟨ho _ d, z, ne, k _ _ (.inl rfl) e, mA, ⟨od, es, ep, k _ _ (.inr d) e2, c⟩, r⟩
 | own y => obtain ⟨ob, e⟩ := x; exact ⟨ob, k _ _ (.inl rfl) e⟩
 | xd fs => obtain ⟨mA, ⟨od, es, ep, e, c⟩, r⟩ := x; exact ⟨mA, ⟨od, es, ep, k _ _ (.inl rfl) e, c⟩, r⟩
 | rng lo hi => obtain ⟨t, u, v, e⟩ := x; exact ⟨t, u, v, k _ _ (.inl rfl) e⟩
 | frz ob u ih => obtain ⟨e, q⟩ := x; exact ⟨k _ _ (.inl rfl) e, ih q⟩
 | tbl ps =>
  have e : h.get? a = some { cls := .none, data := .fields ps } := x
  show h'.get? a = some { cls := .none, data := .fields ps }
  exact k a _ (.inl rfl) e
 | met f y =>
  have e : h.get? a = some (PySem.W.methodObj (.ref f) (.ref y)) := x
  show h'.get? a = some (PySem.W.methodObj (.ref f) (.ref y))
  exact k a _ (.inl rfl) e
 | ext φ => obtain ⟨p, ⟨o, e⟩, st⟩ := x; exact ⟨st _ _ p fun o q => k _ _ (.inl rfl) q, ⟨o, k _ _ (.inl rfl) e⟩, st⟩
theorem HOk.lt (x : HOk P w H h) (e : H a = some o) : a < h.objs.size := (x a o e).lt
theorem HOk.fresh (x : HOk P w H h) (e : h.objs.size ≤ a) : H a = none := by
 cases q : H a with
 | none => rfl
 | some u => exact absurd (Nat.lt_of_lt_of_le (x.lt q) e) (Nat.lt_irrefl _)
theorem HOk.kept (x : HOk P w H h) (k : ∀ b u, h.get? b = some u → h'.get? b = some u) : HOk P w H h' := fun a o e =>
 (x a o e).stay (fun b u _ q => k b u q) (fun _ q => q) fun _ _ q => q
theorem HOk.laid (x : HOk P w H h) (k : ∀ b u, h.get? b = some u → h'.get? b = some u) (hp : h.objs.size ≤ a) (new : ObjOk P w (upd H a o) h' a o) : HOk P w (upd H a o) h' := fun b u e => by
 have hn := x.fresh hp
 by_cases hb : b = a
 · subst hb; rw [upd_same] at e; cases e; exact new
 · rw [upd_ne hb] at e
   exact (x b u e).stay (fun c v _ q => k c v q) (fun c q => by rw [upd_ne (ne_of_none q hn)]; exact q) fun c xs q => by rw [upd_ne (ne_of_none q hn)]; exact q
end
def Rd (H : Hp) (a : Addr) (u : HO) : Prop := H a = some u ∨ ∃ o, H a = some (.frz o u)
theorem Rd.ok (r : Rd H a u) (x : HOk P w H h) : ObjOk P w H h a u := by
 rcases r with r | ⟨o, r⟩
 · exact x a u r
 · obtain ⟨_, q⟩ := x a _ r
   omega
def Mut : Option HO → Prop
 | some (.lst _) => True
 | some (.dK _) => True
 | some (.dT _) => True
 | some (.set _ _) => True
 | some (.ins _ _ _) => True
 | some (.ext _) => True
 | _ => False
section
theorem HOk.write (ok : HOk P w H h) (mu : Mut (H x)) (he : e = x ∨ H e = some (.own x)) (k : ∀ b u, b ≠ e → h.get? b = some u → h'.get? b = some u) (heo : ∃ u, h'.get? e = some u)
 (new : ObjOk P w (upd H x o') h' x o') : HOk P w (upd H x o') h' := fun b u q => by
 have nown : ∀ c y, H c = some (.own y) → c ≠ x := fun c y r z => by subst z; rw [r] at mu; exact mu
 have ntup : ∀ c xs, H c = some (.tup xs) → c ≠ x := fun c xs r z => by subst z; rw [r] at mu; exact mu
 by_cases hb : b = x
 · subst hb; rw [upd_same] at q; cases q; exact new
 · rw [upd_ne hb] at q
   by_cases hbe : b = e
   · have q' : H b = some (.own x) := by
      rcases he with z | z
      · exact absurd (hbe.trans z) hb
      · rw [hbe]; exact z
     rw [q] at q'; cases q'
     obtain ⟨v, hv⟩ := heo
     exact ⟨v, by rw [hbe]; exact hv⟩
   · refine (ok b u q).stay (fun c v hc r => k c v ?_ r) (fun c r => by rw [upd_ne (nown c b r)]; exact r) fun c xs r => by rw [upd_ne (ntup c xs r)]; exact r
     rcases hc with rfl | hc
     · exact hbe
     · rintro rfl
       rcases he with z | z
       · exact nown c b hc z
       · rw [hc] at z; cases z; exact hb rfl
end
structure Un (fs ex : List Addr) (H H' : Hp) (h h' : Heap) : Prop where
 keep : ∀ b o, h.get? b = some o → H b = none → b ∉ fs → b ∉ ex → h'.get? b = some o
 slot : ∀ b o, h.get? b = some o → H b = none → b ∈ fs → b ∉ ex → ∃ sl, h'.get? b = some { o with slots := sl }
 free : ∀ b o, h.get? b = some o → H b = none → b ∉ ex → H' b = none
 there : ∀ b o, h.get? b = some o → b ∉ ex → ∃ o', h'.get? b = some o'
 tups : ∀ b xs, H b = some (.tup xs) → H' b = some (.tup xs)
 frzs : ∀ b o u, H b = some (.frz o u) → H' b = some (.frz o u)
 tbls : ∀ b ps, H b = some (.tbl ps) → ∃ more, H' b = some (.tbl (ps ++ more))
section
variable {h h1 h2 h' : Heap} {a x e : Addr}
theorem Un.any (u : Un fs ex H H1 h h1) (q : h.get? b = some ob) (n : H b = none) (hx : b ∉ ex) : ∃ sl, h1.get? b = some { ob with slots := sl } := by
 by_cases hb : b ∈ fs
 · exact u.slot b ob q n hb hx
 · exact ⟨ob.slots, u.keep b ob q n hb hx⟩
theorem Un.kept (k : ∀ b u, h.get? b = some u → h'.get? b = some u) : Un fs ex H H h h' :=
 ⟨fun b ob q _ _ _ => k b ob q, fun b ob q _ _ _ => ⟨ob.slots, k b ob q⟩, fun _ _ _ n _ => n, fun b ob q _ => ⟨ob, k b ob q⟩, fun _ _ q => q, fun _ _ _ q => q, fun _ ps q => ⟨#[], by simp_all⟩⟩
theorem Un.refl : Un fs ex H H h h := Un.kept fun _ _ q => q
theorem Un.laid (k : ∀ b u, h.get? b = some u → h'.get? b = some u) (hp : h.objs.size ≤ a) (hn : H a = none) : Un fs ex H (upd H a o) h h' where
 keep := fun b u q _ _ _ => k b u q
 slot := fun b u q _ _ _ => ⟨u.slots, k b u q⟩
 free := fun b u q n _ => by rw [upd_ne (Nat.ne_of_lt (Nat.lt_of_lt_of_le (Heap.lt_size q) hp))]; omega
 there := fun b u q _ => ⟨u, k b u q⟩
 tups := fun b xs q => by rw [upd_ne (ne_of_none q hn)]; omega
 frzs := fun b u xs q => by rw [upd_ne (ne_of_none q hn)]; omega
 tbls := fun b ps q => ⟨#[], by rw [upd_ne (ne_of_none q hn), q]; simp⟩
theorem Un.write (mu : Mut (H x)) (he : e = x ∨ H e = some (.own x)) (k : ∀ b u, b ≠ e → h.get? b = some u → h'.get? b = some u) (heo : ∃ u, h'.get? e = some u) : Un fs ex H (upd H x o) h h' := by
 have hx : ∀ b, H b = none → b ≠ x := fun b n z => by subst z; rw [n] at mu; exact mu
 have hb : ∀ b, H b = none → b ≠ e := fun b n z => by simp_all
 have hm : ∀ b u, H b = some u → ¬ Mut (some u) → b ≠ x := fun b u q nm z => by grind
 refine ⟨fun b u q n _ _ => k b u (hb b n) q, fun b u q n _ _ => ⟨u.slots, k b u (hb b n) q⟩, fun b u q n _ => by rw [upd_ne (hx b n)]; exact n, fun b u q _ => ?_,
  fun b xs q => by rw [upd_ne (hm b _ q fun z => z)]; exact q, fun b u xs q => by rw [upd_ne (hm b _ q fun z => z)]; exact q, fun b ps q => ⟨#[], by rw [upd_ne (hm b _ q fun z => z), q]; simp⟩⟩
 by_cases hbe : b = e
 · simp_all
 · exact ⟨u, k b u hbe q⟩
end
def trk (h : Heap) (H : Hp) : List Addr := (List.range h.objs.size).filter fun a => (H a).isSome
def hidT (h : Heap) (H : Hp) : Heap := PySem.W.hideAll h (trk h H)
theorem hidT_size (h : Heap) (H : Hp) : (hidT h H).objs.size = h.objs.size := PySem.W.hideAll_size _ _
theorem hidT_get (e : h.get? b = some o) (n : H b = none) : (hidT h H).get? b = some o :=
 PySem.W.hideAll_get _ e fun hm => by
  have q := (List.mem_filter.mp hm).2
  simp_all
theorem of_hidT (e : (hidT h H).get? b = some o) : h.get? b = some o ∧ H b = none := by
 have e' := PySem.W.of_hideAll _ e
 refine ⟨e', ?_⟩
 cases q : H b with
 | none => rfl
 | some x =>
  have hm : b ∈ trk h H := List.mem_filter.mpr ⟨List.mem_range.mpr (Heap.lt_size e'), by simp [q]⟩
  have z : (hidT h H).get? b = none := PySem.W.hideAll_none _ hm
  grind
def allNews (g h : Heap) (L : Addr) : List (Addr × Obj) := (List.range h.objs.size).filterMap fun a => if a = L ∨ (g.get? a).isSome = true then none else (h.get? a).map fun o => (a, o)
def rest (g h : Heap) (L d : Addr) : List (Addr × Obj) := (allNews g h L).filter fun p => decide (p.1 ≠ d)
structure Mod (K : PySem.W.Frag) (mg : Str → Option Value) (base : Heap) : Prop where
 kin : K.In base
 glob : base.Ns mainGlobals mg
 blt : ∃ mb, base.Ns builtinsNs mb ∧ ∀ x : Str, x ≠ "__name__" → mb x = bootBuiltins x
 nolimit : base.NoLimit
structure Cx where
 prog : Program
 w : World
 K : PySem.W.Frag
 mg : Str → Option Value
 base : Heap
 A : Around
 N : List Str
 s₀ : Shared
 H₀ : Hp
 env : Env
 outer : List Env
 stack : List Env
 ex : List Addr
 fn : Str → Bool
 calm : Bool
 pn : List (Addr × Obj)
 xe : Value → Shared → Prop
def frs (l : List Env) : List Addr := l.filterMap (·.frame)
abbrev Cx.fs (X : Cx) : List Addr := frs X.outer
def Vis (sc : Scope) (x : Str) : Prop := sc.names.lookup x = some .local ∨ sc.names.lookup x = some .cell ∨ sc.names.lookup x = some .free
def Loc (sc : Scope) (x : Str) : Prop := sc.names.lookup x = some .local ∨ sc.names.lookup x = some .cell
def Look (env : Env) (h : Heap) (m : Str → Option Value) (x : Str) (u : Value) : Prop :=
 (env.kindOf x = some .local ∧ m x = some u) ∨ ((env.kindOf x = some .cell ∨ env.kindOf x = some .free) ∧ ∃ c, env.cells.lookup x = some c ∧ h.IsCell c (some u))
structure Cx.Ok (X : Cx) : Prop where
 mod : Mod X.K X.mg X.base
 kind : X.env.scope.kind = .function
 glob : X.env.globals = mainGlobals
 blt : X.env.builtins = builtinsNs
 above : X.s₀.heap.objs.size ≤ X.env.locals
 inj : ∀ x y c, X.env.cells.lookup x = some c → X.env.cells.lookup y = some c → x = y
 has : ∀ x, (X.env.kindOf x = some .cell ∨ X.env.kindOf x = some .free) → ∃ c, X.env.cells.lookup x = some c
 cab : ∀ x c, X.fn x = true → X.env.cells.lookup x = some c → X.s₀.heap.objs.size ≤ c
 hd : X.calm = true → X.A.handled = none
 frames : X.A.frames = some X.stack
 stk : X.stack = X.outer ∨ (X.stack = X.env :: X.outer ∧ X.env.frame = some X.env.locals)
 exf : ∀ b ∈ X.ex, b ≠ X.env.locals ∧ ∀ x c, X.env.cells.lookup x = some c → c ≠ b
 bs : ∀ b o, X.base.get? b = some o → X.s₀.heap.get? b = some o ∧ X.H₀ b = none
 bsz : X.base.objs.size ≤ X.s₀.heap.objs.size
 noex : ∀ b o, X.base.get? b = some o → b ∉ X.ex
 exfs : ∀ b ∈ X.ex, b ∉ X.fs
 funs : X.s₀.heap.FunFrames X.base X.outer
 frf : ∀ b ∈ X.fs, X.H₀ b = none
structure Inv (X : Cx) (pins : List (Addr × Obj)) (σ : List (Option V)) (H : Hp) (s : Shared) : Prop where
 ok : X.Ok
 os : s.os = X.s₀.os
 bare : AllBare s.gens
 base : Un X.fs X.ex X.H₀ H X.s₀.heap s.heap
 loc : ∃ m, s.heap.Ns X.env.locals m ∧ ∀ (i : Nat) (x : Str) (v : V), X.N[i]? = some x → σ[i]? = some (some v) → Vis X.env.scope x → ∃ u, RelV v u ∧ Look X.env s.heap m x u
 cell : ∀ x c, X.env.cells.lookup x = some c → ∃ v, s.heap.IsCell c v
 free : H X.env.locals = none
 freeC : ∀ x c, X.env.cells.lookup x = some c → H c = none
 pin : ∀ p ∈ X.pn ++ pins, s.heap.get? p.1 = some p.2 ∧ H p.1 = none ∧ p.1 ≠ X.env.locals ∧ p.1 ∉ X.fs ∧ ∀ v, p.2.data ≠ .cell v
 hok : HOk X.prog X.w H s.heap
 len : σ.length = X.N.length
section
variable {X : Cx}
theorem Cx.Ok.nofr (ok : X.Ok) (e : X.base.get? b = some o) : b ∉ X.fs := fun hb => by
 have := (ok.funs.mem hb).1
 grind
theorem Inv.bs (I : Inv X pins σ H s) : ∀ b o, X.base.get? b = some o → s.heap.get? b = some o ∧ H b = none := fun b o e =>
 ⟨I.base.keep b o (I.ok.bs b o e).1 (I.ok.bs b o e).2 (I.ok.nofr e) (I.ok.noex b o e), I.base.free b o (I.ok.bs b o e).1 (I.ok.bs b o e).2 (I.ok.noex b o e)⟩
theorem Inv.bk (I : Inv X pins σ H s) : ∀ b o, X.base.get? b = some o → s.heap.get? b = some o := fun b o e => (I.bs b o e).1
theorem Inv.mod (I : Inv X pins σ H s) : Mod X.K X.mg X.base := I.ok.mod
theorem Inv.kIn (I : Inv X pins σ H s) : X.K.In s.heap := I.ok.mod.kin.keeps I.bk
theorem Inv.lt (I : Inv X pins σ H s) : X.env.locals < s.heap.objs.size := let ⟨_, hn, _⟩ := I.loc; hn.lt
theorem Inv.sz (I : Inv X pins σ H s) : X.s₀.heap.objs.size ≤ s.heap.objs.size := Nat.le_trans I.ok.above (Nat.le_of_lt I.lt)
theorem Inv.nofs (I : Inv X pins σ H s) {a : Addr} (h : s.heap.objs.size ≤ a) : a ∉ X.fs := fun hb => by
 obtain ⟨_, o, ho, _⟩ := I.ok.funs.mem hb
 exact absurd (Nat.lt_of_lt_of_le (Heap.lt_size ho) (Nat.le_trans I.sz h)) (Nat.lt_irrefl _)
theorem Inv.cne (I : Inv X pins σ H s) : ∀ x c, X.env.cells.lookup x = some c → c ≠ X.env.locals := fun x c e z => by
 obtain ⟨v, o, ho, hd⟩ := I.cell x c e
 obtain ⟨m, ⟨o', es, ep, ho', hd', _⟩, _⟩ := I.loc
 grind
theorem Inv.funs (I : Inv X pins σ H s) : s.heap.FunFrames X.base X.outer := by
 have all : ∀ (l : List Env), (∀ b ∈ frs l, b ∈ X.fs) → X.s₀.heap.FunFrames X.base l → s.heap.FunFrames X.base l := by
  intro l
  induction l with
  | nil => intro _ _; trivial
  | cons env r ih =>
   intro hs hl
   obtain ⟨hk, ⟨L, o, hf, hn, ho, hd⟩, hr⟩ := hl
   have hL := hs L (by unfold frs; simp_all)
   obtain ⟨sl, e⟩ := I.base.slot L o ho (I.ok.frf L hL) hL fun z => I.ok.exfs L z hL
   exact ⟨hk, ⟨L, _, hf, hn, e, hd⟩, ih (fun b hb => hs b (by unfold frs; rw [List.filterMap_cons, hf]; exact List.mem_cons_of_mem _ hb)) hr⟩
 exact all X.outer (fun _ hb => hb) I.ok.funs
theorem Inv.stack (I : Inv X pins σ H s) : s.heap.FunFrames X.base X.stack := by
 rcases I.ok.stk with e | ⟨e, hf⟩
 · rw [e]; exact I.funs
 · rw [e]
   obtain ⟨m, hn, _⟩ := I.loc
   refine .cons (by rw [I.ok.kind]; decide) hf hn ?_ I.funs
   exact Heap.get?_none_of_le (Nat.le_trans I.ok.bsz I.ok.above)
theorem Inv.stkSub (I : Inv X pins σ H s) : ∀ b ∈ frs X.stack, b ∈ X.env.locals :: X.fs := fun b hb => by
 rcases I.ok.stk with e | ⟨e, hf⟩
 · simp_all
 · rw [e] at hb
   unfold frs at hb
   rw [List.filterMap_cons, hf] at hb
   exact hb
theorem Inv.stkFree (I : Inv X pins σ H s) : ∀ b ∈ frs X.stack, H b = none := fun b hb => by
 rcases List.mem_cons.mp (I.stkSub b hb) with e | hb
 · rw [e]; exact I.free
 · obtain ⟨_, o, ho, _⟩ := I.ok.funs.mem hb
   exact I.base.free b o ho (I.ok.frf b hb) fun z => I.ok.exfs b z hb
theorem Inv.step {g' : Array GenState} {t' : Nat} {d' : Drawn} {ch : List Addr} (I : Inv X pins σ H s)
 (hch : ∀ b ∈ ch, (b ∈ X.ex ∨ X.s₀.heap.objs.size ≤ b) ∧ b ≠ X.env.locals ∧ (∀ x c, X.env.cells.lookup x = some c → c ≠ b) ∧ ∀ p ∈ X.pn ++ pins, p.1 ≠ b)
 (keep : ∀ b o, b ≠ X.env.locals → b ∉ X.fs → b ∉ ch → s.heap.get? b = some o → H b = none → h'.get? b = some o)
 (slot : ∀ b o, b ≠ X.env.locals → b ∈ X.fs → b ∉ ch → s.heap.get? b = some o → H b = none → ∃ sl, h'.get? b = some { o with slots := sl }) (free : ∀ b o, b ∉ ch → s.heap.get? b = some o → H b = none → H' b = none)
 (there : ∀ b o, b ∉ ch → s.heap.get? b = some o → ∃ o', h'.get? b = some o')
 (tups : ∀ b xs, H b = some (.tup xs) → H' b = some (.tup xs)) (frzs : ∀ b o u, H b = some (.frz o u) → H' b = some (.frz o u)) (tbls : ∀ b ps, H b = some (.tbl ps) → ∃ more, H' b = some (.tbl (ps ++ more)))
 (ns : ∀ m, s.heap.Ns X.env.locals m → h'.Ns X.env.locals m) (hok : HOk X.prog X.w H' h') (hg : AllBare g') :
 Inv X pins σ H' { s with heap := h', gens := g', drawn := d', toks := t' } := by
 have neL : ∀ b o, X.s₀.heap.get? b = some o → b ≠ X.env.locals := fun b o e => Nat.ne_of_lt (Nat.lt_of_lt_of_le (Heap.lt_size e) I.ok.above)
 have neC : ∀ b o, X.s₀.heap.get? b = some o → b ∉ X.ex → b ∉ ch := fun b o e hx hb => by
  rcases (hch b hb).1 with z | z
  · exact hx z
  · exact absurd (Nat.lt_of_lt_of_le (Heap.lt_size e) z) (Nat.lt_irrefl _)
 have cellK : ∀ x c, X.env.cells.lookup x = some c → ∀ v, s.heap.IsCell c v → h'.IsCell c v := fun x c e v ⟨o, ho, hd⟩ => by
  have nch : c ∉ ch := fun z => (hch c z).2.2.1 x c e rfl
  by_cases hc : c ∈ X.fs
  · obtain ⟨sl, q⟩ := slot c o (I.cne x c e) hc nch ho (I.freeC x c e)
    exact ⟨_, q, hd⟩
  · exact ⟨o, keep c o (I.cne x c e) hc nch ho (I.freeC x c e), hd⟩
 refine ⟨I.ok, I.os, hg, ⟨fun b o e n hb hx => ?_, fun b o e n hb hx => ?_, fun b o e n hx => ?_, fun b o e hx => ?_, fun b xs e => tups b xs (I.base.tups b xs e), fun b o xs e => frzs b o xs (I.base.frzs b o xs e), fun b ps e => ?_⟩, ?_, fun x c e => ?_, ?_, fun x c e => ?_, fun p hp => ?_, hok, I.len⟩
 · exact keep b o (neL b o e) hb (neC b o e hx) (I.base.keep b o e n hb hx) (I.base.free b o e n hx)
 · obtain ⟨sl, e1⟩ := I.base.slot b o e n hb hx
   obtain ⟨sl', e2⟩ := slot b _ (neL b o e) hb (neC b o e hx) e1 (I.base.free b o e n hx)
   exact ⟨sl', e2⟩
 · obtain ⟨o', e1⟩ := I.base.there b o e hx
   exact free b o' (neC b o e hx) e1 (I.base.free b o e n hx)
 · obtain ⟨o', e1⟩ := I.base.there b o e hx
   exact there b o' (neC b o e hx) e1
 · obtain ⟨m1, e1⟩ := I.base.tbls b ps e
   obtain ⟨m2, e2⟩ := tbls b _ e1
   exact ⟨m1 ++ m2, by rw [e2, Array.append_assoc]⟩
 · obtain ⟨m, hn, hl⟩ := I.loc
   refine ⟨m, ns m hn, fun i x v e1 e2 e3 => ?_⟩
   obtain ⟨u, r, l⟩ := hl i x v e1 e2 e3
   refine ⟨u, r, ?_⟩
   rcases l with l | ⟨k, c, e, z⟩
   · exact .inl l
   · exact .inr ⟨k, c, e, cellK x c e _ z⟩
 · obtain ⟨v, z⟩ := I.cell x c e
   exact ⟨v, cellK x c e v z⟩
 · obtain ⟨m, ⟨o, _, _, ho, _⟩, _⟩ := I.loc
   exact free _ o (fun z => (hch _ z).2.1 rfl) ho I.free
 · obtain ⟨v, o, ho, hd⟩ := I.cell x c e
   exact free c o (fun z => (hch c z).2.2.1 x c e rfl) ho (I.freeC x c e)
 · obtain ⟨e, n, ne, nf, d⟩ := I.pin p hp
   have nch : p.1 ∉ ch := fun z => (hch p.1 z).2.2.2 p hp rfl
   exact ⟨keep p.1 p.2 ne nf nch e n, free p.1 p.2 nch e n, ne, nf, d⟩
theorem Inv.un {t' : Nat} (I : Inv X pins σ H s) (u : Un X.fs [] H H' s.heap h') (hok : HOk X.prog X.w H' h') : Inv X pins σ H' { s with heap := h', toks := t' } := by
 obtain ⟨m, ⟨o, es, ep, ho, r⟩, _⟩ := id I.loc
 obtain ⟨sl, hL⟩ := u.any ho I.free (by simp)
 exact I.step (g' := s.gens) (d' := s.drawn) (ch := []) (fun _ z => nomatch z) (fun b o _ hb _ e n => u.keep b o e n hb (by simp)) (fun b o _ hb _ e n => u.slot b o e n hb (by simp)) (fun b o _ e n => u.free b o e n (by simp)) (fun b o _ e => u.there b o e (by simp)) u.tups u.frzs u.tbls (fun m' hm => by
  obtain ⟨o', es', ep', ho', r'⟩ := hm
  rw [ho] at ho'; cases ho'
  exact ⟨_, es', ep', hL, r'⟩) hok I.bare
theorem Inv.call {g' : Array GenState} {t' : Nat} {d' : Drawn} {ch : List Addr} (I : Inv X pins σ H s) (u : Un (frs X.stack) ch H H' s.heap h') (hok : HOk X.prog X.w H' h') (hg : AllBare g')
 (hch : ∀ b ∈ ch, (b ∈ X.ex ∨ X.s₀.heap.objs.size ≤ b) ∧ b ≠ X.env.locals ∧ (∀ x c, X.env.cells.lookup x = some c → c ≠ b) ∧ ∀ p ∈ X.pn ++ pins, p.1 ≠ b) :
 Inv X pins σ H' { s with heap := h', gens := g', drawn := d', toks := t' } := by
 obtain ⟨m, ⟨o, es, ep, ho, r⟩, _⟩ := id I.loc
 obtain ⟨sl, hL⟩ := u.any ho I.free fun z => (hch _ z).2.1 rfl
 exact I.step (ch := ch) hch (fun b o hL hb hc e n => u.keep b o e n (fun z => (List.mem_cons.mp (I.stkSub b z)).elim hL hb) hc) (fun b o _ _ hc e n => u.any e n hc) (fun b o hc e n => u.free b o e n hc) (fun b o hc e => u.there b o e hc) u.tups u.frzs u.tbls (fun m' hm => by
  obtain ⟨o', es', ep', ho', r'⟩ := hm
  rw [ho] at ho'; cases ho'
  exact ⟨_, es', ep', hL, r'⟩) hok hg
theorem Inv.turned {t' : Nat} {it : Addr} (I : Inv X pins σ H s) (k : ∀ b o, b ≠ it → s.heap.get? b = some o → h'.get? b = some o) (hn : H it = none) (hL : it ≠ X.env.locals)
 (h1 : it ∈ X.ex ∨ X.s₀.heap.objs.size ≤ it) (h2 : ∀ x c, X.env.cells.lookup x = some c → c ≠ it) (h3 : ∀ p ∈ X.pn ++ pins, p.1 ≠ it) : Inv X pins σ H { s with heap := h', toks := t' } := by
 have nit : ∀ b u, H b = some u → b ≠ it := fun b u e z => by rw [z, hn] at e; cases e
 refine I.step (g' := s.gens) (d' := s.drawn) (ch := [it]) (fun b hb => ?_) (fun b o _ _ hc e _ => k b o (fun z => hc (by simp [z])) e) (fun b o _ _ hc e _ => ⟨o.slots, k b o (fun z => hc (by simp [z])) e⟩) (fun _ _ _ _ n => n)
  (fun b o hc e => ⟨o, k b o (fun z => hc (by simp [z])) e⟩) (fun _ _ e => e) (fun _ _ _ e => e) (fun b ps e => ⟨#[], by rw [e]; simp⟩) (fun m hm => ?_) (fun b u e => ?_) I.bare
 · have e : b = it := by simpa using hb
   subst e
   exact ⟨h1, hL, h2, h3⟩
 · obtain ⟨o, es, ep, ho, r⟩ := hm
   exact ⟨o, es, ep, k _ o (Ne.symm hL) ho, r⟩
 · refine (I.hok b u e).stay (fun c v hc q => k c v ?_ q) (fun _ q => q) fun _ _ q => q
   rcases hc with z | z
   · rw [z]; exact nit b u e
   · exact nit c _ z
theorem Inv.tok (I : Inv X pins σ H s) (t : Nat) : Inv X pins σ H { s with toks := t } := I.un Un.refl I.hok
theorem Inv.kept {t' : Nat} (I : Inv X pins σ H s) (k : ∀ b u, s.heap.get? b = some u → h'.get? b = some u) : Inv X pins σ H { s with heap := h', toks := t' } := I.un (Un.kept k) (I.hok.kept k)
theorem Inv.laid {a : Addr} {o : HO} {t' : Nat} (I : Inv X pins σ H s) (k : ∀ b u, s.heap.get? b = some u → h'.get? b = some u) (hp : s.heap.objs.size ≤ a) (new : ObjOk X.prog X.w (upd H a o) h' a o) :
 Inv X pins σ (upd H a o) { s with heap := h', toks := t' } := I.un (Un.laid k hp (I.hok.fresh hp)) (I.hok.laid k hp new)
theorem Inv.write {x e : Addr} {o : HO} {t' : Nat} (I : Inv X pins σ H s) (mu : Mut (H x)) (he : e = x ∨ H e = some (.own x)) (k : ∀ b u, b ≠ e → s.heap.get? b = some u → h'.get? b = some u) (heo : ∃ u, h'.get? e = some u)
 (new : ObjOk X.prog X.w (upd H x o) h' x o) : Inv X pins σ (upd H x o) { s with heap := h', toks := t' } := I.un (Un.write mu he k heo) (I.hok.write mu he k heo new)
theorem Inv.pins_of (I : Inv X pins σ H s) (h : ∀ p ∈ pins', s.heap.get? p.1 = some p.2 ∧ H p.1 = none ∧ p.1 ≠ X.env.locals ∧ p.1 ∉ X.fs ∧ ∀ v, p.2.data ≠ .cell v) : Inv X pins' σ H s :=
 ⟨I.ok, I.os, I.bare, I.base, I.loc, I.cell, I.free, I.freeC, fun p hp => (List.mem_append.mp hp).elim (fun z => I.pin p (List.mem_append_left _ z)) (h p), I.hok, I.len⟩
theorem nodup_ix {N : List Str} (hN : N.Nodup) {i j : Nat} (a : N[i]? = some x) (b : N[j]? = some x) : i = j := by
 obtain ⟨h1, e1⟩ := List.getElem?_eq_some_iff.mp a
 obtain ⟨h2, e2⟩ := List.getElem?_eq_some_iff.mp b
 exact (List.getElem_inj hN).mp (e1.trans e2.symm)
theorem store_ok2 {M : Model} {A : Around} {E : Value → Shared → Prop} {i : Nat} {x : Str} {v : V} {u : Value} {Q : Unit → Shared → Prop} (I : Inv X pins σ H s) (hN : X.N.Nodup) (hi : X.N[i]? = some x) (hx : Loc X.env.scope x) (r : RelV v u)
 (h : ∀ s', Inv X pins (σ.set i (some v)) H s' → (∃ a, Heap.SameBut a s.heap s'.heap ∧ (a = X.env.locals ∨ X.env.cells.lookup x = some a)) → Q () s') (hf : X.fn x = true ∨ X.env.scope.names.lookup x = some .local := by first | exact .inl rfl | exact .inr rfl | assumption) : wpAny M A (storeName X.env x u) Q E s := by
 obtain ⟨m, hn, hl⟩ := id I.loc
 have hcls : (X.env.scope.kind == .class || (X.env.scope.kind == .module && X.env.locals != X.env.globals)) = false := by rw [I.ok.kind]; rfl
 have hiσ : i < σ.length := by rw [I.len]; exact (List.getElem?_eq_some_iff.mp hi).1
 have cne := I.cne
 have tracked : ∀ {a : Addr} {h' : Heap}, (∃ o, s.heap.get? a = some o ∧ H a = none) → Heap.SameBut a s.heap h' → HOk X.prog X.w H h' := fun {a h'} ha hs b ob e => by
  obtain ⟨_, _, hfree⟩ := ha
  refine (I.hok b ob e).stay (fun c w' hc q => (hs.2 c ?_).trans q) (fun _ q => q) fun _ _ q => q
  rintro rfl
  rcases hc with rfl | hc
  · rw [hfree] at e; cases e
  · rw [hfree] at hc; cases hc
 rcases hx with hk | hk
 · refine wpAny_storeName_local hk hn (fun h' hn' hs => ?_) hcls
   obtain ⟨oL, _, _, hoL, _⟩ := id hn
   refine h _ ⟨I.ok, I.os, I.bare, ⟨fun b o e n hb hx => ?_, fun b o e n hb hx => ?_, I.base.free, fun b o e hx => ?_, I.base.tups, I.base.frzs, I.base.tbls⟩, ⟨_, hn', fun j y v' e1 e2 e3 => ?_⟩, fun y c e => ?_, I.free, I.freeC, fun p hp => ?_, tracked ⟨oL, hoL, I.free⟩ hs, by simpa using I.len⟩ ⟨_, hs, .inl rfl⟩
   · exact (hs.2 b (Nat.ne_of_lt (Nat.lt_of_lt_of_le (Heap.lt_size e) I.ok.above))).trans (I.base.keep b o e n hb hx)
   · obtain ⟨sl, e1⟩ := I.base.slot b o e n hb hx
     exact ⟨sl, (hs.2 b (Nat.ne_of_lt (Nat.lt_of_lt_of_le (Heap.lt_size e) I.ok.above))).trans e1⟩
   · obtain ⟨o', e1⟩ := I.base.there b o e hx
     exact ⟨o', (hs.2 b (Nat.ne_of_lt (Nat.lt_of_lt_of_le (Heap.lt_size e) I.ok.above))).trans e1⟩
   · by_cases hj : j = i
     · subst hj
       rw [hi] at e1; cases e1
       rw [List.getElem?_set_self hiσ] at e2
       cases e2
       exact ⟨u, r, .inl ⟨hk, by simp⟩⟩
     · rw [List.getElem?_set_ne (Ne.symm hj)] at e2
       obtain ⟨u', r', q⟩ := hl j y v' e1 e2 e3
       refine ⟨u', r', ?_⟩
       rcases q with ⟨k, e⟩ | ⟨k, c, e, z⟩
       · refine .inl ⟨k, ?_⟩
         have : y ≠ x := fun e => hj (nodup_ix hN e1 (e ▸ hi))
         simp [this, e]
       · exact .inr ⟨k, c, e, z.sameBut hs (cne y c e)⟩
   · obtain ⟨w', z⟩ := I.cell y c e
     exact ⟨w', z.sameBut hs (cne y c e)⟩
   · obtain ⟨e, n, ne, nf, d⟩ := I.pin p hp
     exact ⟨(hs.2 p.1 ne).trans e, n, ne, nf, d⟩
 · have hfn : X.fn x = true := by
    rcases hf with z | z
    · exact z
    · rw [z] at hk; cases hk
   obtain ⟨c, hc⟩ := I.ok.has x (.inl hk)
   obtain ⟨w', z⟩ := I.cell x c hc
   refine wpAny_storeName_cell I.ok.kind hk hc z (fun h' hc' hs => ?_)
   obtain ⟨oc, hoc, hocd⟩ := id z
   refine h { s with heap := h' } ⟨I.ok, I.os, I.bare, ⟨fun b o e n hb hx => ?_, fun b o e n hb hx => ?_, I.base.free, fun b o e hx => ?_, I.base.tups, I.base.frzs, I.base.tbls⟩, ⟨m, hn.sameBut hs (Ne.symm (cne x c hc)), fun j y v' e1 e2 e3 => ?_⟩, fun y c' e => ?_, I.free, I.freeC, fun p hp => ?_, tracked ⟨oc, hoc, I.freeC x c hc⟩ hs, by simpa using I.len⟩ ⟨c, hs, .inr hc⟩
   · exact (hs.2 b (Nat.ne_of_lt (Nat.lt_of_lt_of_le (Heap.lt_size e) (I.ok.cab x c hfn hc)))).trans (I.base.keep b o e n hb hx)
   · obtain ⟨sl, e1⟩ := I.base.slot b o e n hb hx
     exact ⟨sl, (hs.2 b (Nat.ne_of_lt (Nat.lt_of_lt_of_le (Heap.lt_size e) (I.ok.cab x c hfn hc)))).trans e1⟩
   · obtain ⟨o', e1⟩ := I.base.there b o e hx
     exact ⟨o', (hs.2 b (Nat.ne_of_lt (Nat.lt_of_lt_of_le (Heap.lt_size e) (I.ok.cab x c hfn hc)))).trans e1⟩
   · by_cases hj : j = i
     · subst hj
       rw [hi] at e1; cases e1
       rw [List.getElem?_set_self hiσ] at e2
       cases e2
       exact ⟨u, r, .inr ⟨.inl hk, c, hc, hc'⟩⟩
     · rw [List.getElem?_set_ne (Ne.symm hj)] at e2
       obtain ⟨u', r', q⟩ := hl j y v' e1 e2 e3
       refine ⟨u', r', ?_⟩
       rcases q with q | ⟨k, c', e, z'⟩
       · exact .inl q
       · refine .inr ⟨k, c', e, z'.sameBut hs ?_⟩
         rintro rfl
         exact hj (nodup_ix hN e1 (I.ok.inj _ _ _ e hc ▸ hi))
   · by_cases hcc : c' = c
     · subst hcc; exact ⟨_, hc'⟩
     · obtain ⟨w2, z2⟩ := I.cell y c' e
       exact ⟨w2, z2.sameBut hs hcc⟩
   · obtain ⟨e, n, ne, nf, d⟩ := I.pin p hp
     refine ⟨(hs.2 p.1 ?_).trans e, n, ne, nf, d⟩
     intro q
     rw [q, hoc] at e
     have q' : oc = p.2 := Option.some.inj e
     exact d w' (by rw [← q']; exact hocd)
theorem store_ok (I : Inv X pins σ H s) (hN : X.N.Nodup) (hi : X.N[i]? = some x) (hx : Loc X.env.scope x) (r : RelV v u)
 (h : ∀ s', Inv X pins (σ.set i (some v)) H s' → Q () s') (hf : X.fn x = true ∨ X.env.scope.names.lookup x = some .local := by first | exact .inl rfl | exact .inr rfl | assumption) : wpAny M A (storeName X.env x u) Q E s :=
 store_ok2 I hN hi hx r (fun s' I' _ => h s' I') hf
theorem Inv.call' {s' : Shared} {ch : List Addr} (I : Inv X pins σ H s) (ho : s'.os = s.os) (u : Un (frs X.stack) ch H H' s.heap s'.heap) (hok : HOk X.prog X.w H' s'.heap) (hg : AllBare s'.gens)
 (hch : ∀ b ∈ ch, (b ∈ X.ex ∨ X.s₀.heap.objs.size ≤ b) ∧ b ≠ X.env.locals ∧ (∀ x c, X.env.cells.lookup x = some c → c ≠ b) ∧ ∀ p ∈ X.pn ++ pins, p.1 ≠ b) : Inv X pins σ H' s' := by
 obtain ⟨h', g', d', t', o'⟩ := s'
 have e : o' = s.os := ho
 subst e
 exact I.call (g' := g') (t' := t') (d' := d') u hok hg hch
end
abbrev XK := Value → Option Addr → Hp → Prop
abbrev St := List (Option V)
abbrev VK := V → Hp → Prop
abbrev TE := St → Hp → VK → Prop
abbrev TT := St → Hp → (Bool → Hp → Prop) → Prop
abbrev TA := St → Hp → (List V → Hp → Prop) → Prop
structure Ends where
 nx : St → Hp → Prop
 rt : VK
 bk : St → Hp → Prop := fun _ _ => False
 ct : St → Hp → Prop := fun _ _ => False
abbrev TS := Ends → St → Hp → Prop
def EP (X : Cx) (pins : List (Addr × Obj)) (σ : St) (Q : VK) (u : Value) (s' : Shared) : Prop := ∃ v H', Inv X pins σ H' s' ∧ RelV v u ∧ Q v H'
def TP (X : Cx) (pins : List (Addr × Obj)) (σ : St) (Q : Bool → Hp → Prop) (b : Bool) (s' : Shared) : Prop := ∃ H', Inv X pins σ H' s' ∧ Q b H'
def AP (X : Cx) (pins : List (Addr × Obj)) (σ : St) (Q : List V → Hp → Prop) (us : List Value) (s' : Shared) : Prop := ∃ vs H', Inv X pins σ H' s' ∧ Vals vs us ∧ Q vs H'
def SP (X : Cx) (pins : List (Addr × Obj)) (D : Ends) (f : Flow) (s' : Shared) : Prop :=
 match f with
 | .next => ∃ σ' H', Inv X pins σ' H' s' ∧ D.nx σ' H'
 | .brk => ∃ σ' H', Inv X pins σ' H' s' ∧ D.bk σ' H'
 | .cont => ∃ σ' H', Inv X pins σ' H' s' ∧ D.ct σ' H'
 | .ret u => ∃ v σ' H', Inv X pins σ' H' s' ∧ RelV v u ∧ D.rt v H'
def PE (X : Cx) (e : Expr) (t : TE) : Prop :=
 ∀ (pins : List (Addr × Obj)) (s : Shared) (σ : St) (H : Hp) (Q : VK), Inv X pins σ H s → t σ H Q → wpAny (model X.prog X.w) X.A (eval e X.env) (EP X pins σ Q) X.xe s
def PT (X : Cx) (e : Expr) (t : TT) : Prop :=
 ∀ (pins : List (Addr × Obj)) (s : Shared) (σ : St) (H : Hp) (Q : Bool → Hp → Prop), Inv X pins σ H s → t σ H Q → wpAny (model X.prog X.w) X.A (isTrue e X.env (eval e X.env)) (TP X pins σ Q) X.xe s
def PW (X : Cx) (e : Expr) (t : TT) : Prop :=
 ∀ (whole : Sem Value) (pins : List (Addr × Obj)) (s : Shared) (σ : St) (H : Hp) (Q : Bool → Hp → Prop), Inv X pins σ H s → t σ H Q → wpAny (model X.prog X.w) X.A (isTrue e X.env whole) (TP X pins σ Q) X.xe s
theorem PW.pt (h : PW X e t) : PT X e t := h _
def PA (X : Cx) (es : List Expr) (t : TA) : Prop :=
 ∀ (pos : Pos) (pins : List (Addr × Obj)) (s : Shared) (σ : St) (H : Hp) (Q : List V → Hp → Prop), Inv X pins σ H s → t σ H Q → wpAny (model X.prog X.w) X.A (spliced (backTo pos (starEach es X.env))) (AP X pins σ Q) X.xe s
def PS (X : Cx) (st : Stmt) (t : TS) : Prop :=
 ∀ (pins : List (Addr × Obj)) (s : Shared) (σ : St) (H : Hp) (D : Ends), Inv X pins σ H s → t D σ H → wpAny (model X.prog X.w) X.A (exec st X.env) (SP X pins D) X.xe s
def PSs (X : Cx) (st : List Stmt) (t : TS) : Prop :=
 ∀ (pins : List (Addr × Obj)) (s : Shared) (σ : St) (H : Hp) (D : Ends), Inv X pins σ H s → t D σ H → wpAny (model X.prog X.w) X.A (execs st X.env) (SP X pins D) X.xe s
theorem thn {α : Type} {t : Sem α} {Q Q' : α → Shared → Prop} {M : Model} {A : Around} {E : Value → Shared → Prop} {s : Shared} (h : wpAny M A t Q E s) (hQ : ∀ a s, Q a s → Q' a s) : wpAny M A t Q' E s := wpAny_mono h hQ fun _ _ x => x
section
variable {X : Cx}
theorem bin {a b : Expr} {ta tb : TE} (ha : PE X a ta) (hb : PE X b tb) {pins : List (Addr × Obj)} {s : Shared} {σ : St} {H : Hp} {R : V → V → Hp → Prop} (I : Inv X pins σ H s) (h : ta σ H fun x H1 => tb σ H1 fun y H2 => R x y H2)
 {α : Type} {Q : α → Shared → Prop} {f : Value → Value → Sem α}
 (hf : ∀ v u s2 x y H2, Inv X pins σ H2 s2 → RelV x v → RelV y u → R x y H2 → wpAny (model X.prog X.w) X.A (f v u) Q X.xe s2) :
 wpAny (model X.prog X.w) X.A (eval a X.env) (fun v s₁ => wpAny (model X.prog X.w) X.A (eval b X.env) (fun u s₂ => wpAny (model X.prog X.w) X.A (f v u) Q X.xe s₂) X.xe s₁) X.xe s := by
 refine thn (ha pins s σ H _ I h) fun v s1 ⟨x, H1, I1, r1, q1⟩ => ?_
 refine thn (hb pins s1 σ H1 _ I1 q1) fun u s2 ⟨y, H2, I2, r2, q2⟩ => ?_
 exact hf v u s2 x y H2 I2 r1 r2 q2
def tVar (i : Nat) : TE := fun σ H Q => ∃ v, σ[i]? = some (some v) ∧ Q v H
def tC (v : V) : TE := fun _ H Q => Q v H
theorem pe_var {pos : Pos} (hN : X.N[i]? = some x) (hv : Vis X.env.scope x) (hd : (x == ("__debug__" : Str)) = false := by decide) (hcd : (x == ("__classdict__" : Str)) = false := by decide) : PE X (.Name x pos) (tVar i) := by
 intro pins s σ H Q I h
 obtain ⟨v, e, h⟩ := h
 obtain ⟨m, hn, hl⟩ := I.loc
 obtain ⟨u, r, l⟩ := hl i x v hN e hv
 have fin : EP X pins σ Q u s := ⟨v, H, I, r, h⟩
 rcases l with ⟨hk, hm⟩ | ⟨hk, c, hc, hcell⟩
 · exact wpAny_Name (wpAny_loadName_local I.ok.kind hk hn hm fin) hd
 · rcases hk with hk | hk
   · exact wpAny_Name (wpAny_loadName_cell I.ok.kind hk hc hcell fin) hd
   · exact wpAny_Name (wpAny_loadName_free I.ok.kind hk hc hcell fin hcd) hd
theorem pe_int : PE X (.Constant (.int i) j pos) (tC (.int i)) := fun _ _ _ H _ I h => wpAny_Constant_int ⟨.int i, H, I.tok _, ⟨_, rfl⟩, h⟩
theorem pe_bl : PE X (.Constant (.bool b) j pos) (tC (.bl b)) := fun _ _ _ H _ I h => Constant_bool ⟨.bl b, H, I, rfl, h⟩
theorem pe_non : PE X (.Constant .none j pos) (tC .non) := fun _ _ _ H _ I h => Constant_none ⟨.non, H, I, rfl, h⟩
theorem pe_str : PE X (.Constant (.str x) j pos) (tC (.str x)) := fun _ _ _ H _ I h => Calls.Constant_str ⟨.str x, H, I.tok _, ⟨_, rfl⟩, h⟩
def Gl (X : Cx) (x : Str) : Prop := X.env.kindOf x = some .globalImplicit
theorem ld_glob {σ : St} (I : Inv X pins σ H s) (hg : Gl X x) (hm : X.mg x = some u) (h : Q u s)
 (hd : (x == ("__debug__" : Str)) = false := by decide) : wpAny (model X.prog X.w) X.A (eval (.Name x pos) X.env) Q E s :=
 Calls.Name_function_global I.ok.kind hg (Calls.loadGlobal_global (by rw [I.ok.glob]; exact I.mod.glob.keeps I.bk) hm h) hd
theorem ld_blt {E : Value → Shared → Prop} {σ : St} {pos : Pos} (I : Inv X pins σ H s) (hg : Gl X x) (hm : X.mg x = none) (hv : bootBuiltins x = some u) (h : Q u s)
 (hn : x ≠ "__name__" := by decide) (hd : (x == ("__debug__" : Str)) = false := by decide) : wpAny (model X.prog X.w) X.A (eval (.Name x pos) X.env) Q E s := by
 obtain ⟨mb, h1, h2⟩ := I.mod.blt
 exact Calls.Name_function_global I.ok.kind hg (Calls.loadGlobal_builtin (by rw [I.ok.glob]; exact I.mod.glob.keeps I.bk) hm (by rw [I.ok.blt]; exact h1.keeps I.bk) ((h2 x hn).trans hv) h) hd
theorem pe_glob {x : Str} {v : V} {u : Value} {pos : Pos} (hg : Gl X x) (hm : X.mg x = some u) (r : RelV v u) (hd : (x == ("__debug__" : Str)) = false := by decide) : PE X (.Name x pos) (tC v) :=
 fun _ _ _ H _ I h => ld_glob I hg hm ⟨v, H, I, r, h⟩ hd
def PC (X : Cx) (op : CmpOp) (a b : Expr) (t : TE) : Prop :=
 ∀ (pins : List (Addr × Obj)) (s : Shared) (σ : St) (H : Hp) (Q : VK), Inv X pins σ H s → t σ H Q →
  wpAny (model X.prog X.w) X.A (eval a X.env) (fun v s₁ => wpAny (model X.prog X.w) X.A (eval b X.env) (fun u s₂ => wpAny (model X.prog X.w) X.A (compareOp op v u) (EP X pins σ Q) X.xe s₂) X.xe s₁) X.xe s
def tB (t : TE) : TT := fun σ H Q => t σ H fun x H1 => ∃ c, x = .bl c ∧ Q c H1
theorem pt_cmp (h : PC X op a b t) (h1 : behindInMarks op b = false := by first | exact nobehind _ (by decide) (by decide) | rfl) : PT X (.Compare a [op] [b] pos) (tB t) := by
 intro pins s σ H Q I hw
 refine wpAny_isTrue_Compare1 (thn (h pins s σ H _ I hw) fun v s1 h1 => thn h1 fun u s2 h2 => thn h2 fun c s3 ⟨x, H1, I1, r1, q1⟩ => ?_) h1
 obtain ⟨d, rfl, q⟩ := q1
 cases r1
 exact wpAny_truthy_bool ⟨H1, I1, q⟩
theorem pt_val {e : Expr} {t : TE} (h : PE X e t) (he : ∀ whole, isTrue e X.env whole = (do let v ← whole; standAt e.pos; holding [v] (truthy v)) := by intro _; rfl) : PT X e (tB t) := by
 intro pins s σ H Q I hw
 refine isTrue_plain (thn (h pins s σ H _ I hw) fun v s1 ⟨x, H1, I1, r1, q1⟩ => ?_) (he _)
 obtain ⟨d, rfl, q⟩ := q1
 cases r1
 exact wpAny_truthy_bool ⟨H1, I1, q⟩
variable {rest : List Expr}
def tAnd (t u : TT) : TT := fun σ H Q => t σ H fun c H1 => if c = true then u σ H1 Q else Q false H1
def tOr (t u : TT) : TT := fun σ H Q => t σ H fun c H1 => if c = true then Q true H1 else u σ H1 Q
def tNot (t : TT) : TT := fun σ H Q => t σ H fun c H1 => Q (!c) H1
theorem pw_and1 (ha : PT X a tA) : PW X (.BoolOp .And [a] pos) tA := by
 intro wh pins s σ H Q I h
 refine isTrue_and (thn (ha pins s σ H Q I h) fun c s1 e => ?_)
 cases c with
 | true => exact isTrue_and_nil e
 | false => exact e
theorem pw_or1 (ha : PT X a tA) : PW X (.BoolOp .Or [a] pos) tA := by
 intro wh pins s σ H Q I h
 refine isTrue_or (thn (ha pins s σ H Q I h) fun c s1 e => ?_)
 cases c with
 | false => exact isTrue_or_nil e
 | true => exact e
theorem pw_and (ha : PT X a tA) (hb : PW X (.BoolOp .And (b :: rest) pos) tB') : PW X (.BoolOp .And (a :: b :: rest) pos) (tAnd tA tB') := by
 intro wh pins s σ H Q I h
 refine isTrue_and (thn (ha pins s σ H _ I h) fun c s1 ⟨H1, I1, q1⟩ => ?_)
 cases c with
 | true => exact hb wh pins s1 σ H1 Q I1 q1
 | false => assumption
theorem pw_or (ha : PT X a tA) (hb : PW X (.BoolOp .Or (b :: rest) pos) tB') : PW X (.BoolOp .Or (a :: b :: rest) pos) (tOr tA tB') := by
 intro wh pins s σ H Q I h
 refine isTrue_or (thn (ha pins s σ H _ I h) fun c s1 ⟨H1, I1, q1⟩ => ?_)
 cases c with
 | true => assumption
 | false => exact hb wh pins s1 σ H1 Q I1 q1
theorem pt_not (ha : PT X a tA) : PT X (.UnaryOp .Not a pos) (tNot tA) := by
 intro pins s σ H Q I h
 exact isTrue_not (ha pins s σ H _ I h)
def tAndV (ta tb : TE) : TE := fun σ H Q => ta σ H fun x H1 => ∃ c, x = .bl c ∧ if c = true then tb σ H1 Q else Q (.bl false) H1
def tNotV (ta : TE) : TE := fun σ H Q => ta σ H fun x H1 => ∃ c, x = .bl c ∧ Q (.bl (!c)) H1
theorem pe_one (h : PE X a t) : PE X (.BoolOp op [a] pos) t := fun pins s σ H Q I hw => BoolOp_one (h pins s σ H Q I hw)
theorem pe_and (ha : PE X a ta) (hb : PE X (.BoolOp .And (b :: rest) pos) tb) : PE X (.BoolOp .And (a :: b :: rest) pos) (tAndV ta tb) := by
 intro pins s σ H Q I h
 refine BoolOp_and (thn (ha pins s σ H _ I h) fun v s1 ⟨x, H1, I1, r1, q1⟩ => ?_)
 obtain ⟨c, rfl, q1⟩ := q1
 cases r1
 refine wpAny_truthy_bool ?_
 cases c with
 | true => exact hb pins s1 σ H1 Q I1 q1
 | false => exact ⟨.bl false, H1, I1, rfl, q1⟩
theorem pe_not (ha : PE X a ta) : PE X (.UnaryOp .Not a pos) (tNotV ta) := by
 intro pins s σ H Q I h
 refine UnaryOp_ (thn (ha pins s σ H _ I h) fun v s1 ⟨x, H1, I1, r1, q1⟩ => ?_)
 obtain ⟨c, rfl, q1⟩ := q1
 cases r1
 exact not_of (wpAny_truthy_bool ⟨.bl (!c), H1, I1, rfl, q1⟩)
end
def SqL (K : PySem.W.Frag) (H : Hp) (a : Addr) (xs : List V) : Prop :=
 Rd H a (.lst xs) ∨
  ∃ (o : Obj) (its : Array Value) (n : Nat), K.lookup a = some o ∧ o.cls = .type "list" ∧ o.dict = none ∧ o.data = .seq its n ∧ its.size ≤ sizeLine ∧ Vals xs its.toList
def SqT (K : PySem.W.Frag) (H : Hp) (a : Addr) (xs : List V) : Prop :=
 Rd H a (.tup xs) ∨
  ∃ (o : Obj) (its : Array Value) (n : Nat), K.lookup a = some o ∧ o.cls = .type "tuple" ∧ o.data = .seq its n ∧ its.size ≤ sizeLine ∧ Vals xs its.toList
def absV : Value → Option V
 | .none => some .non
 | .bool b => some (.bl b)
 | .int i _ => some (.int i)
 | .str x _ => some (.str x)
 | .bytes b _ => some (.byt b)
 | .float b _ => some (.flt b)
 | .ref a => some (.ref a)
 | .type n => some (.ty n)
 | _ => none
theorem RelV.abs (r : RelV x u) : absV u = some x := by
 cases x with
 | non => cases r; rfl
 | bl _ => cases r; rfl
 | int _ => obtain ⟨t, rfl⟩ := r; rfl
 | str _ => obtain ⟨t, rfl⟩ := r; rfl
 | byt _ => obtain ⟨t, rfl⟩ := r; rfl
 | flt _ => obtain ⟨t, rfl⟩ := r; rfl
 | ref _ => cases r; rfl
 | ty _ => cases r; rfl
theorem RelV.inj (r : RelV x u) (q : RelV y u) : x = y := Option.some.inj (r.abs.symm.trans q.abs)
theorem Vals.inj : ∀ {xs ys : List V} {us : List Value}, Vals xs us → Vals ys us → xs = ys
 | _, _, _, .nil, .nil => rfl
 | _, _, _, .cons r t, .cons r' t' => by rw [r.inj r', Vals.inj t t']
section
variable {σ : St}
theorem SqL.of {K : PySem.W.Frag} (h : H a = some (.lst xs)) : SqL K H a xs := .inl (.inl h)
theorem SqT.of {K : PySem.W.Frag} (h : H a = some (.tup xs)) : SqT K H a xs := .inl (.inl h)
theorem Inv.list (I : Inv X pins σ H s) (h : SqL X.K H a xs) : ∃ its : List Value, Vals xs its ∧ PlainL s.heap a its.toArray ∧ xs.length ≤ sizeLine := by
 rcases h with h | ⟨o, its, n, hk, hc, hd, hs, hz, r⟩
 · obtain ⟨z, its, n, r, e⟩ := h.ok I.hok
   exact ⟨its, r, ⟨_, n, e, rfl, rfl, rfl⟩, z⟩
 · refine ⟨its.toList, r, ⟨o, n, I.kIn a o hk, hc, hd, by omega⟩, ?_⟩
   have e := r.length
   grind
theorem Inv.tuple (I : Inv X pins σ H s) (h : SqT X.K H a xs) : ∃ its : List Value, Vals xs its ∧ IsTup s.heap a its.toArray ∧ xs.length ≤ sizeLine := by
 rcases h with h | ⟨o, its, n, hk, hc, hs, hz, r⟩
 · obtain ⟨z, its, r, p⟩ := h.ok I.hok
   exact ⟨its, r, p.tup, z⟩
 · refine ⟨its.toList, r, ⟨o, I.kIn a o hk, hc, n, by simpa using hs⟩, ?_⟩
   have e := r.length
   simp only [Array.length_toList] at e
   omega
theorem Inv.list_inj (I : Inv X pins σ H s) (h : SqL X.K H a xs) (h' : SqL X.K H a ys) : xs = ys := by
 obtain ⟨its, r, ⟨o, n, e, _, _, d⟩, _⟩ := I.list h
 obtain ⟨its', r', ⟨o', n', e', _, _, d'⟩, _⟩ := I.list h'
 have : its = its' := by grind
 subst this
 exact r.inj r'
theorem Inv.tuple_inj (I : Inv X pins σ H s) (h : SqT X.K H a xs) (h' : SqT X.K H a ys) : xs = ys := by
 obtain ⟨its, r, ⟨o, e, _, n, d⟩, _⟩ := I.tuple h
 obtain ⟨its', r', ⟨o', e', _, n', d'⟩, _⟩ := I.tuple h'
 rw [e] at e'; cases e'
 rw [d] at d'
 injection d' with d1 _
 have : its = its' := by grind
 subst this
 exact r.inj r'
end
abbrev Cx.wish (X : Cx) (E : Value → Shared → Prop) : Cx := { X with xe := E }
abbrev Cx.nox (X : Cx) : Cx := X.wish fun _ _ => False
theorem Cx.Ok.wish {X : Cx} (ok : X.Ok) (E : Value → Shared → Prop) : (X.wish E).Ok :=
 ⟨ok.mod, ok.kind, ok.glob, ok.blt, ok.above, ok.inj, ok.has, ok.cab, ok.hd, ok.frames, ok.stk, ok.exf, ok.bs, ok.bsz, ok.noex, ok.exfs, ok.funs, ok.frf⟩
theorem Cx.Ok.unwish {X : Cx} (ok : (X.wish E).Ok) : X.Ok :=
 ⟨ok.mod, ok.kind, ok.glob, ok.blt, ok.above, ok.inj, ok.has, ok.cab, ok.hd, ok.frames, ok.stk, ok.exf, ok.bs, ok.bsz, ok.noex, ok.exfs, ok.funs, ok.frf⟩
section
variable {σ : St}
theorem Inv.wish (I : Inv X pins σ H s) (E : Value → Shared → Prop) : Inv (X.wish E) pins σ H s := ⟨I.ok.wish E, I.os, I.bare, I.base, I.loc, I.cell, I.free, I.freeC, I.pin, I.hok, I.len⟩
theorem Inv.unwish (I : Inv (X.wish E) pins σ H s) : Inv X pins σ H s := ⟨I.ok.unwish, I.os, I.bare, I.base, I.loc, I.cell, I.free, I.freeC, I.pin, I.hok, I.len⟩
theorem SP.unwish (h : SP (X.wish E) pins D f s') : SP X pins D f s' := by
 cases f with
 | next => obtain ⟨σ', H', I, q⟩ := h; exact ⟨σ', H', I.unwish, q⟩
 | brk => obtain ⟨σ', H', I, q⟩ := h; exact ⟨σ', H', I.unwish, q⟩
 | cont => obtain ⟨σ', H', I, q⟩ := h; exact ⟨σ', H', I.unwish, q⟩
 | ret u => obtain ⟨v, σ', H', I, r, q⟩ := h; exact ⟨v, σ', H', I.unwish, r, q⟩
theorem PSs.nox {st : List Stmt} (h : PSs X.nox st t) : PSs X st t := fun pins s σ H D I hw =>
 wpAny_mono (h pins s σ H D (I.wish _) hw) (fun _ _ q => q.unwish) fun _ _ z => False.elim z
end
section
variable {st : Stmt} {rest : List Stmt}
def tNext : TS := fun D σ H => D.nx σ H
def tSeq (t u : TS) : TS := fun D σ H => t { D with nx := u D } σ H
theorem pss_nil : PSs X [] tNext := fun _ _ σ H _ I h => wpAny_execs_nil ⟨σ, H, I, h⟩
theorem pss_cons (h1 : PS X st t) (h2 : PSs X rest u) : PSs X (st :: rest) (tSeq t u) := by
 intro pins s σ H D I h
 refine wpAny_execs_cons (thn (h1 pins s σ H { D with nx := u D } I h) fun f s1 q => ?_)
 cases f with
 | next =>
  obtain ⟨σ', H', I', q⟩ := q
  exact h2 pins s1 σ' H' D I' q
 | ret v => exact q
 | brk => exact q
 | cont => exact q
theorem Inv.quiet {pins : List (Addr × Obj)} {σ : St} {H : Hp} {s : Shared} (I : Inv X pins σ H s) : interactive X.env = false := by simp [interactive, I.ok.kind]
def tDrop (te : TE) : TS := fun D σ H => te σ H fun _ H1 => D.nx σ H1
theorem ps_expr (he : PE X e te) (hs : swapsWith e none pos.line X.env = pure false := by rfl) : PS X (.Expr e pos) (tDrop te) := by
 intro pins s σ H D I h
 exact wpAny_Expr_any (thn (he pins s σ H _ I h) fun v s1 ⟨x, H1, I1, r1, q1⟩ => ⟨σ, H1, I1, q1⟩) I.quiet hs
def tRet (te : TE) : TS := fun D σ H => te σ H D.rt
theorem ps_ret (he : PE X e te) : PS X (.Return (some e) pos) (tRet te) := by
 intro pins s σ H D I h
 exact wpAny_Return_some (thn (he pins s σ H _ I h) fun v s1 ⟨x, H1, I1, r1, q1⟩ => ⟨x, σ, H1, I1, r1, q1⟩)
def tIfS (c : TT) (t u : TS) : TS := fun D σ H => c σ H fun b H1 => if b = true then t D σ H1 else u D σ H1
theorem ps_if (hc : PT X c tc) (ha : PSs X a t) (hb : PSs X b u) : PS X (.If c a b pos) (tIfS tc t u) := by
 intro pins s σ H D I h
 refine wpAny_If (thn (hc pins s σ H _ I h) fun d s1 ⟨H1, I1, q1⟩ => ?_)
 cases d with
 | true => exact ha pins s1 σ H1 D I1 q1
 | false => exact hb pins s1 σ H1 D I1 q1
end
abbrev TG := V → St → Hp → (St → Hp → Prop) → Prop
abbrev TGs := List V → St → Hp → (St → Hp → Prop) → Prop
def PG (X : Cx) (target : Expr) (t : TG) : Prop :=
 ∀ (pins : List (Addr × Obj)) (s : Shared) (σ : St) (H : Hp) (v : V) (u : Value) (Q : St → Hp → Prop), Inv X pins σ H s → RelV v u → t v σ H Q →
  wpAny (model X.prog X.w) X.A (assign target X.env u) (fun _ s' => ∃ σ' H', Inv X pins σ' H' s' ∧ Q σ' H') X.xe s
def PGs (X : Cx) (ts : List Expr) (t : TGs) : Prop :=
 ∀ (pins : List (Addr × Obj)) (s : Shared) (σ : St) (H : Hp) (vs : List V) (us : List Value) (Q : St → Hp → Prop), Inv X pins σ H s → Vals vs us → t vs σ H Q →
  wpAny (model X.prog X.w) X.A (assignInOrder ((assignEach ts X.env).map (·.2)) us) (fun _ s' => ∃ σ' H', Inv X pins σ' H' s' ∧ Q σ' H') X.xe s
abbrev TSet := V → V → V → Hp → (Hp → Prop) → Prop
def PSet (X : Cx) (t : TSet) : Prop :=
 ∀ (pins : List (Addr × Obj)) (s : Shared) (σ : St) (H : Hp) (o i v : V) (ov iv u : Value) (Q : Hp → Prop), Inv X pins σ H s → RelV o ov → RelV i iv → RelV v u → t o i v H Q →
  wpAny (model X.prog X.w) X.A (setItem ov iv u) (fun _ s' => ∃ H', Inv X pins σ H' s' ∧ Q H') X.xe s
abbrev TIp := V → V → Hp → VK → Prop
def PIp (X : Cx) (op : Operator) (t : TIp) : Prop :=
 ∀ (pins : List (Addr × Obj)) (s : Shared) (σ : St) (H : Hp) (x y : V) (v u : Value) (Q : VK), Inv X pins σ H s → RelV x v → RelV y u → t x y H Q →
  wpAny (model X.prog X.w) X.A (inplaceOp op v u) (EP X pins σ Q) X.xe s
section
variable {pos : Pos}
def gName (i : Nat) : TG := fun v σ H Q => Q (σ.set i (some v)) H
theorem pg_name (hN : X.N.Nodup) (hi : X.N[i]? = some x) (hx : Loc X.env.scope x) (hf : X.fn x = true ∨ X.env.scope.names.lookup x = some .local := by first | exact .inl rfl | exact .inr rfl | assumption) : PG X (.Name x pos) (gName i) := by
 intro pins s σ H v u Q I r h
 exact wpAny_assign_Name (store_ok I hN hi hx r (fun s' I' => ⟨_, H, I', h⟩) hf)
def gNil : TGs := fun vs σ H Q => vs = [] ∧ Q σ H
def gCons (t : TG) (u : TGs) : TGs := fun vs σ H Q => ∃ v r, vs = v :: r ∧ t v σ H fun σ' H' => u r σ' H' Q
theorem pgs_nil : PGs X [] gNil := by
 intro pins s σ H vs us Q I r h
 obtain ⟨e, h⟩ := h
 exact assignInOrder_nil ⟨σ, H, I, h⟩
theorem pgs_cons (h1 : PG X e t) (h2 : PGs X es u)
 (hs : (assignEach (e :: es) X.env).map (·.2) = assign e X.env :: (assignEach es X.env).map (·.2) := by rfl) : PGs X (e :: es) (gCons t u) := by
 intro pins s σ H vs us Q I r h
 obtain ⟨v, vr, e1, h⟩ := h
 subst e1
 cases r with
 | cons r rr =>
  rw [hs]
  refine assignInOrder_cons (thn (h1 pins s σ H _ _ _ I r h) fun _ s1 ⟨σ1, H1, I1, q1⟩ => ?_)
  exact h2 pins s1 σ1 H1 _ _ Q I1 rr q1
def gTup (K : PySem.W.Frag) (n : Nat) (t : TGs) : TG := fun v σ H Q => ∃ a xs, v = .ref a ∧ SqT K H a xs ∧ xs.length = n ∧ t xs σ H Q
theorem pg_tup {k : Nat} (hc : X.calm = true) (h : PGs X es t)
 (hn : (assignEach es X.env).length = n := by rfl) (hst : (assignEach es X.env).findIdx? (·.1) = none := by rfl) : PG X (.Tuple es k pos) (gTup X.K n t) := by
 intro pins s σ H v u Q I r hw
 obtain ⟨a, xs, e1, hq, hl, hw⟩ := hw
 subst e1
 cases r
 obtain ⟨its, rv, ht, hz⟩ := I.tuple hq
 refine assign_Tuple_tuple (I.ok.hd hc) ht (by simp [hn, ← hl, rv.length]) hst fun h' hx => ?_
 have I1 := I.kept (t' := s.toks) fun b o e => hx b o (Nat.ne_of_lt (Heap.lt_size e)) e
 exact h pins _ σ H xs _ Q I1 (by omega) hw
def gSub (to ti : TE) (t : TSet) : TG := fun v σ H Q => to σ H fun o H1 => ti σ H1 fun i H2 => t o i v H2 fun H3 => Q σ H3
theorem pg_sub (ho : PE X o to) (hi : PE X i ti) (hs : PSet X t)
 (ha : ∀ v, assign (.Subscript o i pos) X.env v = (do
  let ov ← holding [v] (eval o X.env)
  let iv ← holding [v, ov] (eval i X.env)
  standAt pos
  holding [v, ov, iv] (setItem ov iv v)
  release [v, ov, iv] []) := by intro _; rfl) : PG X (.Subscript o i pos) (gSub to ti t) := by
 intro pins s σ H v u Q I r h
 refine wpAny_bind (wpAny_holding (thn (ho pins s σ H _ I h) fun ov s1 ⟨x, H1, I1, r1, q1⟩ => ?_))
 refine wpAny_bind (wpAny_holding (thn (hi pins s1 σ H1 _ I1 q1) fun iv s2 ⟨y, H2, I2, r2, q2⟩ => ?_))
 refine wpAny_bind (wpAny_standAt (wpAny_bind (wpAny_holding (thn (hs pins s2 σ H2 x y v ov iv u _ I2 r1 r2 r q2) fun _ s3 ⟨H3, I3, q3⟩ => ?_))))
 exact wpAny_release ⟨σ, H3, I3, q3⟩
def tAsg (te : TE) (g : TG) : TS := fun D σ H => te σ H fun x H1 => g x σ H1 D.nx
theorem ps_asg (he : PE X e te) (hg : PG X tg g) (hs : swapsWithSole [tg] e pos.line X.env = pure false := by rfl) (hw : swappedStores [tg] e X.env = pure none := by rfl)
 (h1 : (assignEach [tg] X.env).map (·.2) = [assign tg X.env] := by rfl) : PS X (.Assign [tg] e pos) (tAsg te g) := by
 intro pins s σ H D I h
 refine wpAny_Assign_stores (thn (he pins s σ H _ I h) fun v s1 ⟨x, H1, I1, r1, q1⟩ => ?_) hs hw
 rw [h1]
 exact thn (hg pins s1 σ H1 x v _ I1 r1 q1) fun _ s2 q => q
theorem ps_set {i : Nat} {x : Str} {e : Expr} {te : TE} {pos' : Pos} (hN : X.N.Nodup) (hi : X.N[i]? = some x) (hx : Loc X.env.scope x) (he : PE X e te) (hs : swapsWith e (some (.Name x pos')) pos.line X.env = pure false := by rfl) (hf : X.fn x = true ∨ X.env.scope.names.lookup x = some .local := by first | exact .inl rfl | exact .inr rfl | assumption) :
 PS X (.Assign [.Name x pos'] e pos) (tAsg te (gName i)) := by
 intro pins s σ H D I h
 refine wpAny_Assign_Name (thn (he pins s σ H _ I h) fun v s1 ⟨y, H1, I1, r1, q1⟩ => ?_) hs
 exact store_ok I1 hN hi hx r1 (fun s2 I2 => ⟨_, H1, I2, q1⟩) hf
def tAug (i : Nat) (te : TE) (ti : TIp) : TS := fun D σ H => ∃ x, σ[i]? = some (some x) ∧ te σ H fun y H1 => ti x y H1 fun z H2 => D.nx (σ.set i (some z)) H2
theorem ps_aug (hN : X.N.Nodup) (hi : X.N[i]? = some x) (hx : Loc X.env.scope x) (he : PE X e te) (ho : PIp X op ti) (hf : X.fn x = true ∨ X.env.scope.names.lookup x = some .local := by first | exact .inl rfl | exact .inr rfl | assumption) :
 PS X (.AugAssign (.Name x pos') op e pos) (tAug i te ti) := by
 intro pins s σ H D I h
 obtain ⟨v, e1, h⟩ := h
 obtain ⟨m, hn, hl⟩ := I.loc
 have vis : Vis X.env.scope x := by rcases hx with k | k; exact .inl k; exact .inr (.inl k)
 obtain ⟨u, r, l⟩ := hl i x v hi e1 vis
 refine wpAny_AugAssign_Name ?_
 have go : wpAny (model X.prog X.w) X.A (eval e X.env) (fun w s₂ => wpAny (model X.prog X.w) X.A (inplaceOp op u w) (fun r s₃ => wpAny (model X.prog X.w) X.A (storeName X.env x r) (fun _ => SP X pins D .next) X.xe s₃) X.xe s₂) X.xe s := by
  refine thn (he pins s σ H _ I h) fun w s1 ⟨y, H1, I1, r1, q1⟩ => ?_
  refine thn (ho pins s1 σ H1 v y u w _ I1 r r1 q1) fun z s2 ⟨zv, H2, I2, r2, q2⟩ => ?_
  exact store_ok I2 hN hi hx r2 (fun s3 I3 => ⟨_, H2, I3, q2⟩) hf
 rcases l with ⟨hk, hm⟩ | ⟨hk, c, hc, hcell⟩
 · exact wpAny_loadName_local I.ok.kind hk hn hm go
 · rcases hk with hk | hk
   · exact wpAny_loadName_cell I.ok.kind hk hc hcell go
   · rcases hx with k | k
     · have : X.env.scope.names.lookup x = some .free := hk
       rw [k] at this; cases this
     · have : X.env.scope.names.lookup x = some .free := hk
       rw [k] at this; cases this
def ipI (f : Int → Int → Int) : TIp := fun x y H Q => ∃ i j, x = .int i ∧ y = .int j ∧ Q (.int (f i j)) H
theorem ip_sub : PIp X .Sub (ipI fun i j => i - j) := by
 intro pins s σ H x y v u Q I r1 r2 h
 obtain ⟨i, j, e1, e2, q⟩ := h
 subst e1; subst e2
 obtain ⟨t, rfl⟩ := r1
 obtain ⟨t', rfl⟩ := r2
 exact isub_int ⟨.int _, H, I.tok _, ⟨_, rfl⟩, q⟩
end
section
def tWhile (c : TT) (tb : TS) : TS := fun D σ H => ∃ W : Nat → St → Hp → Prop, (∃ m, W m σ H) ∧ ∀ m σ H, W m σ H →
 c σ H fun b H1 => if b = true then ∃ N : St → Hp → Prop, (∀ σ' H', N σ' H' → ∃ m', m' < m ∧ W m' σ' H') ∧ tb { D with nx := N, ct := N, bk := D.nx } σ H1 else D.nx σ H1
theorem ps_while (hp : PassesOwn (model X.prog X.w) X.A X.env X.xe) (hc : PT X c tc) (hb : PSs X body tb) : PS X (.While c body [] pos) (tWhile tc tb) := by
 intro pins s σ H D I h
 obtain ⟨W, ⟨m0, w0⟩, turn⟩ := h
 refine wpAny_While (codeAny_whileLoop (fun n s' => ∃ σ' H', Inv X pins σ' H' s' ∧ W n σ' H') ?_ m0 ⟨σ, H, I, w0⟩)
 rintro n s1 ⟨σ1, H1, I1, w1⟩
 refine wpAny_passesOwn hp (thn (hc pins s1 σ1 H1 _ I1 (turn n σ1 H1 w1)) fun b s2 ⟨H2, I2, q2⟩ => ?_)
 cases b with
 | true =>
  obtain ⟨N, hN, q2⟩ := q2
  refine wpAny_passesOwn hp (thn (hb pins s2 σ1 H2 _ I2 q2) fun f s3 q3 => ?_)
  cases f with
  | next =>
   obtain ⟨σ3, H3, I3, n3⟩ := q3
   obtain ⟨m', hm, w3⟩ := hN σ3 H3 n3
   exact ⟨m', hm, σ3, H3, I3, w3⟩
  | cont =>
   obtain ⟨σ3, H3, I3, n3⟩ := q3
   obtain ⟨m', hm, w3⟩ := hN σ3 H3 n3
   exact ⟨m', hm, σ3, H3, I3, w3⟩
  | brk => exact q3
  | ret v => exact q3
 | false =>
  exact wpAny_execs_nil ⟨σ1, H2, I2, q2⟩
end
structure It where
 go : Nat → Hp → Prop
 yld : Nat → Hp → V → Hp → Prop
 stop : Nat → Hp → Prop
def FpOk (X : Cx) (pins : List (Addr × Obj)) (H : Hp) (b : Addr) : Prop :=
 H b = none ∧ b ≠ X.env.locals ∧ b ∉ X.fs ∧ (b ∈ X.ex ∨ X.s₀.heap.objs.size ≤ b) ∧ (∀ x c, X.env.cells.lookup x = some c → c ≠ b) ∧ ∀ p ∈ X.pn ++ pins, p.1 ≠ b
theorem Inv.fpOk {σ : St} {b : Addr} (I : Inv X pins σ H s) (hb : s.heap.objs.size ≤ b) (hn : H' b = none) : FpOk X pins H' b := by
 refine ⟨hn, Nat.ne_of_gt (Nat.lt_of_lt_of_le I.lt hb), I.nofs hb, .inr (Nat.le_trans I.sz hb), fun x c e z => ?_, fun p hp z => ?_⟩
 · obtain ⟨v, q⟩ := I.cell x c e
   exact absurd (Nat.lt_of_lt_of_le q.lt (by simp_all)) (Nat.lt_irrefl _)
 · exact absurd (Nat.lt_of_lt_of_le (Heap.lt_size (I.pin p hp).1) (by simp_all)) (Nat.lt_irrefl _)
structure Turn (P : Program) (w : World) (K : PySem.W.Frag) (tg : Expr) (J : It) (fp : List Addr) (it : Addr) (tn : Nat → Heap → Prop) : Prop where
 mem : it ∈ fp
 obj : ∀ i h, tn i h → ∀ b ∈ fp, ∃ o, h.get? b = some o ∧ ∀ v, o.data ≠ .cell v
 keep : ∀ i h h', tn i h → (∀ b ∈ fp, ∀ o, h.get? b = some o → h'.get? b = some o) → tn i h'
 item : ∀ (X : Cx), X.prog = P → X.w = w → X.K = K → X.calm = true → ∀ (i : Nat) (pins : List (Addr × Obj)) (s : Shared) (σ : St) (H : Hp) (E : Value → Shared → Prop), Inv X pins σ H s → (∀ b ∈ fp, FpOk X pins H b) → tn i s.heap → J.go i H →
  wpAny (model P w) X.A (pyNext (.ref it)) (fun r s1 => ∃ u, r = some u ∧
   wpAny (model P w) X.A (letOwnedTupleGo tg (.ref it) u) (fun _ s2 => ∃ x H', Inv X pins σ H' s2 ∧ RelV x u ∧ J.yld i H x H' ∧ tn (i + 1) s2.heap ∧ ∀ b ∈ fp, H' b = none) E s1) E s
 done : ∀ (X : Cx), X.prog = P → X.w = w → X.K = K → X.calm = true → ∀ (i : Nat) (pins : List (Addr × Obj)) (s : Shared) (σ : St) (H : Hp) (E : Value → Shared → Prop), Inv X pins σ H s → (∀ b ∈ fp, FpOk X pins H b) → tn i s.heap → J.stop i H →
  wpAny (model P w) X.A (pyNext (.ref it)) (fun r s1 => r = none ∧ Inv X pins σ H s1) E s
 self : ∀ (A : Around) (i : Nat) (s : Shared) (Q : Value → Shared → Prop) (E : Value → Shared → Prop), tn i s.heap → Q (.ref it) s → wpAny (model P w) A (pyIter (.ref it)) Q E s
abbrev TI := St → Hp → (It → Hp → Prop) → Prop
def PIE (X : Cx) (pins : List (Addr × Obj)) (σ : St) (tg : Expr) (R : It → Hp → Prop) (itv : Value) (s2 : Shared) : Prop :=
 ∃ (it : Addr) (fp : List Addr) (tn : Nat → Heap → Prop) (J : It) (H' : Hp), itv = .ref it ∧ Inv X pins σ H' s2 ∧ Turn X.prog X.w X.K tg J fp it tn ∧ tn 0 s2.heap ∧ (∀ b ∈ fp, FpOk X pins H' b) ∧ R J H'
def PI (X : Cx) (tg iter : Expr) (wi : TI) : Prop :=
 ∀ (pins : List (Addr × Obj)) (s : Shared) (σ : St) (H : Hp) (R : It → Hp → Prop), Inv X pins σ H s → wi σ H R →
  wpAny (model X.prog X.w) X.A (eval iter X.env) (fun v s1 => wpAny (model X.prog X.w) X.A (pyIter v) (PIE X pins σ tg R) X.xe s1) X.xe s
theorem go_of {M : Model} {A : Around} {E : Value → Shared → Prop} {s : Shared} {tg : Expr} {it : Addr} {u : Value} {o : Obj} {n : String} {vs : Array Value} {Q : Unit → Shared → Prop} (ho : s.heap.get? it = some o) (hc : o.cls = .type n) (hd : o.data = .fields vs)
 (hn : ["enumerate", "zip", "dict_itemiterator", "dict_reverseitemiterator", "odict_iterator", "itertools.zip_longest", "itertools.pairwise"].contains n = false) (hQ : Q () s) : wpAny M A (letOwnedTupleGo tg (.ref it) u) Q E s := by
 unfold letOwnedTupleGo
 cases tg <;> first
  | exact wpAny_pure hQ
  | (cases u <;> first
   | exact wpAny_pure hQ
   | (refine wpAny_bind (wpAny_load ho ?_)
      rw [hc, hd]
      show wpAny M A (if (["enumerate", "zip", "dict_itemiterator", "dict_reverseitemiterator", "odict_iterator", "itertools.zip_longest", "itertools.pairwise"].contains n && vs[0]? == some (rawInt _)) = true then _ else _) Q E s
      rw [if_neg (by intro h; rw [hn, Bool.false_and] at h; cases h)]
      exact wpAny_pure hQ))
def Itl (K : PySem.W.Frag) (a : Addr) : It :=
 ⟨fun i H => ∃ xs x, SqL K H a xs ∧ xs[i]? = some x, fun i H x H' => H' = H ∧ ∀ xs, SqL K H a xs → xs[i]? = some x, fun i H => ∃ xs, SqL K H a xs ∧ xs.length ≤ i⟩
def Itt (K : PySem.W.Frag) (a : Addr) : It :=
 ⟨fun i H => ∃ xs x, SqT K H a xs ∧ xs[i]? = some x, fun i H x H' => H' = H ∧ ∀ xs, SqT K H a xs → xs[i]? = some x, fun i H => ∃ xs, SqT K H a xs ∧ xs.length ≤ i⟩
def Itr (lo : Int) (n : Nat) : It := ⟨fun i _ => i < n, fun i H x H' => H' = H ∧ x = .int (lo + i), fun i _ => n ≤ i⟩
theorem turn_list {P : Program} {w : World} {K : PySem.W.Frag} {tg : Expr} (a it : Addr) : Turn P w K tg (Itl K a) [it] it (fun i h => h.IsListIter it a i) where
 mem := by simp
 obj := fun i h st b hb => by
  have e : b = it := by simpa using hb
  subst e
  obtain ⟨o, e, c, d⟩ := st
  exact ⟨o, e, fun v z => by rw [d] at z; cases z⟩
 keep := fun i h h' st k => st.at fun o e => k it (by simp) o e
 item := by
  intro X hP hw hK hc i pins s σ H E I hf st hg
  subst hP hw hK
  obtain ⟨xs, x, hq, hx⟩ := hg
  obtain ⟨its, rv, p, hz⟩ := I.list hq
  obtain ⟨u, hu, ru⟩ := rv.get hx
  obtain ⟨f0, f1, f2, f3, f4, f5⟩ := hf it (by simp)
  refine wpAny_pyNext_list_item st p.isList (x := u) (by simpa using hu) fun h' st' sb => ?_
  have I1 : Inv X pins σ H { s with heap := h' } := I.turned (t' := s.toks) (fun b o hb e => (sb.2 b hb).trans e) f0 f1 f3 f4 f5
  obtain ⟨o, e, c, d⟩ := id st'
  exact ⟨u, rfl, go_of (s := { s with heap := h' }) e c d (by decide) ⟨x, H, I1, ru, ⟨rfl, fun ys hy => by rw [I.list_inj hy hq]; exact hx⟩, st', fun b hb => (hf b hb).1⟩⟩
 done := by
  intro X hP hw hK hc i pins s σ H E I hf st hg
  subst hP hw hK
  obtain ⟨xs, hq, hx⟩ := hg
  obtain ⟨its, rv, p, hz⟩ := I.list hq
  obtain ⟨f0, f1, f2, f3, f4, f5⟩ := hf it (by simp)
  have hl := rv.length
  exact wpAny_pyNext_list_end (I.ok.hd hc) st p.isList (by simp; omega) fun h' eb => ⟨rfl, I.turned (t' := s.toks) (fun b o hb e => eb b o hb e) f0 f1 f3 f4 f5⟩
 self := fun _ _ _ _ _ st h => wpAny_pyIter_listiter st h
theorem turn_tuple {P : Program} {w : World} {K : PySem.W.Frag} {tg : Expr} (a it : Addr) : Turn P w K tg (Itt K a) [it] it (fun i h => h.IsTupleIter it a i) where
 mem := by simp
 obj := fun i h st b hb => by
  have e : b = it := by simpa using hb
  subst e
  obtain ⟨o, e, c, d⟩ := st
  exact ⟨o, e, fun v z => by rw [d] at z; cases z⟩
 keep := fun i h h' st k => st.at fun o e => k it (by simp) o e
 item := by
  intro X hP hw hK hc i pins s σ H E I hf st hg
  subst hP hw hK
  obtain ⟨xs, x, hq, hx⟩ := hg
  obtain ⟨its, rv, p, hz⟩ := I.tuple hq
  obtain ⟨u, hu, ru⟩ := rv.get hx
  obtain ⟨f0, f1, f2, f3, f4, f5⟩ := hf it (by simp)
  refine wpAny_pyNext_tuple_item st (show s.heap.IsTuple a its.toArray from p) (x := u) (by simpa using hu) fun h' st' sb => ?_
  have I1 : Inv X pins σ H { s with heap := h' } := I.turned (t' := s.toks) (fun b o hb e => (sb.2 b hb).trans e) f0 f1 f3 f4 f5
  obtain ⟨o, e, c, d⟩ := id st'
  exact ⟨u, rfl, go_of (s := { s with heap := h' }) e c d (by decide) ⟨x, H, I1, ru, ⟨rfl, fun ys hy => by rw [I.tuple_inj hy hq]; exact hx⟩, st', fun b hb => (hf b hb).1⟩⟩
 done := by
  intro X hP hw hK hc i pins s σ H E I hf st hg
  subst hP hw hK
  obtain ⟨xs, hq, hx⟩ := hg
  obtain ⟨its, rv, p, hz⟩ := I.tuple hq
  obtain ⟨f0, f1, f2, f3, f4, f5⟩ := hf it (by simp)
  have hl := rv.length
  exact wpAny_pyNext_tuple_end (I.ok.hd hc) st (show s.heap.IsTuple a its.toArray from p) (by simp; omega) fun h' eb => ⟨rfl, I.turned (t' := s.toks) (fun b o hb e => eb b o hb e) f0 f1 f3 f4 f5⟩
 self := fun _ _ _ _ _ st h => wpAny_pyIter_tupleiter st h
theorem turn_range {P : Program} {w : World} {K : PySem.W.Frag} {tg : Expr} (it : Addr) (lo : Int) (n : Nat) : Turn P w K tg (Itr lo n) [it] it (fun i h => IsRangeIter h it (lo + (i : Nat) * 1) ((n : Int) - (i : Nat)) 1) where
 mem := by simp
 obj := fun i h st b hb => by simp_all
 keep := fun i h h' st k => k it (by simp) _ st
 item := by
  intro X hP hw hK hc i pins s σ H E I hf st hg
  subst hP hw hK
  obtain ⟨f0, f1, f2, f3, f4, f5⟩ := hf it (by simp)
  have W := Walks.range (prog := X.prog) (w := X.w) (I.ok.hd hc) it lo 1 n
  refine W.item i s _ _ hg st fun v h' tk hv st' kk => ?_
  obtain ⟨t, rfl⟩ := hv
  have I1 : Inv X pins σ H { s with heap := h', toks := tk } := I.turned (fun b o hb e => kk b o (by simpa using hb) e) f0 f1 f3 f4 f5
  refine ⟨_, rfl, go_of (s := { s with heap := h', toks := tk }) (n := "range_iterator") st' rfl rfl (by decide) ⟨.int (lo + i), H, I1, ⟨t, ?_⟩, ⟨rfl, rfl⟩, st', fun b hb => (hf b hb).1⟩⟩
  rw [Int.mul_one]
 done := by
  intro X hP hw hK hc i pins s σ H E I hf st hg
  subst hP hw hK
  obtain ⟨f0, f1, f2, f3, f4, f5⟩ := hf it (by simp)
  exact wpAny_pyNext_range_end (I.ok.hd hc) st (by have : n ≤ i := hg; omega) fun h' eb => ⟨rfl, I.turned (t' := s.toks) (fun b o hb e => eb b o hb e) f0 f1 f3 f4 f5⟩
 self := fun _ _ _ _ _ st h => wpAny_pyIter_rangeiter st h
section
variable {tg : Expr}
theorem range_it {pins : List (Addr × Obj)} {σ : St} {H : Hp} {s : Shared} {R : It → Hp → Prop} {E : Value → Shared → Prop} {lo hi : Int} {t u v : Tok} {tk : Nat} (I : Inv X pins σ H s) (h1 : -(2 ^ 62) ≤ lo) (h2 : lo < 2 ^ 62) (h3 : -(2 ^ 62) ≤ hi) (h4 : hi < 2 ^ 62)
 (q : R (Itr lo (hi - lo).toNat) H) : wpAny (model X.prog X.w) X.A (pyIter (.ref s.heap.objs.size)) (PIE X pins σ tg R) E { s with heap := s.heap.push { cls := .type "range", data := .fields #[.int lo t, .int hi u, .int 1 v] }, toks := tk } := by
 refine wpAny_pyIter_range (IsRange.new ..) (small_one h1 h2 h3 h4) ?_
 have I1 : Inv X pins σ H { s with heap := s.heap.push { cls := .type "range", data := .fields #[.int lo t, .int hi u, .int 1 v] }, toks := tk } := I.kept fun b o e => Heap.get?_push_of_some _ e
 refine ⟨(s.heap.push { cls := .type "range", data := .fields #[.int lo t, .int hi u, .int 1 v] }).objs.size, [(s.heap.push { cls := .type "range", data := .fields #[.int lo t, .int hi u, .int 1 v] }).objs.size], _, _, H, rfl,
  I1.kept (t' := tk) fun b o e => Heap.get?_push_of_some _ e, turn_range _ lo (hi - lo).toNat, ?_, fun b hb => ?_, q⟩
 · have e1 : lo + ((0 : Nat) : Int) * 1 = lo := by simp
   have e2 : (((hi - lo).toNat : Nat) : Int) - ((0 : Nat) : Int) = Builtin.Range.rangeSize lo hi 1 := by rw [rangeSize_one]; split <;> omega
   show IsRangeIter _ _ (lo + ((0 : Nat) : Int) * 1) ((((hi - lo).toNat : Nat) : Int) - ((0 : Nat) : Int)) 1
   rw [e1, e2]
   exact Heap.get?_push_size _ rfl
 · have e : b = (s.heap.push { cls := .type "range", data := .fields #[.int lo t, .int hi u, .int 1 v] }).objs.size := by simpa using hb
   subst e
   exact I1.fpOk (Nat.le_refl _) (I1.hok.fresh (Nat.le_refl _))
def iRng1 (ta : TA) : TI := fun σ H R => ta σ H fun vs H1 => ∃ j : Int, vs = [.int j] ∧ -(2 ^ 62) ≤ j ∧ j < 2 ^ 62 ∧ R (Itr 0 j.toNat) H1
def iRng2 (ta : TA) : TI := fun σ H R => ta σ H fun vs H1 => ∃ i j : Int, vs = [.int i, .int j] ∧ (-(2 ^ 62) ≤ i ∧ i < 2 ^ 62 ∧ -(2 ^ 62) ≤ j ∧ j < 2 ^ 62) ∧ R (Itr i (j - i).toNat) H1
theorem pi_range1 (hg : Gl X "range") (hm : X.mg "range" = none) (ha : PA X [a] ta) (hs : starEach [a] X.env = [(false, eval a X.env)] := by rfl) : PI X tg (.Call (.Name "range" p) [a] [] pos) (iRng1 ta) := by
 intro pins s σ H R I h
 refine Call_ (ld_blt I hg hm boot_range (PyProof.Rows.callWith_type1 (thn (ha pos pins s σ H _ I h) fun us s1 ⟨vs, H1, I1, r1, q1⟩ => ?_) hs rfl))
 obtain ⟨j, e, q1, q2, q⟩ := q1
 subst e
 cases r1 with
 | cons r rr =>
  cases rr
  obtain ⟨t, rfl⟩ := r
  exact call_range_1 (range_it I1 (by omega) (by omega) q1 q2 (by grind))
theorem pi_range2 {p pos : Pos} (hg : Gl X "range") (hm : X.mg "range" = none) (ha : PA X [a, b] ta) (hs : starEach [a, b] X.env = [(false, eval a X.env), (false, eval b X.env)] := by rfl) (hs2 : starEach [b] X.env = [(false, eval b X.env)] := by rfl) :
 PI X tg (.Call (.Name "range" p) [a, b] [] pos) (iRng2 ta) := by
 intro pins s σ H R I h
 refine Call_ (ld_blt I hg hm boot_range (PyProof.Rows.callWith_type1 (thn (ha pos pins s σ H _ I h) fun us s1 ⟨vs, H1, I1, r1, q1⟩ => ?_) (by grind) (by rw [hs2]; rfl)))
 obtain ⟨i, j, e, ⟨q1, q2, q3, q4⟩, q⟩ := q1
 subst e
 cases r1 with
 | cons r rr =>
  cases rr with
  | cons r' rr =>
   cases rr
   obtain ⟨t, rfl⟩ := r
   obtain ⟨t', rfl⟩ := r'
   exact call_range_2 (range_it I1 q1 q2 q3 q4 q)
def tFor (wi : TI) (g : TG) (tb : TS) : TS := fun D σ H => wi σ H fun J H1 => ∃ W : Nat → Nat → St → Hp → Prop, (∃ m, W 0 m σ H1) ∧ ∀ i m σ H, W i m σ H →
 (J.stop i H ∧ D.nx σ H) ∨ (J.go i H ∧ ∃ N : St → Hp → Prop, (∀ σ' H', N σ' H' → ∃ m', m' < m ∧ W (i + 1) m' σ' H') ∧ ∀ x H', J.yld i H x H' → g x σ H' fun σ2 H2 => tb { D with nx := N, ct := N, bk := D.nx } σ2 H2)
def pinsAt (fp : List Addr) (h : Heap) : List (Addr × Obj) := fp.filterMap fun b => (h.get? b).map fun o => (b, o)
theorem mem_pinsAt (hb : b ∈ fp) (e : h.get? b = some o) : (b, o) ∈ pinsAt fp h := List.mem_filterMap.mpr ⟨b, hb, by simp_all⟩
theorem of_pinsAt (hp : p ∈ pinsAt fp h) : p.1 ∈ fp ∧ h.get? p.1 = some p.2 := by
 obtain ⟨b, hb, e⟩ := List.mem_filterMap.mp hp
 cases q : h.get? b with
 | none => simp_all
 | some o =>
  rw [q] at e
  have e' := Option.some.inj e
  subst e'
  simp_all
theorem Inv.pinned {σ : St} (I : Inv X pins σ H s) (hf : ∀ b ∈ fp, FpOk X pins H b) (ho : ∀ b ∈ fp, ∃ o, s.heap.get? b = some o ∧ ∀ v, o.data ≠ .cell v) : Inv X (pins ++ pinsAt fp s.heap) σ H s :=
 I.pins_of fun p hp => (List.mem_append.mp hp).elim (fun z => I.pin p (List.mem_append_right _ z)) fun z => by
  obtain ⟨hb, e⟩ := of_pinsAt z
  obtain ⟨f0, f1, f2, _⟩ := hf p.1 hb
  obtain ⟨o, e', d⟩ := ho p.1 hb
  simp_all
theorem Inv.unpinned {σ : St} (I : Inv X (pins ++ pl) σ H s) : Inv X pins σ H s := I.pins_of fun p hp => I.pin p (List.mem_append_right _ (List.mem_append_left _ hp))
theorem ps_for (hp : PassesOwn (model X.prog X.w) X.A X.env X.xe) (hc : X.calm = true) (hi : PI X tg iter wi) (hg : PG X tg g) (hb : PSs X body tb)
 (hs : ∀ x, foldedSetIterable iter X.env x = pure x := by intro _; rfl) : PS X (.For tg iter body [] pos) (tFor wi g tb) := by
 intro pins s σ H D I h
 refine wpAny_For (thn (hi pins s σ H _ I h) fun v s1 h1 => thn h1 fun itv s2 h2 => ?_) hs
 obtain ⟨it, fp, tn, J, H2, e, I2, T, st2, f2, W, ⟨m0, w0⟩, turn⟩ := h2
 subst e
 -- what stays true of the iterator's objects through the loop
 have stat : ∀ {H' : Hp}, (∀ b ∈ fp, H' b = none) → ∀ b ∈ fp, FpOk X pins H' b := fun hn b hb => ⟨hn b hb, (f2 b hb).2⟩
 refine codeAny_forLoop_any (fun n s' => ∃ i σ' H', Inv X pins σ' H' s' ∧ tn i s'.heap ∧ (∀ b ∈ fp, H' b = none) ∧ W i n σ' H') ?_ m0 ⟨0, σ, H2, I2, st2, fun b hb => (f2 b hb).1, w0⟩
 rintro n s3 ⟨i, σ3, H3, I3, st3, fr3, w3⟩
 rcases turn i n σ3 H3 w3 with ⟨stop, qn⟩ | ⟨go, N, hN, step⟩
 · refine wpAny_passesOwn hp (thn (T.done X rfl rfl rfl hc i pins s3 σ3 H3 X.xe I3 (stat fr3) st3 stop) fun r s4 ⟨hr, I4⟩ => ?_)
   subst hr
   exact wpAny_execs_nil ⟨σ3, H3, I4, qn⟩
 · refine wpAny_passesOwn hp (thn (T.item X rfl rfl rfl hc i pins s3 σ3 H3 X.xe I3 (stat fr3) st3 go) fun r s4 ⟨u, hr, h4⟩ => ?_)
   subst hr
   refine wpAny_passesOwn hp (thn h4 fun _ s5 ⟨x, H5, I5, r5, y5, st5, fr5⟩ => ?_)
   have I5' := I5.pinned (stat fr5) (T.obj _ _ st5)
   refine wpAny_passesOwn hp (thn (hg _ s5 σ3 H5 x u _ I5' r5 (step x H5 y5)) fun _ s6 ⟨σ6, H6, I6, q6⟩ => ?_)
   refine wpAny_passesOwn hp (thn (hb _ s6 σ6 H6 _ I6 q6) fun f s7 q7 => ?_)
   have again : ∀ {σ7 : St} {H7 : Hp}, Inv X (pins ++ pinsAt fp s5.heap) σ7 H7 s7 → N σ7 H7 → ∃ m, m < n ∧ ∃ i σ' H', Inv X pins σ' H' s7 ∧ tn i s7.heap ∧ (∀ b ∈ fp, H' b = none) ∧ W i m σ' H' := fun {σ7 H7} I7 n7 => by
    obtain ⟨m', hm, w7⟩ := hN σ7 H7 n7
    refine ⟨m', hm, i + 1, σ7, H7, I7.unpinned, T.keep _ _ _ st5 fun b hb o e => (I7.pin (b, o) (List.mem_append_right _ (List.mem_append_right _ (mem_pinsAt hb e)))).1, fun b hb => ?_, w7⟩
    obtain ⟨o, e, d⟩ := T.obj _ _ st5 b hb
    exact (I7.pin (b, o) (List.mem_append_right _ (List.mem_append_right _ (mem_pinsAt hb e)))).2.1
   cases f with
   | next => obtain ⟨σ7, H7, I7, n7⟩ := q7; exact again I7 n7
   | cont => obtain ⟨σ7, H7, I7, n7⟩ := q7; exact again I7 n7
   | brk => obtain ⟨σ7, H7, I7, q7⟩ := q7; exact ⟨σ7, H7, I7.unpinned, q7⟩
   | ret v => obtain ⟨x7, σ7, H7, I7, r7, q7⟩ := q7; exact ⟨x7, σ7, H7, I7.unpinned, r7, q7⟩
end
theorem for_list {K : PySem.W.Frag} {a : Addr} {xs : List V} {g : TG} {tb : TS} {D : Ends} {σ : St} {H : Hp} (Pv : Nat → St → Hp → Prop) (h0 : Pv 0 σ H) (hl : ∀ i σ H, i ≤ xs.length → Pv i σ H → SqL K H a xs)
 (hs : ∀ i x σ H, xs[i]? = some x → Pv i σ H → g x σ H fun σ2 H2 => tb { D with nx := Pv (i + 1), ct := Pv (i + 1), bk := D.nx } σ2 H2) (hd : ∀ σ H, Pv xs.length σ H → D.nx σ H) :
 ∃ W : Nat → Nat → St → Hp → Prop, (∃ m, W 0 m σ H) ∧ ∀ i m σ H, W i m σ H →
  ((Itl K a).stop i H ∧ D.nx σ H) ∨ ((Itl K a).go i H ∧ ∃ N : St → Hp → Prop, (∀ σ' H', N σ' H' → ∃ m', m' < m ∧ W (i + 1) m' σ' H') ∧ ∀ x H', (Itl K a).yld i H x H' → g x σ H' fun σ2 H2 => tb { D with nx := N, ct := N, bk := D.nx } σ2 H2) := by
 refine ⟨fun i m σ H => m = xs.length - i ∧ i ≤ xs.length ∧ Pv i σ H, ⟨xs.length, by simp, Nat.zero_le _, h0⟩, ?_⟩
 rintro i m σ H ⟨rfl, hi, p⟩
 have q := hl i σ H hi p
 by_cases hlt : i < xs.length
 · refine .inr ⟨⟨xs, xs[i], q, by simp [hlt]⟩, Pv (i + 1), fun σ' H' p' => ⟨xs.length - (i + 1), by omega, rfl, hlt, p'⟩, fun x H' y => ?_⟩
   obtain ⟨e, y⟩ := y
   subst e
   exact hs i x σ _ (y xs q) p
 · have e : i = xs.length := by omega
   subst e
   exact .inl ⟨⟨xs, q, Nat.le_refl _⟩, hd σ H p⟩
theorem for_tup {K : PySem.W.Frag} {g : TG} {tb : TS} {D : Ends} {H : Hp} (Pv : Nat → St → Hp → Prop) (h0 : Pv 0 σ H) (hl : ∀ i σ H, i ≤ xs.length → Pv i σ H → SqT K H a xs)
 (hs : ∀ i x σ H, xs[i]? = some x → Pv i σ H → g x σ H fun σ2 H2 => tb { D with nx := Pv (i + 1), ct := Pv (i + 1), bk := D.nx } σ2 H2) (hd : ∀ σ H, Pv xs.length σ H → D.nx σ H) :
 ∃ W : Nat → Nat → St → Hp → Prop, (∃ m, W 0 m σ H) ∧ ∀ i m σ H, W i m σ H →
  ((Itt K a).stop i H ∧ D.nx σ H) ∨ ((Itt K a).go i H ∧ ∃ N : St → Hp → Prop, (∀ σ' H', N σ' H' → ∃ m', m' < m ∧ W (i + 1) m' σ' H') ∧ ∀ x H', (Itt K a).yld i H x H' → g x σ H' fun σ2 H2 => tb { D with nx := N, ct := N, bk := D.nx } σ2 H2) := by
 refine ⟨fun i m σ H => m = xs.length - i ∧ i ≤ xs.length ∧ Pv i σ H, ⟨xs.length, by simp, Nat.zero_le _, h0⟩, ?_⟩
 rintro i m σ H ⟨rfl, hi, p⟩
 have q := hl i σ H hi p
 by_cases hlt : i < xs.length
 · refine .inr ⟨⟨xs, xs[i], q, by simp [hlt]⟩, Pv (i + 1), fun σ' H' p' => ⟨xs.length - (i + 1), by omega, rfl, hlt, p'⟩, fun x H' y => ?_⟩
   obtain ⟨e, y⟩ := y
   subst e
   exact hs i x σ _ (y xs q) p
 · have e : i = xs.length := by omega
   subst e
   exact .inl ⟨⟨xs, q, Nat.le_refl _⟩, hd σ H p⟩
theorem for_range {lo : Int} {g : TG} {tb : TS} {D : Ends} {H : Hp} (Pv : Nat → St → Hp → Prop) (h0 : Pv 0 σ H)
 (hs : ∀ i σ H, i < n → Pv i σ H → g (.int (lo + i)) σ H fun σ2 H2 => tb { D with nx := Pv (i + 1), ct := Pv (i + 1), bk := D.nx } σ2 H2) (hd : ∀ σ H, Pv n σ H → D.nx σ H) :
 ∃ W : Nat → Nat → St → Hp → Prop, (∃ m, W 0 m σ H) ∧ ∀ i m σ H, W i m σ H →
  ((Itr lo n).stop i H ∧ D.nx σ H) ∨ ((Itr lo n).go i H ∧ ∃ N : St → Hp → Prop, (∀ σ' H', N σ' H' → ∃ m', m' < m ∧ W (i + 1) m' σ' H') ∧ ∀ x H', (Itr lo n).yld i H x H' → g x σ H' fun σ2 H2 => tb { D with nx := N, ct := N, bk := D.nx } σ2 H2) := by
 refine ⟨fun i m σ H => m = n - i ∧ i ≤ n ∧ Pv i σ H, ⟨n, by simp, Nat.zero_le _, h0⟩, ?_⟩
 rintro i m σ H ⟨rfl, hi, p⟩
 by_cases hlt : i < n
 · refine .inr ⟨hlt, Pv (i + 1), fun σ' H' p' => ⟨n - (i + 1), by omega, rfl, hlt, p'⟩, fun x H' y => ?_⟩
   obtain ⟨e, y⟩ := y
   simp_all
 · have e : i = n := by omega
   subst e
   exact .inl ⟨Nat.le_refl _, hd σ H p⟩
abbrev R2 := V → V → Hp → VK → Prop
def OpR (X : Cx) (f : Value → Value → Sem Value) (r : R2) : Prop :=
 ∀ (pins : List (Addr × Obj)) (s : Shared) (σ : St) (H : Hp) (x y : V) (v u : Value) (Q : VK), Inv X pins σ H s → RelV x v → RelV y u → r x y H Q →
  wpAny (model X.prog X.w) X.A (f v u) (EP X pins σ Q) X.xe s
def UnR (X : Cx) (f : Value → Sem Value) (r : V → Hp → VK → Prop) : Prop :=
 ∀ (pins : List (Addr × Obj)) (s : Shared) (σ : St) (H : Hp) (x : V) (v : Value) (Q : VK), Inv X pins σ H s → RelV x v → r x H Q →
  wpAny (model X.prog X.w) X.A (f v) (EP X pins σ Q) X.xe s
def CallR (X : Cx) (f : Value) (r : List V → Hp → VK → Prop) : Prop :=
 ∀ (pins : List (Addr × Obj)) (s : Shared) (σ : St) (H : Hp) (xs : List V) (us : List Value) (Q : VK), Inv X pins σ H s → Vals xs us → r xs H Q →
  wpAny (model X.prog X.w) X.A (call f us) (EP X pins σ Q) X.xe s
def tOp (r : R2) (ta tb : TE) : TE := fun σ H Q => ta σ H fun x H1 => tb σ H1 fun y H2 => r x y H2 Q
def tUn (r : V → Hp → VK → Prop) (ta : TE) : TE := fun σ H Q => ta σ H fun x H1 => r x H1 Q
def rI (C : Int → Int → Prop) (g : Int → Int → V) : R2 := fun x y H Q => ∃ i j, x = .int i ∧ y = .int j ∧ C i j ∧ Q (g i j) H
def rI0 (g : Int → Int → V) : R2 := fun x y H Q => ∃ i j, x = .int i ∧ y = .int j ∧ Q (g i j) H
def rU (g : Int → V) : V → Hp → VK → Prop := fun x H Q => ∃ i, x = .int i ∧ Q (g i) H
section
theorem binT (ha : PE X a ta) (hb : PE X b tb) {σ : St} {R : V → V → Hp → Prop} (I : Inv X pins σ H s)
 (h : ta σ H fun x H1 => tb σ H1 fun y H2 => R x y H2) {f : Value → Value → Sem Value}
 (hf : ∀ v u s2 x y H2, Inv X pins σ H2 s2 → RelV x v → RelV y u → R x y H2 → wpAny (model X.prog X.w) X.A (f v u) Q X.xe s2) :
 wpAny (model X.prog X.w) X.A (eval a X.env) (fun v s₁ => wpAny (model X.prog X.w) X.A (eval b X.env) (fun u s₂ => wpAny (model X.prog X.w) X.A (f v u) Q X.xe s₂) X.xe s₁) X.xe s := by
 refine thn (ha pins s σ H _ I h) fun v s1 ⟨x, H1, I1, r1, q1⟩ => ?_
 refine thn (hb pins s1 σ H1 _ I1 q1) fun u s2 ⟨y, H2, I2, r2, q2⟩ => ?_
 exact hf v u s2 x y H2 I2 r1 r2 q2
theorem pe_op (ho : OpR X (binaryOp op) r) (ha : PE X a ta) (hb : PE X b tb) : PE X (.BinOp a op b pos) (tOp r ta tb) := by
 intro pins s σ H Q I h
 exact wpAny_BinOp (binT ha hb I h fun v u s2 x y H2 I2 rx ry q => ho pins s2 σ H2 x y v u Q I2 rx ry q)
theorem pe_un (ho : UnR X (unaryOp op) r) (ha : PE X a ta) : PE X (.UnaryOp op a pos) (tUn r ta) := by
 intro pins s σ H Q I h
 exact UnaryOp_ (thn (ha pins s σ H _ I h) fun v s1 ⟨x, H1, I1, r1, q1⟩ => ho pins s1 σ H1 x v Q I1 r1 q1)
theorem opI {g : Int → Int → Int}
 (rule : ∀ (i j : Int) (t u : Tok) (s : Shared) (Q : Value → Shared → Prop) (E : Value → Shared → Prop), C i j → Q (.int (g i j) s.toks) { s with toks := s.toks + 1 } → wpAny (model X.prog X.w) X.A (f (.int i t) (.int j u)) Q E s) :
 OpR X f (rI C fun i j => .int (g i j)) := by
 intro pins s σ H x y v u Q I rx ry h
 obtain ⟨i, j, rfl, rfl, hc, q⟩ := h
 obtain ⟨t, rfl⟩ := rx
 obtain ⟨t', rfl⟩ := ry
 exact rule i j t t' s _ _ hc ⟨.int _, H, I.tok _, ⟨_, rfl⟩, q⟩
theorem opI0 {g : Int → Int → Int}
 (rule : ∀ (i j : Int) (t u : Tok) (s : Shared) (Q : Value → Shared → Prop) (E : Value → Shared → Prop), Q (.int (g i j) s.toks) { s with toks := s.toks + 1 } → wpAny (model X.prog X.w) X.A (f (.int i t) (.int j u)) Q E s) :
 OpR X f (rI0 fun i j => .int (g i j)) := by
 intro pins s σ H x y v u Q I rx ry h
 obtain ⟨i, j, rfl, rfl, q⟩ := h
 obtain ⟨t, rfl⟩ := rx
 obtain ⟨t', rfl⟩ := ry
 exact rule i j t t' s _ _ ⟨.int _, H, I.tok _, ⟨_, rfl⟩, q⟩
theorem opB0 {g : Int → Int → Bool}
 (rule : ∀ (i j : Int) (t u : Tok) (s : Shared) (Q : Value → Shared → Prop) (E : Value → Shared → Prop), Q (.bool (g i j)) s → wpAny (model X.prog X.w) X.A (f (.int i t) (.int j u)) Q E s) :
 OpR X f (rI0 fun i j => .bl (g i j)) := by
 intro pins s σ H x y v u Q I rx ry h
 obtain ⟨i, j, rfl, rfl, q⟩ := h
 obtain ⟨t, rfl⟩ := rx
 obtain ⟨t', rfl⟩ := ry
 exact rule i j t t' s _ _ ⟨.bl _, H, I, rfl, q⟩
def CPow (i j : Int) : Prop := 0 ≤ j ∧ j ≤ 1000000 ∧ i.natAbs < 2 ^ 64
theorem op_add : OpR X (binaryOp .Add) (rI0 fun i j => .int (i + j)) := opI0 fun _ _ _ _ _ _ _ q => add_int q
theorem op_sub : OpR X (binaryOp .Sub) (rI0 fun i j => .int (i - j)) := opI0 fun _ _ _ _ _ _ _ q => sub_int q
theorem op_mod : OpR X (binaryOp .Mod) (rI (fun _ j => 0 < j) fun i j => .int (i % j)) := opI fun i j _ _ _ _ _ hc q => by
 have h1 : (0 : Int) < j := hc
 exact mod_int' (by omega) (by rw [Int.fmod_eq_emod_of_nonneg i (by omega)]; exact q)
theorem op_pow : OpR X (binaryOp .Pow) (rI CPow fun i j => .int (i ^ j.toNat)) := opI fun _ _ _ _ _ _ _ hc q => pow_int_small hc.1 hc.2.1 hc.2.2 q
theorem unI {g : Int → Int}
 (rule : ∀ (i : Int) (t : Tok) (s : Shared) (Q : Value → Shared → Prop) (E : Value → Shared → Prop), Q (.int (g i) s.toks) { s with toks := s.toks + 1 } → wpAny (model X.prog X.w) X.A (f (.int i t)) Q E s) :
 UnR X f (rU fun i => .int (g i)) := by
 intro pins s σ H x v Q I rx h
 obtain ⟨i, rfl, q⟩ := h
 obtain ⟨t, rfl⟩ := rx
 exact rule i t s _ _ ⟨.int _, H, I.tok _, ⟨_, rfl⟩, q⟩
theorem un_neg : UnR X (unaryOp .USub) (rU fun i => .int (-i)) := unI fun _ _ _ _ _ q => neg_int q
end
def scal : V → V → Bool
 | .non, .non => true | .non, .int _ => true | .int _, .non => true | .non, .bl _ => true | .bl _, .non => true | .non, .str _ => true | .str _, .non => true
 | .int _, .int _ => true | .bl _, .bl _ => true | .str _, .str _ => true | .byt _, .byt _ => true
 | .int _, .str _ => true | .str _, .int _ => true | .bl _, .str _ => true | .str _, .bl _ => true
 | _, _ => false
def rEq : R2 := fun x y H Q => scal x y = true ∧ Q (.bl (decide (x = y))) H
def rNe : R2 := fun x y H Q => scal x y = true ∧ Q (.bl (!decide (x = y))) H
theorem dec_int : decide (V.int i = V.int j) = (i == j) := by
 rw [Bool.eq_iff_iff]
 simp
theorem dec_bl : decide (V.bl i = V.bl j) = (i == j) := by
 rw [Bool.eq_iff_iff]
 simp
theorem dec_str : decide (V.str i = V.str j) = (i == j) := by
 rw [Bool.eq_iff_iff]
 simp
theorem dec_byt : decide (V.byt i = V.byt j) = (i.toList == j.toList) := by
 rw [Bool.eq_iff_iff]
 simp
section
theorem fin_bl {σ : St} (I : Inv X pins σ H s) (q : Q (.bl k) H) (e : k = k') : EP X pins σ Q (.bool k') s := by
 subst e
 exact ⟨.bl k, H, I, rfl, q⟩
theorem op_eq : OpR X (compareOp .Eq) rEq := by
 intro pins s σ H x y v u Q I rx ry h
 obtain ⟨hs, q⟩ := h
 cases x with
 | non =>
  cases rx
  cases y with
  | non => cases ry; exact PySem.EqNone.eq_none_none (fin_bl I q (by simp))
  | bl j => cases ry; exact PySem.EqNone.eq_none_bool (fin_bl I q (by simp))
  | int j => obtain ⟨t', rfl⟩ := ry; exact PySem.EqNone.eq_none_int (fin_bl I q (by simp))
  | str j => obtain ⟨t', rfl⟩ := ry; exact PySem.EqNone.eq_none_str (fin_bl I q (by simp))
  | _ => exact absurd (show false = true from hs) Bool.false_ne_true
 | bl i =>
  cases rx
  cases y with
  | non => cases ry; exact PySem.EqNone.eq_bool_none (fin_bl I q (by simp))
  | bl j => cases ry; exact eq_bool (fin_bl I q dec_bl)
  | str j => obtain ⟨t', rfl⟩ := ry; exact PySem.EqMixed.eq_bool_str (fin_bl I q (by simp))
  | _ => exact absurd (show false = true from hs) Bool.false_ne_true
 | int i =>
  obtain ⟨t, rfl⟩ := rx
  cases y with
  | non => cases ry; exact PySem.EqNone.eq_int_none (fin_bl I q (by simp))
  | int j => obtain ⟨t', rfl⟩ := ry; exact eq_int (fin_bl I q dec_int)
  | str j => obtain ⟨t', rfl⟩ := ry; exact PySem.EqMixed.eq_int_str (fin_bl I q (by simp))
  | _ => exact absurd (show false = true from hs) Bool.false_ne_true
 | str i =>
  obtain ⟨t, rfl⟩ := rx
  cases y with
  | non => cases ry; exact PySem.EqNone.eq_str_none (fin_bl I q (by simp))
  | bl j => cases ry; exact PySem.EqMixed.eq_str_bool (fin_bl I q (by simp))
  | int j => obtain ⟨t', rfl⟩ := ry; exact PySem.EqMixed.eq_str_int (fin_bl I q (by simp))
  | str j => obtain ⟨t', rfl⟩ := ry; exact eq_str (fin_bl I q dec_str)
  | _ => exact absurd (show false = true from hs) Bool.false_ne_true
 | byt i =>
  obtain ⟨t, rfl⟩ := rx
  cases y with
  | byt j => obtain ⟨t', rfl⟩ := ry; exact PySem.W.eq_bytes (fin_bl I q dec_byt)
  | _ => exact absurd (show false = true from hs) Bool.false_ne_true
 | _ => cases y <;> exact absurd (show false = true from hs) Bool.false_ne_true
theorem op_ne : OpR X (compareOp .NotEq) rNe := by
 intro pins s σ H x y v u Q I rx ry h
 obtain ⟨hs, q⟩ := h
 cases x with
 | non =>
  cases rx
  cases y with
  | non => cases ry; exact PySem.EqNone.ne_none_none (fin_bl I q (by simp))
  | bl j => cases ry; exact PySem.EqNone.ne_none_bool (fin_bl I q (by simp))
  | int j => obtain ⟨t', rfl⟩ := ry; exact PySem.EqNone.ne_none_int (fin_bl I q (by simp))
  | str j => obtain ⟨t', rfl⟩ := ry; exact PySem.EqNone.ne_none_str (fin_bl I q (by simp))
  | _ => exact absurd (show false = true from hs) Bool.false_ne_true
 | bl i =>
  cases rx
  cases y with
  | non => cases ry; exact PySem.EqNone.ne_bool_none (fin_bl I q (by simp))
  | bl j => cases ry; exact ne_bool (fin_bl I q (congrArg not dec_bl))
  | str j => obtain ⟨t', rfl⟩ := ry; exact PySem.EqMixed.ne_bool_str (fin_bl I q (by simp))
  | _ => exact absurd (show false = true from hs) Bool.false_ne_true
 | int i =>
  obtain ⟨t, rfl⟩ := rx
  cases y with
  | non => cases ry; exact PySem.EqNone.ne_int_none (fin_bl I q (by simp))
  | int j => obtain ⟨t', rfl⟩ := ry; exact ne_int (fin_bl I q (congrArg not dec_int))
  | str j => obtain ⟨t', rfl⟩ := ry; exact PySem.EqMixed.ne_int_str (fin_bl I q (by simp))
  | _ => exact absurd (show false = true from hs) Bool.false_ne_true
 | str i =>
  obtain ⟨t, rfl⟩ := rx
  cases y with
  | non => cases ry; exact PySem.EqNone.ne_str_none (fin_bl I q (by simp))
  | bl j => cases ry; exact PySem.EqMixed.ne_str_bool (fin_bl I q (by simp))
  | int j => obtain ⟨t', rfl⟩ := ry; exact PySem.EqMixed.ne_str_int (fin_bl I q (by simp))
  | str j => obtain ⟨t', rfl⟩ := ry; exact ne_str (fin_bl I q (congrArg not dec_str))
  | _ => exact absurd (show false = true from hs) Bool.false_ne_true
 | byt i =>
  obtain ⟨t, rfl⟩ := rx
  cases y with
  | byt j => obtain ⟨t', rfl⟩ := ry; exact PySem.W.ne_bytes (fin_bl I q (congrArg not dec_byt))
  | _ => exact absurd (show false = true from hs) Bool.false_ne_true
 | _ => cases y <;> exact absurd (show false = true from hs) Bool.false_ne_true
theorem op_lt : OpR X (compareOp .Lt) (rI0 fun i j => .bl (decide (i < j))) := opB0 fun _ _ _ _ _ _ _ q => lt_int q
theorem op_le : OpR X (compareOp .LtE) (rI0 fun i j => .bl (decide (i ≤ j))) := opB0 fun _ _ _ _ _ _ _ q => le_int q
theorem op_gt : OpR X (compareOp .Gt) (rI0 fun i j => .bl (decide (j < i))) := opB0 fun _ _ _ _ _ _ _ q => gt_int q
theorem op_ge : OpR X (compareOp .GtE) (rI0 fun i j => .bl (decide (j ≤ i))) := opB0 fun _ _ _ _ _ _ _ q => ge_int q
theorem op_isN : OpR X (compareOp .Is) (fun x y H Q => y = .non ∧ Q (.bl (decide (x = .non))) H) := by
 intro pins s σ H x y v u Q I rx ry h
 obtain ⟨rfl, q⟩ := h
 cases ry
 refine is_none_gen (fin_bl I q ?_)
 cases x <;> first
  | (cases rx; rfl)
  | (obtain ⟨t, rfl⟩ := rx; rfl)
theorem op_notN : OpR X (compareOp .IsNot) (fun x y H Q => y = .non ∧ Q (.bl (!decide (x = .non))) H) := by
 intro pins s σ H x y v u Q I rx ry h
 obtain ⟨rfl, q⟩ := h
 cases ry
 refine isnot_none_gen (fin_bl I q ?_)
 cases x <;> first
  | rfl
  | (obtain ⟨t, rfl⟩ := rx; rfl)
theorem OpR.or {f : Value → Value → Sem Value} {r r' : R2} (h : OpR X f r) (h' : OpR X f r') : OpR X f (fun x y H Q => r x y H Q ∨ r' x y H Q) := by
 intro pins s σ H x y v u Q I rx ry q
 rcases q with q | q
 · exact h pins s σ H x y v u Q I rx ry q
 · exact h' pins s σ H x y v u Q I rx ry q
theorem nomark (b : Expr) (h : op ≠ .In := by decide) (h2 : op ≠ .NotIn := by decide) : behindInMarks op b = false := by
 have e1 : (op == CmpOp.In) = false := by grind
 have e2 : (op == CmpOp.NotIn) = false := by grind
 cases b <;> simp [behindInMarks, e1, e2]
theorem pe_cmpR {op : CmpOp} {r : R2} (ho : OpR X (compareOp op) r) (ha : PE X a ta) (hb : PE X b tb) (hm : behindInMarks op b = false) : PE X (.Compare a [op] [b] pos) (tOp r ta tb) := by
 intro pins s σ H Q I h
 exact wpAny_Compare1 (binT ha hb I h fun v u s2 x y H2 I2 rx ry q => ho pins s2 σ H2 x y v u Q I2 rx ry q) hm
def tTest (t : TE) : TT := fun σ H Q => t σ H fun x H' => ∃ k, x = .bl k ∧ Q k H'
theorem pt_cmpR (ho : OpR X (compareOp op) r) (ha : PE X a ta) (hb : PE X b tb) (hm : behindInMarks op b = false) : PT X (.Compare a [op] [b] pos) (tTest (tOp r ta tb)) := by
 intro pins s σ H Q I h
 refine wpAny_isTrue_Compare1 (thn (ha pins s σ H _ I h) fun v s1 ⟨x, H1, I1, r1, q1⟩ => thn (hb pins s1 σ H1 _ I1 q1) fun u s2 ⟨y, H2, I2, r2, q2⟩ =>
  thn (ho pins s2 σ H2 x y v u _ I2 r1 r2 q2) fun c s3 ⟨z, H3, I3, r3, k, e, q3⟩ => ?_) hm
 subst e
 cases r3
 exact wpAny_truthy_bool ⟨H3, I3, q3⟩
theorem line63 : (sizeLine : Nat) < 2 ^ 63 := by decide
theorem vals1 (r : Vals [x] us) : ∃ u, us = [u] ∧ RelV x u := by
 cases r with
 | cons r1 r2 => cases r2; simp_all
theorem vals2 (r : Vals [x, y] us) : ∃ u w', us = [u, w'] ∧ RelV x u ∧ RelV y w' := by
 cases r with
 | cons r1 r2 =>
  cases r2 with
  | cons r3 r4 => cases r4; exact ⟨_, _, rfl, r1, r3⟩
theorem call_abs : CallR X (.builtin "abs") (fun xs H Q => ∃ i, xs = [.int i] ∧ Q (.int (if i < 0 then -i else i)) H) := by
 intro pins s σ H xs us Q I r h
 obtain ⟨i, rfl, q⟩ := h
 obtain ⟨u, rfl, t, rfl⟩ := vals1 r
 exact call_abs_int fun u tk => ⟨.int _, H, I.tok _, ⟨_, rfl⟩, q⟩
theorem call_max2 (hc : X.calm = true) : CallR X (.builtin "max") (fun xs H Q => ∃ i j, xs = [.int i, .int j] ∧ Q (.int (if j > i then j else i)) H) := by
 intro pins s σ H xs us Q I r h
 obtain ⟨i, j, rfl, q⟩ := h
 obtain ⟨u, w', rfl, ⟨t, rfl⟩, ⟨t', rfl⟩⟩ := vals2 r
 refine max_two_ints (I.ok.hd hc) fun h' tk k => ⟨_, H, I.kept k, ?_, q⟩
 by_cases hj : j > i
 · rw [if_pos hj, if_pos hj]; exact ⟨_, rfl⟩
 · rw [if_neg hj, if_neg hj]; exact ⟨_, rfl⟩
theorem call_min2 (hc : X.calm = true) : CallR X (.builtin "min") (fun xs H Q => ∃ i j, xs = [.int i, .int j] ∧ Q (.int (if j < i then j else i)) H) := by
 intro pins s σ H xs us Q I r h
 obtain ⟨i, j, rfl, q⟩ := h
 obtain ⟨u, w', rfl, ⟨t, rfl⟩, ⟨t', rfl⟩⟩ := vals2 r
 refine min_two_ints (I.ok.hd hc) fun h' tk k => ⟨_, H, I.kept k, ?_, q⟩
 by_cases hj : j < i
 · rw [if_pos hj, if_pos hj]; exact ⟨_, rfl⟩
 · rw [if_neg hj, if_neg hj]; exact ⟨_, rfl⟩
theorem call_int1 : CallR X (.type "int") (fun xs H Q => (∃ i, xs = [.int i] ∧ Q (.int i) H) ∨ ∃ k, xs = [.bl k] ∧ Q (.int (if k then 1 else 0)) H) := by
 intro pins s σ H xs us Q I r h
 rcases h with ⟨i, rfl, q⟩ | ⟨k, rfl, q⟩
 · obtain ⟨u, rfl, t, rfl⟩ := vals1 r
   exact call_int_int ⟨.int i, H, I, ⟨_, rfl⟩, q⟩
 · obtain ⟨u, rfl, r1⟩ := vals1 r
   cases r1
   exact call_int_bool ⟨.int _, H, I.tok _, ⟨_, rfl⟩, q⟩
end
theorem RelO.some_of (r : RelO (some v) o) : ∃ u, o = some u ∧ RelV v u := by
 cases o with
 | none => exact (r).elim
 | some u => exact ⟨u, rfl, r⟩
structure Room (k : Nat) (A : Around) : Prop where
 hd : A.handled = none
 dp : A.depth + 3 * k + 5 < recursionLimit
 un : A.units + 16 * k + 200 < cLine
 gd : A.guards = some []
theorem Room.mono (r : Room k A) (h : j ≤ k) : Room j A := ⟨r.hd, by have := r.dp; omega, by have := r.un; omega, r.gd⟩
theorem Room.deeper (r : Room (k + 1) A) (env : Env) : Room k (A.deeper env) :=
 ⟨r.hd, by have := r.dp; show A.depth + 1 + 3 * k + 5 < _; omega, by have := r.un; simp; omega, r.gd⟩
theorem Room.depth (r : Room k A) : A.depth < recursionLimit := by have := r.dp; omega
def tNil : TA := fun _ H Q => Q [] H
def tCons (ta : TE) (tr : TA) : TA := fun σ H Q => ta σ H fun x H1 => tr σ H1 fun xs H2 => Q (x :: xs) H2
section
theorem pa_nil : PA X [] tNil := fun _ _ _ _ H Q I h => Calls.spliced_nil ⟨[], H, I, .nil, h⟩
theorem pa_cons (ha : PE X e te) (hr : PA X es t) (hs : starEach (e :: es) X.env = (false, eval e X.env) :: starEach es X.env := by rfl) : PA X (e :: es) (tCons te t) := by
 intro pos pins s σ H Q I h
 rw [hs]
 refine Calls.spliced_cons (thn (ha pins s σ H _ I h) fun u s1 ⟨x, H1, I1, r1, q1⟩ => ?_)
 exact thn (hr pos pins s1 σ H1 _ I1 q1) fun us s2 ⟨xs, H2, I2, r2, q2⟩ => ⟨x :: xs, H2, I2, .cons r1 r2, q2⟩
end
abbrev Sp := List V → Hp → VK → XK → Prop
abbrev CXT := List Env → Hp → Shared → XK → Value → Shared → Prop
structure Env0 (P : Program) (w : World) (K : PySem.W.Frag) (mg : Str → Option Value) (base : Heap) (A : Around) (outer : List Env) (s : Shared) (H : Hp) : Prop where
 frames : A.frames = some outer
 mod : Mod K mg base
 bs : ∀ b o, base.get? b = some o → s.heap.get? b = some o ∧ H b = none
 bsz : base.objs.size ≤ s.heap.objs.size
 funs : s.heap.FunFrames base outer
 frf : ∀ b ∈ frs outer, H b = none
 hok : HOk P w H s.heap
 bare : AllBare s.gens
def CE (outer : List Env) (P : Program) (w : World) (H : Hp) (s : Shared) (Q : VK) (u : Value) (s' : Shared) : Prop :=
 ∃ v H', s'.os = s.os ∧ AllBare s'.gens ∧ Un (frs outer) [] H H' s.heap s'.heap ∧ HOk P w H' s'.heap ∧ RelV v u ∧ Q v H'
def CR (CX : CXT) (outer : List Env) (P : Program) (w : World) (H : Hp) (s : Shared) (Q : VK) (E : XK) (r : Result) (s' : Shared) : Prop :=
 match r with
 | .ok (.ret u) => CE outer P w H s Q u s'
 | .ok _ => False
 | .error e => CX outer H s E e s'
structure FnOk (P : Program) (w : World) (K : PySem.W.Frag) (mg : Str → Option Value) (base : Heap) (CX : CXT) (k : Nat) (f : Addr) (fd : FuncData) (ps : List Str) (sp : Sp) : Prop where
 len : ∀ vs H Q E, sp vs H Q E → vs.length = ps.length
 run : ∀ (A : Around) (outer : List Env) (s : Shared) (H : Hp) (args : Args) (us : List Value) (vs : List V) (Q : VK) (E : XK), Room k A → Env0 P w K mg base A outer s H → BindsTo s fd args (ps.zip us) → Vals vs us → sp vs H Q E →
  codeAny (model P w) A (.call (.ref f) args) (CR CX outer P w H s Q E) s
section
variable {σ : St}
theorem Inv.env0 (I : Inv X pins σ H s) : Env0 X.prog X.w X.K X.mg X.base X.A X.stack s H :=
 ⟨I.ok.frames, I.ok.mod, I.bs, Nat.le_trans I.ok.bsz I.sz, I.stack, I.stkFree, I.hok, I.bare⟩
theorem Inv.after {Q : VK} {u : Value} (I : Inv X pins σ H s) (h : CE X.stack X.prog X.w H s Q u s') : EP X pins σ Q u s' := by
 obtain ⟨v, H', os, bare, un, hok, r, q⟩ := h
 obtain ⟨hh, g, d, t, os'⟩ := s'
 obtain rfl : os' = s.os := os
 exact ⟨v, H', I.call (h' := hh) (g' := g) (d' := d) (t' := t) (ch := []) un hok bare (fun b z => absurd z (by simp)), r, q⟩
end
def tCall (sp : Sp) (dvs : List V) (E : XK) (t : TA) : TE := fun σ H Q => t σ H fun vs H1 => sp (vs ++ dvs) H1 Q E
def Binds (K : PySem.W.Frag) (fd : FuncData) (ps : List Str) (ds : List Value) : Prop :=
 ∀ (s : Shared) (us : List Value), K.In s.heap → (us ++ ds).length = ps.length → BindsTo s fd ⟨us, []⟩ (ps.zip (us ++ ds))
theorem Binds.all {K : PySem.W.Frag} {fd : FuncData} {ps : List Str} (h : ∀ us : List Value, us.length = ps.length → bindArgs fd ⟨us, []⟩ = pure (ps.zip us)) : Binds K fd ps [] := fun s us _ hl => by
 rw [List.append_nil] at hl ⊢
 exact .of_eq (h us hl)
def Passes (CX : CXT) (X : Cx) (E : XK) : Prop := ∀ (pins : List (Addr × Obj)) (σ : St) (H : Hp) (s : Shared) (e : Value) (s' : Shared), Inv X pins σ H s → CX X.stack H s E e s' → X.xe e s'
section
variable {p pos apos : Pos}
theorem run_fn {pins : List (Addr × Obj)} {σ : St} {H : Hp} {s : Shared} {Q : VK} {us : List Value} {vs : List V} (F : FnOk X.prog X.w X.K X.mg X.base CX k f fd ps sp) (hr : Room k X.A) (hb : Binds X.K fd ps ds) (hd : Vals dvs ds) (hx : Passes CX X E)
 (I : Inv X pins σ H s) (r : Vals vs us) (h : sp (vs ++ dvs) H Q E) : wpAny (model X.prog X.w) X.A (call (.ref f) us) (EP X pins σ Q) X.xe s := by
 have r2 : Vals (vs ++ dvs) (us ++ ds) := r.append hd
 have hl : (us ++ ds).length = ps.length := by rw [← r2.length]; exact F.len _ _ _ _ h
 refine wpAny_call (codeAny_mono (F.run X.A X.stack s H ⟨us, []⟩ (us ++ ds) (vs ++ dvs) Q E hr I.env0 (hb s us I.kIn hl) r2 h) fun r s' hq => ?_)
 cases r with
 | error e => exact hx pins σ H s e s' I hq
 | ok fl =>
  cases fl with
  | ret u => exact I.after hq
  | next => exact False.elim hq
  | brk => exact False.elim hq
  | cont => exact False.elim hq
theorem pe_call (F : FnOk X.prog X.w X.K X.mg X.base CX k f fd ps sp) (hr : Room k X.A) (hg : Gl X x) (hm : X.mg x = some (.ref f)) (hk : PySem.W.keepIn X.K (.ref f) = true) (hb : Binds X.K fd ps ds) (hd : Vals dvs ds) (hx : Passes CX X E)
 (ha : PA X (e :: es) t) (hdb : (x == ("__debug__" : Str)) = false := by decide) (he : starEach (e :: es) X.env = (false, eval e X.env) :: starEach es X.env := by rfl) (hpl : (backTo pos (starEach es X.env)).any (·.1) = false := by rfl) :
 PE X (.Call (.Name x p) (e :: es) [] pos) (tCall sp dvs E t) := by
 intro pins s σ H Q I h
 refine wpAny_Call_Name_kw (ld_glob I hg hm ?_ hdb)
 refine PySem.W.callWith_K I.ok.mod.kin hk (thn (ha pos pins s σ H _ I h) fun us s1 ⟨vs, H1, I1, r, q⟩ => ⟨I1.kIn, ?_⟩) he hpl
 exact run_fn F hr hb hd hx I1 r q
end
structure FnScope (N P : List Str) (sc : Scope) : Prop where
 kind : sc.kind = .function
 co : sc.isCoroutine = false
 gen : sc.isGenerator = false
 nd : N.Nodup
 pre : N.take P.length = P
 par : ∀ x ∈ P, sc.names.lookup x = some .local ∨ sc.names.lookup x = some .cell
 nofree : ∀ y ∈ sc.names, y.2 ≠ .free
theorem bindL_out {kindOf : Str → Option NameKind} : ∀ {binds : List (Str × Value)} {m : Str → Option Value}, (∀ v, (x, v) ∉ binds) → bindL kindOf binds m x = m x
 | [], _, _ => rfl
 | (n, v) :: r, m, h => by
  unfold bindL
  rw [bindL_out fun w hw => h w (List.mem_cons_of_mem _ hw)]
  split
  · have : x ≠ n := by grind
    simp_all
  · rfl
theorem bindC_out {kindOf : Str → Option NameKind} : ∀ {binds : List (Str × Value)} {m : Str → Option Value}, (∀ v, (x, v) ∉ binds) → bindC kindOf binds m x = m x
 | [], _, _ => rfl
 | (n, v) :: r, m, h => by
  unfold bindC
  rw [bindC_out fun w hw => h w (List.mem_cons_of_mem _ hw)]
  split
  · rfl
  · have : x ≠ n := by grind
    grind
theorem bindL_get {kindOf : Str → Option NameKind} : ∀ {P : List Str} {vs : List Value} {i : Nat} {m : Str → Option Value}, P.Nodup → P[i]? = some x → vs[i]? = some v → kindOf x = some .local →
 bindL kindOf (P.zip vs) m x = some v
 | [], _, _, _, _, h, _, _ => by simp at h
 | _ :: _, [], _, _, _, _, h, _ => by simp at h
 | p :: P, w :: vs, 0, m, nd, h1, h2, hk => by
  simp at h1 h2; subst h1; subst h2
  show bindL kindOf ((p, w) :: P.zip vs) m p = _
  unfold bindL
  rw [bindL_out fun v hv => (List.nodup_cons.mp nd).1 (List.of_mem_zip hv).1, if_pos hk]
  simp
 | p :: P, w :: vs, i + 1, m, nd, h1, h2, hk => by
  unfold bindL
  exact bindL_get (i := i) (List.nodup_cons.mp nd).2 (by simpa using h1) (by simpa using h2) hk
theorem bindC_get {kindOf : Str → Option NameKind} : ∀ {P : List Str} {vs : List Value} {i : Nat} {m : Str → Option Value}, P.Nodup → P[i]? = some x → vs[i]? = some v → kindOf x ≠ some .local →
 bindC kindOf (P.zip vs) m x = some v
 | [], _, _, _, _, h, _, _ => by simp at h
 | _ :: _, [], _, _, _, _, h, _ => by simp at h
 | p :: P, w :: vs, 0, m, nd, h1, h2, hk => by
  simp at h1 h2; subst h1; subst h2
  show bindC kindOf ((p, w) :: P.zip vs) m p = _
  unfold bindC
  rw [bindC_out fun v hv => (List.nodup_cons.mp nd).1 (List.of_mem_zip hv).1, if_neg hk]
  simp
 | p :: P, w :: vs, i + 1, m, nd, h1, h2, hk => by
  unfold bindC
  exact bindC_get (i := i) (List.nodup_cons.mp nd).2 (by simpa using h1) (by simpa using h2) hk
def start (N : List Str) (vs : List V) : St := vs.map some ++ List.replicate (N.length - vs.length) none
def cxOf (CX : CXT) (P : Program) (w : World) (K : PySem.W.Frag) (mg : Str → Option Value) (base : Heap) (N : List Str) (qual : Str) (scope : Scope) (f : Addr) (cd : Value) (A : Around) (outer : List Env) (s : Shared) (H : Hp) (E : XK) : Cx where
 prog := P
 w := w
 K := K
 mg := mg
 base := base
 A := A.deeper (envOfC qual scope s.heap.objs.size f cd)
 N := N
 s₀ := s
 H₀ := H
 env := envOfC qual scope s.heap.objs.size f cd
 outer := outer
 stack := envOfC qual scope s.heap.objs.size f cd :: outer
 ex := []
 calm := true
 fn := fun _ => true
 pn := []
 xe := fun e s' => wpAny (model P w) (A.deeper (envOfC qual scope s.heap.objs.size f cd)) (leaving (envOfC qual scope s.heap.objs.size f cd) e) (fun _ s'' => CX outer H s E e s'') (fun e' s'' => CX outer H s E e' s'') s'
theorem cell_has {sc : Scope} (h : sc.names.lookup x = some .cell) : ∃ c, (cellsFrom n sc.names []).lookup x = some c := by
 have q := PySem.W.cellsFrom_some sc.names n [] (.inl h)
 exact Option.isSome_iff_exists.mp q
theorem inv_start {CX : CXT} {P : Program} {w : World} {K : PySem.W.Frag} {mg : Str → Option Value} {base : Heap} {N ps : List Str} {qual : Str} {scope : Scope} {f : Addr} {cd : Value} {A : Around} {outer : List Env} {s s1 : Shared} {H : Hp} {E : XK} {us : List Value} {vs : List V}
 (S : FnScope N ps scope) (hd : A.handled = none) (e0 : Env0 P w K mg base A outer s H) (hl : vs.length = ps.length) (r : Vals vs us)
 (x : InCallC s s.heap.objs.size (bindL (envOfC qual scope s.heap.objs.size f cd).kindOf (ps.zip us) fun _ => none) (cellsFrom (s.heap.objs.size + 1) scope.names []) (bindC (envOfC qual scope s.heap.objs.size f cd).kindOf (ps.zip us) fun _ => none) s1) :
 Inv (cxOf CX P w K mg base N qual scope f cd A outer s H E) [] (start N vs) H s1 := by
 have hpl : ps.length ≤ N.length := by have := congrArg List.length S.pre; rw [List.length_take] at this; omega
 obtain ⟨h1, tk, rfl, hk⟩ := x.done
 have noA : ∀ b : Addr, b ∉ (cxOf CX P w K mg base N qual scope f cd A outer s H E).ex := fun b z => absurd (show b ∈ ([] : List Addr) from z) (by simp)
 refine ⟨⟨e0.mod, S.kind, rfl, rfl, Nat.le_refl _, fun y z c h1 h2 => ?_, fun y hy => ?_, fun y c _ h => ?_, fun _ => hd, Around.frames_deeper e0.frames, .inr ⟨rfl, rfl⟩, fun b z => absurd z (noA b), e0.bs, e0.bsz, fun b _ _ => noA b, fun b z => absurd z (noA b), e0.funs, e0.frf⟩,
  rfl, e0.bare, Un.kept hk, ⟨_, x.toInCall.ns, fun i y v h1 h2 h3 => ?_⟩, fun y c h => ⟨_, x.cell y c h⟩, e0.hok.fresh (Nat.le_refl _), fun y c h => ?_, fun p hp => absurd (show p ∈ ([] : List (Addr × Obj)) from hp) (by simp), e0.hok.kept hk, ?_⟩
 · exact name_of_addr x.apart (PySem.mem_of_lookup h1) (PySem.mem_of_lookup h2)
 · have hy : scope.names.lookup y = some .cell ∨ scope.names.lookup y = some .free := hy
   rcases hy with hy | hy
   · exact cell_has hy
   · exact absurd rfl (S.nofree _ (PySem.mem_of_lookup hy))
 · exact Nat.le_of_lt (x.above y c (PySem.mem_of_lookup h))
 · have hi : i < vs.length := by
    unfold start at h2
    by_cases hi : i < vs.length
    · exact hi
    · rw [List.getElem?_append_right (by simpa using hi)] at h2
      rw [List.getElem?_replicate] at h2
      split at h2 <;> cases h2
   have ha : vs[i]? = some v := by
    unfold start at h2
    rw [List.getElem?_append_left (by simpa using hi), List.getElem?_map] at h2
    cases e : vs[i]? with
    | none => rw [e] at h2; cases h2
    | some a => rw [e] at h2; cases h2; rfl
   obtain ⟨u, hu, rv⟩ := r.get ha
   have hp : ps[i]? = some y := by
    rw [← S.pre, List.getElem?_take_of_lt (by omega)]; exact h1
   have ndP : ps.Nodup := by rw [← S.pre]; exact S.nd.sublist (List.take_sublist _ _)
   refine ⟨u, rv, ?_⟩
   rcases S.par y (List.mem_of_getElem? hp) with k | k
   · exact .inl ⟨k, bindL_get ndP hp hu k⟩
   · obtain ⟨c, e⟩ := cell_has (n := s.heap.objs.size + 1) k
     refine .inr ⟨.inl k, c, e, ?_⟩
     have q := x.cell y c e
     rw [bindC_get ndP hp hu (by show scope.names.lookup y ≠ _; rw [k]; decide)] at q
     exact q
 · exact e0.hok.fresh (Nat.le_of_lt (x.above y c (PySem.mem_of_lookup h)))
 · unfold start
   show _ = N.length
   rw [List.length_append, List.length_map, List.length_replicate]
   omega
theorem fn_of {CX : CXT} {P : Program} {w : World} {K : PySem.W.Frag} {mg : Str → Option Value} {base : Heap} {k : Nat} {f : Addr} {name qual : Str} {params : Arguments} {body : List Stmt} {scope : Scope} {dV kV doc pm cdv ct oc : Value} {an od : Option Addr}
 {osl : Array (Option Value)} {N ps : List Str} {sp : Sp} (lk : K.lookup f = some ⟨oc, od, .func (PySem.W.fnOf name qual params body scope dV kV doc pm an cdv ct), osl⟩) (hcd : PySem.W.codeIn K cdv qual = true) (S : FnScope N ps scope)
 (len : ∀ vs H Q E, sp vs H Q E → vs.length = ps.length)
 (hbody : ∀ (A : Around) (outer : List Env) (s : Shared) (H : Hp) (vs : List V) (Q : VK) (E : XK), Room k (A.deeper (envOfC qual scope s.heap.objs.size f cdv)) → sp vs H Q E →
  ∃ t, PSs (cxOf CX P w K mg base N qual scope f cdv A outer s H E) body t ∧ t { nx := fun _ H' => Q .non H', rt := Q } (start N vs) H) :
 FnOk P w K mg base CX (k + 1) f (PySem.W.fnOf name qual params body scope dV kV doc pm an cdv ct) ps sp := by
 refine ⟨len, fun A outer s H args us vs Q E hr e0 hb r hsp => ?_⟩
 have hl := len _ _ _ _ hsp
 have KX : K.In s.heap := e0.mod.kin.keeps fun b o e => (e0.bs b o e).1
 have lim : s.heap.NoLimit := e0.mod.nolimit.keeps fun b o e => (e0.bs b o e).1
 have hkind : ∀ y ∈ ps.zip us, scope.names.lookup y.1 = some .local ∨ (scope.names.lookup y.1 = some .cell ∧ ((cellsFrom (s.heap.objs.size + 1) scope.names []).lookup y.1).isSome = true) := fun ⟨n, v⟩ hy => by
  rcases S.par n (List.of_mem_zip hy).1 with q | q
  · exact .inl q
  · exact .inr ⟨q, PySem.W.cellsFrom_some _ _ _ (.inl q)⟩
 refine codeAny_call_function hr.depth (KX _ _ lk) rfl S.co S.gen rfl (PySem.W.codeRec_of KX hcd) (hb _ _ _ _ ?_)
 refine wpAny_newFunctionEnv_cells S.kind hkind fun env he s1 x => ?_
 subst he
 refine ⟨lim.keeps x.toInCall.keep, codeAny_func ?_⟩
 obtain ⟨t, ht, hq⟩ := hbody A outer s H vs Q E (hr.deeper _) hsp
 have I : Inv (cxOf CX P w K mg base N qual scope f cdv A outer s H E) [] (start N vs) H s1 := inv_start S hr.hd e0 hl r x
 refine wpAny_mono (ht [] s1 (start N vs) H _ I hq) (fun fl s' hs => ?_) fun e s' hs => hs
 have fin : ∀ {σ' : St} {H' : Hp} {v : V} {u : Value}, Inv (cxOf CX P w K mg base N qual scope f cdv A outer s H E) [] σ' H' s' → RelV v u → Q v H' → CE outer P w H s Q u s' :=
  fun {σ' H' v u} J rv q => ⟨v, H', J.os, J.bare, J.base, J.hok, rv, q⟩
 cases fl with
 | ret u =>
  obtain ⟨v, σ', H', J, rv, q⟩ := hs
  exact fin J rv q
 | next =>
  obtain ⟨σ', H', J, q⟩ := hs
  exact fin (v := V.non) (u := Value.none) J rfl q
 | brk =>
  obtain ⟨_, _, _, q⟩ := hs
  exact False.elim q
 | cont =>
  obtain ⟨_, _, _, q⟩ := hs
  exact False.elim q
section
variable {p pos : Pos} {id T : String}
def tCB (r : List V → Hp → VK → Prop) (t : TA) : TE := fun σ H Q => t σ H fun vs H1 => r vs H1 Q
theorem pe_callB (hc : CallR X (.builtin id) r) (hg : Gl X x) (hm : X.mg x = none) (hv : bootBuiltins x = some (.builtin id)) (ha : PA X (e :: es) t) (hn : x ≠ "__name__" := by decide) (hdb : (x == ("__debug__" : Str)) = false := by decide)
 (he : starEach (e :: es) X.env = (false, eval e X.env) :: starEach es X.env := by rfl) (hpl : (backTo pos (starEach es X.env)).any (·.1) = false := by rfl) : PE X (.Call (.Name x p) (e :: es) [] pos) (tCB r t) := by
 intro pins s σ H Q I h
 refine wpAny_Call_Name_kw (ld_blt I hg hm hv ?_ hn hdb)
 exact PyProof.Rows.callWith_builtin1 (thn (ha pos pins s σ H _ I h) fun us s1 ⟨vs, H1, I1, r1, q1⟩ => hc pins s1 σ H1 vs us Q I1 r1 q1) he hpl
theorem pe_callTy (hc : CallR X (.type T) r) (hg : Gl X x) (hm : X.mg x = none) (hv : bootBuiltins x = some (.type T)) (ha : PA X (e :: es) t) (hn : x ≠ "__name__" := by decide) (hdb : (x == ("__debug__" : Str)) = false := by decide)
 (he : starEach (e :: es) X.env = (false, eval e X.env) :: starEach es X.env := by rfl) (hpl : (backTo pos (starEach es X.env)).any (·.1) = false := by rfl) : PE X (.Call (.Name x p) (e :: es) [] pos) (tCB r t) := by
 intro pins s σ H Q I h
 refine wpAny_Call_Name_kw (ld_blt I hg hm hv ?_ hn hdb)
 exact PyProof.Rows.callWith_type1 (thn (ha pos pins s σ H _ I h) fun us s1 ⟨vs, H1, I1, r1, q1⟩ => hc pins s1 σ H1 vs us Q I1 r1 q1) he hpl
end
end L2
namespace HT
open PySem PyProof.Rows
def lexLt : List Int → List Int → Bool
 | [], [] => false
 | [], _ :: _ => true
 | _ :: _, [] => false
 | x :: xs, y :: ys => if x = y then lexLt xs ys else decide (x < y)
theorem lexLt_cons (x y : Int) (xs ys : List Int) : lexLt (x :: xs) (y :: ys) = if x = y then lexLt xs ys else decide (x < y) := rfl
theorem lexLt_nil_nil : lexLt [] [] = false := rfl
theorem lexLt_nil_cons (y : Int) (ys : List Int) : lexLt [] (y :: ys) = true := rfl
theorem lexLt_cons_nil (x : Int) (xs : List Int) : lexLt (x :: xs) [] = false := rfl
theorem rcLt_int (A : Around) (s : Shared) (a : Int) (t : Tok) (c : Int) (u : Tok) (prog : Program) (w : World) (E : Value → Shared → Prop) (Q : Value → Shared → Prop) (h : Q (.bool (decide (a < c))) s) :
 wpAny (model prog w) A (richCompare .Lt (.int a t) (.int c u)) Q E s :=
 (PyProof.Rows.lt_int h : wpAny _ A _ Q E s)
section
theorem cat_tup {t b : Addr} {vs ws : List Value} {Q : Value → Shared → Prop} (ht : IsTup s.heap t vs.toArray) (hb : IsTup s.heap b ws.toArray) (hv : vs ≠ [])
 (h1 : ws = [] → Q (.ref t) s) (h2 : ws ≠ [] → Q (.ref s.heap.objs.size) { s with heap := s.heap.push { cls := .type "tuple", data := .seq (vs ++ ws).toArray } })
 (hsz : vs.length + ws.length ≤ sizeLine) : wpAny (model prog w) A (binaryOp .Add (.ref t) (.ref b)) Q E s := by
 obtain ⟨⟨cls, dd, data, sl⟩, ho, hc, n, hd⟩ := id ht
 obtain ⟨⟨cls2, dd2, data2, sl2⟩, ho2, hc2, n2, hd2⟩ := id hb
 simp only at hc hd hc2 hd2
 subst hc hd hc2 hd2
 have e : vs.toArray ++ ws.toArray = (vs ++ ws).toArray := by simp
 by_cases hw : ws = []
 · exact concat_meets ⟨_, ho, rfl⟩ ⟨_, ho2, rfl⟩ noFill_tuple_add seq_tuple_add PySem.F.slot_tuple_add PySem.F.entry_tuple_add (PySem.F.args_tuple_add_2 _ _)
    (tuple_addW1 t b vs.toArray ws.toArray n n2 dd dd2 sl sl2 (by simpa using hv) (by simp [hw])) ⟨ho, ho2, h1 hw⟩
 · refine concat_meets ⟨_, ho, rfl⟩ ⟨_, ho2, rfl⟩ noFill_tuple_add seq_tuple_add PySem.F.slot_tuple_add PySem.F.entry_tuple_add (PySem.F.args_tuple_add_2 _ _)
    (tuple_addW2 t b vs.toArray ws.toArray n n2 dd dd2 sl sl2 (by simpa using hv) (by simpa using hw) (by rw [List.size_toArray, List.size_toArray]; exact hsz)) ⟨ho, ho2, ?_⟩
   rw [e]
   exact h2 hw
def sIx (n d : Nat) : Option Int → Nat
 | none => d
 | some v => if v < 0 then (v + (n : Int)).toNat else min v.toNat n
theorem sIx_none (n d : Nat) : sIx n d none = d := rfl
theorem sIx_nat (n d k : Nat) : sIx n d (some (k : Int)) = min k n := rfl
theorem sIx_le (n d : Nat) (hd : d ≤ n) (o : Option Int) : sIx n d o ≤ n := by
 cases o with
 | none => exact hd
 | some v =>
  show (if v < 0 then (v + (n : Int)).toNat else min v.toNat n) ≤ n
  grind
theorem clip_eq (v : Int) (n d : Nat) : (if v < 0 then max (v + (n : Int)) 0 else min v (n : Int)) = ((sIx n d (some v) : Nat) : Int) := by
 show _ = (((if v < 0 then (v + (n : Int)).toNat else min v.toNat n) : Nat) : Int)
 grind
theorem adjust_gen (lo hi : Option Int) (n : Nat) : Builtin.Slice.sliceAdjust lo hi 1 (n : Int) = (((sIx n 0 lo : Nat) : Int), ((sIx n n hi : Nat) : Int)) := by
 refine Prod.ext ?_ ?_
 · cases lo with
   | none => rfl
   | some v => exact clip_eq v n 0
 · cases hi with
   | none => rfl
   | some v => exact clip_eq v n n
theorem places_gen (i j : Nat) : Builtin.Slice.slicePlaces (i : Int) (j : Int) 1 = j - i := by
 unfold Builtin.Slice.slicePlaces
 grind
theorem slicePart_ (p : IsPart v o) (h : Q o s) : wpAny (model prog w) A (Builtin.Slice.slicePartIndex v) Q E s := by
 cases p with
 | none => exact slicePart_none h
 | int i t => exact slicePart_int h
theorem sliceApplied_gen {sl : Addr} {lo hi : Option Int} {n : Nat} (hs : s.heap.IsSliceOf sl vl vu .none) (pl : IsPart vl lo) (pu : IsPart vu hi)
 (h : Q (((sIx n 0 lo : Nat) : Int), 1, sIx n n hi - sIx n 0 lo) s) : wpAny (model prog w) A (Builtin.Slice.sliceApplied (.ref sl) (pure (n : Int))) Q E s := by
 obtain ⟨os, hos, hcs, hds⟩ := id hs
 refine wpAny_bind (wpAny_bind (wpAny_field hos hds (x := vl) rfl (wpAny_bind (wpAny_field hos hds (x := vu) rfl (wpAny_bind (wpAny_field hos hds (x := .none) rfl (wpAny_pure ?_)))))))
 refine wpAny_bind (slicePart_none ?_)
 refine wpAny_bind (slicePart_ pl (wpAny_bind (slicePart_ pu (wpAny_bind (wpAny_pure ?_)))))
 show wpAny _ _ (match Builtin.Slice.sliceAdjust lo hi 1 (n : Int) with | (lo, hi) => pure (lo, (1 : Int), Builtin.Slice.slicePlaces lo hi 1)) _ _ s
 rw [adjust_gen lo hi n]
 show wpAny _ _ (pure (((sIx n 0 lo : Nat) : Int), (1 : Int), Builtin.Slice.slicePlaces ((sIx n 0 lo : Nat) : Int) ((sIx n n hi : Nat) : Int) 1)) _ _ s
 rw [places_gen]
 exact wpAny_pure h
theorem pick_gen (xs : Array Value) (i k : Nat) : ((List.range k).filterMap fun (m : Nat) => xs[((i : Int) + (m : Int) * 1).toNat]?).toArray = ((xs.toList.drop i).take k).toArray := by
 have e : (fun (m : Nat) => xs[((i : Int) + (m : Int) * 1).toNat]?) = fun m => xs[i + m]? := by grind
 have := pick_run xs i k
 have e2 : (_ ∘ fun x => i + x) = fun m => xs[i + m]? := rfl
 simp_all
theorem getItem_tuple_cut {t sl : Addr} {items : Array Value} {vl vu : Value} {lo hi : Option Int} {Q : Value → Shared → Prop} (ht : IsTup s.heap t items) (hs : s.heap.IsSliceOf sl vl vu .none) (pl : IsPart vl lo) (pu : IsPart vu hi)
 (hw : ¬ (sIx items.size 0 lo = 0 ∧ sIx items.size items.size hi = items.size))
 (h : Q (.ref s.heap.objs.size) { s with heap := s.heap.push { cls := .type "tuple", data := .seq ((items.toList.drop (sIx items.size 0 lo)).take (sIx items.size items.size hi - sIx items.size 0 lo)).toArray } })
 (hsz : items.size ≤ sizeLine) : wpAny (model prog w) A (getItem (.ref t) (.ref sl)) Q E s := by
 have htake : sizeOk (.seq ((items.toList.drop (sIx items.size 0 lo)).take (sIx items.size items.size hi - sIx items.size 0 lo)).toArray) := by
  show ((items.toList.drop (sIx items.size 0 lo)).take (sIx items.size items.size hi - sIx items.size 0 lo)).toArray.size ≤ sizeLine
  rw [List.size_toArray, List.length_take, List.length_drop, Array.length_toList]
  omega
 have hj : sIx items.size items.size hi ≤ items.size := sIx_le _ _ (Nat.le_refl _) hi
 obtain ⟨os, hos, hcs, hds⟩ := id hs
 have hTs : s.TypeIs (.ref sl) "slice" := ⟨os, hos, hcs⟩
 unfold getItem
 try with_reducible refine wpAny_holding ?_
 first | refine wpAny_bind (wpAny_pure ?_) | skip
 refine wpAny_bind (wpAny_sequenceKey ht.typeIs (by decide) ?_)
 refine wpAny_bind (wpAny_callSpecial?_slot (name := Str.ofString "__getitem__") ht.typeIs PyProof.Rows.slot_tuple_getitem
  (wpAny_call_entry PyProof.Rows.slot_tuple_getitem ht.typeIs entry_tuple_getitem ?_ (args_tuple_getitem _ _)))
 show wpAny _ _ (Builtin.Tuple.tupleItemsOf (.ref t) >>= _) _ _ s
 refine wpAny_bind (tupleItemsOf_ ht ?_)
 refine wpAny_bind (wpAny_typeOf hTs ?_)
 rw [if_pos (by decide)]
 refine wpAny_bind (sliceApplied_gen hs pl pu ?_)
 have hno : ¬ ((((sIx items.size 0 lo : Nat) : Int) == 0 && (1 : Int) == 1 && (sIx items.size items.size hi - sIx items.size 0 lo) == items.size) = true) := by grind
 show wpAny _ _ (if (((sIx items.size 0 lo : Nat) : Int) == 0 && (1 : Int) == 1 && (sIx items.size items.size hi - sIx items.size 0 lo) == items.size) = true then _ else _) _ _ s
 rw [if_neg hno, pick_gen]
 first
  | exact wpAny_bind (m := Builtin.Tuple.tupleExact _) (wpAny_newObj_type (wpAny_pure ⟨_, rfl, wpAny_pure h⟩) htake)
  | exact wpAny_bind (m := Builtin.Tuple.tupleExact _) (wpAny_newObj_type (wpAny_bind (wpAny_pure (wpAny_pure ⟨_, rfl, wpAny_pure h⟩))) htake)
  | exact wpAny_bind (wpAny_bind (m := Builtin.Tuple.tupleExact _) (wpAny_newObj_type (wpAny_pure (wpAny_pure ⟨_, rfl, wpAny_pure h⟩)) htake))
  | exact wpAny_bind (wpAny_bind (m := Builtin.Tuple.tupleExact _) (wpAny_newObj_type (wpAny_pure ⟨_, rfl, wpAny_pure h⟩) htake))
end
end HT
namespace L2
open PySem PySem.Spec PyProof.Rows
abbrev TO := St → Hp → (Option Int → Hp → Prop) → Prop
def PO (X : Cx) (e : Option Expr) (t : TO) : Prop :=
 ∀ (pins : List (Addr × Obj)) (s : Shared) (σ : St) (H : Hp) (Q : Option Int → Hp → Prop), Inv X pins σ H s → t σ H Q →
  wpAny (model X.prog X.w) X.A (evalPart e X.env) (fun u s' => ∃ o H', Inv X pins σ H' s' ∧ IsPart u o ∧ Q o H') X.xe s
def tNoPart : TO := fun _ H Q => Q none H
def tPart (t : TE) : TO := fun σ H Q => t σ H fun x H1 => ∃ i, x = .int i ∧ Q (some i) H1
theorem intsAre_of : ∀ {us : List Value}, Vals (ns.map V.int) us → IntsAre us ns := by
 induction ns with
 | nil => intro us r; cases r; exact .nil
 | cons n ns ih =>
  intro us r
  cases r with
  | cons r1 r2 =>
   obtain ⟨t, e⟩ := r1
   subst e
   exact .cons n t (ih r2)
section
variable {lo hi : Option Expr}
theorem po_none : PO X none tNoPart := by
 intro pins s σ H Q I h
 exact wpAny_pure ⟨none, H, I, .none, h⟩
theorem po_some (h : PE X e te) : PO X (some e) (tPart te) := by
 intro pins s σ H Q I hw
 refine thn (h pins s σ H _ I hw) fun u s1 ⟨x, H1, I1, r1, q1⟩ => ?_
 obtain ⟨i, rfl, q⟩ := q1
 obtain ⟨t, rfl⟩ := r1
 exact ⟨some i, H1, I1, .int i t, q⟩
def SlR (X : Cx) (r : V → Option Int → Option Int → Hp → VK → Prop) : Prop :=
 ∀ (pins : List (Addr × Obj)) (s : Shared) (σ : St) (H : Hp) (x : V) (v vl vu : Value) (lo hi : Option Int) (sl : Addr) (Q : VK), Inv X pins σ H s → RelV x v → s.heap.IsSliceOf sl vl vu .none → IsPart vl lo → IsPart vu hi → r x lo hi H Q →
  ∃ T id, typeLookup (.type T) "__getitem__" = pure (some (.builtin id)) ∧ s.TypeIs v T ∧ wpAny (model X.prog X.w) X.A (getItem v (.ref sl)) (EP X pins σ Q) X.xe s
def tSl (r : V → Option Int → Option Int → Hp → VK → Prop) (te : TE) (tl th : TO) : TE := fun σ H Q => te σ H fun x H1 => tl σ H1 fun l H2 => th σ H2 fun u H3 => r x l u H3 Q
theorem pe_slice {r : V → Option Int → Option Int → Hp → VK → Prop} (hr : SlR X r) (he : PE X e te) (hl : PO X lo tl) (hu : PO X hi th) : PE X (.Subscript e (.Slice lo hi none p2) pos) (tSl r te tl th) := by
 intro pins s σ H Q I h
 refine Subscript_ (thn (he pins s σ H _ I h) fun v s1 ⟨x, H1, I1, r1, q1⟩ => ?_)
 refine wpAny_Slice (thn (hl pins s1 σ H1 _ I1 q1) fun vl s2 ⟨l, H2, I2, pl, q2⟩ => thn (hu pins s2 σ H2 _ I2 q2) fun vu s3 ⟨u, H3, I3, pu, q3⟩ => ?_)
 rw [evalPart_none]
 refine wpAny_pure ?_
 have I4 : Inv X pins σ H3 { s3 with heap := s3.heap.push { cls := .type "slice", data := .fields #[vl, vu, .none] } } := I3.kept (t' := s3.toks) fun b ob q => Heap.get?_push_of_some _ q
 obtain ⟨T, id, hT, ht, hg⟩ := hr pins { s3 with heap := s3.heap.push { cls := .type "slice", data := .fields #[vl, vu, .none] } } σ H3 x v vl vu l u s3.heap.objs.size Q I4 r1 (Heap.IsSliceOf.new ..) pl pu q3
 show wpAny (model X.prog X.w) X.A (subscriptTail e (.Slice lo hi none p2) v (.ref s3.heap.objs.size)) (EP X pins σ Q) X.xe { s3 with heap := s3.heap.push { cls := .type "slice", data := .fields #[vl, vu, .none] } }
 exact tail_any (ops := [.ref s3.heap.objs.size, v]) ht hT hg (by with_unfolding_all rfl)
def cutV (xs : List V) (lo hi : Option Int) : List V := (xs.drop (HT.sIx xs.length 0 lo)).take (HT.sIx xs.length xs.length hi - HT.sIx xs.length 0 lo)
theorem cutV_length (xs : List V) (lo hi : Option Int) : (cutV xs lo hi).length ≤ xs.length := by
 unfold cutV
 simp; omega
def rSlT (K : PySem.W.Frag) : V → Option Int → Option Int → Hp → VK → Prop := fun x lo hi H Q => ∃ a xs, x = .ref a ∧ SqT K H a xs ∧
 ¬ (HT.sIx xs.length 0 lo = 0 ∧ HT.sIx xs.length xs.length hi = xs.length) ∧ ∀ p, H p = none → Q (.ref p) (upd H p (.tup (cutV xs lo hi)))
theorem sl_tup : SlR X (rSlT X.K) := by
 intro pins s σ H x v vl vu lo hi sl Q I rx hs pl pu h
 obtain ⟨a, xs, rfl, hx, hw, q⟩ := h
 cases rx
 obtain ⟨its, r, ht, hz⟩ := I.tuple hx
 have hlen : its.toArray.size = xs.length := by rw [List.size_toArray]; exact r.length.symm
 refine ⟨"tuple", _, PyProof.Rows.slot_tuple_getitem.lookup, ht.typeIs, ?_⟩
 refine HT.getItem_tuple_cut ht hs pl pu (by rw [hlen]; exact hw) ?_ (by rw [hlen]; exact hz)
 rw [hlen]
 refine ⟨.ref s.heap.objs.size, _, I.laid (t' := s.toks) (o := .tup (cutV xs lo hi)) (fun b ob q => Heap.get?_push_of_some _ q) (Nat.le_refl _) ?_, rfl, q _ (I.hok.fresh (Nat.le_refl _))⟩
 exact ⟨Nat.le_trans (cutV_length xs lo hi) hz, _, (r.drop (HT.sIx xs.length 0 lo)).take (HT.sIx xs.length xs.length hi - HT.sIx xs.length 0 lo), IsTupB.new _ _⟩
def rCatT (K : PySem.W.Frag) : R2 := fun x y H Q => ∃ a b xs ys, x = .ref a ∧ y = .ref b ∧ SqT K H a xs ∧ SqT K H b ys ∧ xs ≠ [] ∧ xs.length + ys.length ≤ sizeLine ∧
 (ys = [] → Q (.ref a) H) ∧ (ys ≠ [] → ∀ p, H p = none → Q (.ref p) (upd H p (.tup (xs ++ ys))))
theorem Vals.nil_iff (r : Vals xs us) : us = [] ↔ xs = [] := by
 cases r with
 | nil => simp
 | cons _ _ => simp
theorem op_catT : OpR X (binaryOp .Add) (rCatT X.K) := by
 intro pins s σ H x y v u Q I rx ry h
 obtain ⟨a, b, xs, ys, rfl, rfl, ha, hb, hx, hz, q1, q2⟩ := h
 cases rx
 cases ry
 obtain ⟨its, r1, p1, _⟩ := I.tuple ha
 obtain ⟨its2, r2, p2, _⟩ := I.tuple hb
 refine HT.cat_tup p1 p2 (fun z => hx (r1.nil_iff.mp z)) (fun z => ⟨.ref a, H, I, rfl, q1 (r2.nil_iff.mp z)⟩) (fun z => ?_) (by rw [← r1.length, ← r2.length]; exact hz)
 refine ⟨.ref s.heap.objs.size, _, I.laid (t' := s.toks) (o := .tup (xs ++ ys)) (fun b ob q => Heap.get?_push_of_some _ q) (Nat.le_refl _) ?_, rfl, q2 (fun w => z (r2.nil_iff.mpr w)) _ (I.hok.fresh (Nat.le_refl _))⟩
 exact ⟨by rw [List.length_append]; exact hz, _, r1.append r2, IsTupB.new _ _⟩
end
def ixN (n : Nat) (i : Int) : Option Nat := if 0 ≤ i then (if i < n then some i.toNat else none) else if -(n : Int) ≤ i then some (i + n).toNat else none
def atI {α : Type} (xs : List α) (i : Int) : Option α := (ixN xs.length i).bind fun j => xs[j]?
theorem ixN_seq (h : ixN n i = some j) : seqIndex? i n = some j ∧ j < n ∧ -(n : Int) ≤ i ∧ i < n := by
 unfold ixN at h
 by_cases h0 : 0 ≤ i
 · rw [if_pos h0] at h
   by_cases h1 : i < n
   · rw [if_pos h1] at h
     have e : i.toNat = j := Option.some.inj h
     exact ⟨by rw [seqIndex_of h0 h1, e], by omega, by omega, h1⟩
   simp_all
 · rw [if_neg h0] at h
   by_cases h1 : -(n : Int) ≤ i
   · rw [if_pos h1] at h
     have e := Option.some.inj h
     exact ⟨by rw [seqIndex_neg (by omega) h1, e], by omega, h1, by omega⟩
   grind
theorem atI_get {v : α} (h : atI xs i = some v) : ∃ j, seqIndex? i xs.length = some j ∧ xs[j]? = some v ∧ j < xs.length ∧ -(xs.length : Int) ≤ i ∧ i < xs.length := by
 unfold atI at h
 cases e : ixN xs.length i with
 | none => simp_all
 | some j =>
  obtain ⟨h1, h2, h3, h4⟩ := ixN_seq e
  simp_all
theorem atI_nat {j : Nat} {v : α} (h : xs[j]? = some v) : atI xs (j : Int) = some v := by
 have hj := (List.getElem?_eq_some_iff.mp h).1
 have e : ixN xs.length (j : Int) = some j := by
  unfold ixN
  simp_all
 unfold atI; grind
theorem atI_last (xs : List α) (v : α) : atI (xs ++ [v]) (-1) = some v := by
 have e : ixN (xs ++ [v]).length (-1) = some xs.length := by
  unfold ixN
  grind
 unfold atI
 simp_all
def PlainIx (b : Expr) : Prop := ∀ o i, subscripted b false o i = operate [o, i] (getItem o i)
def IxR (X : Cx) (r : R2) : Prop :=
 ∀ (value slice : Expr) (pins : List (Addr × Obj)) (s : Shared) (σ : St) (H : Hp) (x y : V) (v u : Value) (Q : VK), Inv X pins σ H s → RelV x v → RelV y u → r x y H Q →
  subscripted slice false v u = operate [v, u] (getItem v u) → wpAny (model X.prog X.w) X.A (subscriptTail value slice v u) (EP X pins σ Q) X.xe s
def MtR (X : Cx) (id : String) (r : V → List V → Hp → VK → Prop) : Prop :=
 ∀ (pins : List (Addr × Obj)) (s : Shared) (σ : St) (H : Hp) (x : V) (xs : List V) (v : Value) (us : List Value) (Q : VK), Inv X pins σ H s → RelV x v → Vals xs us → r x xs H Q →
  wpAny (model X.prog X.w) X.A (call (.builtin id) (v :: us)) (EP X pins σ Q) X.xe s
section
theorem IxR.or (h : IxR X r) (h' : IxR X r') : IxR X (fun x y H Q => r x y H Q ∨ r' x y H Q) := by
 intro value slice pins s σ H x y v u Q I rx ry q hs
 rcases q with q | q
 · exact h value slice pins s σ H x y v u Q I rx ry q hs
 · exact h' value slice pins s σ H x y v u Q I rx ry q hs
theorem pe_ix {r : R2} (hr : IxR X r) (ha : PE X a ta) (hb : PE X b tb) (hs : PlainIx b) : PE X (.Subscript a b pos) (tOp r ta tb) := by
 intro pins s σ H Q I h
 exact Subscript_ (binT ha hb I h fun v u s2 x y H2 I2 rx ry q => hr a b pins s2 σ H2 x y v u Q I2 rx ry q (hs _ _))
def rIxL (K : PySem.W.Frag) : R2 := fun x y H Q => ∃ p xs i v, x = .ref p ∧ y = .int i ∧ SqL K H p xs ∧ atI xs i = some v ∧ Q v H
def rIxT (K : PySem.W.Frag) : R2 := fun x y H Q => ∃ p xs i v, x = .ref p ∧ y = .int i ∧ SqT K H p xs ∧ atI xs i = some v ∧ Q v H
def rIxS : R2 := fun x y H Q => ∃ z i c, x = .str z ∧ y = .int i ∧ z.length ≤ sizeLine ∧ atI z.cps.toList i = some c ∧ Q (.str ⟨#[c]⟩) H
theorem ix_list : IxR X (rIxL X.K) := by
 intro value slice pins s σ H x y v u Q I rx ry h hs
 obtain ⟨p, xs, i, z, rfl, rfl, hq, he, q⟩ := h
 cases rx
 obtain ⟨t, rfl⟩ := ry
 obtain ⟨its, r, pl, hz⟩ := I.list hq
 obtain ⟨j, h1, h2, h3, h4, h5⟩ := atI_get he
 obtain ⟨w, ew, rw'⟩ := r.get h2
 have hl := r.length
 have hn := line63
 have fin : EP X pins σ Q w s := ⟨z, H, I, rw', q⟩
 by_cases h0 : 0 ≤ i
 · have hj : i.toNat = j := by
    rw [seqIndex_of h0 h5] at h1
    exact Option.some.inj h1
   exact item_listR pl.isList h0 (by omega) (by rw [hj]; simpa using ew) fin hs
 · have hj : (i + (its.toArray.size : Int)).toNat = j := by
    rw [seqIndex_neg (by omega) h4] at h1
    simp_all
   exact subscriptTail_builtinR (x := w) pl.isList.typeIs slot_list_getitem.lookup
    (wpAny_getItem_list_neg pl.isList (by omega) (by rw [List.size_toArray] <;> omega) (by omega) (by rw [hj]; simpa using ew) ⟨rfl, fin⟩) hs
theorem ix_tup : IxR X (rIxT X.K) := by
 intro value slice pins s σ H x y v u Q I rx ry h hs
 obtain ⟨p, xs, i, z, rfl, rfl, hq, he, q⟩ := h
 cases rx
 obtain ⟨t, rfl⟩ := ry
 obtain ⟨its, r, pl, hz⟩ := I.tuple hq
 obtain ⟨j, h1, h2, h3, h4, h5⟩ := atI_get he
 obtain ⟨w, ew, rw'⟩ := r.get h2
 have hl := r.length
 have hn := line63
 have fin : EP X pins σ Q w s := ⟨z, H, I, rw', q⟩
 exact subscriptTail_builtinR pl.typeIs slot_tuple_getitem.lookup
  (getItem_tuple (j := j) pl (by omega) (by omega) (by simp_all) (by simp_all) ⟨rfl, fin⟩) hs
theorem ix_str : IxR X rIxS := by
 intro value slice pins s σ H x y v u Q I rx ry h hs
 obtain ⟨z, i, c, rfl, rfl, hz, he, q⟩ := h
 obtain ⟨t, rfl⟩ := rx
 obtain ⟨t', rfl⟩ := ry
 obtain ⟨j, h1, h2, h3, h4, h5⟩ := atI_get he
 have hl : z.cps.toList.length = z.length := by rfl
 have hn := line63
 exact tail_any (typeIs_str s z t) slot_str_getitem.lookup (getItem_str (by grind) (by grind) ⟨.str _, H, I.tok _, ⟨_, rfl⟩, q⟩) hs
def rIx (K : PySem.W.Frag) : R2 := fun x y H Q => rIxL K x y H Q ∨ rIxT K x y H Q ∨ rIxS x y H Q
theorem ix_seq : IxR X (rIx X.K) := ix_list.or (ix_tup.or ix_str)
theorem mapSeq_set (its : List Value) (n j : Nat) (u : Value) : Obj.mapSeq (·.setIfInBounds j u) { cls := .type "list", data := .seq its.toArray n } = { cls := .type "list", data := .seq (its.set j u).toArray n } := by
 simp [Obj.mapSeq]
theorem Inv.lst {σ : St} (I : Inv X pins σ H s) (h : H p = some (.lst xs)) :
 ∃ (its : List Value) (n : Nat), Vals xs its ∧ s.heap.get? p = some { cls := .type "list", data := .seq its.toArray n } ∧ xs.length ≤ sizeLine := by
 obtain ⟨z, its, n, r, e⟩ := I.hok p _ h
 exact ⟨its, n, r, e, z⟩
theorem Inv.lstUpd {pins : List (Addr × Obj)} {σ : St} {H : Hp} {s : Shared} {p : Addr} {xs ys : List V} {its its' : List Value} {n n' : Nat} {f : Obj → Obj} (I : Inv X pins σ H s) (h : H p = some (.lst xs))
 (ho : s.heap.get? p = some { cls := .type "list", data := .seq its.toArray n }) (hf : f { cls := .type "list", data := .seq its.toArray n } = { cls := .type "list", data := .seq its'.toArray n' }) (r : Vals ys its') (hz : ys.length ≤ sizeLine) (t : Nat) :
 Inv X pins σ (upd H p (.lst ys)) { s with heap := s.heap.update p f, toks := t } := by
 have e : (s.heap.update p f).get? p = some { cls := .type "list", data := .seq its'.toArray n' } := by
  rw [Heap.get?_update_self f ho (by rw [hf] <;> rfl), hf]
 refine I.write (x := p) (e := p) (by rw [h]; trivial) (.inl rfl) (fun b u hb q => (Heap.get?_update_other _ _ (Ne.symm hb)).trans q) ⟨_, e⟩ ?_
 exact ⟨hz, its', n', r, e⟩
def rSetL : V → V → V → Hp → (Hp → Prop) → Prop := fun o i v H Q => ∃ p xs k j, o = .ref p ∧ i = .int k ∧ H p = some (.lst xs) ∧ ixN xs.length k = some j ∧ Q (upd H p (.lst (xs.set j v)))
theorem set_list : PSet X rSetL := by
 intro pins s σ H o i v ov iv u Q I ro ri rv h
 obtain ⟨p, xs, k, j, rfl, rfl, hp, hj, q⟩ := h
 cases ro
 obtain ⟨t, rfl⟩ := ri
 obtain ⟨its, n, r, ho, hz⟩ := I.lst hp
 obtain ⟨h1, h2, h3, h4⟩ := ixN_seq hj
 have hl := r.length
 have hn := line63
 have I' :=
  I.lstUpd hp ho (mapSeq_set its n j u) (r.set rv j) (by rw [List.length_set]; exact hz) s.toks
 by_cases h0 : 0 ≤ k
 · have hk : k.toNat = j := by
    rw [seqIndex_of h0 h4] at h1
    exact Option.some.inj h1
   exact PySem.W.ki_setAt ho h0 (by omega) (by simp_all) (by rw [hk]; exact ⟨_, I', q⟩)
 · have hk : (k + (its.toArray.size : Int)).toNat = j := by
    rw [seqIndex_neg (by omega) h3] at h1
    grind
   exact PySem.W.ki_setBack ho (by omega) (by rw [List.size_toArray, ← hl]; exact h3) (by omega) (by rw [hk]; exact ⟨_, I', q⟩)
theorem slice_bounds (lo hi : Option Int) (n : Nat) : (sliceBounds lo hi none n).1 = ((HT.sIx n 0 lo : Nat) : Int) ∧ (sliceBounds lo hi none n).2.1 = ((HT.sIx n n hi : Nat) : Int) ∧ (sliceBounds lo hi none n).2.2 = 1 := by
 refine ⟨?_, ?_, rfl⟩
 · cases lo with
   | none => rfl
   | some i =>
    simp only [sliceBounds, HT.sIx, Option.getD_none, show (1 : Int) > 0 by decide, if_true]
    by_cases h : i < 0
    · simp only [h, if_true] <;> omega
    · simp only [h, if_false] <;> omega
 · cases hi with
   | none => simp [sliceBounds, HT.sIx]
   | some i =>
    simp only [sliceBounds, HT.sIx, Option.getD_none, show (1 : Int) > 0 by decide, if_true]
    by_cases h : i < 0
    · simp only [h, if_true] <;> omega
    · simp only [h, if_false] <;> omega
theorem slicePick_cut (its : List Value) (lo hi : Option Int) : slicePick its.toArray lo hi none = ((its.drop (HT.sIx its.length 0 lo)).take (HT.sIx its.length its.length hi - HT.sIx its.length 0 lo)).toArray := by
 obtain ⟨h1, h2, h3⟩ := slice_bounds lo hi its.toArray.size
 unfold slicePick
 rw [h1, h2, h3]
 simp only [sliceRange_one, pick_run, List.size_toArray] <;> rfl
def rSlL (K : PySem.W.Frag) : V → Option Int → Option Int → Hp → VK → Prop := fun x lo hi H Q => ∃ a xs, x = .ref a ∧ SqL K H a xs ∧ ∀ p, H p = none → Q (.ref p) (upd H p (.lst (cutV xs lo hi)))
theorem sl_list : SlR X (rSlL X.K) := by
 intro pins s σ H x v vl vu lo hi sl Q I rx hs pl pu h
 obtain ⟨a, xs, rfl, hx, q⟩ := h
 cases rx
 obtain ⟨its, r, ht, hz⟩ := I.list hx
 have hlen := r.length
 refine ⟨"list", _, slot_list_getitem.lookup, ht.isList.typeIs, ?_⟩
 refine wpAny_getItem_list_slice ht.isList hs pl pu .none (by simp) ?_ (by grind)
 rw [slicePick_cut, ← hlen]
 refine ⟨.ref s.heap.objs.size, _, I.laid (fun b ob q => Heap.get?_push_of_some _ q) (Nat.le_refl _) ?_, rfl, q _ (I.hok.fresh (Nat.le_refl _))⟩
 exact ⟨Nat.le_trans (cutV_length xs lo hi) hz, _, 0, (r.drop _).take _, Heap.get?_push_size _ rfl⟩
def flatV : V → Bool
 | .non => true
 | .bl _ => true
 | .int _ => true
 | .str _ => true
 | _ => false
def eqV : V → V → Bool
 | .non, .non => true
 | .bl a, .bl b => a == b
 | .bl a, .int b => (if a then 1 else 0) == b
 | .int a, .bl b => a == (if b then 1 else 0)
 | .int a, .int b => a == b
 | .str a, .str b => a == b
 | _, _ => false
theorem eqAt_V {A : Around} {s : Shared} {y x : V} {u v : Value} (ry : RelV y u) (rx : RelV x v) (fy : flatV y = true) (fx : flatV x = true) : SeqAt.EqAt A s u v (eqV y x) := by
 cases y with
 | non =>
  cases ry
  cases x with
  | non => cases rx; exact SeqAt.EqAt.same _
  | bl b => cases rx; exact SeqAt.EqAt.none_bool b
  | int b => obtain ⟨t, rfl⟩ := rx; exact SeqAt.EqAt.none_int b t
  | str b => obtain ⟨t, rfl⟩ := rx; exact SeqAt.EqAt.none_str b t
  | _ => exact absurd (show false = true from fx) Bool.false_ne_true
 | bl a =>
  cases ry
  cases x with
  | non => cases rx; exact SeqAt.EqAt.bool_none a
  | bl b => cases rx; exact SeqAt.EqAt.bool_bool a b
  | int b => obtain ⟨t, rfl⟩ := rx; exact SeqAt.EqAt.bool_int a b t
  | str b => obtain ⟨t, rfl⟩ := rx; exact SeqAt.EqAt.bool_str a b t
  | _ => exact absurd (show false = true from fx) Bool.false_ne_true
 | int a =>
  obtain ⟨t', rfl⟩ := ry
  cases x with
  | non => cases rx; exact SeqAt.EqAt.int_none a t'
  | bl b => cases rx; exact SeqAt.EqAt.int_bool a t' b
  | int b => obtain ⟨t, rfl⟩ := rx; exact SeqAt.EqAt.int_int a t' b t
  | str b => obtain ⟨t, rfl⟩ := rx; exact SeqAt.EqAt.int_str a t' b t
  | _ => exact absurd (show false = true from fx) Bool.false_ne_true
 | str a =>
  obtain ⟨t', rfl⟩ := ry
  cases x with
  | non => cases rx; exact SeqAt.EqAt.str_none a t'
  | bl b => cases rx; exact SeqAt.EqAt.str_bool a t' b
  | int b => obtain ⟨t, rfl⟩ := rx; exact SeqAt.EqAt.str_int a t' b t
  | str b => obtain ⟨t, rfl⟩ := rx; exact SeqAt.EqAt.str_str a t' b t
  | _ => exact absurd (show false = true from fx) Bool.false_ne_true
 | _ => exact absurd (show false = true from fy) Bool.false_ne_true
def eqU (x : V) (u : Value) : Bool := match u with
 | .none => eqV .non x
 | .bool b => eqV (.bl b) x
 | .int i _ => eqV (.int i) x
 | .str z _ => eqV (.str z) x
 | _ => false
theorem eqU_of {x y : V} {u : Value} (r : RelV y u) (f : flatV y = true) : eqU x u = eqV y x := by
 cases y with
 | non => cases r; rfl
 | bl b => cases r; rfl
 | int i => obtain ⟨t, rfl⟩ := r; rfl
 | str z => obtain ⟨t, rfl⟩ := r; rfl
 | _ => exact absurd (show false = true from f) Bool.false_ne_true
theorem any_eqU {x : V} : ∀ {xs : List V} {us : List Value}, Vals xs us → xs.all flatV = true → us.any (eqU x) = xs.any fun y => eqV y x
 | _, _, .nil, _ => rfl
 | y :: xs, u :: us, .cons r t, f => by
  rw [List.all_cons, Bool.and_eq_true] at f
  rw [List.any_cons, List.any_cons, eqU_of r f.1, any_eqU t f.2]
theorem mem_eqAt {A : Around} {s : Shared} {x : V} {v : Value} (rx : RelV x v) (fx : flatV x = true) : ∀ {xs : List V} {us : List Value}, Vals xs us → xs.all flatV = true → ∀ u ∈ us, SeqAt.EqAt A s u v (eqU x u)
 | _, _, .nil, _ => fun u hu => by cases hu
 | y :: xs, u :: us, .cons r t, f => fun u' hu => by
  rw [List.all_cons, Bool.and_eq_true] at f
  rcases List.mem_cons.mp hu with rfl | hu
  · rw [eqU_of r f.1]; exact eqAt_V r rx f.1 fx
  · exact mem_eqAt rx fx t f.2 u' hu
def inV (x : V) (xs : List V) : Bool := xs.any fun y => eqV y x
def rIn (K : PySem.W.Frag) (neg : Bool) : R2 := fun x y H Q => ∃ p xs, y = .ref p ∧ (SqL K H p xs ∨ SqT K H p xs) ∧ flatV x = true ∧ xs.all flatV = true ∧ Q (.bl (if neg then !inV x xs else inV x xs)) H
theorem op_in_seq : OpR X (compareOp .In) (rIn X.K false) := by
 intro pins s σ H x y v u Q I rx ry h
 obtain ⟨p, xs, rfl, hq, fx, fs, q⟩ := h
 cases ry
 rcases hq with hq | hq
 · obtain ⟨its, r, pl, hz⟩ := I.list hq
   refine SeqAt.in_listAt (eqU x) pl.isList (fun w hw => mem_eqAt rx fx r fs w (by simpa using hw)) ⟨.bl _, H, I, rfl, ?_⟩
   rw [show its.toArray.any (eqU x) = its.any (eqU x) by simp, any_eqU r fs]
   exact q
 · obtain ⟨its, r, pl, hz⟩ := I.tuple hq
   refine SeqAt.in_tupleAt (eqU x) pl (fun w hw => mem_eqAt rx fx r fs w (by simpa using hw)) ⟨.bl _, H, I, rfl, ?_⟩
   rw [show its.toArray.any (eqU x) = its.any (eqU x) by simp, any_eqU r fs]
   exact q
theorem op_notIn_seq : OpR X (compareOp .NotIn) (rIn X.K true) := by
 intro pins s σ H x y v u Q I rx ry h
 obtain ⟨p, xs, rfl, hq, fx, fs, q⟩ := h
 cases ry
 rcases hq with hq | hq
 · obtain ⟨its, r, pl, hz⟩ := I.list hq
   refine SeqAt.notIn_listAt (eqU x) pl.isList (fun w hw => mem_eqAt rx fx r fs w (by simpa using hw)) ⟨.bl _, H, I, rfl, ?_⟩
   rw [show its.toArray.any (eqU x) = its.any (eqU x) by simp, any_eqU r fs]
   exact q
 · obtain ⟨its, r, pl, hz⟩ := I.tuple hq
   refine SeqAt.notIn_tupleAt (eqU x) pl (fun w hw => mem_eqAt rx fx r fs w (by simpa using hw)) ⟨.bl _, H, I, rfl, ?_⟩
   rw [show its.toArray.any (eqU x) = its.any (eqU x) by simp, any_eqU r fs]
   exact q
theorem call_len_seq : CallR X (.builtin "len") (fun xs H Q => ∃ p ys, xs = [.ref p] ∧ (SqL X.K H p ys ∨ SqT X.K H p ys) ∧ Q (.int ys.length) H) := by
 intro pins s σ H xs us Q I r h
 obtain ⟨p, ys, rfl, hq, q⟩ := h
 obtain ⟨u, rfl, rx⟩ := vals1 r
 cases rx
 have hn := line63
 rcases hq with hq | hq
 · obtain ⟨its, r', pl, hz⟩ := I.list hq
   have hlen := r'.length
   exact Calls.call_len_list pl.isList (by simp only [List.size_toArray] <;> omega) ⟨.int ys.length, H, I.tok _, ⟨s.toks + 1, by grind⟩, q⟩
 · obtain ⟨its, r', pl, hz⟩ := I.tuple hq
   have hlen := r'.length
   exact len_tuple pl (by simp only [List.size_toArray] <;> omega) ⟨.int ys.length, H, I.tok _, ⟨s.toks + 1, by grind⟩, q⟩
theorem call_len_str : CallR X (.builtin "len") (fun xs H Q => ∃ z, xs = [.str z] ∧ z.length ≤ sizeLine ∧ Q (.int z.length) H) := by
 intro pins s σ H xs us Q I r h
 obtain ⟨z, rfl, hz, q⟩ := h
 obtain ⟨u, rfl, t, rfl⟩ := vals1 r
 have hn := line63
 exact len_str (by omega) ⟨.int z.length, H, I.tok _, ⟨_, rfl⟩, q⟩
theorem CallR.or (h : CallR X f r) (h' : CallR X f r') : CallR X f (fun xs H Q => r xs H Q ∨ r' xs H Q) := by
 intro pins s σ H xs us Q I rs q
 rcases q with q | q
 · exact h pins s σ H xs us Q I rs q
 · exact h' pins s σ H xs us Q I rs q
theorem call_tuple_of : CallR X (.type "tuple") (fun xs H Q => ∃ p ys, xs = [.ref p] ∧ ((SqL X.K H p ys ∧ ∀ l, H l = none → Q (.ref l) (upd H l (.tup ys))) ∨ (SqT X.K H p ys ∧ Q (.ref p) H))) := by
 intro pins s σ H xs us Q I r h
 obtain ⟨p, ys, rfl, h⟩ := h
 obtain ⟨u, rfl, rx⟩ := vals1 r
 cases rx
 rcases h with ⟨hq, q⟩ | ⟨hq, q⟩
 · obtain ⟨its, r', pl, hz⟩ := I.list hq
   have hlen := r'.length
   refine call_tuple_list pl.isList (fun h' kp => ?_) (by simp only [List.size_toArray] <;> omega)
   have I1 : Inv X pins σ H { s with heap := h' } := I.kept (t' := s.toks) kp
   have I2 : Inv X pins σ (upd H h'.objs.size (.tup ys)) { s with heap := h'.push { cls := .type "tuple", data := .seq its.toArray } } :=
    I1.laid (t' := s.toks) (fun b o e => Heap.get?_push_of_some _ e) (Nat.le_refl _) (show ObjOk X.prog X.w _ _ _ (.tup ys) from ⟨hz, its, r', IsTupB.new _ _⟩)
   exact ⟨.ref h'.objs.size, _, I2, rfl, q _ (I1.hok.fresh (Nat.le_refl _))⟩
 · obtain ⟨its, r', pl, hz⟩ := I.tuple hq
   exact call_tuple_same pl ⟨.ref p, H, I, rfl, q⟩
def tyV (K : PySem.W.Frag) (T : String) (x : V) (H : Hp) : Prop := match x with
 | .str _ => T = "str"
 | .int _ => T = "int"
 | .ref p => (T = "list" ∧ ∃ xs, SqL K H p xs) ∨ (T = "tuple" ∧ ∃ o, K.lookup p = some o ∧ o.cls = .type "tuple" ∧ o.dict = none) ∨
  (T = "dict" ∧ ((∃ kvs, H p = some (.dK kvs)) ∨ ∃ kvs, H p = some (.dT kvs))) ∨ (T = "set" ∧ ∃ S n, H p = some (.set S n))
 | _ => False
theorem tyV_is {σ : St} {H : Hp} {s : Shared} {T : String} {x : V} {v : Value} (I : Inv X pins σ H s) (r : RelV x v) (ty : tyV X.K T x H) :
 s.TypeIs v T ∧ ∀ a, v = .ref a → ∃ ob, s.heap.get? a = some ob ∧ ob.dict = none := by
 cases x with
 | str z =>
  obtain ⟨t, rfl⟩ := r
  cases (show T = "str" from ty)
  exact ⟨typeIs_str s z t, fun _ e => nomatch e⟩
 | int i =>
  obtain ⟨t, rfl⟩ := r
  cases (show T = "int" from ty)
  exact ⟨typeIs_int s i t, fun _ e => nomatch e⟩
 | ref p =>
  cases r
  rcases ty with ⟨rfl, xs, hq⟩ | ⟨rfl, o, hk, hc, hd⟩ | ⟨rfl, hk⟩ | ⟨rfl, S, n, hk⟩
  · obtain ⟨its, _, pl, _⟩ := I.list hq
    refine ⟨pl.isList.typeIs, fun a e => ?_⟩
    cases e
    obtain ⟨o, n, e, c, hd, _⟩ := pl
    exact ⟨o, e, hd⟩
  · refine ⟨⟨o, I.kIn p o hk, hc⟩, fun a e => ?_⟩
    cases e
    exact ⟨o, I.kIn _ o hk, hd⟩
  · have z : ∃ o, s.heap.get? p = some o ∧ o.ExactDict := by
     rcases hk with ⟨kvs, hk⟩ | ⟨kvs, hk⟩
     · obtain ⟨_, _, _, _, o, _, _, e, ex, _⟩ := I.hok p _ hk
       exact ⟨o, e, ex⟩
     · obtain ⟨_, _, _, _, o, _, _, e, ex, _⟩ := I.hok p _ hk
       exact ⟨o, e, ex⟩
    obtain ⟨o, e, ex⟩ := z
    refine ⟨⟨o, e, ex.1⟩, fun a e2 => ?_⟩
    cases e2
    exact ⟨o, e, ex.2.1⟩
  · obtain ⟨o, _, _, _, e, ex, _⟩ := I.hok p _ hk
    refine ⟨⟨o, e, ex.1⟩, fun a e2 => ?_⟩
    cases e2
    exact ⟨o, e, ex.2.1⟩
 | _ => exact False.elim ty
def tBM0 (K : PySem.W.Frag) (T : String) (r : V → List V → Hp → VK → Prop) (to : TE) : TE := fun σ H Q => to σ H fun x H1 => tyV K T x H1 ∧ r x [] H1 Q
def tBM (K : PySem.W.Frag) (T : String) (r : V → List V → Hp → VK → Prop) (to : TE) (t : TA) : TE := fun σ H Q => to σ H fun x H1 => tyV K T x H1 ∧ t σ H1 fun xs H2 => r x xs H2 Q
variable {apos cpos : Pos} {T id : String}
theorem pe_bm0 (pa : PlainAttrs T) (slot : Slot T name id) (hty : typeOf (.builtin id) = pure (.type "method_descriptor")) (hm : MtR X id r) (ho : PE X o to)
 (hbase : attributeBase o name X.env (eval o X.env) = eval o X.env := by rfl) (hline : (apos.endLine == cpos.line) = true := by rfl) : PE X (.Call (.Attribute o name apos) [] [] cpos) (tBM0 X.K T r to) := by
 intro pins s σ H Q I h
 refine wpAny_Call_method0_late hbase hline (thn (ho pins s σ H _ I h) fun v s1 ⟨x, H1, I1, r1, ty, q1⟩ => ?_)
 obtain ⟨h1, h2⟩ := tyV_is I1 r1 ty
 exact ⟨T, id, pa, slot, hty, h1, h2, Calls.callWith_builtin rfl (PySem.evalArgs_none (hm pins s1 σ H1 x [] v [] Q I1 r1 .nil q1))⟩
theorem pe_bm (pa : PlainAttrs T) (slot : Slot T name id) (hty : typeOf (.builtin id) = pure (.type "method_descriptor")) (hm : MtR X id r) (ho : PE X o to) (ha : PA X (e :: es) t)
 (hbase : attributeBase o name X.env (eval o X.env) = eval o X.env := by rfl)
 (hfew : ((backTo cpos (starEach (e :: es) X.env)).all (fun x => !x.1) && (backToKw cpos (keywordEach [] X.env)).all (fun x => x.1.isSome)
  && decide ((e :: es).length + ([] : List Keyword).length + (if ([] : List Keyword).isEmpty then 0 else 1) < 30)) = true := by rfl)
 (hline : (apos.endLine == cpos.line) = true := by rfl) (hs : starEach (e :: es) X.env = (false, eval e X.env) :: starEach es X.env := by rfl) (hplain : (backTo cpos (starEach es X.env)).any (·.1) = false := by rfl) :
 PE X (.Call (.Attribute o name apos) (e :: es) [] cpos) (tBM X.K T r to t) := by
 intro pins s σ H Q I h
 refine wpAny_Call_method_late hbase hfew hline rfl (thn (ho pins s σ H _ I h) fun v s1 ⟨x, H1, I1, r1, ty, q1⟩ => ?_)
 obtain ⟨h1, h2⟩ := tyV_is I1 r1 ty
 refine ⟨T, id, pa, slot, hty, h1, h2, ?_⟩
 have hA := ha cpos pins s1 σ H1 _ I1 q1
 rw [hs] at hA ⊢
 refine Calls.callWith_builtin (by show (false || (backTo cpos (starEach es X.env)).any (·.1)) = false; rw [hplain] <;> rfl) (Calls.evalArgs_plain ?_)
 exact thn hA fun us s2 ⟨vs, H2, I2, r2, q2⟩ => hm pins s2 σ H2 x vs v us Q I2 r1 r2 q2
end
def MtM (X : Cx) (id : String) (r : V → List V → Hp → VK → Prop) : Prop :=
 ∀ (pins : List (Addr × Obj)) (s : Shared) (σ : St) (H : Hp) (x : V) (xs : List V) (v : Value) (us : List Value) (Q : VK), Inv X pins σ H s → RelV x v → Vals xs us → r x xs H Q →
  wpAny (model X.prog X.w) X.A (call (.builtin id) (v :: us)) (EP X pins σ Q) X.xe s
theorem Vals.one : ∀ {x : V} {us : List Value}, Vals [x] us → ∃ u, us = [u] ∧ RelV x u
 | _, _, .cons r .nil => ⟨_, rfl, r⟩
theorem Vals.rep (h : Vals xs us) : ∀ k : Nat, Vals (List.replicate k xs).flatten (List.replicate k us).flatten
 | 0 => .nil
 | k + 1 => by
  exact Vals.append h (Vals.rep h k)
theorem foldl_rep (its : List Value) : ∀ (k : Nat) (acc : List Value),
 List.foldl (fun x1 x2 => x1 ++ x2) acc.toArray (List.replicate k its.toArray) = (acc ++ (List.replicate k its).flatten).toArray
 | 0, acc => by simp
 | k + 1, acc => by
  have e : acc.toArray ++ its.toArray = (acc ++ its).toArray := by simp
  have e2 : (acc ++ its) ++ (List.replicate k its).flatten = acc ++ (List.replicate (k + 1) its).flatten := by
   rw [List.replicate_succ, List.flatten_cons, List.append_assoc]
  rw [← e2, ← foldl_rep its k _, ← e, List.replicate_succ, List.foldl_cons]
section
variable {σ : St}
theorem Inv.lset {its its' : List Value} (I : Inv X pins σ H s) (hH : H l = some (.lst xs))
 (e : s.heap.get? l = some { cls := .type "list", data := .seq its.toArray n }) (hf : f its.toArray = its'.toArray) (hv : Vals ys its') (hz : ys.length ≤ sizeLine) :
 Inv X pins σ (upd H l (.lst ys)) { s with heap := s.heap.update l (Obj.mapSeq f), toks := t' } := by
 have q := PySem.IsL.update e f
 rw [hf] at q
 refine I.write (by rw [hH]; exact trivial) (.inl rfl) (fun b' u hb hu => (Heap.get?_update_other s.heap _ (Ne.symm hb)).trans hu) ⟨_, q⟩ ?_
 exact ⟨hz, its', _, hv, q⟩
theorem Inv.lnew (I : Inv X pins σ H s) (hv : Vals ys its) (hz : ys.length ≤ sizeLine) :
 Inv X pins σ (upd H s.heap.objs.size (.lst ys)) { s with heap := s.heap.push { cls := .type "list", data := .seq its.toArray }, toks := t' } :=
 I.laid (fun _ _ q => Heap.get?_push_of_some _ q) (Nat.le_refl _) ⟨hz, its, 0, hv, Heap.get?_push_size _ rfl⟩
theorem Inv.fresh (I : Inv X pins σ H s) : H s.heap.objs.size = none := I.hok.fresh (Nat.le_refl _)
theorem Inv.lstM (I : Inv X pins σ H s) (hH : H l = some (.lst xs)) : xs.length ≤ sizeLine ∧ ∃ (its : List Value) (n : Nat), Vals xs its ∧ xs.length = its.length ∧ s.heap.get? l = some { cls := .type "list", data := .seq its.toArray n } := by
 obtain ⟨z, its, n, r, e⟩ := I.hok l _ hH
 exact ⟨z, its, n, r, r.length, e⟩
theorem notLongL (h : n ≤ sizeLine) : Builtin.List.listTooLong n = false := by
 exact decide_eq_false (by omega)
end
section
def rAppend : V → List V → Hp → VK → Prop := fun x vs H Q => ∃ l xs y, x = .ref l ∧ vs = [y] ∧ H l = some (.lst xs) ∧ xs.length < sizeLine ∧ Q .non (upd H l (.lst (xs ++ [y])))
theorem mt_append : MtM X "list.append" rAppend := by
 intro pins s σ H x vs v us Q I rx rv h
 obtain ⟨l, xs, y, rfl, rfl, hH, hz, q⟩ := h
 cases rx
 obtain ⟨u, rfl, ru⟩ := rv.one
 obtain ⟨z, its, n, r, hl, e⟩ := I.lstM hH
 refine call_meets F.slot_list_append ⟨_, e, rfl⟩ F.entry_list_append (F.args_list_append_2 _ _) (PySem.list_append l its.toArray n u (by grind)) ⟨e, ?_⟩
 refine ⟨.non, _, I.lset hH e (by simp) (r.append (.cons ru .nil)) ?_, rfl, q⟩
 grind
def rExtend : V → List V → Hp → VK → Prop := fun x vs H Q => ∃ l b xs zs, x = .ref l ∧ vs = [.ref b] ∧ H l = some (.lst xs) ∧ H b = some (.lst zs) ∧ xs.length + zs.length ≤ sizeLine ∧ Q .non (upd H l (.lst (xs ++ zs)))
theorem mt_extend : MtM X "list.extend" rExtend := by
 intro pins s σ H x vs v us Q I rx rv h
 obtain ⟨l, b, xs, zs, rfl, rfl, hH, hB, hz, q⟩ := h
 cases rx
 obtain ⟨u, rfl, ru⟩ := rv.one
 cases ru
 obtain ⟨z, its, n, r, hl, e⟩ := I.lstM hH
 obtain ⟨z2, its2, n2, r2, hl2, e2⟩ := I.lstM hB
 have hsz : its.toArray.size + its2.toArray.size ≤ sizeLine := by grind
 have hlong : ¬ (!its.toArray.isEmpty && Builtin.List.listTooLong (its.toArray.size + its2.toArray.size)) = true := by
  rw [notLongL hsz, Bool.and_false]
  simp
 refine call_meets F.slot_list_extend ⟨_, e, rfl⟩ F.entry_list_extend (F.args_list_extend_2 _ _)
  (AutoSeq1.list_extend_list_list_0 l its.toArray n b its2.toArray n2 hlong (by omega) (by omega)) ⟨e, e2, ?_⟩
 refine ⟨.non, _, I.lset hH e (by simp) (r.append r2) ?_, rfl, q⟩
 grind
def rCat : R2 := fun x y H Q => ∃ l b xs zs, x = .ref l ∧ y = .ref b ∧ H l = some (.lst xs) ∧ H b = some (.lst zs) ∧ xs.length + zs.length ≤ sizeLine ∧ ∀ p, H p = none → Q (.ref p) (upd H p (.lst (xs ++ zs)))
theorem op_cat : OpR X (binaryOp .Add) rCat := by
 intro pins s σ H x y v u Q I rx ry h
 obtain ⟨l, b, xs, zs, rfl, rfl, hH, hB, hz, q⟩ := h
 cases rx
 cases ry
 obtain ⟨z, its, n, r, hl, e⟩ := I.lstM hH
 obtain ⟨z2, its2, n2, r2, hl2, e2⟩ := I.lstM hB
 refine PySem.P.add_list e e2 ?_ (by simp_all)
 have ea : its.toArray ++ its2.toArray = (its ++ its2).toArray := by simp
 rw [ea]
 exact ⟨.ref _, _, I.lnew (r.append r2) (by simp_all), rfl, q _ I.fresh⟩
def rRep : R2 := fun x y H Q => ∃ l k xs, x = .ref l ∧ y = .int k ∧ H l = some (.lst xs) ∧ -(2 ^ 63) ≤ k ∧ k < 2 ^ 63 ∧ xs.length * k.toNat ≤ sizeLine ∧
 ∀ p, H p = none → Q (.ref p) (upd H p (.lst (List.replicate k.toNat xs).flatten))
theorem len_rep {α : Type} (xs : List α) (k : Nat) : (List.replicate k xs).flatten.length = k * xs.length := by simp
theorem op_rep : OpR X (binaryOp .Mult) rRep := by
 intro pins s σ H x y v u Q I rx ry h
 obtain ⟨l, k, xs, rfl, rfl, hH, h1, h2, hz, q⟩ := h
 cases rx
 obtain ⟨t, rfl⟩ := ry
 obtain ⟨z, its, n, r, hl, e⟩ := I.lstM hH
 have hlen : its.toArray.size * k.toNat ≤ sizeLine := by simp_all
 have hcap : ¬ its.toArray.size * k.toNat > (2 ^ 63 - 1) / 8 := by
  have : (sizeLine : Nat) ≤ (2 ^ 63 - 1) / 8 := by decide
  omega
 have hfit : ¬ (!Builtin.List.listFitsIndex k) = true := by
  rw [fitsIndex_both h1 h2]
  exact Bool.false_ne_true
 have hlong : ¬ Builtin.List.listTooLong (its.toArray.size * k.toNat) = true := by
  rw [notLongL hlen]
  exact Bool.false_ne_true
 have hnew : List.foldl (fun x1 x2 => x1 ++ x2) #[] (List.replicate (if its.toArray.isEmpty = true then 0 else k.toNat) its.toArray) = (List.replicate k.toNat its).flatten.toArray := by
  have f0 := fun m => by
   have := foldl_rep its m []
   rw [List.nil_append] at this
   exact this
  rw [f0]
  cases its with
  | nil => simp
  | cons a r' => rw [if_neg (by simp)]
 refine wpAny_binaryOp_repeat_ref (T := "list") (U := "int") (by decide) ⟨_, e, rfl⟩ (fun s' => typeIs_int s' k t) noFill_list_mul F.fills_int_mul F.slot_int_rmul repeat_list F.slot_int_index.lookup
  (call_meets F.slot_int_rmul (typeIs_int s k t) F.entry_int_rmul (F.args_int_rmul_2 _ _) (int___rmul___int_list k t l its.toArray n)
   ⟨e, rfl, ⟨_, e, rfl⟩, call_meets F.slot_list_mul ⟨_, e, rfl⟩ F.entry_list_mul (F.args_list_mul_2 _ _) (AutoListH.list___mul___list_int_3 l its.toArray n k t hfit hcap hlong) ⟨e, ?_⟩⟩)
 rw [hnew]
 exact ⟨.ref _, _, I.lnew (t' := s.toks) (r.rep k.toNat) (by rw [len_rep, Nat.mul_comm]; exact hz), rfl, q _ I.fresh⟩
end
end L2
namespace Att
open PySem PySem.W PySem.Calls PyProof.Rows
theorem ints_of_wellAll : ∀ (ns : List Int) (vs : List Value), WellAll P h vs (ns.map WData.int) → IntsAre vs ns := by
 intro ns
 induction ns with
 | nil =>
  intro vs w
  cases w
  exact .nil
 | cons n ns ih =>
  intro vs w
  cases w with
  | cons a b =>
   cases a
   exact .cons _ _ (ih _ b)
theorem script_of {l : OpenLaw} {n : Nat} (hn : l.most = some n) {P : Params} {h : Heap} {args : List WData} {vals : List Value}
 (hpre : l.row.toRowW.claim.pre args = true) (hwl : WellAll P h vals args) :
 ∃ a vs ns, vals = [Value.ref a] ∧ args = [WData.list (ns.map WData.int)] ∧ h.get? a = some { cls := .type "list", data := .seq vs.toArray } ∧ IntsAre vs ns ∧ ns.length ≤ n := by
 have hsh := (pre_splitW hpre).1
 have hc := (pre_splitW hpre).2
 obtain ⟨d, r, rfl, h1, h2⟩ := hasAllW_cons hsh
 obtain rfl := hasAllW_nil h2
 obtain ⟨xs, rfl, h3⟩ := hasW_list h1
 obtain ⟨ns, rfl⟩ := items_int h3
 have hlen : ns.length ≤ n := by
  have h4 := by
   have h4 := (holds_andW hc).1
   rw [hn] at h4
   exact h4
  have h5 := condW_of h4 (w_not (w_lt w_lit (w_len_list (w_arg rfl))))
  simp_all
 cases hwl with
 | cons w1 w2 =>
  cases w2
  cases w1 with
  | list ho hall => exact ⟨_, _, ns, rfl, rfl, ho, ints_of_wellAll ns _ hall, hlen⟩
theorem post_true (l : OpenLaw) (args : List WData) : l.row.toRowW.claim.post args (.bool true) args = true :=
 postW_of
  (by rfl)
  (w_eq_bool (w_res rfl) w_lit) rfl
theorem attach_call {l : OpenLaw} {n : Nat} {q : Program} {loose : List Str} {XP : (Str → Option Value) → Heap → Prop} {YP : World → Heap → Prop} {d : DefRec}
 (hn : l.most = some n) (hdf : d.params.defaults = [])
 (call : ∀ (w : World) (s₀ s₁ : Shared) (mg mb : Str → Option Value) (fa : Addr) (o : Obj) (pm cd doc : Value) (a : Addr) (vs : List Value) (ns : List Int),
  Ground q loose [] XP w s₀ mg mb s₁.heap → YP w s₁.heap →
  s₁.heap.get? fa = some o → o.data = .func (docDef d.name d.params d.body d.scope pm cd doc) → s₁.heap.CodeRec cd d.name → mg d.name = some (.ref fa) →
  s₁.heap.get? a = some { cls := .type "list", data := .seq vs.toArray } → IntsAre vs ns → ns.length ≤ n → s₁.gens = #[] →
  codeAny (model l.prog w) callerA (.call (.ref fa) ⟨[.ref a], []⟩) (fun r s' => r = .ok (.ret (.bool true)) ∧ OldK s₁.heap s'.heap ∧ s'.os = s₁.os ∧ AllBare s'.gens) s₁) :
 WalkO q loose XP YP l.row.toRowW d [] (fun f vs => PySem.call f vs) := by
 intro w s₀ s₁ mg mb G Y fa o pm cd doc dV kV ho hd hcd hD hmg hg args vals as hpre hlay hrd hwl hlo
 obtain rfl : dV = .none := Dflts.none hD hdf
 obtain rfl : kV = .none := Dflts.noKw hD
 obtain ⟨a, vs, ns, rfl, rfl, hobj, hints, hlen⟩ := script_of hn hpre hwl
 refine enter_call (codeAny_mono (call w s₀ s₁ mg mb fa o pm cd doc a vs ns G Y ho (fd_plain hd) hcd hmg hobj hints hlen hg) fun r s' hq => ?_)
 obtain ⟨rfl, h2, h3, h4⟩ := hq
 exact ⟨.inl ⟨.bool true, .bool true, [], rfl, fun _ => rfl, .bool true, post_true l _, fun _ => ⟨List.Pairwise.nil, fun _ hm => (nomatch hm)⟩⟩, h2, h3, h4⟩
end Att
namespace L2
open PySem PySem.Spec PyProof.Rows
theorem vals_ints : ∀ {vs : List Value} {ns : List Int}, IntsAre vs ns → Vals (ns.map V.int) vs
 | _, _, .nil => .nil
 | _, _, .cons n t h => .cons ⟨t, rfl⟩ (vals_ints h)
def Only (H : Hp) : Prop := ∀ b, H b = none ∨ ∃ o xs, H b = some (.frz o (.lst xs))
theorem law_call {P : Program} {w : World} {K : PySem.W.Frag} {mg mb : Str → Option Value} {CX : CXT} {k : Nat} {fa a : Addr} {fd : FuncData} {x : Str} {sp : Sp} {s₁ : Shared} {vs : List Value} {ns : List Int}
 (KX : K.In s₁.heap) (hns : s₁.heap.Ns mainGlobals mg) (hb : s₁.heap.Ns builtinsNs mb) (hbb : ∀ x : Str, x ≠ "__name__" → mb x = bootBuiltins x) (hlim : s₁.heap.NoLimit) (hg : s₁.gens = #[])
 (ha : s₁.heap.get? a = some { cls := .type "list", data := .seq vs.toArray }) (hi : IntsAre vs ns) (hl : ns.length ≤ sizeLine) (hr : Room k callerA)
 (F : ∀ base : Heap, K.In base → base.Ns mainGlobals mg → FnOk P w K mg base CX k fa fd [x] sp) (hbind : ∀ (s : Shared) (u : Value), BindsTo s fd ⟨[u], []⟩ [(x, u)])
 (hsp : ∀ H : Hp, Only H → SqL K H a (ns.map V.int) → sp [.ref a] H (fun v _ => v = .bl true) fun _ _ _ => False)
 (hCX : ∀ H e s', CX [] H s₁ (fun _ _ _ => False) e s' → False) :
 codeAny (model P w) callerA (.call (.ref fa) ⟨[.ref a], []⟩) (fun r s' => r = .ok (.ret (.bool true)) ∧ OldK s₁.heap s'.heap ∧ s'.os = s₁.os ∧ AllBare s'.gens) s₁ := by
 have rv := vals_ints hi
 have lenV := hi.length
 -- from an abstract heap in which nothing but the script may be tracked
 have core : ∀ H : Hp, Only H → SqL K H a (ns.map V.int) → HOk P w H s₁.heap → (∀ b, H b ≠ none → b = a) → (H a ≠ none → K.lookup a = none) →
  codeAny (model P w) callerA (.call (.ref fa) ⟨[.ref a], []⟩) (fun r s' => r = .ok (.ret (.bool true)) ∧ OldK s₁.heap s'.heap ∧ s'.os = s₁.os ∧ AllBare s'.gens) s₁ := by
  intro H hO hS hok hA hK
  have base_of : ∀ {b : Addr} {o : Obj}, s₁.heap.get? b = some o → H b = none → (hidT s₁.heap H).get? b = some o := fun e n => hidT_get e n
  have noA : ∀ {b : Addr} {o : Obj} {es : Array DictEntry} {ep : Nat}, s₁.heap.get? b = some o → o.data = .dict es ep → H b = none := fun {b o es ep} e d => by
   cases q : H b with
   | none => rfl
   | some u =>
    have e' : b = a := hA b (by rw [q]; simp)
    subst e'
    rw [ha] at e; cases e
    have d' : Data.seq vs.toArray _ = Data.dict es ep := d
    cases d'
  have nsK : ∀ {b : Addr} {m : Str → Option Value}, s₁.heap.Ns b m → (hidT s₁.heap H).Ns b m := fun {b m} ⟨o, es, ep, e, d, r⟩ => ⟨o, es, ep, base_of e (noA e d), d, r⟩
  have hKb : K.In (hidT s₁.heap H) := fun b o e => base_of (KX b o e) (by
   cases q : H b with
   | none => rfl
   | some u =>
    have e' : b = a := hA b (by rw [q]; simp)
    subst e'
    rw [hK (by rw [q]; simp)] at e; cases e)
  have hM : Mod K mg (hidT s₁.heap H) := ⟨hKb, nsK hns, ⟨mb, nsK hb, hbb⟩, let ⟨mc, h1, h2⟩ := hlim; ⟨mc, nsK h1, h2⟩⟩
  have e0 : Env0 P w K mg (hidT s₁.heap H) callerA [] s₁ H := ⟨rfl, hM, fun b o e => of_hidT e, Nat.le_of_eq (hidT_size _ _), trivial, fun b hb => absurd (show b ∈ ([] : List Addr) from hb) (by simp), hok, .of_eq hg⟩
  refine codeAny_mono ((F _ hKb (nsK hns)).run callerA [] s₁ H ⟨[.ref a], []⟩ [.ref a] [.ref a] _ _ hr e0 (hbind s₁ (.ref a)) (.cons rfl .nil) (hsp H hO hS)) fun r s' h => ?_
  cases r with
  | error e => exact (hCX H e s' h).elim
  | ok fl =>
   cases fl with
   | next => exact False.elim h
   | brk => exact False.elim h
   | cont => exact False.elim h
   | ret u =>
    obtain ⟨v, H', os, bare, un, hok', r', q⟩ := h
    have q' : v = .bl true := q
    subst q'
    obtain rfl : u = Value.bool true := r'
    refine ⟨rfl, OldK.of_keep fun b o e => ?_, os, bare⟩
    cases q : H b with
    | none => exact un.keep b o e q (by intro z; exact absurd (show b ∈ ([] : List Addr) from z) (by simp)) (by simp)
    | some u =>
     rcases hO b with z | ⟨ob, xs, z⟩
     · rw [q] at z; cases z
     · have z2 := un.frzs b ob _ z
       obtain ⟨e1, _⟩ := hok b _ z
       obtain ⟨e2, _⟩ := hok' b _ z2
       rw [e] at e1; cases e1
       exact e2
 cases hk : K.lookup a with
 | some o =>
  -- the script is one of the module's own objects
  have e := KX a o hk
  rw [ha] at e
  cases e
  refine core (fun _ => none) (fun _ => .inl rfl) (.inr ⟨_, vs.toArray, _, hk, rfl, rfl, rfl, by rw [List.size_toArray, lenV]; exact hl, by simpa using rv⟩) (fun b u z => by have z' : (none : Option HO) = some u := z; cases z') (fun b z => absurd rfl z) fun z => absurd rfl z
 | none =>
  refine core (fun b => if b = a then some (.frz { cls := .type "list", data := .seq vs.toArray } (.lst (ns.map V.int))) else none) (fun b => ?_) (.inl (.inr ⟨{ cls := .type "list", data := .seq vs.toArray }, if_pos rfl⟩)) (fun b u z => ?_) (fun b z => ?_) fun _ => hk
  · by_cases hb : b = a
    · exact .inr ⟨_, _, if_pos hb⟩
    · exact .inl (if_neg hb)
  · by_cases hb : b = a
    · have z' := (if_pos hb).symm.trans z
      cases z'
      subst hb
      exact ⟨ha, by rw [List.length_map]; exact hl, vs, _, rv, ha⟩
    · have z' := (if_neg hb).symm.trans z
      cases z'
  · by_cases hb : b = a
    · exact hb
    · exact absurd (if_neg hb) z
theorem walk_of {l : PySem.W.OpenLaw} {n k : Nat} {q : Program} {loose : List Str} {XP : (Str → Option Value) → Heap → Prop} {YP : World → Heap → Prop} {d : DefRec} {K : Params → PySem.W.Frag} {CX : World → CXT} {sp : World → Sp} {x : Str}
 (hn : l.most = some n) (hn2 : n ≤ sizeLine) (hdf : d.params.defaults = []) (hr : Room k callerA)
 (hY : ∀ (w : World) (h : Heap), YP w h → (K w.params).In h)
 (F : ∀ (w : World) (mg : Str → Option Value) (fa : Addr) (h : Heap), (K w.params).In h → h.Ns mainGlobals mg → mg d.name = some (.ref fa) →
  ∃ fd : FuncData, (∀ (s : Shared) (u : Value), BindsTo s fd ⟨[u], []⟩ [(x, u)]) ∧
   ∀ base : Heap, (K w.params).In base → base.Ns mainGlobals mg → FnOk l.prog w (K w.params) mg base (CX w) k fa fd [x] (sp w))
 (hsp : ∀ (w : World) (H : Hp) (a : Addr) (ns : List Int), ns.length ≤ n → Only H → SqL (K w.params) H a (ns.map V.int) → sp w [.ref a] H (fun v _ => v = .bl true) fun _ _ _ => False)
 (hCX : ∀ (w : World) (H : Hp) (s : Shared) (e : Value) (s' : Shared), CX w [] H s (fun _ _ _ => False) e s' → False) :
 PySem.W.WalkO q loose XP YP l.row.toRowW d [] (fun f vs => PySem.call f vs) := by
 refine Att.attach_call hn hdf fun w s₀ s₁ mg mb fa o pm cd doc a vs ns G Y ho hd hcd hmg hobj hints hlen hg => ?_
 have KX := hY w _ Y
 obtain ⟨fd, hb, hF⟩ := F w mg fa _ KX G.T.g hmg
 exact law_call KX G.T.g G.T.b G.T.builtins G.T.nolimit hg hobj hints (Nat.le_trans hlen hn2) hr hF hb (fun H hO hS => hsp w H a ns hlen hO hS) fun H e s' => hCX w H s₁ e s'
def defArgs (s : Stmt) : Arguments := match s with
 | .FunctionDef _ a _ _ _ _ _ _ _ _ => a
 | _ => { posonlyargs := [], args := [], vararg := none, kwonlyargs := [], kw_defaults := [], kwarg := none, defaults := [] }
def defBody (s : Stmt) : List Stmt := match s with
 | .FunctionDef _ _ b _ _ _ _ _ _ _ => b
 | _ => []
def defScope (s : Stmt) : Scope := match s with
 | .FunctionDef _ _ _ _ _ _ sc _ _ _ => sc
 | _ => { kind := .function, names := [], isGenerator := false, isCoroutine := false }
abbrev CX0 : CXT := fun _ _ _ _ _ _ => False
abbrev E0 : XK := fun _ _ _ => False
theorem pass0 : Passes CX0 X E0 := fun _ _ _ _ _ _ _ h => h.elim
structure Fun (K : PySem.W.Frag) (x qual : Str) (st : Stmt) (f : Addr) (fd : FuncData) : Prop where
 ex : ∃ (oc : Value) (od : Option Addr) (kV doc pm : Value) (an : Option Addr) (cdv ct : Value) (osl : Array (Option Value)),
  fd = PySem.W.fnOf x qual (defArgs st) (defBody st) (defScope st) .none kV doc pm an cdv ct ∧ K.lookup f = some ⟨oc, od, .func fd, osl⟩ ∧ PySem.W.codeIn K cdv qual = true
 kp : PySem.W.keepIn K (.ref f) = true
section
variable {K : PySem.W.Frag}
theorem Fun.ok {x qual : Str} {st : Stmt} {f : Addr} {fd : FuncData} {N ps : List Str} {k : Nat} {sp : Sp} (F : Fun K x qual st f fd) (S : FnScope N ps (defScope st)) (len : ∀ vs H Q E, sp vs H Q E → vs.length = ps.length)
 (hbody : ∀ (cdv : Value) (A : Around) (outer : List Env) (s : Shared) (H : Hp) (vs : List V) (Q : VK) (E : XK), Room k (A.deeper (envOfC qual (defScope st) s.heap.objs.size f cdv)) → sp vs H Q E →
  ∃ t, PSs (cxOf CX0 P w K mg base N qual (defScope st) f cdv A outer s H E).nox (defBody st) t ∧ t { nx := fun _ H' => Q .non H', rt := Q } (start N vs) H) : FnOk P w K mg base CX0 (k + 1) f fd ps sp := by
 obtain ⟨oc, od, kV, doc, pm, an, cdv, ct, osl, rfl, lk, hcd⟩ := F.ex
 refine fn_of lk hcd S len fun A outer s H vs Q E hr hsp => ?_
 obtain ⟨t, h, q⟩ := hbody cdv A outer s H vs Q E hr hsp
 exact ⟨t, h.nox, q⟩
theorem Fun.binds {x qual : Str} {st : Stmt} {f : Addr} {fd : FuncData} {ps : List Str} (F : Fun K x qual st f fd)
 (h : ∀ (kV doc pm : Value) (an : Option Addr) (cdv ct : Value) (us : List Value), us.length = ps.length → bindArgs (PySem.W.fnOf x qual (defArgs st) (defBody st) (defScope st) .none kV doc pm an cdv ct) ⟨us, []⟩ = pure (ps.zip us)) : Binds K fd ps [] := by
 obtain ⟨oc, od, kV, doc, pm, an, cdv, ct, osl, rfl, lk, hcd⟩ := F.ex
 exact .all (h kV doc pm an cdv ct)
theorem fun_mk {st : Stmt} {kV doc pm cdv ct : Value} (l : K.lookup f = some ⟨oc, od, .func (PySem.W.fnOf x qual (defArgs st) (defBody st) (defScope st) .none kV doc pm an cdv ct), osl⟩)
 (c : PySem.W.codeIn K cdv qual = true) (k : PySem.W.keepIn K (.ref f) = true) : Fun K x qual st f (PySem.W.fnOf x qual (defArgs st) (defBody st) (defScope st) .none kV doc pm an cdv ct) := ⟨⟨oc, od, kV, doc, pm, an, cdv, ct, osl, rfl, l, c⟩, k⟩
end
theorem iteF {A B : Prop} (h : B) : if false = true then A else B := by simp_all
theorem iteT {A B : Prop} (h : A) : if true = true then A else B := by simp_all
theorem ite2 {c A B : Prop} [Decidable c] (h1 : c → A) (h2 : ¬ c → B) : if c then A else B := by simp_all
def Same (H H' : Hp) : Prop := ∀ b o, H b = some o → H' b = some o
theorem Same.refl (H : Hp) : Same H H := fun _ _ h => h
theorem Same.trans (a : Same H H1) (b : Same H1 H2) : Same H H2 := fun c o h => b c o (a c o h)
theorem Same.seq {K : PySem.W.Frag} (e : Same H H') (h : SqL K H a xs) : SqL K H' a xs := by
 rcases h with (h | ⟨o, h⟩) | h
 · exact .inl (.inl (e _ _ h))
 · exact .inl (.inr ⟨o, e _ _ h⟩)
 · exact .inr h
section
variable {κ : Type} [DecidableEq κ]
def valV (kvs : List (κ × V)) (k : κ) : Option V := (kvs.find? fun kv => decide (kv.1 = k)).map (·.2)
def putK (kvs : List (κ × V)) (k : κ) (v : V) : List (κ × V) :=
 if (kvs.any fun kv => decide (kv.1 = k)) = true then kvs.map (fun kv => if kv.1 = k then (kv.1, v) else kv) else kvs ++ [(k, v)]
theorem valV_pos {k : κ} (e : p.1 = k) : valV (p :: r) k = some p.2 := by simp [valV, List.find?_cons, e]
theorem valV_neg {k : κ} (e : ¬ p.1 = k) : valV (p :: r) k = valV r k := by simp [valV, List.find?_cons, e]
theorem valV_any (k : κ) : ∀ kvs : List (κ × V), (kvs.any fun kv => decide (kv.1 = k)) = (valV kvs k).isSome
 | [] => rfl
 | p :: r => by
  rw [List.any_cons]
  by_cases e : p.1 = k
  · simp only [valV_pos e, decide_eq_true e, Bool.true_or, Option.isSome_some]
  · rw [valV_neg e, decide_eq_false e, Bool.false_or]; exact valV_any k r
theorem length_putK (kvs : List (κ × V)) (k : κ) (v : V) : (putK kvs k v).length ≤ kvs.length + 1 := by
 unfold putK
 grind
theorem RelO.isSome_eq (r : RelO o u) : o.isSome = u.isSome := by
 cases o with
 | none => cases u with
  | none => rfl
  | some _ => exact (r).elim
 | some _ => cases u with
  | none => exact (r).elim
  | some _ => rfl
theorem RelO.getD (r : RelO o u) (rd : RelV d d') : RelV (o.getD d) (u.getD d') := by
 cases o with
 | none => cases u with
  | none => exact rd
  | some _ => exact (r).elim
 | some _ => cases u with
  | none => exact (r).elim
  | some _ => exact r
theorem KV.val {kvs : List (κ × V)} {vs : List (κ × Value)} (r : KV kvs vs) (k : κ) : RelO (valV kvs k) (valueAt vs k) := by
 unfold KV at r
 induction r with
 | nil => exact True.intro
 | @cons p q ps qs h t ih =>
  obtain ⟨h1, h2⟩ := h
  by_cases e : p.1 = k
  · have e' : q.1 = k := h1.symm.trans e
    have b : valueAt (q :: qs) k = some q.2 := by simp [valueAt, List.find?_cons, e']
    rw [valV_pos e, b]; exact h2
  · have e' : ¬ q.1 = k := fun z => e (h1.trans z)
    have b : valueAt (q :: qs) k = valueAt qs k := by simp [valueAt, List.find?_cons, e']
    rw [valV_neg e, b]; exact ih
theorem KV.any (r : KV kvs vs) (k : κ) : (kvs.any fun kv => decide (kv.1 = k)) = vs.any fun kv => decide (kv.1 = k) := by
 induction r with
 | nil => rfl
 | cons h t ih => simp_all
theorem KV.repl (r : KV kvs vs) (k : κ) (ry : RelV y u) :
 KV (kvs.map fun kv => if kv.1 = k then (kv.1, y) else kv) (vs.map fun kv => if kv.1 = k then (kv.1, u) else kv) := by
 induction r with
 | nil => exact .nil
 | @cons p q ps qs h t ih =>
  refine .cons ?_ ih
  by_cases e : p.1 = k
  · simp_all
  simp_all
theorem KV.put (r : KV kvs vs) (k : κ) (ry : RelV y u) : KV (putK kvs k y) (stored vs k u) := by
 unfold putK stored
 rw [r.any k]
 by_cases e : (vs.any fun kv => decide (kv.1 = k)) = true
 · rw [if_pos e, if_pos e]; exact r.repl k ry
 · rw [if_neg e, if_neg e]; exact Paired.snoc r ⟨rfl, ry⟩
theorem KV.length {kvs : List (κ × V)} (r : KV kvs vs) : kvs.length = vs.length := Paired.length r
end
theorem kV_is (r : RelV (kV k) u) : (mixKind P w).is k u = true := by
 cases k with
 | inl i => obtain ⟨t, e⟩ := (r); subst e; exact mixKind_int P w i t
 | inr x => obtain ⟨t, e⟩ := (r); subst e; exact mixKind_str P w x t
theorem items_are : ∀ {ks : List Key} {us : List Value}, Vals (ks.map kV) us → ItemsAre (mixKind P w) ks us
 | [], _, r => by cases r; exact .nil
 | k :: ks, _, r => by
  cases r with
  | cons h t => exact .cons (kV_is h) (items_are t)
abbrev KT (H : Hp) : List (List Key × V) → List (List Key × Addr × Value) → Prop := Paired fun p q => p.1 = q.1 ∧ H q.2.1 = some (.tup (p.1.map kV)) ∧ RelV p.2 q.2.2
theorem KT.val (r : KT H kvs xs) (k : List Key) : RelO (valV kvs k) ((atKey xs k).map (·.2)) := by
 induction r with
 | nil => exact True.intro
 | @cons p q ps qs h t ih =>
  obtain ⟨h1, _, h2⟩ := h
  by_cases e : p.1 = k
  · have e' := h1.symm.trans e
    have b : atKey (q :: qs) k = some q.2 := by simp [atKey, List.find?_cons, e']
    rw [valV_pos e, b]; exact h2
  · have e' : ¬ q.1 = k := fun z => e (h1.trans z)
    have b : atKey (q :: qs) k = atKey qs k := by simp [atKey, List.find?_cons, e']
    rw [valV_neg e, b]; omega
theorem KT.repl (r : KT H kvs xs) (k : List Key) (ry : RelV y u) :
 KT H (kvs.map fun kv => if kv.1 = k then (kv.1, y) else kv) (xs.map (putAt k u)) := by
 induction r with
 | nil => exact .nil
 | @cons p q ps qs h t ih =>
  rw [List.map_cons, List.map_cons]
  refine .cons ?_ ih
  obtain ⟨h1, h2, h3⟩ := h
  unfold putAt
  by_cases e : p.1 = k
  · rw [if_pos e, if_pos (h1.symm.trans e)]; exact ⟨h1, h2, ry⟩
  · rw [if_neg e, if_neg (fun z => e (h1.trans z))]; simp_all
theorem KT.put (r : KT H kvs xs) (k : List Key) (hb : H b = some (.tup (k.map kV))) (ry : RelV y u) :
 KT H (putK kvs k y) (storedH xs k b u) := by
 have e : (kvs.any fun kv => decide (kv.1 = k)) = (atKey xs k).isSome := by
  rw [valV_any, (r.val k).isSome_eq, Option.isSome_map]
 unfold putK storedH
 rw [e]
 by_cases q : (atKey xs k).isSome = true
 · rw [if_pos q, if_pos q]; exact r.repl k ry
 · rw [if_neg q, if_neg q]; exact Paired.snoc r ⟨rfl, hb, ry⟩
theorem KT.keeps (r : KT H kvs xs) (ht : ∀ b ys, H b = some (.tup ys) → H' b = some (.tup ys)) : KT H' kvs xs :=
 Paired.mapP r fun _ _ z => ⟨z.1, ht _ _ z.2.1, z.2.2⟩
section
theorem rd_of (ok : HOk P w H h) (e : Rd H a u) : ObjOk P w H h a u := e.ok ok
theorem dk_rd (ok : HOk P w H h) (e : Rd H a (.dK kvs)) : kvs.length ≤ sizeLine ∧ (a == sysModules) = false ∧ ∃ vs, KV kvs vs ∧ h.DictOf (mixKind P w) a vs :=
 rd_of ok e
theorem dk_of (ok : HOk P w H h) (e : H a = some (.dK kvs)) : kvs.length ≤ sizeLine ∧ (a == sysModules) = false ∧ ∃ vs, KV kvs vs ∧ h.DictOf (mixKind P w) a vs := dk_rd ok (.inl e)
theorem key_of {ks : List Key} (ok : HOk P w H h) (e : H a = some (.tup (ks.map kV))) : (tupleKind (mixKind P w)).is h ks a := by
 obtain ⟨_, its, r, o, h1, h2, _, n, h3⟩ := (show ObjOk P w H h a (.tup (ks.map kV)) from ok a _ e)
 exact ⟨o, its.toArray, n, h1, h2, h3, by simpa using items_are r⟩
theorem dt_rd (ok : HOk P w H h) (e : Rd H a (.dT kvs)) : kvs.length ≤ sizeLine ∧ (a == sysModules) = false ∧
 ∃ xs, KT H kvs xs ∧ h.DictOfH (tupleKind (mixKind P w)) a xs := by
 obtain ⟨z, y, xs, r, o, es, ep, h1, h2, h3, h4, h5⟩ := (rd_of ok e)
 refine ⟨z, y, xs, r, o, es, ep, h1, h2, h3, h4, fun x hx => ?_, h5⟩
 have all : ∀ {l : List _} {m : List _}, KT H l m → ∀ x ∈ m, (tupleKind (mixKind P w)).is h x.1 x.2.1 := by
  intro l m q
  induction q with
  | nil => simp
  | @cons p q ps qs hq t ih =>
   intro x hx
   rcases List.mem_cons.mp hx with e | hx
   · subst e
     exact key_of ok (by grind)
   · exact ih x hx
 exact all r x hx
theorem dt_of (ok : HOk P w H h) (e : H a = some (.dT kvs)) : kvs.length ≤ sizeLine ∧ (a == sysModules) = false ∧
 ∃ xs, KT H kvs xs ∧ h.DictOfH (tupleKind (mixKind P w)) a xs := dt_rd ok (.inl e)
end
def DGet (H : Hp) (a : Addr) (y : V) (r : Option V) : Prop :=
 (∃ kvs k, Rd H a (.dK kvs) ∧ y = kV k ∧ r = valV kvs k) ∨ ∃ kvs k b, Rd H a (.dT kvs) ∧ y = .ref b ∧ H b = some (.tup (k.map kV)) ∧ r = valV kvs k
def DPut (H : Hp) (a : Addr) (y v : V) (H' : Hp) : Prop :=
 (∃ kvs k, H a = some (.dK kvs) ∧ y = kV k ∧ kvs.length < sizeLine ∧ H' = upd H a (.dK (putK kvs k v))) ∨
 ∃ kvs k b, H a = some (.dT kvs) ∧ y = .ref b ∧ H b = some (.tup (k.map kV)) ∧ kvs.length < sizeLine ∧ H' = upd H a (.dT (putK kvs k v))
theorem DGet.k {k : Key} (e : H a = some (.dK kvs)) : DGet H a (kV k) (valV kvs k) := .inl ⟨kvs, k, .inl e, rfl, rfl⟩
theorem DPut.k {k : Key} (e : H a = some (.dK kvs)) (hl : kvs.length < sizeLine) : DPut H a (kV k) v (upd H a (.dK (putK kvs k v))) := .inl ⟨kvs, k, e, rfl, hl, rfl⟩
section
variable {σ : St}
theorem Inv.big (I : Inv X pins σ H s) : sysModules < s.heap.objs.size := by
 have h := (I.mod.glob.keeps I.bk).lt
 exact Nat.lt_trans (by decide) h
theorem d_getItem {Q : Value → Shared → Prop} (hu : A.units + 1 < cLine) (I : Inv X pins σ H s) (g : DGet H a y (some v)) (ry : RelV y u) (h : ∀ w' s', Inv X pins σ H s' → RelV v w' → Q w' s') :
 wpAny (model X.prog X.w) A (getItem (.ref a) u) Q E s := by
 rcases g with ⟨kvs, k, e, ey, l⟩ | ⟨kvs, k, b, e, ey, eb, l⟩
 · subst ey
   obtain ⟨z, hd, vs, rel, dd⟩ := dk_rd I.hok e
   obtain ⟨w', hw, rw'⟩ := RelO.some_of (v := v) (o := valueAt vs k) (by rw [l]; exact rel.val k)
   exact wpAny_getItem_of (kV_is ry) dd.mapOf hw (h w' _ (I.tok _) rw')
 · subst ey
   cases (show u = Value.ref b from ry)
   obtain ⟨z, hd, xs, rel, dd⟩ := dt_rd I.hok e
   obtain ⟨w', hw, rw'⟩ := RelO.some_of (v := v) (o := (atKey xs k).map (·.2)) (by rw [l]; exact rel.val k)
   obtain ⟨p, hp, hp2⟩ := Option.map_eq_some_iff.mp hw
   refine wpAny_getItem_heap (tupleKind_room_in1 hu) (key_of I.hok eb) dd hp ?_
   rw [hp2]
   exact h w' _ (I.tok _) rw'
theorem d_write {h' : Heap} {t' : Nat} {ob : HO} (I : Inv X pins σ H s) (mu : Mut (H a)) (hs : Heap.SameBut a s.heap h') (he : ∃ q, h'.get? a = some q) (new : ObjOk X.prog X.w (upd H a ob) h' a ob) :
 Inv X pins σ (upd H a ob) { s with heap := h', toks := t' } :=
 I.write (x := a) (e := a) mu (.inl rfl) (fun b q hb z => (hs.2 b hb).trans z) he new
theorem dk_new (z : kvs.length ≤ sizeLine) (hd : (a == sysModules) = false) (rel : KV kvs vs) (dd : h'.DictOf (mixKind P w) a vs) :
 ObjOk P w H' h' a (.dK kvs) := ⟨z, hd, vs, rel, dd⟩
theorem d_setItem {H' : Hp} {Q : Unit → Shared → Prop} (hu : A.units + 1 < cLine) (I : Inv X pins σ H s) (g : DPut H a y v H') (ry : RelV y u) (rv : RelV v r) (h : ∀ s', Inv X pins σ H' s' → Q () s') :
 wpAny (model X.prog X.w) A (setItem (.ref a) u r) Q E s := by
 rcases g with ⟨kvs, k, e, ey, l, eH⟩ | ⟨kvs, k, b, e, ey, eb, l, eH⟩
 · subst ey eH
   obtain ⟨z, hd, vs, rel, dd⟩ := dk_of I.hok e
   have hz : vs.length ≤ sizeLine := by rw [← rel.length]; exact z
   have hl : (putK kvs k v).length ≤ sizeLine := by have := length_putK kvs k v; omega
   refine wpAny_setItem_pairs (hsz := hz) (kV_is ry) dd fun h' dd' hs => h _ ?_
   have he : ∃ q, h'.get? a = some q := let ⟨q, _, _, hq, _⟩ := dd'; ⟨q, hq⟩
   exact d_write I (by rw [e]; exact True.intro) hs he (dk_new hl hd (rel.put k rv) dd')
 · subst ey eH
   cases (show u = Value.ref b from ry)
   obtain ⟨z, hd, xs, rel, dd⟩ := dt_of I.hok e
   have hz : xs.length ≤ sizeLine := by rw [← Paired.length rel]; exact z
   have hl : (putK kvs k v).length ≤ sizeLine := by have := length_putK kvs k v; omega
   refine wpAny_setItem_heap (hsz := hz) (tupleKind_room_in1 hu) (key_of I.hok eb) dd fun h' dd' hs => h _ ?_
   obtain ⟨q, es, ep, hq, h2, h3, h4, _, h5⟩ := dd'
   refine d_write I (by rw [e]; exact True.intro) hs ⟨q, hq⟩ ⟨hl, hd, _, (rel.put k eb rv).keeps fun c ys ec => ?_, q, es, ep, hq, h2, h3, h4, h5⟩
   rw [upd_ne (ne_of ec e (fun z => nomatch z))]
   exact ec
end
def NoSl (i : Expr) : Prop := ∀ ov iv, subscripted i false ov iv = operate [ov, iv] (getItem ov iv)
theorem subD_of {w : World} {A : Around} {s : Shared} {env : Env} {pos : Pos} {T id : String}
 (hl : typeLookup (.type T) "__getitem__" = pure (some (.builtin id))) (hs : NoSl slice)
 (h : wpAny (model prog w) A (eval value env) (fun o s₁ => wpAny (model prog w) A (eval slice env) (fun i s₂ => s₂.TypeIs o T ∧ wpAny (model prog w) A (getItem o i) Q E s₂) E s₁) E s) :
 wpAny (model prog w) A (eval (.Subscript value slice pos) env) Q E s := by
 refine Subscript_ (wpAny_mono h (fun o s₁ h₁ => wpAny_mono h₁ (fun i s₂ h₂ => ?_) fun _ _ x => x) fun _ _ x => x)
 obtain ⟨hT, h₂⟩ := h₂
 refine wpAny_bind ?_
 refine wpAny_bind (wpAny_specialOf hT hl ?_)
 have fin : wpAny (model prog w) A (subscripted slice false o i) (fun r s₃ => wpAny (model prog w) A (letTemporaryGo value o r >>= fun _ => pure r) Q E s₃) E s₂ := by
  rw [hs o i]
  exact wpAny_operating (wpAny_mono h₂ (fun r s₃ h₃ => wpAny_bind (wpAny_letTemporaryGo (wpAny_pure h₃))) fun _ _ x => x)
 first
  | exact wpAny_pure (wpAny_bind fin)
  | rfl
  | exact wpAny_bind fin
theorem dict_typeIs {σ : St} (I : Inv X pins σ H s) (g : DGet H a y o) : s.TypeIs (.ref a) "dict" := by
 rcases g with ⟨kvs, k, e, _, _⟩ | ⟨kvs, k, b, e, _, _, _⟩
 · obtain ⟨_, _, vs, _, dd⟩ := dk_rd I.hok e
   exact dd.typeIs
 · obtain ⟨_, _, xs, _, dd⟩ := dt_rd I.hok e
   exact dd.typeIs
def tDGet (td ty : TE) : TE := fun σ H Q => td σ H fun x H1 => ty σ H1 fun y H2 => ∃ a v, x = .ref a ∧ DGet H2 a y (some v) ∧ Q v H2
def sDPut (td ty tv : TE) : TS := fun D σ H => tv σ H fun v H1 => td σ H1 fun x H2 => ty σ H2 fun y H3 => ∃ a H4, x = .ref a ∧ DPut H3 a y v H4 ∧ D.nx σ H4
section
theorem pe_dget (hu : X.A.units + 1 < cLine) (ho : PE X o td) (hi : PE X i ty) (hs : NoSl i) : PE X (.Subscript o i pos) (tDGet td ty) := by
 intro pins s σ H Q I h
 refine subD_of PySem.F.slot_dict_getitem.lookup hs (thn (ho pins s σ H _ I h) fun u s1 ⟨x, H1, I1, rx, q1⟩ => thn (hi pins s1 σ H1 _ I1 q1) fun iv s2 ⟨y, H2, I2, ry, a, v, ex, g, q2⟩ => ?_)
 subst ex
 obtain rfl : u = Value.ref a := rx
 exact ⟨dict_typeIs I2 g, d_getItem hu I2 g ry fun w' s3 I3 rw' => ⟨v, H2, I3, rw', q2⟩⟩
theorem ps_dput (hu : X.A.units + 1 < cLine) (ho : PE X o td) (hi : PE X i ty) (hv : PE X value tv) (hs : swapsWith value (some (.Subscript o i pos')) pos.line X.env = pure false) :
 PS X (.Assign [.Subscript o i pos'] value pos) (sDPut td ty tv) := by
 intro pins s σ H D I h
 refine wpAny_Assign_Subscript (thn (hv pins s σ H _ I h) fun r s1 ⟨v, H1, I1, rv, q1⟩ => thn (ho pins s1 σ H1 _ I1 q1) fun u s2 ⟨x, H2, I2, rx, q2⟩ => thn (hi pins s2 σ H2 _ I2 q2) fun iv s3 ⟨y, H3, I3, ry, a, H4, ex, g, q3⟩ => ?_) hs
 subst ex
 obtain rfl : u = Value.ref a := rx
 exact d_setItem hu I3 g ry rv fun s4 I4 => ⟨σ, H4, I4, q3⟩
end
theorem dk_empty (h : Heap) (hb : sysModules < h.objs.size) : ObjOk P w H (h.push { cls := .type "dict", data := .dict #[] }) h.objs.size (.dK []) :=
 ⟨Nat.zero_le _, beq_eq_false_iff_ne.mpr (Ne.symm (Nat.ne_of_lt hb)), [], .nil, Heap.DictOf.new h⟩
def tDNewK : TE := fun _ H Q => ∀ p, H p = none → Q (.ref p) (upd H p (.dK []))
section
theorem pe_dnewK : PE X (.Dict [] [] pos) tDNewK := fun pins s σ H Q I h =>
 wpAny_Dict_empty ⟨.ref s.heap.objs.size, _, I.laid (fun _ _ q => Heap.get?_push_of_some _ q) (Nat.le_refl _) (dk_empty s.heap I.big), rfl, h _ (I.hok.fresh (Nat.le_refl _))⟩
end
def mergeK (kvs more : List (Key × V)) : List (Key × V) := more.foldl (fun acc kv => putK acc kv.1 kv.2) kvs
theorem KV.merge : ∀ {more : List (Key × V)} {rs : List (Key × Value)} {kvs : List (Key × V)} {vs : List (Key × Value)}, KV more rs → KV kvs vs → KV (mergeK kvs more) (merged vs rs) := by
 intro more rs kvs vs r
 induction r generalizing kvs vs with
 | nil => intro q; exact q
 | @cons p q ps qs h t ih =>
  intro r0
  have e : KV (putK kvs p.1 p.2) (stored vs q.1 q.2) := by
   have := r0.put p.1 h.2
   simp_all
  exact ih e
theorem length_mergeK : ∀ (more kvs : List (Key × V)), (mergeK kvs more).length ≤ kvs.length + more.length
 | [], kvs => by show kvs.length ≤ kvs.length + 0; omega
 | p :: r, kvs => by
  have h1 := length_mergeK r (putK kvs p.1 p.2)
  have h2 := length_putK kvs p.1 p.2
  show (mergeK _ r).length ≤ _
  grind
structure M2 (X : Cx) (o : Expr) (m : Str) (apos : Pos) (e f : Expr) (cpos : Pos) : Prop where
 base : attributeBase o m X.env (eval o X.env) = eval o X.env
 few : ((backTo cpos (starEach [e, f] X.env)).all (fun x => !x.1) && (backToKw cpos (keywordEach [] X.env)).all (fun x => x.1.isSome)
  && decide (([e, f] : List Expr).length + ([] : List Keyword).length + (if ([] : List Keyword).isEmpty then 0 else 1) < 30)) = true
 line : (apos.endLine == cpos.line) = true
 trees : backTo cpos (starEach [e, f] X.env) = [(false, eval e X.env), (false, eval f X.env)]
def IsD (H : Hp) (a : Addr) : Prop := (∃ kvs, Rd H a (.dK kvs)) ∨ ∃ kvs, Rd H a (.dT kvs)
theorem isD_at {σ : St} (I : Inv X pins σ H s) (d : IsD H a) :
 s.TypeIs (.ref a) "dict" ∧ (∀ b, Value.ref a = .ref b → ∃ ob, s.heap.get? b = some ob ∧ ob.dict = none) ∧ (a == sysModules) = false := by
 rcases d with ⟨kvs, e⟩ | ⟨kvs, e⟩
 · obtain ⟨_, hd, vs, _, dd⟩ := dk_rd I.hok e
   refine ⟨dd.typeIs, fun b q => ?_, hd⟩
   cases q
   obtain ⟨ob, _, _, h1, h2, _⟩ := dd
   exact ⟨ob, h1, h2.2.1⟩
 · obtain ⟨_, hd, xs, _, dd⟩ := dt_rd I.hok e
   refine ⟨dd.typeIs, fun b q => ?_, hd⟩
   cases q
   obtain ⟨ob, _, _, h1, h2, _⟩ := dd
   exact ⟨ob, h1, h2.2.1⟩
section
variable {σ : St}
theorem d_get2 {Q : Value → Shared → Prop} (hu : A.units + 1 < cLine) (I : Inv X pins σ H s) (g : DGet H a y o) (ry : RelV y u) (rd : RelV d r) (h : ∀ w' s', Inv X pins σ H s' → RelV (o.getD d) w' → Q w' s') :
 wpAny (model X.prog X.w) A (call (.builtin "dict.get") [.ref a, u, r]) Q E s := by
 rcases g with ⟨kvs, k, e, ey, l⟩ | ⟨kvs, k, b, e, ey, eb, l⟩
 · subst ey
   obtain ⟨z, hd, vs, rel, dd⟩ := dk_rd I.hok e
   refine call_meetsIn PySem.F.slot_dict_get dd.typeIs PySem.F.entry_dict_get (PySem.F.args_dict_get_3 _ _ _) (meets_dict_get_default (mixKind X.prog X.w) a (kV_is ry) hd r) ⟨_, dd.mapOf, h _ _ (I.tok _) ?_⟩
   rw [l]
   exact (rel.val k).getD rd
 · subst ey
   cases (show u = Value.ref b from ry)
   obtain ⟨z, hd, xs, rel, dd⟩ := dt_rd I.hok e
   refine call_meetsIn PySem.F.slot_dict_get dd.typeIs PySem.F.entry_dict_get (PySem.F.args_dict_get_3 _ _ _) (meetsH_dict_get_default (tupleKind (mixKind X.prog X.w)) a b hd r) ⟨tupleKind_room_in1 hu, k, xs, key_of I.hok eb, dd, h _ _ (I.tok _) ?_⟩
   rw [l]
   exact (rel.val k).getD rd
end
def tDGet2 (td ty tx : TE) : TE := fun σ H Q => td σ H fun x H1 => ∃ a, x = .ref a ∧ IsD H1 a ∧ ty σ H1 fun y H2 => tx σ H2 fun z H3 => ∃ o, DGet H3 a y o ∧ Q (o.getD z) H3
section
theorem pe_dget2 (hu : X.A.units + 1 < cLine) (ho : PE X o td) (he : PE X e ty) (hf : PE X f tx) (m : M2 X o "get" apos e f cpos) : PE X (.Call (.Attribute o "get" apos) [e, f] [] cpos) (tDGet2 td ty tx) := by
 intro pins s σ H Q I h
 refine wpAny_Call_method m.base m.few m.line PySem.F.plainAttrs_dict PySem.F.slot_dict_get PySem.F.type_dict_get (thn (ho pins s σ H _ I h) fun u s1 ⟨x, H1, I1, rx, a, ex, d, q1⟩ => ?_)
 subst ex
 obtain rfl : u = Value.ref a := rx
 obtain ⟨t1, t2, _⟩ := isD_at I1 d
 refine ⟨t1, t2, ?_⟩
 rw [m.trees]
 refine Calls.callWith_builtin rfl (Calls.evalArgs_plain (Calls.spliced_cons (thn (he pins s1 σ H1 _ I1 q1) fun iv s2 ⟨y, H2, I2, ry, q2⟩ =>
  Calls.spliced_cons (thn (hf pins s2 σ H2 _ I2 q2) fun fv s3 ⟨z, H3, I3, rz, ov, g, q3⟩ => Calls.spliced_nil ?_))))
 exact d_get2 hu I3 g ry rz fun w' s4 I4 rw' => ⟨_, H3, I4, rw', q3⟩
end
end L2
set_option maxHeartbeats 4000000
namespace Br
open PySem PySem.Spec PyProof.Rows L2
structure Callee (CX : CXT) (P : Program) (w : World) (K : PySem.W.Frag) (mg : Str → Option Value) (base : Heap) (x : Str) (k : Nat) (ps : List Str) (sp : Sp) : Prop where
 ex : ∃ f fd, FnOk P w K mg base CX k f fd ps sp ∧ mg x = some (.ref f) ∧ PySem.W.keepIn K (.ref f) = true ∧ Binds K fd ps []
section
variable {p pos : Pos}
theorem pe_callS (c : Callee CX0 X.prog X.w X.K X.mg X.base x k ps sp) (hr : Room k X.A) (hg : Gl X x) (ha : PA X (e :: es) t) (hdb : (x == ("__debug__" : Str)) = false := by decide)
 (he : starEach (e :: es) X.env = (false, eval e X.env) :: starEach es X.env := by rfl) (hpl : (backTo pos (starEach es X.env)).any (·.1) = false := by rfl) :
 PE X (.Call (.Name x p) (e :: es) [] pos) (tCall sp [] E0 t) := by
 obtain ⟨f, fd, F, hm, hk, hb⟩ := c.ex
 exact pe_call F hr hg hm hk hb .nil pass0 ha hdb he hpl
end
section
def CDivB (i j : Int) : Prop := 0 < j ∧ j < 2 ^ 8000
theorem log2_of {y : Int} (h0 : 0 < y) (h1 : y < 2 ^ 8000) : y.natAbs.log2 < 9000 := by
 have h : y.natAbs < 2 ^ 8000 := by omega
 have h2 := (Nat.log2_lt (by omega)).mpr h
 omega
theorem op_fdivB : OpR X (binaryOp .FloorDiv) (rI CDivB fun i j => .int (i / j)) := opI fun i j _ _ _ _ _ hc q => by
 have e : i / j = i.fdiv j := (Int.fdiv_eq_ediv_of_nonneg _ (Int.le_of_lt hc.1)).symm
 rw [e] at q
 exact floordiv_int (Int.ne_of_gt hc.1) q (.inl (PyProof.noPylong_of_log2 (log2_of hc.1 hc.2)))
def CMulB (i j : Int) : Prop := i.natAbs < 2 ^ 8000 ∧ j.natAbs < 2 ^ 8000
theorem bits_of (h : i.natAbs < 2 ^ 8000) : Builtin.Int.intBits i ≤ 2 ^ 20 := Nat.le_trans (intBits_le h) (by decide)
end
inductive At : List Str → Nat → Str → Prop where
 | here {x : Str} {l : List Str} : At (x :: l) 0 x
 | there {x y : Str} {l : List Str} {i : Nat} : At l i x → At (y :: l) (i + 1) x
theorem At.get : ∀ {l : List Str} {i : Nat} {x : Str}, At l i x → l[i]? = some x
 | _, _, _, .here => rfl
 | _, _, _, .there h => by simpa using h.get
section
variable {x : Str}
theorem r_name (h : At X.N i x) (hk : X.env.scope.names.lookup x = some .local) (hd : (x == ("__debug__" : Str)) = false) (hcd : (x == ("__classdict__" : Str)) = false) : PE X (.Name x pos) (tVar i) := pe_var h.get (.inl hk) hd hcd
theorem r_bin (ho : OpR X (binaryOp op) r) (ha : PE X a ta) (hb : PE X b tb) : PE X (.BinOp a op b pos) (tOp r ta tb) := pe_op ho ha hb
theorem r_cmp (h1 : op ≠ .In) (h2 : op ≠ .NotIn) (ho : OpR X (compareOp op) r) (ha : PE X a ta) (hb : PE X b tb) : PE X (.Compare a [op] [b] pos) (tOp r ta tb) := pe_cmpR ho ha hb (nomark _ h1 h2)
theorem t_cmp (h1 : op ≠ .In) (h2 : op ≠ .NotIn) (ho : OpR X (compareOp op) r) (ha : PE X a ta) (hb : PE X b tb) : PT X (.Compare a [op] [b] pos) (tTest (tOp r ta tb)) := pt_cmpR ho ha hb (nomark _ h1 h2)
theorem r_neg (ha : PE X a ta) : PE X (.UnaryOp .USub a pos) (tUn (rU fun i => .int (-i)) ta) := pe_un un_neg ha
theorem t_call (h : PE X (.Call f es ks pos) te) : PT X (.Call f es ks pos) (tB te) := pt_val h (fun _ => rfl)
theorem r_ix (hs : PlainIx b) (ha : PE X a ta) (hb : PE X b tb) : PE X (.Subscript a b pos) (tOp (rIx X.K) ta tb) := pe_ix ix_seq ha hb hs
theorem r_acons (hs : starEach (e :: es) X.env = (false, eval e X.env) :: starEach es X.env) (ha : PE X e te) (hr : PA X es t) : PA X (e :: es) (tCons te t) := pa_cons ha hr hs
theorem r_call (c : Callee CX0 X.prog X.w X.K X.mg X.base x k ps sp) (hr : Room k X.A) (hg : Gl X x) (hdb : (x == ("__debug__" : Str)) = false)
 (he : starEach (e :: es) X.env = (false, eval e X.env) :: starEach es X.env) (hpl : (backTo pos (starEach es X.env)).any (·.1) = false) (ha : PA X (e :: es) t) : PE X (.Call (.Name x p) (e :: es) [] pos) (tCall sp [] E0 t) := pe_callS c hr hg ha hdb he hpl
def rLen (K : PySem.W.Frag) : List V → Hp → VK → Prop := fun xs H Q => (∃ p ys, xs = [.ref p] ∧ (SqL K H p ys ∨ SqT K H p ys) ∧ Q (.int ys.length) H) ∨ ∃ z, xs = [.str z] ∧ z.length ≤ sizeLine ∧ Q (.int z.length) H
theorem call_lenA : CallR X (.builtin "len") (rLen X.K) := by
 intro pins s σ H xs us Q I r h
 rcases h with h | h
 · exact call_len_seq pins s σ H xs us Q I r h
 · exact call_len_str pins s σ H xs us Q I r h
section
variable (hg : Gl X x) (he : starEach (e :: es) X.env = (false, eval e X.env) :: starEach es X.env) (hpl : (backTo pos (starEach es X.env)).any (·.1) = false)
include hg he hpl
theorem r_len (hx : x = "len") (hm : X.mg x = none) (ha : PA X (e :: es) t) : PE X (.Call (.Name x p) (e :: es) [] pos) (tCB (rLen X.K) t) := by subst hx; exact pe_callB call_lenA hg hm PySem.boot_len ha (by decide) (by decide) he hpl
theorem r_abs (hx : x = "abs") (hm : X.mg x = none) (ha : PA X (e :: es) t) : PE X (.Call (.Name x p) (e :: es) [] pos) (tCB (fun xs H Q => ∃ i, xs = [.int i] ∧ Q (.int (if i < 0 then -i else i)) H) t) := by subst hx; exact pe_callB call_abs hg hm boot_abs ha (by decide) (by decide) he hpl
theorem r_max (hx : x = "max") (hc : X.calm = true) (hm : X.mg x = none) (ha : PA X (e :: es) t) : PE X (.Call (.Name x p) (e :: es) [] pos) (tCB (fun xs H Q => ∃ i j, xs = [.int i, .int j] ∧ Q (.int (if j > i then j else i)) H) t) := by subst hx; exact pe_callB (call_max2 hc) hg hm boot_max ha (by decide) (by decide) he hpl
theorem r_min (hx : x = "min") (hc : X.calm = true) (hm : X.mg x = none) (ha : PA X (e :: es) t) : PE X (.Call (.Name x p) (e :: es) [] pos) (tCB (fun xs H Q => ∃ i j, xs = [.int i, .int j] ∧ Q (.int (if j < i then j else i)) H) t) := by subst hx; exact pe_callB (call_min2 hc) hg hm boot_min ha (by decide) (by decide) he hpl
theorem r_intc (hx : x = "int") (hm : X.mg x = none) (ha : PA X (e :: es) t) : PE X (.Call (.Name x p) (e :: es) [] pos) (tCB (fun xs H Q => (∃ i, xs = [.int i] ∧ Q (.int i) H) ∨ ∃ k, xs = [.bl k] ∧ Q (.int (if k then 1 else 0)) H) t) := by subst hx; exact pe_callTy call_int1 hg hm PyProof.Rows.boot_int ha (by decide) (by decide) he hpl
end
theorem r_ret (he : PE X e te) : PS X (.Return (some e) pos) (tRet te) := ps_ret he
theorem r_set (h : At X.N i x) (hN : X.N.Nodup) (hk : X.env.scope.names.lookup x = some .local) (hs : swapsWith e (some (.Name x p)) pos.line X.env = pure false) (he : PE X e te) : PS X (.Assign [.Name x p] e pos) (tAsg te (gName i)) :=
 ps_set hN h.get (.inl hk) he hs (.inr hk)
theorem r_expr (hs : swapsWith e none pos.line X.env = pure false) (he : PE X e te) : PS X (.Expr e pos) (tDrop te) := ps_expr he hs
theorem r_for {tb : TS} (hp : PassesOwn (model X.prog X.w) X.A X.env X.xe) (hc : X.calm = true) (hs : ∀ x, foldedSetIterable iter X.env x = pure x) (hi : PI X tg iter wi) (hg : PG X tg g) (hb : PSs X body tb) : PS X (.For tg iter body [] pos) (tFor wi g tb) := ps_for hp hc hi hg hb hs
theorem r_while {tb : TS} (hp : PassesOwn (model X.prog X.w) X.A X.env X.xe) (hc : PT X c tA) (hb : PSs X body tb) : PS X (.While c body [] pos) (tWhile tA tb) := ps_while hp hc hb
theorem r_gname (h : At X.N i x) (hN : X.N.Nodup) (hk : X.env.scope.names.lookup x = some .local) : PG X (.Name x pos) (gName i) := pg_name hN h.get (.inl hk) (.inr hk)
theorem r_irange1 (hx : x = "range") (hg : Gl X x) (hm : X.mg x = none) (hs : starEach [a] X.env = [(false, eval a X.env)]) (ha : PA X [a] t) : PI X tg (.Call (.Name x p) [a] [] pos) (iRng1 t) := by subst hx; exact pi_range1 hg hm ha hs
theorem r_irange2 (hx : x = "range") (hg : Gl X x) (hm : X.mg x = none) (hs : starEach [a, b] X.env = [(false, eval a X.env), (false, eval b X.env)]) (hs2 : starEach [b] X.env = [(false, eval b X.env)]) (ha : PA X [a, b] t) : PI X tg (.Call (.Name x p) [a, b] [] pos) (iRng2 t) := by subst hx; exact pi_range2 hg hm ha hs hs2
theorem r_append (hbase : attributeBase o "append" X.env (eval o X.env) = eval o X.env) (hfew : ((backTo cpos (starEach [e] X.env)).all (fun x => !x.1) && (backToKw cpos (keywordEach [] X.env)).all (fun x => x.1.isSome)
 && decide (([e] : List Expr).length + ([] : List Keyword).length + (if ([] : List Keyword).isEmpty then 0 else 1) < 30)) = true) (hline : (apos.endLine == cpos.line) = true) (hs : starEach [e] X.env = (false, eval e X.env) :: starEach [] X.env)
 (hpl : (backTo cpos (starEach [] X.env)).any (·.1) = false) (ho : PE X o to) (ha : PA X [e] t) : PE X (.Call (.Attribute o "append" apos) [e] [] cpos) (tBM X.K "list" rAppend to t) :=
 pe_bm PySem.F.plainAttrs_list PySem.F.slot_list_append PySem.F.type_list_append mt_append ho ha hbase hfew hline hs hpl
end
def tMid (t : TS) : TS := fun D σ H => ∃ M : L2.St → Hp → Prop, t { D with nx := M } σ H ∧ ∀ σ' H', M σ' H' → D.nx σ' H'
theorem ps_mid {st : Stmt} (h : PS X st t) : PS X st (tMid t) := by
 intro pins s σ H D I hq
 obtain ⟨M, h1, h2⟩ := hq
 refine thn (h pins s σ H { D with nx := M } I h1) fun f s1 q => ?_
 cases f with
 | next =>
  obtain ⟨σ', H', I', q⟩ := q
  exact ⟨σ', H', I', h2 _ _ q⟩
 | ret v => exact q
 | brk => exact q
 | cont => exact q
theorem r_ifM (hc : PT X c tA) (ha : PSs X aa t1) (hb : PSs X bb t2) : PS X (.If c aa bb pos) (tMid (tIfS tA t1 t2)) := ps_mid (ps_if hc ha hb)
theorem atI_mem {α : Type} {xs : List α} {i : Int} (h0 : 0 ≤ i) (h1 : i < xs.length) : ∃ v, v ∈ xs ∧ xs[i.toNat]? = some v ∧ atI xs i = some v := by
 have hl : i.toNat < xs.length := by omega
 have e : xs[i.toNat]? = some xs[i.toNat] := List.getElem?_eq_getElem hl
 have e2 := atI_nat e
 rw [Int.toNat_of_nonneg h0] at e2
 exact ⟨_, List.getElem_mem hl, e, e2⟩
theorem atI_ints {zs : List Int} {i : Int} (h0 : 0 ≤ i) (h1 : i < zs.length) : ∃ z, z ∈ zs ∧ zs[i.toNat]? = some z ∧ atI (zs.map V.int) i = some (V.int z) := by
 have e1 : (zs.map V.int)[i.toNat]? = some (V.int zs[i.toNat]) := by simp
 have e2 := atI_nat e1
 rw [Int.toNat_of_nonneg h0] at e2
 simp_all
theorem Same.upd (h : H p = none) : L2.Same H (upd H p o) := fun b u e => by rw [upd_ne (ne_of_none e h)]; omega
theorem lenLe {xs : List V} (h : xs.length = n) (h2 : n ≤ 1000) : xs.length ≤ sizeLine := by rw [h]; exact Nat.le_trans h2 (by decide)
theorem lt250 (h : n < 2 ^ 250) : n < 2 ^ 8000 := Nat.lt_of_lt_of_le h (Nat.pow_le_pow_right (by decide) (by decide))
theorem ilt250 {n : Int} (h : n < 2 ^ 250) : n < 2 ^ 8000 := by
 exact Int.lt_of_lt_of_le h (Int.ofNat_le.mpr (Nat.pow_le_pow_right (by decide) (by decide)))
theorem mulB (h1 : i.natAbs < 2 ^ 250) (h2 : j.natAbs < 2 ^ 250) : CMulB i j := ⟨lt250 h1, lt250 h2⟩
theorem divB (h1 : 0 < j) (h2 : j < 2 ^ 250) : CDivB i j := ⟨h1, ilt250 h2⟩
section
theorem op_isnotB : OpR X (compareOp .IsNot) (fun x y H Q => ∃ a b : Bool, x = .bl a ∧ y = .bl b ∧ Q (.bl (!decide (a = b))) H) := by
 intro pins s σ H x y v u Q I rx ry h
 obtain ⟨a, b, rfl, rfl, q⟩ := h
 cases rx
 cases ry
 exact wpAny_isNot_plain rfl (fin_bl I q (by cases a <;> cases b <;> rfl))
theorem r_unpack2 (hi : At X.N i x) (hj : At X.N j y) (hc : X.calm = true) (hN : X.N.Nodup) (hx : X.env.scope.names.lookup x = some .local) (hy : X.env.scope.names.lookup y = some .local)
 (h1 : (assignEach [.Name x px, .Name y py] X.env).map (·.2) = assign (.Name x px) X.env :: (assignEach [.Name y py] X.env).map (·.2))
 (h2 : (assignEach [.Name y py] X.env).map (·.2) = assign (.Name y py) X.env :: (assignEach [] X.env).map (·.2))
 (hn : (assignEach [.Name x px, .Name y py] X.env).length = 2) (hst : (assignEach [.Name x px, .Name y py] X.env).findIdx? (·.1) = none)
 (hs : swapsWithSole [.Tuple [.Name x px, .Name y py] kt pt] e pos.line X.env = pure false) (hw : swappedStores [.Tuple [.Name x px, .Name y py] kt pt] e X.env = pure none)
 (h3 : (assignEach [.Tuple [.Name x px, .Name y py] kt pt] X.env).map (·.2) = [assign (.Tuple [.Name x px, .Name y py] kt pt) X.env]) (he : PE X e te) :
 PS X (.Assign [.Tuple [.Name x px, .Name y py] kt pt] e pos) (tAsg te (gTup X.K 2 (gCons (gName i) (gCons (gName j) gNil)))) :=
 ps_asg he (pg_tup hc (pgs_cons (pg_name hN hi.get (.inl hx) (.inr hx)) (pgs_cons (pg_name hN hj.get (.inl hy) (.inr hy)) pgs_nil h2) h1) hn hst) hs hw h3
def tTupS (t : TA) : TE := fun σ H Q => t σ H fun xs H1 => xs.length ≤ sizeLine ∧ ∀ p H2, H1 p = none → L2.Same H1 H2 → H2 p = some (.tup xs) → Q (.ref p) H2
def tLstS (t : TA) : TE := fun σ H Q => t σ H fun xs H1 => xs.length ≤ sizeLine ∧ ∀ p H2, H1 p = none → L2.Same H1 H2 → H2 p = some (.lst xs) → Q (.ref p) H2
def rCatS : R2 := fun x y H Q => ∃ l b xs zs, x = .ref l ∧ y = .ref b ∧ H l = some (.lst xs) ∧ H b = some (.lst zs) ∧ xs.length + zs.length ≤ sizeLine ∧ ∀ p H2, H p = none → L2.Same H H2 → H2 p = some (.lst (xs ++ zs)) → Q (.ref p) H2
def tDNewS : TE := fun _ H Q => ∀ p H2, H p = none → L2.Same H H2 → H2 p = some (.dK []) → Q (.ref p) H2
theorem r_tupS {k : Nat} (h : PA X es t) : PE X (.Tuple es k pos) (tTupS t) := fun pins s σ H Q I q => wpAny_Tuple_spliced (thn (h pos pins s σ H _ I q) fun us s1 ⟨xs, H1, I1, r, z, q⟩ => ⟨by rw [← r.length]; exact z, by
 have hf : H1 s1.heap.objs.size = none := I1.hok.fresh (Nat.le_refl _)
 refine ⟨.ref s1.heap.objs.size, upd H1 s1.heap.objs.size (.tup xs), I1.laid (t' := s1.toks) (fun b u e => Heap.get?_push_of_some _ e) (Nat.le_refl _) ?_, rfl, q _ _ hf (Br.Same.upd hf) upd_same⟩
 exact ⟨z, us, r, ⟨_, Heap.get?_push_size _ rfl, rfl, rfl, _, rfl⟩⟩⟩)
theorem r_lstS (h : PA X es t) : PE X (.List es pos) (tLstS t) := fun pins s σ H Q I q => wpAny_List_spliced (thn (h pos pins s σ H _ I q) fun us s1 ⟨xs, H1, I1, r, z, q⟩ => ⟨by rw [← r.length]; omega, by
 have hf := I1.hok.fresh (Nat.le_refl _)
 refine ⟨.ref s1.heap.objs.size, upd H1 s1.heap.objs.size _, I1.laid (fun b u e => Heap.get?_push_of_some _ e) (Nat.le_refl _) ?_, rfl, q _ _ hf (Br.Same.upd hf) upd_same⟩
 exact ⟨z, us, 0, r, Heap.get?_push_size _ rfl⟩⟩)
theorem op_catS : OpR X (binaryOp .Add) rCatS := fun pins s σ H x y v u Q I rx ry h => by
 obtain ⟨l, b, xs, zs, e1, e2, h1, h2, hz, q⟩ := h
 exact op_cat pins s σ H x y v u Q I rx ry ⟨l, b, xs, zs, e1, e2, h1, h2, hz, fun p hp => q p _ hp (Br.Same.upd hp) upd_same⟩
theorem r_dict0S : PE X (.Dict [] [] pos) tDNewS := fun pins s σ H Q I q => pe_dnewK pins s σ H Q I fun p hp => q p _ hp (Br.Same.upd hp) upd_same
end
end Br
namespace Br
open PySem PySem.Spec PySem.Calls PyProof.Rows L2 PySem.W PySem.Builtin.Getset_descriptor
structure ExcC (K : Frag) (C : Addr) : Prop where
 ga : findIn K (.ref C) "__getattribute__" = some (some (.builtin "BaseException.__getattribute__"))
 hk : findIn K (.ref C) "__getattr__" = some none
 ha : findIn K (.ref C) "__class__" = some (some (.builtin "object.__class__"))
 hn : specialIn K (.builtin "object.__class__") "__get__" = some (some (.builtin "getset_descriptor.__get__"))
 htk : takesIn K (.builtin "object.__class__") = some true
 hm : mroIn K C (.type "object") = some true
 hb : mroIn K C (.type "BaseException") = some true
def ExcAt (e C : Addr) (h : Heap) : Prop := ∃ o, h.get? e = some o ∧ o.cls = .ref C
theorem ExcAt.ty (x : ExcAt e C h) : Looks M h (typeOf (.ref e)) (.ref C) := by
 obtain ⟨o, h1, h2⟩ := x
 rw [← h2]
 exact (Looks.ld h1).andThen .now
end Br
namespace Br
open PySem PySem.Spec PySem.Calls PyProof.Rows L2
section
theorem objGot (x : ObjOk P w H h a o) : ∃ ob, h.get? a = some ob := by
 cases o with
 | lst xs => obtain ⟨_, _, _, _, e⟩ := x; exact ⟨_, e⟩
 | tup xs => obtain ⟨_, _, _, ob, e, _⟩ := x; grind
 | dK kvs => obtain ⟨_, _, _, _, o, _, _, e, _⟩ := x; grind
 | dT kvs => obtain ⟨_, _, _, _, o, _, _, e, _⟩ := x; exact ⟨_, e⟩
 | set S n => obtain ⟨o, _, _, _, e, _⟩ := x; exact ⟨_, e⟩
 | ins C dx fs => obtain ⟨_, _, _, e, _⟩ := x; exact ⟨_, e⟩
 | own y => assumption
 | xd fs => obtain ⟨_, ⟨_, _, _, e, _⟩, _⟩ := x; exact ⟨_, e⟩
 | rng lo hi => obtain ⟨_, _, _, e⟩ := x; exact ⟨_, e⟩
 | frz ob u => obtain ⟨e, _⟩ := x; grind
 | tbl ps => exact ⟨_, (x)⟩
 | met f y => exact ⟨_, (x)⟩
 | ext φ => obtain ⟨_, ⟨_, e⟩, _⟩ := x; exact ⟨_, e⟩
theorem hokNone (x : HOk P w H h) (e : h.get? a = none) : H a = none := by
 cases q : H a with
 | none => rfl
 | some o =>
  obtain ⟨ob, z⟩ := objGot (x a o q)
  grind
end
def FrOk (l : List Env) (h : Heap) : Prop := ∀ env ∈ l, env.scope.kind ≠ .module ∧ ∃ L o, env.frame = some L ∧ h.get? L = some o ∧ ∀ vs, o.data ≠ .fields vs
structure Fly (l : List Env) (e T : Addr) (cls : Value) (h : Heap) : Prop where
 fr : FrOk l h
 ne : T ≠ e
 at_ : ∃ oe vs oT ts a0, h.get? e = some oe ∧ oe.cls = cls ∧ oe.data = .fields vs ∧ vs[0]? = some a0 ∧ vs[1]? = some (.ref T) ∧ h.get? T = some oT ∧ oT.data = .fields ts ∧ ts[3]? = some .none
theorem funFr : FrOk l h → (∀ b ∈ frs l, B.get? b = none) → h.FunFrames B l := by
 induction l with
 | nil => intro _ _; trivial
 | cons env r ih =>
  intro f hB
  obtain ⟨hk, L, o, hf, ho, hd⟩ := f env (.head _)
  refine ⟨hk, ⟨L, o, hf, hB L (List.mem_filterMap.mpr ⟨env, .head _, hf⟩), ho, hd⟩, ih (fun e he => f e (.tail _ he)) fun b hb => hB b ?_⟩
  obtain ⟨e, he, h2⟩ := List.mem_filterMap.mp hb
  exact List.mem_filterMap.mpr ⟨e, .tail _ he, h2⟩
theorem frOf : h.FunFrames B l → FrOk l h := by
 induction l with
 | nil => intro _ _ z; cases z
 | cons env r ih =>
  rintro ⟨hk, ⟨L, o, hf, _, ho, hd⟩, hr⟩ e he
  rcases List.mem_cons.mp he with rfl | he
  · exact ⟨hk, L, o, hf, ho, hd⟩
  · exact ih hr e he
theorem FrOk.mem (f : FrOk l h) (hb : b ∈ frs l) : ∃ o, h.get? b = some o ∧ ∀ vs, o.data ≠ .fields vs := by
 obtain ⟨e, he, h2⟩ := List.mem_filterMap.mp hb
 obtain ⟨_, L, o, hf, ho, hd⟩ := f e he
 simp_all
def grd (l : List Env) (e T : Addr) (h : Heap) : Heap := PySem.W.hideAll h (e :: T :: frs l)
theorem grd_of (q : (grd l e T h).get? b = some o) : h.get? b = some o := PySem.W.of_hideAll _ q
theorem grd_none (q : b = e ∨ b = T ∨ b ∈ frs l) : (grd l e T h).get? b = none := by
 refine PySem.W.hideAll_none _ ?_
 simp_all
theorem grd_get (q : h.get? b = some o) (h1 : b ≠ e) (h2 : b ≠ T) (h3 : b ∉ frs l) : (grd l e T h).get? b = some o := by
 refine PySem.W.hideAll_get _ q fun z => ?_
 simp_all
theorem Fly.flying (f : Fly l e T cls h) : ∃ a0, Heap.FlyingW (grd l e T h) l e cls a0 h := by
 obtain ⟨oe, vs, oT, ts, a0, h1, h2, h3, h4, h5, h6, h7, h8⟩ := f.at_
 exact ⟨a0, fun b o q => grd_of q, grd_none (.inl rfl), funFr f.fr fun b hb => grd_none (.inr (.inr hb)), oe, vs, T, oT, ts, h1, ⟨h2, h4⟩, h3, h5, grd_none (.inr (.inl rfl)), f.ne, h6, h7, h8⟩
structure Past (l : List Env) (e T : Addr) (h h' : Heap) : Prop where
 keep : ∀ b o, h.get? b = some o → b ≠ e → b ≠ T → b ∉ frs l → h'.get? b = some o
 slot : ∀ b o, h.get? b = some o → b ∈ frs l → ∃ sl, h'.get? b = some { o with slots := sl }
 there : ∀ b o, h.get? b = some o → b ≠ T → ∃ o', h'.get? b = some o'
theorem Past.of {l l' : List Env} {e T : Addr} {cls a0 : Value} {h h2 : Heap} (f : FrOk l h) (hf : Heap.FlyingW (grd l e T h) l' e cls a0 h2) (u : h.UpToSlots h2) :
 ∃ T', Fly l' e T' cls h2 ∧ Past l e T h h2 ∧ (T' = T ∨ h.get? T' = none) := by
 obtain ⟨st, ne, ff, oe, vs, T', oT, ts, h1, ⟨h2', h4⟩, h3, h5, hb, hne, h6, h7, h8⟩ := hf
 have hs : ∀ b o, h.get? b = some o → b ∈ frs l → ∃ sl, h2.get? b = some { o with slots := sl } := fun b o q hb => by
  obtain ⟨o', q', hd⟩ := f.mem hb
  rw [q] at q'; cases q'
  exact u b o q hd
 refine ⟨T', ⟨frOf ff, hne, oe, vs, oT, ts, a0, h1, h2', h3, h4, h5, h6, h7, h8⟩, ⟨fun b o q n1 n2 n3 => st b o (grd_get q n1 n2 n3), hs, fun b o q n2 => ?_⟩, ?_⟩
 · by_cases n1 : b = e
   · subst n1; exact ⟨_, h1⟩
   · by_cases n3 : b ∈ frs l
     · obtain ⟨sl, z⟩ := hs b o q n3
       exact ⟨_, z⟩
     · exact ⟨o, st b o (grd_get q n1 n2 n3)⟩
 · cases q : h.get? T' with
   | none => exact .inr rfl
   | some o =>
    by_cases n2 : T' = T
    · exact .inl n2
    · by_cases n3 : T' ∈ frs l
      · obtain ⟨o', q', hd⟩ := f.mem n3
        obtain ⟨sl, z⟩ := hs T' o' q' n3
        rw [h6] at z; cases z
        exact absurd h7 (hd ts)
      · rw [grd_get q hne n2 n3] at hb; cases hb
section
theorem fly_leave (hfr : A.frames = some (env :: outer)) (hf : env.frame.isSome = true) (f : Fly (env :: outer) e T cls s.heap)
 (k : ∀ h' T', Fly outer e T' cls h' → Past (env :: outer) e T s.heap h' → (T' = T ∨ s.heap.get? T' = none) → Q () { s with heap := h' }) : wpAny M A (leaving env (.ref e)) Q E s := by
 obtain ⟨L, hf⟩ := Option.isSome_iff_exists.mp hf
 obtain ⟨a0, F⟩ := f.flying
 refine wpAny_leaves_onW hfr hf F fun h' F' u => ?_
 obtain ⟨T', x, y, z⟩ := Past.of f.fr F' u
 exact k h' T' x y z
theorem fly_note (hfr : A.frames = some (env :: outer)) (hf : env.frame.isSome = true) (f : Fly (env :: outer) e T cls s.heap)
 (k : ∀ h' T', Fly (env :: outer) e T' cls h' → Past (env :: outer) e T s.heap h' → (T' = T ∨ s.heap.get? T' = none) → Q () { s with heap := h' }) :
 wpAny M A (noteFrame (.ref e) env) (fun _ s' => wpAny M A (setFlight (.ref e) none) Q E s') E s := by
 obtain ⟨L, hf⟩ := Option.isSome_iff_exists.mp hf
 obtain ⟨a0, F⟩ := f.flying
 refine wpAny_looks_onW hfr hf F fun h1 F1 u1 => wpAny_landsW F1 fun h2 F2 u2 => ?_
 obtain ⟨T', x, y, z⟩ := Past.of f.fr F2 (u1.trans u2)
 exact k h2 T' x y z
theorem fly_land (f : Fly outer e T cls s.heap) (k : ∀ h' T', Fly outer e T' cls h' → Past outer e T s.heap h' → (T' = T ∨ s.heap.get? T' = none) → Q () { s with heap := h' }) : wpAny M A (setFlight (.ref e) none) Q E s := by
 obtain ⟨a0, F⟩ := f.flying
 refine lands_againW F fun h1 F1 u1 => ?_
 obtain ⟨T', x, y, z⟩ := Past.of f.fr F1 u1
 exact k h1 T' x y z
theorem fly_begin {h : Heap} {args : List Value} (hfr : A.frames = some (env :: outer)) (hf : env.frame.isSome = true) (f : FrOk (env :: outer) h) (hx : Heap.MadeExcOf h s.heap e cls args)
 (k : ∀ h' T', Fly outer e T' cls h' → (∀ b o, h.get? b = some o → b ∉ frs (env :: outer) → h'.get? b = some o) → (∀ b o, h.get? b = some o → b ∈ frs (env :: outer) → ∃ sl, h'.get? b = some { o with slots := sl }) → h.get? T' = none → Q () { s with heap := h' }) :
 wpAny M A (leaving env (.ref e)) Q E s := by
 obtain ⟨L, hf⟩ := Option.isSome_iff_exists.mp hf
 have hb : ∀ b ∈ frs (env :: outer), (PySem.W.hideAll h (frs (env :: outer))).get? b = none := fun b hb => PySem.W.hideAll_none _ hb
 refine wpAny_leaves_madeW (base := PySem.W.hideAll h (frs (env :: outer))) hfr hf (fun b o q => PySem.W.of_hideAll _ q) (funFr f hb) hx fun h' t F _ _ u => ?_
 obtain ⟨st, ne, ff, oe, vs, T', oT, ts, h1, ⟨h2', h4⟩, h3, h5, hbT, hne, h6, h7, h8⟩ := F
 have hs : ∀ b o, h.get? b = some o → b ∈ frs (env :: outer) → ∃ sl, h'.get? b = some { o with slots := sl } := fun b o q hb => by
  obtain ⟨o', q', hd⟩ := f.mem hb
  rw [q] at q'; cases q'
  exact u b o (hx.keeps b o q) hd
 refine k h' T' ⟨frOf ff, hne, oe, vs, oT, ts, _, h1, h2', h3, h4, h5, h6, h7, h8⟩ (fun b o q n => st b o (PySem.W.hideAll_get _ q n)) hs ?_
 cases q : h.get? T' with
 | none => rfl
 | some o =>
  by_cases n3 : T' ∈ frs (env :: outer)
  · obtain ⟨o', q', hd⟩ := f.mem n3
    obtain ⟨sl, z⟩ := hs T' o' q' n3
    rw [h6] at z; cases z
    exact absurd h7 (hd ts)
  · rw [PySem.W.hideAll_get _ q n3] at hbT; cases hbT
end
def CXF (P : Program) (w : World) : CXT := fun outer H s E e s' => ∃ (ea T : Addr) (cls : Value) (H' : Hp), e = .ref ea ∧ s'.os = s.os ∧ AllBare s'.gens ∧ Un (frs outer) [] H H' s.heap s'.heap ∧ HOk P w H' s'.heap ∧
 s.heap.get? ea = none ∧ s.heap.get? T = none ∧ H' ea = none ∧ H' T = none ∧ Fly outer ea T cls s'.heap ∧ E cls none H'
section
theorem Past.hok (p : Past l e T h h') (ok : HOk P w H h) (he : H e = none) (hT : H T = none) (hf : ∀ b ∈ frs l, H b = none) : HOk P w H h' := fun a o q => by
 refine (ok a o q).stay (fun b u hb z => p.keep b u z ?_ ?_ ?_) (fun _ z => z) fun _ _ z => z
 · rintro rfl
   grind
 · rintro rfl
   grind
 · intro hm
   simp_all
theorem Past.un (p : Past l e T h h') (u : Un fs [] H0 H h0 h) (h1 : h0.get? e = none) (h2 : h0.get? T = none) (hl : ∀ b ∈ frs l, b ∈ fs ∨ h0.get? b = none) : Un fs [] H0 H h0 h' := by
 have n1 : ∀ {b o}, h0.get? b = some o → b ≠ e := fun q z => by grind
 have n2 : ∀ {b o}, h0.get? b = some o → b ≠ T := fun q z => by grind
 have n3 : ∀ {b o}, h0.get? b = some o → b ∈ frs l → b ∈ fs := fun {b o} q z => by grind
 refine ⟨fun b o q n hb _ => ?_, fun b o q n hb _ => ?_, u.free, fun b o q _ => ?_, u.tups, u.frzs, u.tbls⟩
 · exact p.keep b o (u.keep b o q n hb (by simp)) (n1 q) (n2 q) fun z => hb (n3 q z)
 · obtain ⟨sl, q1⟩ := u.slot b o q n hb (by simp)
   by_cases z : b ∈ frs l
   · obtain ⟨sl', q2⟩ := p.slot b _ q1 z
     exact ⟨sl', q2⟩
   · exact ⟨sl, p.keep b _ q1 (n1 q) (n2 q) z⟩
 · obtain ⟨o', q1⟩ := u.there b o q (by simp)
   exact p.there b o' q1 (n2 q)
end
section
variable {K : PySem.W.Frag}
theorem passF : Passes (CXF P w) (cxOf (CXF P w) P w K mg base N qual scope f cd A outer s H E) E := by
 intro pins σ H1 s1 e s2 I h
 obtain ⟨ea, T, cls, H2, rfl, os, bare, un, hok, he, hT, he2, hT2, fly, hE⟩ := h
 have J := I.call' os un hok bare (fun _ z => nomatch z)
 have b0 : ∀ b o, s.heap.get? b = some o → ∃ o', s1.heap.get? b = some o' := fun b o q => I.base.there b o q (by show b ∉ ([] : List Addr); simp)
 have n0 : ∀ b, s1.heap.get? b = none → s.heap.get? b = none := fun b q => by
  cases z : s.heap.get? b with
  | none => rfl
  | some o => obtain ⟨o', y⟩ := b0 b o z; rw [q] at y; cases y
 refine fly_leave (env := envOfC qual scope s.heap.objs.size f cd) (outer := outer) I.ok.frames rfl fly fun h' T' f' p hT' => ?_
 have hT3 : s.heap.get? T' = none := by
  rcases hT' with rfl | z
  · exact n0 _ hT
  · cases y : s.heap.get? T' with
    | none => rfl
    | some o =>
     obtain ⟨o', x⟩ := J.base.there T' o y (by show T' ∉ ([] : List Addr); simp)
     rw [z] at x; cases x
 have hT4 : H2 T' = none := by
  rcases hT' with rfl | z
  · exact hT2
  · exact hokNone hok z
 refine ⟨ea, T', cls, H2, rfl, J.os, bare, p.un J.base (n0 _ he) (n0 _ hT) fun b hb => ?_, p.hok hok he2 hT2 J.stkFree, n0 _ he, hT3, he2, hT4, f', hE⟩
 have hb' : b ∈ s.heap.objs.size :: frs outer := J.stkSub b hb
 rcases List.mem_cons.mp hb' with z | z
 · exact .inr (by rw [z]; exact Heap.get?_none_of_le (Nat.le_refl _))
 · exact .inl z
def Throws (X : Cx) (E : XK) : Prop := ∀ (pins : List (Addr × Obj)) (σ : L2.St) (H : Hp) (s : Shared) (h' : Heap) (e : Addr) (cls : Value) (args : List Value), Inv X pins σ H s → Heap.MadeExcOf s.heap h' e cls args → E cls none H → X.xe (.ref e) { s with heap := h' }
theorem throwF : Throws (cxOf (CXF P w) P w K mg base N qual scope f cd A outer s H E) E := by
 intro pins σ H1 s1 h1 e cls args I hx hE
 have fr : FrOk (envOfC qual scope s.heap.objs.size f cd :: outer) s1.heap := frOf I.stack
 have hb0 : ∀ b, s1.heap.get? b = none → s.heap.get? b = none := fun b q => by
  cases z : s.heap.get? b with
  | none => rfl
  | some o => obtain ⟨o', y⟩ := I.base.there b o z (by show b ∉ ([] : List Addr); simp); rw [q] at y; cases y
 refine fly_begin (env := envOfC qual scope s.heap.objs.size f cd) (outer := outer) (h := s1.heap) I.ok.frames rfl fr hx fun h' T' f' keep slot hT => ?_
 have hl : ∀ b ∈ frs (envOfC qual scope s.heap.objs.size f cd :: outer), b ∈ frs outer ∨ s.heap.get? b = none := fun b hb => by
  have hb' : b ∈ s.heap.objs.size :: frs outer := I.stkSub b hb
  rcases List.mem_cons.mp hb' with z | z
  · exact .inr (by rw [z]; exact Heap.get?_none_of_le (Nat.le_refl _))
  · exact .inl z
 have hfree : ∀ b ∈ frs (envOfC qual scope s.heap.objs.size f cd :: outer), H1 b = none := I.stkFree
 have un : Un (frs outer) [] H H1 s.heap h' := by
  have u := I.base
  refine ⟨fun b o q n hb _ => ?_, fun b o q n hb _ => ?_, fun b o q n _ => u.free b o q n (by show b ∉ ([] : List Addr); simp), fun b o q _ => ?_, u.tups, u.frzs, u.tbls⟩
  · refine keep b o (u.keep b o q n hb (by show b ∉ ([] : List Addr); simp)) fun z => ?_
    rcases hl b z with y | y
    · exact hb y
    · rw [y] at q; cases q
  · obtain ⟨sl, q1⟩ := u.slot b o q n hb (by show b ∉ ([] : List Addr); simp)
    by_cases z : b ∈ frs (envOfC qual scope s.heap.objs.size f cd :: outer)
    · obtain ⟨sl', q2⟩ := slot b _ q1 z
      exact ⟨sl', q2⟩
    · exact ⟨sl, keep b _ q1 z⟩
  · obtain ⟨o', q1⟩ := u.there b o q (by show b ∉ ([] : List Addr); simp)
    by_cases z : b ∈ frs (envOfC qual scope s.heap.objs.size f cd :: outer)
    · obtain ⟨sl', q2⟩ := slot b _ q1 z
      exact ⟨_, q2⟩
    · exact ⟨_, keep b _ q1 z⟩
 have hok : HOk P w H1 h' := fun a o q => by
  refine (I.hok a o q).stay (fun b u hb z => keep b u z fun hm => ?_) (fun _ z => z) fun _ _ z => z
  simp_all
 exact ⟨e, T', cls, H1, rfl, I.os, I.bare, un, hok, hb0 e hx.new, hb0 T' hT, hokNone I.hok hx.new, hokNone I.hok hT, f', hE⟩
end
structure OwnE (K : PySem.W.Frag) (C : Addr) : Prop where
 q : PySem.W.excIn K C [.type "ValueError", .type "Exception", .type "BaseException", .type "object"] "ValueError.__new__" = true
theorem OwnE.obj {K : PySem.W.Frag} {C : Addr} {h : Heap} (O : OwnE K C) (X : K.In h) : ∃ bm N nm q bs hdct sn sub ab col dd k0 k1 k2 k3 k5 mN, h.get? C = some (excClassObj nm q C N bs bm hdct sn sub ab col dd k0 k1 k2 k3 k5 "ValueError.__new__") ∧ h.Ns N mN ∧ mN "__init__" = none ∧
 OwnTail h [.type "ValueError", .type "Exception", .type "BaseException", .type "object"] bm := by
 have q := O.q
 unfold PySem.W.excIn at q
 split at q
 · rename_i dd cl sl lk
   split at q
   · rename_i C1 bm a0 a1 a2 a3 n a5 em es
     simp only [Bool.and_eq_true, beq_iff_eq, Bool.not_eq_true'] at q
     obtain ⟨⟨⟨⟨⟨e1, e2⟩, e3⟩, e4⟩, e5⟩, e6⟩ := q
     subst e1; subst e2
     obtain ⟨c1, c2, c3, c4, c5, c6, c7, c8, c9, c10, c11⟩ := cl
     dsimp only at em e3 e5 e6
     subst em; subst e3
     have hsl : sl = #[a0, a1, a2, a3, some (.builtin "ValueError.__new__"), a5] := by
      cases sl with
      | mk l => simp only at es; rw [es]
     subst hsl
     exact ⟨bm, c4, c1, c5, c2, c6, c7, c8, c9, c10, dd, a0, a1, a2, a3, a5, _, X _ _ lk, .of_isNs (PySem.W.isNs_of_in X e5), PySem.W.nsMap_none_of_in X e5 e6, PySem.W.tail_of_in X e4⟩
   · cases q
 · cases q
section
variable {np cpos pos : Pos}
def tRaise (C : Addr) (E : XK) (te : TE) : TS := fun _ σ H => te σ H fun _ H1 => E (.ref C) none H1
theorem ps_raise (O : OwnE X.K C) (hm : X.mg x = some (.ref C)) (hg : Gl X x) (hc : X.calm = true) (ht : Throws X E) (he : PE X e0 te) (hdb : (x == ("__debug__" : Str)) = false := by decide)
 (hst : starEach [e0] X.env = [(false, eval e0 X.env)] := by rfl) : PS X (.Raise (some (.Call (.Name x np) [e0] [] cpos)) none pos) (tRaise C E te) := by
 intro pins s σ H D I h
 obtain ⟨bm, N, nm, q, bs, hdct, sn, sub, ab, col, dd, k0, k1, k2, k3, k5, mN, hC, hN, hni, T⟩ := O.obj I.ok.mod.kin
 refine wpAny_Raise_call_subT (nm := nm) (q := q) (N := N) (bs := bs) (hdct := hdct) (sn := sn) (sub := sub) (ab := ab) (col := col) (dd := dd) (k0 := k0) (k1 := k1) (k2 := k2) (k3 := k3) (k5 := k5)
  F.excBase_ValueError (T.hasType F.excBase_ValueError.hasBase) (I.ok.hd hc) (by rw [hst]; rfl) hni (ld_glob I hg hm ⟨rfl, ?_⟩ hdb)
 rw [hst]
 refine Calls.evalArgs_plain (Calls.spliced_cons (thn (he pins s σ H _ I h) fun u s1 ⟨v, H1, I1, r1, q1⟩ => Calls.spliced_nil ?_))
 exact ⟨rfl, by show 1 ≤ sizeLine; decide, I1.bk _ _ hC, hN.keeps I1.bk, T.keeps I1.bk, fun h' e hx => ht pins σ H1 s1 h' e _ _ I1 hx q1⟩
def ExcO (e C : Addr) : HO := .ext (ExcAt e C)
theorem excO_ok (x : ExcAt e C h) : ObjOk P w H h e (ExcO e C) := by
 obtain ⟨o, h1, h2⟩ := id x
 exact ⟨x, ⟨o, h1⟩, fun a b ⟨o', q1, q2⟩ k => ⟨o', k o' q1, q2⟩⟩
end
section
variable {σ : L2.St}
theorem nsNe {h : Heap} (n : h.Ns a m) (e : h.get? b = some o) (d : o.data = .fields vs) : a ≠ b := by
 obtain ⟨o', es, ep, h1, h2, _⟩ := n
 grind
theorem cellNe {h : Heap} (n : h.IsCell a v) (e : h.get? b = some o) (d : o.data = .fields vs) : a ≠ b := by
 obtain ⟨o', h1, h2⟩ := n
 grind
structure Apart (X : Cx) (pins : List (Addr × Obj)) (H : Hp) (ea T : Addr) : Prop where
 pin : ∀ p ∈ X.pn ++ pins, p.1 ≠ ea ∧ p.1 ≠ T
 s0 : X.s₀.heap.get? ea = none
 t0 : X.s₀.heap.get? T = none
 he : H ea = none
 hT : H T = none
theorem invPast (I : Inv X pins σ H s) (a : Apart X pins H ea T) (f : Fly X.stack ea T cls s.heap) (p : Past X.stack ea T s.heap h') : Inv X pins σ H { s with heap := h' } := by
 obtain ⟨oe, vs, oT, ts, a0, f1, f2, f3, f4, f5, f6, f7, f8⟩ := f.at_
 obtain ⟨m, hn, hl⟩ := I.loc
 have z0 : ∀ b o, X.s₀.heap.get? b = some o → b ≠ ea ∧ b ≠ T ∧ (b ∈ frs X.stack → b ∈ X.fs) := fun b o q => by
  refine ⟨fun z => (by rw [z, a.s0] at q; cases q), fun z => (by rw [z, a.t0] at q; cases q), fun z => ?_⟩
  rcases List.mem_cons.mp (I.stkSub b z) with y | y
  · exact absurd y (Nat.ne_of_lt (Nat.lt_of_lt_of_le (Heap.lt_size q) I.ok.above))
  · exact y
 have any := fun b o q n1 n2 => by
  by_cases z : b ∈ frs X.stack
  · exact p.slot b o q z
  · exact ⟨o.slots, p.keep b o q n1 n2 z⟩
 have hn' : h'.Ns X.env.locals m := by
  obtain ⟨o, es, ep, h1, h2, r⟩ := id hn
  obtain ⟨sl, q⟩ := any _ o h1 (nsNe hn f1 f3) (nsNe hn f6 f7)
  exact ⟨_, es, ep, q, h2, r⟩
 have cel : ∀ x c v, X.env.cells.lookup x = some c → s.heap.IsCell c v → h'.IsCell c v := fun x c v e y => by
  obtain ⟨o, h1, h2⟩ := id y
  obtain ⟨sl, q⟩ := any c o h1 (cellNe y f1 f3) (cellNe y f6 f7)
  exact ⟨_, q, h2⟩
 refine ⟨I.ok, I.os, I.bare, ⟨fun b o q n hb hx => ?_, fun b o q n hb hx => ?_, I.base.free, fun b o q hx => ?_, I.base.tups, I.base.frzs, I.base.tbls⟩, ⟨m, hn', fun i x v e1 e2 e3 => ?_⟩, fun x c e => ?_, I.free, I.freeC, fun pp hp => ?_, p.hok I.hok a.he a.hT I.stkFree, I.len⟩
 · obtain ⟨n1, n2, n3⟩ := z0 b o q
   exact p.keep b o (I.base.keep b o q n hb hx) n1 n2 fun z => hb (n3 z)
 · obtain ⟨n1, n2, n3⟩ := z0 b o q
   obtain ⟨sl, q1⟩ := I.base.slot b o q n hb hx
   obtain ⟨sl', q2⟩ := any b _ q1 n1 n2
   exact ⟨sl', q2⟩
 · obtain ⟨n1, n2, n3⟩ := z0 b o q
   obtain ⟨o', q1⟩ := I.base.there b o q hx
   exact p.there b o' q1 n2
 · obtain ⟨u, r, l⟩ := hl i x v e1 e2 e3
   refine ⟨u, r, ?_⟩
   rcases l with l | ⟨k, c, e, y⟩
   · exact .inl l
   · exact .inr ⟨k, c, e, cel x c _ e y⟩
 · obtain ⟨v, y⟩ := I.cell x c e
   exact ⟨v, cel x c v e y⟩
 · obtain ⟨q, n, ne, nf, d⟩ := I.pin pp hp
   refine ⟨p.keep _ _ q (a.pin pp hp).1 (a.pin pp hp).2 fun z => ?_, n, ne, nf, d⟩
   rcases List.mem_cons.mp (I.stkSub _ z) with y | y
   · exact ne y
   · exact nf y
theorem invTrack {o : HO} (I : Inv X pins σ H s) (a : Apart X pins H ea T) (f : Fly X.stack ea T cls s.heap) (new : ObjOk X.prog X.w (upd H ea o) s.heap ea o) : Inv X pins σ (upd H ea o) s := by
 obtain ⟨oe, vs, oT, ts, a0, f1, f2, f3, f4, f5, f6, f7, f8⟩ := f.at_
 obtain ⟨m, hn, hl⟩ := I.loc
 have nt : ∀ b u, H b = some u → b ≠ ea := fun b u q z => by rw [z, a.he] at q; cases q
 refine ⟨I.ok, I.os, I.bare, ⟨I.base.keep, I.base.slot, fun b o' q n hx => ?_, I.base.there, fun b xs q => ?_, fun b u xs q => ?_, fun b ps q => ?_⟩, I.loc, I.cell, ?_, fun x c e => ?_, fun pp hp => ?_, fun b u q => ?_, I.len⟩
 · rw [upd_ne (fun z => by rw [z, a.s0] at q; cases q)]; exact I.base.free b o' q n hx
 · have := I.base.tups b xs q; rw [upd_ne (nt b _ this)]; exact this
 · have := I.base.frzs b u xs q; rw [upd_ne (nt b _ this)]; exact this
 · obtain ⟨more, q1⟩ := I.base.tbls b ps q; exact ⟨more, by rw [upd_ne (nt b _ q1)]; exact q1⟩
 · rw [upd_ne (nsNe hn f1 f3)]; exact I.free
 · obtain ⟨v, y⟩ := I.cell x c e
   rw [upd_ne (cellNe y f1 f3)]; exact I.freeC x c e
 · obtain ⟨q, n, ne, nf, d⟩ := I.pin pp hp
   exact ⟨q, by rw [upd_ne (a.pin pp hp).1]; exact n, ne, nf, d⟩
 · by_cases z : b = ea
   · subst z; rw [upd_same] at q; cases q; exact new
   · rw [upd_ne z] at q
     exact (I.hok b u q).stay (fun c v _ y => y) (fun c y => by rw [upd_ne (nt c _ y)]; exact y) fun c xs y => by rw [upd_ne (nt c _ y)]; exact y
end
abbrev XS := Value → L2.St → Hp → Prop
abbrev TSx := Ends → XS → L2.St → Hp → Prop
abbrev TEx := L2.St → Hp → VK → XS → Prop
def XP (X : Cx) (pins : List (Addr × Obj)) (E : XS) (e : Value) (s' : Shared) : Prop := ∃ (ea T : Addr) (cls : Value) (σ' : L2.St) (H' : Hp), e = .ref ea ∧ Inv X pins σ' H' s' ∧ Apart X pins H' ea T ∧ Fly X.stack ea T cls s'.heap ∧ E cls σ' H'
def PEx (X : Cx) (e : Expr) (t : TEx) : Prop :=
 ∀ (pins : List (Addr × Obj)) (s : Shared) (σ : L2.St) (H : Hp) (Q : VK) (E : XS), Inv X pins σ H s → t σ H Q E → wpAny (model X.prog X.w) X.A (eval e X.env) (EP X pins σ Q) (XP X pins E) s
def PSx (X : Cx) (st : Stmt) (t : TSx) : Prop :=
 ∀ (pins : List (Addr × Obj)) (s : Shared) (σ : L2.St) (H : Hp) (D : Ends) (E : XS), Inv X pins σ H s → t D E σ H → wpAny (model X.prog X.w) X.A (exec st X.env) (SP X pins D) (XP X pins E) s
def PSsx (X : Cx) (st : List Stmt) (t : TSx) : Prop :=
 ∀ (pins : List (Addr × Obj)) (s : Shared) (σ : L2.St) (H : Hp) (D : Ends) (E : XS), Inv X pins σ H s → t D E σ H → wpAny (model X.prog X.w) X.A (execs st X.env) (SP X pins D) (XP X pins E) s
section
variable {st : Stmt}
def tNextx : TSx := fun D _ σ H => D.nx σ H
def tSeqx (t u : TSx) : TSx := fun D E σ H => t { D with nx := fun σ' H' => u D E σ' H' } E σ H
theorem pssx_nil : PSsx X [] tNextx := fun _ _ σ H _ _ I h => wpAny_execs_nil ⟨σ, H, I, h⟩
theorem pssx_cons (h1 : PSx X st t) (h2 : PSsx X sts u) : PSsx X (st :: sts) (tSeqx t u) := by
 intro pins s σ H D E I h
 refine wpAny_execs_cons (thn (h1 pins s σ H { D with nx := fun σ' H' => u D E σ' H' } E I h) fun f s1 q => ?_)
 cases f with
 | next =>
  obtain ⟨σ', H', I', q⟩ := q
  exact h2 pins s1 σ' H' D E I' q
 | ret v => exact q
 | brk => exact q
 | cont => exact q
def tRetx (te : TEx) : TSx := fun D E σ H => te σ H D.rt E
theorem psx_ret {te : TEx} (he : PEx X e te) : PSx X (.Return (some e) pos) (tRetx te) := by
 intro pins s σ H D E I h
 exact wpAny_Return_some (thn (he pins s σ H _ E I h) fun v s1 ⟨x, H1, I1, r1, q1⟩ => ⟨x, σ, H1, I1, r1, q1⟩)
def tCallx (sp : Sp) (t : TA) : TEx := fun σ H Q E => t σ H fun vs H1 => sp vs H1 Q fun cls _ H2 => E cls σ H2
theorem pex_call (c : Callee (CXF X.prog X.w) X.prog X.w X.K X.mg X.base x k ps sp) (hr : Room k X.A) (hg : Gl X x) (hdb : (x == ("__debug__" : Str)) = false)
 (he : starEach (e :: es) X.env = (false, eval e X.env) :: starEach es X.env) (hpl : (backTo pos (starEach es X.env)).any (·.1) = false) (hex : X.ex = []) (ha : PA X.nox (e :: es) t) : PEx X (.Call (.Name x p) (e :: es) [] pos) (tCallx sp t) := by
 intro pins s σ H Q E I h
 obtain ⟨f, fd, F, hm, hk, hb⟩ := c.ex
 refine wpAny_Call_Name_kw (ld_glob I hg hm ?_ hdb)
 refine PySem.W.callWith_K (h₀ := X.base) I.ok.mod.kin hk (wpAny_mono (ha pos pins s σ H _ (I.wish _) h) (fun us s1 ⟨vs, H1, I0, r, q⟩ => ?_) fun _ _ z => False.elim z) he hpl
 have I1 := I0.unwish
 refine ⟨I1.kIn, ?_⟩
 have hl : (us ++ []).length = ps.length := by rw [List.append_nil, ← r.length]; exact F.len _ _ _ _ q
 have hb' := hb s1 us I1.kIn hl
 rw [List.append_nil] at hb'
 refine wpAny_call (codeAny_mono (F.run X.A X.stack s1 H1 ⟨us, []⟩ us vs Q _ hr I1.env0 hb' r q) fun rr s' hq => ?_)
 cases rr with
 | error ev =>
  obtain ⟨ea, T, cls, H2, rfl, os, bare, un, hok, he', hT, he2, hT2, fly, hE⟩ := hq
  have old : ∀ b, s1.heap.get? b = none → X.s₀.heap.get? b = none := fun b z => by
   cases y : X.s₀.heap.get? b with
   | none => rfl
   | some o =>
    obtain ⟨o', q'⟩ := I1.base.there b o y (by rw [hex]; simp)
    rw [z] at q'; cases q'
  exact ⟨ea, T, cls, σ, H2, rfl, I1.call' os un hok bare (fun _ z => nomatch z), ⟨fun pp hp => ⟨fun z => (by have := (I1.pin pp hp).1; grind), fun z => (by have := (I1.pin pp hp).1; rw [z, hT] at this; cases this)⟩, old _ he', old _ hT, he2, hT2⟩, fly, hE⟩
 | ok fl =>
  cases fl with
  | ret u => exact I1.after hq
  | next => exact False.elim hq
  | brk => exact False.elim hq
  | cont => exact False.elim hq
theorem Apart.next {σ : L2.St} (a : Apart X pins H ea T) (I : Inv X pins σ H s) (hex : X.ex = []) (h : T' = T ∨ s.heap.get? T' = none) : Apart X pins H ea T' := by
 rcases h with rfl | z
 · omega
 · refine ⟨fun p hp => ⟨(a.pin p hp).1, fun y => (by have q := (I.pin p hp).1; grind)⟩, a.s0, ?_, a.he, hokNone I.hok z⟩
   cases y : X.s₀.heap.get? T' with
   | none => rfl
   | some o =>
    obtain ⟨o', q⟩ := I.base.there T' o y (by grind)
    grind
abbrev mkd (X : Cx) (ea : Addr) : Cx := { X with A := X.A.mark (some (.ref ea)), calm := false, xe := fun _ _ => False }
theorem mkd_inv {σ : L2.St} (I : Inv X pins σ H s) : Inv (mkd X ea) pins σ H s :=
 ⟨⟨I.ok.mod, I.ok.kind, I.ok.glob, I.ok.blt, I.ok.above, I.ok.inj, I.ok.has, I.ok.cab, fun z => (by cases z), I.ok.frames, I.ok.stk, I.ok.exf, I.ok.bs, I.ok.bsz, I.ok.noex, I.ok.exfs, I.ok.funs, I.ok.frf⟩, I.os, I.bare, I.base, I.loc, I.cell, I.free, I.freeC, I.pin, I.hok, I.len⟩
theorem unmkd {σ σ' : L2.St} (I : Inv (mkd X ea) pins σ H s) (I0 : Inv X pins σ' H' s') : Inv X pins σ H s :=
 ⟨I0.ok, I.os, I.bare, I.base, I.loc, I.cell, I.free, I.freeC, I.pin, I.hok, I.len⟩
end
def mroE (C B : Addr) : List Value := [.ref C, .ref B, .type "ValueError", .type "Exception", .type "BaseException", .type "object"]
def eclsIn (K : PySem.W.Frag) (C B : Addr) : Bool :=
 PySem.W.excIn K C [.type "ValueError", .type "Exception", .type "BaseException", .type "object"] "ValueError.__new__" &&
 (PySem.W.findIn K (.ref C) "__getattribute__" == some (some (.builtin "BaseException.__getattribute__"))) && (PySem.W.findIn K (.ref C) "__getattr__" == some none) &&
 (PySem.W.findIn K (.ref C) "__class__" == some (some (.builtin "object.__class__"))) && (PySem.W.specialIn K (.builtin "object.__class__") "__get__" == some (some (.builtin "getset_descriptor.__get__"))) &&
 (PySem.W.takesIn K (.builtin "object.__class__") == some true) && ((PySem.W.clsIn K C).map (·.mro) == some (mroE C B)) && (PySem.W.typeIn K (.ref C) == some (.type "type"))
structure ECls (K : PySem.W.Frag) (mg : Str → Option Value) (x : Str) (C B : Addr) : Prop where
 mgx : mg x = some (.ref C)
 inK : eclsIn K C B = true
section
variable {K : PySem.W.Frag}
theorem eclsIn_all (h : eclsIn K C B = true) : OwnE K C ∧ ExcC K C ∧ (∃ cd, PySem.W.clsIn K C = some cd ∧ cd.mro = mroE C B) ∧ PySem.W.typeIn K (.ref C) = some (.type "type") := by
 unfold eclsIn at h
 simp only [Bool.and_eq_true, beq_iff_eq] at h
 obtain ⟨⟨⟨⟨⟨⟨⟨h1, h2⟩, h3⟩, h4⟩, h5⟩, h6⟩, h7⟩, h8⟩ := h
 obtain ⟨cd, q1, q2⟩ := Option.map_eq_some_iff.mp h7
 have mro : ∀ b, PySem.W.mroIn K C b = some _ := fun b => by
  unfold PySem.W.mroIn
  rw [q1, Option.bind_some, q2]
  rfl
 refine ⟨⟨h1⟩, ⟨h2, h3, h4, h5, h6, ?_, ?_⟩, ⟨cd, q1, q2⟩, h8⟩
 · rw [mro]; rfl
 · rw [mro]; rfl
theorem eclsMro (h : eclsIn K C B = true) (b : Value) : PySem.W.mroIn K C b = some ((mroE C B).contains b) := by
 obtain ⟨_, _, ⟨cd, q1, q2⟩, _⟩ := eclsIn_all h
 unfold PySem.W.mroIn
 rw [q1, Option.bind_some, q2]
 rfl
theorem ECls.own (e : ECls K mg x C B) : OwnE K C := (eclsIn_all e.inK).1
structure BCls (K : PySem.W.Frag) (mg : Str → Option Value) (x : Str) (B : Addr) : Prop where
 mgx : mg x = some (.ref B)
 cls : (PySem.W.clsIn K B).isSome = true
 ty : PySem.W.typeIn K (.ref B) = some (.type "type")
 exc : PySem.W.mroIn K B (.type "BaseException") = some true
theorem Fun.okX {st : Stmt} (F : Fun K x qual st f fd) (S : FnScope N ps (defScope st)) (len : ∀ vs H Q E, sp vs H Q E → vs.length = ps.length)
 (hbody : ∀ (cdv : Value) (A : Around) (outer : List Env) (s : Shared) (H : Hp) (vs : List V) (Q : VK) (E : XK), Room k (A.deeper (envOfC qual (defScope st) s.heap.objs.size f cdv)) → sp vs H Q E →
  ∃ t, PSs (cxOf (CXF P w) P w K mg base N qual (defScope st) f cdv A outer s H E) (defBody st) t ∧ t { nx := fun _ H' => Q .non H', rt := Q } (start N vs) H) : FnOk P w K mg base (CXF P w) (k + 1) f fd ps sp := by
 obtain ⟨oc, od, kV, doc, pm, an, cdv, ct, osl, rfl, lk, hcd⟩ := F.ex
 exact fn_of lk hcd S len fun A outer s H vs Q E hr hsp => hbody cdv A outer s H vs Q E hr hsp
end
section
variable {x n : Str}
theorem r_raise (ec : ECls X.K X.mg x C B) (hg : Gl X x) (hc : X.calm = true) (ht : Throws X E) (hdb : (x == ("__debug__" : Str)) = false) (hst : starEach [e0] X.env = [(false, eval e0 X.env)]) (he : PE X e0 te) :
 PS X (.Raise (some (.Call (.Name x np) [e0] [] cpos)) none pos) (tRaise C E te) := ps_raise ec.own ec.mgx hg hc ht he hdb hst
theorem r_callX {k : Nat} {ps : List Str} {sp : Sp} (c : Callee (CXF X.prog X.w) X.prog X.w X.K X.mg X.base x k ps sp) (hx : Passes (CXF X.prog X.w) X E) (hr : Room k X.A) (hg : Gl X x) (hdb : (x == ("__debug__" : Str)) = false)
 (he : starEach (e :: es) X.env = (false, eval e X.env) :: starEach es X.env) (hpl : (backTo pos (starEach es X.env)).any (·.1) = false) (ha : PA X (e :: es) t) : PE X (.Call (.Name x p) (e :: es) [] pos) (tCall sp [] E t) := by
 obtain ⟨f, fd, F, hm, hk, hb⟩ := c.ex
 exact pe_call F hr hg hm hk hb .nil hx ha hdb he hpl
end
def Bd (n : Nat) (i : Int) : Prop := i.natAbs < 2 ^ n
theorem Bd.mono (h : Bd m i) (hm : m ≤ n) : Bd n i := Nat.lt_of_lt_of_le h (Nat.pow_le_pow_right (by decide) hm)
structure JE (X : Cx) (e : Expr) (t : TE) : Prop where h : PE X e t
structure JT (X : Cx) (e : Expr) (t : TT) : Prop where h : PT X e t
structure JW (X : Cx) (e : Expr) (t : TT) : Prop where h : PW X e t
structure JA (X : Cx) (es : List Expr) (t : TA) : Prop where h : PA X es t
structure JO (X : Cx) (e : Option Expr) (t : TO) : Prop where h : PO X e t
structure JI (X : Cx) (tg it : Expr) (t : TI) : Prop where h : PI X tg it t
structure JG (X : Cx) (tg : Expr) (t : TG) : Prop where h : PG X tg t
structure JS (X : Cx) (st : Stmt) (t : TS) : Prop where h : PS X st t
structure JSs (X : Cx) (st : List Stmt) (t : TS) : Prop where h : PSs X st t
structure JEx (X : Cx) (e : Expr) (t : TEx) : Prop where h : PEx X e t
structure JSx (X : Cx) (st : Stmt) (t : TSx) : Prop where h : PSx X st t
structure JSsx (X : Cx) (st : List Stmt) (t : TSx) : Prop where h : PSsx X st t
structure JOp (X : Cx) (op : Operator) (r : R2) : Prop where h : OpR X (binaryOp op) r
structure JCop (X : Cx) (op : CmpOp) (r : R2) : Prop where h : OpR X (compareOp op) r
section
variable {es rest : List Expr} {x n : Str}
theorem j_int : JE X (.Constant (.int k) q pos) (tC (.int k)) := ⟨pe_int⟩
theorem j_bl : JE X (.Constant (.bool k) q pos) (tC (.bl k)) := ⟨pe_bl⟩
theorem j_non : JE X (.Constant .none q pos) (tC .non) := ⟨pe_non⟩
theorem j_str : JE X (.Constant (.str k) q pos) (tC (.str k)) := ⟨pe_str⟩
theorem j_name (h : At X.N i x) (hk : X.env.scope.names.lookup x = some .local) (hd : (x == ("__debug__" : Str)) = false) (hcd : (x == ("__classdict__" : Str)) = false) : JE X (.Name x pos) (tVar i) := ⟨r_name h hk hd hcd⟩
theorem j_bin (ho : JOp X op r) (ha : JE X a ta) (hb : JE X b tb) : JE X (.BinOp a op b pos) (tOp r ta tb) := ⟨r_bin ho.h ha.h hb.h⟩
theorem o_sub : JOp X .Sub (rI0 fun i j => .int (i - j)) := ⟨op_sub⟩
theorem o_mod : JOp X .Mod (rI (fun _ j => 0 < j) fun i j => .int (i % j)) := ⟨op_mod⟩
theorem o_fdiv : JOp X .FloorDiv (rI CDivB fun i j => .int (i / j)) := ⟨op_fdivB⟩
theorem o_pow : JOp X .Pow (rI CPow fun i j => .int (i ^ j.toNat)) := ⟨op_pow⟩
theorem c_eq : JCop X .Eq rEq := ⟨op_eq⟩
theorem c_ne : JCop X .NotEq rNe := ⟨op_ne⟩
theorem c_lt : JCop X .Lt (rI0 fun i j => .bl (decide (i < j))) := ⟨op_lt⟩
theorem c_le : JCop X .LtE (rI0 fun i j => .bl (decide (i ≤ j))) := ⟨op_le⟩
theorem c_gt : JCop X .Gt (rI0 fun i j => .bl (decide (j < i))) := ⟨op_gt⟩
theorem c_ge : JCop X .GtE (rI0 fun i j => .bl (decide (j ≤ i))) := ⟨op_ge⟩
theorem j_ix (hs : PlainIx b) (ha : JE X a ta) (hb : JE X b tb) : JE X (.Subscript a b pos) (tOp (rIx X.K) ta tb) := ⟨r_ix hs ha.h hb.h⟩
theorem j_onone : JO X none tNoPart := ⟨po_none⟩
theorem j_osome (h : JE X e te) : JO X (some e) (tPart te) := ⟨po_some h.h⟩
theorem j_tup (h : JA X es t) : JE X (.Tuple es k pos) (tTupS t) := ⟨r_tupS h.h⟩
theorem j_lst (h : JA X es t) : JE X (.List es pos) (tLstS t) := ⟨r_lstS h.h⟩
theorem j_dict0 : JE X (.Dict [] [] pos) tDNewS := ⟨r_dict0S⟩
theorem j_cmp (h1 : op ≠ .In) (h2 : op ≠ .NotIn) (ho : JCop X op r) (ha : JE X a ta) (hb : JE X b tb) : JE X (.Compare a [op] [b] pos) (tOp r ta tb) := ⟨r_cmp h1 h2 ho.h ha.h hb.h⟩
theorem j_neg (ha : JE X a ta) : JE X (.UnaryOp .USub a pos) (tUn (rU fun i => .int (-i)) ta) := ⟨r_neg ha.h⟩
theorem j_not (ha : JE X a ta) : JE X (.UnaryOp .Not a pos) (tNotV ta) := ⟨pe_not ha.h⟩
theorem j_and (ha : JE X a ta) (hb : JE X (.BoolOp .And (b :: rest) pos) tb) : JE X (.BoolOp .And (a :: b :: rest) pos) (tAndV ta tb) := ⟨pe_and ha.h hb.h⟩
theorem j_one (h : JE X a ta) : JE X (.BoolOp op [a] pos) ta := ⟨pe_one h.h⟩
theorem j_append (hbase : attributeBase o "append" X.env (eval o X.env) = eval o X.env) (hfew : ((backTo cpos (starEach [e] X.env)).all (fun x => !x.1) && (backToKw cpos (keywordEach [] X.env)).all (fun x => x.1.isSome)
 && decide (([e] : List Expr).length + ([] : List Keyword).length + (if ([] : List Keyword).isEmpty then 0 else 1) < 30)) = true) (hline : (apos.endLine == cpos.line) = true) (hs : starEach [e] X.env = (false, eval e X.env) :: starEach [] X.env)
 (hpl : (backTo cpos (starEach [] X.env)).any (·.1) = false) (ho : JE X o to) (ha : JA X [e] t) : JE X (.Call (.Attribute o "append" apos) [e] [] cpos) (tBM X.K "list" rAppend to t) := ⟨r_append hbase hfew hline hs hpl ho.h ha.h⟩
theorem j_call (c : Callee CX0 X.prog X.w X.K X.mg X.base x k ps sp) (hr : Room k X.A) (hg : Gl X x) (hdb : (x == ("__debug__" : Str)) = false)
 (he : starEach (e :: es) X.env = (false, eval e X.env) :: starEach es X.env) (hpl : (backTo pos (starEach es X.env)).any (·.1) = false) (ha : JA X (e :: es) t) : JE X (.Call (.Name x p) (e :: es) [] pos) (tCall sp [] E0 t) := ⟨r_call c hr hg hdb he hpl ha.h⟩
theorem j_callX (c : Callee (CXF X.prog X.w) X.prog X.w X.K X.mg X.base x k ps sp) (hx : Passes (CXF X.prog X.w) X E) (hr : Room k X.A) (hg : Gl X x) (hdb : (x == ("__debug__" : Str)) = false)
 (he : starEach (e :: es) X.env = (false, eval e X.env) :: starEach es X.env) (hpl : (backTo pos (starEach es X.env)).any (·.1) = false) (ha : JA X (e :: es) t) : JE X (.Call (.Name x p) (e :: es) [] pos) (tCall sp [] E t) := ⟨r_callX c hx hr hg hdb he hpl ha.h⟩
section
variable (hg : Gl X x) (he : starEach (e :: es) X.env = (false, eval e X.env) :: starEach es X.env) (hpl : (backTo pos (starEach es X.env)).any (·.1) = false)
include hg he hpl
theorem j_len (hx : x = "len") (hm : X.mg x = none) (ha : JA X (e :: es) t) : JE X (.Call (.Name x p) (e :: es) [] pos) (tCB (rLen X.K) t) := ⟨r_len hg he hpl hx hm ha.h⟩
theorem j_abs (hx : x = "abs") (hm : X.mg x = none) (ha : JA X (e :: es) t) : JE X (.Call (.Name x p) (e :: es) [] pos) (tCB (fun xs H Q => ∃ i, xs = [.int i] ∧ Q (.int (if i < 0 then -i else i)) H) t) := ⟨r_abs hg he hpl hx hm ha.h⟩
theorem j_max (hx : x = "max") (hc : X.calm = true) (hm : X.mg x = none) (ha : JA X (e :: es) t) : JE X (.Call (.Name x p) (e :: es) [] pos) (tCB (fun xs H Q => ∃ i j, xs = [.int i, .int j] ∧ Q (.int (if j > i then j else i)) H) t) := ⟨r_max hg he hpl hx hc hm ha.h⟩
theorem j_min (hx : x = "min") (hc : X.calm = true) (hm : X.mg x = none) (ha : JA X (e :: es) t) : JE X (.Call (.Name x p) (e :: es) [] pos) (tCB (fun xs H Q => ∃ i j, xs = [.int i, .int j] ∧ Q (.int (if j < i then j else i)) H) t) := ⟨r_min hg he hpl hx hc hm ha.h⟩
theorem j_intc (hx : x = "int") (hm : X.mg x = none) (ha : JA X (e :: es) t) : JE X (.Call (.Name x p) (e :: es) [] pos) (tCB (fun xs H Q => (∃ i, xs = [.int i] ∧ Q (.int i) H) ∨ ∃ k, xs = [.bl k] ∧ Q (.int (if k then 1 else 0)) H) t) := ⟨r_intc hg he hpl hx hm ha.h⟩
end
theorem j_nil : JA X [] tNil := ⟨pa_nil⟩
theorem j_cons (hs : starEach (e :: es) X.env = (false, eval e X.env) :: starEach es X.env) (ha : JE X e te) (hr : JA X es t) : JA X (e :: es) (tCons te t) := ⟨r_acons hs ha.h hr.h⟩
theorem u_cmp (h1 : op ≠ .In) (h2 : op ≠ .NotIn) (ho : JCop X op r) (ha : JE X a ta) (hb : JE X b tb) : JT X (.Compare a [op] [b] pos) (tTest (tOp r ta tb)) := ⟨t_cmp h1 h2 ho.h ha.h hb.h⟩
theorem u_or (h : JW X (.BoolOp .Or es pos) tA) : JT X (.BoolOp .Or es pos) tA := ⟨h.h.pt⟩
theorem u_and (h : JW X (.BoolOp .And es pos) tA) : JT X (.BoolOp .And es pos) tA := ⟨h.h.pt⟩
theorem u_not (ha : JT X a tA) : JT X (.UnaryOp .Not a pos) (tNot tA) := ⟨pt_not ha.h⟩
theorem u_call (h : JE X (.Call f es ks pos) te) : JT X (.Call f es ks pos) (tB te) := ⟨t_call h.h⟩
theorem w_and1 (ha : JT X a tA) : JW X (.BoolOp .And [a] pos) tA := ⟨pw_and1 ha.h⟩
theorem w_or1 (ha : JT X a tA) : JW X (.BoolOp .Or [a] pos) tA := ⟨pw_or1 ha.h⟩
theorem w_and (ha : JT X a tA) (hb : JW X (.BoolOp .And (b :: rest) pos) tB') : JW X (.BoolOp .And (a :: b :: rest) pos) (tAnd tA tB') := ⟨pw_and ha.h hb.h⟩
theorem w_or (ha : JT X a tA) (hb : JW X (.BoolOp .Or (b :: rest) pos) tB') : JW X (.BoolOp .Or (a :: b :: rest) pos) (tOr tA tB') := ⟨pw_or ha.h hb.h⟩
theorem i_range1 (hx : x = "range") (hg : Gl X x) (hm : X.mg x = none) (hs : starEach [a] X.env = [(false, eval a X.env)]) (ha : JA X [a] t) : JI X tg (.Call (.Name x p) [a] [] pos) (iRng1 t) := ⟨r_irange1 hx hg hm hs ha.h⟩
theorem i_range2 (hx : x = "range") (hg : Gl X x) (hm : X.mg x = none) (hs : starEach [a, b] X.env = [(false, eval a X.env), (false, eval b X.env)]) (hs2 : starEach [b] X.env = [(false, eval b X.env)]) (ha : JA X [a, b] t) : JI X tg (.Call (.Name x p) [a, b] [] pos) (iRng2 t) := ⟨r_irange2 hx hg hm hs hs2 ha.h⟩
theorem g_name (h : At X.N i x) (hN : X.N.Nodup) (hk : X.env.scope.names.lookup x = some .local) : JG X (.Name x pos) (gName i) := ⟨r_gname h hN hk⟩
variable {st : Stmt}
theorem s_ret (he : JE X e te) : JS X (.Return (some e) pos) (tRet te) := ⟨r_ret he.h⟩
theorem s_set (h : At X.N i x) (hN : X.N.Nodup) (hk : X.env.scope.names.lookup x = some .local) (hs : swapsWith e (some (.Name x p)) pos.line X.env = pure false) (he : JE X e te) : JS X (.Assign [.Name x p] e pos) (tAsg te (gName i)) := ⟨r_set h hN hk hs he.h⟩
theorem s_expr (hs : swapsWith e none pos.line X.env = pure false) (he : JE X e te) : JS X (.Expr e pos) (tDrop te) := ⟨r_expr hs he.h⟩
theorem s_if (hc : JT X c tA) (ha : JSs X aa t1) (hb : JSs X bb t2) : JS X (.If c aa bb pos) (tMid (tIfS tA t1 t2)) := ⟨r_ifM hc.h ha.h hb.h⟩
theorem s_for {tb : TS} (hp : PassesOwn (model X.prog X.w) X.A X.env X.xe) (hc : X.calm = true) (hs : ∀ x, foldedSetIterable iter X.env x = pure x) (hi : JI X tg iter wi) (hg : JG X tg g) (hb : JSs X body tb) : JS X (.For tg iter body [] pos) (tFor wi g tb) := ⟨r_for hp hc hs hi.h hg.h hb.h⟩
theorem s_while {tb : TS} (hp : PassesOwn (model X.prog X.w) X.A X.env X.xe) (hc : JT X c tA) (hb : JSs X body tb) : JS X (.While c body [] pos) (tWhile tA tb) := ⟨r_while hp hc.h hb.h⟩
theorem s_unpack2 (hi : At X.N i x) (hj : At X.N j y) (hc : X.calm = true) (hN : X.N.Nodup) (hx : X.env.scope.names.lookup x = some .local) (hy : X.env.scope.names.lookup y = some .local)
 (h1 : (assignEach [.Name x px, .Name y py] X.env).map (·.2) = assign (.Name x px) X.env :: (assignEach [.Name y py] X.env).map (·.2))
 (h2 : (assignEach [.Name y py] X.env).map (·.2) = assign (.Name y py) X.env :: (assignEach [] X.env).map (·.2))
 (hn : (assignEach [.Name x px, .Name y py] X.env).length = 2) (hst : (assignEach [.Name x px, .Name y py] X.env).findIdx? (·.1) = none)
 (hs : swapsWithSole [.Tuple [.Name x px, .Name y py] kt pt] e pos.line X.env = pure false) (hw : swappedStores [.Tuple [.Name x px, .Name y py] kt pt] e X.env = pure none)
 (h3 : (assignEach [.Tuple [.Name x px, .Name y py] kt pt] X.env).map (·.2) = [assign (.Tuple [.Name x px, .Name y py] kt pt) X.env]) (he : JE X e te) :
 JS X (.Assign [.Tuple [.Name x px, .Name y py] kt pt] e pos) (tAsg te (gTup X.K 2 (gCons (gName i) (gCons (gName j) gNil)))) := ⟨r_unpack2 hi hj hc hN hx hy h1 h2 hn hst hs hw h3 he.h⟩
theorem s_raise (ec : ECls X.K X.mg x C B) (hg : Gl X x) (hc : X.calm = true) (ht : Throws X E) (hdb : (x == ("__debug__" : Str)) = false) (hst : starEach [e0] X.env = [(false, eval e0 X.env)]) (he : JE X e0 te) :
 JS X (.Raise (some (.Call (.Name x np) [e0] [] cpos)) none pos) (tRaise C E te) := ⟨r_raise ec hg hc ht hdb hst he.h⟩
theorem ss_nil : JSs X [] tNext := ⟨pss_nil⟩
theorem ss_cons (h1 : JS X st t1) (h2 : JSs X sts t2) : JSs X (st :: sts) (tSeq t1 t2) := ⟨pss_cons h1.h h2.h⟩
theorem x_call (c : Callee (CXF X.prog X.w) X.prog X.w X.K X.mg X.base x k ps sp) (hr : Room k X.A) (hg : Gl X x) (hdb : (x == ("__debug__" : Str)) = false)
 (he : starEach (e :: es) X.env = (false, eval e X.env) :: starEach es X.env) (hpl : (backTo pos (starEach es X.env)).any (·.1) = false) (hex : X.ex = []) (ha : JA X.nox (e :: es) t) : JEx X (.Call (.Name x p) (e :: es) [] pos) (tCallx sp t) := ⟨pex_call c hr hg hdb he hpl hex ha.h⟩
theorem x_ret {tx : TEx} (he : JEx X e tx) : JSx X (.Return (some e) pos) (tRetx tx) := ⟨psx_ret he.h⟩
theorem xx_nil : JSsx X [] tNextx := ⟨pssx_nil⟩
theorem xx_cons (h1 : JSx X st u1) (h2 : JSsx X sts u2) : JSsx X (st :: sts) (tSeqx u1 u2) := ⟨pssx_cons h1.h h2.h⟩
end
section
variable {K : PySem.W.Frag} {st : Stmt}
theorem Fun.j (F : Fun K x qual st f fd) (S : FnScope N ps (defScope st)) (len : ∀ vs H Q E, sp vs H Q E → vs.length = ps.length)
 (hbody : ∀ (cdv : Value) (A : Around) (outer : List Env) (s : Shared) (H : Hp) (vs : List V) (Q : VK) (E : XK), Room k (A.deeper (envOfC qual (defScope st) s.heap.objs.size f cdv)) → sp vs H Q E →
  ∃ t, JSs (cxOf CX0 P w K mg base N qual (defScope st) f cdv A outer s H E).nox (defBody st) t ∧ t { nx := fun _ H' => Q .non H', rt := Q } (start N vs) H) : FnOk P w K mg base CX0 (k + 1) f fd ps sp :=
 L2.Fun.ok F S len fun cdv A outer s H vs Q E hr h => let ⟨t, a, b⟩ := hbody cdv A outer s H vs Q E hr h; ⟨t, a.h, b⟩
theorem Fun.jX (F : Fun K x qual st f fd) (S : FnScope N ps (defScope st)) (len : ∀ vs H Q E, sp vs H Q E → vs.length = ps.length)
 (hbody : ∀ (cdv : Value) (A : Around) (outer : List Env) (s : Shared) (H : Hp) (vs : List V) (Q : VK) (E : XK), Room k (A.deeper (envOfC qual (defScope st) s.heap.objs.size f cdv)) → sp vs H Q E →
  ∃ t, JSs (cxOf (CXF P w) P w K mg base N qual (defScope st) f cdv A outer s H E) (defBody st) t ∧ t { nx := fun _ H' => Q .non H', rt := Q } (start N vs) H) : FnOk P w K mg base (CXF P w) (k + 1) f fd ps sp :=
 Br.Fun.okX F S len fun cdv A outer s H vs Q E hr h => let ⟨t, a, b⟩ := hbody cdv A outer s H vs Q E hr h; ⟨t, a.h, b⟩
end
end Br
namespace Br
end Br
namespace Br
open PySem PySem.Spec PySem.Calls PyProof.Rows L2
mutual
inductive Rep (H : Hp) : V → PyData → Prop
 | non : Rep H .non .none
 | bl (b : Bool) : Rep H (.bl b) (.bool b)
 | int (i : Int) : Rep H (.int i) (.int i)
 | str (x : Str) : Rep H (.str x) (.str x)
 | tup {a : Addr} {xs : List V} {ds : List PyData} (h : H a = some (.tup xs)) (r : Reps H xs ds) : Rep H (.ref a) (.tuple ds)
 | lst {a : Addr} {xs : List V} {ds : List PyData} (h : H a = some (.lst xs)) (r : Reps H xs ds) : Rep H (.ref a) (.list ds)
inductive Reps (H : Hp) : List V → List PyData → Prop
 | nil : Reps H [] []
 | cons {x : V} {xs : List V} {d : PyData} {ds : List PyData} (h : Rep H x d) (r : Reps H xs ds) : Reps H (x :: xs) (d :: ds)
end
section
mutual
theorem Rep.reads (ok : HOk P w H h) : ∀ {v : V} {d : PyData} {u : Value}, Rep H v d → RelV v u → ∃ as, Reads h u d as
 | _, _, _, .non, r => by cases (show _ = Value.none from r); exact ⟨_, .none⟩
 | _, _, _, .bl b, r => by cases (show _ = Value.bool b from r); exact ⟨_, .bool b⟩
 | _, _, _, .int i, r => by obtain ⟨t, e⟩ := (show ∃ t, _ = Value.int i t from r); subst e; exact ⟨_, .int i t⟩
 | _, _, _, .str x, r => by obtain ⟨t, e⟩ := (show ∃ t, _ = Value.str x t from r); subst e; exact ⟨_, .str x t⟩
 | _, _, _, .tup (a := a) (xs := xs) q rs, r => by
  cases (show _ = Value.ref a from r)
  obtain ⟨_, its, rv, o, h1, h2, _, n, h3⟩ := (show ObjOk P w H h a (.tup xs) from ok a _ q)
  obtain ⟨as, z⟩ := Reps.reads ok rs rv
  exact ⟨_, .tuple h1 h2 h3 (by simpa using z)⟩
 | _, _, _, .lst (a := a) (xs := xs) q rs, r => by
  cases (show _ = Value.ref a from r)
  obtain ⟨_, its, n, rv, h1⟩ := (show ObjOk P w H h a (.lst xs) from ok a _ q)
  obtain ⟨as, z⟩ := Reps.reads ok rs rv
  exact ⟨_, .list h1 rfl rfl (by simpa using z)⟩
theorem Reps.reads (ok : HOk P w H h) : ∀ {vs : List V} {ds : List PyData} {us : List Value}, Reps H vs ds → Vals vs us → ∃ as, ReadsAll h us ds as
 | _, _, _, .nil, .nil => ⟨_, .nil⟩
 | _, _, _, .cons q rs, .cons r t => by
  obtain ⟨as, z⟩ := Rep.reads ok q r
  obtain ⟨bs, y⟩ := Reps.reads ok rs t
  exact ⟨_, .cons z y⟩
end
end
def Pl (d : PyData) : Prop := d.canLay0 = true ∧ d.depth ≤ 60
section
def rEqD : R2 := fun x y H Q => ∃ d d', Rep H x d ∧ Rep H y d' ∧ Pl d ∧ Pl d' ∧ Q (.bl (PyData.eqv d d')) H
def rNeD : R2 := fun x y H Q => ∃ d d', Rep H x d ∧ Rep H y d' ∧ Pl d ∧ Pl d' ∧ Q (.bl (!PyData.eqv d d')) H
theorem op_eqD (hr : Room k X.A) : OpR X (compareOp .Eq) rEqD := by
 intro pins s σ H x y v u Q I rx ry h
 obtain ⟨d, d', h1, h2, p1, p2, q⟩ := h
 obtain ⟨as, r1⟩ := h1.reads I.hok rx
 obtain ⟨bs, r2⟩ := h2.reads I.hok ry
 have hu := hr.un
 exact SeqAt.compareEq_reads r1 r2 p1.1 p2.1 (by have := p1.2; omega) ⟨.bl _, H, I, rfl, q⟩
theorem op_neD (hr : Room k X.A) : OpR X (compareOp .NotEq) rNeD := by
 intro pins s σ H x y v u Q I rx ry h
 obtain ⟨d, d', h1, h2, p1, p2, q⟩ := h
 obtain ⟨as, r1⟩ := h1.reads I.hok rx
 obtain ⟨bs, r2⟩ := h2.reads I.hok ry
 have hu := hr.un
 exact SeqAt.compareNe_reads r1 r2 p1.1 p2.1 (by have := p1.2; omega) ⟨.bl _, H, I, rfl, q⟩
theorem c_eqD (hr : Room k X.A) : JCop X .Eq (fun x y H Q => rEq x y H Q ∨ rEqD x y H Q) := ⟨op_eq.or (op_eqD hr)⟩
theorem c_neD (hr : Room k X.A) : JCop X .NotEq (fun x y H Q => rNe x y H Q ∨ rNeD x y H Q) := ⟨op_ne.or (op_neD hr)⟩
end
section
abbrev testsOf (ifs : List Expr) (env : Env) : Sem Bool := forIn ifs true fun c r => if r = true then do let ok ← isTrue c env (eval c env); pure (ForInStep.yield ok) else pure (ForInStep.yield r)
theorem compLoop_go (I : Nat → Shared → Prop)
 (turn : ∀ n s, I n s → wpAny (model prog w) A (pyNext it) (fun r s₁ => match r with
  | none => R (.ok .next) s₁
  | some v => wpAny (model prog w) A (letOwnedTupleGo target it v) (fun _ s₁ => wpAny (model prog w) A (assign target env v) (fun _ s₂ =>
   wpAny (model prog w) A (testsOf ifs env) (fun ok s₃ =>
    if ok = true then wpAny (model prog w) A (eval elt env) (fun x s₄ =>
     wpAny (model prog w) A (call (.builtin "list.append") [acc, x]) (fun _ s₅ => ∃ m, m < n ∧ I m s₅) (fun _ _ => False) s₄) (fun _ _ => False) s₃
    else ∃ m, m < n ∧ I m s₃) (fun _ _ => False) s₂) (fun _ _ => False) s₁) (fun _ _ => False) s₁) (fun _ _ => False) s)
 (n : Nat) (h : I n s) :
 codeAny (model prog w) A (.compLoop (.ListComp elt [⟨target, iter, ifs, 0⟩] scope pos) 0 it acc env) R s := by
 refine codeAny_loop rfl I (fun n s hI => ?_) n h
 refine wpAny_noted (wpAny_mono (E := fun _ _ => False) ?_ (fun _ _ q => q) fun _ _ f => f.elim)
 rw [compTurn_list]
 refine wpAny_bind (wpAny_standAt (wpAny_bind (thn (turn n s hI) fun r s₁ h₁ => ?_)))
 cases r with
 | none => exact wpAny_pure h₁
 | some v =>
  refine wpAny_bind (thn h₁ fun _ s₁ h₁ => wpAny_bind (thn h₁ fun _ s₂ h₂ => wpAny_bind (thn h₂ fun ok s₃ h₃ => ?_)))
  cases ok with
  | false => exact wpAny_pure ⟨rfl, h₃⟩
  | true => exact wpAny_bind (wpAny_bind (thn h₃ fun x s₄ h₄ => wpAny_bind (thn h₄ fun _ s₅ h₅ => wpAny_pure (wpAny_pure ⟨rfl, h₅⟩))))
end
def clOf (scope : Scope) (env : Env) : List (Str × Addr) := (scope.names.filter fun x => x.2 == NameKind.free).reverse.map fun x => (x.1, (env.cells.lookup x.1).getD 0)
theorem closure_go : ∀ (l : List (Str × NameKind)) (cs : List (Str × Addr)), (∀ y ∈ l, y.2 = .free → ∃ c, env.cells.lookup y.1 = some c) →
 (forIn l cs fun (x : Str × NameKind) cs => (do
  if x.2 == .free then do let c ← cellOf env x.1; pure (ForInStep.yield ((x.1, c) :: cs)) else pure (ForInStep.yield cs) : Sem _)) =
  pure (((l.filter fun x => x.2 == NameKind.free).reverse.map fun x => (x.1, (env.cells.lookup x.1).getD 0)) ++ cs)
 | [], cs, _ => rfl
 | (n, k) :: r, cs, h => by
  have ih := fun cs => closure_go r cs fun y hy => h y (.tail _ hy)
  by_cases hk : k = .free
  · subst hk
    obtain ⟨c, hc⟩ := h (n, .free) (.head _) rfl
    have e1 : cellOf env n = pure c := by unfold cellOf; rw [hc]
    simp_all
  simp_all
theorem closure_of (h : ∀ y ∈ scope.names, y.2 = .free → ∃ c, env.cells.lookup y.1 = some c) : closureFor scope env = pure (clOf scope env) := by
 have q := closure_go scope.names [] h
 rw [List.append_nil] at q
 exact (congrArg (fun t => t >>= fun a => pure a) q).trans rfl
theorem clOf_sub (h : ∀ y ∈ scope.names, y.2 = .free → ∃ c, env.cells.lookup y.1 = some c) (e : (clOf scope env).lookup x = some c) : env.cells.lookup x = some c ∧ (x, NameKind.free) ∈ scope.names := by
 have hm := PySem.mem_of_lookup e
 obtain ⟨⟨n, k⟩, hy, e2⟩ := List.mem_map.mp hm
 have hf := List.mem_filter.mp (List.mem_reverse.mp hy)
 grind
theorem lookup_some_of_mem {l : List (Str × Addr)} (h : (x, c) ∈ l) : ∃ c', l.lookup x = some c' := by
 induction l with
 | nil => grind
 | cons a r ih =>
  obtain ⟨n, d⟩ := a
  rw [List.lookup_cons]
  cases e : x == n with
  | true => simp
  | false =>
   simp_all
theorem clOf_has (h : ∀ y ∈ scope.names, y.2 = .free → ∃ c, env.cells.lookup y.1 = some c) (hx : (x, NameKind.free) ∈ scope.names) : ∃ c, (clOf scope env).lookup x = some c :=
 lookup_some_of_mem (List.mem_map.mpr ⟨(x, .free), List.mem_reverse.mpr (List.mem_filter.mpr ⟨hx, rfl⟩), rfl⟩)
theorem relabel_mem {env : Env} : ∀ {names : List (Str × NameKind)} {x : Str} {k : NameKind}, (names.map fun (n, k) => if (k == NameKind.free && env.scope.kind == .function && env.kindOf n == some .cell) then (n, NameKind.cell) else (n, k)).lookup x = some k →
 ∃ k0, names.lookup x = some k0 ∧ (k0 = k ∨ (k0 = .free ∧ k = .cell))
 | [], _, _, h => by simp at h
 | (n, k0) :: r, x, k, h => by
  have ih := @relabel_mem env r x k
  have h : List.lookup x ((if _ = true then (n, NameKind.cell) else (n, k0)) :: _) = _ := h
  rw [List.lookup_cons]
  by_cases hc : (k0 == NameKind.free && env.scope.kind == .function && env.kindOf n == some .cell) = true
  · rw [if_pos hc, List.lookup_cons] at h
    cases e : x == n with
    | true =>
     simp_all
    | false => rw [e] at h; exact ih h
  · rw [if_neg hc, List.lookup_cons] at h
    cases e : x == n with
    | true => grind
    | false => rw [e] at h; exact ih h
def dotS (y : Str) : Str := ⟨(33 :: y.cps.toList).toArray⟩
def hid (scope : Scope) (y : Str) : Str := match scope.names.lookup y with
 | some .local => dotS y
 | _ => y
theorem hid_cases (scope : Scope) (y : Str) : (scope.names.lookup y = some .local ∧ hid scope y = dotS y) ∨ (scope.names.lookup y ≠ some .local ∧ hid scope y = y) := by
 unfold hid
 split
 · simp_all
 simp_all
def cxC (X : Cx) (Nc : List Str) (scope : Scope) (C : Addr) (s : Shared) (H : Hp) (fp : List Addr) : Cx :=
 { X with N := Nc ++ X.N.map (hid scope), s₀ := s, H₀ := H, env := compEnvC scope (clOf scope X.env) C X.env, outer := X.stack, ex := fp, fn := fun _ => false, pn := [], xe := fun _ _ => False }
structure CompS (X : Cx) (scope : Scope) : Prop where
 kind : scope.kind = .function
 nocell : ∀ y ∈ scope.names, y.2 ≠ .cell
 names : ∀ y ∈ scope.names, y.2 = .local → scope.names.lookup y.1 = some .local
 free : ∀ y ∈ scope.names, y.2 = .free → X.env.kindOf y.1 = some .cell ∨ X.env.kindOf y.1 = some .free
 dot : ∀ y, scope.names.lookup (dotS y) = none
 nd : (X.N.map (hid scope)).Nodup
def PIfs (X : Cx) (ifs : List Expr) (t : TT) : Prop :=
 ∀ (pins : List (Addr × Obj)) (s : Shared) (σ : L2.St) (H : Hp) (Q : Bool → Hp → Prop), Inv X pins σ H s → t σ H Q → wpAny (model X.prog X.w) X.A (testsOf ifs X.env) (TP X pins σ Q) X.xe s
def tYes : TT := fun _ H Q => Q true H
section
theorem pifs_nil : PIfs X [] tYes := fun pins s σ H Q I h => wpAny_tests_nil ⟨H, I, h⟩
theorem pifs_one (h : PT X c tt) : PIfs X [c] tt := fun pins s σ H Q I q => wpAny_tests_one (h pins s σ H Q I q)
end
section
variable {σ : L2.St}
def Cmp (J : It) (g : TG) (tt : TT) (te : TE) (σ0 : L2.St) (H0 : Hp) (Z : List V → Hp → Prop) : Prop :=
 ∃ W : Nat → Nat → List V → L2.St → Hp → Prop, (∃ m, W 0 m [] σ0 H0) ∧ ∀ i m ys σ' H', W i m ys σ' H' → ys.length ≤ sizeLine ∧
  ((J.stop i H' ∧ Z ys H') ∨
   (J.go i H' ∧ ∀ x H2, J.yld i H' x H2 → g x σ' H2 fun σ3 H3 => tt σ3 H3 fun b H4 => if b = true then te σ3 H4 fun y H5 => ∃ m', m' < m ∧ W (i + 1) m' (ys ++ [y]) σ3 H5 else ∃ m', m' < m ∧ W (i + 1) m' ys σ3 H4))
theorem inv_block {Nc : List Str} {scope : Scope} {fp : List Addr} {h1 : Heap} {D C : Addr} {t' : Nat} (I : Inv X pins σ H s) (S : CompS X scope) (hf : ∀ b ∈ fp, FpOk X pins H b) (hob : ∀ b ∈ fp, ∃ o, s.heap.get? b = some o)
 (hC : s.heap.objs.size ≤ C) (old : ∀ b o, s.heap.get? b = some o → h1.get? b = some o) (hn : h1.Ns C fun _ => none) :
 Inv (cxC X Nc scope C s H fp) [] (List.replicate Nc.length none ++ σ) H { s with heap := h1, toks := t' } := by
 have hcells : ∀ y ∈ scope.names, y.2 = .free → ∃ c, X.env.cells.lookup y.1 = some c := fun y hy e => I.ok.has y.1 (S.free y hy e)
 have hsub : ∀ {x : Str} {c : Addr}, (clOf scope X.env).lookup x = some c → X.env.cells.lookup x = some c := fun e => (clOf_sub hcells e).1
 have hlt : ∀ x c, X.env.cells.lookup x = some c → c < s.heap.objs.size := fun x c e => let ⟨v, q⟩ := I.cell x c e; q.lt
 refine ⟨⟨I.ok.mod, S.kind, I.ok.glob, I.ok.blt, hC, fun x y c e1 e2 => I.ok.inj x y c (hsub e1) (hsub e2), fun x hx => ?_, fun x c z _ => ?_, I.ok.hd, I.ok.frames, .inl rfl, fun b hb => ⟨?_, fun x c e => (hf b hb).2.2.2.2.1 x c (hsub e)⟩, I.bs, ?_, ?_, ?_, I.stack, I.stkFree⟩,
  rfl, I.bare, Un.kept old, ⟨_, hn, fun i x v e1 e2 e3 => ?_⟩, fun x c e => ?_, I.hok.fresh hC, fun x c e => I.freeC x c (hsub e), fun p hp => absurd (show p ∈ ([] : List (Addr × Obj)) from hp) (by simp), I.hok.kept old, ?_⟩
 · have hx : (relabel scope X.env).names.lookup x = some .cell ∨ (relabel scope X.env).names.lookup x = some .free := hx
   have go : ∀ k, (k = .cell ∨ k = .free) → (relabel scope X.env).names.lookup x = some k → ∃ c, (clOf scope X.env).lookup x = some c := fun k hk e => by
    obtain ⟨k0, e0, h0⟩ := relabel_mem (env := X.env) (names := scope.names) e
    have hm := PySem.mem_of_lookup e0
    have : k0 = .free := by
     rcases h0 with h0 | h0
     · subst h0
       rcases hk with hk | hk
       · exact absurd hk (S.nocell _ hm)
       · exact hk
     · exact h0.1
    subst this
    exact clOf_has hcells hm
   rcases hx with e | e
   · exact go _ (.inl rfl) e
   · exact go _ (.inr rfl) e
 · have z : false = true := z
   cases z
 · obtain ⟨o, e⟩ := hob b hb
   exact Nat.ne_of_lt (Nat.lt_of_lt_of_le (Heap.lt_size e) hC)
 · exact Nat.le_trans I.ok.bsz I.sz
 · intro b o e hb
   rcases (hf b hb).2.2.2.1 with z | z
   · exact I.ok.noex b o e z
   · exact absurd (Nat.lt_of_lt_of_le (Heap.lt_size e) (Nat.le_trans I.ok.bsz z)) (Nat.lt_irrefl _)
 · intro b hb hm
   rcases List.mem_cons.mp (I.stkSub b hm) with z | z
   · exact (hf b hb).2.1 z
   · exact (hf b hb).2.2.1 z
 · have e1 : (Nc ++ X.N.map (hid scope))[i]? = some x := e1
   have e3 : Vis (relabel scope X.env) x := e3
   have hi : Nc.length ≤ i := by
    refine Nat.not_lt.mp fun z => ?_
    rw [List.getElem?_append_left (by simpa using z), List.getElem?_replicate] at e2
    split at e2 <;> cases e2
   rw [List.getElem?_append_right hi] at e1
   rw [List.getElem?_append_right (by simpa using hi), List.length_replicate] at e2
   rw [List.getElem?_map] at e1
   obtain ⟨x0, ex0, hx0⟩ := Option.map_eq_some_iff.mp e1
   have dotn : ∀ y k, (relabel scope X.env).names.lookup (dotS y) ≠ some k := fun y k e => by
    obtain ⟨k0, e0, _⟩ := relabel_mem (env := X.env) (names := scope.names) e
    rw [S.dot] at e0; cases e0
   have hxx : x0 = x ∧ scope.names.lookup x ≠ some .local := by
    rcases hid_cases scope x0 with ⟨_, h2⟩ | ⟨h1, h2⟩
    · rw [h2] at hx0
      subst hx0
      rcases e3 with e | e | e <;> exact absurd e (dotn _ _)
    · rw [h2] at hx0
      subst hx0
      exact ⟨rfl, h1⟩
   obtain ⟨hx1, hnl⟩ := hxx
   rw [hx1] at ex0
   have e1 := ex0
   have hfree : (x, NameKind.free) ∈ scope.names ∧ (relabel scope X.env).names.lookup x ≠ some .local := by
    have go : ∀ k, (relabel scope X.env).names.lookup x = some k → (k = .local ∨ k = .cell ∨ k = .free) → (x, NameKind.free) ∈ scope.names ∧ k ≠ .local := fun k e hk => by
     obtain ⟨k0, e0, h0⟩ := relabel_mem (env := X.env) (names := scope.names) e
     have hm := PySem.mem_of_lookup e0
     rcases h0 with h0 | h0
     · subst h0
       rcases hk with hk | hk | hk
       · subst hk; exact absurd e0 hnl
       · exact absurd hk (S.nocell _ hm)
       · subst hk; exact ⟨hm, by decide⟩
     · obtain ⟨a, b⟩ := h0
       subst a; subst b
       exact ⟨hm, by decide⟩
    rcases e3 with e | e | e
    · exact absurd rfl (go _ e (.inl rfl)).2
    · exact ⟨(go _ e (.inr (.inl rfl))).1, by rw [e]; decide⟩
    · exact ⟨(go _ e (.inr (.inr rfl))).1, by rw [e]; decide⟩
   have hk := S.free _ hfree.1 rfl
   obtain ⟨m, hm, hl⟩ := I.loc
   obtain ⟨u, r, l⟩ := hl (i - Nc.length) x v e1 e2 (.inr hk)
   refine ⟨u, r, ?_⟩
   rcases l with ⟨z, _⟩ | ⟨_, c, hc, z⟩
   · have z : X.env.kindOf x = some .local := z
     rcases hk with hk | hk
     · have hk : X.env.kindOf x = some .cell := hk
       rw [hk] at z; cases z
     · have hk : X.env.kindOf x = some .free := hk
       rw [hk] at z; cases z
   · obtain ⟨c', hc'⟩ := clOf_has hcells hfree.1
     have q := hsub hc'
     rw [hc] at q; cases q
     obtain ⟨o, ho, hd⟩ := z
     refine .inr ⟨?_, c, hc', o, old _ _ ho, hd⟩
     rcases e3 with e | e | e
     · exact absurd e hfree.2
     · exact .inl e
     · exact .inr e
 · obtain ⟨v, o, ho, hd⟩ := I.cell x c (hsub e)
   exact ⟨v, o, old _ _ ho, hd⟩
 · show (List.replicate Nc.length none ++ σ).length = (Nc ++ X.N.map (hid scope)).length
   rw [List.length_append, List.length_append, List.length_replicate, List.length_map, I.len]
end
section
variable {σ : L2.St}
theorem comp_block {it : Addr} {fp : List Addr} {tn : Nat → Heap → Prop} {J : It} {Z : List V → Hp → Prop} {E : Value → Shared → Prop} {RR : Value → Addr → Result → Shared → Prop}
 (hc : X.calm = true) (S : CompS X scope) (I2 : Inv X pins σ H2 s2) (T : Turn X.prog X.w X.K tg J fp it tn) (st2 : tn 0 s2.heap) (f2 : ∀ b ∈ fp, FpOk X pins H2 b)
 (hg : ∀ C s H fp, PG (cxC X Nc scope C s H fp) tg g) (ht : ∀ C s H fp, PIfs (cxC X Nc scope C s H fp) ifs tt) (he : ∀ C s H fp, PE (cxC X Nc scope C s H fp) elt te)
 (h : Cmp J g tt te (List.replicate Nc.length none ++ σ) H2 Z)
 (hRR : ∀ D C s' H3 ys, Inv X pins σ (upd H3 D (.lst ys)) s' → H3 D = none → Z ys H3 → (∃ m, s'.heap.Ns C m) → FpOk X pins (upd H3 D (.lst ys)) C → RR (.ref D) C (.ok .next) s') :
 wpAny (model X.prog X.w) X.A (newList []) (fun acc s₃ => wpAny (model X.prog X.w) X.A (newFunctionEnv scope X.env.globals (clOf scope X.env) [] X.env.qual none .none (some X.env)) (fun cenv s₄ =>
  codeAny (model X.prog X.w) X.A (.compStart (.ListComp elt [⟨tg, iter, ifs, 0⟩] scope pos) 0 (.ref it) acc { cenv with scope := relabel scope X.env }) (RR acc cenv.locals) s₄) E s₃) E s2 := by
 refine wpAny_newObj_type (wpAny_newFunctionEnv S.nocell (by intro y hy; simp at hy) (fun h₁ hns₁ hsb₁ => ?_) S.kind)
 dsimp only at hns₁ hsb₁ ⊢
 generalize hH2 : s2.heap.push { cls := .type "list", dict := none, data := .seq ([] : List Value).toArray } = G at hns₁ hsb₁ ⊢
 have hC : G.objs.size = s2.heap.objs.size + 1 := by rw [← hH2, Heap.size_push]
 generalize hD0 : s2.heap.objs.size = D at *
 generalize hC0 : G.objs.size = C at *
 have hDC : D ≠ C := by omega
 have below : ∀ (b : Nat) o, s2.heap.get? b = some o → b < D := fun b o e => hD0 ▸ Heap.lt_size e
 have belC : ∀ (b : Nat) o, s2.heap.get? b = some o → b ≠ C := fun b o e => by have := below b o e; omega
 have belD : ∀ (b : Nat) o, s2.heap.get? b = some o → b ≠ D := fun b o e => by have := below b o e; omega
 have old : ∀ b o, s2.heap.get? b = some o → h₁.get? b = some o := fun b o e => hsb₁.extBut b o (belC b o e) (by
  have q := Heap.get?_push_of_some { cls := .type (if (some X.env).isSome then "dict" else "frame"), data := .dict #[] } (hH2 ▸ Heap.get?_push_of_some _ e : G.get? b = some o)
  exact q)
 have hacc : h₁.PlainList D #[] := ⟨_, hsb₁.extBut _ _ hDC (Heap.get?_push_of_some _ (by rw [← hH2, ← hD0]; exact Heap.get?_push_size _ rfl))⟩
 obtain ⟨W, ⟨m0, w0⟩, turn⟩ := h
 have hob : ∀ b ∈ fp, ∃ o, s2.heap.get? b = some o := fun b hb => let ⟨o, e, _⟩ := T.obj _ _ st2 b hb; ⟨o, e⟩
 have hfpD : ∀ b : Nat, b ∈ fp → b < D := fun b hb => let ⟨o, e⟩ := hob b hb; below b o e
 have hfpN : ∀ b : Nat, b ∈ fp → b ≠ D := fun b hb => Nat.ne_of_lt (hfpD b hb)
 have hcells : ∀ y ∈ scope.names, y.2 = .free → ∃ c, X.env.cells.lookup y.1 = some c := fun y hy e => I2.ok.has y.1 (S.free y hy e)
 have hsub : ∀ {x : Str} {c : Addr}, (clOf scope X.env).lookup x = some c → X.env.cells.lookup x = some c := fun e => (clOf_sub hcells e).1
 have hclt : ∀ x c, (clOf scope X.env).lookup x = some c → c < D := fun x c e => let ⟨v, q⟩ := I2.cell x c (hsub e); hD0 ▸ q.lt
 have hn0 : h₁.Ns C fun _ => none := hns₁
 have IB : Inv (cxC X Nc scope C s2 H2 fp) [] (List.replicate Nc.length none ++ σ) H2 { s2 with heap := h₁, toks := s2.toks + ([] : List (Str × Value)).length } :=
  inv_block (D := D) I2 S f2 hob (by omega) old hn0
 have hfs : ∀ b : Nat, D ≤ b → b ∉ (cxC X Nc scope C s2 H2 fp).fs := fun b hb hm => by
  obtain ⟨_, o, ho, _⟩ := IB.ok.funs.mem hm
  exact absurd (Nat.lt_of_lt_of_le (below b o ho) hb) (Nat.lt_irrefl _)
 have stat : ∀ {H' : Hp} {ps : List (Addr × Obj)}, (∀ p ∈ ps, Nat.le D p.1) → (∀ b ∈ fp, H' b = none) → ∀ b ∈ fp, FpOk (cxC X Nc scope C s2 H2 fp) ps H' b := fun {H' ps} hps hn b hb =>
  ⟨hn b hb, (let ⟨o, e⟩ := hob b hb; belC b o e), IB.ok.exfs b hb, .inl hb, fun x c e => (f2 b hb).2.2.2.2.1 x c (hsub e), fun p hp => Nat.ne_of_gt (Nat.lt_of_lt_of_le (hfpD b hb) (hps p hp))⟩
 have loop : ∀ s₃ : Shared, s₃ = { s2 with heap := h₁, toks := s2.toks + ([] : List (Str × Value)).length } →
  codeAny (model X.prog X.w) X.A (.compLoop (.ListComp elt [⟨tg, iter, ifs, 0⟩] scope pos) 0 (.ref it) (.ref D) (compEnvC scope (clOf scope X.env) C X.env)) (RR (.ref D) C) s₃ := by
  rintro s₃ rfl
  refine compLoop_go (fun n s' => ∃ i ys σ' H' us k, Inv (cxC X Nc scope C s2 H2 fp) [(D, { cls := .type "list", data := .seq (us : List Value).toArray k })] σ' H' s' ∧ Vals ys us ∧ tn i s'.heap ∧ (∀ b ∈ fp, H' b = none) ∧ W i n ys σ' H') ?_ m0 ?_
  · rintro n s3 ⟨i, ys, σ3, H3, us, k, I3, rv, st3, fr3, w3⟩
    obtain ⟨hz, tu⟩ := turn i n ys σ3 H3 w3
    have hps : ∀ p ∈ [((D : Addr), ({ cls := .type "list", data := .seq (us : List Value).toArray k } : Obj))], Nat.le D p.1 := fun p hp => by
     rcases List.mem_singleton.mp hp with rfl
     exact Nat.le_refl _
    rcases tu with ⟨stop, z⟩ | ⟨go, step⟩
    · refine thn (T.done (cxC X Nc scope C s2 H2 fp) rfl rfl rfl hc i _ s3 σ3 H3 (fun _ _ => False) I3 (stat hps fr3) st3 stop) fun r s4 ⟨hr, I4⟩ => ?_
      subst hr
      obtain ⟨eD, nD, _, _, _⟩ := I4.pin (D, { cls := .type "list", data := .seq (us : List Value).toArray k }) (List.mem_append_right _ (List.mem_singleton.mpr rfl))
      have eD : s4.heap.get? D = _ := eD
      have nD : H3 D = none := nD
      have u4 : Un (frs X.stack) fp H2 H3 s2.heap s4.heap := I4.base
      have hH2D : H2 D = none := I2.hok.fresh (by omega)
      have u5 : Un (frs X.stack) fp H2 (upd H3 D (.lst ys)) s2.heap s4.heap :=
       ⟨u4.keep, u4.slot, fun b o e n x => by rw [upd_ne (belD b o e)]; exact u4.free b o e n x, u4.there, fun b xs e => by rw [upd_ne (ne_of_none e hH2D)]; exact u4.tups b xs e,
        fun b o u e => by rw [upd_ne (ne_of_none e hH2D)]; exact u4.frzs b o u e, fun b ps e => by rw [upd_ne (ne_of_none e hH2D)]; exact u4.tbls b ps e⟩
      have hok : HOk X.prog X.w (upd H3 D (.lst ys)) s4.heap := fun b o e => by
       by_cases hb : b = D
       · subst hb; rw [upd_same] at e; cases e
         exact ⟨hz, us, k, rv, eD⟩
       · rw [upd_ne hb] at e
         exact (I4.hok b o e).stay (fun _ _ _ q => q) (fun c q => by rw [upd_ne (ne_of_none q nD)]; exact q) fun c xs q => by rw [upd_ne (ne_of_none q nD)]; exact q
      have I5 : Inv X pins σ (upd H3 D (.lst ys)) s4 := I2.call' (ch := fp) I4.os u5 hok I4.bare fun b hb => let ⟨a0, a1, a2, a3, a4, a5⟩ := f2 b hb; ⟨a3, a1, a4, a5⟩
      obtain ⟨m, hm, _⟩ := I4.loc
      refine hRR D C s4 H3 ys I5 nD z ⟨m, hm⟩ (I2.fpOk (by omega) ?_)
      rw [upd_ne (Ne.symm hDC)]; exact I4.free
    · refine thn (T.item (cxC X Nc scope C s2 H2 fp) rfl rfl rfl hc i _ s3 σ3 H3 (fun _ _ => False) I3 (stat hps fr3) st3 go) fun r s4 ⟨u, hr, h4⟩ => ?_
      subst hr
      refine thn h4 fun _ s5 ⟨x, H5, I5, r5, y5, st5, fr5⟩ => ?_
      have I5' := I5.pinned (stat hps fr5) (T.obj _ _ st5)
      refine thn (hg C s2 H2 fp _ s5 σ3 H5 x u _ I5' r5 (step x H5 y5)) fun _ s6 ⟨σ6, H6, I6, q6⟩ => ?_
      refine thn (ht C s2 H2 fp _ s6 σ6 H6 _ I6 q6) fun ok s7 ⟨H7, I7, q7⟩ => ?_
      have tnK : ∀ {σ' : L2.St} {H' : Hp} {s' : Shared}, Inv (cxC X Nc scope C s2 H2 fp) ([(D, { cls := .type "list", data := .seq (us : List Value).toArray k })] ++ pinsAt fp s5.heap) σ' H' s' → tn (i + 1) s'.heap ∧ (∀ b ∈ fp, H' b = none) ∧ (∀ b ∈ fp, ∀ o, s5.heap.get? b = some o → s'.heap.get? b = some o) := fun {σ' H' s'} I' =>
       ⟨T.keep _ _ _ st5 fun b hb o e => (I'.pin (b, o) (List.mem_append_right _ (List.mem_append_right _ (mem_pinsAt hb e)))).1, fun b hb => by
        obtain ⟨o, e, d⟩ := T.obj _ _ st5 b hb
        exact (I'.pin (b, o) (List.mem_append_right _ (List.mem_append_right _ (mem_pinsAt hb e)))).2.1, fun b hb o e => (I'.pin (b, o) (List.mem_append_right _ (List.mem_append_right _ (mem_pinsAt hb e)))).1⟩
      cases ok with
      | false =>
       have q7 : ∃ m', m' < n ∧ W (i + 1) m' ys σ6 H7 := q7
       obtain ⟨m', hm, w7⟩ := q7
       obtain ⟨k1, k2, _⟩ := tnK I7
       exact ⟨m', hm, i + 1, ys, σ6, H7, us, k, I7.unpinned, rv, k1, k2, w7⟩
      | true =>
       have q7 : te σ6 H7 fun y H5 => ∃ m', m' < n ∧ W (i + 1) m' (ys ++ [y]) σ6 H5 := q7
       refine thn (he C s2 H2 fp _ s7 σ6 H7 _ I7 q7) fun y s8 ⟨yv, H8, I8, r8, m', hm, w8⟩ => ?_
       obtain ⟨k1, k2, k3⟩ := tnK I8
       obtain ⟨eD, nD, _, nfD, _⟩ := I8.pin (D, { cls := .type "list", data := .seq (us : List Value).toArray k }) (List.mem_append_right _ (List.mem_append_left _ (List.mem_singleton.mpr rfl)))
       have eD : s8.heap.get? D = _ := eD
       have pl : s8.heap.PlainList D us.toArray := ⟨k, eD⟩
       refine wpAny_list_append_plain (hsz := by have := rv.length; simp; omega) pl fun h₉ hl₉ hs₉ => ?_
       obtain ⟨k9, e9⟩ := hl₉
       have I9 : Inv (cxC X Nc scope C s2 H2 fp) [] σ6 H8 { s8 with heap := h₉ } := (I8.pins_of (pins' := []) (fun p hp => nomatch hp)).turned (t' := s8.toks) (it := D) (fun b o hb e => (hs₉.2 b hb).trans e) nD hDC (.inr (by show s2.heap.objs.size ≤ D; omega))
        (fun x c e => Nat.ne_of_lt (hclt x c e)) (fun p hp => absurd (show p ∈ ([] : List (Addr × Obj)) from hp) (by simp))
       refine ⟨m', hm, i + 1, ys ++ [yv], σ6, H8, us ++ [y], k9, I9.pins_of fun p hp => ?_, rv.append (.cons r8 .nil), T.keep _ _ _ k1 fun b hb o e => (hs₉.2 b (hfpN b hb)).trans e, k2, w8⟩
       rcases List.mem_singleton.mp hp with rfl
       refine ⟨?_, nD, hDC, nfD, fun v z => by cases z⟩
       show h₉.get? D = _
       rw [e9]; simp
  · obtain ⟨k, e⟩ := hacc
    refine ⟨0, [], _, H2, [], k, IB.pins_of fun p hp => ?_, .nil, T.keep _ _ _ st2 fun b hb o e => old b o e, fun b hb => (f2 b hb).1, w0⟩
    rcases List.mem_singleton.mp hp with rfl
    exact ⟨e, I2.hok.fresh (by omega), hDC, hfs D (Nat.le_refl _), fun v z => by cases z⟩
 exact codeAny_compStart_list (loop _ rfl) (T.self _ 0 _ _ _ (T.keep _ _ _ st2 fun b hb o e => old b o e) (loop _ rfl))
def tComp (n : Nat) (wi : TI) (g : TG) (tt : TT) (te : TE) : TE := fun σ H Q => wi σ H fun J H1 => Cmp J g tt te (List.replicate n none ++ σ) H1 fun ys H' => ∀ p H2, H' p = none → L2.Same H' H2 → H2 p = some (.lst ys) → Q (.ref p) H2
theorem pe_comp (hc : X.calm = true) (S : CompS X scope) (hs : ∀ x, foldedSetIterable iter X.env x = pure x) (hi : PI X tg iter wi)
 (hg : ∀ C s H fp, PG (cxC X Nc scope C s H fp) tg g) (ht : ∀ C s H fp, PIfs (cxC X Nc scope C s H fp) ifs tt) (he : ∀ C s H fp, PE (cxC X Nc scope C s H fp) elt te) :
 PE X (.ListComp elt [⟨tg, iter, ifs, 0⟩] scope pos) (tComp Nc.length wi g tt te) := by
 intro pins s σ H Q I h
 have hcells := fun y hy e => I.ok.has y.1 (S.free y hy e)
 refine wpAny_comprehension_free rfl hs (closure_of hcells) S.kind S.names (thn (hi pins s σ H _ I h) fun v s1 h1 => thn h1 fun itv s2 h2 => ?_)
 obtain ⟨it, fp, tn, J, H2, e, I2, T, st2, f2, z⟩ := h2
 subst e
 refine comp_block hc S I2 T st2 f2 hg ht he z fun D C s' H3 ys I' hD hz hm hf => ?_
 obtain ⟨m, hm⟩ := hm
 exact ⟨m, hm, fun h' sb => ⟨.ref D, _, I'.turned (fun b o hb e => (sb.2 b hb).trans e) hf.1 hf.2.1 hf.2.2.2.1 hf.2.2.2.2.1 hf.2.2.2.2.2, rfl, hz D _ hD (Br.Same.upd hD) upd_same⟩⟩
theorem ps_setComp {wi : TI} {i : Nat} {y : Str} {py spos : Pos} (hc : X.calm = true) (S : CompS X scope) (hs : ∀ x, foldedSetIterable iter X.env x = pure x) (hN : X.N.Nodup) (hy : X.N[i]? = some y) (hl : Loc X.env.scope y) (hf : X.fn y = true ∨ X.env.scope.names.lookup y = some .local)
 (hsw : swapsWith (.ListComp elt [⟨tg, iter, ifs, 0⟩] scope pos) (some (.Name y py)) spos.line X.env = pure true) (hi : PI X tg iter wi)
 (hg : ∀ C s H fp, PG (cxC X Nc scope C s H fp) tg g) (ht : ∀ C s H fp, PIfs (cxC X Nc scope C s H fp) ifs tt) (he : ∀ C s H fp, PE (cxC X Nc scope C s H fp) elt te) :
 PS X (.Assign [.Name y py] (.ListComp elt [⟨tg, iter, ifs, 0⟩] scope pos) spos) (tAsg (tComp Nc.length wi g tt te) (gName i)) := by
 intro pins s σ H D I h
 have hcells : ∀ y ∈ scope.names, y.2 = .free → ∃ c, X.env.cells.lookup y.1 = some c := fun y hy e => I.ok.has y.1 (S.free y hy e)
 rw [exec_Assign_Name_used _ _ _ _ hsw]
 refine wpAny_bind (wpAny_standAt (wpAny_bind ?_))
 show wpAny _ X.A (do let _ ← comprehension (.ListComp elt [⟨tg, iter, ifs, 0⟩] scope pos) scope X.env _ (newList []) false (eval iter X.env) (some (assign (.Name y py) X.env))) _ _ s
 refine wpAny_bind (wpAny_mono (wpAny_comprehension_free (use := some (assign (.Name y py) X.env)) (Q := fun _ s' => SP X pins D .next s') rfl hs (closure_of hcells) S.kind S.names
  (thn (hi pins s σ H _ I h) fun v s1 h1 => thn h1 fun itv s2 h2 => ?_)) (fun _ s' hq => wpAny_pure (wpAny_pure hq)) fun _ _ e => e)
 obtain ⟨it, fp, tn, J, H2, e, I2, T, st2, f2, z⟩ := h2
 subst e
 refine comp_block (RR := fun acc C => compPost (model X.prog X.w) X.A X.xe (some (assign (.Name y py) X.env)) (fun _ s' => SP X pins D .next s') acc C) hc S I2 T st2 f2 hg ht he z fun Dd C s' H3 ys I' hD hz hm hf' => ?_
 obtain ⟨m, hm⟩ := hm
 show wpAny _ X.A (assign (.Name y py) X.env (.ref Dd)) _ _ _
 refine wpAny_assign_Name (store_ok2 (v := .ref Dd) I' hN hy hl rfl (fun s'' I'' ch => ?_) hf)
 obtain ⟨a, sb, ha⟩ := ch
 have hCa : C ≠ a := by
  rcases ha with rfl | ha
  · exact hf'.2.1
  · exact fun z => hf'.2.2.2.2.1 _ _ ha z.symm
 refine ⟨m, hm.sameBut sb hCa, fun h' sb' => ?_⟩
 exact ⟨_, _, I''.turned (t' := s''.toks) (it := C) (fun b o hb e => (sb'.2 b hb).trans e) hf'.1 hf'.2.1 hf'.2.2.2.1 hf'.2.2.2.2.1 hf'.2.2.2.2.2, hz Dd _ hD (Br.Same.upd hD) upd_same⟩
end
section
theorem vals_bl : ∀ {bs : List Bool} {its : List Value} {i : Nat} {v : Value}, Vals (bs.map V.bl) its → its[i]? = some v → ∃ b, bs[i]? = some b ∧ v = .bool b
 | [], _, i, v, r, e => by cases r; simp_all
 | b :: bs, _, i, v, r, e => by
  cases r with
  | cons r rr =>
   cases i with
   | zero => simp at e; subst e; exact ⟨b, rfl, r⟩
   | succ i =>
    obtain ⟨b', h1, h2⟩ := vals_bl rr (by assumption)
    simp_all
theorem range_all {bs : List Bool} : ((List.range bs.length).all fun i => bs.getD i false) = bs.all id := by
 rw [Bool.eq_iff_iff]
 simp only [List.all_eq_true, List.mem_range, id]
 constructor
 · intro h b hb
   obtain ⟨i, hi, e⟩ := List.getElem_of_mem hb
   simp_all
 · intro h i hi
   rw [List.getD_eq_getElem?_getD, List.getElem?_eq_getElem hi]
   exact h _ (List.getElem_mem hi)
theorem range_any {bs : List Bool} : ((List.range bs.length).any fun i => bs.getD i false) = bs.any id := by
 rw [Bool.eq_iff_iff]
 simp only [List.any_eq_true, List.mem_range, id]
 constructor
 · rintro ⟨i, hi, q⟩
   rw [List.getD_eq_getElem?_getD, List.getElem?_eq_getElem hi] at q
   exact ⟨_, List.getElem_mem hi, q⟩
 · rintro ⟨b, hb, q⟩
   obtain ⟨i, hi, e⟩ := List.getElem_of_mem hb
   refine ⟨i, hi, ?_⟩
   simp_all
def rAll (K : PySem.W.Frag) (f : List Bool → Bool) : List V → Hp → VK → Prop := fun xs H Q => ∃ p bs, xs = [.ref p] ∧ SqL K H p (bs.map V.bl) ∧ Q (.bl (f bs)) H
theorem truth_bl {bs : List Bool} (r : Vals (bs.map V.bl) its) : TruthOf prog w A (fun i v => its.toArray[i]? = some v) fun i => bs.getD i false := by
 intro i v s Q E e q
 obtain ⟨b, hb, rfl⟩ := vals_bl r (by simpa using e)
 have q : Q (bs.getD i false) s := q
 rw [List.getD_eq_getElem?_getD, hb] at q
 exact wpAny_truthy_bool q
theorem call_all (hc : X.calm = true) : CallR X (.builtin "all") (rAll X.K fun bs => bs.all id) := by
 intro pins s σ H xs us Q I r h
 obtain ⟨p, bs, rfl, hq, q⟩ := h
 obtain ⟨u, rfl, rx⟩ := vals1 r
 cases rx
 obtain ⟨its, r', pl, hz⟩ := I.list hq
 have hp : p < s.heap.objs.size := by obtain ⟨_, _, e, _⟩ := pl; exact Heap.lt_size e
 have hl : its.length = bs.length := by rw [← r'.length, List.length_map]
 refine call_all_walk (wpAny_pyIter_list pl.isList ⟨s.heap.objs.size, _, _, _, _, _, fun i => bs.getD i false, rfl, Walks.list (A := X.A.in1) (I.ok.hd hc) s.heap.objs.size p (Nat.ne_of_lt hp) its.toArray, ⟨⟨_, Heap.get?_push_size _ rfl, rfl, rfl⟩, pl.isList.at fun o e => Heap.get?_push_of_some _ e⟩, truth_bl r', fun h' tk hk => ?_⟩)
 rw [List.size_toArray, hl, range_all]
 exact ⟨.bl _, H, I.kept fun b o e => hk b o (fun z => absurd (Heap.lt_size e) (by simp_all)) (Heap.get?_push_of_some _ e), rfl, q⟩
theorem call_any (hc : X.calm = true) : CallR X (.builtin "any") (rAll X.K fun bs => bs.any id) := by
 intro pins s σ H xs us Q I r h
 obtain ⟨p, bs, rfl, hq, q⟩ := h
 obtain ⟨u, rfl, rx⟩ := vals1 r
 cases rx
 obtain ⟨its, r', pl, hz⟩ := I.list hq
 have hp : p < s.heap.objs.size := by obtain ⟨_, _, e, _⟩ := pl; exact Heap.lt_size e
 have hl : its.length = bs.length := by rw [← r'.length, List.length_map]
 refine call_any_walk (wpAny_pyIter_list pl.isList ⟨s.heap.objs.size, _, _, _, _, _, fun i => bs.getD i false, rfl, Walks.list (A := X.A.in1) (I.ok.hd hc) s.heap.objs.size p (Nat.ne_of_lt hp) its.toArray, ⟨⟨_, Heap.get?_push_size _ rfl, rfl, rfl⟩, pl.isList.at fun o e => Heap.get?_push_of_some _ e⟩, truth_bl r', fun h' tk hk => ?_⟩)
 rw [List.size_toArray, hl, range_any]
 exact ⟨.bl _, H, I.kept fun b o e => hk b o (fun z => absurd (Heap.lt_size e) (by simp_all)) (Heap.get?_push_of_some _ e), rfl, q⟩
theorem boot_all : bootBuiltins "all" = some (.builtin "all") := by decide
theorem boot_any : bootBuiltins "any" = some (.builtin "any") := by decide +kernel
end
structure JIfs (X : Cx) (es : List Expr) (t : TT) : Prop where h : PIfs X es t
def nodupB : List Str → Bool
 | [] => true
 | x :: r => !(r.any fun y => x == y) && nodupB r
theorem nodupB_of : ∀ {l : List Str}, nodupB l = true → l.Nodup
 | [], _ => List.nodup_nil
 | x :: r, h => by
  unfold nodupB at h
  simp at h
  refine List.nodup_cons.mpr ⟨fun hm => ?_, nodupB_of h.2⟩
  grind
def compB (names0 : List (Str × NameKind)) (N : List Str) (scope : Scope) : Bool :=
 scope.kind == .function && scope.names.all (fun y => y.2 != .cell) && scope.names.all (fun y => y.2 != .local || scope.names.lookup y.1 == some .local) && scope.names.all (fun y => y.2 != .free || names0.lookup y.1 == some .cell || names0.lookup y.1 == some .free) && scope.names.all (fun y => y.1.cps.toList.head? != some 33) && nodupB (N.map (hid scope))
theorem kind_eq {a b : NameKind} (h : (a == b) = true) : a = b := by grind
theorem okind_eq {a b : Option NameKind} (h : (a == b) = true) : a = b := by grind
theorem CompS.of (h : compB X.env.scope.names X.N scope = true) : CompS X scope := by
 unfold compB at h
 simp only [Bool.and_eq_true, List.all_eq_true, Bool.or_eq_true] at h
 obtain ⟨⟨⟨⟨⟨h1, h2⟩, h3⟩, h4⟩, h5⟩, h6⟩ := h
 refine ⟨?_, fun y hy z => ?_, fun y hy z => ?_, fun y hy z => ?_, ?_, nodupB_of h6⟩
 · grind
 · have q := h2 y hy; rw [z] at q; cases q
 · rcases h3 y hy with q | q
   · rw [z] at q; cases q
   · exact okind_eq q
 · rcases h4 y hy with (q | q) | q
   · rw [z] at q; cases q
   · exact .inl (okind_eq q)
   · exact .inr (okind_eq q)
 · intro y
   cases e : scope.names.lookup (dotS y) with
   | none => rfl
   | some k =>
    have hm := PySem.mem_of_lookup e
    have := h5 _ hm
    have hd : (dotS y).cps.toList.head? = some 33 := rfl
    grind
section
theorem f_nil : JIfs X [] tYes := ⟨pifs_nil⟩
theorem f_one (h : JT X c tt) : JIfs X [c] tt := ⟨pifs_one h.h⟩
theorem j_cell (h : At X.N i x) (hk : X.env.scope.names.lookup x = some .cell) (hd : (x == ("__debug__" : Str)) = false) (hcd : (x == ("__classdict__" : Str)) = false) : JE X (.Name x pos) (tVar i) := ⟨pe_var h.get (.inr (.inl hk)) hd hcd⟩
theorem g_cell (h : At X.N i x) (hN : X.N.Nodup) (hk : X.env.scope.names.lookup x = some .cell) (hf : X.fn x = true) : JG X (.Name x pos) (gName i) := ⟨pg_name hN h.get (.inr hk) (.inl hf)⟩
theorem s_setC (h : At X.N i x) (hN : X.N.Nodup) (hk : X.env.scope.names.lookup x = some .cell) (hf : X.fn x = true) (hs : swapsWith e (some (.Name x p)) pos.line X.env = pure false) (he : JE X e te) : JS X (.Assign [.Name x p] e pos) (tAsg te (gName i)) := ⟨ps_set hN h.get (.inr hk) he.h hs (.inl hf)⟩
section
variable (hg : Gl X x) (he : starEach (e :: es) X.env = (false, eval e X.env) :: starEach es X.env) (hpl : (backTo pos (starEach es X.env)).any (·.1) = false)
include hg he hpl
theorem j_all (hx : x = "all") (hc : X.calm = true) (hm : X.mg x = none) (ha : JA X (e :: es) t) : JE X (.Call (.Name x p) (e :: es) [] pos) (tCB (rAll X.K fun bs => bs.all id) t) := ⟨by subst hx; exact pe_callB (call_all hc) hg hm boot_all ha.h (by decide) (by decide) he hpl⟩
theorem j_any (hx : x = "any") (hc : X.calm = true) (hm : X.mg x = none) (ha : JA X (e :: es) t) : JE X (.Call (.Name x p) (e :: es) [] pos) (tCB (rAll X.K fun bs => bs.any id) t) := ⟨by subst hx; exact pe_callB (call_any hc) hg hm boot_any ha.h (by decide) (by decide) he hpl⟩
end
end
section
variable {K : PySem.W.Frag}
theorem cmp_list (Pv : Nat → List V → L2.St → Hp → Prop) (h0 : Pv 0 [] σ0 H0) (hz : xs.length ≤ sizeLine) (hl : ∀ i ys σ H, i ≤ xs.length → Pv i ys σ H → SqL K H a xs ∧ ys.length ≤ i)
 (hs : ∀ i x ys σ H (N : List V → L2.St → Hp → Prop), xs[i]? = some x → Pv i ys σ H → (∀ ys' σ' H', Pv (i + 1) ys' σ' H' → N ys' σ' H') →
  g x σ H fun σ3 H3 => tt σ3 H3 fun b H4 => if b = true then te σ3 H4 fun y H5 => N (ys ++ [y]) σ3 H5 else N ys σ3 H4)
 (hd : ∀ ys σ H, Pv xs.length ys σ H → Z ys H) : Cmp (Itl K a) g tt te σ0 H0 Z := by
 refine ⟨fun i m ys σ H => m = xs.length - i ∧ i ≤ xs.length ∧ Pv i ys σ H, ⟨xs.length, by simp, Nat.zero_le _, h0⟩, ?_⟩
 rintro i m ys σ H ⟨rfl, hi, p⟩
 obtain ⟨q, hy⟩ := hl i ys σ H hi p
 refine ⟨by omega, ?_⟩
 by_cases hlt : i < xs.length
 · refine .inr ⟨⟨xs, xs[i], q, by simp⟩, fun x H' y => ?_⟩
   obtain ⟨e, y⟩ := y
   subst e
   exact hs i x ys σ _ (fun ys' σ' H' => ∃ m', m' < xs.length - i ∧ m' = xs.length - (i + 1) ∧ i + 1 ≤ xs.length ∧ Pv _ ys' σ' H') (y xs q) p fun ys' σ' H' p' => ⟨xs.length - _, by omega, rfl, hlt, p'⟩
 · have e : i = xs.length := by omega
   subst e
   exact .inl ⟨⟨xs, q, Nat.le_refl _⟩, hd ys σ H p⟩
end
section
theorem loc_C (hk : scope.names.lookup x = some .local) : (cxC X Nc scope C s H fp).env.scope.names.lookup x = some .local := lookup_relabel_local hk
theorem not_mem_of (S : CompS X scope) (hk : scope.names.lookup x = some .local) : x ∉ X.N.map (hid scope) := fun h => by
 obtain ⟨y, _, e⟩ := List.mem_map.mp h
 rcases hid_cases scope y with ⟨_, h2⟩ | ⟨h1, h2⟩
 · rw [h2] at e; rw [← e, S.dot] at hk; grind
 simp_all
theorem g_C1 (S : CompS X scope) (hN : X.N.Nodup) (hk : scope.names.lookup x = some .local) (C : Addr) (s : Shared) (H : Hp) (fp : List Addr) : PG (cxC X [x] scope C s H fp) (.Name x px) (gName 0) :=
 pg_name (List.nodup_cons.mpr ⟨not_mem_of S hk, S.nd⟩) rfl (.inl (loc_C hk)) (.inr (loc_C hk))
theorem g_C2 (hc : X.calm = true) (S : CompS X scope) (hN : X.N.Nodup) (hxy : x ≠ y) (hx : scope.names.lookup x = some .local) (hy : scope.names.lookup y = some .local) (C : Addr) (s : Shared) (H : Hp) (fp : List Addr) :
 PG (cxC X [x, y] scope C s H fp) (.Tuple [.Name x px, .Name y py] k pt) (gTup X.K 2 (gCons (gName 0) (gCons (gName 1) gNil))) := by
 have nd := List.nodup_cons.mpr ⟨fun h => by
  rcases List.mem_cons.mp h with h | h
  · exact hxy h
  · exact not_mem_of S hx h, List.nodup_cons.mpr ⟨not_mem_of S hy, S.nd⟩⟩
 exact pg_tup hc (pgs_cons (pg_name nd rfl (.inl (loc_C hx)) (.inr (loc_C hx))) (pgs_cons (pg_name nd rfl (.inl (loc_C hy)) (.inr (loc_C hy))) pgs_nil))
theorem j_comp1 (hc : X.calm = true) (S : compB X.env.scope.names X.N scope = true) (hs : ∀ x, foldedSetIterable iter X.env x = pure x) (hN : X.N.Nodup) (hk : scope.names.lookup x = some .local) (hi : JI X (.Name x px) iter wi)
 (ht : ∀ C s H fp, JIfs (cxC X [x] scope C s H fp) ifs tt) (he : ∀ C s H fp, JE (cxC X [x] scope C s H fp) elt te) : JE X (.ListComp elt [⟨.Name x px, iter, ifs, 0⟩] scope pos) (tComp 1 wi (gName 0) tt te) :=
 ⟨pe_comp hc (.of S) hs hi.h (g_C1 (.of S) hN hk) (fun C s H fp => (ht C s H fp).h) fun C s H fp => (he C s H fp).h⟩
theorem j_comp2 (hc : X.calm = true) (S : compB X.env.scope.names X.N scope = true) (hs : ∀ x, foldedSetIterable iter X.env x = pure x) (hN : X.N.Nodup) (hxy : x ≠ y) (hx : scope.names.lookup x = some .local) (hy : scope.names.lookup y = some .local)
 (hi : JI X (.Tuple [.Name x px, .Name y py] k pt) iter wi) (ht : ∀ C s H fp, JIfs (cxC X [x, y] scope C s H fp) ifs tt) (he : ∀ C s H fp, JE (cxC X [x, y] scope C s H fp) elt te) :
 JE X (.ListComp elt [⟨.Tuple [.Name x px, .Name y py] k pt, iter, ifs, 0⟩] scope pos) (tComp 2 wi (gTup X.K 2 (gCons (gName 0) (gCons (gName 1) gNil))) tt te) :=
 ⟨pe_comp hc (.of S) hs hi.h (g_C2 hc (.of S) hN hxy hx hy) (fun C s H fp => (ht C s H fp).h) fun C s H fp => (he C s H fp).h⟩
theorem s_comp1 (hc : X.calm = true) (S : compB X.env.scope.names X.N scope = true) (hs : ∀ x, foldedSetIterable iter X.env x = pure x) (hN : X.N.Nodup) (hk : scope.names.lookup x = some .local) (h : At X.N i z) (hz : X.env.scope.names.lookup z = some .local)
 (hsw : swapsWith (.ListComp elt [⟨.Name x px, iter, ifs, 0⟩] scope pos) (some (.Name z p)) spos.line X.env = pure true) (hi : JI X (.Name x px) iter wi)
 (ht : ∀ C s H fp, JIfs (cxC X [x] scope C s H fp) ifs tt) (he : ∀ C s H fp, JE (cxC X [x] scope C s H fp) elt te) :
 JS X (.Assign [.Name z p] (.ListComp elt [⟨.Name x px, iter, ifs, 0⟩] scope pos) spos) (tAsg (tComp 1 wi (gName 0) tt te) (gName i)) :=
 ⟨ps_setComp (Nc := [x]) hc (.of S) hs hN h.get (.inl hz) (.inr hz) hsw hi.h (g_C1 (.of S) hN hk) (fun C s H fp => (ht C s H fp).h) fun C s H fp => (he C s H fp).h⟩
theorem s_comp2 (hc : X.calm = true) (S : compB X.env.scope.names X.N scope = true) (hs : ∀ x, foldedSetIterable iter X.env x = pure x) (hN : X.N.Nodup) (hxy : x ≠ y) (hx : scope.names.lookup x = some .local) (hy : scope.names.lookup y = some .local) (h : At X.N i z) (hz : X.env.scope.names.lookup z = some .local)
 (hsw : swapsWith (.ListComp elt [⟨.Tuple [.Name x px, .Name y py] k pt, iter, ifs, 0⟩] scope pos) (some (.Name z p)) spos.line X.env = pure true) (hi : JI X (.Tuple [.Name x px, .Name y py] k pt) iter wi)
 (ht : ∀ C s H fp, JIfs (cxC X [x, y] scope C s H fp) ifs tt) (he : ∀ C s H fp, JE (cxC X [x, y] scope C s H fp) elt te) :
 JS X (.Assign [.Name z p] (.ListComp elt [⟨.Tuple [.Name x px, .Name y py] k pt, iter, ifs, 0⟩] scope pos) spos) (tAsg (tComp 2 wi (gTup X.K 2 (gCons (gName 0) (gCons (gName 1) gNil))) tt te) (gName i)) :=
 ⟨ps_setComp hc (.of S) hs hN h.get (.inl hz) (.inr hz) hsw hi.h (g_C2 hc (.of S) hN hxy hx hy) (fun C s H fp => (ht C s H fp).h) fun C s H fp => (he C s H fp).h⟩
end
theorem cxC_K : (cxC X Nc scope C s H fp).K = X.K := rfl
section
variable {X : Cx} {K : PySem.W.Frag} (hK : X.K = K)
include hK
theorem k_ix (hs : PlainIx b) (ha : JE X a ta) (hb : JE X b tb) : JE X (.Subscript a b pos) (tOp (rIx K) ta tb) := hK ▸ j_ix hs ha hb
theorem k_append (hbase : attributeBase o "append" X.env (eval o X.env) = eval o X.env) (hfew : ((backTo cpos (starEach [e] X.env)).all (fun x => !x.1) && (backToKw cpos (keywordEach [] X.env)).all (fun x => x.1.isSome)
 && decide (([e] : List Expr).length + ([] : List Keyword).length + (if ([] : List Keyword).isEmpty then 0 else 1) < 30)) = true) (hline : (apos.endLine == cpos.line) = true) (hs : starEach [e] X.env = (false, eval e X.env) :: starEach [] X.env)
 (hpl : (backTo cpos (starEach [] X.env)).any (·.1) = false) (ho : JE X o to) (ha : JA X [e] t) : JE X (.Call (.Attribute o "append" apos) [e] [] cpos) (tBM K "list" rAppend to t) := hK ▸ j_append hbase hfew hline hs hpl ho ha
theorem k_comp2 (hc : X.calm = true) (S : compB X.env.scope.names X.N scope = true) (hs : ∀ x, foldedSetIterable iter X.env x = pure x) (hN : X.N.Nodup) (hxy : x ≠ y) (hx : scope.names.lookup x = some .local) (hy : scope.names.lookup y = some .local)
 (hi : JI X (.Tuple [.Name x px, .Name y py] k pt) iter wi) (ht : ∀ C s H fp, JIfs (cxC X [x, y] scope C s H fp) ifs tt) (he : ∀ C s H fp, JE (cxC X [x, y] scope C s H fp) elt te) :
 JE X (.ListComp elt [⟨.Tuple [.Name x px, .Name y py] k pt, iter, ifs, 0⟩] scope pos) (tComp 2 wi (gTup K 2 (gCons (gName 0) (gCons (gName 1) gNil))) tt te) := hK ▸ j_comp2 hc S hs hN hxy hx hy hi ht he
section
variable (hg : Gl X x) (he : starEach (e :: es) X.env = (false, eval e X.env) :: starEach es X.env) (hpl : (backTo pos (starEach es X.env)).any (·.1) = false)
include hg he hpl
theorem k_len (hx : x = "len") (hm : X.mg x = none) (ha : JA X (e :: es) t) : JE X (.Call (.Name x p) (e :: es) [] pos) (tCB (rLen K) t) := hK ▸ j_len hg he hpl hx hm ha
theorem k_all (hx : x = "all") (hc : X.calm = true) (hm : X.mg x = none) (ha : JA X (e :: es) t) : JE X (.Call (.Name x p) (e :: es) [] pos) (tCB (rAll K fun bs => bs.all id) t) := hK ▸ j_all hg he hpl hx hc hm ha
theorem k_any (hx : x = "any") (hc : X.calm = true) (hm : X.mg x = none) (ha : JA X (e :: es) t) : JE X (.Call (.Name x p) (e :: es) [] pos) (tCB (rAll K fun bs => bs.any id) t) := hK ▸ j_any hg he hpl hx hc hm ha
end
end
def ikv (ks : List (Int × V)) : List (Key × V) := ks.map fun q => (.inl q.1, q.2)
def rSortD : List V → Hp → VK → Prop := fun xs H Q => ∃ (p : Addr) (ks : List (Int × V)), xs = [.ref p] ∧ H p = some (.dK (ikv ks)) ∧ ks.length < 64 ∧
 ∀ (l : Addr) (ns : List Int) (H' : Hp), H l = none → L2.Same H H' → H' l = some (.lst (ns.map V.int)) → ns.Perm (ks.map (·.1)) → ns.Pairwise (· ≤ ·) → Q (.ref l) H'
theorem ints_vals : ∀ {vs : List Value} {ns : List Int}, IntsAre vs ns → Vals (ns.map V.int) vs
 | _, _, .nil => .nil
 | _, _, .cons n t r => .cons ⟨t, rfl⟩ (ints_vals r)
theorem kv_get : ∀ {ks : List (Int × V)} {vs : List (Key × Value)} {i : Nat} {k : Key} {x : Value}, KV (ikv ks) vs → vs[i]? = some (k, x) → ∃ q, ks[i]? = some q ∧ k = .inl q.1
 | [], _, i, k, x, r, e => by cases r; simp_all
 | q :: ks, _, i, k, x, r, e => by
  cases r with
  | cons r rr =>
   cases i with
   | zero => simp_all
   | succ i =>
    obtain ⟨q', h1, h2⟩ := kv_get rr (by assumption)
    simp_all
theorem ints_of_get : ∀ {vs : List Value} {ns : List Int}, vs.length = ns.length → (∀ (j : Nat) (v : Value), vs[j]? = some v → ∃ n t, ns[j]? = some n ∧ v = .int n t) → IntsAre vs ns
 | [], [], _, _ => .nil
 | [], _ :: _, h, _ => by simp_all
 | _ :: _, [], h, _ => by simp_all
 | v :: vs, n :: ns, h, g => by
  obtain ⟨n', t, e1, e2⟩ := g 0 v rfl
  simp at e1; subst e1; subst e2
  exact .cons n t (ints_of_get (by simpa using h) fun j u e => by
   obtain ⟨n', t', e1, e2⟩ := g (j + 1) u (by simp_all)
   simp_all)
section
theorem call_sortD (hc : X.calm = true) : CallR X (.builtin "sorted") rSortD := by
 intro pins s σ H xs us Q I r h
 obtain ⟨p, ks, rfl, hq, h64, q⟩ := h
 obtain ⟨u, rfl, rx⟩ := vals1 r
 cases rx
 obtain ⟨hz, lo, vs, kv, dd⟩ := (show ObjOk X.prog X.w H s.heap p (.dK (ikv ks)) from I.hok p _ hq)
 obtain ⟨ep, hat⟩ := dd.dictAt
 have hl : vs.length = ks.length := by
  have := Paired.length kv
  rw [← this]; unfold ikv; rw [List.length_map]
 have hsz : (sizeLine : Nat) = 16777216 := sizeLine_eq
 refine Calls.call_function_entry kind_sorted plain_sorted entry_sorted (args_sorted1 _) ?_
 unfold Builtin.«sorted»
 refine wpAny_bind (m := checkCount "sorted" 1 1 _) (wpAny_pure ?_)
 refine wpAny_bind (PySem.W.kdu_collect (A := X.A.in1) (PySem.W.kdl_dict (knd := mixKind X.prog X.w) (kvs := vs) (ep := ep) lo) (I.ok.hd hc) hat (by omega) fun h' tk acc hk hacc => ?_)
 have hI : IntsAre acc.toList (ks.map (·.1)) := ints_of_get (by rw [Array.length_toList, List.length_map, hacc.1, hl]) fun j v e => by
  obtain ⟨k, x, e1, e2⟩ := hacc.2 j v (by rw [← Array.getElem?_toList]; exact e)
  obtain ⟨q', h1, h2⟩ := kv_get kv e1
  subst h2
  have e2 : keyIs (.inl q'.1) v = true := e2
  rcases keyIs_shape e2 with ⟨i, t, ek, e3⟩ | ⟨y, t, ek, e3⟩
  · subst e3
    injection ek with ek
    exact ⟨_, t, by rw [List.getElem?_map, h1]; rfl, by show Value.int i t = Value.int q'.1 t; rw [ek]⟩
  · cases ek
 have hal : acc.toList.length = ks.length := by rw [Array.length_toList, hacc.1, hl]
 refine wpAny_bind (wpAny_newList ?_ (by rw [hal]; omega))
 have hoL : (h'.push (seqObj "list" acc.toList.toArray 0)).get? h'.objs.size = some (seqObj "list" acc.toList.toArray 0) := Heap.get?_push_size _ rfl
 refine wpAny_bind (wpAny_holding (wpAny_call_entry slot_list_sort ⟨_, hoL, rfl⟩ entry_list_sort (list_sort_tree hoL hI (by omega) fun out ns' a1 a2 a3 => ⟨_, rfl, ?_⟩) (args_list_sort _)))
 refine wpAny_pure ⟨_, rfl, ?_⟩
 obtain ⟨n', e'⟩ : ∃ n', (sortedHeap (h'.push (seqObj "list" acc.toList.toArray 0)) h'.objs.size acc.toList out).get? h'.objs.size = some (seqObj "list" out n') := sortedHeap_at hoL
 have I1 : Inv X pins σ H { s with heap := h', toks := tk } := I.kept hk
 have hfr : H h'.objs.size = none := I1.hok.fresh (Nat.le_refl _)
 have keep : ∀ b o, h'.get? b = some o → (sortedHeap (h'.push (seqObj "list" acc.toList.toArray 0)) h'.objs.size acc.toList out).get? b = some o := fun b o e => by
  have hb := Heap.lt_size e
  rw [sortedHeap_old (Nat.ne_of_lt hb) (by rw [Heap.size_push]; exact Nat.lt_succ_of_lt hb)]
  exact Heap.get?_push_of_some _ e
 have hlen : ns'.length ≤ sizeLine := by rw [a2.length_eq, List.length_map]; omega
 have I2 :=
  I1.laid (t' := tk) keep (Nat.le_refl _) (show ObjOk X.prog X.w _ _ _ (.lst (ns'.map V.int)) from ⟨by rw [List.length_map]; exact hlen, out.toList, n', ints_vals a1, by simpa using e'⟩)
 exact ⟨.ref h'.objs.size, _, I2, rfl, q _ _ _ hfr (Br.Same.upd hfr) upd_same a2 a3⟩
theorem boot_sorted : bootBuiltins "sorted" = some (.builtin "sorted") := by rfl
def iSeq (K : PySem.W.Frag) (tl : TE) : TI := fun σ H R => tl σ H fun x H1 => ∃ a, x = .ref a ∧ (((∃ xs, SqL K H1 a xs) ∧ R (Itl K a) H1) ∨ ((∃ xs, SqT K H1 a xs) ∧ R (Itt K a) H1))
theorem pi_seq (hl : PE X l tl) : PI X tg l (iSeq X.K tl) := by
 intro pins s σ H R I h
 refine thn (hl pins s σ H _ I h) fun v s1 ⟨x, H1, I1, r1, q1⟩ => ?_
 obtain ⟨a, e, q1⟩ := q1
 subst e
 cases r1
 rcases q1 with ⟨⟨xs, hq⟩, q⟩ | ⟨⟨xs, hq⟩, q⟩
 · obtain ⟨its, rv, p, hz⟩ := I1.list hq
   refine wpAny_pyIter_list p.isList ?_
   refine ⟨s1.heap.objs.size, [s1.heap.objs.size], _, _, H1, rfl, I1.kept (t' := s1.toks) fun b o e => Heap.get?_push_of_some _ e, turn_list a _, ⟨_, Heap.get?_push_size _ rfl, rfl, rfl⟩, fun b hb => ?_, q⟩
   have e := by simpa using hb
   subst e
   exact I1.fpOk (Nat.le_refl _) (I1.hok.fresh (Nat.le_refl _))
 · obtain ⟨its, rv, p, hz⟩ := I1.tuple hq
   refine wpAny_pyIter_tuple (p) ?_
   refine ⟨s1.heap.objs.size, [s1.heap.objs.size], _, _, H1, rfl, I1.kept fun b o e => Heap.get?_push_of_some _ e, turn_tuple a _, ⟨_, Heap.get?_push_size _ rfl, rfl, rfl⟩, fun b hb => ?_, q⟩
   have e := by simpa using hb
   subst e
   exact I1.fpOk (Nat.le_refl _) (I1.hok.fresh (Nat.le_refl _))
def rSlS (K : PySem.W.Frag) : V → Option Int → Option Int → Hp → VK → Prop := fun x lo hi H Q => ∃ a xs, x = .ref a ∧ ((SqL K H a xs ∧ ∀ p H2, H p = none → L2.Same H H2 → H2 p = some (.lst (cutV xs lo hi)) → Q (.ref p) H2) ∨
 (SqT K H a xs ∧ ¬ (HT.sIx xs.length 0 lo = 0 ∧ HT.sIx xs.length xs.length hi = xs.length) ∧ ∀ p H2, H p = none → L2.Same H H2 → H2 p = some (.tup (cutV xs lo hi)) → Q (.ref p) H2))
theorem sl_S : SlR X (rSlS X.K) := by
 intro pins s σ H x v vl vu lo hi sl Q I rx hs pl pu h
 obtain ⟨a, xs, rfl, h⟩ := h
 rcases h with ⟨hx, q⟩ | ⟨hx, hn, q⟩
 · exact sl_list pins s σ H _ v vl vu lo hi sl Q I rx hs pl pu ⟨a, xs, rfl, hx, fun p hp => q p _ hp (Br.Same.upd hp) upd_same⟩
 · exact sl_tup pins s σ H _ v vl vu lo hi sl Q I rx hs pl pu ⟨a, xs, rfl, hx, hn, fun p hp => q p _ hp (Br.Same.upd hp) upd_same⟩
def rCatTS (K : PySem.W.Frag) : R2 := fun x y H Q => ∃ a b xs ys, x = .ref a ∧ y = .ref b ∧ SqT K H a xs ∧ SqT K H b ys ∧ xs ≠ [] ∧ xs.length + ys.length ≤ sizeLine ∧ ∀ p H2, L2.Same H H2 → SqT K H2 p (xs ++ ys) → Q (.ref p) H2
theorem op_catTS : OpR X (binaryOp .Add) (rCatTS X.K) := fun pins s σ H x y v u Q I rx ry h => by
 obtain ⟨a, b, xs, ys, e1, e2, h1, h2, hx, hz, q⟩ := h
 refine op_catT pins s σ H x y v u Q I rx ry ⟨a, b, xs, ys, e1, e2, h1, h2, hx, hz, fun e => ?_, fun _ p hp => q p _ (Br.Same.upd hp) (SqT.of upd_same)⟩
 exact q a H (L2.Same.refl _) (by simp_all)
def rTupOf (K : PySem.W.Frag) : List V → Hp → VK → Prop := fun xs H Q => ∃ p ys, xs = [.ref p] ∧ SqL K H p ys ∧ ∀ l H2, H l = none → L2.Same H H2 → H2 l = some (.tup ys) → Q (.ref l) H2
theorem call_tupS : CallR X (.type "tuple") (rTupOf X.K) := fun pins s σ H xs us Q I r h => by
 obtain ⟨p, ys, e, hq, q⟩ := h
 exact call_tuple_of pins s σ H xs us Q I r ⟨p, ys, e, .inl ⟨hq, fun l hl => q l _ hl (Br.Same.upd hl) upd_same⟩⟩
theorem op_mulI : OpR X (binaryOp .Mult) (rI IntMulOk fun i j => .int (i * j)) := opI fun _ _ _ _ _ _ _ hc q => mul_int q hc
theorem CMulB.ok (h : CMulB i j) : IntMulOk i j := IntMulOk.of_bits (bits_of h.1) (bits_of h.2)
theorem boot_tuple' : bootBuiltins "tuple" = some (.type "tuple") := by decide
end
section
variable {X : Cx} {K : PySem.W.Frag} (hK : X.K = K)
theorem o_mulI : JOp X .Mult (rI IntMulOk fun i j => .int (i * j)) := ⟨op_mulI⟩
theorem k_seq (hK : X.K = K) (hl : JE X l tl) : JI X tg l (iSeq K tl) := hK ▸ ⟨pi_seq hl.h⟩
theorem k_slS (hK : X.K = K) {lo hi : Option Expr} (he : JE X e te) (hl : JO X lo tl) (hu : JO X hi th) : JE X (.Subscript e (.Slice lo hi none p2) pos) (tSl (rSlS K) te tl th) := hK ▸ ⟨pe_slice sl_S he.h hl.h hu.h⟩
theorem j_dget (hr : Room k X.A) (hs : NoSl b) (ho : JE X (.Name "counts" p) td) (hi : JE X b ty) : JE X (.Subscript (.Name "counts" p) b pos) (tDGet td ty) := ⟨pe_dget (by have := hr.un; omega) ho.h hi.h hs⟩
theorem s_dput (hr : Room k X.A) (hs : swapsWith value (some (.Subscript (.Name "counts" p) b pos')) pos.line X.env = pure false) (ho : JE X (.Name "counts" p) td) (hi : JE X b ty) (hv : JE X value tv) : JS X (.Assign [.Subscript (.Name "counts" p) b pos'] value pos) (sDPut td ty tv) :=
 ⟨ps_dput (by have := hr.un; omega) ho.h hi.h hv.h hs⟩
theorem s_ixset (hs : swapsWithSole [.Subscript o b pos'] value pos.line X.env = pure false) (hw : swappedStores [.Subscript o b pos'] value X.env = pure none) (h1 : (assignEach [.Subscript o b pos'] X.env).map (·.2) = [assign (.Subscript o b pos') X.env])
 (ha : ∀ v, assign (.Subscript o b pos') X.env v = (do
  let ov ← holding [v] (eval o X.env)
  let iv ← holding [v, ov] (eval b X.env)
  standAt pos'
  holding [v, ov, iv] (setItem ov iv v)
  release [v, ov, iv] [])) (ho : JE X o to) (hi : JE X b tb) (hv : JE X value tv) : JS X (.Assign [.Subscript o b pos'] value pos) (tAsg tv (gSub to tb rSetL)) := ⟨ps_asg hv.h (pg_sub ho.h hi.h set_list ha) hs hw h1⟩
theorem s_unpackC (hi : At X.N i x) (hj : At X.N j y) (hc : X.calm = true) (hN : X.N.Nodup) (hx : Loc X.env.scope x) (hy : Loc X.env.scope y) (hfx : X.fn x = true) (hfy : X.fn y = true)
 (h1 : (assignEach [.Name x px, .Name y py] X.env).map (·.2) = assign (.Name x px) X.env :: (assignEach [.Name y py] X.env).map (·.2))
 (h2 : (assignEach [.Name y py] X.env).map (·.2) = assign (.Name y py) X.env :: (assignEach [] X.env).map (·.2))
 (hn : (assignEach [.Name x px, .Name y py] X.env).length = 2) (hst : (assignEach [.Name x px, .Name y py] X.env).findIdx? (·.1) = none)
 (hs : swapsWithSole [.Tuple [.Name x px, .Name y py] kt pt] e pos.line X.env = pure false) (hw : swappedStores [.Tuple [.Name x px, .Name y py] kt pt] e X.env = pure none)
 (h3 : (assignEach [.Tuple [.Name x px, .Name y py] kt pt] X.env).map (·.2) = [assign (.Tuple [.Name x px, .Name y py] kt pt) X.env]) (he : JE X e te) :
 JS X (.Assign [.Tuple [.Name x px, .Name y py] kt pt] e pos) (tAsg te (gTup X.K 2 (gCons (gName i) (gCons (gName j) gNil)))) :=
 ⟨ps_asg he.h (pg_tup hc (pgs_cons (pg_name hN hi.get hx (.inl hfx)) (pgs_cons (pg_name hN hj.get hy (.inl hfy)) pgs_nil h2) h1) hn hst) hs hw h3⟩
section
variable (hg : Gl X x) (he : starEach (e :: es) X.env = (false, eval e X.env) :: starEach es X.env) (hpl : (backTo pos (starEach es X.env)).any (·.1) = false)
include hg he hpl
theorem k_tuple (hK : X.K = K) (hx : x = "tuple") (hm : X.mg x = none) (ha : JA X (e :: es) t) : JE X (.Call (.Name x p) (e :: es) [] pos) (tCB (rTupOf K) t) := hK ▸ ⟨by subst hx; exact pe_callTy call_tupS hg hm boot_tuple' ha.h (by decide) (by decide) he hpl⟩
end
end
section
variable {K : PySem.W.Frag}
theorem cmp_tup (Pv : Nat → List V → L2.St → Hp → Prop) (h0 : Pv 0 [] σ0 H0) (hz : xs.length ≤ sizeLine) (hl : ∀ i ys σ H, i ≤ xs.length → Pv i ys σ H → SqT K H a xs ∧ ys.length ≤ i)
 (hs : ∀ i x ys σ H (N : List V → L2.St → Hp → Prop), xs[i]? = some x → Pv i ys σ H → (∀ ys' σ' H', Pv (i + 1) ys' σ' H' → N ys' σ' H') →
  g x σ H fun σ3 H3 => tt σ3 H3 fun b H4 => if b = true then te σ3 H4 fun y H5 => N (ys ++ [y]) σ3 H5 else N ys σ3 H4)
 (hd : ∀ ys σ H, Pv xs.length ys σ H → Z ys H) : Cmp (Itt K a) g tt te σ0 H0 Z := by
 refine ⟨fun i m ys σ H => m = xs.length - i ∧ i ≤ xs.length ∧ Pv i ys σ H, ⟨xs.length, by simp, Nat.zero_le _, h0⟩, ?_⟩
 rintro i m ys σ H ⟨rfl, hi, p⟩
 obtain ⟨q, hy⟩ := hl i ys σ H hi p
 refine ⟨by omega, ?_⟩
 by_cases hlt : i < xs.length
 · refine .inr ⟨⟨xs, xs[i], q, by simp⟩, fun x H' y => ?_⟩
   obtain ⟨e, y⟩ := y
   subst e
   exact hs i x ys σ _ (fun ys' σ' H' => ∃ m', m' < xs.length - i ∧ m' = xs.length - (i + 1) ∧ i + 1 ≤ xs.length ∧ Pv _ ys' σ' H') (y xs q) p fun ys' σ' H' p' => ⟨xs.length - _, by omega, rfl, hlt, p'⟩
 · have e : i = xs.length := by omega
   subst e
   exact .inl ⟨⟨xs, q, Nat.le_refl _⟩, hd ys σ H p⟩
end
section
theorem tsetAt {c : Addr} {o : Obj} {fs : Array Value} {i : Nat} {x : Value} {Q : Unit → Shared → Prop} (e1 : s.heap.get? c = some o) (e2 : o.data = .fields fs) (hi : i < fs.size)
 (go : ∀ g o', g.get? c = some o' → o'.cls = o.cls → o'.data = .fields (fs.set! i x) → Heap.SameBut c s.heap g → Q () { s with heap := g }) : wpAny (model prog w) A (setField (.ref c) i x) Q E s := by
 refine wpAny_setField e1 e2 hi ?_
 have f : (o.mapFields fun a => a.set! i x).data = .fields (fs.set! i x) := Obj.data_mapFields e2 _
 exact go _ _ (Heap.get?_update_self _ e1 (Obj.isFreed_of_fields f)) (Obj.cls_mapFields ..) f (Heap.SameBut.update ..)
theorem tstep {c d : Addr} {k : Nat} {zs : Array Value} {v : Value} {Q : Value → Shared → Prop} (hI : s.heap.IsTupleIter c d k) (hT : s.heap.IsTuple d zs) (hv : zs[k]? = some v)
 (go : ∀ g, g.IsTupleIter c d (k + 1) → Heap.SameBut c s.heap g → Q v { s with heap := g }) : wpAny (model prog w) A (Builtin.«tuple_iterator.__next__» ⟨[.ref c], []⟩) (fun fin s' => ∃ u, fin = .done (.ret u) ∧ Q u s') E s := by
 have hI' := hI
 obtain ⟨oc, q1, q2, q3⟩ := hI'
 have hT' := hT
 obtain ⟨od, p1, _, nd, p3⟩ := hT'
 have at_ : zs[((k : Nat) : Int).toNat]? = some v := by simpa using hv
 wp_walk using wpAny_field q1 q3 (x := .ref d) rfl, wpAny_field q1 q3 (x := .int k 0) rfl, wpAny_seqItems p1 p3
 rw [at_]
 refine wpAny_bind (tsetAt q1 q3 (by simp) fun g o' a1 a2 a3 sb => ?_)
 wp_walk
 exact ⟨_, rfl, go g ⟨o', a1, a2.trans q2, by rw [a3]; simp [rawInt]⟩ sb⟩
theorem tstop {c d : Addr} {k : Nat} {zs : Array Value} {Q : PySem.Fin → Shared → Prop} (hh : A.handled = none) (hI : s.heap.IsTupleIter c d k) (hT : s.heap.IsTuple d zs) (hv : zs[k]? = none)
 (go : ∀ g e, Heap.ExtBut c s.heap g → (∃ o, g.get? e = some o ∧ o.cls = .type "StopIteration") → E (.ref e) { s with heap := g }) : wpAny (model prog w) A (Builtin.«tuple_iterator.__next__» ⟨[.ref c], []⟩) Q E s := by
 have hI' := hI
 obtain ⟨oc, q1, q2, q3⟩ := hI'
 have hT' := hT
 obtain ⟨od, p1, _, nd, p3⟩ := hT'
 have at_ : zs[((k : Nat) : Int).toNat]? = none := by simpa using hv
 wp_walk using wpAny_field q1 q3 (x := .ref d) rfl, wpAny_field q1 q3 (x := .int k 0) rfl, wpAny_seqItems p1 p3
 rw [at_]
 refine wpAny_bind (wpAny_rule (wpAny_bind (tsetAt q1 q3 (by simp) fun g o' a1 a2 a3 sb => ?_)))
 wp_walk
 unfold raiseNew
 wp_walk using wpAny_handled
 rw [hh]
 wp_walk
 exact go _ _ ((sb.extBut.push _).push _) ⟨_, Heap.get?_push_size _ rfl, rfl⟩
theorem tnext {c d : Addr} {k : Nat} {zs : Array Value} {v : Value} {Q : Value → Shared → Prop} (hI : s.heap.IsTupleIter c d k) (hT : s.heap.IsTuple d zs) (hv : zs[k]? = some v)
 (go : ∀ g, g.IsTupleIter c d (k + 1) → Heap.SameBut c s.heap g → Q v { s with heap := g }) : wpAny (model prog w) A (Builtin.SmallTypes.nextOf (.ref c)) Q E s := by
 have sl := F.slot_tuple_iterator_next
 unfold Builtin.SmallTypes.nextOf
 refine wpAny_bind (wpAny_callSpecial?_slot (name := Str.ofString "__next__") hI.typeIs sl (wpAny_call_entry sl hI.typeIs F.entry_tuple_iterator_next ?_ (F.args_tuple_iterator_next_1 _)))
 exact wpAny_mono (tstep (Q := fun u s' => u = v ∧ Q v s') hI hT hv fun g a b => ⟨rfl, go g a b⟩) (fun fin s' ⟨u, e, e2, q⟩ => ⟨u, e, wpAny_pure (e2 ▸ q)⟩) fun _ _ z => z
theorem tnone {c d : Addr} {k : Nat} {zs : Array Value} {Q : Value → Shared → Prop} (hh : A.handled = none) (hI : s.heap.IsTupleIter c d k) (hT : s.heap.IsTuple d zs) (hv : zs[k]? = none)
 (go : ∀ g e, Heap.ExtBut c s.heap g → (∃ o, g.get? e = some o ∧ o.cls = .type "StopIteration") → E (.ref e) { s with heap := g }) : wpAny (model prog w) A (Builtin.SmallTypes.nextOf (.ref c)) Q E s := by
 have sl := F.slot_tuple_iterator_next
 unfold Builtin.SmallTypes.nextOf
 refine wpAny_bind (wpAny_callSpecial?_slot (name := Str.ofString "__next__") hI.typeIs sl (wpAny_call_entry sl hI.typeIs F.entry_tuple_iterator_next ?_ (F.args_tuple_iterator_next_1 _)))
 exact tstop hh hI hT hv go
structure Zp (h : Heap) (z u o c1 c2 d e : Addr) (xs ys : Array Value) (k : Nat) : Prop where
 zip : IsZip h z u o .none
 its : IsPair h u (.ref c1) (.ref c2)
 own : ∃ a b, IsPair h o a b
 i1 : h.IsTupleIter c1 d k
 i2 : h.IsTupleIter c2 e k
 t1 : h.IsTuple d xs
 t2 : h.IsTuple e ys
structure Ap (z u o c1 c2 d e : Addr) : Prop where
 ne : [z, u, o, c1, c2].Nodup
 nd : ∀ b ∈ [z, u, o, c1, c2], d ≠ b ∧ e ≠ b
end
theorem sqT_apart {X : Cx} {pins : List (Addr × Obj)} {σ : L2.St} {H : Hp} {s : Shared} {d b : Addr} {xs : List V} (I : Inv X pins σ H s) (h : SqT X.K H d xs) (f : FpOk X pins H b) : d ≠ b := fun z => by
 subst z
 rcases h with h | ⟨o, its, n, hk, _⟩
 · rcases h with h | ⟨o, h⟩
   · rw [f.1] at h; cases h
   · rw [f.1] at h; cases h
 · have e := I.ok.mod.kin d o hk
   rcases f.2.2.2.1 with z | z
   · exact I.ok.noex d o e z
   · exact absurd (Nat.lt_of_lt_of_le (Heap.lt_size e) (Nat.le_trans I.ok.bsz z)) (Nat.lt_irrefl _)
theorem preSum_take (ns : List Int) : ∀ n, n ≤ ns.length → preSum (fun i => ns.getD i 0) n = (ns.take n).sum
 | 0, _ => rfl
 | n + 1, h => by
  show preSum _ n + ns.getD n 0 = _
  rw [preSum_take ns n (by omega), List.take_add_one, List.sum_append, List.getD_eq_getElem?_getD, List.getElem?_eq_getElem (by omega)]
  simp
theorem vals_int : ∀ {ns : List Int} {its : List Value} {i : Nat} {v : Value}, Vals (ns.map V.int) its → its[i]? = some v → ∃ n t, ns[i]? = some n ∧ v = .int n t
 | [], _, i, v, r, e => by cases r; simp_all
 | n :: ns, _, i, v, r, e => by
  cases r with
  | cons r rr =>
   cases i with
   | zero => simp at e; subst e; obtain ⟨t, rfl⟩ := r; simp
   | succ i =>
    obtain ⟨n', t, h1, h2⟩ := vals_int rr (by assumption)
    simp_all
theorem boot_sum' : bootBuiltins "sum" = some (.builtin "sum") := by rfl
section
variable {K : PySem.W.Frag}
theorem g_tup2 (hi : At X.N i x) (hj : At X.N j y) (hc : X.calm = true) (hN : X.N.Nodup) (hx : X.env.scope.names.lookup x = some .local) (hy : X.env.scope.names.lookup y = some .local)
 (h1 : (assignEach [.Name x px, .Name y py] X.env).map (·.2) = assign (.Name x px) X.env :: (assignEach [.Name y py] X.env).map (·.2))
 (h2 : (assignEach [.Name y py] X.env).map (·.2) = assign (.Name y py) X.env :: (assignEach [] X.env).map (·.2))
 (hn : (assignEach [.Name x px, .Name y py] X.env).length = 2) (hst : (assignEach [.Name x px, .Name y py] X.env).findIdx? (·.1) = none) : JG X (.Tuple [.Name x px, .Name y py] kt pt) (gTup X.K 2 (gCons (gName i) (gCons (gName j) gNil))) :=
 ⟨pg_tup hc (pgs_cons (pg_name hN hi.get (.inl hx) (.inr hx)) (pgs_cons (pg_name hN hj.get (.inl hy) (.inr hy)) pgs_nil h2) h1) hn hst⟩
end
structure GInt (mg : Str → Option Value) (x : Str) (n : Int) : Prop where
 is : ∃ t, mg x = some (.int n t)
section
variable {K : PySem.W.Frag}
theorem j_const (g : GInt X.mg x n) (hg : Gl X x) (hd : (x == ("__debug__" : Str)) = false) : JE X (.Name x pos) (tC (.int n)) := ⟨let ⟨t, h⟩ := g.is; pe_glob hg h ⟨t, rfl⟩ hd⟩
end
end Br
namespace Br
end Br
namespace Br
open PySem PySem.Spec PySem.Calls PyProof.Rows L2
section
variable {K : PySem.W.Frag}
theorem c_isN : JCop X .Is (fun x y H Q => y = .non ∧ Q (.bl (decide (x = .non))) H) := ⟨op_isN⟩
end
section
variable {K : PySem.W.Frag} {pos p kp : Pos} {x nm : Str} {id : String}
def rSortS (K : PySem.W.Frag) : List V → Hp → VK → Prop := fun xs H Q => ∃ (p : Addr) (ns : List Int), xs = [.ref p] ∧ (SqL K H p (ns.map V.int) ∨ SqT K H p (ns.map V.int)) ∧ ns.length < 64 ∧
 ∀ (l : Addr) (ms : List Int) (H' : Hp), H l = none → L2.Same H H' → H' l = some (.lst (ms.map V.int)) → ms.Perm ns → ms.Pairwise (· ≤ ·) → Q (.ref l) H'
theorem vals_ints : ∀ {ns : List Int} {vs : List Value}, Vals (ns.map V.int) vs → IntsAre vs ns
 | [], _, r => by cases r; exact .nil
 | n :: ns, _, r => by
  cases r with
  | cons r rr =>
   obtain ⟨t, rfl⟩ := r
   exact .cons n t (vals_ints rr)
theorem call_sortS : CallR X (.builtin "sorted") (rSortS X.K) := by
 intro pins s σ H xs us Q I r h
 obtain ⟨p, ns, rfl, hq, h64, q⟩ := h
 obtain ⟨u, rfl, rx⟩ := vals1 r
 cases rx
 have hsz : (sizeLine : Nat) = 16777216 := sizeLine_eq
 obtain ⟨its, o, T, cn, r', hT, ho, hcl, hdt⟩ : ∃ (its : List Value) (o : Obj) (T : String) (cn : Nat), Vals (ns.map V.int) its ∧ (T = "list" ∨ T = "tuple") ∧ s.heap.get? p = some o ∧ o.cls = .type T ∧ o.data = .seq its.toArray cn := by
  rcases hq with hq | hq
  · obtain ⟨its, r', pl, hz⟩ := I.list hq
    obtain ⟨o, ho, hc, n, hd⟩ := pl.isList
    exact ⟨its, o, "list", n, r', .inl rfl, ho, hc, hd⟩
  · obtain ⟨its, r', ⟨o, ho, hc, n, hd⟩, hz⟩ := I.tuple hq
    exact ⟨its, o, "tuple", n, r', .inr rfl, ho, hc, hd⟩
 have hl : its.length = ns.length := by rw [← r'.length, List.length_map]
 refine Calls.call_function_entry kind_sorted plain_sorted entry_sorted (args_sorted1 _) ?_
 unfold Builtin.«sorted»
 refine wpAny_bind (m := checkCount "sorted" 1 1 _) (wpAny_pure ?_)
 refine wpAny_bind (wpAny_collect_seq p hT ho hcl hdt (fun h' hk => ?_) (by rw [List.size_toArray]; omega))
 have hI : IntsAre its ns := vals_ints r'
 have eI : its.toArray.toList = its := by simp
 rw [eI]
 refine wpAny_bind (wpAny_newList ?_ (by rw [hl]; omega))
 have hoL : (h'.push (seqObj "list" its.toArray 0)).get? h'.objs.size = some (seqObj "list" its.toArray 0) := Heap.get?_push_size _ rfl
 refine wpAny_bind (wpAny_holding (wpAny_call_entry slot_list_sort ⟨_, hoL, rfl⟩ entry_list_sort (list_sort_tree hoL hI (by omega) fun out ns' a1 a2 a3 => ⟨_, rfl, ?_⟩) (args_list_sort _)))
 refine wpAny_pure ⟨_, rfl, ?_⟩
 obtain ⟨n', e'⟩ : ∃ n', (sortedHeap (h'.push (seqObj "list" its.toArray 0)) h'.objs.size its out).get? h'.objs.size = some (seqObj "list" out n') := sortedHeap_at hoL
 have I1 : Inv X pins σ H { s with heap := h' } := I.kept (t' := s.toks) hk
 have hfr : H h'.objs.size = none := I1.hok.fresh (Nat.le_refl _)
 have keep : ∀ b o, h'.get? b = some o → (sortedHeap (h'.push (seqObj "list" its.toArray 0)) h'.objs.size its out).get? b = some o := fun b o e => by
  have hb := Heap.lt_size e
  rw [sortedHeap_old (Nat.ne_of_lt hb) (by rw [Heap.size_push]; exact Nat.lt_succ_of_lt hb)]
  exact Heap.get?_push_of_some _ e
 have hlen : ns'.length ≤ sizeLine := by rw [a2.length_eq]; omega
 have I2 :=
  I1.laid (t' := s.toks) keep (Nat.le_refl _) (show ObjOk X.prog X.w _ _ _ (.lst (ns'.map V.int)) from ⟨by rw [List.length_map]; exact hlen, out.toList, n', ints_vals a1, by simpa using e'⟩)
 exact ⟨.ref h'.objs.size, _, I2, rfl, q _ _ _ hfr (Br.Same.upd hfr) upd_same a2 a3⟩
end
end Br
namespace Br
open PySem PySem.Spec PyProof.Rows L2
end Br
namespace Br
open PySem PySem.Spec PySem.Calls PyProof.Rows L2
section
theorem iter_seq {pins : List (Addr × Obj)} {s : Shared} {σ : L2.St} {H : Hp} {p : Addr} {ns : List Int} (hc : X.calm = true) (I : Inv X pins σ H s) (hq : SqL X.K H p (ns.map V.int) ∨ SqT X.K H p (ns.map V.int)) {Q : Value → Shared → Prop} {E : Value → Shared → Prop}
 (h : ∀ (T : String) (its : List Value) (St : Nat → Heap → Prop), its.length = ns.length → (∀ (i : Nat) (v : Value), its.toArray[i]? = some v → ∃ t, v = Value.int (ns.getD i 0) t) →
  Walks X.prog X.w X.A.in1 s.heap.objs.size [s.heap.objs.size, p] [s.heap.objs.size] its.toArray.size (fun i v => its.toArray[i]? = some v) St → St 0 (s.heap.push { cls := .type T, data := .fields #[.ref p, .int 0 0] }) → p < s.heap.objs.size →
  Q (.ref s.heap.objs.size) { s with heap := s.heap.push { cls := .type T, data := .fields #[.ref p, .int 0 0] } }) : wpAny (model X.prog X.w) X.A.in1 (pyIter (.ref p)) Q E s := by
 rcases hq with hq | hq
 · obtain ⟨its, r', pl, hz⟩ := I.list hq
   have hp : p < s.heap.objs.size := by obtain ⟨_, _, e, _⟩ := pl; exact Heap.lt_size e
   have hl : its.length = ns.length := by rw [← r'.length, List.length_map]
   exact wpAny_pyIter_list pl.isList (h "list_iterator" its _ hl (fun i v e => by
    obtain ⟨n, t, h1, h2⟩ := vals_int r' (by simpa using e)
    exact ⟨t, by rw [h2, List.getD_eq_getElem?_getD, h1]; rfl⟩) (Walks.list (A := X.A.in1) (I.ok.hd hc) s.heap.objs.size p (Nat.ne_of_lt hp) its.toArray) ⟨⟨_, Heap.get?_push_size _ rfl, rfl, rfl⟩, pl.isList.at fun o e => Heap.get?_push_of_some _ e⟩ hp)
 · obtain ⟨its, r', pl, hz⟩ := I.tuple hq
   have pl' : s.heap.IsTuple p its.toArray := pl
   have hp : p < s.heap.objs.size := by obtain ⟨_, e, _⟩ := pl; exact Heap.lt_size e
   have hl : its.length = ns.length := by rw [← r'.length, List.length_map]
   exact wpAny_pyIter_tuple pl' (h "tuple_iterator" its _ hl (fun i v e => by
    obtain ⟨n, t, h1, h2⟩ := vals_int r' (by simpa using e)
    exact ⟨t, by rw [h2, List.getD_eq_getElem?_getD, h1]; rfl⟩) (Walks.tuple (A := X.A.in1) (I.ok.hd hc) s.heap.objs.size p (Nat.ne_of_lt hp) its.toArray) ⟨⟨_, Heap.get?_push_size _ rfl, rfl, rfl⟩, pl'.at fun o e => Heap.get?_push_of_some _ e⟩ hp)
theorem fp_lt {s : Shared} {p : Addr} (hp : p < s.heap.objs.size) : ∀ b ∈ [s.heap.objs.size, p], b < (s.heap.push o).objs.size := fun b hb => by
 rw [Heap.size_push]
 rcases List.mem_cons.mp hb with e | hb
 · simp_all
 · rw [List.mem_singleton.mp hb]; exact Nat.lt_succ_of_lt hp
def rSumS (K : PySem.W.Frag) : List V → Hp → VK → Prop := fun xs H Q => ∃ (p : Addr) (ns : List Int), xs = [.ref p] ∧ (SqL K H p (ns.map V.int) ∨ SqT K H p (ns.map V.int)) ∧ Q (.int ns.sum) H
theorem call_sumS (hc : X.calm = true) : CallR X (.builtin "sum") (rSumS X.K) := by
 intro pins s σ H xs us Q I r h
 obtain ⟨p, ns, rfl, hq, q⟩ := h
 obtain ⟨u, rfl, rx⟩ := vals1 r
 cases rx
 refine call_sum_walkAnyS (iter_seq hc I hq fun T its St hl hval W st hp => ⟨s.heap.objs.size, _, _, _, _, _, _, fun i => ns.getD i 0, rfl, W.toS, st, fp_lt hp, fun i v e => hval i v e, fun s' t' hm => ?_⟩)
 rw [List.size_toArray, hl, preSum_take ns _ (Nat.le_refl _), List.take_length]
 have hk := fun b o e => hm.heap b o (fun hI => absurd (Heap.lt_size e) (by simp_all)) (Heap.get?_push_of_some _ e)
 rw [Moved.eq_with hm]
 exact ⟨.int ns.sum, H, I.kept hk, ⟨t', rfl⟩, q⟩
def rCatTA (K : PySem.W.Frag) : R2 := fun x y H Q => ∃ a b xs ys, x = .ref a ∧ y = .ref b ∧ SqT K H a xs ∧ SqT K H b ys ∧ xs.length + ys.length ≤ sizeLine ∧ ∀ p H2, L2.Same H H2 → SqT K H2 p (xs ++ ys) → Q (.ref p) H2
theorem op_catTA : OpR X (binaryOp .Add) (rCatTA X.K) := fun pins s σ H x y v u Q I rx ry h => by
 obtain ⟨a, b, xs, ys, e1, e2, h1, h2, hz, q⟩ := h
 by_cases hx : xs = []
 · subst e1; subst e2; subst hx
   cases rx; cases ry
   obtain ⟨its, r1, p1, _⟩ := I.tuple h1
   obtain ⟨its2, r2, p2, _⟩ := I.tuple h2
   have hv := r1.nil_iff.mpr rfl
   obtain ⟨⟨cls, dd, data, sl⟩, ho, hc, n, hd⟩ := id p1
   obtain ⟨⟨cls2, dd2, data2, sl2⟩, ho2, hc2, n2, hd2⟩ := id p2
   subst hc hd hc2 hd2
   exact concat_meets ⟨_, ho, rfl⟩ ⟨_, ho2, rfl⟩ noFill_tuple_add seq_tuple_add PySem.F.slot_tuple_add PySem.F.entry_tuple_add (PySem.F.args_tuple_add_2 _ _)
    (tuple_addW0 a b its.toArray its2.toArray n n2 dd dd2 sl sl2 (by grind)) ⟨ho, ho2, ⟨.ref b, H, I, rfl, q b H (L2.Same.refl _) h2⟩⟩
 · exact op_catTS pins s σ H x y v u Q I rx ry ⟨a, b, xs, ys, e1, e2, h1, h2, hx, hz, q⟩
end
section
variable {K : PySem.W.Frag}
theorem k_addA (hK : X.K = K) : JOp X .Add (fun x y H Q => rI0 (fun i j => .int (i + j)) x y H Q ∨ rCatS x y H Q ∨ rCatTA K x y H Q) := hK ▸ ⟨op_add.or (op_catS.or op_catTA)⟩
section
variable (hg : Gl X x) (he : starEach (e :: es) X.env = (false, eval e X.env) :: starEach es X.env) (hpl : (backTo pos (starEach es X.env)).any (·.1) = false)
include hg he hpl
theorem k_sumS (hK : X.K = K) (hx : x = "sum") (hc : X.calm = true) (hm : X.mg x = none) (ha : JA X (e :: es) t) : JE X (.Call (.Name x p) (e :: es) [] pos) (tCB (rSumS K) t) := hK ▸ ⟨by subst hx; exact pe_callB (call_sumS hc) hg hm boot_sum' ha.h (by decide) (by decide) he hpl⟩
end
def rRepS : R2 := fun x y H Q => ∃ l k xs, x = .ref l ∧ y = .int k ∧ H l = some (.lst xs) ∧ -(2 ^ 63) ≤ k ∧ k < 2 ^ 63 ∧ xs.length * k.toNat ≤ sizeLine ∧ ∀ p H2, H p = none → L2.Same H H2 → H2 p = some (.lst (List.replicate k.toNat xs).flatten) → Q (.ref p) H2
theorem op_repS : OpR X (binaryOp .Mult) rRepS := fun pins s σ H x y v u Q I rx ry h => by
 obtain ⟨l, k, xs, e1, e2, h1, h2, h3, h4, q⟩ := h
 exact op_rep pins s σ H x y v u Q I rx ry ⟨l, k, xs, e1, e2, h1, h2, h3, h4, fun p hp => q p _ hp (Br.Same.upd hp) upd_same⟩
theorem j_repL (ha : JE X (.List es p) ta) (hb : JE X b tb) : JE X (.BinOp (.List es p) .Mult b pos) (tOp rRepS ta tb) := ⟨r_bin op_repS ha.h hb.h⟩
theorem u_cmpM (hm : lastMarks [op] [b] = false) (ho : JCop X op r) (ha : JE X a ta) (hb : JE X b tb) : JT X (.Compare a [op] [b] pos) (tTest (tOp r ta tb)) := ⟨pt_cmpR ho.h ha.h hb.h hm⟩
theorem j_cmpM (hm : lastMarks [op] [b] = false) (ho : JCop X op r) (ha : JE X a ta) (hb : JE X b tb) : JE X (.Compare a [op] [b] pos) (tOp r ta tb) := ⟨pe_cmpR ho.h ha.h hb.h hm⟩
theorem k_extend (hK : X.K = K) (hbase : attributeBase o "extend" X.env (eval o X.env) = eval o X.env) (hfew : ((backTo cpos (starEach [e] X.env)).all (fun x => !x.1) && (backToKw cpos (keywordEach [] X.env)).all (fun x => x.1.isSome)
 && decide (([e] : List Expr).length + ([] : List Keyword).length + (if ([] : List Keyword).isEmpty then 0 else 1) < 30)) = true) (hline : (apos.endLine == cpos.line) = true) (hs : starEach [e] X.env = (false, eval e X.env) :: starEach [] X.env)
 (hpl : (backTo cpos (starEach [] X.env)).any (·.1) = false) (ho : JE X o to) (ha : JA X [e] t) : JE X (.Call (.Attribute o "extend" apos) [e] [] cpos) (tBM K "list" rExtend to t) :=
 hK ▸ ⟨pe_bm PySem.F.plainAttrs_list PySem.F.slot_list_extend PySem.F.type_list_extend mt_extend ho.h ha.h hbase hfew hline hs hpl⟩
end
end Br
namespace Br
end Br
namespace Br
open PySem PySem.Spec PySem.Calls PyProof.Rows L2
structure RoomH (k : Nat) (A : Around) : Prop where
 dp : A.depth + 3 * k + 5 < recursionLimit
 un : A.units + 16 * k + 200 < cLine
section
theorem c_isnotN : JCop X .IsNot (fun x y H Q => y = .non ∧ Q (.bl (!decide (x = .non))) H) := ⟨op_notN⟩
end
theorem fillT : fillsNumberSlot (.type "tuple") "mul" = pure false := PySem.fillsNumberSlot_seq (id := "tuple.__mul__") (r := some (.builtin "tuple.__rmul__")) PySem.F.slot_tuple_mul.lookup (by decide +kernel) PySem.F.slot_tuple_rmul.lookup (by decide +kernel)
theorem repT : seqRepeat? (.type "tuple") = pure (some (.builtin "tuple.__mul__")) := by
 unfold seqRepeat?
 rw [PySem.seqSlot_of (T := "tuple") (name := "__mul__") (id := "tuple.__mul__") PySem.F.slot_tuple_mul.lookup (by decide +kernel), PySem.seqSlot_of (T := "tuple") (name := "__rmul__") (id := "tuple.__rmul__") PySem.F.slot_tuple_rmul.lookup (by decide +kernel)]
 rfl
theorem rmulT (k : Int) (t : Tok) (a : Addr) (its : Array Value) (c : Nat) (dd : Option Addr) (sl : Array (Option Value)) :
 Meets (Builtin.«int.__rmul__» ⟨[.int k t, .ref a], []⟩) (fun _ R s => s.heap.get? a = some { cls := .type "tuple", dict := dd, data := .seq its c, slots := sl } ∧ R (.ok (.ret Value.notImplemented)) s) :=
 .of_wp fun pr ww Ar Rr st hy => by
  obtain ⟨h1, h2, h3, h4, h5⟩ := st
  obtain ⟨q1, q2⟩ := hy
  wp_walk
  exact ⟨_, rfl, q2⟩
theorem mulT1 (t : Tok) (a : Addr) (its : Array Value) (c : Nat) (dd : Option Addr) (sl : Array (Option Value)) :
 Meets (Builtin.«tuple.__mul__» ⟨[.ref a, .int 1 t], []⟩) (fun _ R s => s.heap.get? a = some { cls := .type "tuple", dict := dd, data := .seq its c, slots := sl } ∧ R (.ok (.ret (.ref a))) s) :=
 .of_wp fun pr ww Ar Rr st hy => by
  obtain ⟨h1, h2, h3, h4, h5⟩ := st
  obtain ⟨q1, q2⟩ := hy
  have f1 := AutoSeq1.idx_int
  wp_walk using wpAny_loadPart' q1
  exact ⟨_, rfl, q2⟩
theorem joinT (vs : List Value) (m : Nat) : List.foldl (fun x1 x2 => x1 ++ x2) #[] (List.replicate m vs.toArray) = (List.replicate m vs).flatten.toArray := by
 have := foldl_rep vs m []
 rw [List.nil_append] at this
 exact this
theorem mulTn (k : Int) (t : Tok) (a : Addr) (vs : List Value) (c : Nat) (dd : Option Addr) (sl : Array (Option Value)) (h1 : 2 ≤ k) (h2 : k < 2 ^ 63) (h0 : vs ≠ []) (hz : vs.length * k.toNat ≤ sizeLine) :
 Meets (Builtin.«tuple.__mul__» ⟨[.ref a, .int k t], []⟩) (fun _ R s => s.heap.get? a = some { cls := .type "tuple", dict := dd, data := .seq vs.toArray c, slots := sl } ∧ R (.ok (.ret (.ref s.heap.objs.size))) { s with heap := s.heap.push { cls := .type "tuple", data := .seq (List.replicate k.toNat vs).flatten.toArray } }) :=
 .of_wp fun pr ww Ar Rr st hy => by
  obtain ⟨g1, g2, g3, g4, g5⟩ := st
  obtain ⟨q1, q2⟩ := hy
  have f1 := AutoSeq1.idx_int
  have e0 : vs.toArray.isEmpty = false := by cases vs with
   | nil => exact absurd rfl h0
   | cons _ _ => rfl
  have hs : (sizeLine : Nat) = 16777216 := sizeLine_eq
  have hzi : (vs.toArray.size : Int) * k ≤ 16777216 := by
   rw [List.size_toArray]
   have : ((vs.length * k.toNat : Nat) : Int) ≤ 16777216 := by omega
   rw [Int.natCast_mul, Int.toNat_of_nonneg (by omega)] at this
   exact this
  have c1 : ¬ (k < -(2 ^ 63) || k ≥ 2 ^ 63) = true := by simp; omega
  have c2 : ¬ (vs.toArray.isEmpty || k == 1) = true := by rw [e0]; simp; omega
  have c3 : ¬ (decide (k ≤ 0) || vs.toArray.isEmpty) = true := by rw [e0]; simp; omega
  have c4 : ¬ (vs.toArray.size : Int) * k > (2 ^ 63 - 1) / 8 := by omega
  have c5 : ¬ Builtin.Tuple.tupleTooMany ((vs.toArray.size : Int) * k) = true := by unfold Builtin.Tuple.tupleTooMany; rw [hs]; simp only [decide_eq_true_eq]; omega
  have c6 : ¬ (List.replicate k.toNat vs).flatten.toArray.size > sizeLine := by rw [List.size_toArray, len_rep, Nat.mul_comm]; omega
  wp_walk using wpAny_loadPart' q1
  rw [if_neg c1]
  wp_walk using wpAny_loadPart' q1
  rw [if_neg c2]
  rw [if_neg c3]
  rw [if_neg c4]
  rw [if_neg c5]
  rw [joinT]
  wp_walk using wpAny_loadPart' q1
  rw [if_neg c6]
  wp_walk using wpAny_loadPart' q1
  exact ⟨_, rfl, q2⟩
section
def rRepT (K : PySem.W.Frag) : R2 := fun x y H Q => ∃ a k xs, x = .ref a ∧ y = .int k ∧ H a = some (.tup xs) ∧ xs ≠ [] ∧ 1 ≤ k ∧ k < 2 ^ 63 ∧ xs.length * k.toNat ≤ sizeLine ∧ ∀ p H2, L2.Same H H2 → H2 p = some (.tup (List.replicate k.toNat xs).flatten) → Q (.ref p) H2
theorem op_repT : OpR X (binaryOp .Mult) (rRepT X.K) := by
 intro pins s σ H x y v u Q I rx ry h
 obtain ⟨a, k, xs, rfl, rfl, hH, hne, h1, h2, hz, q⟩ := h
 cases rx
 obtain ⟨t, rfl⟩ := ry
 obtain ⟨its, r, pt, _⟩ := I.tuple (SqT.of (K := X.K) hH)
 have hl := r.length
 obtain ⟨⟨cls, dd, data, sl⟩, ho, hc, n, hd⟩ := id pt
 simp only at hc hd
 subst hc hd
 have hits : its ≠ [] := fun z => hne (r.nil_iff.mp z)
 refine wpAny_binaryOp_repeat_ref (T := "tuple") (U := "int") (by decide) ⟨_, ho, rfl⟩ (fun s' => typeIs_int s' k t) fillT F.fills_int_mul F.slot_int_rmul repT F.slot_int_index.lookup
  (call_meets F.slot_int_rmul (typeIs_int s k t) F.entry_int_rmul (F.args_int_rmul_2 _ _) (rmulT k t a its.toArray n dd sl) ⟨ho, rfl, ⟨_, ho, rfl⟩, ?_⟩)
 by_cases k1 : k = 1
 · subst k1
   refine call_meets PySem.F.slot_tuple_mul ⟨_, ho, rfl⟩ PySem.F.entry_tuple_mul (PySem.F.args_tuple_mul_2 _ _) (mulT1 t a its.toArray n dd sl) ⟨ho, ?_⟩
   refine ⟨.ref a, H, I, rfl, q a H (L2.Same.refl _) ?_⟩
   have : (List.replicate (1 : Int).toNat xs).flatten = xs := by simp
   rw [this]; exact hH
 · refine call_meets PySem.F.slot_tuple_mul ⟨_, ho, rfl⟩ PySem.F.entry_tuple_mul (PySem.F.args_tuple_mul_2 _ _) (mulTn k t a its n dd sl (by omega) h2 hits (by rw [← hl]; exact hz)) ⟨ho, ?_⟩
   have hn : H s.heap.objs.size = none := I.hok.fresh (Nat.le_refl _)
   refine ⟨.ref s.heap.objs.size, _, I.laid (t' := s.toks) (o := .tup (List.replicate k.toNat xs).flatten) (fun b ob e => Heap.get?_push_of_some _ e) (Nat.le_refl _) ?_, rfl, q _ _ (Br.Same.upd hn) upd_same⟩
   exact ⟨by rw [len_rep, Nat.mul_comm]; exact hz, _, r.rep k.toNat, IsTupB.new _ _⟩
end
theorem seqT {K : PySem.W.Frag} (e : L2.Same H H') (h : SqT K H a xs) : SqT K H' a xs := by
 rcases h with (h | ⟨o, h⟩) | h
 · exact .inl (.inl (e _ _ h))
 · exact .inl (.inr ⟨o, e _ _ h⟩)
 · exact .inr h
section
variable {kz : Array Keyed}
theorem one_run {u : SortSt} {n : Nat} {Q : Option Nat → SortSt → Prop} (ik : IntKeys kz) (hn : n ≤ kz.size) (n1 : 1 ≤ n) (sb : SBase kz u) (so : SortedTo (arrOf u) n) (q : Q (some n) u) :
 wpS (model prog w) A E s (countRun' 0 n) Q u := by
 rw [countRun0_eq]
 refine wpS_bind (wpS_ascLoop ik hn (Nat.le_refl 1) n1 sb (fun x y hxy hy => ?_) fun m m1 m2 _ hor => ?_)
 · have e : x = y := by omega
   rw [e]; exact Int.le_refl _
 · have hm : m = n := by
    rcases hor with e | e
    · exact e
    · by_cases z : m = n
      · exact z
      · have := so (m - 1) m (by omega) (by omega); omega
   subst hm
   dsimp only
   rw [if_pos (by simp)]
   exact wpS_pure q
theorem minRun_le : ∀ (f n r : Nat), r ≤ 1 → minRun' f n r ≤ n + r
 | 0, n, r, _ => Nat.le_refl _
 | f + 1, n, r, h => by
  rw [minRun'_succ]
  by_cases c : n < 64
  · rw [if_pos c]; exact Nat.le_refl _
  · rw [if_neg c]
    have := minRun_le f (n / 2) (max r (n % 2)) (by omega)
    omega
theorem runs_one {u : SortSt} {Q : Unit → SortSt → Prop} (ik : IntKeys kz) (sb : SBase kz u) (k2 : 2 ≤ kz.size) (so : SortedTo (arrOf u) kz.size)
 (q : ∀ v, (arrOf v).Perm kz → failedOf v = none → SortedTo (arrOf v) kz.size → Q () v) : wpS (model prog w) A E s sortRuns' Q u := by
 rw [sortRuns'_eq]
 refine wpS_bind (wpS_get ?_)
 dsimp only
 have hmr := minRun_le kz.size kz.size 0 (by decide)
 simp only [sb.size]
 generalize minRun' kz.size kz.size 0 = mr at hmr
 refine wpS_bind (wpS_mono (wpS_forRange (I := fun i c v => (i = 0 ∧ c = (none, 0) ∧ v = u) ∨ (1 ≤ i ∧ c = (none, kz.size) ∧ SDone kz v)) (Q := fun c v => c = (none, kz.size) ∧ SDone kz v) ?turn ?end_ (.inl ⟨rfl, rfl, rfl⟩)) ?then_)
 case end_ =>
  rintro c v (⟨z, _, _⟩ | ⟨_, e, d⟩)
  · omega
  · exact ⟨e, d⟩
 case turn =>
  rintro i c v _ hi (⟨rfl, rfl, rfl⟩ | ⟨i1, rfl, d⟩)
  · dsimp only
    rw [if_neg (by omega)]
    simp only [Nat.sub_zero, Nat.zero_add]
    refine wpS_bind (one_run ik (Nat.le_refl _) (by omega) sb so ?_)
    dsimp only
    rw [if_neg (show ¬ kz.size < mr by omega)]
    have none_ : (pendingOf v).back? = none := by rw [sb.pend]; rfl
    refine wpS_bind (wpS_get ?_)
    rw [none_]
    dsimp only
    refine wpS_bind (wpS_modify (wpS_pure (.inr ⟨?_, rfl, sb.done so⟩)))
    omega
  · dsimp only
    rw [if_pos (Nat.le_refl _)]
    exact wpS_pure ⟨rfl, d⟩
 case then_ =>
  rintro c v ⟨rfl, d⟩
  dsimp only
  refine wpS_bind (wpS_mono (wpS_forRange (I := fun _ c x => x = v ∧ c = (none, ())) (Q := fun c x => x = v ∧ c = (none, ())) ?t2 (fun _ _ y => y) ⟨rfl, rfl⟩) ?t3)
  case t2 =>
   rintro i c x _ _ ⟨rfl, rfl⟩
   refine wpS_bind (wpS_get ?_)
   rw [if_pos (show (pendingOf x).size ≤ 1 by rw [d.2.2.1]; exact Nat.le_refl 1)]
   exact wpS_pure ⟨rfl, rfl⟩
  case t3 =>
   rintro c x ⟨rfl, rfl⟩
   exact wpS_pure (q _ d.1 d.2.1 d.2.2.2)
theorem ints_at : ∀ {vs : List Value} {ns : List Int}, IntsAre vs ns → ∀ i, K (pairsOf vs) i = ns.getD i 0
 | _, _, .nil, i => by unfold K pairsOf; simp
 | _, _, .cons (vs := vs) (ns := ns) n t r, i => by
  have ih := ints_at r
  cases i with
  | zero =>
   have e0 : (pairsOf (Value.int n t :: vs))[0]? = some (Value.int n t, Value.int n t) := by rw [← Array.getElem?_toList, pairsOf_toList]; rfl
   unfold K
   rw [e0]; rfl
  | succ i =>
   have e1 : (pairsOf (Value.int n t :: vs))[i + 1]? = (pairsOf vs)[i]? := by
    rw [← Array.getElem?_toList, ← Array.getElem?_toList, pairsOf_toList, pairsOf_toList]; rfl
   have := ih i
   unfold K at this ⊢
   rw [e1, this]; rfl
theorem so_of {vs : List Value} {ns : List Int} (h : IntsAre vs ns) (p : ns.Pairwise (· ≤ ·)) : SortedTo (pairsOf vs) (pairsOf vs).size := fun i j hij hj => by
 rw [ints_at h, ints_at h]
 rw [pairsOf_size, h.length] at hj
 have e1 : ns.getD i 0 = ns[i] := by rw [List.getD_eq_getElem?_getD, List.getElem?_eq_getElem (by omega)]; rfl
 have e2 : ns.getD j 0 = ns[j] := by rw [List.getD_eq_getElem?_getD, List.getElem?_eq_getElem hj]; rfl
 rw [e1, e2]
 by_cases z : i = j
 · subst z; exact Int.le_refl _
 · exact List.pairwise_iff_getElem.mp p i j (by omega) hj (by omega)
theorem sort_sorted {a : Addr} {vs : List Value} {ns : List Int} {c : Nat} {P : Fin → Shared → Prop} (at_ : s.heap.get? a = some (seqObj "list" vs.toArray c)) (iv : IntsAre vs ns) (pw : ns.Pairwise (· ≤ ·)) (hz : vs.length ≤ sizeLine)
 (q : ∀ (out : Array Value) (ms : List Int), IntsAre out.toList ms → ms.Perm ns → ms.Pairwise (· ≤ ·) → P (.done (.ret .none)) { s with heap := sortedHeap s.heap a vs out }) : wpAny (model prog w) A (Builtin.«list.sort» ⟨[.ref a], []⟩) P E s := by
 rw [list_sort_plain]
 have la : a < s.heap.objs.size := Heap.lt_size at_
 refine wpAny_bind (listItems_at at_ rfl (wpAny_bind (listUpdate_at at_ rfl ?_)))
 obtain ⟨c1, at1⟩ : ∃ c1, (s.heap.update a (Obj.mapSeq fun _ => #[])).get? a = some (seqObj "list" #[] c1) := ⟨_, get?_update_seq at_ (fun _ => #[])⟩
 refine wpAny_bind (seqEpoch_at at1 rfl (wpAny_bind (wpAny_newTuple (wpAny_bind (wpAny_newList (wpAny_holding ?_))) (by show vs.toArray.toList.length ≤ _; simpa using hz))))
 have at2 : (((s.heap.update a (Obj.mapSeq fun _ => #[])).push (seqObj "tuple" vs.toArray 0)).push (seqObj "list" #[] 0)).get? a = some (seqObj "list" #[] c1) := by
  rw [Heap.get?_push_ne, Heap.get?_push_ne]
  · exact at1
  · rw [Heap.size_update]; exact Nat.ne_of_lt la
  · rw [size_push', Heap.size_update]; exact Nat.ne_of_lt (Nat.lt_succ_of_lt la)
 show wpAny (model prog w) A _ P E { s with heap := ((s.heap.update a (Obj.mapSeq fun _ => #[])).push (seqObj "tuple" vs.toArray 0)).push (seqObj "list" #[] 0) }
 dsimp only
 have last : ∀ v : SortSt, (arrOf v).Perm (pairsOf vs) → SortedTo (arrOf v) (pairsOf vs).size → P (.done (.ret .none)) { s with heap := sortedHeap s.heap a vs ((arrOf v).map (·.2)) } := fun v y1 y2 =>
  let ⟨ms, x1, x2, x3⟩ := sorted_out iv y1 y2
  q _ ms x1 x2 x3
 by_cases few : vs.toArray.size < 2
 · rw [if_pos few, if_pos few]
   refine wpAny_bind (wpAny_pure ?_)
   rw [StateT.run_pure]
   refine wpAny_bind (wpAny_pure ?_)
   dsimp only
   refine wpAny_bind (seqEpoch_at at2 rfl (wpAny_bind (listUpdate_at at2 rfl ?_ (hsz2 := by rw [Array.size_map]; show (pairsOf vs).size ≤ _; rw [pairsOf_size]; omega))))
   simp only [bne_self_eq_false, Bool.false_eq_true, if_false]
   exact wpAny_pure (last (SortSt.mk' general' (vs.toArray.zip vs.toArray) #[] 7 none) (Array.Perm.refl _) (so_of iv pw))
 · rw [if_neg few, if_neg few]
   obtain ⟨x, y, r, rfl⟩ : ∃ x y r, vs = x :: y :: r := by
    match vs, few with
    | [], z => simp at z
    | [_], z => simp at z
    | x :: y :: r, _ => exact ⟨x, y, r, rfl⟩
   rw [keyKind_ints iv]
   refine wpAny_bind (wpAny_pure ?_)
   refine wpAny_bind (wpAny_mono (runs_one (kz := pairsOf (x :: y :: r)) (u := SortSt.mk' oneType' ((x :: y :: r).toArray.zip (x :: y :: r).toArray) #[] 7 none)
    (Q := fun _ v => (arrOf v).Perm (pairsOf (x :: y :: r)) ∧ failedOf v = none ∧ SortedTo (arrOf v) (pairsOf (x :: y :: r)).size)
    iv.intKeys ⟨Array.Perm.refl _, rfl, rfl, rfl⟩ (by rw [pairsOf_size]; simp) (so_of iv pw) fun v y1 y2 y3 => ⟨y1, y2, y3⟩) ?_ fun _ _ e => e)
   rintro ⟨⟨⟩, v⟩ s' ⟨rfl, y1, y2, y3⟩
   dsimp only
   refine wpAny_bind (seqEpoch_at at2 rfl (wpAny_bind (listUpdate_at at2 rfl ?_ (hsz2 := Nat.le_trans (Nat.le_of_eq ((Array.size_map ..).trans (y1.size_eq.trans (pairsOf_size _)))) (by omega)))))
   rw [y2]
   simp only [bne_self_eq_false, Bool.false_eq_true, if_false]
   exact wpAny_pure (last v y1 y3)
end
section
def rSortM (K : PySem.W.Frag) : List V → Hp → VK → Prop := fun xs H Q => ∃ (p : Addr) (ns : List Int), xs = [.ref p] ∧ (SqL K H p (ns.map V.int) ∨ SqT K H p (ns.map V.int)) ∧ (ns.length < 64 ∨ ns.Pairwise (· ≤ ·)) ∧
 ∀ (l : Addr) (ms : List Int) (H' : Hp), H l = none → L2.Same H H' → H' l = some (.lst (ms.map V.int)) → ms.Perm ns → ms.Pairwise (· ≤ ·) → Q (.ref l) H'
theorem call_sortM : CallR X (.builtin "sorted") (rSortM X.K) := by
 intro pins s σ H xs us Q I r h
 obtain ⟨p, ns, e1, hq, h64, q⟩ := h
 by_cases hc64 : ns.length < 64
 · exact call_sortS pins s σ H xs us Q I r ⟨p, ns, e1, hq, hc64, q⟩
 have pw : ns.Pairwise (· ≤ ·) := h64.resolve_left hc64
 subst e1
 obtain ⟨u, rfl, rx⟩ := vals1 r
 cases rx
 have hsz : (sizeLine : Nat) = 16777216 := sizeLine_eq
 obtain ⟨its, o, T, cn, r', hT, ho, hcl, hdt, hzz⟩ : ∃ (its : List Value) (o : Obj) (T : String) (cn : Nat), Vals (ns.map V.int) its ∧ (T = "list" ∨ T = "tuple") ∧ s.heap.get? p = some o ∧ o.cls = .type T ∧ o.data = .seq its.toArray cn ∧ (ns.map V.int).length ≤ sizeLine := by
  rcases hq with hq | hq
  · obtain ⟨its, r', pl, hz⟩ := I.list hq
    obtain ⟨o, ho, hc, n, hd⟩ := pl.isList
    exact ⟨its, o, "list", n, r', .inl rfl, ho, hc, hd, hz⟩
  · obtain ⟨its, r', ⟨o, ho, hc, n, hd⟩, hz⟩ := I.tuple hq
    exact ⟨its, o, "tuple", n, r', .inr rfl, ho, hc, hd, hz⟩
 have hl : its.length = ns.length := by rw [← r'.length, List.length_map]
 rw [List.length_map] at hzz
 refine Calls.call_function_entry kind_sorted plain_sorted entry_sorted (args_sorted1 _) ?_
 unfold Builtin.«sorted»
 refine wpAny_bind (m := checkCount "sorted" 1 1 _) (wpAny_pure ?_)
 refine wpAny_bind (wpAny_collect_seq p hT ho hcl hdt (fun h' hk => ?_) (by rw [List.size_toArray]; omega))
 have hI : IntsAre its ns := vals_ints r'
 have eI : its.toArray.toList = its := by simp
 rw [eI]
 refine wpAny_bind (wpAny_newList ?_ (by rw [hl]; omega))
 have hoL : (h'.push (seqObj "list" its.toArray 0)).get? h'.objs.size = some (seqObj "list" its.toArray 0) := Heap.get?_push_size _ rfl
 refine wpAny_bind (wpAny_holding (wpAny_call_entry slot_list_sort ⟨_, hoL, rfl⟩ entry_list_sort (sort_sorted hoL hI pw (by omega) fun out ns' a1 a2 a3 => ⟨_, rfl, ?_⟩) (args_list_sort _)))
 refine wpAny_pure ⟨_, rfl, ?_⟩
 obtain ⟨n', e'⟩ : ∃ n', (sortedHeap (h'.push (seqObj "list" its.toArray 0)) h'.objs.size its out).get? h'.objs.size = some (seqObj "list" out n') := sortedHeap_at hoL
 have I1 : Inv X pins σ H { s with heap := h' } := I.kept (t' := s.toks) hk
 have hfr : H h'.objs.size = none := I1.hok.fresh (Nat.le_refl _)
 have keep : ∀ b o, h'.get? b = some o → (sortedHeap (h'.push (seqObj "list" its.toArray 0)) h'.objs.size its out).get? b = some o := fun b o e => by
  have hb := Heap.lt_size e
  rw [sortedHeap_old (Nat.ne_of_lt hb) (by rw [Heap.size_push]; exact Nat.lt_succ_of_lt hb)]
  exact Heap.get?_push_of_some _ e
 have hlen : ns'.length ≤ sizeLine := by rw [a2.length_eq]; omega
 have I2 : Inv X pins σ (upd H h'.objs.size (.lst (ns'.map V.int))) { s with heap := sortedHeap (h'.push (seqObj "list" its.toArray 0)) h'.objs.size its out } :=
  I1.laid (t' := s.toks) keep (Nat.le_refl _) (show ObjOk X.prog X.w _ _ _ (.lst (ns'.map V.int)) from ⟨by rw [List.length_map]; exact hlen, out.toList, n', ints_vals a1, by simpa using e'⟩)
 exact ⟨.ref h'.objs.size, _, I2, rfl, q _ _ _ hfr (Br.Same.upd hfr) upd_same a2 a3⟩
end
section
variable {K : PySem.W.Frag} (hg : Gl X x) (he : starEach (e :: es) X.env = (false, eval e X.env) :: starEach es X.env) (hpl : (backTo pos (starEach es X.env)).any (·.1) = false)
include hg he hpl
theorem k_sortedM (hK : X.K = K) (hx : x = "sorted") (hc : X.calm = true) (hm : X.mg x = none) (ha : JA X (e :: es) t) : JE X (.Call (.Name x p) (e :: es) [] pos) (tCB (fun xs H Q => rSortD xs H Q ∨ rSortM K xs H Q) t) := hK ▸ ⟨by subst hx; exact pe_callB ((call_sortD hc).or call_sortM) hg hm boot_sorted ha.h (by decide) (by decide) he hpl⟩
end
section
def PureLt (prog : Program) (w : World) (A : Around) (s : Shared) (κ : SortKind) (kz : Array Keyed) (lt : Keyed → Keyed → Bool) : Prop :=
 ∀ x y : Keyed, x ∈ kz.toList → y ∈ kz.toList → ∀ (Q : Bool → Shared → Prop) (E : Value → Shared → Prop), Q (lt x y) s → wpAny (model prog w) A (keyLt' κ x.1 y.1) Q E s
theorem pure_lt {st : SortSt} (c : PureLt prog w A s κ kz lt) (hk : kindOf st = κ) (hx : x ∈ kz.toList) (hy : y ∈ kz.toList) (h : Q (some (lt x y)) st) :
 wpS (model prog w) A E s (lt' x y) Q st := by
 rw [lt'_eq]
 refine wpS_bind (wpS_get ?_)
 rw [hk]
 exact wpS_bind (wpS_lift (wpAny_attempt (c x y hx hy _ _ ⟨rfl, wpS_pure h⟩)))
theorem pure_ltAt {st : SortSt} (c : PureLt prog w A s κ kz lt) (hk : kindOf st = κ) (hi : (arrOf st)[i]? = some x) (hj : (arrOf st)[j]? = some y)
 (hx : x ∈ kz.toList) (hy : y ∈ kz.toList) (h : Q (some (lt x y)) st) : wpS (model prog w) A E s (ltAt' i j) Q st := by
 show wpS _ _ _ _ (do let x ← elem' _ i; let y ← elem' _ j; lt' x y) Q st
 rw [elem'_eq, elem'_eq, hi, hj]
 exact wpS_bind (wpS_pure (wpS_bind (wpS_pure (pure_lt c hk hx hy h))))
theorem sort_any {a : Addr} {vs : List Value} {c : Nat} {R : Array Value → Prop} {P : Fin → Shared → Prop} (at_ : s.heap.get? a = some (seqObj "list" vs.toArray c)) (hz : vs.length ≤ sizeLine) (h1 : vs.length < 2 → R vs.toArray)
 (hr : 2 ≤ vs.length → ∀ h6 : Heap, (∀ b o, b ≠ a → s.heap.get? b = some o → h6.get? b = some o) → wpAny (model prog w) A (keyKind' vs.toArray) (fun κ s7 => s7 = { s with heap := h6 } ∧
  wpS (model prog w) A E { s with heap := h6 } sortRuns' (fun _ v => failedOf v = none ∧ (arrOf v).size = vs.length ∧ R ((arrOf v).map (·.2))) (SortSt.mk' κ (pairsOf vs) #[] 7 none)) E { s with heap := h6 })
 (q : ∀ out : Array Value, out.size = vs.length → R out → P (.done (.ret .none)) { s with heap := sortedHeap s.heap a vs out }) : wpAny (model prog w) A (Builtin.«list.sort» ⟨[.ref a], []⟩) P E s := by
 rw [list_sort_plain]
 have la : a < s.heap.objs.size := Heap.lt_size at_
 refine wpAny_bind (listItems_at at_ rfl (wpAny_bind (listUpdate_at at_ rfl ?_)))
 obtain ⟨c1, at1⟩ : ∃ c1, (s.heap.update a (Obj.mapSeq fun _ => #[])).get? a = some (seqObj "list" #[] c1) := ⟨_, get?_update_seq at_ (fun _ => #[])⟩
 refine wpAny_bind (seqEpoch_at at1 rfl (wpAny_bind (wpAny_newTuple (wpAny_bind (wpAny_newList (wpAny_holding ?_))) (by show vs.toArray.toList.length ≤ _; simpa using hz))))
 have at2 : (((s.heap.update a (Obj.mapSeq fun _ => #[])).push (seqObj "tuple" vs.toArray 0)).push (seqObj "list" #[] 0)).get? a = some (seqObj "list" #[] c1) := by
  rw [Heap.get?_push_ne, Heap.get?_push_ne]
  · exact at1
  · rw [Heap.size_update]; exact Nat.ne_of_lt la
  · rw [size_push', Heap.size_update]; exact Nat.ne_of_lt (Nat.lt_succ_of_lt la)
 have old : ∀ b o, b ≠ a → s.heap.get? b = some o → (((s.heap.update a (Obj.mapSeq fun _ => #[])).push (seqObj "tuple" vs.toArray 0)).push (seqObj "list" #[] 0)).get? b = some o := fun b o hb e =>
  Heap.get?_push_of_some _ (Heap.get?_push_of_some _ ((Heap.get?_update_other _ _ (Ne.symm hb)).trans e))
 show wpAny (model prog w) A _ P E { s with heap := ((s.heap.update a (Obj.mapSeq fun _ => #[])).push (seqObj "tuple" vs.toArray 0)).push (seqObj "list" #[] 0) }
 dsimp only
 by_cases few : vs.toArray.size < 2
 · rw [if_pos few, if_pos few]
   refine wpAny_bind (wpAny_pure ?_)
   rw [StateT.run_pure]
   refine wpAny_bind (wpAny_pure ?_)
   dsimp only
   refine wpAny_bind (seqEpoch_at at2 rfl (wpAny_bind (listUpdate_at at2 rfl ?_ (hsz2 := by rw [Array.size_map]; show (pairsOf vs).size ≤ _; rw [pairsOf_size]; omega))))
   simp only [bne_self_eq_false, Bool.false_eq_true, if_false]
   have e2 : (vs.toArray.zip vs.toArray).map (·.2) = vs.toArray := by
    have : ((vs.zip vs).map (·.2)) = vs := List.map_snd_zip (Nat.le_refl _)
    apply Array.toList_inj.mp
    simpa using this
   refine wpAny_pure ?_
   have := q vs.toArray (by simp) (h1 (by simpa using few))
   rw [← e2] at this
   exact this
 · rw [if_neg few, if_neg few]
   refine wpAny_bind (wpAny_mono (hr (by simp at few; omega) _ old) ?_ fun _ _ e => e)
   rintro κ s' ⟨rfl, hw⟩
   refine wpAny_bind (wpAny_mono hw ?_ fun _ _ e => e)
   rintro ⟨⟨⟩, v⟩ s' ⟨rfl, y1, y2, y3⟩
   dsimp only
   refine wpAny_bind (seqEpoch_at at2 rfl (wpAny_bind (listUpdate_at at2 rfl ?_ (hsz2 := Nat.le_trans (Nat.le_of_eq ((Array.size_map ..).trans y2)) (by omega)))))
   rw [y1]
   simp only [bne_self_eq_false, Bool.false_eq_true, if_false]
   exact wpAny_pure (q _ ((Array.size_map ..).trans y2) y3)
end
section
theorem katLex_ints {fin : Bool} {X Y : Nat} (hf : fin = decide (X < Y)) : ∀ {vs ws : List Value} {ns ms : List Int} {i : Nat} {Q : Bool → Shared → Prop}, IntsAre vs ns → IntsAre ws ms → ns.length + Y = ms.length + X → Q (HT.lexLt ns ms) s → PySem.W.KatLex prog w A true fin Q (vs.zip ws) i s
 | _, _, _, _, i, Q, .nil, .nil, hl, h => by
  have : fin = false := by rw [hf]; exact decide_eq_false (by simp at hl; omega)
  rw [HT.lexLt_nil_nil, ← this] at h
  exact PySem.W.kat_nil h
 | _, _, _, _, i, Q, .nil, .cons c u r, hl, h => by
  have : fin = true := by rw [hf]; exact decide_eq_true (by simp at hl; omega)
  rw [HT.lexLt_nil_cons, ← this] at h
  exact PySem.W.kat_nil h
 | _, _, _, _, i, Q, .cons c u r, .nil, hl, h => by
  have : fin = false := by rw [hf]; exact decide_eq_false (by simp at hl; omega)
  rw [HT.lexLt_cons_nil, ← this] at h
  exact PySem.W.kat_nil h
 | _, _, _, _, i, Q, .cons a t r, .cons c u r', hl, h => by
  rw [HT.lexLt_cons] at h
  refine PySem.W.kat_cons (wpAny_eqBool_int ?_)
  by_cases e : a = c
  · rw [if_pos e] at h
    subst e
    rw [show (a == a) = true by simp]
    exact PySem.W.kat_yes (katLex_ints hf r r' (by simp at hl; omega) h)
  · rw [if_neg e] at h
    rw [show (a == c) = false by simpa using e]
    refine PySem.W.kat_no ?_
    cases (true && i == 0) with
    | true => exact oneLt_int h
    | false => exact PySem.W.kat_one _ _ (HT.rcLt_int A s a t c u prog w _ _ h)
end
def tkey (H : Hp) : Value → List Int
 | .ref a => match H a with
  | some (.tup xs) => xs.map fun v => match v with | .int i => i | _ => 0
  | _ => []
 | _ => []
theorem tkey_of (h : H a = some (.tup (w.map V.int))) : tkey H (.ref a) = w := by
 show (match H a with | some (.tup xs) => xs.map _ | _ => []) = w
 rw [h]
 show ((w.map V.int).map _) = w
 rw [List.map_map]
 exact (List.map_congr_left fun x _ => rfl).trans (List.map_id _)
section
theorem vals_refs : ∀ {as : List Addr} {its : List Value}, Vals (as.map V.ref) its → its = as.map Value.ref
 | [], _, r => by cases r; rfl
 | a :: as, _, r => by
  cases r with
  | cons r rr => rw [vals_refs rr]; cases r; rfl
end
namespace Tim
def gallop' : Bool → Keyed → Array Keyed → Nat → Nat → Nat → StateT SortSt Sem (Option Nat) := sortPriv% PySem.Builtin.gallop
def mergeLo' : Array Keyed → Array Keyed → StateT SortSt Sem (Array Keyed) := sortPriv% PySem.Builtin.mergeLo
def mergeHi' : Array Keyed → Array Keyed → StateT SortSt Sem (Array Keyed) := sortPriv% PySem.Builtin.mergeHi
def askB (lf : Bool) (ky : Keyed) (ar : Array Keyed) (bs i : Nat) : StateT SortSt Sem (Option Bool) := do
 let e ← elem' ar (bs + i)
 if lf then lt' e ky else return (← lt' ky e).map (!·)
theorem gallop'_eq (lf : Bool) (ky : Keyed) (ar : Array Keyed) (bs cnt hn : Nat) : gallop' lf ky ar bs cnt hn = (do
 let mut prv := 0
 let mut cur := 1
 let mut lw := 0
 let mut up := 0
 let some rt ← askB lf ky ar bs hn | return none
 if rt then
  let mx := cnt - hn
  for _ in [0:cnt] do
   if cur ≥ mx then break
   let some mr ← askB lf ky ar bs (hn + cur) | return none
   if !mr then break
   prv := cur
   cur := 2 * cur + 1
  lw := hn + prv + 1
  up := hn + min cur mx
 else
  let mx := hn + 1
  for _ in [0:cnt] do
   if cur ≥ mx then break
   let some fd ← askB lf ky ar bs (hn - cur) | return none
   if fd then break
   prv := cur
   cur := 2 * cur + 1
  lw := hn + 1 - min cur mx
  up := hn - prv
 for _ in [0:cnt] do
  if lw ≥ up then break
  let md := lw + (up - lw) / 2
  let some mr ← askB lf ky ar bs md | return none
  if mr then lw := md + 1 else up := md
 return some up) := rfl
def binP (lf : Bool) (ky : Keyed) (ar : Array Keyed) (bs cnt lw0 up0 : Nat) : StateT SortSt Sem (Option Nat) := do
 let mut lw := lw0
 let mut up := up0
 for _ in [0:cnt] do
  if lw ≥ up then break
  let md := lw + (up - lw) / 2
  let some mr ← askB lf ky ar bs md | return none
  if mr then lw := md + 1 else up := md
 return some up
structure Ord (lt : Keyed → Keyed → Bool) : Prop where
 irr : ∀ a, lt a a = false
 asy : ∀ a b, lt a b = true → lt b a = false
 tr : ∀ a b c, lt b a = false → lt c b = false → lt c a = false
section
variable {lt : Keyed → Keyed → Bool} (O : Ord lt)
include O
theorem Ord.lt_le (h1 : lt a b = true) (h2 : lt c b = false) : lt a c = true := by
 cases h : lt a c with
 | true => rfl
 | false =>
  have := O.tr b c a h2 h
  grind
theorem Ord.le_lt (h1 : lt b a = false) (h2 : lt b c = true) : lt a c = true := by
 cases h : lt a c with
 | true => rfl
 | false =>
  have := O.tr c a b h h1
  grind
end
section
variable {prog : Program} {w : World} {A : Around} {E : Value → Shared → Prop} {s : Shared} {κ : SortKind} {kz : Array Keyed} {lt : Keyed → Keyed → Bool} {st : SortSt}
theorem elem_ok (h : xs[i]? = some x) (q : Q x st) : wpS (model prog w) A E s (elem' xs i) Q st := by
 rw [elem'_eq, h]; exact wpS_pure q
theorem rule_ok (q : Q () st) : wpS (model prog w) A E s (liftM (rule r) : StateT SortSt Sem Unit) Q st := wpS_lift (wpAny_rule ⟨rfl, q⟩)
def Bv (lt : Keyed → Keyed → Bool) (lf : Bool) (ky : Keyed) (ar : Array Keyed) (bs i : Nat) : Bool := match ar[bs + i]? with
 | some e => if lf then lt e ky else !(lt ky e)
 | none => false
theorem askB_ok (c : PureLt prog w A s κ kz lt) (hk : kindOf st = κ) (hky : ky ∈ kz.toList) (har : ∀ (i : Nat) x, ar[i]? = some x → x ∈ kz.toList) (hi : bs + i < ar.size)
 (q : Q (some (Bv lt lf ky ar bs i)) st) : wpS (model prog w) A E s (askB lf ky ar bs i) Q st := by
 obtain ⟨x, hx⟩ : ∃ x, ar[bs + i]? = some x := ⟨ar[bs + i], by simp⟩
 refine wpS_bind (elem_ok hx ?_)
 unfold Bv at q
 rw [hx] at q
 cases lf with
 | true => exact pure_lt c hk (har _ _ hx) hky q
 | false => exact wpS_bind (pure_lt c hk hky (har _ _ hx) (wpS_pure q))
theorem gallop_ok {lf : Bool} {ky : Keyed} {ar : Array Keyed} {bs cnt hn : Nat} {Q : Option Nat → SortSt → Prop} (c : PureLt prog w A s κ kz lt) (hk : kindOf st = κ) (hky : ky ∈ kz.toList) (har : ∀ (i : Nat) x, ar[i]? = some x → x ∈ kz.toList) (hb : bs + cnt ≤ ar.size) (hh : hn < cnt)
 (mono : ∀ i j, i ≤ j → j < cnt → Bv lt lf ky ar bs j = true → Bv lt lf ky ar bs i = true)
 (q : ∀ k, k ≤ cnt → (∀ i, i < k → Bv lt lf ky ar bs i = true) → (∀ i, k ≤ i → i < cnt → Bv lt lf ky ar bs i = false) → Q (some k) st) : wpS (model prog w) A E s (gallop' lf ky ar bs cnt hn) Q st := by
 rw [gallop'_eq]
 generalize hB : Bv lt lf ky ar bs = B at mono q
 have ask : ∀ {i : Nat} {Q : Option Bool → SortSt → Prop}, i < cnt → Q (some (B i)) st → wpS (model prog w) A E s (askB lf ky ar bs i) Q st := fun {i Q} hi hq => askB_ok c hk hky har (by omega) (by rw [hB]; exact hq)
 have monoF : ∀ i j, i ≤ j → j < cnt → B i = false → B j = false := fun i j hij hj h => by
  cases hq : B j with
  | false => rfl
  | true => rw [mono i j hij hj hq] at h; cases h
 have bin : ∀ (lw up : Nat), lw ≤ up → up ≤ cnt → (∀ i, i < lw → B i = true) → (∀ i, up ≤ i → i < cnt → B i = false) →
  wpS (model prog w) A E s (binP lf ky ar bs cnt lw up) Q st := fun lw up h1 h2 h3 h4 => by
  unfold binP
  refine wpS_bind (wpS_forRange (I := fun i c st' => st' = st ∧ ∃ l u, c = (none, l, u) ∧ l ≤ u ∧ u ≤ cnt ∧ u - l ≤ cnt - i ∧ (∀ i, i < l → B i = true) ∧ (∀ i, u ≤ i → i < cnt → B i = false)) ?step ?fin ⟨rfl, lw, up, rfl, h1, h2, by omega, h3, h4⟩)
  case fin =>
   rintro c' st' ⟨rfl, l, u, rfl, a1, a2, a3, a4, a5⟩
   dsimp only
   have : l = u := by omega
   subst this
   exact wpS_pure (q l a2 a4 a5)
  case step =>
   rintro i c' st' _ hi ⟨rfl, l, u, rfl, a1, a2, a3, a4, a5⟩
   dsimp only
   by_cases hlu : l ≥ u
   · rw [if_pos hlu]
     refine wpS_pure ?_
     dsimp only
     have : l = u := by omega
     subst this
     exact wpS_pure (q l a2 a4 a5)
   · rw [if_neg hlu]
     refine wpS_bind (ask (by omega) ?_)
     dsimp only
     cases hm : B (l + (u - l) / 2) with
     | true =>
      simp only [if_true]
      exact wpS_pure ⟨rfl, _, u, rfl, by omega, a2, by omega, fun j hj => mono j (l + (u - l) / 2) (by omega) (by omega) hm, a5⟩
     | false =>
      simp only [Bool.false_eq_true, if_false]
      exact wpS_pure ⟨rfl, l, _, rfl, by omega, by omega, by omega, a4, fun j hj hj2 => monoF (l + (u - l) / 2) j hj hj2 hm⟩
 refine wpS_bind (ask hh ?_)
 dsimp only
 cases h0 : B hn with
 | true =>
  simp only [if_true]
  have out : ∀ p u, p < u → hn + p < cnt → B (hn + p) = true → (u ≥ cnt - hn ∨ (hn + u < cnt ∧ B (hn + u) = false)) → (hn + p + 1 ≤ hn + min u (cnt - hn) ∧ hn + min u (cnt - hn) ≤ cnt ∧ (∀ i, i < hn + p + 1 → B i = true) ∧ (∀ i, hn + min u (cnt - hn) ≤ i → i < cnt → B i = false)) := fun p u a1 a3 a4 h => by
   refine ⟨by omega, by omega, fun i hi => mono i (hn + p) (by omega) a3 a4, fun i h1 h2 => ?_⟩
   rcases h with h | ⟨h, h'⟩
   · omega
   · exact monoF (hn + u) i (by omega) h2 h'
  refine wpS_bind (wpS_forRange (I := fun i c st' => st' = st ∧ ∃ p u, c = (none, p, u) ∧ p < u ∧ i < u ∧ hn + p < cnt ∧ B (hn + p) = true) ?step ?fin ⟨rfl, 0, 1, rfl, by omega, by omega, by omega, h0⟩)
  case fin =>
   rintro c' st' ⟨rfl, p, u, rfl, a1, a2, a3, a4⟩
   dsimp only
   obtain ⟨b1, b2, b3, b4⟩ := out p u a1 a3 a4 (.inl (by omega))
   exact bin _ _ b1 b2 b3 b4
  case step =>
   rintro i c' st' _ hi ⟨rfl, p, u, rfl, a1, a2, a3, a4⟩
   dsimp only
   by_cases hu : u ≥ cnt - hn
   · rw [if_pos hu]
     refine wpS_pure ?_
     dsimp only
     obtain ⟨b1, b2, b3, b4⟩ := out p u a1 a3 a4 (.inl hu)
     exact bin _ _ b1 b2 b3 b4
   · rw [if_neg hu]
     refine wpS_bind (ask (by omega) ?_)
     dsimp only
     cases hm : B (hn + u) with
     | true =>
      simp only [Bool.not_true, Bool.false_eq_true, if_false]
      exact wpS_pure ⟨rfl, u, _, rfl, by omega, by omega, by omega, hm⟩
     | false =>
      simp only [Bool.not_false, if_true]
      refine wpS_pure ?_
      dsimp only
      obtain ⟨b1, b2, b3, b4⟩ := out p u a1 a3 a4 (.inr ⟨by omega, hm⟩)
      exact bin _ _ b1 b2 b3 b4
 | false =>
  simp only [Bool.false_eq_true, if_false]
  have out : ∀ p u, p < u → p ≤ hn → B (hn - p) = false → (u ≥ hn + 1 ∨ (u ≤ hn ∧ B (hn - u) = true)) → (hn + 1 - min u (hn + 1) ≤ hn - p ∧ hn - p ≤ cnt ∧ (∀ i, i < hn + 1 - min u (hn + 1) → B i = true) ∧ (∀ i, hn - p ≤ i → i < cnt → B i = false)) := fun p u a1 a3 a4 h => by
   refine ⟨by omega, by omega, fun i hi => ?_, fun i h1 h2 => monoF (hn - p) i h1 h2 a4⟩
   rcases h with h | ⟨h, h'⟩
   · omega
   · exact mono i (hn - u) (by omega) (by omega) h'
  refine wpS_bind (wpS_forRange (I := fun i c st' => st' = st ∧ ∃ p u, c = (none, p, u) ∧ p < u ∧ i < u ∧ p ≤ hn ∧ B (hn - p) = false) ?step ?fin ⟨rfl, 0, 1, rfl, by omega, by omega, by omega, h0⟩)
  case fin =>
   rintro c' st' ⟨rfl, p, u, rfl, a1, a2, a3, a4⟩
   dsimp only
   obtain ⟨b1, b2, b3, b4⟩ := out p u a1 a3 a4 (.inl (by omega))
   exact bin _ _ b1 b2 b3 b4
  case step =>
   rintro i c' st' _ hi ⟨rfl, p, u, rfl, a1, a2, a3, a4⟩
   dsimp only
   by_cases hu : u ≥ hn + 1
   · rw [if_pos hu]
     refine wpS_pure ?_
     dsimp only
     obtain ⟨b1, b2, b3, b4⟩ := out p u a1 a3 a4 (.inl hu)
     exact bin _ _ b1 b2 b3 b4
   · rw [if_neg hu]
     refine wpS_bind (ask (by omega) ?_)
     dsimp only
     cases hm : B (hn - u) with
     | false =>
      simp only [Bool.false_eq_true, if_false]
      exact wpS_pure ⟨rfl, u, _, rfl, by omega, by omega, by omega, hm⟩
     | true =>
      simp only [if_true]
      refine wpS_pure ?_
      dsimp only
      obtain ⟨b1, b2, b3, b4⟩ := out p u a1 a3 a4 (.inr ⟨by omega, hm⟩)
      exact bin _ _ b1 b2 b3 b4
end
def setG (g : Nat) : StateT SortSt Sem Unit := modify fun u => SortSt.mk' (kindOf u) (arrOf u) (pendingOf u) g (failedOf u)
abbrev fnD (xa xb o : Array Keyed) (p q : Nat) : Array Keyed := o ++ xa.extract p xa.size ++ xb.extract q xb.size
abbrev fnA (xa xb o : Array Keyed) (p q : Nat) : Array Keyed := o ++ xb.extract q xb.size ++ xa.extract p xa.size
theorem mergeLo'_eq (xa xb : Array Keyed) : mergeLo' xa xb = (do
 rule "list.sort.merge-lo"
 let tot := xa.size + xb.size
 let mut o : Array Keyed := #[← elem' xb 0]
 let mut p := 0
 let mut q := 1
 if q == xb.size then return fnD xa xb o p q
 if p + 1 == xa.size then return fnA xa xb o p q
 let mut mg := gallopOf (← get)
 for _ in [0:tot] do
  let mut ca := 0
  let mut cb := 0
  for _ in [0:tot] do
   let some bw ← lt' (← elem' xb q) (← elem' xa p) | return fnD xa xb o p q
   if bw then
    o := o.push (← elem' xb q); q := q + 1; cb := cb + 1; ca := 0
    if q == xb.size then return fnD xa xb o p q
    if cb ≥ mg then break
   else
    o := o.push (← elem' xa p); p := p + 1; ca := ca + 1; cb := 0
    if p + 1 == xa.size then return fnA xa xb o p q
    if ca ≥ mg then break
  rule "list.sort.gallop"
  mg := mg + 1
  for _ in [0:tot] do
   if mg > 1 then mg := mg - 1
   setG mg
   let some k ← gallop' false (← elem' xb q) xa p (xa.size - p) 0 | return fnD xa xb o p q
   ca := k
   if k > 0 then
    o := o ++ xa.extract p (p + k); p := p + k
    if p + 1 == xa.size then return fnA xa xb o p q
    if p == xa.size then return fnD xa xb o p q
   o := o.push (← elem' xb q); q := q + 1
   if q == xb.size then return fnD xa xb o p q
   let some k ← gallop' true (← elem' xa p) xb q (xb.size - q) 0 | return fnD xa xb o p q
   cb := k
   if k > 0 then
    o := o ++ xb.extract q (q + k); q := q + k
    if q == xb.size then return fnD xa xb o p q
   o := o.push (← elem' xa p); p := p + 1
   if p + 1 == xa.size then return fnA xa xb o p q
   if ca < 7 && cb < 7 then break
  mg := mg + 1
  setG mg
 unsupported "internal:list.sort.merge-bound") := rfl
section
variable {lt : Keyed → Keyed → Bool} {a b o : List Keyed} {p q : Nat}
abbrev Le (lt : Keyed → Keyed → Bool) (x y : Keyed) : Prop := lt y x = false
structure MI (lt : Keyed → Keyed → Bool) (a b o : List Keyed) (p q : Nat) : Prop where
 perm : o.Perm (a.take p ++ b.take q)
 srt : o.Pairwise (Le lt)
 la : ∀ x ∈ o, ∀ y ∈ a.drop p, Le lt x y
 lb : ∀ x ∈ o, ∀ y ∈ b.drop q, Le lt x y
theorem drop_cons {l : List Keyed} (h : l[i]? = some y) : l.drop i = y :: l.drop (i + 1) := by
 obtain ⟨hi, e⟩ := List.getElem?_eq_some_iff.mp h
 rw [List.drop_eq_getElem_cons hi, e]
theorem take_snoc {l : List Keyed} (h : l[i]? = some y) : l.take (i + 1) = l.take i ++ [y] := by
 rw [List.take_add_one, h]; rfl
theorem srt_drop {l : List Keyed} (h : l.Pairwise (Le lt)) (hy : l[i]? = some y) : ∀ z ∈ l.drop (i + 1), Le lt y z := by
 have := h.drop (i := i)
 rw [drop_cons hy] at this
 exact (List.pairwise_cons.mp this).1
theorem MI.takeA (sa : a.Pairwise (Le lt)) (m : MI lt a b o p q) (hy : a[p]? = some y) (hb : ∀ z ∈ b.drop q, Le lt y z) : MI lt a b (o ++ [y]) (p + 1) q := by
 have hm : y ∈ a.drop p := by rw [drop_cons hy]; simp
 refine ⟨?_, ?_, fun x hx z hz => ?_, fun x hx z hz => ?_⟩
 · rw [take_snoc hy]
   refine (m.perm.append_right [y]).trans ?_
   rw [List.append_assoc, List.append_assoc]
   exact List.Perm.append_left _ List.perm_append_comm
 · rw [List.pairwise_append]
   refine ⟨m.srt, List.pairwise_singleton _ _, fun x hx z hz => ?_⟩
   rw [List.mem_singleton.mp hz]; exact m.la x hx y hm
 · rcases List.mem_append.mp hx with h | h
   · exact m.la x h z (by rw [drop_cons hy]; exact .tail _ hz)
   · rw [List.mem_singleton.mp h]; exact srt_drop sa hy z hz
 · rcases List.mem_append.mp hx with h | h
   · exact m.lb x h z hz
   · rw [List.mem_singleton.mp h]; exact hb z hz
theorem MI.swap (m : MI lt a b o p q) : MI lt b a o q p := ⟨m.perm.trans List.perm_append_comm, m.srt, m.lb, m.la⟩
theorem MI.takeB (sb : b.Pairwise (Le lt)) (m : MI lt a b o p q) (hy : b[q]? = some y) (ha : ∀ z ∈ a.drop p, Le lt y z) : MI lt a b (o ++ [y]) p (q + 1) := (m.swap.takeA sb hy ha).swap
theorem MI.takeAs (sa : a.Pairwise (Le lt)) : ∀ {k : Nat} {o : List Keyed} {p : Nat}, MI lt a b o p q → p + k ≤ a.length → (∀ i y, i < k → a[p + i]? = some y → ∀ z ∈ b.drop q, Le lt y z) → MI lt a b (o ++ (a.drop p).take k) (p + k) q
 | 0, o, p, m, _, _ => by grind
 | k + 1, o, p, m, hl, h => by
  obtain ⟨y, hy⟩ : ∃ y, a[p]? = some y := ⟨_, List.getElem?_eq_getElem (by omega)⟩
  have m1 := m.takeA sa hy (h 0 y (by omega) (by grind))
  have m2 := MI.takeAs sa (k := k) m1 (by omega) fun i z hi hz => h (i + 1) z (by omega) (by grind)
  rw [drop_cons hy, List.take_succ_cons, show p + (k + 1) = p + 1 + k by omega]
  simp_all
theorem MI.takeBs (sb : b.Pairwise (Le lt)) (m : MI lt a b o p q) (hl : q + k ≤ b.length) (h : ∀ i y, i < k → b[q + i]? = some y → ∀ z ∈ a.drop p, Le lt y z) : MI lt a b (o ++ (b.drop q).take k) p (q + k) := (m.swap.takeAs sb hl h).swap
theorem MI.endB (sa : a.Pairwise (Le lt)) (m : MI lt a b o p q) (hq : q = b.length) : (o ++ a.drop p).Perm (a ++ b) ∧ (o ++ a.drop p).Pairwise (Le lt) := by
 refine ⟨?_, List.pairwise_append.mpr ⟨m.srt, sa.drop, m.la⟩⟩
 have h := m.perm
 rw [hq, List.take_length] at h
 refine (h.append_right _).trans ?_
 rw [List.append_assoc]
 refine (List.Perm.append_left _ List.perm_append_comm).trans ?_
 rw [← List.append_assoc, List.take_append_drop]
theorem MI.endA (sb : b.Pairwise (Le lt)) (m : MI lt a b o p q) (hp : p = a.length) : (o ++ b.drop q).Perm (a ++ b) ∧ (o ++ b.drop q).Pairwise (Le lt) :=
 let ⟨h1, h2⟩ := m.swap.endB sb hp; ⟨h1.trans List.perm_append_comm, h2⟩
theorem MI.endL (sa : a.Pairwise (Le lt)) (sb : b.Pairwise (Le lt)) (m : MI lt a b o p q) (hl : ∀ x ∈ b.drop q, ∀ y ∈ a.drop p, Le lt x y) : (o ++ b.drop q ++ a.drop p).Perm (a ++ b) ∧ (o ++ b.drop q ++ a.drop p).Pairwise (Le lt) := by
 refine ⟨?_, ?_⟩
 · have h := m.perm
   rw [List.append_assoc]
   refine (h.append_right _).trans ?_
   have e : (a.take p ++ b.take q ++ (b.drop q ++ a.drop p)).Perm (a.take p ++ a.drop p ++ (b.take q ++ b.drop q)) := by
    rw [List.append_assoc, List.append_assoc]
    refine List.Perm.append_left _ ?_
    rw [← List.append_assoc]
    exact List.perm_append_comm
   simp_all
 · rw [List.pairwise_append]
   refine ⟨List.pairwise_append.mpr ⟨m.srt, sb.drop, m.lb⟩, sa.drop, fun x hx y hy => ?_⟩
   rcases List.mem_append.mp hx with h | h
   · exact m.la x h y hy
   · exact hl x h y hy
end
theorem ext_all (xs : Array Keyed) (p : Nat) : (xs.extract p xs.size).toList = xs.toList.drop p := by
 rw [Array.toList_extract, List.extract_eq_take_drop]
 exact List.take_of_length_le (by simp)
theorem ext_k (xs : Array Keyed) (p k : Nat) : (xs.extract p (p + k)).toList = (xs.toList.drop p).take k := by simp
theorem arr_get (xs : Array Keyed) (i : Nat) : xs.toList[i]? = xs[i]? := by simp
def Sm (u v : SortSt) : Prop := kindOf v = kindOf u ∧ arrOf v = arrOf u ∧ pendingOf v = pendingOf u ∧ failedOf v = failedOf u
theorem Sm.refl (u : SortSt) : Sm u u := ⟨rfl, rfl, rfl, rfl⟩
section
variable {prog : Program} {w : World} {A : Around} {E : Value → Shared → Prop} {s : Shared} {κ : SortKind} {kz : Array Keyed} {lt : Keyed → Keyed → Bool} {st : SortSt}
theorem setG_ok (h : Sm u v) (q : ∀ v', Sm u v' → Q () v') : wpS (model prog w) A E s (setG g) Q v := by
 exact wpS_modify (q _ h)
structure Two (lt : Keyed → Keyed → Bool) (kz : Array Keyed) (xa xb : Array Keyed) : Prop where
 ina : ∀ x ∈ xa.toList, x ∈ kz.toList
 inb : ∀ x ∈ xb.toList, x ∈ kz.toList
 na : 1 ≤ xa.size
 nb : 1 ≤ xb.size
 sa : xa.toList.Pairwise (Le lt)
 sb : xb.toList.Pairwise (Le lt)
 fst : ∀ x y, xb[0]? = some x → xa[0]? = some y → lt x y = true
 lst : ∀ y, xa[xa.size - 1]? = some y → ∀ x ∈ xb.toList, lt x y = true
def Good (lt : Keyed → Keyed → Bool) (xa xb r : Array Keyed) : Prop := r.toList.Perm (xa.toList ++ xb.toList) ∧ r.toList.Pairwise (Le lt)
section
variable {xa xb o : Array Keyed} {p q : Nat}
theorem Two.retB (T : Two lt kz xa xb) (m : MI lt xa.toList xb.toList o.toList p q) (h : q = xb.size) : Good lt xa xb (fnD xa xb o p q) := by
 have e : (fnD xa xb o p q).toList = o.toList ++ xa.toList.drop p := by
  rw [Array.toList_append, Array.toList_append, ext_all, ext_all, h, List.drop_of_length_le (l := xb.toList) (by simp), List.append_nil]
 unfold Good; rw [e]
 exact m.endB T.sa (by omega)
theorem Two.retA (T : Two lt kz xa xb) (m : MI lt xa.toList xb.toList o.toList p q) (h : p = xa.size) : Good lt xa xb (fnD xa xb o p q) := by
 have e : (fnD xa xb o p q).toList = o.toList ++ xb.toList.drop q := by
  rw [Array.toList_append, Array.toList_append, ext_all, ext_all, h, List.drop_of_length_le (by simp), List.append_nil]
 unfold Good; rw [e]
 exact m.endA T.sb (by omega)
theorem Two.retL (O : Ord lt) (T : Two lt kz xa xb) (m : MI lt xa.toList xb.toList o.toList p q) (h : p + 1 = xa.size) : Good lt xa xb (fnA xa xb o p q) := by
 have e : (fnA xa xb o p q).toList = o.toList ++ xb.toList.drop q ++ xa.toList.drop p := by
  rw [Array.toList_append, Array.toList_append, ext_all, ext_all]
 unfold Good; rw [e]
 refine m.endL T.sa T.sb fun x hx y hy => ?_
 obtain ⟨z, hz⟩ : ∃ z, xa.toList[p]? = some z := ⟨_, List.getElem?_eq_getElem (by grind)⟩
 rw [drop_cons hz, List.drop_of_length_le (by grind)] at hy
 rw [List.mem_singleton.mp hy]
 exact O.asy _ _ (T.lst z (by rw [← arr_get, show xa.size - 1 = p by omega]; omega) x (List.mem_of_mem_drop hx))
theorem Two.monoA (O : Ord lt) (sa : xa.toList.Pairwise (Le lt)) : ∀ i j, i ≤ j → j < xa.size - p → Bv lt false y xa p j = true → Bv lt false y xa p i = true := fun i j hij hj h => by
 obtain ⟨u, hu⟩ : ∃ u, xa[p + i]? = some u := ⟨xa[p + i]'(by omega), by simp⟩
 obtain ⟨v, hv⟩ : ∃ v, xa[p + j]? = some v := ⟨xa[p + j]'(by omega), by simp⟩
 unfold Bv at h ⊢
 rw [hv] at h
 rw [hu]
 simp at h ⊢
 by_cases e : i = j
 · grind
 · have := List.pairwise_iff_getElem.mp sa (p + i) (p + j) (by simp; omega) (by simp; omega) (by omega)
   have e1 : xa.toList[p + i]'(by simp; omega) = u := Option.some.inj ((List.getElem?_eq_getElem _).symm.trans ((arr_get xa _).trans hu))
   have e2 : xa.toList[p + j]'(by simp; omega) = v := Option.some.inj ((List.getElem?_eq_getElem _).symm.trans ((arr_get xa _).trans hv))
   rw [e1, e2] at this
   exact O.tr u v y this h
theorem Two.monoB (O : Ord lt) (sb : xb.toList.Pairwise (Le lt)) : ∀ i j, i ≤ j → j < xb.size - q → Bv lt true y xb q j = true → Bv lt true y xb q i = true := fun i j hij hj h => by
 obtain ⟨u, hu⟩ : ∃ u, xb[q + i]? = some u := ⟨xb[q + i]'(by omega), by simp⟩
 obtain ⟨v, hv⟩ : ∃ v, xb[q + j]? = some v := ⟨xb[q + j]'(by omega), by simp⟩
 unfold Bv at h ⊢
 rw [hv] at h
 rw [hu]
 by_cases e : i = j
 · simp_all
 · have := List.pairwise_iff_getElem.mp sb (q + i) (q + j) (by simp; omega) (by simp; omega) (by omega)
   have e1 : xb.toList[q + i]'(by simp; omega) = u := Option.some.inj ((List.getElem?_eq_getElem _).symm.trans ((arr_get xb _).trans hu))
   have e2 : xb.toList[q + j]'(by grind) = v := Option.some.inj ((List.getElem?_eq_getElem _).symm.trans ((arr_get xb _).trans hv))
   rw [e1, e2] at this
   exact O.le_lt this h
end
theorem mergeLo_ok {xa xb : Array Keyed} {Q : Array Keyed → SortSt → Prop} (O : Ord lt) (c : PureLt prog w A s κ kz lt) (hk : kindOf st = κ) (T : Two lt kz xa xb)
 (q0 : ∀ r v, Good lt xa xb r → Sm st v → Q r v) : wpS (model prog w) A E s (mergeLo' xa xb) Q st := by
 rw [mergeLo'_eq]
 have na := T.na
 have nb := T.nb
 have gta : ∀ {i : Nat}, i < xa.size → ∃ x, xa[i]? = some x ∧ xa.toList[i]? = some x := fun {i} h => ⟨xa[i], by simp [h], by simp [h]⟩
 have gtb : ∀ {i : Nat}, i < xb.size → ∃ x, xb[i]? = some x ∧ xb.toList[i]? = some x := fun {i} h => ⟨xb[i], by simp [h], by simp [h]⟩
 obtain ⟨b0, hb0, hb0'⟩ := gtb (i := 0) (by omega)
 obtain ⟨a0, ha0, ha0'⟩ := gta (i := 0) (by omega)
 refine wpS_bind (rule_ok ?_)
 refine wpS_bind (elem_ok hb0 ?_)
 have lefst : ∀ z ∈ xa.toList.drop 0, Le lt b0 z := fun z hz => by
  rw [drop_cons ha0'] at hz
  have h0 := O.asy _ _ (T.fst b0 a0 hb0 ha0)
  rcases List.mem_cons.mp hz with e | e
  · rw [e]; exact h0
  · exact O.tr _ _ _ h0 (srt_drop T.sa ha0' z e)
 have m0 : MI lt xa.toList xb.toList (#[b0] : Array Keyed).toList 0 1 := by
  have m : MI lt xa.toList xb.toList [] 0 0 := ⟨by simp, List.Pairwise.nil, fun x hx => (nomatch hx), fun x hx => (nomatch hx)⟩
  exact m.takeB T.sb hb0' lefst
 dsimp only
 by_cases hb1 : (1 == xb.size) = true
 · rw [if_pos hb1]
   exact wpS_pure (q0 _ _ (T.retB m0 (by simpa using hb1)) (Sm.refl _))
 rw [if_neg hb1]
 by_cases ha1 : (0 + 1 == xa.size) = true
 · rw [if_pos ha1]
   exact wpS_pure (q0 _ _ (T.retL O m0 (by simpa using ha1)) (Sm.refl _))
 rw [if_neg ha1]
 have hb1' : 1 < xb.size := by have : ¬ 1 = xb.size := fun e => hb1 (by simp [← e]); omega
 have ha1' : 0 + 1 < xa.size := by have : ¬ 0 + 1 = xa.size := fun e => ha1 (by simp [← e]); omega
 refine wpS_bind (wpS_get ?_)
 refine wpS_bind (wpS_forRange (I := fun i c v => Sm st v ∧ ∃ o p q g, c = (none, o, p, q, g) ∧ MI lt xa.toList xb.toList o.toList p q ∧ p + 1 < xa.size ∧ q < xb.size ∧ i ≤ p + q) ?step ?fin ⟨Sm.refl _, _, 0, 1, _, rfl, m0, ha1', hb1', by omega⟩)
 case fin =>
  rintro c' v ⟨_, o, p, q, g, rfl, m, h1, h2, h3⟩
  exfalso
  omega
 case step =>
  rintro i c' v _ hi ⟨sm, o, p, q, g, rfl, m, h1, h2, h3⟩
  dsimp only
  have sk : ∀ {v : SortSt}, Sm st v → kindOf v = κ := fun h => h.1.trans hk
  -- one by one
  refine wpS_bind (wpS_mono (wpS_forRange (I := fun j c v => Sm st v ∧ ∃ o p q x y, c = (none, o, p, q, x, y) ∧ MI lt xa.toList xb.toList o.toList p q ∧ p + 1 < xa.size ∧ q < xb.size ∧ i ≤ p + q ∧ (0 < j → i + 1 ≤ p + q))
   (Q := fun c v => Sm st v ∧ ((∃ r z, c = (some r, z) ∧ Good lt xa xb r) ∨ ∃ o p q x y, c = (none, o, p, q, x, y) ∧ MI lt xa.toList xb.toList o.toList p q ∧ p + 1 < xa.size ∧ q < xb.size ∧ i + 1 ≤ p + q)) ?one ?oneE ⟨sm, o, p, q, 0, 0, rfl, m, h1, h2, h3, fun z => absurd z (Nat.lt_irrefl _)⟩) ?two)
  case oneE =>
   rintro c' v ⟨sm, o, p, q, x, y, rfl, m, h1, h2, h3, h4⟩
   exact ⟨sm, .inr ⟨o, p, q, x, y, rfl, m, h1, h2, h4 (by omega)⟩⟩
  case one =>
   rintro j c' v _ hj ⟨sm, o, p, q, x, y, rfl, m, h1, h2, h3, _⟩
   dsimp only
   obtain ⟨b1, hb, hb'⟩ := gtb h2
   obtain ⟨a1, ha, ha'⟩ := gta (i := p) (by omega)
   refine wpS_bind (elem_ok hb (wpS_bind (elem_ok ha (wpS_bind (pure_lt c (sk sm) (T.inb _ (List.mem_of_getElem? hb')) (T.ina _ (List.mem_of_getElem? ha')) ?_)))))
   dsimp only
   cases hl : lt b1 a1 with
   | true =>
    simp only [if_true]
    refine wpS_bind (elem_ok hb ?_)
    have m1 : MI lt xa.toList xb.toList (o.push b1).toList p (q + 1) := by
     rw [Array.toList_push]
     refine m.takeB T.sb hb' fun z hz => ?_
     rw [drop_cons ha'] at hz
     have h0 := O.asy _ _ hl
     rcases List.mem_cons.mp hz with e | e
     · rw [e]; exact h0
     · exact O.tr _ _ _ h0 (srt_drop T.sa ha' z e)
    by_cases e1 : (q + 1 == xb.size) = true
    · rw [if_pos e1]
      exact wpS_pure ⟨sm, .inl ⟨_, _, rfl, T.retB m1 (by simpa using e1)⟩⟩
    rw [if_neg e1]
    have e1' : q + 1 < xb.size := by have : ¬ q + 1 = xb.size := fun e => e1 (by simp [← e]); omega
    split
    · exact wpS_pure ⟨sm, .inr ⟨_, _, _, _, _, rfl, m1, h1, e1', by omega⟩⟩
    · exact wpS_pure ⟨sm, _, _, _, _, _, rfl, m1, h1, e1', by omega, fun _ => by omega⟩
   | false =>
    simp only [Bool.false_eq_true, if_false]
    refine wpS_bind (elem_ok ha ?_)
    have m1 : MI lt xa.toList xb.toList (o.push a1).toList (p + 1) q := by
     rw [Array.toList_push]
     refine m.takeA T.sa ha' fun z hz => ?_
     rw [drop_cons hb'] at hz
     rcases List.mem_cons.mp hz with e | e
     · rw [e]; exact hl
     · exact O.tr _ _ _ hl (srt_drop T.sb hb' z e)
    by_cases e1 : (p + 1 + 1 == xa.size) = true
    · rw [if_pos e1]
      exact wpS_pure ⟨sm, .inl ⟨_, _, rfl, T.retL O m1 (by simpa using e1)⟩⟩
    rw [if_neg e1]
    have e1' : p + 1 + 1 < xa.size := by have : ¬ p + 1 + 1 = xa.size := fun e => e1 (by simp [← e]); omega
    split
    · exact wpS_pure ⟨sm, .inr ⟨_, _, _, _, _, rfl, m1, e1', h2, by omega⟩⟩
    · exact wpS_pure ⟨sm, _, _, _, _, _, rfl, m1, e1', h2, by omega, fun _ => by omega⟩
  case two =>
   rintro c' v ⟨sm, ⟨r, z, rfl, good⟩ | ⟨o, p, q, x, y, rfl, m, h1, h2, h3⟩⟩
   · exact wpS_pure (wpS_pure (q0 r v good sm))
   dsimp only
   refine wpS_bind (rule_ok ?_)
   refine wpS_bind (wpS_mono (wpS_forRange (I := fun j c v => Sm st v ∧ ∃ o p q g x y, c = (none, o, p, q, g, x, y) ∧ MI lt xa.toList xb.toList o.toList p q ∧ p + 1 < xa.size ∧ q < xb.size ∧ i + 1 ≤ p + q)
    (Q := fun c v => Sm st v ∧ ((∃ r z, c = (some r, z) ∧ Good lt xa xb r) ∨ ∃ o p q g x y, c = (none, o, p, q, g, x, y) ∧ MI lt xa.toList xb.toList o.toList p q ∧ p + 1 < xa.size ∧ q < xb.size ∧ i + 1 ≤ p + q)) ?gal ?galE ⟨sm, o, p, q, _, x, y, rfl, m, h1, h2, h3⟩) ?three)
   case galE =>
    rintro c' v ⟨sm, o, p, q, g, x, y, rfl, m, h1, h2, h3⟩
    exact ⟨sm, .inr ⟨o, p, q, g, x, y, rfl, m, h1, h2, h3⟩⟩
   case three =>
    rintro c' v ⟨sm, ⟨r, z, rfl, good⟩ | ⟨o, p, q, g, x, y, rfl, m, h1, h2, h3⟩⟩
    · exact wpS_pure (wpS_pure (q0 r v good sm))
    dsimp only
    exact wpS_bind (setG_ok sm fun v1 sm1 => wpS_pure ⟨sm1, o, p, q, _, rfl, m, h1, h2, h3⟩)
   case gal =>
    rintro j c' v _ hj ⟨sm, o, p, q, g, x, y, rfl, m, h1, h2, h3⟩
    dsimp only
    obtain ⟨b1, hb, hb'⟩ := gtb h2
    have inA : ∀ (i : Nat) z, xa[i]? = some z → z ∈ kz.toList := fun i z h => T.ina z (List.mem_of_getElem? ((arr_get xa i).trans h))
    have inB : ∀ (i : Nat) z, xb[i]? = some z → z ∈ kz.toList := fun i z h => T.inb z (List.mem_of_getElem? ((arr_get xb i).trans h))
    by_cases hg : g > 1
    all_goals first | rw [if_pos hg] | rw [if_neg hg]
    all_goals
     refine wpS_bind (setG_ok sm fun v1 sm1 => ?_)
     refine wpS_bind (elem_ok hb (wpS_bind (gallop_ok c (sk sm1) (inB _ _ hb) inA (by omega) (by omega) (Two.monoA O T.sa) fun k k1 k2 k3 => ?_)))
     dsimp only
     have hA : ∀ i y, i < k → xa.toList[p + i]? = some y → ∀ z ∈ xb.toList.drop q, Le lt y z := fun i y hi hy z hz => by
      have := k2 i hi
      unfold Bv at this
      rw [arr_get] at hy
      rw [hy] at this
      simp only [Bool.false_eq_true, if_false, Bool.not_eq_true'] at this
      rw [drop_cons hb'] at hz
      rcases List.mem_cons.mp hz with e | e
      · rw [e]; exact this
      · exact O.tr _ _ _ this (srt_drop T.sb hb' z e)
     have hB : ∀ z ∈ xa.toList.drop (p + k), Le lt b1 z := fun z hz => by
      obtain ⟨n, hn, e⟩ := List.getElem_of_mem hz
      rw [List.length_drop] at hn
      have hz' : xa[p + (k + n)]? = some z := by
       rw [← arr_get, show p + (k + n) = p + k + n by omega, ← List.getElem?_drop, List.getElem?_eq_getElem (by rw [List.length_drop]; exact hn), e]
      have := k3 (k + n) (by omega) (by simp at hn; omega)
      unfold Bv at this
      rw [hz'] at this
      simp only [Bool.false_eq_true, if_false, Bool.not_eq_false'] at this
      exact O.asy _ _ this
     have mA : MI lt xa.toList xb.toList (o ++ xa.extract p (p + k)).toList (p + k) q := by
      rw [Array.toList_append, ext_k]
      exact m.takeAs T.sa (by simp; omega) hA
     have h2' := h2
     have hpk : i + 1 ≤ p + k + q := by omega
     by_cases hk0 : k > 0
    all_goals first
     | (rw [if_pos hk0]
        by_cases e1 : (p + k + 1 == xa.size) = true
        · rw [if_pos e1]
          exact wpS_pure ⟨sm1, .inl ⟨_, _, rfl, T.retL O mA (by simpa using e1)⟩⟩
        rw [if_neg e1]
        by_cases e2 : (p + k == xa.size) = true
        · rw [if_pos e2]
          exact wpS_pure ⟨sm1, .inl ⟨_, _, rfl, T.retA mA (by simpa using e2)⟩⟩
        rw [if_neg e2]
        have hp1 : p + k + 1 < xa.size := by
         have : ¬ p + k + 1 = xa.size := fun e => e1 (by simp [← e])
         have : ¬ p + k = xa.size := fun e => e2 (by simp [← e])
         omega
        generalize hO1 : o ++ xa.extract p (p + k) = o1 at mA ⊢
        generalize hP1 : p + k = p1 at mA hB hp1 hpk ⊢)
     | (rw [if_neg hk0]
        have hk00 : k = 0 := by omega
        have hp1 := h1
        have mA := m
        rw [hk00, Nat.add_zero] at hB hpk
        generalize hO1 : o = o1 at mA ⊢
        generalize hP1 : p = p1 at mA hB hp1 hpk ⊢)
    all_goals
     refine wpS_bind (elem_ok hb ?_)
     have mB : MI lt xa.toList xb.toList (o1.push b1).toList p1 (q + 1) := by
      rw [Array.toList_push]
      exact mA.takeB T.sb hb' hB
     by_cases e3 : (q + 1 == xb.size) = true
     · rw [if_pos e3]
       exact wpS_pure ⟨sm1, .inl ⟨_, _, rfl, T.retB mB (by simpa using e3)⟩⟩
     rw [if_neg e3]
     have hq1 : q + 1 < xb.size := by have : ¬ q + 1 = xb.size := fun e => e3 (by simp [← e]); omega
     obtain ⟨a1, ha, ha'⟩ := gta (i := p1) (by omega)
     refine wpS_bind (elem_ok ha (wpS_bind (gallop_ok c (sk sm1) (inA _ _ ha) inB (by omega) (by omega) (Two.monoB O T.sb) fun n n1 n2 n3 => ?_)))
     dsimp only
     have hA2 : ∀ i y, i < n → xb.toList[q + 1 + i]? = some y → ∀ z ∈ xa.toList.drop p1, Le lt y z := fun i y hi hy z hz => by
      have := n2 i hi
      unfold Bv at this
      rw [arr_get] at hy
      rw [hy] at this
      simp only [if_true] at this
      have h0 := O.asy _ _ this
      rw [drop_cons ha'] at hz
      rcases List.mem_cons.mp hz with e | e
      · rw [e]; exact h0
      · exact O.tr _ _ _ h0 (srt_drop T.sa ha' z e)
     have hB2 : ∀ z ∈ xb.toList.drop (q + 1 + n), Le lt a1 z := fun z hz => by
      obtain ⟨j, hj, e⟩ := List.getElem_of_mem hz
      rw [List.length_drop] at hj
      have hz' : xb[q + 1 + (n + j)]? = some z := by
       rw [← arr_get, show q + 1 + (n + j) = q + 1 + n + j by omega, ← List.getElem?_drop, List.getElem?_eq_getElem (by rw [List.length_drop]; exact hj), e]
      have := n3 (n + j) (by omega) (by simp at hj; omega)
      unfold Bv at this
      rw [hz'] at this
      simp only [if_true] at this
      exact this
     have mC : MI lt xa.toList xb.toList (o1.push b1 ++ xb.extract (q + 1) (q + 1 + n)).toList p1 (q + 1 + n) := by
      rw [Array.toList_append, ext_k]
      exact mB.takeBs T.sb (by simp; omega) hA2
     by_cases hn0 : n > 0
    all_goals first
     | (rw [if_pos hn0]
        by_cases e4 : (q + 1 + n == xb.size) = true
        · rw [if_pos e4]
          exact wpS_pure ⟨sm1, .inl ⟨_, _, rfl, T.retB mC (by simpa using e4)⟩⟩
        rw [if_neg e4]
        have hq2 : q + 1 + n < xb.size := by have : ¬ q + 1 + n = xb.size := fun e => e4 (by simp [← e]); omega
        have hpk2 : i + 1 ≤ p1 + 1 + (q + 1 + n) := by omega
        generalize hO2 : o1.push b1 ++ xb.extract (q + 1) (q + 1 + n) = o2 at mC ⊢
        generalize hQ2 : q + 1 + n = q2 at mC hB2 hq2 hpk2 ⊢)
     | (rw [if_neg hn0]
        have hn00 : n = 0 := by omega
        have hq2 := hq1
        have mC := mB
        rw [hn00, Nat.add_zero] at hB2
        have hpk2 : i + 1 ≤ p1 + 1 + (q + 1) := by omega
        generalize hO2 : o1.push b1 = o2 at mC ⊢
        generalize hQ2 : q + 1 = q2 at mC hB2 hq2 hpk2 ⊢)
    all_goals
     refine wpS_bind (elem_ok ha ?_)
     have mD : MI lt xa.toList xb.toList (o2.push a1).toList (p1 + 1) q2 := by
      rw [Array.toList_push]
      exact mC.takeA T.sa ha' hB2
     by_cases e5 : (p1 + 1 + 1 == xa.size) = true
     · rw [if_pos e5]
       exact wpS_pure ⟨sm1, .inl ⟨_, _, rfl, T.retL O mD (by simpa using e5)⟩⟩
     rw [if_neg e5]
     have hp2 : p1 + 1 + 1 < xa.size := by have : ¬ p1 + 1 + 1 = xa.size := fun e => e5 (by simp [← e]); omega
     split
     · exact wpS_pure ⟨sm1, .inr ⟨_, _, _, _, _, _, rfl, mD, hp2, hq2, hpk2⟩⟩
     · exact wpS_pure ⟨sm1, _, _, _, _, _, _, rfl, mD, hp2, hq2, hpk2⟩
end
section
variable {lt : Keyed → Keyed → Bool} {a b o : List Keyed} {p q : Nat}
structure MH (lt : Keyed → Keyed → Bool) (a b o : List Keyed) (p q : Nat) : Prop where
 perm : o.Perm (a.drop p ++ b.drop q)
 srt : o.Pairwise (fun x y => Le lt y x)
 la : ∀ x ∈ o, ∀ y ∈ a.take p, Le lt y x
 lb : ∀ x ∈ o, ∀ y ∈ b.take q, Le lt y x
theorem srt_take {l : List Keyed} (h : l.Pairwise (Le lt)) (hy : l[i]? = some y) : ∀ z ∈ l.take i, Le lt z y := by
 have := h.take (i := i + 1)
 rw [take_snoc hy, List.pairwise_append] at this
 exact fun z hz => this.2.2 z hz y (.head _)
theorem MH.takeA (sa : a.Pairwise (Le lt)) (m : MH lt a b o (p + 1) q) (hy : a[p]? = some y) (hb : ∀ z ∈ b.take q, Le lt z y) : MH lt a b (o ++ [y]) p q := by
 have hm : y ∈ a.take (p + 1) := by rw [take_snoc hy]; simp
 refine ⟨?_, ?_, fun x hx z hz => ?_, fun x hx z hz => ?_⟩
 · rw [drop_cons hy]
   refine (m.perm.append_right [y]).trans ?_
   exact List.perm_append_comm
 · rw [List.pairwise_append]
   refine ⟨m.srt, List.pairwise_singleton _ _, fun x hx z hz => ?_⟩
   rw [List.mem_singleton.mp hz]; exact m.la x hx y hm
 · rcases List.mem_append.mp hx with h | h
   · exact m.la x h z (by rw [take_snoc hy]; simp_all)
   · rw [List.mem_singleton.mp h]; exact srt_take sa hy z hz
 · rcases List.mem_append.mp hx with h | h
   · exact m.lb x h z hz
   · rw [List.mem_singleton.mp h]; exact hb z hz
theorem MH.swap (m : MH lt a b o p q) : MH lt b a o q p := ⟨m.perm.trans List.perm_append_comm, m.srt, m.lb, m.la⟩
theorem MH.takeB (sb : b.Pairwise (Le lt)) (m : MH lt a b o p (q + 1)) (hy : b[q]? = some y) (ha : ∀ z ∈ a.take p, Le lt z y) : MH lt a b (o ++ [y]) p q := (m.swap.takeA sb hy ha).swap
theorem MH.takeAs (sa : a.Pairwise (Le lt)) : ∀ {k : Nat} {o : List Keyed}, MH lt a b o (t + k) q → t + k ≤ a.length → (∀ i y, t ≤ i → i < t + k → a[i]? = some y → ∀ z ∈ b.take q, Le lt z y) → MH lt a b (o ++ ((a.drop t).take k).reverse) t q
 | 0, o, m, _, _ => by simpa using m
 | k + 1, o, m, hl, h => by
  obtain ⟨y, hy⟩ : ∃ y, a[t + k]? = some y := ⟨_, List.getElem?_eq_getElem (by omega)⟩
  have m1 := MH.takeA sa m hy (h (t + k) y (by omega) (by omega) hy)
  have m2 := MH.takeAs sa m1 (by omega) fun i z h1 h2 hz => h i z h1 (by omega) hz
  have hy' : (a.drop t)[k]? = some y := by grind
  rw [take_snoc hy', List.reverse_append]
  simp_all
theorem MH.takeBs (sb : b.Pairwise (Le lt)) (m : MH lt a b o p (t + k)) (hl : t + k ≤ b.length) (h : ∀ i y, t ≤ i → i < t + k → b[i]? = some y → ∀ z ∈ a.take p, Le lt z y) : MH lt a b (o ++ ((b.drop t).take k).reverse) p t := (MH.takeAs sb m.swap hl h).swap
theorem MH.rsrt (m : MH lt a b o p q) : o.reverse.Pairwise (Le lt) := List.pairwise_reverse.mpr m.srt
theorem MH.endA (sb : b.Pairwise (Le lt)) (m : MH lt a b o p q) (hp : p = 0) : (b.take q ++ o.reverse).Perm (a ++ b) ∧ (b.take q ++ o.reverse).Pairwise (Le lt) := by
 refine ⟨?_, List.pairwise_append.mpr ⟨sb.take, m.rsrt, fun x hx y hy => m.lb y (List.mem_reverse.mp hy) x hx⟩⟩
 have h := (List.reverse_perm o).trans m.perm
 rw [hp, List.drop_zero] at h
 refine (List.Perm.append_left _ h).trans ?_
 rw [← List.append_assoc]
 refine (List.Perm.append_right _ List.perm_append_comm).trans ?_
 simp
theorem MH.endB (sa : a.Pairwise (Le lt)) (m : MH lt a b o p q) (hq : q = 0) : (a.take p ++ o.reverse).Perm (a ++ b) ∧ (a.take p ++ o.reverse).Pairwise (Le lt) :=
 let ⟨h1, h2⟩ := m.swap.endA sa hq; ⟨h1.trans List.perm_append_comm, h2⟩
theorem MH.endF (sa : a.Pairwise (Le lt)) (sb : b.Pairwise (Le lt)) (m : MH lt a b o p q) (hf : ∀ x ∈ b.take q, ∀ y ∈ a.take p, Le lt x y) : (b.take q ++ a.take p ++ o.reverse).Perm (a ++ b) ∧ (b.take q ++ a.take p ++ o.reverse).Pairwise (Le lt) := by
 refine ⟨?_, ?_⟩
 · have h := (List.reverse_perm o).trans m.perm
   refine (List.Perm.append_left _ h).trans ?_
   have e : (b.take q ++ a.take p ++ (a.drop p ++ b.drop q)).Perm (a.take p ++ a.drop p ++ (b.take q ++ b.drop q)) := by
    refine (List.Perm.append_right _ List.perm_append_comm).trans ?_
    rw [List.append_assoc, List.append_assoc]
    refine List.Perm.append_left _ ?_
    rw [← List.append_assoc, ← List.append_assoc]
    exact List.Perm.append_right _ List.perm_append_comm
   simp_all
 · rw [List.pairwise_append]
   refine ⟨List.pairwise_append.mpr ⟨sb.take, sa.take, hf⟩, m.rsrt, fun x hx y hy => ?_⟩
   rcases List.mem_append.mp hx with h | h
   · exact m.lb y (List.mem_reverse.mp hy) x h
   · exact m.la y (List.mem_reverse.mp hy) x h
end
theorem ext_0 (xs : Array Keyed) (p : Nat) : (xs.extract 0 p).toList = xs.toList.take p := by simp
abbrev hnD (xa xb o : Array Keyed) (p q : Nat) : Array Keyed := xa.extract 0 p ++ xb.extract 0 q ++ o.reverse
abbrev hnF (xa xb o : Array Keyed) (p q : Nat) : Array Keyed := xb.extract 0 q ++ xa.extract 0 p ++ o.reverse
theorem mergeHi'_eq (xa xb : Array Keyed) : mergeHi' xa xb = (do
 rule "list.sort.merge-hi"
 let tot := xa.size + xb.size
 let mut p := xa.size - 1
 let mut q := xb.size
 let mut o : Array Keyed := #[← elem' xa p]
 if p == 0 then return hnD xa xb o p q
 if q == 1 then return hnF xa xb o p q
 let mut mg := gallopOf (← get)
 for _ in [0:tot] do
  let mut ca := 0
  let mut cb := 0
  for _ in [0:tot] do
   let some aw ← lt' (← elem' xb (q - 1)) (← elem' xa (p - 1)) | return hnD xa xb o p q
   if aw then
    p := p - 1; o := o.push (← elem' xa p); ca := ca + 1; cb := 0
    if p == 0 then return hnD xa xb o p q
    if ca ≥ mg then break
   else
    q := q - 1; o := o.push (← elem' xb q); cb := cb + 1; ca := 0
    if q == 1 then return hnF xa xb o p q
    if cb ≥ mg then break
  rule "list.sort.gallop"
  mg := mg + 1
  for _ in [0:tot] do
   if mg > 1 then mg := mg - 1
   setG mg
   let some u ← gallop' false (← elem' xb (q - 1)) xa 0 p (p - 1) | return hnD xa xb o p q
   let k := p - u
   ca := k
   if k > 0 then
    o := o ++ (xa.extract u p).reverse; p := u
    if p == 0 then return hnD xa xb o p q
   q := q - 1; o := o.push (← elem' xb q)
   if q == 1 then return hnF xa xb o p q
   let some u ← gallop' true (← elem' xa (p - 1)) xb 0 q (q - 1) | return hnD xa xb o p q
   let k := q - u
   cb := k
   if k > 0 then
    o := o ++ (xb.extract u q).reverse; q := u
    if q == 1 then return hnF xa xb o p q
    if q == 0 then return hnD xa xb o p q
   p := p - 1; o := o.push (← elem' xa p)
   if p == 0 then return hnD xa xb o p q
   if ca < 7 && cb < 7 then break
  mg := mg + 1
  setG mg
 unsupported "internal:list.sort.merge-bound") := rfl
section
variable {prog : Program} {w : World} {A : Around} {E : Value → Shared → Prop} {s : Shared} {κ : SortKind} {kz : Array Keyed} {lt : Keyed → Keyed → Bool} {st : SortSt}
theorem ext_up (xs : Array Keyed) (u p : Nat) : (xs.extract u p).toList = (xs.toList.drop u).take (p - u) := by simp
section
variable {xa xb o : Array Keyed} {p q : Nat}
theorem Two.rtA (T : Two lt kz xa xb) (m : MH lt xa.toList xb.toList o.toList p q) (h : p = 0) : Good lt xa xb (hnD xa xb o p q) := by
 have e : (hnD xa xb o p q).toList = xb.toList.take q ++ o.toList.reverse := by simp_all
 unfold Good; rw [e]
 exact m.endA T.sb h
theorem Two.rtB (T : Two lt kz xa xb) (m : MH lt xa.toList xb.toList o.toList p q) (h : q = 0) : Good lt xa xb (hnD xa xb o p q) := by
 have e : (hnD xa xb o p q).toList = xa.toList.take p ++ o.toList.reverse := by simp_all
 unfold Good; rw [e]
 exact m.endB T.sa h
theorem Two.rtF (O : Ord lt) (T : Two lt kz xa xb) (m : MH lt xa.toList xb.toList o.toList p q) (h : q = 1) : Good lt xa xb (hnF xa xb o p q) := by
 have e : (hnF xa xb o p q).toList = xb.toList.take q ++ xa.toList.take p ++ o.toList.reverse := by simp
 unfold Good; rw [e]
 refine m.endF T.sa T.sb fun x hx y hy => ?_
 have nb := T.nb
 have na := T.na
 obtain ⟨b0, hb0⟩ : ∃ b0, xb[0]? = some b0 := ⟨xb[0]'(by omega), by simp⟩
 obtain ⟨a0, ha0⟩ : ∃ a0, xa[0]? = some a0 := ⟨xa[0]'(by omega), by simp⟩
 rw [h, show (1 : Nat) = 0 + 1 from rfl, take_snoc ((arr_get xb 0).trans hb0)] at hx
 have hx := by simpa using hx
 have h0 := O.asy _ _ (T.fst b0 a0 hb0 ha0)
 have hy' := List.mem_of_mem_take hy
 rw [← List.drop_zero (l := xa.toList), drop_cons ((arr_get xa 0).trans ha0)] at hy'
 rw [hx]
 rcases List.mem_cons.mp hy' with e | e
 · grind
 · exact O.tr _ _ _ h0 (srt_drop T.sa ((arr_get xa 0).trans ha0) y e)
end
theorem mem_take_last {l : List Keyed} (hl : l.Pairwise (Le lt)) (O : Ord lt) (hq : 0 < q) (hy : l[q - 1]? = some y) (hz : z ∈ l.take q) : Le lt z y := by
 rw [show q = q - 1 + 1 by omega, take_snoc hy] at hz
 rcases List.mem_append.mp hz with e | e
 · exact srt_take hl hy z e
 · rw [List.mem_singleton.mp e]; exact O.irr y
theorem mergeHi_ok {xa xb : Array Keyed} {Q : Array Keyed → SortSt → Prop} (O : Ord lt) (c : PureLt prog w A s κ kz lt) (hk : kindOf st = κ) (T : Two lt kz xa xb)
 (q0 : ∀ r v, Good lt xa xb r → Sm st v → Q r v) : wpS (model prog w) A E s (mergeHi' xa xb) Q st := by
 rw [mergeHi'_eq]
 have na := T.na
 have nb := T.nb
 have gta : ∀ {i : Nat}, i < xa.size → ∃ x, xa[i]? = some x ∧ xa.toList[i]? = some x := fun {i} h => ⟨xa[i], by simp [h], by simp [h]⟩
 have gtb : ∀ {i : Nat}, i < xb.size → ∃ x, xb[i]? = some x ∧ xb.toList[i]? = some x := fun {i} h => ⟨xb[i], by simp [h], by simp [h]⟩
 have inA : ∀ (i : Nat) z, xa[i]? = some z → z ∈ kz.toList := fun i z h => T.ina z (List.mem_of_getElem? ((arr_get xa i).trans h))
 have inB : ∀ (i : Nat) z, xb[i]? = some z → z ∈ kz.toList := fun i z h => T.inb z (List.mem_of_getElem? ((arr_get xb i).trans h))
 obtain ⟨al, hal, hal'⟩ := gta (i := xa.size - 1) (by omega)
 refine wpS_bind (rule_ok ?_)
 refine wpS_bind (elem_ok hal ?_)
 have m0 : MH lt xa.toList xb.toList (#[al] : Array Keyed).toList (xa.size - 1) xb.size := by
  have m : MH lt xa.toList xb.toList [] (xa.size - 1 + 1) xb.size := ⟨by rw [List.drop_of_length_le (by simp; omega), List.drop_of_length_le (by simp)]; exact .nil, List.Pairwise.nil, fun x hx => (nomatch hx), fun x hx => (nomatch hx)⟩
  exact m.takeA T.sa hal' fun z hz => O.asy _ _ (T.lst al hal z (List.mem_of_mem_take hz))
 dsimp only
 by_cases ha1 : (xa.size - 1 == 0) = true
 · rw [if_pos ha1]
   exact wpS_pure (q0 _ _ (T.rtA m0 (by simpa using ha1)) (Sm.refl _))
 rw [if_neg ha1]
 by_cases hb1 : (xb.size == 1) = true
 · rw [if_pos hb1]
   exact wpS_pure (q0 _ _ (T.rtF O m0 (by simpa using hb1)) (Sm.refl _))
 rw [if_neg hb1]
 have ha1' : 0 < xa.size - 1 := by have : ¬ xa.size - 1 = 0 := fun e => ha1 (by simp [e]); omega
 have hb1' : 1 < xb.size := by have : ¬ xb.size = 1 := fun e => hb1 (by simp [e]); omega
 refine wpS_bind (wpS_get ?_)
 refine wpS_bind (wpS_forRange (I := fun i c v => Sm st v ∧ ∃ o p q g, c = (none, p, q, o, g) ∧ MH lt xa.toList xb.toList o.toList p q ∧ 0 < p ∧ p < xa.size ∧ 1 < q ∧ q ≤ xb.size ∧ i + p + q ≤ xa.size + xb.size) ?step ?fin ⟨Sm.refl _, _, _, _, _, rfl, m0, ha1', by omega, hb1', Nat.le_refl _, by omega⟩)
 case fin =>
  rintro c' v ⟨_, o, p, q, g, rfl, m, h1, h2, h3, h4, h5⟩
  exfalso
  omega
 case step =>
  rintro i c' v _ hi ⟨sm, o, p, q, g, rfl, m, h1, h2, h3, h4, h5⟩
  dsimp only
  have sk : ∀ {v : SortSt}, Sm st v → kindOf v = κ := fun h => h.1.trans hk
  refine wpS_bind (wpS_mono (wpS_forRange (I := fun j c v => Sm st v ∧ ∃ o p q x y, c = (none, p, q, o, x, y) ∧ MH lt xa.toList xb.toList o.toList p q ∧ 0 < p ∧ p < xa.size ∧ 1 < q ∧ q ≤ xb.size ∧ i + p + q ≤ xa.size + xb.size ∧ (0 < j → i + 1 + p + q ≤ xa.size + xb.size))
   (Q := fun c v => Sm st v ∧ ((∃ r z, c = (some r, z) ∧ Good lt xa xb r) ∨ ∃ o p q x y, c = (none, p, q, o, x, y) ∧ MH lt xa.toList xb.toList o.toList p q ∧ 0 < p ∧ p < xa.size ∧ 1 < q ∧ q ≤ xb.size ∧ i + 1 + p + q ≤ xa.size + xb.size)) ?one ?oneE ⟨sm, o, p, q, 0, 0, rfl, m, h1, h2, h3, h4, h5, fun z => absurd z (Nat.lt_irrefl _)⟩) ?two)
  case oneE =>
   rintro c' v ⟨sm, o, p, q, x, y, rfl, m, h1, h2, h3, h4, h5, h6⟩
   exact ⟨sm, .inr ⟨o, p, q, x, y, rfl, m, h1, h2, h3, h4, h6 (by omega)⟩⟩
  case one =>
   rintro j c' v _ hj ⟨sm, o, p, q, x, y, rfl, m, h1, h2, h3, h4, h5, _⟩
   dsimp only
   obtain ⟨b1, hb, hb'⟩ := gtb (i := q - 1) (by omega)
   obtain ⟨a1, ha, ha'⟩ := gta (i := p - 1) (by omega)
   refine wpS_bind (elem_ok hb (wpS_bind (elem_ok ha (wpS_bind (pure_lt c (sk sm) (inB _ _ hb) (inA _ _ ha) ?_)))))
   dsimp only
   cases hl : lt b1 a1 with
   | true =>
    simp only [if_true]
    refine wpS_bind (elem_ok ha ?_)
    have m1 : MH lt xa.toList xb.toList (o.push a1).toList (p - 1) q := by
     rw [Array.toList_push]
     refine MH.takeA T.sa (by rw [show p - 1 + 1 = p by omega]; exact m) ha' fun z hz => ?_
     exact O.tr _ _ _ (mem_take_last T.sb O (by omega) hb' hz) (O.asy _ _ hl)
    by_cases e1 : (p - 1 == 0) = true
    · rw [if_pos e1]
      exact wpS_pure ⟨sm, .inl ⟨_, _, rfl, T.rtA m1 (by simpa using e1)⟩⟩
    rw [if_neg e1]
    have e1' : 0 < p - 1 := by have : ¬ p - 1 = 0 := fun e => e1 (by simp [e]); omega
    split
    · exact wpS_pure ⟨sm, .inr ⟨_, _, _, _, _, rfl, m1, e1', by omega, h3, h4, by omega⟩⟩
    · exact wpS_pure ⟨sm, _, _, _, _, _, rfl, m1, e1', by omega, h3, h4, by omega, fun _ => by omega⟩
   | false =>
    simp only [Bool.false_eq_true, if_false]
    refine wpS_bind (elem_ok hb ?_)
    have m1 : MH lt xa.toList xb.toList (o.push b1).toList p (q - 1) := by
     rw [Array.toList_push]
     refine MH.takeB T.sb (by rw [show q - 1 + 1 = q by omega]; exact m) hb' fun z hz => ?_
     exact O.tr _ _ _ (mem_take_last T.sa O h1 ha' hz) hl
    by_cases e1 : (q - 1 == 1) = true
    · rw [if_pos e1]
      exact wpS_pure ⟨sm, .inl ⟨_, _, rfl, T.rtF O m1 (by simpa using e1)⟩⟩
    rw [if_neg e1]
    have e1' : 1 < q - 1 := by have : ¬ q - 1 = 1 := fun e => e1 (by simp [e]); omega
    split
    · exact wpS_pure ⟨sm, .inr ⟨_, _, _, _, _, rfl, m1, h1, h2, e1', by omega, by omega⟩⟩
    · exact wpS_pure ⟨sm, _, _, _, _, _, rfl, m1, h1, h2, e1', by omega, by omega, fun _ => by omega⟩
  case two =>
   rintro c' v ⟨sm, ⟨r, z, rfl, good⟩ | ⟨o, p, q, x, y, rfl, m, h1, h2, h3, h4, h5⟩⟩
   · exact wpS_pure (wpS_pure (q0 r v good sm))
   dsimp only
   refine wpS_bind (rule_ok ?_)
   refine wpS_bind (wpS_mono (wpS_forRange (I := fun j c v => Sm st v ∧ ∃ o p q g x y, c = (none, p, q, o, g, x, y) ∧ MH lt xa.toList xb.toList o.toList p q ∧ 0 < p ∧ p < xa.size ∧ 1 < q ∧ q ≤ xb.size ∧ i + 1 + p + q ≤ xa.size + xb.size)
    (Q := fun c v => Sm st v ∧ ((∃ r z, c = (some r, z) ∧ Good lt xa xb r) ∨ ∃ o p q g x y, c = (none, p, q, o, g, x, y) ∧ MH lt xa.toList xb.toList o.toList p q ∧ 0 < p ∧ p < xa.size ∧ 1 < q ∧ q ≤ xb.size ∧ i + 1 + p + q ≤ xa.size + xb.size)) ?gal ?galE ⟨sm, o, p, q, _, x, y, rfl, m, h1, h2, h3, h4, h5⟩) ?three)
   case galE =>
    rintro c' v ⟨sm, o, p, q, g, x, y, rfl, m, h1, h2, h3, h4, h5⟩
    exact ⟨sm, .inr ⟨o, p, q, g, x, y, rfl, m, h1, h2, h3, h4, h5⟩⟩
   case three =>
    rintro c' v ⟨sm, ⟨r, z, rfl, good⟩ | ⟨o, p, q, g, x, y, rfl, m, h1, h2, h3, h4, h5⟩⟩
    · exact wpS_pure (wpS_pure (q0 r v good sm))
    dsimp only
    exact wpS_bind (setG_ok sm fun v1 sm1 => wpS_pure ⟨sm1, o, p, q, _, rfl, m, h1, h2, h3, h4, h5⟩)
   case gal =>
    rintro j c' v _ hj ⟨sm, o, p, q, g, x, y, rfl, m, h1, h2, h3, h4, h5⟩
    dsimp only
    obtain ⟨b1, hb, hb'⟩ := gtb (i := q - 1) (by omega)
    by_cases hg : g > 1
    all_goals first | rw [if_pos hg] | rw [if_neg hg]
    all_goals
     refine wpS_bind (setG_ok sm fun v1 sm1 => ?_)
     refine wpS_bind (elem_ok hb (wpS_bind (gallop_ok c (sk sm1) (inB _ _ hb) inA (by omega) (by omega) (fun i j hij hj => Two.monoA (p := 0) O T.sa i j hij (by omega)) fun u u1 u2 u3 => ?_)))
     dsimp only
     have hA : ∀ i y, u ≤ i → i < u + (p - u) → xa.toList[i]? = some y → ∀ z ∈ xb.toList.take q, Le lt z y := fun i y hi hi2 hy z hz => by
      have := u3 i hi (by omega)
      unfold Bv at this
      rw [arr_get] at hy
      rw [Nat.zero_add, hy] at this
      simp only [Bool.false_eq_true, if_false, Bool.not_eq_false'] at this
      exact O.tr _ _ _ (mem_take_last T.sb O (by omega) hb' hz) (O.asy _ _ this)
     have hB : ∀ z ∈ xa.toList.take u, Le lt z b1 := fun z hz => by
      obtain ⟨n, hn, e⟩ := List.getElem_of_mem hz
      rw [List.length_take] at hn
      have hz' : xa[n]? = some z := by
       rw [← arr_get, ← List.getElem?_take_of_lt (show n < u by omega), List.getElem?_eq_getElem (by rw [List.length_take]; exact hn), e]
      have := u2 n (by omega)
      unfold Bv at this
      rw [Nat.zero_add, hz'] at this
      simpa using this
     have mA : MH lt xa.toList xb.toList (o ++ (xa.extract u p).reverse).toList u q := by
      rw [Array.toList_append, Array.toList_reverse, ext_up]
      exact MH.takeAs T.sa (t := u) (k := p - u) (by rw [show u + (p - u) = p by omega]; exact m) (by simp; omega) hA
     by_cases hk0 : p - u > 0
    all_goals first
     | (rw [if_pos hk0]
        by_cases e1 : (u == 0) = true
        · rw [if_pos e1]
          exact wpS_pure ⟨sm1, .inl ⟨_, _, rfl, T.rtA mA (by simpa using e1)⟩⟩
        rw [if_neg e1]
        have hp0 : 0 < u := by have : ¬ u = 0 := fun e => e1 (by simp [e]); omega
        have hp1 : u < xa.size := by omega
        have hpk : i + 1 + u + q ≤ xa.size + xb.size := by omega
        generalize hO1 : o ++ (xa.extract u p).reverse = o1 at mA ⊢
        generalize hP1 : u = p1 at mA hB hp0 hp1 hpk ⊢)
     | (rw [if_neg hk0]
        have hup : u = p := by omega
        have hp0 := h1
        have hp1 := h2
        have hpk := h5
        have mA := m
        rw [hup] at hB
        generalize hO1 : o = o1 at mA ⊢
        generalize hP1 : p = p1 at mA hB hp0 hp1 hpk ⊢)
    all_goals
     refine wpS_bind (elem_ok hb ?_)
     have mB : MH lt xa.toList xb.toList (o1.push b1).toList p1 (q - 1) := by
      rw [Array.toList_push]
      exact MH.takeB T.sb (by rw [show q - 1 + 1 = q by omega]; exact mA) hb' hB
     by_cases e3 : (q - 1 == 1) = true
     · rw [if_pos e3]
       exact wpS_pure ⟨sm1, .inl ⟨_, _, rfl, T.rtF O mB (by simpa using e3)⟩⟩
     rw [if_neg e3]
     have hq1 : 1 < q - 1 := by have : ¬ q - 1 = 1 := fun e => e3 (by simp [e]); omega
     obtain ⟨a1, ha, ha'⟩ := gta (i := p1 - 1) (by omega)
     refine wpS_bind (elem_ok ha (wpS_bind (gallop_ok c (sk sm1) (inA _ _ ha) inB (by omega) (by omega) (fun i j hij hj => Two.monoB (q := 0) O T.sb i j hij (by omega)) fun n n1 n2 n3 => ?_)))
     dsimp only
     have hA2 : ∀ i y, n ≤ i → i < n + (q - 1 - n) → xb.toList[i]? = some y → ∀ z ∈ xa.toList.take p1, Le lt z y := fun i y hi hi2 hy z hz => by
      have := n3 i hi (by omega)
      unfold Bv at this
      rw [arr_get] at hy
      rw [Nat.zero_add, hy] at this
      simp only [if_true] at this
      exact O.tr _ _ _ (mem_take_last T.sa O hp0 ha' hz) this
     have hB2 : ∀ z ∈ xb.toList.take n, Le lt z a1 := fun z hz => by
      obtain ⟨j, hj, e⟩ := List.getElem_of_mem hz
      rw [List.length_take] at hj
      have hz' : xb[j]? = some z := by
       rw [← arr_get, ← List.getElem?_take_of_lt (show j < n by omega), List.getElem?_eq_getElem (by rw [List.length_take]; exact hj), e]
      have := n2 j (by omega)
      unfold Bv at this
      rw [Nat.zero_add, hz'] at this
      simp only [if_true] at this
      exact O.asy _ _ this
     have mC : MH lt xa.toList xb.toList (o1.push b1 ++ (xb.extract n (q - 1)).reverse).toList p1 n := by
      rw [Array.toList_append, Array.toList_reverse, ext_up]
      exact MH.takeBs T.sb (t := n) (k := q - 1 - n) (by rw [show n + (q - 1 - n) = q - 1 by omega]; exact mB) (by simp; omega) hA2
     by_cases hn0 : q - 1 - n > 0
    all_goals first
     | (rw [if_pos hn0]
        by_cases e4 : (n == 1) = true
        · rw [if_pos e4]
          exact wpS_pure ⟨sm1, .inl ⟨_, _, rfl, T.rtF O mC (by simpa using e4)⟩⟩
        rw [if_neg e4]
        by_cases e6 : (n == 0) = true
        · rw [if_pos e6]
          exact wpS_pure ⟨sm1, .inl ⟨_, _, rfl, T.rtB mC (by simpa using e6)⟩⟩
        rw [if_neg e6]
        have hq2 : 1 < n := by
         have : ¬ n = 1 := fun e => e4 (by simp [e])
         have : ¬ n = 0 := fun e => e6 (by simp [e])
         omega
        have hq3 : n ≤ xb.size := by omega
        have hpk2 : i + 1 + (p1 - 1) + n ≤ xa.size + xb.size := by omega
        generalize hO2 : o1.push b1 ++ (xb.extract n (q - 1)).reverse = o2 at mC ⊢
        generalize hQ2 : n = q2 at mC hB2 hq2 hq3 hpk2 ⊢)
     | (rw [if_neg hn0]
        have hnq : n = q - 1 := by omega
        have hq2 := hq1
        have hq3 : q - 1 ≤ xb.size := by omega
        have mC := mB
        rw [hnq] at hB2
        have hpk2 : i + 1 + (p1 - 1) + (q - 1) ≤ xa.size + xb.size := by omega
        generalize hO2 : o1.push b1 = o2 at mC ⊢
        generalize hQ2 : q - 1 = q2 at mC hB2 hq2 hq3 hpk2 ⊢)
    all_goals
     refine wpS_bind (elem_ok ha ?_)
     have mD : MH lt xa.toList xb.toList (o2.push a1).toList (p1 - 1) q2 := by
      rw [Array.toList_push]
      exact MH.takeA T.sa (by rw [show p1 - 1 + 1 = p1 by omega]; exact mC) ha' hB2
     by_cases e5 : (p1 - 1 == 0) = true
     · rw [if_pos e5]
       exact wpS_pure ⟨sm1, .inl ⟨_, _, rfl, T.rtA mD (by simpa using e5)⟩⟩
     rw [if_neg e5]
     have hp2 : 0 < p1 - 1 := by have : ¬ p1 - 1 = 0 := fun e => e5 (by simp [e]); omega
     split
     · exact wpS_pure ⟨sm1, .inr ⟨_, _, _, _, _, _, rfl, mD, hp2, by omega, hq2, hq3, hpk2⟩⟩
     · exact wpS_pure ⟨sm1, _, _, _, _, _, _, rfl, mD, hp2, by omega, hq2, hq3, hpk2⟩
end
theorem mergeAt'_eq (n : Nat) : mergeAt' n = (do
 let u ← get
 let (some (sa, ca, pw), some (sb, cb, _)) := ((pendingOf u)[n]?, (pendingOf u)[n + 1]?) | unsupported "internal:list.sort.pending"
 set (setPending u (((pendingOf u).setIfInBounds n (sa, ca + cb, pw)).eraseIdxIfInBounds (n + 1)))
 let some k ← gallop' false (← elem' (arrOf u) sb) (arrOf u) sa ca 0 | return false
 let (sa, ca) := (sa + k, ca - k)
 if ca == 0 then return true
 let some cb ← gallop' true (← elem' (arrOf u) (sa + ca - 1)) (arrOf u) sb cb (cb - 1) | return false
 if cb == 0 then return true
 let xs := (arrOf u).extract sa sb
 let ys := (arrOf u).extract sb (sb + cb)
 let got ← if ca ≤ cb then mergeLo' xs ys else mergeHi' xs ys
 modify fun v => setArr v (got.toList.zipIdx.foldl (fun a (p, j) => a.setIfInBounds (sa + j) p) (arrOf v))
 return (failedOf (← get)).isNone) := rfl
theorem over_get (sa : Nat) : ∀ (l : List Keyed) (n : Nat) (xs : Array Keyed), sa + n + l.length ≤ xs.size →
 ((l.zipIdx n).foldl (fun a (z : Keyed × Nat) => a.setIfInBounds (sa + z.2) z.1) xs).toList = xs.toList.take (sa + n) ++ l ++ xs.toList.drop (sa + n + l.length)
 | [], n, xs, h => by simp
 | y :: l, n, xs, h => by
  rw [List.zipIdx_cons, List.foldl_cons]
  have ih := over_get sa l (n + 1) (xs.setIfInBounds (sa + n) y) (by simp at h ⊢; omega)
  rw [ih, Array.toList_setIfInBounds]
  have hl : sa + n < xs.toList.length := by simp at h ⊢; omega
  rw [List.set_eq_take_append_cons_drop, if_pos hl]
  have e1 : (xs.toList.take (sa + n) ++ y :: xs.toList.drop (sa + n + 1)).take (sa + (n + 1)) = xs.toList.take (sa + n) ++ [y] := by
   rw [List.take_append, List.take_of_length_le (by rw [List.length_take]; omega), List.length_take, Nat.min_eq_left (by omega), show sa + (n + 1) - (sa + n) = 1 by omega]; rfl
  have e2 : (xs.toList.take (sa + n) ++ y :: xs.toList.drop (sa + n + 1)).drop (sa + (n + 1) + l.length) = xs.toList.drop (sa + n + (y :: l).length) := by
   rw [List.drop_append, List.drop_of_length_le (by rw [List.length_take]; omega), List.length_take, Nat.min_eq_left (by omega), List.nil_append, show sa + (n + 1) + l.length - (sa + n) = l.length + 1 by omega, List.drop_succ_cons, List.drop_drop]
   congr 1; simp; omega
  rw [e1, e2]
  simp
section
variable {prog : Program} {w : World} {A : Around} {E : Value → Shared → Prop} {s : Shared} {κ : SortKind} {kz : Array Keyed} {lt : Keyed → Keyed → Bool} {st : SortSt}
structure Bs (κ : SortKind) (kz : Array Keyed) (st : SortSt) : Prop where
 kind : kindOf st = κ
 failed : failedOf st = none
 perm : (arrOf st).toList.Perm kz.toList
theorem Bs.mem (b : Bs κ kz st) {i : Nat} (h : (arrOf st)[i]? = some x) : x ∈ kz.toList := b.perm.mem_iff.mp (List.mem_of_getElem? ((arr_get _ i).trans h))
theorem at_mid {xs : Array Keyed} (h : xs.toList = L0 ++ B ++ L3) (hi : i < B.length) : xs[L0.length + i]? = B[i]? := by
 rw [← arr_get, h, List.append_assoc, List.getElem?_append_right (by omega), Nat.add_sub_cancel_left, List.getElem?_append_left hi]
theorem bv_mono (O : Ord lt) (h : xs.toList = L0 ++ B ++ L3) (sb : B.Pairwise (Le lt)) : ∀ i j, i ≤ j → j < B.length → Bv lt lf y xs L0.length j = true → Bv lt lf y xs L0.length i = true := fun i j hij hj hb => by
 obtain ⟨u, hu⟩ : ∃ u, B[i]? = some u := ⟨_, List.getElem?_eq_getElem (by omega)⟩
 obtain ⟨v, hv⟩ : ∃ v, B[j]? = some v := ⟨_, List.getElem?_eq_getElem hj⟩
 unfold Bv at hb ⊢
 rw [at_mid h hj, hv] at hb
 rw [at_mid h (by omega), hu]
 have le : i = j ∨ Le lt u v := by
  by_cases e : i = j
  · exact .inl e
  · have := List.pairwise_iff_getElem.mp sb i j (by omega) hj (by omega)
    rw [Option.some.inj ((List.getElem?_eq_getElem (by omega)).symm.trans hu), Option.some.inj ((List.getElem?_eq_getElem hj).symm.trans hv)] at this
    exact .inr this
 rcases le with e | e
 · subst e; rw [hu] at hv; cases hv; exact hb
 · cases lf with
   | true => exact O.le_lt e hb
   | false =>
    simp only [Bool.false_eq_true, if_false, Bool.not_eq_true'] at hb ⊢
    exact O.tr u v y e hb
theorem mergeAt_ok (O : Ord lt) (c : PureLt prog w A s κ kz lt) (b : Bs κ kz st) (ha : (arrOf st).toList = L0 ++ (X ++ Y) ++ L3) (hX : 0 < X.length) (hY : 0 < Y.length) (sX : X.Pairwise (Le lt)) (sY : Y.Pairwise (Le lt))
 (p1 : (pendingOf st)[n]? = some (L0.length, X.length, pw)) (p2 : (pendingOf st)[n + 1]? = some (L0.length + X.length, Y.length, pw'))
 (q : ∀ v Z, Bs κ kz v → (arrOf v).toList = L0 ++ Z ++ L3 → Z.Perm (X ++ Y) → Z.Pairwise (Le lt) → pendingOf v = (((pendingOf st).setIfInBounds n (L0.length, X.length + Y.length, pw)).eraseIdxIfInBounds (n + 1)) → Q true v) :
 wpS (model prog w) A E s (mergeAt' n) Q st := by
 rw [mergeAt'_eq]
 refine wpS_bind (wpS_get ?_)
 rw [p1, p2]
 dsimp only
 have hXs : (arrOf st).toList = L0 ++ X ++ (Y ++ L3) := by rw [ha]; simp
 have hYs : (arrOf st).toList = (L0 ++ X) ++ Y ++ L3 := by rw [ha]; simp
 have hlen : (arrOf st).size = L0.length + X.length + Y.length + L3.length := by
  have := congrArg List.length ha
  simp at this; omega
 have hL : (L0 ++ X).length = L0.length + X.length := List.length_append
 have set_ok : ∀ {u v : SortSt} {R : PUnit → SortSt → Prop}, R ⟨⟩ u → wpS (model prog w) A E s (set u : StateT SortSt Sem PUnit) R v := fun {u v R} h => by
  unfold wpS; rw [StateT.run_set]; exact wpAny_pure ⟨rfl, h⟩
 refine wpS_bind (set_ok ?_)
 generalize hP : ((pendingOf st).setIfInBounds n (L0.length, X.length + Y.length, pw)).eraseIdxIfInBounds (n + 1) = P at q
 have b0 : Bs κ kz (setPending st P) := ⟨b.kind, b.failed, b.perm⟩
 have mem : ∀ (i : Nat) x, (arrOf st)[i]? = some x → x ∈ kz.toList := fun i x h => b.mem h
 obtain ⟨y0, hy0⟩ : ∃ y0, Y[0]? = some y0 := ⟨_, List.getElem?_eq_getElem hY⟩
 have ey0 : (arrOf st)[L0.length + X.length]? = some y0 := by
  have := at_mid hYs hY
  rw [hL, Nat.add_zero] at this
  rw [this]; exact hy0
 refine wpS_bind (elem_ok ey0 (wpS_bind (gallop_ok c b0.kind (mem _ _ ey0) mem (by omega) hX (bv_mono O hXs sX) fun k k1 k2 k3 => ?_)))
 dsimp only
 have yY : ∀ z ∈ Y, Le lt y0 z := fun z hz => by
  have h' : Y = y0 :: Y.drop 1 := by
   have := drop_cons hy0
   rw [List.drop_zero] at this; exact this
  rw [h'] at hz
  rcases List.mem_cons.mp hz with e | e
  · rw [e]; exact O.irr _
  · exact srt_drop sY hy0 z e
 have FA : ∀ x ∈ X.take k, Le lt x y0 := fun x hx => by
  obtain ⟨i, hi, e⟩ := List.getElem_of_mem hx
  rw [List.length_take] at hi
  have hxi : X[i]? = some x := by rw [← List.getElem?_take_of_lt (show i < k by omega), List.getElem?_eq_getElem (by rw [List.length_take]; exact hi), e]
  have := k2 i (by omega)
  unfold Bv at this
  rw [at_mid hXs (by omega), hxi] at this
  simpa using this
 have FB : ∀ x ∈ X.drop k, lt y0 x = true := fun x hx => by
  obtain ⟨i, hi, e⟩ := List.getElem_of_mem hx
  rw [List.length_drop] at hi
  have hxi : X[k + i]? = some x := by rw [← List.getElem?_drop, List.getElem?_eq_getElem (by rw [List.length_drop]; exact hi), e]
  have := k3 (k + i) (by omega) (by omega)
  unfold Bv at this
  rw [at_mid hXs (by omega), hxi] at this
  simpa using this
 have asis : (X ++ Y).Pairwise (Le lt) → Q true (setPending st P) := fun h => q _ (X ++ Y) b0 ha (List.Perm.refl _) h rfl
 by_cases hk0 : (X.length - k == 0) = true
 · rw [if_pos hk0]
   have hk0 : k = X.length := by have : X.length - k = 0 := by simpa using hk0
                                 omega
   refine wpS_pure (asis (List.pairwise_append.mpr ⟨sX, sY, fun x hx y hy => O.tr _ _ _ (FA x (by rw [hk0, List.take_length]; exact hx)) (yY y hy)⟩))
 rw [if_neg hk0]
 have hkX : k < X.length := by have : ¬ X.length - k = 0 := fun e => hk0 (by simp [e]); omega
 obtain ⟨xl, hxl⟩ : ∃ xl, X[X.length - 1]? = some xl := ⟨_, List.getElem?_eq_getElem (by omega)⟩
 have exl : (arrOf st)[L0.length + k + (X.length - k) - 1]? = some xl := by
  rw [show L0.length + k + (X.length - k) - 1 = L0.length + (X.length - 1) by omega, at_mid hXs (by omega)]; exact hxl
 have gm := bv_mono (lf := true) (y := xl) O hYs sY
 rw [hL] at gm
 refine wpS_bind (elem_ok exl (wpS_bind (gallop_ok c b0.kind (mem _ _ exl) mem (by omega) (by omega) gm fun cb c1 c2 c3 => ?_)))
 dsimp only
 have atY : ∀ {i : Nat}, i < Y.length → (arrOf st)[L0.length + X.length + i]? = Y[i]? := fun {i} hi => by
  have := at_mid hYs hi
  rw [hL] at this; exact this
 have GA : ∀ y ∈ Y.take cb, lt y xl = true := fun y hy => by
  obtain ⟨i, hi, e⟩ := List.getElem_of_mem hy
  rw [List.length_take] at hi
  have hyi : Y[i]? = some y := by rw [← List.getElem?_take_of_lt (show i < cb by omega), List.getElem?_eq_getElem (by rw [List.length_take]; exact hi), e]
  have := c2 i (by omega)
  unfold Bv at this
  rw [atY (by omega), hyi] at this
  simpa using this
 have GB : ∀ y ∈ Y.drop cb, Le lt xl y := fun y hy => by
  obtain ⟨i, hi, e⟩ := List.getElem_of_mem hy
  rw [List.length_drop] at hi
  have hyi : Y[cb + i]? = some y := by rw [← List.getElem?_drop, List.getElem?_eq_getElem (by rw [List.length_drop]; exact hi), e]
  have := c3 (cb + i) (by omega) (by omega)
  unfold Bv at this
  rw [atY (by omega), hyi] at this
  simpa using this
 have Xl : ∀ x ∈ X, Le lt x xl := fun x hx => mem_take_last sX O hX hxl (by rw [List.take_length]; exact hx)
 by_cases hc0 : (cb == 0) = true
 · rw [if_pos hc0]
   have hc0 : cb = 0 := by simpa using hc0
   refine wpS_pure (asis (List.pairwise_append.mpr ⟨sX, sY, fun x hx y hy => O.tr _ _ _ (Xl x hx) (GB y (by rw [hc0, List.drop_zero]; exact hy))⟩))
 rw [if_neg hc0]
 have hcb : 0 < cb := by have : ¬ cb = 0 := fun e => hc0 (by simp [e]); omega
 have eX : ((arrOf st).extract (L0.length + k) (L0.length + X.length)).toList = X.drop k := by
  rw [ext_up, hXs, List.append_assoc, List.drop_append, List.drop_of_length_le (by omega), List.nil_append, show L0.length + k - L0.length = k by omega, List.drop_append_of_le_length (by omega), List.take_append_of_le_length (by rw [List.length_drop]; omega), List.take_of_length_le (by rw [List.length_drop]; omega)]
 have eY : ((arrOf st).extract (L0.length + X.length) (L0.length + X.length + cb)).toList = Y.take cb := by
  rw [ext_up, hYs, List.append_assoc, List.drop_append, List.drop_of_length_le (by rw [hL]; omega), List.nil_append, hL, Nat.sub_self, List.drop_zero, show L0.length + X.length + cb - (L0.length + X.length) = cb by omega, List.take_append_of_le_length (by omega)]
 generalize hxs : (arrOf st).extract (L0.length + k) (L0.length + X.length) = xs at eX
 generalize hys : (arrOf st).extract (L0.length + X.length) (L0.length + X.length + cb) = ys at eY
 have zx : xs.size = X.length - k := by have := congrArg List.length eX; simpa using this
 have zy : ys.size = cb := by have := congrArg List.length eY; simp at this; omega
 have inX : ∀ x ∈ X, x ∈ kz.toList := fun x hx => b.perm.mem_iff.mp (by rw [hXs]; exact List.mem_append_left _ (List.mem_append_right _ hx))
 have inY : ∀ x ∈ Y, x ∈ kz.toList := fun x hx => b.perm.mem_iff.mp (by rw [hYs]; exact List.mem_append_left _ (List.mem_append_right _ hx))
 have T : Two lt kz xs ys := by
  refine ⟨fun x hx => inX x (List.mem_of_mem_drop (by rw [← eX]; exact hx)), fun x hx => inY x (List.mem_of_mem_take (by rw [← eY]; exact hx)), by omega, by omega, by rw [eX]; exact sX.drop, by rw [eY]; exact sY.take, fun x y hx hy => ?_, fun y hy x hx => ?_⟩
  · rw [← arr_get, eY, List.getElem?_take_of_lt hcb, hy0] at hx
    cases hx
    rw [← arr_get, eX] at hy
    exact FB y (List.mem_of_getElem? hy)
  · rw [← arr_get, eX, zx, List.getElem?_drop, show k + (X.length - k - 1) = X.length - 1 by omega, hxl] at hy
    cases hy
    rw [eY] at hx
    exact GA x hx
 have fin : ∀ r v, Good lt xs ys r → Sm (setPending st P) v → wpS (model prog w) A E s (do
  modify fun v => setArr v (r.toList.zipIdx.foldl (fun a (z : Keyed × Nat) => a.setIfInBounds (L0.length + k + z.2) z.1) (arrOf v))
  let u ← get
  pure (failedOf u).isNone) Q v := fun r v g sm => by
  obtain ⟨m1, m2, m3, m4⟩ := sm
  have m1 : kindOf v = kindOf st := m1
  have m2 : arrOf v = arrOf st := m2
  have m3 : pendingOf v = P := m3
  have m4 : failedOf v = failedOf st := m4
  obtain ⟨gp, gs⟩ := g
  rw [eX, eY] at gp
  have gl : r.toList.length = X.length - k + cb := by
   rw [gp.length_eq, List.length_append, List.length_drop, List.length_take]; omega
  refine wpS_bind (wpS_modify (wpS_bind (wpS_get ?_)))
  have e := over_get (L0.length + k) r.toList 0 (arrOf v) (by rw [m2]; omega)
  rw [Nat.add_zero, m2] at e
  have e1 : (arrOf st).toList.take (L0.length + k) = L0 ++ X.take k := by
   rw [hXs, List.append_assoc, List.take_append, List.take_of_length_le (by omega), show L0.length + k - L0.length = k by omega, List.take_append_of_le_length (by omega)]
  have e2 : (arrOf st).toList.drop (L0.length + k + r.toList.length) = Y.drop cb ++ L3 := by
   rw [hYs, List.append_assoc, List.drop_append, List.drop_of_length_le (by rw [hL]; omega), List.nil_append, hL, gl, show L0.length + k + (X.length - k + cb) - (L0.length + X.length) = cb by omega, List.drop_append_of_le_length (by omega)]
  rw [e1, e2] at e
  have zp : (X.take k ++ r.toList ++ Y.drop cb).Perm (X ++ Y) := by
   have h : (X.take k ++ r.toList ++ Y.drop cb).Perm (X.take k ++ (X.drop k ++ Y.take cb) ++ Y.drop cb) := List.Perm.append_right _ (List.Perm.append_left _ gp)
   have e3 : X.take k ++ (X.drop k ++ Y.take cb) ++ Y.drop cb = X ++ Y := by rw [← List.append_assoc, List.take_append_drop, List.append_assoc, List.take_append_drop]
   rw [e3] at h; exact h
  have el : (r.toList.zipIdx.foldl (fun a (z : Keyed × Nat) => a.setIfInBounds (L0.length + k + z.2) z.1) (arrOf v)).toList = L0 ++ (X.take k ++ r.toList ++ Y.drop cb) ++ L3 := by
   rw [m2, e]; simp
  rw [show failedOf (setArr v (r.toList.zipIdx.foldl (fun a (z : Keyed × Nat) => a.setIfInBounds (L0.length + k + z.2) z.1) (arrOf v))) = failedOf v from rfl, m4, b.failed]
  have rin : ∀ z ∈ r.toList, z ∈ X.drop k ∨ z ∈ Y.take cb := fun z hz => List.mem_append.mp (gp.mem_iff.mp hz)
  refine wpS_pure (q _ (X.take k ++ r.toList ++ Y.drop cb) ⟨m1.trans b.kind, m4.trans b.failed, ?_⟩ el zp ?_ m3)
  · show (r.toList.zipIdx.foldl (fun a (z : Keyed × Nat) => a.setIfInBounds (L0.length + k + z.2) z.1) (arrOf v)).toList.Perm kz.toList
    rw [el]
    refine List.Perm.trans ?_ b.perm
    rw [ha]
    exact List.Perm.append_right _ (List.Perm.append_left _ zp)
  · rw [List.pairwise_append, List.pairwise_append]
    have sXk : (X.take k ++ X.drop k).Pairwise (Le lt) := by rw [List.take_append_drop]; exact sX
    have sYc : (Y.take cb ++ Y.drop cb).Pairwise (Le lt) := by rw [List.take_append_drop]; exact sY
    refine ⟨⟨sX.take, gs, fun x hx z hz => ?_⟩, sY.drop, fun x hx y hy => ?_⟩
    · rcases rin z hz with h | h
      · exact (List.pairwise_append.mp sXk).2.2 x hx z h
      · exact O.tr _ _ _ (FA x hx) (yY z (List.mem_of_mem_take h))
    · rcases List.mem_append.mp hx with h | h
      · exact O.tr _ _ _ (Xl x (List.mem_of_mem_take h)) (GB y hy)
      · rcases rin x h with h | h
        · exact O.tr _ _ _ (Xl x (List.mem_of_mem_drop h)) (GB y hy)
        · exact (List.pairwise_append.mp sYc).2.2 x h y hy
 by_cases hle : X.length - k ≤ cb
 · rw [if_pos hle]
   exact wpS_bind (mergeLo_ok O c b0.kind T fin)
 · rw [if_neg hle]
   exact wpS_bind (mergeHi_ok O c b0.kind T fin)
end
theorem get3 (U S W : List Keyed) (k : Nat) : (U ++ S ++ W)[k]? = if k < U.length then U[k]? else if k < U.length + S.length then S[k - U.length]? else W[k - U.length - S.length]? := by grind
theorem mirror_list {xs : Array Keyed} (h : xs.toList = U ++ S ++ W) (hi : i = U.length) (hj : j = U.length + S.length) : (mirror xs i j ((j - i) / 2)).toList = U ++ S.reverse ++ W := by
 have hsz := by have := congrArg List.length h; simp at this; omega
 apply List.ext_getElem?
 intro k
 rw [arr_get, getElem?_mirror_all (by omega), ← arr_get, ← arr_get, h, get3 U S.reverse W, get3 U S W, get3 U S W, List.length_reverse]
 grind
theorem bubble_list {y : Keyed} (h : xs.toList = U ++ S ++ y :: W) (hi : i = U.length + S.length) : (bubble xs i (i - U.length)).toList = U ++ y :: S ++ W := by
 have hsz := by have := congrArg List.length h; simp at this; omega
 apply List.ext_getElem?
 intro k
 rw [arr_get, getElem?_bubble (by omega) _ (by omega), ← arr_get, ← arr_get, ← arr_get, h, get3 U _ W, get3 U S _, get3 U S _, get3 U S _, List.length_cons]
 grind
section
variable {prog : Program} {w : World} {A : Around} {E : Value → Shared → Prop} {s : Shared} {κ : SortKind} {kz : Array Keyed} {lt : Keyed → Keyed → Bool} {st : SortSt}
theorem lt_at (c : PureLt prog w A s κ kz lt) (B : Bs κ kz st) (e : (arrOf st).toList = L0 ++ R) (hi : i = L0.length + a) (hj : j = L0.length + b) (hx : R[a]? = some x) (hy : R[b]? = some y) (q : Q (some (lt x y)) st) :
 wpS (model prog w) A E s (ltAt' i j) Q st := by
 have g : ∀ {a : Nat} {x : Keyed}, R[a]? = some x → _[L0.length + a]? = some x := fun {a x} h => by
  rw [← arr_get, e, List.getElem?_append_right (by omega), Nat.add_sub_cancel_left]; omega
 subst hi hj
 exact pure_ltAt c B.kind (g hx) (g hy) (B.mem (g hx)) (B.mem (g hy)) q
theorem binSort_ok {lo n ok : Nat} {L0 C D L3 : List Keyed} {Q : Bool → SortSt → Prop} (O : Ord lt) (c : PureLt prog w A s κ kz lt) (B : Bs κ kz st) (ha : (arrOf st).toList = L0 ++ (C ++ D ++ L3)) (hlo : lo = L0.length) (hok : ok = C.length) (h1 : 1 ≤ ok) (hn : n = C.length + D.length) (sC : C.Pairwise (Le lt))
 (q : ∀ v Z, Bs κ kz v → (arrOf v).toList = L0 ++ (Z ++ L3) → Z.Perm (C ++ D) → Z.Pairwise (Le lt) → pendingOf v = pendingOf st → Q true v) : wpS (model prog w) A E s (binarySort' lo n ok) Q st := by
 rw [binarySort'_eq]
 refine wpS_bind (wpS_forRange (I := fun k r v => r = (none, ()) ∧ Bs κ kz v ∧ pendingOf v = pendingOf st ∧ ∃ C' D', C'.length = k ∧ (arrOf v).toList = L0 ++ (C' ++ D' ++ L3) ∧ C'.Pairwise (Le lt) ∧ (C' ++ D').Perm (C ++ D)) ?step ?fin ⟨rfl, B, rfl, C, D, by omega, ha, sC, List.Perm.refl _⟩)
 case fin =>
  rintro r v ⟨rfl, B', hp, C', D', e1, e2, e3, e4⟩
  dsimp only
  have hl := e4.length_eq
  rw [List.length_append, List.length_append] at hl
  have : D' = [] := List.length_eq_zero_iff.mp (by omega)
  subst this
  rw [List.append_nil] at e2 e4
  exact wpS_pure (q v C' B' e2 e4 e3 hp)
 case step =>
  rintro k r v hk1 hk2 ⟨rfl, B', hp, C', D', e1, e2, e3, e4⟩
  dsimp only
  have hl := e4.length_eq
  rw [List.length_append, List.length_append] at hl
  obtain ⟨y, D2, rfl⟩ : ∃ y D2, D' = y :: D2 := by
   cases D' with
   | nil => simp at hl; omega
   | cons y D2 => exact ⟨y, D2, rfl⟩
  have hy : (C' ++ (y :: D2) ++ L3)[k]? = some y := by rw [List.append_assoc, List.getElem?_append_right (by omega), e1, Nat.sub_self]; rfl
  have hlb : ∀ (l : Nat), l ≤ k → (∀ x ∈ C'.take l, Le lt x y) → (∀ x ∈ C'.drop l, lt y x = true) → wpS (model prog w) A E s (do
   moveDown' (lo + k) (lo + l)
   pure (ForInStep.yield ((none : Option Bool), ()))) (fun r st' => match r with
    | .done c' => wpS (model prog w) A E s (match c'.1 with | some r => pure r | none => pure true) Q st'
    | .yield c' => c' = (none, ()) ∧ Bs κ kz st' ∧ pendingOf st' = pendingOf st ∧ ∃ C' D', C'.length = k + 1 ∧ (arrOf st').toList = L0 ++ (C' ++ D' ++ L3) ∧ C'.Pairwise (Le lt) ∧ (C' ++ D').Perm (C ++ D)) v := fun l hl1 hA hB => by
   rw [moveDown'_eq]
   refine wpS_bind (wpS_modify (wpS_pure ?_))
   have hs : (arrOf v).toList = (L0 ++ C'.take l) ++ C'.drop l ++ y :: (D2 ++ L3) := by
    rw [e2]
    have : C' = C'.take l ++ C'.drop l := (List.take_append_drop l C').symm
    rw [this]; simp
   have hU : (L0 ++ C'.take l).length = lo + l := by rw [List.length_append, List.length_take, hlo]; omega
   have bl := bubble_list hs (i := lo + k) (by rw [hU, List.length_drop]; omega)
   rw [hU] at bl
   have pz : (C'.take l ++ y :: C'.drop l ++ D2).Perm (C ++ D) := by
    refine List.Perm.trans ?_ e4
    have h1 : (C'.take l ++ y :: C'.drop l).Perm (y :: (C'.take l ++ C'.drop l)) := List.perm_middle
    rw [List.take_append_drop] at h1
    exact (h1.append_right D2).trans List.perm_middle.symm
   refine ⟨rfl, ⟨B'.kind, B'.failed, ?_⟩, hp, C'.take l ++ y :: C'.drop l, D2, ?_, ?_, ?_, pz⟩
   · show (bubble (arrOf v) (lo + k) (lo + k - (lo + l))).toList.Perm kz.toList
     refine List.Perm.trans ?_ B'.perm
     exact Array.perm_iff_toList_perm.mp (bubble_perm _ _ _)
   · rw [List.length_append, List.length_cons, List.length_take, List.length_drop]; omega
   · show (bubble (arrOf v) (lo + k) (lo + k - (lo + l))).toList = _
     rw [bl]; simp
   · rw [List.pairwise_append]
     have sT : (C'.take l ++ C'.drop l).Pairwise (Le lt) := by rw [List.take_append_drop]; exact e3
     refine ⟨e3.take, List.pairwise_cons.mpr ⟨fun x hx => O.asy _ _ (hB x hx), e3.drop⟩, fun x hx z hz => ?_⟩
     rcases List.mem_cons.mp hz with e | e
     · rw [e]; exact hA x hx
     · exact (List.pairwise_append.mp sT).2.2 x hx z e
  refine wpS_bind (wpS_mono (wpS_forRange (I := fun x r v' => v' = v ∧ ∃ l u, r = (none, l, u) ∧ l ≤ u ∧ u ≤ k ∧ u - l ≤ k - x ∧ (∀ x ∈ C'.take l, Le lt x y) ∧ (∀ x ∈ C'.drop u, lt y x = true))
   (Q := fun r v' => v' = v ∧ ∃ l u, r = (none, l, u) ∧ l ≤ k ∧ (∀ x ∈ C'.take l, Le lt x y) ∧ (∀ x ∈ C'.drop l, lt y x = true)) ?istep ?ifin ⟨rfl, 0, k, rfl, by omega, by omega, by omega, fun x hx => by simp at hx, fun x hx => by rw [List.drop_of_length_le (by omega)] at hx; cases hx⟩) ?ipost)
  case ifin =>
   rintro r v' ⟨rfl, l, u, rfl, a1, a2, a3, a4, a5⟩
   have : l = u := by omega
   subst this
   exact ⟨rfl, l, l, rfl, a2, a4, a5⟩
  case ipost =>
   rintro r v' ⟨rfl, l, u, rfl, a2, a4, a5⟩
   exact hlb l a2 a4 a5
  case istep =>
   rintro x r v' _ hx ⟨rfl, l, u, rfl, a1, a2, a3, a4, a5⟩
   dsimp only
   by_cases hlu : l ≥ u
   · rw [if_pos hlu]
     have : l = u := by omega
     subst this
     exact wpS_pure ⟨rfl, l, l, rfl, a2, a4, a5⟩
   · rw [if_neg hlu]
     obtain ⟨z, hz⟩ : ∃ z, C'[(l + u) / 2]? = some z := ⟨_, List.getElem?_eq_getElem (by omega)⟩
     refine wpS_bind (lt_at (L0 := L0) (R := C' ++ (y :: D2) ++ L3) (a := k) (b := (l + u) / 2) c B' e2 (by omega) (by omega) hy (by rw [List.append_assoc, List.getElem?_append_left (by omega)]; exact hz) ?_)
     dsimp only
     cases hm : lt y z with
     | true =>
      simp only [if_true]
      refine wpS_pure ⟨rfl, l, _, rfl, by omega, by omega, by omega, a4, fun x hx => ?_⟩
      rw [drop_cons hz] at hx
      rcases List.mem_cons.mp hx with e | e
      · rw [e]; exact hm
      · exact O.lt_le hm (srt_drop e3 hz x e)
     | false =>
      simp only [Bool.false_eq_true, if_false]
      refine wpS_pure ⟨rfl, _, u, rfl, by omega, by omega, by omega, fun x hx => ?_, a5⟩
      rw [take_snoc hz] at hx
      rcases List.mem_append.mp hx with e | e
      · exact O.tr _ _ _ (srt_take e3 hz x e) hm
      · rw [List.mem_singleton.mp e]; exact hm
end
section
variable {prog : Program} {w : World} {A : Around} {E : Value → Shared → Prop} {s : Shared} {κ : SortKind} {kz : Array Keyed} {lt : Keyed → Keyed → Bool} {st : SortSt}
abbrev Ni (lt : Keyed → Keyed → Bool) (x y : Keyed) : Prop := Le lt y x
abbrev Eqv (lt : Keyed → Keyed → Bool) (S : List Keyed) : Prop := ∀ x ∈ S, ∀ y ∈ S, Le lt x y
theorem Bs.rev (B : Bs κ kz st) : Bs κ kz (setArr st (mirror (arrOf st) i j d)) := ⟨B.kind, B.failed, (Array.perm_iff_toList_perm.mp (mirror_perm _ _ _ _)).trans B.perm⟩
theorem ni_rev (h : (P ++ S).Pairwise (Ni lt)) (e : Eqv lt S) : (P ++ S.reverse).Pairwise (Ni lt) := by
 rw [List.pairwise_append] at h ⊢
 refine ⟨h.1, ?_, fun x hx y hy => h.2.2 x hx y (List.mem_reverse.mp hy)⟩
 refine List.pairwise_reverse.mpr ?_
 exact List.Pairwise.imp_of_mem (fun {a b} ha hb _ => e a ha b hb) h.2.1
theorem snoc_srt (O : Ord lt) (h : C.Pairwise (Le lt)) (hl : C[C.length - 1]? = some x) (hc : 0 < C.length) (hy : Le lt x y) : (C ++ [y]).Pairwise (Le lt) := by
 rw [List.pairwise_append]
 refine ⟨h, List.pairwise_singleton _ _, fun z hz w hw => ?_⟩
 rw [List.mem_singleton.mp hw]
 exact O.tr _ _ _ (mem_take_last h O hc hl (by simp_all)) hy
theorem asc_ok {lo n0 nrem : Nat} {L0 R : List Keyed} {Q : Option (Option Nat) × Nat → SortSt → Prop} (O : Ord lt) (c : PureLt prog w A s κ kz lt) (B : Bs κ kz st) (ha : (arrOf st).toList = L0 ++ R) (hl : lo = L0.length) (hr : nrem = R.length) (h1 : 1 ≤ n0) (h2 : n0 ≤ nrem) (sr : (R.take n0).Pairwise (Le lt))
 (q : ∀ n, n0 ≤ n → n ≤ nrem → (R.take n).Pairwise (Le lt) → (n < nrem → ∃ x y, R[n]? = some x ∧ R[n - 1]? = some y ∧ lt x y = true) → Q (none, n) st) :
 wpS (model prog w) A E s (forIn [n0:nrem] ((none : Option (Option Nat)), n0) fun _ (r : Option (Option Nat) × Nat) => do
  let z ← ltAt' (lo + r.2) (lo + r.2 - 1)
  match z with
  | some smaller => if smaller = true then pure (ForInStep.done (none, r.2)) else pure (ForInStep.yield (none, r.2 + 1))
  | _ => pure (ForInStep.done (some none, r.2))) Q st := by
 refine wpS_forRange (I := fun i r v => v = st ∧ r = (none, i) ∧ (R.take i).Pairwise (Le lt)) ?step ?fin ⟨rfl, rfl, sr⟩
 case fin =>
  rintro r v ⟨rfl, rfl, h⟩
  rw [show max n0 nrem = nrem by omega] at h ⊢
  exact q nrem h2 (Nat.le_refl _) h fun z => absurd z (Nat.lt_irrefl _)
 case step =>
  rintro i r v hi1 hi2 ⟨rfl, rfl, h⟩
  dsimp only
  obtain ⟨x, hx⟩ : ∃ x, R[i]? = some x := ⟨_, List.getElem?_eq_getElem (by omega)⟩
  obtain ⟨y, hy⟩ : ∃ y, R[i - 1]? = some y := ⟨_, List.getElem?_eq_getElem (by omega)⟩
  refine wpS_bind (lt_at c B ha (a := i) (b := i - 1) (by omega) (by omega) hx hy ?_)
  dsimp only
  cases hm : lt x y with
  | true =>
   simp only [if_true]
   exact wpS_pure (q i hi1 (by omega) h fun _ => ⟨x, y, hx, hy, hm⟩)
  | false =>
   simp only [Bool.false_eq_true, if_false]
   refine wpS_pure ⟨rfl, rfl, ?_⟩
   rw [take_snoc hx]
   have hl : (R.take i).length = i := by rw [List.length_take]; omega
   refine snoc_srt O h (x := y) ?_ (by omega) hm
   rw [hl, List.getElem?_take_of_lt (by omega)]; exact hy
theorem countRun_ok {lo nrem : Nat} {L0 R : List Keyed} {Q : Option Nat → SortSt → Prop} (O : Ord lt) (c : PureLt prog w A s κ kz lt) (B : Bs κ kz st) (ha : (arrOf st).toList = L0 ++ R) (hl : lo = L0.length) (hr : nrem = R.length) (h1 : 1 ≤ nrem)
 (q : ∀ v C D, Bs κ kz v → (arrOf v).toList = L0 ++ (C ++ D) → (C ++ D).Perm R → C.Pairwise (Le lt) → 1 ≤ C.length → pendingOf v = pendingOf st → Q (some C.length) v) : wpS (model prog w) A E s (countRun' lo nrem) Q st := by
 rw [countRun'_eq]
 refine wpS_bind (asc_ok O c B ha hl hr (Nat.le_refl _) h1 ?_ fun n n1 n2 sn nx => ?_)
 · exact List.Pairwise.sublist (List.Sublist.refl _) (by
    cases R with
    | nil => exact List.Pairwise.nil
    | cons x r => exact List.pairwise_singleton _ _)
 dsimp only
 have lenT : (R.take n).length = n := by rw [List.length_take]; omega
 have same : Q (some n) st := by
  have := q st (R.take n) (R.drop n) B (by rw [List.take_append_drop]; exact ha) (by rw [List.take_append_drop]) sn (by omega) rfl
  rw [lenT] at this; exact this
 by_cases hn : (n == nrem) = true
 · rw [if_pos hn]; exact wpS_pure same
 rw [if_neg hn]
 have hnl : n < nrem := by have : ¬ n = nrem := fun e => hn (by simp [e]); omega
 obtain ⟨x, y, hx, hy, hxy⟩ := nx hnl
 have hy' : (R.take n)[n - 1]? = some y := by rw [List.getElem?_take_of_lt (by omega)]; exact hy
 have lasty : ∀ z ∈ R.take n, Le lt z y := fun z hz => mem_take_last sn O (by omega) (l := R.take n) (q := n) hy' (by rw [List.take_of_length_le (by omega)]; exact hz)
 have dR : R.drop n = x :: R.drop (n + 1) := drop_cons hx
 have lex : Le lt x y := O.asy _ _ hxy
 have rest : ∀ (v : SortSt) (C1 : List Keyed), Bs κ kz v → pendingOf v = pendingOf st → (arrOf v).toList = L0 ++ (C1 ++ R.drop n) → (C1 ++ R.drop n).Perm R → C1.length = n → C1.Pairwise (Ni lt) → (∀ z ∈ C1, Le lt x z) →
  (fun r (v : SortSt) => Bs κ kz v ∧ pendingOf v = pendingOf st ∧ ∃ P S D, r = ((none : Option (Option Nat)), n + 1, S.length - 1) ∧ (arrOf v).toList = L0 ++ (P ++ S ++ D) ∧ P.length + S.length = n + 1 ∧ 0 < S.length ∧ Eqv lt S ∧ (P ++ S).Pairwise (Ni lt) ∧ (P ++ S ++ D).Perm R) (none, n + 1, 0) v := fun v C1 B1 hp e1 e2 e3 e4 e5 => by
  refine ⟨B1, hp, C1, [x], R.drop (n + 1), rfl, ?_, by simp [e3], by simp, fun a ha b hb => ?_, ?_, ?_⟩
  · rw [e1, dR]; simp
  · rw [List.mem_singleton.mp ha, List.mem_singleton.mp hb]; exact O.irr _
  · rw [List.pairwise_append]
    exact ⟨e4, List.pairwise_singleton _ _, fun z hz u hu => by rw [List.mem_singleton.mp hu]; exact e5 z hz⟩
  · rw [dR] at e2; simpa using e2
 have minl : ∀ {C : List Keyed} {z u : Keyed}, C.Pairwise (Ni lt) → C[C.length - 1]? = some u → z ∈ C → Le lt u z := fun {C z u} h hu hz => by
  obtain ⟨i, hi, e⟩ := List.getElem_of_mem hz
  by_cases hi2 : i = C.length - 1
  · have : C[i]? = some z := by rw [List.getElem?_eq_getElem hi, e]
    rw [hi2, hu] at this; cases this; exact O.irr _
  · have := List.pairwise_iff_getElem.mp h i (C.length - 1) hi (by omega) (by omega)
    rw [e, Option.some.inj ((List.getElem?_eq_getElem (by omega)).symm.trans hu)] at this
    exact this
 have fin : ∀ (m : Nat) (v : SortSt) (C D : List Keyed), Bs κ kz v → pendingOf v = pendingOf st → (arrOf v).toList = L0 ++ (C ++ D) → C.length = m → 1 ≤ m → C.Pairwise (Ni lt) → (C ++ D).Perm R →
  wpS (model prog w) A E s (reverseSlice' lo (lo + m)) (fun _ v' => Bs κ kz v' ∧ pendingOf v' = pendingOf st ∧ (arrOf v').toList = L0 ++ (C.reverse ++ D) ∧ (C.reverse).Pairwise (Le lt) ∧ (C.reverse ++ D).Perm R) v := fun m v C D B1 hp e1 e2 e3 e4 e5 => by
  refine wpS_reverse ⟨B1.rev, hp, ?_, List.pairwise_reverse.mpr e4, ((List.reverse_perm C).append_right D).trans e5⟩
  have := mirror_list (xs := arrOf v) (U := L0) (S := C) (W := D) (by rw [e1]; simp) (i := lo) (j := lo + m) hl (by omega)
  show (mirror (arrOf v) lo (lo + m) ((lo + m - lo) / 2)).toList = _
  rw [this]; simp
 have eqAll : n > 1 → ∀ r0, R[0]? = some r0 → lt r0 y = false → Eqv lt (R.take n) := fun hn1 r0 hr0 hro a ha b hb => by
  have ya : Le lt y r0 := hro
  have r0a : ∀ z ∈ R.take n, Le lt r0 z := fun z hz => by
   obtain ⟨i, hi, e⟩ := List.getElem_of_mem hz
   have hz' : (R.take n)[i]? = some z := by rw [List.getElem?_eq_getElem hi, e]
   rw [lenT] at hi
   by_cases hi0 : i = 0
   · rw [hi0, List.getElem?_take_of_lt (by omega), hr0] at hz'; cases hz'; exact O.irr _
   · have := List.pairwise_iff_getElem.mp sn 0 i (by omega) (by omega) (by omega)
     have e0 : (R.take n)[0]? = some r0 := by rw [List.getElem?_take_of_lt (by omega)]; exact hr0
     rw [Option.some.inj ((List.getElem?_eq_getElem (by omega)).symm.trans e0), e] at this
     exact this
  exact O.tr _ _ _ (lasty a ha) (O.tr _ _ _ ya (r0a b hb))
 by_cases hn1 : n > 1
 · rw [if_pos hn1]
   obtain ⟨r0, hr0⟩ : ∃ r0, R[0]? = some r0 := ⟨_, List.getElem?_eq_getElem (by omega)⟩
   refine wpS_bind (lt_at c B ha (a := 0) (b := n - 1) (by omega) (by omega) hr0 hy ?_)
   dsimp only
   cases hro : lt r0 y with
   | true =>
    simp only [if_true]
    exact wpS_pure same
   | false =>
    simp only [Bool.false_eq_true, if_false]
    have ea := eqAll hn1 r0 hr0 hro
    refine wpS_bind (wpS_reverse ?_)
    have ml := mirror_list (xs := arrOf st) (U := L0) (S := R.take n) (W := R.drop n) (by rw [ha, List.append_assoc, List.take_append_drop]) (i := lo) (j := lo + n) hl (by rw [lenT]; omega)
    have st1 := rest (setArr st (mirror (arrOf st) lo (lo + n) ((lo + n - lo) / 2))) (R.take n).reverse B.rev rfl (by show (mirror (arrOf st) lo (lo + n) ((lo + n - lo) / 2)).toList = _; rw [ml]; simp) (by
     have := (List.reverse_perm (R.take n)).append_right (R.drop n)
     rw [List.take_append_drop] at this; exact this) (by rw [List.length_reverse, lenT]) (List.pairwise_reverse.mpr (List.Pairwise.imp_of_mem (R := Le lt) (fun {a b} ha hb _ => ea a ha b hb) sn)) (fun z hz => O.tr _ _ _ lex (ea y (List.mem_of_getElem? hy') z (List.mem_reverse.mp hz)))
    generalize hv1 : setArr st (mirror (arrOf st) lo (lo + n) ((lo + n - lo) / 2)) = v1 at st1 ⊢
    refine wpS_bind (rule_ok ?_)
    refine wpS_bind (wpS_mono (wpS_forRange (I := fun i r v => Bs κ kz v ∧ pendingOf v = pendingOf st ∧ ∃ P S D, r = ((none : Option (Option Nat)), i, S.length - 1) ∧ (arrOf v).toList = L0 ++ (P ++ S ++ D) ∧ P.length + S.length = i ∧ 0 < S.length ∧ Eqv lt S ∧ (P ++ S).Pairwise (Ni lt) ∧ (P ++ S ++ D).Perm R)
     (Q := fun r v => Bs κ kz v ∧ pendingOf v = pendingOf st ∧ ∃ i P S D, r = ((none : Option (Option Nat)), i, S.length - 1) ∧ (arrOf v).toList = L0 ++ (P ++ S ++ D) ∧ P.length + S.length = i ∧ 0 < S.length ∧ Eqv lt S ∧ (P ++ S).Pairwise (Ni lt) ∧ (P ++ S ++ D).Perm R ∧ i ≤ nrem) ?dstep ?dfin st1) ?dpost)
    case dfin =>
     rintro r v ⟨B1, hp, P, S, D, rfl, e1, e2, e3, e4, e5, e6⟩
     exact ⟨B1, hp, _, P, S, D, rfl, e1, e2, e3, e4, e5, e6, by omega⟩
    case dstep =>
     rintro i r v hi1 hi2 ⟨B1, hp, P, S, D, rfl, e1, e2, e3, e4, e5, e6⟩
     dsimp only
     have hlen := e6.length_eq
     rw [List.length_append, List.length_append] at hlen
     obtain ⟨x', D2, rfl⟩ : ∃ x' D2, D = x' :: D2 := by
      cases D with
      | nil => simp at hlen; omega
      | cons x' D2 => exact ⟨x', D2, rfl⟩
     have hPS : (P ++ S).length = i := by rw [List.length_append]; exact e2
     obtain ⟨u, hu⟩ : ∃ u, (P ++ S)[i - 1]? = some u := ⟨_, List.getElem?_eq_getElem (by omega)⟩
     have huS : u ∈ S := by
      rw [List.getElem?_append_right (by omega)] at hu
      exact List.mem_of_getElem? hu
     have hx' : (P ++ S ++ x' :: D2)[i]? = some x' := by rw [List.getElem?_append_right (by omega), hPS, Nat.sub_self]; rfl
     have hu' : (P ++ S ++ x' :: D2)[i - 1]? = some u := by rw [List.getElem?_append_left (by omega)]; exact hu
     have least : ∀ z ∈ P ++ S, Le lt u z := fun z hz => minl e5 (by rw [hPS]; exact hu) hz
     refine wpS_bind (lt_at c B1 e1 (a := i) (b := i - 1) (by omega) (by omega) hx' hu' ?_)
     dsimp only
     have one : ∀ P', (P' ++ [x']).Pairwise (Ni lt) → Eqv lt [x'] := fun _ _ a ha b hb => by rw [List.mem_singleton.mp ha, List.mem_singleton.mp hb]; exact O.irr _
     cases hsm : lt x' u with
     | true =>
      simp only [if_true]
      have lx : ∀ z ∈ P ++ S, Le lt x' z := fun z hz => O.tr _ _ _ (O.asy _ _ hsm) (least z hz)
      by_cases hq0 : S.length - 1 > 0
      · rw [if_pos hq0]
        refine wpS_bind (wpS_reverse (wpS_pure ?_))
        have ml := mirror_list (xs := arrOf v) (U := L0 ++ P) (S := S) (W := x' :: D2) (by rw [e1]; simp) (i := lo + i - (S.length - 1 + 1)) (j := lo + i) (by rw [List.length_append]; omega) (by rw [List.length_append]; omega)
        have ni : (P ++ S.reverse ++ [x']).Pairwise (Ni lt) := by
         rw [List.pairwise_append]
         refine ⟨ni_rev e5 e4, List.pairwise_singleton _ _, fun z hz y' hy2 => ?_⟩
         rw [List.mem_singleton.mp hy2]
         refine lx z ?_
         rcases List.mem_append.mp hz with h | h
         · exact List.mem_append_left _ h
         · exact List.mem_append_right _ (List.mem_reverse.mp h)
        refine ⟨B1.rev, hp, P ++ S.reverse, [x'], D2, rfl, ?_, by rw [List.length_append, List.length_reverse]; simp; omega, by simp, one _ ni, ni, ?_⟩
        · show (mirror (arrOf v) (lo + i - (S.length - 1 + 1)) (lo + i) ((lo + i - (lo + i - (S.length - 1 + 1))) / 2)).toList = _
          rw [ml]; simp
        · refine List.Perm.trans ?_ e6
          have : (P ++ S.reverse ++ [x'] ++ D2) = (P ++ S.reverse) ++ (x' :: D2) := by simp
          rw [this]
          exact List.Perm.append_right _ (List.Perm.append_left _ (List.reverse_perm S))
      · rw [if_neg hq0]
        have ni : (P ++ S ++ [x']).Pairwise (Ni lt) := by
         rw [List.pairwise_append]
         exact ⟨e5, List.pairwise_singleton _ _, fun z hz y' hy2 => by rw [List.mem_singleton.mp hy2]; exact lx z hz⟩
        refine wpS_pure ⟨B1, hp, P ++ S, [x'], D2, rfl, by rw [e1]; simp, by rw [List.length_append]; simp; omega, by simp, one _ ni, ni, by simpa using e6⟩
     | false =>
      simp only [Bool.false_eq_true, if_false]
      refine wpS_bind (lt_at c B1 e1 (a := i - 1) (b := i) (by omega) (by omega) hu' hx' ?_)
      dsimp only
      cases hla : lt u x' with
      | true =>
       simp only [if_true]
       exact wpS_pure ⟨B1, hp, i, P, S, x' :: D2, rfl, e1, e2, e3, e4, e5, e6, by omega⟩
      | false =>
       simp only [Bool.false_eq_true, if_false]
       refine wpS_pure ⟨B1, hp, P, S ++ [x'], D2, by rw [List.length_append]; simp; omega, by rw [e1]; simp, by rw [List.length_append]; simp; omega, by simp, fun a ha b hb => ?_, ?_, by simpa using e6⟩
       · have le1 : ∀ z ∈ S, Le lt z x' := fun z hz => O.tr _ _ _ (e4 z hz u huS) hsm
         have le2 : ∀ z ∈ S, Le lt x' z := fun z hz => O.tr _ _ _ hla (e4 u huS z hz)
         rcases List.mem_append.mp ha with h | h <;> rcases List.mem_append.mp hb with h' | h'
         · exact e4 a h b h'
         · rw [List.mem_singleton.mp h']; exact le1 a h
         · rw [List.mem_singleton.mp h]; exact le2 b h'
         · rw [List.mem_singleton.mp h, List.mem_singleton.mp h']; exact O.irr _
       · rw [← List.append_assoc, List.pairwise_append]
         exact ⟨e5, List.pairwise_singleton _ _, fun z hz y' hy2 => by rw [List.mem_singleton.mp hy2]; exact O.tr _ _ _ hla (least z hz)⟩
    case dpost =>
     rintro r v ⟨B1, hp, m, P, S, D, rfl, e1, e2, e3, e4, e5, e6, e7⟩
     dsimp only
     have hlen := e6.length_eq
     rw [List.length_append, List.length_append] at hlen
     have last : ∀ (v' : SortSt) (C : List Keyed), C.length = m → (Bs κ kz v' ∧ pendingOf v' = pendingOf st ∧ (arrOf v').toList = L0 ++ (C.reverse ++ D) ∧ (C.reverse).Pairwise (Le lt) ∧ (C.reverse ++ D).Perm R) → ∀ k, m ≤ k → k ≤ nrem → ((C.reverse ++ D).take k).Pairwise (Le lt) → Q (some k) v' := fun v' C hC ⟨B2, hp2, g1, g2, g3⟩ k hk1 hk2 hk3 => by
      have hl2 := g3.length_eq
      have lt2 : ((C.reverse ++ D).take k).length = k := by rw [List.length_take]; omega
      have := q v' ((C.reverse ++ D).take k) ((C.reverse ++ D).drop k) B2 (by rw [List.take_append_drop]; exact g1) (by rw [List.take_append_drop]; exact g3) hk3 (by omega) hp2
      rw [lt2] at this; exact this
     have fin2 : ∀ (v' : SortSt) (C : List Keyed), C.length = m → (Bs κ kz v' ∧ pendingOf v' = pendingOf st ∧ (arrOf v').toList = L0 ++ (C.reverse ++ D) ∧ (C.reverse).Pairwise (Le lt) ∧ (C.reverse ++ D).Perm R) → ((C.reverse ++ D).take m).Pairwise (Le lt) := fun v' C hC ⟨_, _, _, g2, _⟩ => by
      rw [List.take_append_of_le_length (by rw [List.length_reverse]; omega), List.take_of_length_le (by rw [List.length_reverse]; omega)]
      exact g2
     by_cases hq0 : S.length - 1 > 0
     · rw [if_pos hq0]
       have ml := mirror_list (xs := arrOf v) (U := L0 ++ P) (S := S) (W := D) (by rw [e1]; simp) (i := lo + m - (S.length - 1 + 1)) (j := lo + m) (by rw [List.length_append]; omega) (by rw [List.length_append]; omega)
       refine wpS_bind (wpS_reverse ?_)
       have hC : (P ++ S.reverse).length = m := by rw [List.length_append, List.length_reverse]; exact e2
       refine wpS_bind (wpS_mono (fin m (setArr v (mirror (arrOf v) (lo + m - (S.length - 1 + 1)) (lo + m) ((lo + m - (lo + m - (S.length - 1 + 1))) / 2))) (P ++ S.reverse) D B1.rev hp (by show (mirror (arrOf v) (lo + m - (S.length - 1 + 1)) (lo + m) ((lo + m - (lo + m - (S.length - 1 + 1))) / 2)).toList = _; rw [ml]; simp) hC (by omega) (ni_rev e5 e4) ((List.Perm.append_right _ (List.Perm.append_left _ (List.reverse_perm S))).trans e6)) fun _ v' g => ?_)
       refine wpS_bind (asc_ok O c g.1 g.2.2.1 hl (by rw [hr, ← g.2.2.2.2.length_eq]) (by omega) e7 (fin2 v' _ hC g) fun k hk1 hk2 hk3 _ => ?_)
       exact wpS_pure (last v' _ hC g k hk1 hk2 hk3)
     · rw [if_neg hq0]
       have hC : (P ++ S).length = m := by rw [List.length_append]; exact e2
       refine wpS_bind (wpS_mono (fin m v (P ++ S) D B1 hp (by rw [e1]) hC (by omega) e5 e6) fun _ v' g => ?_)
       refine wpS_bind (asc_ok O c g.1 g.2.2.1 hl (by rw [hr, ← g.2.2.2.2.length_eq]) (by omega) e7 (fin2 v' _ hC g) fun k hk1 hk2 hk3 _ => ?_)
       exact wpS_pure (last v' _ hC g k hk1 hk2 hk3)
 · rw [if_neg hn1]
   have hn1' : n = 1 := by omega
   have st1 := rest st (R.take n) B rfl (by rw [List.take_append_drop]; exact ha) (by rw [List.take_append_drop]) lenT (by
    subst hn1'
    cases R with
    | nil => exact List.Pairwise.nil
    | cons a r => exact List.pairwise_singleton _ _) (fun z hz => by
    subst hn1'
    have : R.take 1 = [y] := by
     have h := take_snoc (i := 0) hy
     simpa using h
    rw [this] at hz
    rw [List.mem_singleton.mp hz]; exact lex)
   refine wpS_bind (rule_ok ?_)
   refine wpS_bind (wpS_mono (wpS_forRange (I := fun i r v => Bs κ kz v ∧ pendingOf v = pendingOf st ∧ ∃ P S D, r = ((none : Option (Option Nat)), i, S.length - 1) ∧ (arrOf v).toList = L0 ++ (P ++ S ++ D) ∧ P.length + S.length = i ∧ 0 < S.length ∧ Eqv lt S ∧ (P ++ S).Pairwise (Ni lt) ∧ (P ++ S ++ D).Perm R)
    (Q := fun r v => Bs κ kz v ∧ pendingOf v = pendingOf st ∧ ∃ i P S D, r = ((none : Option (Option Nat)), i, S.length - 1) ∧ (arrOf v).toList = L0 ++ (P ++ S ++ D) ∧ P.length + S.length = i ∧ 0 < S.length ∧ Eqv lt S ∧ (P ++ S).Pairwise (Ni lt) ∧ (P ++ S ++ D).Perm R ∧ i ≤ nrem) ?dstep ?dfin st1) ?dpost)
   case dfin =>
    rintro r v ⟨B1, hp, P, S, D, rfl, e1, e2, e3, e4, e5, e6⟩
    exact ⟨B1, hp, _, P, S, D, rfl, e1, e2, e3, e4, e5, e6, by omega⟩
   case dstep =>
    rintro i r v hi1 hi2 ⟨B1, hp, P, S, D, rfl, e1, e2, e3, e4, e5, e6⟩
    dsimp only
    have hlen := e6.length_eq
    rw [List.length_append, List.length_append] at hlen
    obtain ⟨x', D2, rfl⟩ : ∃ x' D2, D = x' :: D2 := by
     cases D with
     | nil => simp at hlen; omega
     | cons x' D2 => exact ⟨x', D2, rfl⟩
    have hPS : (P ++ S).length = i := by rw [List.length_append]; exact e2
    obtain ⟨u, hu⟩ : ∃ u, (P ++ S)[i - 1]? = some u := ⟨_, List.getElem?_eq_getElem (by omega)⟩
    have huS : u ∈ S := by
     rw [List.getElem?_append_right (by omega)] at hu
     exact List.mem_of_getElem? hu
    have hx' : (P ++ S ++ x' :: D2)[i]? = some x' := by rw [List.getElem?_append_right (by omega), hPS, Nat.sub_self]; rfl
    have hu' : (P ++ S ++ x' :: D2)[i - 1]? = some u := by rw [List.getElem?_append_left (by omega)]; exact hu
    have least : ∀ z ∈ P ++ S, Le lt u z := fun z hz => minl e5 (by rw [hPS]; exact hu) hz
    refine wpS_bind (lt_at c B1 e1 (a := i) (b := i - 1) (by omega) (by omega) hx' hu' ?_)
    dsimp only
    have one : ∀ P', (P' ++ [x']).Pairwise (Ni lt) → Eqv lt [x'] := fun _ _ a ha b hb => by rw [List.mem_singleton.mp ha, List.mem_singleton.mp hb]; exact O.irr _
    cases hsm : lt x' u with
    | true =>
     simp only [if_true]
     have lx : ∀ z ∈ P ++ S, Le lt x' z := fun z hz => O.tr _ _ _ (O.asy _ _ hsm) (least z hz)
     by_cases hq0 : S.length - 1 > 0
     · rw [if_pos hq0]
       refine wpS_bind (wpS_reverse (wpS_pure ?_))
       have ml := mirror_list (xs := arrOf v) (U := L0 ++ P) (S := S) (W := x' :: D2) (by rw [e1]; simp) (i := lo + i - (S.length - 1 + 1)) (j := lo + i) (by rw [List.length_append]; omega) (by rw [List.length_append]; omega)
       have ni : (P ++ S.reverse ++ [x']).Pairwise (Ni lt) := by
        rw [List.pairwise_append]
        refine ⟨ni_rev e5 e4, List.pairwise_singleton _ _, fun z hz y' hy2 => ?_⟩
        rw [List.mem_singleton.mp hy2]
        refine lx z ?_
        rcases List.mem_append.mp hz with h | h
        · exact List.mem_append_left _ h
        · exact List.mem_append_right _ (List.mem_reverse.mp h)
       refine ⟨B1.rev, hp, P ++ S.reverse, [x'], D2, rfl, ?_, by rw [List.length_append, List.length_reverse]; simp; omega, by simp, one _ ni, ni, ?_⟩
       · show (mirror (arrOf v) (lo + i - (S.length - 1 + 1)) (lo + i) ((lo + i - (lo + i - (S.length - 1 + 1))) / 2)).toList = _
         rw [ml]; simp
       · refine List.Perm.trans ?_ e6
         have : (P ++ S.reverse ++ [x'] ++ D2) = (P ++ S.reverse) ++ (x' :: D2) := by simp
         rw [this]
         exact List.Perm.append_right _ (List.Perm.append_left _ (List.reverse_perm S))
     · rw [if_neg hq0]
       have ni : (P ++ S ++ [x']).Pairwise (Ni lt) := by
        rw [List.pairwise_append]
        exact ⟨e5, List.pairwise_singleton _ _, fun z hz y' hy2 => by rw [List.mem_singleton.mp hy2]; exact lx z hz⟩
       refine wpS_pure ⟨B1, hp, P ++ S, [x'], D2, rfl, by rw [e1]; simp, by rw [List.length_append]; simp; omega, by simp, one _ ni, ni, by simpa using e6⟩
    | false =>
     simp only [Bool.false_eq_true, if_false]
     refine wpS_bind (lt_at c B1 e1 (a := i - 1) (b := i) (by omega) (by omega) hu' hx' ?_)
     dsimp only
     cases hla : lt u x' with
     | true =>
      simp only [if_true]
      exact wpS_pure ⟨B1, hp, i, P, S, x' :: D2, rfl, e1, e2, e3, e4, e5, e6, by omega⟩
     | false =>
      simp only [Bool.false_eq_true, if_false]
      refine wpS_pure ⟨B1, hp, P, S ++ [x'], D2, by rw [List.length_append]; simp; omega, by rw [e1]; simp, by rw [List.length_append]; simp; omega, by simp, fun a ha b hb => ?_, ?_, by simpa using e6⟩
      · have le1 : ∀ z ∈ S, Le lt z x' := fun z hz => O.tr _ _ _ (e4 z hz u huS) hsm
        have le2 : ∀ z ∈ S, Le lt x' z := fun z hz => O.tr _ _ _ hla (e4 u huS z hz)
        rcases List.mem_append.mp ha with h | h <;> rcases List.mem_append.mp hb with h' | h'
        · exact e4 a h b h'
        · rw [List.mem_singleton.mp h']; exact le1 a h
        · rw [List.mem_singleton.mp h]; exact le2 b h'
        · rw [List.mem_singleton.mp h, List.mem_singleton.mp h']; exact O.irr _
      · rw [← List.append_assoc, List.pairwise_append]
        exact ⟨e5, List.pairwise_singleton _ _, fun z hz y' hy2 => by rw [List.mem_singleton.mp hy2]; exact O.tr _ _ _ hla (least z hz)⟩
   case dpost =>
    rintro r v ⟨B1, hp, m, P, S, D, rfl, e1, e2, e3, e4, e5, e6, e7⟩
    dsimp only
    have hlen := e6.length_eq
    rw [List.length_append, List.length_append] at hlen
    have last : ∀ (v' : SortSt) (C : List Keyed), C.length = m → (Bs κ kz v' ∧ pendingOf v' = pendingOf st ∧ (arrOf v').toList = L0 ++ (C.reverse ++ D) ∧ (C.reverse).Pairwise (Le lt) ∧ (C.reverse ++ D).Perm R) → ∀ k, m ≤ k → k ≤ nrem → ((C.reverse ++ D).take k).Pairwise (Le lt) → Q (some k) v' := fun v' C hC ⟨B2, hp2, g1, g2, g3⟩ k hk1 hk2 hk3 => by
     have hl2 := g3.length_eq
     have lt2 : ((C.reverse ++ D).take k).length = k := by rw [List.length_take]; omega
     have := q v' ((C.reverse ++ D).take k) ((C.reverse ++ D).drop k) B2 (by rw [List.take_append_drop]; exact g1) (by rw [List.take_append_drop]; exact g3) hk3 (by omega) hp2
     rw [lt2] at this; exact this
    have fin2 : ∀ (v' : SortSt) (C : List Keyed), C.length = m → (Bs κ kz v' ∧ pendingOf v' = pendingOf st ∧ (arrOf v').toList = L0 ++ (C.reverse ++ D) ∧ (C.reverse).Pairwise (Le lt) ∧ (C.reverse ++ D).Perm R) → ((C.reverse ++ D).take m).Pairwise (Le lt) := fun v' C hC ⟨_, _, _, g2, _⟩ => by
     rw [List.take_append_of_le_length (by rw [List.length_reverse]; omega), List.take_of_length_le (by rw [List.length_reverse]; omega)]
     exact g2
    by_cases hq0 : S.length - 1 > 0
    · rw [if_pos hq0]
      have ml := mirror_list (xs := arrOf v) (U := L0 ++ P) (S := S) (W := D) (by rw [e1]; simp) (i := lo + m - (S.length - 1 + 1)) (j := lo + m) (by rw [List.length_append]; omega) (by rw [List.length_append]; omega)
      refine wpS_bind (wpS_reverse ?_)
      have hC : (P ++ S.reverse).length = m := by rw [List.length_append, List.length_reverse]; exact e2
      refine wpS_bind (wpS_mono (fin m (setArr v (mirror (arrOf v) (lo + m - (S.length - 1 + 1)) (lo + m) ((lo + m - (lo + m - (S.length - 1 + 1))) / 2))) (P ++ S.reverse) D B1.rev hp (by show (mirror (arrOf v) (lo + m - (S.length - 1 + 1)) (lo + m) ((lo + m - (lo + m - (S.length - 1 + 1))) / 2)).toList = _; rw [ml]; simp) hC (by omega) (ni_rev e5 e4) ((List.Perm.append_right _ (List.Perm.append_left _ (List.reverse_perm S))).trans e6)) fun _ v' g => ?_)
      refine wpS_bind (asc_ok O c g.1 g.2.2.1 hl (by rw [hr, ← g.2.2.2.2.length_eq]) (by omega) e7 (fin2 v' _ hC g) fun k hk1 hk2 hk3 _ => ?_)
      exact wpS_pure (last v' _ hC g k hk1 hk2 hk3)
    · rw [if_neg hq0]
      have hC : (P ++ S).length = m := by rw [List.length_append]; exact e2
      refine wpS_bind (wpS_mono (fin m v (P ++ S) D B1 hp (by rw [e1]) hC (by omega) e5 e6) fun _ v' g => ?_)
      refine wpS_bind (asc_ok O c g.1 g.2.2.1 hl (by rw [hr, ← g.2.2.2.2.length_eq]) (by omega) e7 (fin2 v' _ hC g) fun k hk1 hk2 hk3 _ => ?_)
      exact wpS_pure (last v' _ hC g k hk1 hk2 hk3)
end
def PO : Nat → List (Nat × Nat × Nat) → List (List Keyed) → Prop
 | _, [], [] => True
 | s, e :: P, C :: RS => e.1 = s ∧ e.2.1 = C.length ∧ PO (s + C.length) P RS
 | _, _, _ => False
theorem PO.len : ∀ {s : Nat} {P : List (Nat × Nat × Nat)} {RS : List (List Keyed)}, PO s P RS → P.length = RS.length
 | _, [], [], _ => rfl
 | _, e :: P, C :: RS, h => by rw [List.length_cons, List.length_cons, h.2.2.len]
 | _, [], _ :: _, h => h.elim
 | _, _ :: _, [], h => h.elim
theorem PO.snoc : ∀ {s : Nat} {P : List (Nat × Nat × Nat)} {RS : List (List Keyed)} {C : List Keyed} {a : Nat}, PO s P RS → a = s + RS.flatten.length → PO s (P ++ [(a, C.length, 0)]) (RS ++ [C])
 | s, [], [], C, a, _, h => ⟨by grind, rfl, trivial⟩
 | s, e :: P, D :: RS, C, a, h, ha => ⟨h.1, h.2.1, h.2.2.snoc (by grind)⟩
 | _, [], _ :: _, _, _, h, _ => h.elim
 | _, _ :: _, [], _, _, h, _ => h.elim
theorem PO.modify (hf : ∀ e, (f e).1 = e.1 ∧ (f e).2.1 = e.2.1) : ∀ {s : Nat} {P : List (Nat × Nat × Nat)} {RS : List (List Keyed)} (n : Nat), PO s P RS → PO s (P.modify n f) RS
 | _, [], [], n, _ => by grind
 | s, e :: P, C :: RS, 0, h => by
  exact ⟨(hf e).1.trans h.1, (hf e).2.trans h.2.1, h.2.2⟩
 | s, e :: P, C :: RS, n + 1, h => by
  exact ⟨h.1, h.2.1, h.2.2.modify hf n⟩
 | _, [], _ :: _, _, h => h.elim
 | _, _ :: _, [], _, h => h.elim
theorem PO.split : ∀ (n : Nat) {s : Nat} {P : List (Nat × Nat × Nat)} {RS : List (List Keyed)}, PO s P RS → n + 1 < RS.length → ∃ (P1 P2 : List (Nat × Nat × Nat)) (R1 R2 : List (List Keyed)) (X Y : List Keyed) (pw pw' : Nat),
 P = P1 ++ (s + R1.flatten.length, X.length, pw) :: (s + R1.flatten.length + X.length, Y.length, pw') :: P2 ∧ RS = R1 ++ X :: Y :: R2 ∧ P1.length = n ∧ R1.length = n ∧ ∀ Z : List Keyed, Z.length = X.length + Y.length → PO s (P1 ++ (s + R1.flatten.length, X.length + Y.length, pw) :: P2) (R1 ++ Z :: R2)
 | 0, s, e1 :: e2 :: P2, X :: Y :: R2, h, _ => by
  obtain ⟨a1, l1, w1⟩ := e1
  obtain ⟨a2, l2, w2⟩ := e2
  obtain ⟨h1, h2, h3, h4, h5⟩ := h
  simp only at h1 h2 h3 h4
  subst h1 h2 h3 h4
  refine ⟨[], P2, [], R2, X, Y, w1, w2, by simp, rfl, rfl, rfl, fun Z hZ => ⟨by simp, hZ.symm, ?_⟩⟩
  rw [hZ, ← Nat.add_assoc]; exact h5
 | n + 1, s, e :: P, C :: RS, h, hl => by
  obtain ⟨P1, P2, R1, R2, X, Y, pw, pw', g1, g2, g3, g4, g5⟩ := PO.split n h.2.2 (by simpa using hl)
  refine ⟨e :: P1, P2, C :: R1, R2, X, Y, pw, pw', ?_, by rw [g2]; rfl, by simp [g3], by simp [g4], fun Z hZ => ⟨h.1, h.2.1, ?_⟩⟩
  · rw [g1]
    simp
    rw [← Nat.add_assoc]
  · have := g5 Z hZ
    simp only [List.flatten_cons, List.length_append]
    rw [← Nat.add_assoc]; exact this
 | 0, _, [], _ :: _, h, _ => h.elim
 | 0, _, _ :: _, [], h, _ => h.elim
 | 0, _, [], [], _, hl => by simp at hl
 | 0, _, [_], [_], _, hl => by simp at hl
 | 0, _, [_], _ :: _ :: _, h, _ => h.2.2.elim
 | 0, _, _ :: _ :: _, [_], h, _ => h.2.2.elim
 | _ + 1, _, [], _ :: _, h, _ => h.elim
 | _ + 1, _, _ :: _, [], h, _ => h.elim
 | _ + 1, _, [], [], _, hl => by simp at hl
section
variable {prog : Program} {w : World} {A : Around} {E : Value → Shared → Prop} {s : Shared} {κ : SortKind} {kz : Array Keyed} {lt : Keyed → Keyed → Bool} {st : SortSt}
structure Rn (lt : Keyed → Keyed → Bool) (κ : SortKind) (kz : Array Keyed) (v : SortSt) (RS : List (List Keyed)) (rest : List Keyed) : Prop where
 bs : Bs κ kz v
 arr : (arrOf v).toList = RS.flatten ++ rest
 po : PO 0 (pendingOf v).toList RS
 good : ∀ C ∈ RS, 0 < C.length ∧ C.Pairwise (Le lt)
theorem mergeAt_rn {n : Nat} {RS : List (List Keyed)} {rest : List Keyed} {Q : Bool → SortSt → Prop} (O : Ord lt) (c : PureLt prog w A s κ kz lt) (R : Rn lt κ kz st RS rest) (hn : n + 1 < RS.length)
 (q : ∀ v RS', Rn lt κ kz v RS' rest → RS'.length + 1 = RS.length → RS'.flatten.length = RS.flatten.length → Q true v) : wpS (model prog w) A E s (mergeAt' n) Q st := by
 obtain ⟨P1, P2, R1, R2, X, Y, pw, pw', g1, g2, g3, g4, g5⟩ := R.po.split n hn
 subst g2
 rw [Nat.zero_add] at g1
 obtain ⟨hX, sX⟩ := R.good X (by simp)
 obtain ⟨hY, sY⟩ := R.good Y (by simp)
 have ha : (arrOf st).toList = R1.flatten ++ (X ++ Y) ++ (R2.flatten ++ rest) := by rw [R.arr]; simp
 have p1 : (pendingOf st)[n]? = some (R1.flatten.length, X.length, pw) := by
  rw [← Array.getElem?_toList, g1, List.getElem?_append_right (by omega), g3, Nat.sub_self]; rfl
 have p2 : (pendingOf st)[n + 1]? = some (R1.flatten.length + X.length, Y.length, pw') := by
  rw [← Array.getElem?_toList, g1, List.getElem?_append_right (by omega), g3, show n + 1 - n = 1 by omega]; rfl
 refine mergeAt_ok O c R.bs ha hX hY sX sY p1 p2 fun v Z B' e1 e2 e3 e4 => q v (R1 ++ Z :: R2) ⟨B', ?_, ?_, fun C hC => ?_⟩ (by simp; omega) ?_
 · rw [e1]; simp
 · have hz := e2.length_eq
   rw [List.length_append] at hz
   have := g5 Z hz
   rw [Nat.zero_add] at this
   have e : (pendingOf v).toList = P1 ++ (R1.flatten.length, X.length + Y.length, pw) :: P2 := by
    rw [e4]
    simp only [Array.toList_eraseIdxIfInBounds, Array.toList_setIfInBounds, g1]
    rw [List.set_append_right _ _ (by omega), g3, Nat.sub_self, List.set_cons_zero, List.eraseIdx_append_of_length_le (by omega), g3, show n + 1 - n = 1 by omega]
    rfl
   rw [e]; exact this
 · rcases List.mem_append.mp hC with h | h
   · exact R.good C (List.mem_append_left _ h)
   · rcases List.mem_cons.mp h with h | h
     · rw [h]
       refine ⟨?_, e3⟩
       rw [e2.length_eq, List.length_append]; omega
     · exact R.good C (List.mem_append_right _ (.tail _ (.tail _ h)))
 · have hz := e2.length_eq
   rw [List.length_append] at hz
   simp only [List.flatten_append, List.flatten_cons, List.length_append]
   omega
theorem sortRuns_ok {Q : Unit → SortSt → Prop} (O : Ord lt) (c : PureLt prog w A s κ kz lt)
 (q : ∀ v, failedOf v = none → (arrOf v).toList.Perm kz.toList → (arrOf v).toList.Pairwise (Le lt) → Q () v) : wpS (model prog w) A E s sortRuns' Q (SortSt.mk' κ kz #[] 7 none) := by
 rw [sortRuns'_eq]
 refine wpS_bind (wpS_get ?_)
 dsimp only
 have hsz : (arrOf (SortSt.mk' κ kz #[] 7 none)).size = kz.size := rfl
 have hkz : kz.toList.length = kz.size := Array.length_toList
 simp only [hsz]
 generalize minRun' kz.size kz.size 0 = mr
 have R0 : Rn lt κ kz (SortSt.mk' κ kz #[] 7 none) [] kz.toList := ⟨⟨rfl, rfl, List.Perm.refl _⟩, rfl, trivial, fun C hC => (nomatch hC)⟩
 refine wpS_bind (wpS_mono (wpS_forRange (I := fun i r v => ∃ lo RS rest, r = (none, lo) ∧ Rn lt κ kz v RS rest ∧ lo = RS.flatten.length ∧ i ≤ lo)
  (Q := fun r v => ∃ lo RS, r = (none, lo) ∧ Rn lt κ kz v RS []) ?step ?fin ⟨0, [], kz.toList, rfl, R0, rfl, Nat.le_refl _⟩) ?post)
 case fin =>
  rintro r v ⟨lo, RS, rest, rfl, R, hlo, hi⟩
  have hlen := R.bs.perm.length_eq
  rw [R.arr, List.length_append] at hlen
  have : rest = [] := List.length_eq_zero_iff.mp (by have := Nat.le_max_right 0 kz.size; omega)
  subst this
  exact ⟨lo, RS, rfl, R⟩
 case step =>
  rintro i r v _ hi ⟨lo, RS, rest, rfl, R, hlo, hil⟩
  dsimp only
  have hlen := R.bs.perm.length_eq
  rw [R.arr, List.length_append] at hlen
  have push : ∀ (v2 : SortSt) (RS2 : List (List Keyed)) (Z L3 : List Keyed), Bs κ kz v2 → (arrOf v2).toList = RS2.flatten ++ (Z ++ L3) → PO 0 (pendingOf v2).toList RS2 → (∀ C ∈ RS2, 0 < C.length ∧ C.Pairwise (Le lt)) → RS2.flatten.length = lo → 0 < Z.length → Z.Pairwise (Le lt) →
   ∃ lo' RS' rest', ((none : Option Unit), lo + Z.length) = (none, lo') ∧ Rn lt κ kz (setPending v2 ((pendingOf v2).push (lo, Z.length, 0))) RS' rest' ∧ lo' = RS'.flatten.length ∧ i + 1 ≤ lo' := fun v2 RS2 Z L3 B2 a2 p2 g2 l2 hZ sZ => by
   refine ⟨_, RS2 ++ [Z], L3, rfl, ⟨⟨B2.kind, B2.failed, B2.perm⟩, ?_, ?_, fun C hC => ?_⟩, ?_, by omega⟩
   · show (arrOf v2).toList = _
     rw [a2]; simp
   · show PO 0 ((pendingOf v2).push (lo, Z.length, 0)).toList _
     rw [Array.toList_push]
     exact p2.snoc (by omega)
   · rcases List.mem_append.mp hC with h | h
     · exact g2 C h
     · rw [List.mem_singleton.mp h]; exact ⟨hZ, sZ⟩
   · rw [List.flatten_append, List.length_append, show [Z].flatten = Z by simp, l2]
  by_cases hge : lo ≥ kz.size
  · rw [if_pos hge]
    have : rest = [] := List.length_eq_zero_iff.mp (by omega)
    subst this
    exact wpS_pure ⟨lo, RS, rfl, R⟩
  rw [if_neg hge]
  refine wpS_bind (countRun_ok O c R.bs R.arr hlo (by omega) (by omega) fun v1 C D B1 a1 pm sC hC hp1 => ?_)
  dsimp only
  have hcd := pm.length_eq
  rw [List.length_append] at hcd
  by_cases hmr : C.length < mr
  all_goals first
   | (rw [if_pos hmr]
      refine wpS_bind (rule_ok ?_)
      have hfo : C.length ≤ min (kz.size - lo) mr := by omega
      refine wpS_bind (binSort_ok O c B1 (C := C) (D := D.take (min (kz.size - lo) mr - C.length)) (L3 := D.drop (min (kz.size - lo) mr - C.length)) (by rw [a1, List.append_assoc, List.take_append_drop]) hlo rfl hC (by rw [List.length_take]; omega) sC fun v2 Z B2 a2 pz sZ hp2 => ?_)
      simp only [Bool.not_true, Bool.false_eq_true, if_false]
      have hzl : min (kz.size - lo) mr = Z.length := by rw [pz.length_eq, List.length_append, List.length_take]; omega
      rw [hzl]
      have hZ : 0 < Z.length := by omega
      have hpp : pendingOf v2 = pendingOf v := hp2.trans hp1
      generalize hL3 : D.drop (Z.length - C.length) = L3 at a2
      have a2 : (arrOf v2).toList = RS.flatten ++ (Z ++ D.drop (min (kz.size - lo) mr - C.length)) := by assumption
      generalize hL4 : D.drop (min (kz.size - lo) mr - C.length) = L4 at a2)
   | (rw [if_neg hmr]
      have B2 := B1
      have a2 := a1
      have sZ := sC
      have hZ : 0 < C.length := by omega
      have hpp := hp1
      generalize hv2 : v1 = v2 at B2 a2 hpp ⊢
      generalize hZ0 : C = Z at a2 sZ hZ ⊢
      generalize hL4 : D = L4 at a2)
  all_goals
   refine wpS_bind (wpS_get ?_)
   have p2 : PO 0 (pendingOf v2).toList RS := by rw [hpp]; exact R.po
   cases hb : (pendingOf v2).back? with
   | none =>
    dsimp only
    exact wpS_bind (wpS_modify (wpS_pure (push v2 RS Z L4 B2 a2 p2 R.good hlo.symm hZ sZ)))
   | some e =>
    obtain ⟨s1, n1, w1⟩ := e
    dsimp only
    refine wpS_bind (wpS_mono (wpS_forRange (I := fun _ r v => r = (none, ()) ∧ ∃ RS2, Rn lt κ kz v RS2 (Z ++ L4) ∧ RS2.flatten.length = lo) (Q := fun r v => r = (none, ()) ∧ ∃ RS2, Rn lt κ kz v RS2 (Z ++ L4) ∧ RS2.flatten.length = lo) ?mstep (fun _ _ h => h) ⟨rfl, RS, ⟨B2, a2, p2, R.good⟩, hlo.symm⟩) ?mpost)
    case mpost =>
     rintro r v3 ⟨rfl, RS2, R2, hl2⟩
     dsimp only
     refine wpS_bind (wpS_modify (wpS_bind (wpS_modify (wpS_pure ?_))))
     refine push (setPending v3 _) RS2 Z L4 ⟨R2.bs.kind, R2.bs.failed, R2.bs.perm⟩ R2.arr ?_ R2.good hl2 hZ sZ
     show PO 0 ((pendingOf v3).modify _ _).toList RS2
     rw [Array.toList_modify]
     refine PO.modify ?_ _ R2.po
     exact fun e => ⟨rfl, rfl⟩
    case mstep =>
     rintro j r v3 _ _ ⟨rfl, RS2, R2, hl2⟩
     refine wpS_bind (wpS_get ?_)
     have hpl := R2.po.len
     rw [Array.length_toList] at hpl
     by_cases hps : (pendingOf v3).size > 1
     · rw [if_pos hps]
       obtain ⟨e2, he2⟩ : ∃ e2, (pendingOf v3)[(pendingOf v3).size - 2]? = some e2 := ⟨(pendingOf v3)[(pendingOf v3).size - 2]'(by omega), by simp⟩
       rw [he2]
       obtain ⟨x1, x2, x3⟩ := e2
       dsimp only
       split
       · exact wpS_pure ⟨rfl, RS2, R2, hl2⟩
       · refine wpS_bind (mergeAt_rn O c R2 (by omega) fun v4 RS4 R4 _ h4 => ?_)
         simp only [Bool.not_true, Bool.false_eq_true, if_false]
         exact wpS_pure ⟨rfl, RS4, R4, by omega⟩
     · rw [if_neg hps]
       exact wpS_pure ⟨rfl, RS2, R2, hl2⟩
 case post =>
  rintro r v ⟨lo, RS, rfl, R⟩
  dsimp only
  have hlen := R.bs.perm.length_eq
  rw [R.arr, List.append_nil] at hlen
  have few : ∀ (l : List (List Keyed)), (∀ C ∈ l, 0 < C.length) → l.length ≤ l.flatten.length := fun l => by
   induction l with
   | nil => intro _; exact Nat.le_refl _
   | cons C l ih =>
    intro h
    have := ih fun x hx => h x (.tail _ hx)
    have := h C (.head _)
    rw [List.flatten_cons, List.length_append, List.length_cons]; omega
  have hRS := few RS fun C hC => (R.good C hC).1
  refine wpS_bind (wpS_mono (wpS_forRange (I := fun i r v => r = (none, ()) ∧ ∃ RS2, Rn lt κ kz v RS2 [] ∧ (RS2.length ≤ 1 ∨ RS2.length + i ≤ kz.size)) (Q := fun r v => r = (none, ()) ∧ ∃ RS2, Rn lt κ kz v RS2 [] ∧ RS2.length ≤ 1) ?step2 ?fin2 ⟨rfl, RS, R, .inr (by omega)⟩) ?post2)
  case fin2 =>
   rintro r v2 ⟨rfl, RS2, R2, h⟩
   refine ⟨rfl, RS2, R2, ?_⟩
   have := Nat.le_max_right 0 kz.size
   omega
  case post2 =>
   rintro r v2 ⟨rfl, RS2, R2, h⟩
   dsimp only
   refine wpS_pure (q v2 R2.bs.failed R2.bs.perm ?_)
   rw [R2.arr, List.append_nil]
   match RS2, R2.good, h with
   | [], _, _ => exact List.Pairwise.nil
   | [C], g, _ => simpa using (g C (.head _)).2
   | _ :: _ :: _, _, h => simp at h
  case step2 =>
   rintro i r v2 _ _ ⟨rfl, RS2, R2, h⟩
   refine wpS_bind (wpS_get ?_)
   have hpl := R2.po.len
   rw [Array.length_toList] at hpl
   by_cases hps : (pendingOf v2).size ≤ 1
   · rw [if_pos hps]
     exact wpS_pure ⟨rfl, RS2, R2, by omega⟩
   · rw [if_neg hps]
     refine wpS_bind (mergeAt_rn O c R2 ?_ fun v4 RS4 R4 h3 _ => ?_)
     · have le : ∀ (b : Bool) (n : Nat), (if b = true then n - 1 else n) ≤ n := fun b n => by split <;> omega
       refine Nat.lt_of_le_of_lt (Nat.add_le_add_right (le _ _) 1) ?_
       omega
     · simp only [Bool.not_true, Bool.false_eq_true, if_false]
       exact wpS_pure ⟨rfl, RS4, R4, by omega⟩
end
end Tim
theorem perm_lift {α β : Type} (f : α → β) {l m : List β} (h : l.Perm m) : ∀ {zs : List α}, zs.map f = m → ∃ zs' : List α, zs'.Perm zs ∧ zs'.map f = l := by
 induction h with
 | nil => simp
 | cons x _ ih =>
  intro zs e
  cases zs with
  | nil => cases e
  | cons z zs =>
   injection e with e1 e2
   obtain ⟨zs', h1, h2⟩ := ih e2
   exact ⟨z :: zs', h1.cons z, by simp_all⟩
 | swap x y l =>
  intro zs e
  cases zs with
  | nil => cases e
  | cons a zs =>
   cases zs with
   | nil => cases e
   | cons b zs =>
    exact ⟨b :: a :: zs, List.Perm.swap a b zs, by simp_all⟩
 | trans _ _ i1 i2 =>
  intro zs e
  obtain ⟨z1, h1, h2⟩ := i2 e
  obtain ⟨z2, h3, h4⟩ := i1 h2
  exact ⟨z2, h3.trans h1, h4⟩
theorem lexLt_total : ∀ a b : List Int, HT.lexLt a b = true ∨ a = b ∨ HT.lexLt b a = true
 | [], [] => .inr (.inl rfl)
 | [], _ :: _ => .inl rfl
 | _ :: _, [] => .inr (.inr rfl)
 | x :: a, y :: b => by
  rw [HT.lexLt_cons, HT.lexLt_cons]
  by_cases e : x = y
  · subst e
    rw [if_pos rfl, if_pos rfl]
    rcases lexLt_total a b with h | h | h
    · exact .inl h
    · exact .inr (.inl (by rw [h]))
    · exact .inr (.inr h)
  · rw [if_neg e, if_neg (fun z => e z.symm)]
    rcases Int.lt_or_lt_of_ne e with h | h
    · exact .inl (decide_eq_true h)
    simp_all
theorem lexLt_tr : ∀ {a b c : List Int}, HT.lexLt a b = true → HT.lexLt b c = true → HT.lexLt a c = true
 | [], [], _, h, _ => by omega
 | [], _ :: _, [], _, h => by cases h
 | [], _ :: _, _ :: _, _, _ => rfl
 | _ :: _, [], _, h, _ => by cases h
 | _ :: _, _ :: _, [], _, h => by cases h
 | x :: a, y :: b, z :: c, h1, h2 => by
  rw [HT.lexLt_cons] at h1 h2 ⊢
  by_cases e1 : x = y
  · rw [if_pos e1] at h1
    by_cases e2 : y = z
    · rw [if_pos e2] at h2
      rw [if_pos (e1.trans e2)]; exact lexLt_tr h1 h2
    grind
  grind
theorem lexLt_irr : ∀ a : List Int, HT.lexLt a a = false
 | [] => rfl
 | x :: a => by rw [HT.lexLt_cons, if_pos rfl]; exact lexLt_irr a
theorem lexLt_asy (h : HT.lexLt a b = true) : HT.lexLt b a = false := by
 cases e : HT.lexLt b a with
 | false => rfl
 | true => have := lexLt_tr h e; rw [lexLt_irr] at this; grind
theorem ord_lex (key : Keyed → List Int) : Tim.Ord fun x y => HT.lexLt (key x) (key y) :=
 ⟨fun a => lexLt_irr _, fun a b h => lexLt_asy h, fun a b c h1 h2 => by
  cases e : HT.lexLt _ _ with
  | false => rfl
  | true =>
   rcases lexLt_total _ (key b) with h | h | h
   · have := lexLt_tr e h; simp_all
   · grind
   grind⟩
theorem ord_int (key : Keyed → Int) : Tim.Ord fun x y => decide (key x < key y) :=
 ⟨fun a => decide_eq_false (by omega), fun a b h => by grind, fun a b c h1 h2 => by grind⟩
theorem pairs_map {α : Type} (g : α → Value) : ∀ l : List α, (pairsOf (l.map g)).toList = l.map fun z => ((g z, g z) : Keyed)
 | [] => by rw [pairsOf_toList]; rfl
 | z :: l => by
  have ih := pairs_map g l
  rw [pairsOf_toList] at ih ⊢
  grind
section
theorem sorted_gen {α : Type} {p : Addr} {zs : List α} {f : α → V} {g : α → Value} {pins : List (Addr × Obj)} {s : Shared} {σ : L2.St} {H : Hp} {Q : VK} (lt : Keyed → Keyed → Bool) (O : Tim.Ord lt) (I : Inv X pins σ H s) (each : ∀ z ∈ zs, RelV (f z) (g z))
 (hob : ∃ (o : Obj) (T : String) (cn : Nat), (T = "list" ∨ T = "tuple") ∧ s.heap.get? p = some o ∧ o.cls = .type T ∧ o.data = .seq (zs.map g).toArray cn ∧ zs.length ≤ sizeLine)
 (hk : 2 ≤ zs.length → ∀ h6 : Heap, (∀ b o, H b ≠ none → s.heap.get? b = some o → h6.get? b = some o) → ∃ κ, (∀ Q : SortKind → Shared → Prop, ∀ E, Q κ { s with heap := h6 } → wpAny (model X.prog X.w) X.A.in1.in1 (keyKind' (zs.map g).toArray) Q E { s with heap := h6 }) ∧ PureLt X.prog X.w X.A.in1.in1 { s with heap := h6 } κ (pairsOf (zs.map g)) lt)
 (q : ∀ (l : Addr) (ys : List α) (H' : Hp), H l = none → L2.Same H H' → H' l = some (.lst (ys.map f)) → ys.Perm zs → (ys.map fun z => ((g z, g z) : Keyed)).Pairwise (Tim.Le lt) → Q (.ref l) H') :
 wpAny (model X.prog X.w) X.A (call (.builtin "sorted") [.ref p]) (EP X pins σ Q) X.xe s := by
 have hsz : (sizeLine : Nat) = 16777216 := sizeLine_eq
 obtain ⟨o, T, cn, hT, ho, hcl, hdt, hzz⟩ := hob
 refine Calls.call_function_entry kind_sorted plain_sorted entry_sorted (args_sorted1 _) ?_
 unfold Builtin.«sorted»
 refine wpAny_bind (m := checkCount "sorted" 1 1 _) (wpAny_pure ?_)
 refine wpAny_bind (wpAny_collect_seq p hT ho hcl hdt (fun h' hk' => ?_) (by rw [List.size_toArray, List.length_map]; omega))
 have eI : ((zs.map g).toArray).toList = zs.map g := by simp
 rw [eI]
 refine wpAny_bind (wpAny_newList ?_ (by rw [List.length_map]; omega))
 have hoL : (h'.push (seqObj "list" (zs.map g).toArray 0)).get? h'.objs.size = some (seqObj "list" (zs.map g).toArray 0) := Heap.get?_push_size _ rfl
 have I1 : Inv X pins σ H { s with heap := h' } := I.kept (t' := s.toks) hk'
 have hfr : H h'.objs.size = none := I1.hok.fresh (Nat.le_refl _)
 refine wpAny_bind (wpAny_holding (wpAny_call_entry slot_list_sort ⟨_, hoL, rfl⟩ entry_list_sort (sort_any (R := fun out => ∃ ys : List α, out = (ys.map g).toArray ∧ ys.Perm zs ∧ (ys.map fun z => ((g z, g z) : Keyed)).Pairwise (Tim.Le lt)) hoL (by rw [List.length_map]; omega) (fun h1 => ⟨zs, rfl, List.Perm.refl _, ?_⟩) (fun h2 h6 old => ?_) fun out ho ⟨ys, hR, hp, hs⟩ => ⟨_, rfl, ?_⟩) (args_list_sort _)))
 · rw [List.length_map] at h1
   match zs, h1 with
   | [], _ => exact List.Pairwise.nil
   | [_], _ => exact List.pairwise_singleton _ _
   | _ :: _ :: _, h => simp at h; omega
 · rw [List.length_map] at h2
   obtain ⟨κ, k1, k2⟩ := hk h2 h6 fun b o hb e => old b o (fun z => hb (by rw [z]; exact hfr)) (Heap.get?_push_of_some _ (hk' b o e))
   refine k1 _ _ ⟨rfl, ?_⟩
   refine Tim.sortRuns_ok O k2 fun v e1 e2 e3 => ⟨e1, ?_, ?_⟩
   · have := e2.length_eq
     rw [Array.length_toList, pairsOf_toList, List.length_zip] at this
     omega
   · have e := pairs_map g zs
     rw [e] at e2
     obtain ⟨ys, h3, h4⟩ := perm_lift (fun z => ((g z, g z) : Keyed)) e2 rfl
     refine ⟨ys, ?_, h3, by rw [h4]; exact e3⟩
     apply Array.toList_inj.mp
     rw [Array.toList_map, ← h4, List.map_map]; simp
 · refine wpAny_pure ⟨_, rfl, ?_⟩
   subst hR
   obtain ⟨n', e'⟩ : ∃ n', (sortedHeap (h'.push (seqObj "list" (zs.map g).toArray 0)) h'.objs.size (zs.map g) (ys.map g).toArray).get? h'.objs.size = some (seqObj "list" (ys.map g).toArray n') := sortedHeap_at hoL
   have keep : ∀ b o, h'.get? b = some o → (sortedHeap (h'.push (seqObj "list" (zs.map g).toArray 0)) h'.objs.size (zs.map g) (ys.map g).toArray).get? b = some o := fun b o e => by
    have hb := Heap.lt_size e
    rw [sortedHeap_old (Nat.ne_of_lt hb) (by rw [Heap.size_push]; exact Nat.lt_succ_of_lt hb)]
    exact Heap.get?_push_of_some _ e
   have vals : ∀ {l : List α}, (∀ z ∈ l, RelV (f z) (g z)) → Vals (l.map f) (l.map g) := fun {l} => by
    induction l with
    | nil => exact fun _ => .nil
    | cons a l ih => exact fun h => .cons (h a (.head _)) (ih fun z hz => h z (.tail _ hz))
   have I2 : Inv X pins σ (upd H h'.objs.size (.lst (ys.map f))) { s with heap := sortedHeap (h'.push (seqObj "list" (zs.map g).toArray 0)) h'.objs.size (zs.map g) (ys.map g).toArray } :=
    I1.laid (t' := s.toks) keep (Nat.le_refl _) (show ObjOk X.prog X.w _ _ _ (.lst (ys.map f)) from ⟨by rw [List.length_map, hp.length_eq]; exact hzz, ys.map g, n', vals fun z hz => each z (hp.mem_iff.mp hz), e'⟩)
   exact ⟨.ref h'.objs.size, _, I2, rfl, q _ ys _ hfr (Br.Same.upd hfr) upd_same hp hs⟩
theorem seq_obj {σ : L2.St} (I : Inv X pins σ H s) (hq : SqL X.K H p xs ∨ SqT X.K H p xs) : ∃ (its : List Value) (o : Obj) (T : String) (cn : Nat), Vals xs its ∧ (T = "list" ∨ T = "tuple") ∧ s.heap.get? p = some o ∧ o.cls = .type T ∧ o.data = .seq its.toArray cn ∧ xs.length ≤ sizeLine := by
 rcases hq with hq | hq
 · obtain ⟨its, r', pl, hz⟩ := I.list hq
   obtain ⟨o, ho, hc, n, hd⟩ := pl.isList
   exact ⟨its, o, "list", n, r', .inl rfl, ho, hc, hd, hz⟩
 · obtain ⟨its, r', ⟨o, ho, hc, n, hd⟩, hz⟩ := I.tuple hq
   exact ⟨its, o, "tuple", n, r', .inr rfl, ho, hc, hd, hz⟩
def rSortI (K : PySem.W.Frag) : List V → Hp → VK → Prop := fun xs H Q => ∃ (p : Addr) (ns : List Int), xs = [.ref p] ∧ (SqL K H p (ns.map V.int) ∨ SqT K H p (ns.map V.int)) ∧
 ∀ (l : Addr) (ms : List Int) (H' : Hp), H l = none → L2.Same H H' → H' l = some (.lst (ms.map V.int)) → ms.Perm ns → ms.Pairwise (· ≤ ·) → Q (.ref l) H'
theorem call_sortI : CallR X (.builtin "sorted") (rSortI X.K) := by
 intro pins s σ H xs us Q I r h
 obtain ⟨p, ns, e1, hq, q⟩ := h
 subst e1
 obtain ⟨u, rfl, rx⟩ := vals1 r
 cases rx
 obtain ⟨its, o, T, cn, rv, hT, ho, hcl, hd, hz⟩ := seq_obj I hq
 obtain ⟨zs, hzs1, hzs2⟩ : ∃ zs : List (Int × Tok), zs.map (·.1) = ns ∧ zs.map (fun z => Value.int z.1 z.2) = its := by
  clear hd hz hq q
  induction ns generalizing its with
  | nil => cases rv; exact ⟨[], rfl, rfl⟩
  | cons n ns ih =>
   cases rv with
   | cons r rr =>
    obtain ⟨t, rfl⟩ := r
    obtain ⟨zs, h1, h2⟩ := ih _ rr
    exact ⟨(n, t) :: zs, by rw [List.map_cons, h1], by rw [List.map_cons, h2]⟩
 subst hzs1 hzs2
 refine sorted_gen (α := Int × Tok) (zs := zs) (f := fun z => .int z.1) (g := fun z => .int z.1 z.2) (fun x y => decide (numOf x.1 < numOf y.1)) (ord_int fun x => numOf x.1) I (fun z _ => ⟨z.2, rfl⟩) ⟨o, T, cn, hT, ho, hcl, hd, by simpa using hz⟩ (fun h2 h6 _ => ⟨oneType', fun Q E hQ => ?_, fun x y hx hy Q E hQ => ?_⟩) fun l ys H' n1 s1 e1 hp hs => ?_
 · match zs, h2 with
   | z1 :: z2 :: zr, _ =>
    have ii : ∀ l : List (Int × Tok), IntsAre (l.map fun z => Value.int z.1 z.2) (l.map (·.1)) := fun l => by
     induction l with
     | nil => exact .nil
     | cons z l ih => exact .cons _ _ ih
    rw [List.map_cons, List.map_cons, keyKind_ints (ii (z1 :: z2 :: zr))]
    exact wpAny_pure hQ
   | [], h => simp at h
   | [_], h => simp at h
 · rw [pairs_map] at hx hy
   obtain ⟨z1, _, e1⟩ := List.mem_map.mp hx
   obtain ⟨z2, _, e2⟩ := List.mem_map.mp hy
   rw [← e1, ← e2] at hQ ⊢
   rw [keyLt'_oneType]
   exact oneLt_int hQ
 · refine q l (ys.map (·.1)) H' n1 s1 ?_ (hp.map _) ?_
   · rw [e1, List.map_map]; rfl
   · rw [List.pairwise_map] at hs ⊢
     exact hs.imp fun {a b} h => by have := of_decide_eq_false h; exact Int.not_lt.mp this
def rSortU (K : PySem.W.Frag) : List V → Hp → VK → Prop := fun xs H Q => ∃ (p : Addr) (as : List Addr) (ws : List (List Int)), xs = [.ref p] ∧ (SqL K H p (as.map V.ref) ∨ SqT K H p (as.map V.ref)) ∧ as.length = ws.length ∧ (∀ (i : Nat) a, as[i]? = some a → ∃ w, ws[i]? = some w ∧ H a = some (.tup (w.map V.int))) ∧
 (2 ≤ ws.length → ∀ w ∈ ws, w ≠ []) ∧ ∀ (l : Addr) (bs : List Addr) (us : List (List Int)) (H' : Hp), H l = none → L2.Same H H' → H' l = some (.lst (bs.map V.ref)) → (bs.zip us).Perm (as.zip ws) → bs.length = us.length → us.Pairwise (fun u v => HT.lexLt v u = false) → Q (.ref l) H'
theorem call_sortU : CallR X (.builtin "sorted") (rSortU X.K) := by
 intro pins s σ H xs us Q I r h
 obtain ⟨p, as, ws, e1, hq, hlen, hat, hne, q⟩ := h
 subst e1
 obtain ⟨u, rfl, rx⟩ := vals1 r
 cases rx
 obtain ⟨its, o, T, cn, rv, hT, ho, hcl, hd, hz⟩ := seq_obj I hq
 have hits : its = (as.zip ws).map (fun z => Value.ref z.1) := by
  rw [vals_refs rv]
  have : (as.zip ws).map (·.1) = as := List.map_fst_zip (by omega)
  calc as.map Value.ref = ((as.zip ws).map (·.1)).map Value.ref := by rw [this]
   _ = _ := by rw [List.map_map]; rfl
 have hzl : (as.zip ws).length = as.length := by rw [List.length_zip]; omega
 have each : ∀ z ∈ as.zip ws, H z.1 = some (.tup (z.2.map V.int)) ∧ z.2 ∈ ws := fun z hz => by
  obtain ⟨i, hi, e⟩ := List.getElem_of_mem hz
  have e' : (as.zip ws)[i]? = some z := by rw [List.getElem?_eq_getElem hi, e]
  rw [List.getElem?_zip_eq_some] at e'
  obtain ⟨w, h1, h2⟩ := hat i z.1 e'.1
  rw [e'.2] at h1; cases h1
  exact ⟨h2, List.mem_of_getElem? e'.2⟩
 subst hits
 refine sorted_gen (α := Addr × List Int) (zs := as.zip ws) (f := fun z => .ref z.1) (g := fun z => .ref z.1) (fun x y => HT.lexLt (tkey H x.1) (tkey H y.1)) (ord_lex fun x => tkey H x.1) I (fun z _ => rfl) ⟨o, T, cn, hT, ho, hcl, hd, by rw [List.length_map] at hz; omega⟩ (fun h2 h6 old => ?_) fun l ys H' n1 s1 e1 hp hs => ?_
 · rw [hzl] at h2
   have tup : ∀ z ∈ as.zip ws, ∃ its : List Value, IntsAre its z.2 ∧ IsTup h6 z.1 its.toArray := fun z hz => by
    obtain ⟨its, rt, ⟨o, ho, hc, n, hd⟩, _⟩ := I.tuple (SqT.of (each z hz).1)
    exact ⟨its, vals_ints rt, o, old z.1 o (by rw [(each z hz).1]; exact fun z => nomatch z) ho, hc, n, hd⟩
   have kt : ∀ l : List (Addr × List Int), (∀ z ∈ l, z ∈ as.zip ws) → ∃ fs : List Value, PySem.W.KatTups h6 (l.map fun z => Value.ref z.1) fs ∧ fs.length = l.length ∧ ∀ v ∈ fs, ∃ n t, v = Value.int n t := fun l => by
    induction l with
    | nil => exact fun _ => ⟨[], trivial, rfl, fun v hv => nomatch hv⟩
    | cons a l ih =>
     intro hl
     obtain ⟨fs, f1, f2, f3⟩ := ih fun b hb => hl b (.tail _ hb)
     obtain ⟨its, hi, o, ho, hc, n, hd⟩ := tup a (hl a (.head _))
     have hnn := hne (by omega) a.2 (each a (hl a (.head _))).2
     obtain ⟨aa, aw⟩ := a
     cases hi with
     | nil => exact absurd rfl hnn
     | cons n0 t0 r0 => exact ⟨.int n0 t0 :: fs, PySem.W.KatTups.cons ho hc hd (by simp) f1, by simp [f2], fun v hv => by
      rcases List.mem_cons.mp hv with z | z
      · exact ⟨_, _, z⟩
      · exact f3 v z⟩
   obtain ⟨fs, f1, f2, f3⟩ := kt (as.zip ws) fun _ h => h
   refine ⟨tuples' true, fun Q E hQ => PySem.W.kat_kind (T := .type "int") f1 (by omega) (fun v hv => by obtain ⟨n, t, rfl⟩ := f3 v hv; exact .now) (by decide) hQ, fun x y hx hy Q E hQ => ?_⟩
   rw [pairs_map] at hx hy
   obtain ⟨z1, m1, e1⟩ := List.mem_map.mp hx
   obtain ⟨z2, m2, e2⟩ := List.mem_map.mp hy
   obtain ⟨it1, i1, o1, ho1, _, n1, hd1⟩ := tup z1 m1
   obtain ⟨it2, i2, o2, ho2, _, n2, hd2⟩ := tup z2 m2
   rw [← e1, ← e2] at hQ ⊢
   have hQ : Q (HT.lexLt (tkey H (.ref z1.1)) (tkey H (.ref z2.1))) _ := hQ
   rw [tkey_of (each z1 m1).1, tkey_of (each z2 m2).1] at hQ
   refine PySem.W.kat_lt ho1 hd1 ho2 hd2 (katLex_ints rfl ?_ ?_ ?_ hQ)
   · simpa using i1
   · simpa using i2
   · have := i1.length; have := i2.length; simp; omega
 · refine q l (ys.map (·.1)) (ys.map (·.2)) H' n1 s1 ?_ ?_ (by rw [List.length_map, List.length_map]) ?_
   · rw [e1, List.map_map]; rfl
   · have : (ys.map (·.1)).zip (ys.map (·.2)) = ys := by
      clear hp hs e1
      induction ys with
      | nil => rfl
      | cons y ys ih => rw [List.map_cons, List.map_cons, List.zip_cons_cons, ih]
     rw [this]; exact hp
   · rw [List.pairwise_map] at hs ⊢
     refine List.Pairwise.imp_of_mem (fun {a b} ha hb h => ?_) hs
     have h : HT.lexLt (tkey H (.ref b.1)) (tkey H (.ref a.1)) = false := h
     rw [tkey_of (each b (hp.mem_iff.mp hb)).1, tkey_of (each a (hp.mem_iff.mp ha)).1] at h
     exact h
end
section
variable {K : PySem.W.Frag} (hg : Gl X x) (he : starEach (e :: es) X.env = (false, eval e X.env) :: starEach es X.env) (hpl : (backTo pos (starEach es X.env)).any (·.1) = false)
include hg he hpl
theorem k_sortedI (hK : X.K = K) (hx : x = "sorted") (hc : X.calm = true) (hm : X.mg x = none) (ha : JA X (e :: es) t) : JE X (.Call (.Name x p) (e :: es) [] pos) (tCB (fun xs H Q => rSortD xs H Q ∨ rSortI K xs H Q) t) := hK ▸ ⟨by subst hx; exact pe_callB ((call_sortD hc).or call_sortI) hg hm boot_sorted ha.h (by decide) (by decide) he hpl⟩
theorem k_sortedU (hK : X.K = K) (hx : x = "sorted") (hm : X.mg x = none) (ha : JA X (e :: es) t) : JE X (.Call (.Name x p) (e :: es) [] pos) (tCB (rSortU K) t) := hK ▸ ⟨by subst hx; exact pe_callB call_sortU hg hm boot_sorted ha.h (by decide) (by decide) he hpl⟩
end
end Br
namespace Br
namespace ZL
open PySem PySem.Spec PySem.Calls PyProof.Rows L2
theorem entry_li : entryFor table "list_iterator.__next__" = some Builtin.«list_iterator.__next__» := by rfl
theorem args_li (a : Value) : argsOk "list_iterator.__next__" { pos := [a] } := by first | rfl | decide +kernel | exact ⟨rfl⟩ | (constructor <;> rfl)
theorem slot_li : Slot "list_iterator" (Str.ofString "__next__") "list_iterator.__next__" := Slot.of (by rw [typeLookup_type, builtinLookup_eq_fast]; rfl) (by rfl) (by rfl) (by rfl) (.inl (by rfl)) (by rw [isSubtype_type]; rfl)
section
theorem tstep {c d : Addr} {k : Nat} {zs : Array Value} {v : Value} {Q : Value → Shared → Prop} (hI : s.heap.IsListIter c d k) (hT : s.heap.IsList d zs) (hv : zs[k]? = some v)
 (go : ∀ g, g.IsListIter c d (k + 1) → Heap.SameBut c s.heap g → Q v { s with heap := g }) : wpAny (model prog w) A (Builtin.«list_iterator.__next__» ⟨[.ref c], []⟩) (fun fin s' => ∃ u, fin = .done (.ret u) ∧ Q u s') E s := by
 have hI' := hI
 obtain ⟨oc, q1, q2, q3⟩ := hI'
 have hT' := hT
 obtain ⟨od, p1, _, nd, p3⟩ := hT'
 have at_ : zs[((k : Nat) : Int).toNat]? = some v := by simpa using hv
 wp_walk using wpAny_field q1 q3 (x := .ref d) rfl, wpAny_field q1 q3 (x := .int k 0) rfl, wpAny_seqItems p1 p3
 rw [at_]
 refine wpAny_bind (tsetAt q1 q3 (by simp) fun g o' a1 a2 a3 sb => ?_)
 wp_walk
 exact ⟨_, rfl, go g ⟨o', a1, a2.trans q2, by rw [a3]; simp [rawInt]⟩ sb⟩
theorem tstop {c d : Addr} {k : Nat} {zs : Array Value} {Q : PySem.Fin → Shared → Prop} (hh : A.handled = none) (hI : s.heap.IsListIter c d k) (hT : s.heap.IsList d zs) (hv : zs[k]? = none)
 (go : ∀ g e, Heap.ExtBut c s.heap g → (∃ o, g.get? e = some o ∧ o.cls = .type "StopIteration") → E (.ref e) { s with heap := g }) : wpAny (model prog w) A (Builtin.«list_iterator.__next__» ⟨[.ref c], []⟩) Q E s := by
 have hI' := hI
 obtain ⟨oc, q1, q2, q3⟩ := hI'
 have hT' := hT
 obtain ⟨od, p1, _, nd, p3⟩ := hT'
 have at_ : zs[((k : Nat) : Int).toNat]? = none := by simpa using hv
 wp_walk using wpAny_field q1 q3 (x := .ref d) rfl, wpAny_field q1 q3 (x := .int k 0) rfl, wpAny_seqItems p1 p3
 rw [at_]
 refine wpAny_bind (wpAny_rule (wpAny_bind (tsetAt q1 q3 (by simp) fun g o' a1 a2 a3 sb => ?_)))
 wp_walk
 unfold raiseNew
 wp_walk using wpAny_handled
 rw [hh]
 wp_walk
 exact go _ _ ((sb.extBut.push _).push _) ⟨_, Heap.get?_push_size _ rfl, rfl⟩
theorem tnext {c d : Addr} {k : Nat} {zs : Array Value} {v : Value} {Q : Value → Shared → Prop} (hI : s.heap.IsListIter c d k) (hT : s.heap.IsList d zs) (hv : zs[k]? = some v)
 (go : ∀ g, g.IsListIter c d (k + 1) → Heap.SameBut c s.heap g → Q v { s with heap := g }) : wpAny (model prog w) A (Builtin.SmallTypes.nextOf (.ref c)) Q E s := by
 have sl := slot_li
 unfold Builtin.SmallTypes.nextOf
 refine wpAny_bind (wpAny_callSpecial?_slot (name := Str.ofString "__next__") hI.typeIs sl (wpAny_call_entry sl hI.typeIs entry_li ?_ (args_li _)))
 exact wpAny_mono (tstep (Q := fun u s' => u = v ∧ Q v s') hI hT hv fun g a b => ⟨rfl, go g a b⟩) (fun fin s' ⟨u, e, e2, q⟩ => ⟨u, e, wpAny_pure (e2 ▸ q)⟩) fun _ _ z => z
theorem tnone {c d : Addr} {k : Nat} {zs : Array Value} {Q : Value → Shared → Prop} (hh : A.handled = none) (hI : s.heap.IsListIter c d k) (hT : s.heap.IsList d zs) (hv : zs[k]? = none)
 (go : ∀ g e, Heap.ExtBut c s.heap g → (∃ o, g.get? e = some o ∧ o.cls = .type "StopIteration") → E (.ref e) { s with heap := g }) : wpAny (model prog w) A (Builtin.SmallTypes.nextOf (.ref c)) Q E s := by
 have sl := slot_li
 unfold Builtin.SmallTypes.nextOf
 refine wpAny_bind (wpAny_callSpecial?_slot (name := Str.ofString "__next__") hI.typeIs sl (wpAny_call_entry sl hI.typeIs entry_li ?_ (args_li _)))
 exact tstop hh hI hT hv go
structure Zp (h : Heap) (z u o c1 c2 d e : Addr) (xs ys : Array Value) (k : Nat) : Prop where
 zip : IsZip h z u o .none
 its : IsPair h u (.ref c1) (.ref c2)
 own : ∃ a b, IsPair h o a b
 i1 : h.IsListIter c1 d k
 i2 : h.IsListIter c2 e k
 t1 : h.IsList d xs
 t2 : h.IsList e ys
structure Ap (z u o c1 c2 d e : Addr) : Prop where
 ne : [z, u, o, c1, c2].Nodup
 nd : ∀ b ∈ [z, u, o, c1, c2], d ≠ b ∧ e ≠ b
end
theorem sqL_apart {X : Cx} {pins : List (Addr × Obj)} {σ : L2.St} {H : Hp} {s : Shared} {d b : Addr} {xs : List V} (I : Inv X pins σ H s) (h : SqL X.K H d xs) (f : FpOk X pins H b) : d ≠ b := fun z => by
 subst z
 rcases h with h | ⟨o, its, n, hk, _⟩
 · rcases h with h | ⟨o, h⟩
   · rw [f.1] at h; cases h
   · rw [f.1] at h; cases h
 · have e := I.ok.mod.kin d o hk
   rcases f.2.2.2.1 with z | z
   · exact I.ok.noex d o e z
   · exact absurd (Nat.lt_of_lt_of_le (Heap.lt_size e) (Nat.le_trans I.ok.bsz z)) (Nat.lt_irrefl _)
end ZL
end Br
namespace Br
open PySem PySem.Spec PySem.Calls PyProof.Rows L2
theorem tl_keys : typeLookup (.type "tuple") (Str.ofString "keys") = pure none := by rw [typeLookup_type, builtinLookup_eq_fast]; rfl
theorem ti_ga {s : Shared} : s.TypeIs (.builtin "tuple.__getattribute__") "wrapper_descriptor" := by rfl
theorem noKeys {prog : Program} {w : World} {A : Around} {E : Value → Shared → Prop} {s : Shared} {t : Addr} {xs : Array Value} {n : Nat} {Q : Option Value → Shared → Prop} (hh : A.handled = none) (ho : s.heap.get? t = some { cls := .type "tuple", data := .seq xs n })
 (go : ∀ h' tk, (∀ b o, s.heap.get? b = some o → h'.get? b = some o) → Q none { s with heap := h', toks := tk }) : wpAny (model prog w) A (getAttr? (.ref t) (Str.ofString "keys")) Q E s := by
 obtain ⟨hp, g, dr, tk, os⟩ := s
 have ho : hp.get? t = some { cls := .type "tuple", data := .seq xs n } := ho
 unfold getAttr?
 refine wpAny_bind (wpAny_mkText ?_)
 unfold getAttrBy?
 refine wpAny_bind (wpAny_attempt ?_)
 unfold getAttrBy
 refine wpAny_holding ?_
 refine wpAny_bind (wpAny_typeOf (T := "tuple") ⟨_, ho, rfl⟩ ?_)
 rw [F.slot_tuple_getattribute.lookup]
 refine wpAny_bind (wpAny_pure ?_)
 show wpAny _ _ (if _ then _ else _) _ _ _
 rw [if_neg (by decide)]
 unfold getAttrByItsOwn
 wp_walk
 unfold bindSpecial
 refine wpAny_bind (wpAny_typeOf (T := "wrapper_descriptor") ti_ga ?_)
 show wpAny _ _ (if _ then _ else _) _ _ _
 rw [if_pos (by decide)]
 refine wpAny_pure ?_
 show wpAny _ _ (call (.builtin "tuple.__getattribute__") [.ref t, _]) _ _ _
 refine wpAny_call_entry F.slot_tuple_getattribute ⟨_, ho, rfl⟩ am_entry_tuple_getattribute ?_ (F.args_tuple_getattribute_2 _ _)
 show wpAny _ _ (Builtin.ObjectAttr.attrName _ >>= _) _ _ _
 refine wpAny_bind ?_
 wp_walk
 rw [tl_keys]
 wp_walk
 refine wpAny_raiseAttrError (A := A.in1) hh fun h' tk' e ne => ?_
 have hT : ∃ ob, h'.get? e = some ob ∧ ob.cls = .type "AttributeError" := let ⟨_, _, a⟩ := ne.there; ⟨_, a, rfl⟩
 show wpAny _ _ (getattributeRaised _ _ _ _ _ _ _) _ _ _
 unfold getattributeRaised
 refine wpAny_bind (wpAny_isInstance (T := "AttributeError") (b := true) hT (by rw [isSubtype_type]; rfl) ?_)
 rw [if_pos rfl]
 unfold hookBehind
 rw [if_neg (by decide), F.plainAttrs_tuple.noGetattr]
 refine wpAny_bind (wpAny_pure ?_)
 unfold hookOrError
 unfold attributeErrorLeaves
 show wpAny _ _ (if (!false) = true then throw _ >>= _ else _) _ _ _
 rw [if_pos (show (!false) = true from rfl)]
 refine wpAny_bind (wpAny_throw ?_)
 refine wpAny_bind (wpAny_isInstance (T := "AttributeError") (b := true) hT (by rw [isSubtype_type]; rfl) ?_)
 rw [if_pos rfl]
 exact wpAny_pure (go h' tk' ne.keeps)
theorem entry_dul : entryFor table "dict.update.loop" = some Builtin.«dict.update.loop» := by rfl
theorem plain_dul : plainId "dict.update.loop" = true := by decide +kernel
section
structure Prs (h : Heap) (t : Addr) (ps : List (Addr × Value × Key × Value)) : Prop where
 tup : h.IsTuple t (ps.map fun p => Value.ref p.1).toArray
 each : ∀ p ∈ ps, h.IsTuple p.1 #[p.2.1, p.2.2.2]
theorem Prs.stay (P : Prs h t ps) (ntd : t ≠ d) (ntc : t ≠ c) (hpn : ∀ p ∈ ps, p.1 ≠ d ∧ p.1 ≠ c) (k : ∀ b o, b ≠ d → b ≠ c → h.get? b = some o → h'.get? b = some o) : Prs h' t ps :=
 ⟨let ⟨o, a, b⟩ := P.tup; ⟨o, k _ _ ntd ntc a, b⟩, fun p hp => let ⟨o, a, b⟩ := P.each p hp; ⟨o, k _ _ (hpn p hp).1 (hpn p hp).2 a, b⟩⟩
theorem dulGo (hh : A.handled = none) (ndc : d ≠ c) (ntd : t ≠ d) (ntc : t ≠ c) (hpn : ∀ p ∈ ps, p.1 ≠ d ∧ p.1 ≠ c) (hk : ∀ p ∈ ps, (mixKind prog w).is p.2.2.1 p.2.1 = true) (result : Value) :
 ∀ (m i : Nat) (s : Shared) (vs : List (Key × Value)), ps.length - i = m → i ≤ ps.length → s.heap.IsTupleIter c t i → Prs s.heap t ps → s.heap.DictOf (mixKind prog w) d vs → vs.length + (ps.length - i) ≤ sizeLine →
 (∀ h' tk, h'.DictOf (mixKind prog w) d ((ps.drop i).foldl (fun a p => stored a p.2.2.1 p.2.2.2) vs) → (∀ b o, b ≠ d → b ≠ c → s.heap.get? b = some o → h'.get? b = some o) → R (.ok (.ret result)) { s with heap := h', toks := tk }) →
 codeAny (model prog w) A (.builtin "dict.update.loop" ⟨[.ref d, .ref c, rawInt i, result], []⟩) R s := by
 intro m
 induction m with
 | zero =>
  intro i s vs hm hi st P D hl go
  have e : i = ps.length := by omega
  subst e
  refine codeAny_builtin entry_dul ?_
  rw [Around.under_plainId plain_dul _]
  show wpAny _ A.in1 (pyNext (.ref c) >>= _) _ _ s
  refine wpAny_bind (wpAny_pyNext_tuple_end (A := A.in1) hh st P.tup (by simp) fun h' eb => ?_)
  show wpAny _ _ (Builtin.Dict.addKeywords d [] >>= _) _ _ _
  refine wpAny_bind (wpAny_pure (a := ()) (wpAny_pure ?_))
  have k : ∀ b o, b ≠ d → b ≠ c → s.heap.get? b = some o → h'.get? b = some o := fun b o _ hb q => eb b o hb q
  refine go h' _ ?_ k
  rw [List.drop_length]
  obtain ⟨o, es, ep, q, r⟩ := D
  exact ⟨o, es, ep, eb _ _ ndc q, r⟩
 | succ m ih =>
  intro i s vs hm hi st P D hl go
  have hlt : i < ps.length := by omega
  obtain ⟨p, hp⟩ : ∃ p, ps[i]? = some p := ⟨_, List.getElem?_eq_getElem hlt⟩
  have hpm := List.mem_of_getElem? hp
  refine codeAny_builtin entry_dul ?_
  rw [Around.under_plainId plain_dul _]
  show wpAny _ A.in1 (pyNext (.ref c) >>= _) _ _ s
  refine wpAny_bind (wpAny_pyNext_tuple_item st P.tup (x := .ref p.1) (by simp [hp]) fun h1 st1 sb1 => ?_)
  have k1 : ∀ b o, b ≠ d → b ≠ c → s.heap.get? b = some o → h1.get? b = some o := fun b o _ hb q => (sb1.2 b hb).trans q
  have P1 := P.stay ntd ntc hpn k1
  have D1 : h1.DictOf (mixKind prog w) d vs := let ⟨o, es, ep, q, r⟩ := D; ⟨o, es, ep, (sb1.2 d ndc).trans q, r⟩
  obtain ⟨op, hop, hcp, np, hdp⟩ := P1.each p hpm
  refine wpAny_bind (wpAny_holding (wpAny_bind (wpAny_tryCatch ?_)))
  unfold Builtin.Dict.pairItems
  refine wpAny_bind (wpAny_typeOf (T := "tuple") ⟨op, hop, hcp⟩ ?_)
  show wpAny _ _ (if _ then _ else _) _ _ _
  rw [if_pos (by decide)]
  refine wpAny_bind (wpAny_seqItems hop hdp (wpAny_pure ?_))
  show wpAny _ _ (holding [p.2.1, p.2.2.2] (dictSet d p.2.1 p.2.2.2)) _ _ _
  refine wpAny_holding (wpAny_dictSet_pairs (knd := mixKind prog w) (k := p.2.2.1) (hk p hpm) D1 (fun h2 D2 sb2 => ?_) (by omega))
  have k2 : ∀ b o, b ≠ d → b ≠ c → s.heap.get? b = some o → h2.get? b = some o := fun b o hd hc q => (sb2.2 b hd).trans (k1 b o hd hc q)
  have ei : ((i : Int) + 1) = ((i + 1 : Nat) : Int) := by omega
  show wpAny _ _ (again (.builtin "dict.update.loop" ⟨[.ref d, .ref c, rawInt ((i : Int) + 1), result], []⟩)) _ _ _
  rw [ei]
  have hsl : (stored vs p.2.2.1 p.2.2.2).length ≤ vs.length + 1 := by
   unfold stored; split
   · rw [List.length_map]; omega
   · rw [List.length_append]; simp
  refine wpAny_pure ⟨plainId_quiet plain_dul _, ih (i + 1) _ _ (by omega) (by omega) ?_ (P.stay ntd ntc hpn k2) D2 (by omega) fun h' tk D' k' => ?_⟩
  · obtain ⟨o, q, r⟩ := st1
    exact ⟨o, (sb2.2 c (Ne.symm ndc)).trans q, r⟩
  · refine go h' tk ?_ fun b o hd hc q => k' b o hd hc (k2 b o hd hc q)
    have : ps.drop i = p :: ps.drop (i + 1) := by
     rw [List.drop_eq_getElem_cons hlt]
     congr 1
     exact Option.some.inj ((List.getElem?_eq_getElem hlt).symm.trans hp)
    rw [this, List.foldl_cons]
    exact D'
theorem dict_of (hh : A.handled = none) (ho : s.heap.get? t = some { cls := .type "tuple", data := .seq (ps.map fun p => Value.ref p.1).toArray n }) (P : Prs s.heap t ps)
 (hk : ∀ p ∈ ps, (mixKind prog w).is p.2.2.1 p.2.1 = true) (hl : ps.length ≤ sizeLine)
 (go : ∀ h' tk, h'.DictOf (mixKind prog w) s.heap.objs.size (ps.foldl (fun a p => stored a p.2.2.1 p.2.2.2) []) → (∀ b o, s.heap.get? b = some o → h'.get? b = some o) → Q (.ref s.heap.objs.size) { s with heap := h', toks := tk }) :
 wpAny (model prog w) A (call (.type "dict") [.ref t]) Q E s := by
 refine callType_codes F.kt_called_dict (F.kt_typeCall_dict_1 _) F.entry_dict_init (kt_code_dict_new (.ref t) (Q₁ := fun obj s1 => obj = .ref s.heap.objs.size ∧ s1 = { s with heap := s.heap.push { cls := .type "dict", data := .dict #[] } }) ⟨rfl, rfl⟩) fun obj s1 e => ?_
 obtain ⟨rfl, rfl⟩ := e
 have hd0 : (s.heap.push { cls := .type "dict", data := .dict #[] }).get? s.heap.objs.size = some _ := Heap.get?_push_size _ rfl
 refine ⟨⟨_, hd0, rfl⟩, F.args_dict_init_2 _ _, ?_⟩
 have k0 : ∀ b o, s.heap.get? b = some o → (s.heap.push { cls := .type "dict", data := .dict #[] }).get? b = some o := fun b o q => Heap.get?_push_of_some _ q
 show wpAny _ _ (Builtin.Dict.selfAndRest "__init__" _ >>= _) _ _ _
 unfold Builtin.Dict.selfAndRest
 refine wpAny_bind (wpAny_bind ?_)
 unfold Builtin.Dict.notOrdered
 rw [if_pos (by decide)]
 refine wpAny_bind (wpAny_typeOf (T := "dict") ⟨_, hd0, rfl⟩ ?_)
 rw [if_neg (by decide)]
 refine wpAny_pure ?_
 show wpAny _ _ (Builtin.Dict.addrOf (.ref s.heap.objs.size) >>= _) _ _ _
 refine wpAny_bind (wpAny_pure (wpAny_pure ?_))
 show wpAny _ _ (Builtin.Dict.updateFrom "dict.__init__" s.heap.objs.size (.ref t) [] .none) _ _ _
 unfold Builtin.Dict.updateFrom
 refine wpAny_bind (wpAny_typeOf (T := "tuple") ⟨_, k0 _ _ ho, rfl⟩ ?_)
 rw [if_pos (by decide)]
 refine wpAny_bind (noKeys hh (k0 _ _ ho) fun h1 tk1 k1 => ?_)
 rw [if_pos (show (none : Option Value).isNone = true from rfl)]
 have hit : h1.IsTuple t (ps.map fun p => Value.ref p.1).toArray := ⟨_, k1 _ _ (k0 _ _ ho), rfl, n, rfl⟩
 refine wpAny_bind (wpAny_rule (wpAny_bind (wpAny_pyIter_tuple hit ?_)))
 have lt0 : s.heap.objs.size < h1.objs.size := Heap.lt_size (k1 _ _ hd0)
 have ht : t < s.heap.objs.size := Heap.lt_size ho
 have hpa : ∀ p ∈ ps, p.1 < s.heap.objs.size := fun p hp => let ⟨o, q, _⟩ := P.each p hp; Heap.lt_size q
 have kk : ∀ b o, s.heap.get? b = some o → (h1.push { cls := .type "tuple_iterator", data := .fields #[.ref t, .int 0 0] }).get? b = some o := fun b o q => Heap.get?_push_of_some _ (k1 _ _ (k0 _ _ q))
 refine wpAny_pure ⟨plainId_quiet plain_dul _, dulGo (A := A.in1) (c := h1.objs.size) (t := t) (ps := ps) (show A.in1.handled = none from hh) (Nat.ne_of_lt lt0) (Nat.ne_of_lt ht) (Nat.ne_of_lt (Nat.lt_trans ht lt0)) (fun p hp => ⟨Nat.ne_of_lt (hpa p hp), Nat.ne_of_lt (Nat.lt_trans (hpa p hp) lt0)⟩) hk .none ps.length 0 _ [] (by omega) (by omega)
  ⟨_, Heap.get?_push_size _ rfl, rfl, rfl⟩ ⟨let ⟨o, a, b⟩ := P.tup; ⟨o, kk _ _ a, b⟩, fun p hp => let ⟨o, a, b⟩ := P.each p hp; ⟨o, kk _ _ a, b⟩⟩ ?_ (by simpa using hl) fun h' tk D' k' => ⟨rfl, go h' tk D' fun b o q => k' b o (Nat.ne_of_lt (Heap.lt_size q)) (Nat.ne_of_lt (Nat.lt_trans (Heap.lt_size q) lt0)) (kk b o q)⟩⟩
 obtain ⟨o, es, ep, q, r⟩ := Heap.DictOf.new (knd := mixKind prog w) s.heap
 exact ⟨o, es, ep, Heap.get?_push_of_some _ (k1 _ _ q), r⟩
end
def bareT (o : Obj) : Prop := ∃ its n, o = { cls := .type "tuple", data := .seq its n }
def tTupF (t : TA) : TE := fun σ H Q => t σ H fun xs H1 => xs.length ≤ sizeLine ∧ ∀ p o H2, H1 p = none → bareT o → L2.Same H1 H2 → H2 p = some (.frz o (.tup xs)) → Q (.ref p) H2
section
variable {σ : L2.St}
def PairsF (H : Hp) (t : Addr) (kvs : List (Key × V)) : Prop := ∃ (o : Obj) (as : List Addr), bareT o ∧ H t = some (.frz o (.tup (as.map V.ref))) ∧ as.length = kvs.length ∧ kvs.length ≤ 1000 ∧ ∀ (i : Nat) a kv, as[i]? = some a → kvs[i]? = some kv → Rd H a (.tup [kV kv.1, kv.2])
def rDictP : List V → Hp → VK → Prop := fun xs H Q => ∃ t kvs, xs = [.ref t] ∧ PairsF H t kvs ∧ ∀ p H2, H p = none → L2.Same H H2 → H2 p = some (.dK (mergeK [] kvs)) → Q (.ref p) H2
theorem raw_pairs (I : Inv X pins σ H s) : ∀ (as : List Addr) (kvs : List (Key × V)), as.length = kvs.length → (∀ (i : Nat) a kv, as[i]? = some a → kvs[i]? = some kv → Rd H a (.tup [kV kv.1, kv.2])) →
 ∃ ps : List (Addr × Value × Key × Value), ps.map (fun p => Value.ref p.1) = as.map Value.ref ∧ (∀ p ∈ ps, s.heap.IsTuple p.1 #[p.2.1, p.2.2.2]) ∧ (∀ p ∈ ps, (mixKind X.prog X.w).is p.2.2.1 p.2.1 = true) ∧ KV kvs (ps.map fun p => (p.2.2.1, p.2.2.2))
 | [], [], _, _ => ⟨[], rfl, fun p hp => (nomatch hp), fun p hp => (nomatch hp), .nil⟩
 | a :: as, kv :: kvs, hl, h => by
  obtain ⟨ps, e1, e2, e3, e4⟩ := raw_pairs I as kvs (by simpa using hl) fun i a kv q1 q2 => h (i + 1) a kv (by simpa using q1) (by simpa using q2)
  have ha := h 0 a kv rfl rfl
  obtain ⟨its, rv, p, _⟩ := I.tuple (show SqT X.K H a _ from .inl ha)
  cases rv with
  | @cons _ ku _ _ rk rr =>
   cases rr with
   | @cons _ vu _ _ rv rr =>
    cases rr
    refine ⟨(a, ku, kv.1, vu) :: ps, by grind, fun q hq => ?_, fun q hq => ?_, ?_⟩
    · rcases List.mem_cons.mp hq with rfl | hq
      · exact p
      · exact e2 q hq
    · rcases List.mem_cons.mp hq with rfl | hq
      · exact kV_is rk
      · exact e3 q hq
    · exact .cons ⟨rfl, rv⟩ e4
theorem fold_merge : ∀ (ps : List (Addr × Value × Key × Value)) (vs : List (Key × Value)), ps.foldl (fun a p => stored a p.2.2.1 p.2.2.2) vs = merged vs (ps.map fun p => (p.2.2.1, p.2.2.2))
 | [], vs => rfl
 | p :: ps, vs => by rw [List.foldl_cons, fold_merge ps]; rfl
theorem call_dictP (hc : X.calm = true) : CallR X (.type "dict") rDictP := fun pins s σ H xs us Q I r h => by
 obtain ⟨t, kvs, rfl, ⟨o, as, ⟨its, n, rfl⟩, ht, hl, hk, hp⟩, q⟩ := h
 obtain ⟨u, rfl, rx⟩ := vals1 r
 cases rx
 obtain ⟨ps, e1, e2, e3, e4⟩ := raw_pairs I as kvs hl hp
 have hsz : (sizeLine : Nat) = 16777216 := sizeLine_eq
 obtain ⟨g0, hz, its', rv, pt⟩ := (show ObjOk X.prog X.w H s.heap t (.frz { cls := .type "tuple", data := .seq its n } (.tup (as.map V.ref))) from I.hok t _ ht)
 have hits : its = its'.toArray := by
  obtain ⟨o2, h1, _, _, n2, h3⟩ := pt
  rw [g0] at h1; cases h1
  injection h3 with h3
 have hvr : its' = as.map Value.ref := by
  have go : ∀ (as : List Addr) (l : List Value), Vals (as.map V.ref) l → l = as.map Value.ref := by
   intro as
   induction as with
   | nil => intro l r; cases r; rfl
   | cons a as ih =>
    intro l r
    cases r with
    | cons h t => rw [ih _ t, List.map_cons]; cases h; rfl
  exact go as its' rv
 have hpl : ps.length = kvs.length := by have := congrArg List.length e1; rw [List.length_map, List.length_map] at this; omega
 have g1 : s.heap.get? t = some { cls := .type "tuple", data := .seq (ps.map fun p => Value.ref p.1).toArray n } := by rw [e1, ← hvr, ← hits]; exact g0
 refine dict_of (I.ok.hd hc) g1 ⟨⟨_, g1, rfl, _, rfl⟩, e2⟩ e3 (by omega) fun h' tk D k => ?_
 rw [fold_merge] at D
 have lm := length_mergeK kvs []
 rw [List.length_nil] at lm
 exact ⟨.ref s.heap.objs.size, _, I.laid (a := s.heap.objs.size) (o := .dK (mergeK [] kvs)) (t' := tk) k (Nat.le_refl _) (dk_new (by omega) (beq_eq_false_iff_ne.mpr (Ne.symm (Nat.ne_of_lt I.big))) (e4.merge .nil) D), rfl, q _ _ (I.hok.fresh (Nat.le_refl _)) (Br.Same.upd (I.hok.fresh (Nat.le_refl _))) upd_same⟩
theorem boot_dict' : bootBuiltins "dict" = some (.type "dict") := by rfl
end
section
theorem j_tupF {k : Nat} (h : JA X es t) : JE X (.Tuple es k pos) (tTupF t) := ⟨fun pins s σ H Q I q => wpAny_Tuple_spliced (thn (h.h pos pins s σ H _ I q) fun us s1 ⟨xs, H1, I1, r, z, q⟩ => ⟨by rw [← r.length]; exact z, by
 have hf : H1 s1.heap.objs.size = none := I1.hok.fresh (Nat.le_refl _)
 refine ⟨.ref s1.heap.objs.size, upd H1 s1.heap.objs.size (.frz { cls := .type "tuple", data := .seq us.toArray 0 } (.tup xs)), I1.laid (t' := s1.toks) (fun b u e => Heap.get?_push_of_some _ e) (Nat.le_refl _) ?_, rfl, q _ _ _ hf ⟨_, _, rfl⟩ (Br.Same.upd hf) upd_same⟩
 exact ⟨Heap.get?_push_size _ rfl, z, us, r, ⟨_, Heap.get?_push_size _ rfl, rfl, rfl, _, rfl⟩⟩⟩)⟩
theorem j_dictP (hg : Gl X x) (he : starEach (e :: es) X.env = (false, eval e X.env) :: starEach es X.env) (hpl : (backTo pos (starEach es X.env)).any (·.1) = false) (hx : x = "dict") (hc : X.calm = true) (hm : X.mg x = none) (ha : JA X (e :: es) t) :
 JE X (.Call (.Name x p) (e :: es) [] pos) (tCB rDictP t) := ⟨by subst hx; exact pe_callTy (call_dictP hc) hg hm boot_dict' ha.h (by decide) (by decide) he hpl⟩
end
def Iti (o : Obj) (a : Addr) (kvs : List (Key × V)) : It :=
 ⟨fun i H => H a = some (.frz o (.dK kvs)) ∧ i < kvs.length,
  fun i H v H' => ∃ (kv : Key × V) (T : Addr), kvs[i]? = some kv ∧ v = .ref T ∧ H T = none ∧ H' = upd H T (.tup [kV kv.1, kv.2]),
  fun i H => H a = some (.frz o (.dK kvs)) ∧ kvs.length ≤ i⟩
theorem entry_ii : entryFor table "dict_itemiterator.__iter__" = some Builtin.«dict_keyiterator.__iter__» :=
 entryFor_alias (id (Eq.refl (fastTable "dict_itemiterator.__iter__"))) (Eq.refl ("dict_itemiterator.__iter__".cutAt '#')) (by first | rfl | decide +kernel) (id (Eq.refl (fastTable "dict_keyiterator.__iter__")))
theorem pyIter_ii (hit : IsItemIter s.heap it d i n ep ok ov) (h : Q (.ref it) s) : wpAny (model prog w) A (pyIter (.ref it)) Q E s := by
 have hT : s.TypeIs (.ref it) "dict_itemiterator" := ⟨_, hit, rfl⟩
 exact wpAny_pyIter_slot hT F.slot_dict_itemiterator_iter (wpAny_call_entry F.slot_dict_itemiterator_iter hT entry_ii
  (id (wpAny_pure ⟨.ref it, rfl, "dict_itemiterator", .builtin "dict_itemiterator.__next__", hT, F.slot_dict_itemiterator_next.lookup, h⟩)) (F.args_dict_itemiterator_iter_1 _))
theorem kvGet (r : KV kvs vs) : ∀ {i : Nat} {kv : Key × V}, kvs[i]? = some kv → ∃ v, vs[i]? = some (kv.1, v) ∧ RelV kv.2 v := by
 induction r with
 | nil => intro i kv h; simp_all
 | @cons p q ps qs h t ih =>
  intro i kv e
  cases i with
  | zero =>
   simp at e; subst e
   obtain ⟨q1, q2⟩ := q
   simp_all
  | succ i =>
   simp_all
theorem is_rel (h : (mixKind P w).is k u = true) : RelV (kV k) u := by
 rcases keyIs_shape h with ⟨i, t, rfl, rfl⟩ | ⟨x, t, rfl, rfl⟩
 · exact ⟨t, rfl⟩
 · exact ⟨t, rfl⟩
theorem frz_at (he : o.data = .dict es ep) (ok : HOk P w H h) (e : H a = some (.frz o (.dK kvs))) : ∃ vs, KV kvs vs ∧ h.DictAt (mixKind P w) a vs ep := by
 obtain ⟨g, _, _, vs, r, o', es', ep', q, ex, dt, rest⟩ := (ok a _ e)
 rw [g] at q; cases q
 have e2 := dt
 rw [he] at e2
 injection e2 with _ e2
 subst e2
 exact ⟨vs, r, o, es', g, ex, dt, rest⟩
theorem turn_items {P : Program} {w : World} {K : PySem.W.Frag} {es : List Expr} {kt : Nat} {pt : Pos} {it a : Addr} {o : Obj} {kvs : List (Key × V)} {ds : Array DictEntry} {ep : Nat} (he : o.data = .dict ds ep) :
 Turn P w K (.Tuple es kt pt) (Iti o a kvs) [it] it (fun i h => ∃ ok ov, IsItemIter h it a i kvs.length ep ok ov) where
 mem := by simp
 obj := fun i h st b hb => by
  obtain ⟨ok, ov, h1⟩ := st
  rw [List.mem_singleton.mp hb]
  exact ⟨_, h1, fun v q => by cases q⟩
 keep := fun i h h' st k => by
  obtain ⟨ok, ov, h1⟩ := st
  exact ⟨ok, ov, k _ (by simp) _ h1⟩
 item := by
  intro X hP hw hK hc i pins s σ H E I hf st hg
  subst hP hw hK
  obtain ⟨ok, ov, h1⟩ := st
  obtain ⟨hg, hi⟩ := hg
  obtain ⟨vs, rel, da⟩ := frz_at he I.hok hg
  obtain ⟨kv, hkv⟩ : ∃ kv, kvs[i]? = some kv := ⟨_, List.getElem?_eq_getElem hi⟩
  obtain ⟨v', hv', rx⟩ := kvGet rel hkv
  rw [rel.length] at h1
  refine wpAny_pyNext_items_item (knd := mixKind X.prog X.w) h1 da hv' fun key g hkey z1 T1 sz kp => ?_
  refine ⟨_, rfl, wpAny_letOwnedTupleGo_items z1 fun g' z2 k2 => ?_⟩
  have hfr : H s.heap.objs.size = none := I.hok.fresh (Nat.le_refl _)
  have zl : it < s.heap.objs.size := Heap.lt_size h1
  have all : ∀ b ob, b ∉ [it] → s.heap.get? b = some ob → g'.get? b = some ob := fun b ob hb q => by
   have hb : b ≠ it := fun z => hb (by rw [z]; simp)
   exact k2.extBut _ _ hb (kp b ob hb q)
  have T' : IsPair g' s.heap.objs.size key v' := k2.extBut _ _ (Nat.ne_of_gt zl) T1
  have trk : ∀ b v, H b = some v → b ∉ [it] := fun b v q hb => by rw [(hf b hb).1] at q; cases q
  have I1 : Inv X pins σ (upd H s.heap.objs.size (.tup [kV kv.1, kv.2])) { s with heap := g' } := by
   refine I.step (g' := s.gens) (d' := s.drawn) (t' := s.toks) (ch := [it]) (fun b hb => ?_) (fun b ob _ _ hb q _ => all b ob hb q) (fun b ob _ _ hb q _ => ⟨ob.slots, all b ob hb q⟩) (fun b ob hb q n => ?_) (fun b ob hb q => ⟨ob, all b ob hb q⟩)
    (fun b v q => ?_) (fun b v v' q => ?_) (fun b v q => ⟨#[], ?_⟩) (fun m hm => ?_) (fun b v q => ?_) I.bare
   · obtain ⟨f0, f1, f2, f3, f4, f5⟩ := hf b hb
     exact ⟨f3, f1, f4, f5⟩
   · rw [upd_ne (Nat.ne_of_lt (Heap.lt_size q))]; exact n
   · rw [upd_ne (ne_of_none q hfr)]; exact q
   · rw [upd_ne (ne_of_none q hfr)]; exact q
   · rw [upd_ne (ne_of_none q hfr), q]; simp
   · obtain ⟨ob, es, ep, ho, r⟩ := hm
     exact ⟨ob, es, ep, all _ ob (fun hb => (hf _ hb).2.1 rfl) ho, r⟩
   · by_cases hcT : b = s.heap.objs.size
     · subst hcT
       rw [upd_same] at q; cases q
       exact ⟨by show 2 ≤ sizeLine; decide, [key, v'], .cons (is_rel hkey) (.cons rx .nil), ⟨_, T', rfl, rfl, _, rfl⟩⟩
     · rw [upd_ne hcT] at q
       refine (I.hok b v q).stay (fun c' ob hc' q' => all c' ob ?_ q') (fun c' q' => by rw [upd_ne (ne_of_none q' hfr)]; exact q') fun c' vs q' => by rw [upd_ne (ne_of_none q' hfr)]; exact q'
       rcases hc' with z | z
       · rw [z]; exact trk b v q
       · exact trk c' _ z
  refine ⟨.ref s.heap.objs.size, _, I1, rfl, ⟨kv, _, hkv, rfl, hfr, rfl⟩, ⟨_, _, by rw [rel.length]; exact z2⟩, fun b hb => ?_⟩
  rw [List.mem_singleton.mp hb, upd_ne (Nat.ne_of_lt zl)]; exact (hf it (by simp)).1
 done := by
  intro X hP hw hK hc i pins s σ H E I hf st hg
  subst hP hw hK
  obtain ⟨ok, ov, h1⟩ := st
  obtain ⟨hg, hi⟩ := hg
  obtain ⟨vs, rel, da⟩ := frz_at he I.hok hg
  have hl := rel.length
  rw [rel.length] at h1
  refine wpAny_pyNext_items_end (I.ok.hd hc) h1 da (List.getElem?_eq_none (by omega)) fun g kp => ⟨rfl, ?_⟩
  have all : ∀ b ob, b ∉ [it] → s.heap.get? b = some ob → g.get? b = some ob := fun b ob hb q => kp b ob (fun z => hb (by rw [z]; simp)) q
  have trk : ∀ b v, H b = some v → b ∉ [it] := fun b v q hb => by rw [(hf b hb).1] at q; cases q
  refine I.step (g' := s.gens) (d' := s.drawn) (t' := s.toks) (ch := [it]) (fun b hb => ?_) (fun b ob _ _ hb q _ => all b ob hb q) (fun b ob _ _ hb q _ => ⟨ob.slots, all b ob hb q⟩) (fun b ob hb q n => n) (fun b ob hb q => ⟨ob, all b ob hb q⟩)
   (fun b v q => q) (fun b v v' q => q) (fun b v q => ⟨#[], by rw [q]; simp⟩) (fun m hm => ?_) (fun b v q => ?_) I.bare
  · obtain ⟨f0, f1, f2, f3, f4, f5⟩ := hf b hb
    exact ⟨f3, f1, f4, f5⟩
  · obtain ⟨ob, es, ep, ho, r⟩ := hm
    exact ⟨ob, es, ep, all _ ob (fun hb => (hf _ hb).2.1 rfl) ho, r⟩
  · refine (I.hok b v q).stay (fun c' ob hc' q' => all c' ob ?_ q') (fun c' q' => q') fun c' vs q' => q'
    rcases hc' with z | z
    · rw [z]; exact trk b v q
    · exact trk c' _ z
 self := fun _ _ _ _ _ st h => by obtain ⟨_, _, h1⟩ := st; exact pyIter_ii h1 h
structure M0 (X : Cx) (o : Expr) (m : Str) (apos : Pos) (cpos : Pos) : Prop where
 base : attributeBase o m X.env (eval o X.env) = eval o X.env
 few : ((backTo cpos (starEach [] X.env)).all (fun x => !x.1) && (backToKw cpos (keywordEach [] X.env)).all (fun x => x.1.isSome)
  && decide (([] : List Expr).length + ([] : List Keyword).length + (if ([] : List Keyword).isEmpty then 0 else 1) < 30)) = true
 line : (apos.endLine == cpos.line) = true
 trees : backTo cpos (starEach [] X.env) = []
def iItems (td : TE) : TI := fun σ H R => td σ H fun x H1 => ∃ a kvs, x = .ref a ∧ H1 a = some (.dK kvs) ∧ ∀ o H2, H2 = upd H1 a (.frz o (.dK kvs)) → R (Iti o a kvs) H2
theorem pi_items (ho : PE X o td) (m : M0 X o "items" apos cpos) : PI X (.Tuple es kt pt) (.Call (.Attribute o "items" apos) [] [] cpos) (iItems td) := by
 intro pins s σ H R I h
 refine wpAny_Call_method m.base m.few m.line PySem.F.plainAttrs_dict PySem.F.slot_dict_items PySem.F.type_dict_items (thn (ho pins s σ H _ I h) fun u s1 ⟨x, H1, I1, rx, a, kvs, ex, e, q1⟩ => ?_)
 subst ex
 obtain rfl : u = Value.ref a := rx
 obtain ⟨t1, t2, t3⟩ := isD_at I1 (.inl ⟨kvs, .inl e⟩)
 refine ⟨t1, t2, ?_⟩
 rw [m.trees]
 obtain ⟨z, hd, vs, rel, dd⟩ := dk_of I1.hok e
 refine Calls.callWith_builtin rfl (PySem.evalArgs_none ?_)
 refine call_meetsIn PySem.F.slot_dict_items t1 PySem.F.entry_dict_items (PySem.F.args_dict_items_1 _) (meets_dict_items (mixKind X.prog X.w) a t3) ⟨⟨vs, dd⟩, ?_⟩
 obtain ⟨ob, ds, ep, g, ex, dt, rest⟩ := dd
 have gp : ∀ (h : Heap) b o', h.get? b = some o' → ∀ n, (h.push n).get? b = some o' := fun h b o' q n => Heap.get?_push_of_some _ q
 have al := Heap.lt_size g
 refine wpAny_pyIter_items (knd := mixKind X.prog X.w) (kvs := vs) (ep := ep) ⟨_, Heap.get?_push_size _ rfl, rfl, rfl⟩ ⟨ob, ds, gp _ _ _ g _, ex, dt, rest⟩ ?_
 have I2 := I1.kept (t' := s1.toks) (h' := ((s1.heap.push { cls := .type "dict_items", data := .fields #[.ref a] }).push { cls := .type "dict_itemiterator", data := .fields #[.none, .bool false, .ref a, .int 0 0, .int vs.length 0, .int ep 0, .none, .none] })) fun b o' q => gp _ _ _ (gp _ _ _ q _) _
 have I3 := I2.write (x := a) (e := a) (o := .frz ob (.dK kvs)) (t' := s1.toks) (by rw [e]; exact True.intro) (.inl rfl) (fun b u _ q => q) ⟨ob, gp _ _ _ (gp _ _ _ g _) _⟩ ⟨gp _ _ _ (gp _ _ _ g _) _, z, hd, vs, rel, ob, ds, ep, gp _ _ _ (gp _ _ _ g _) _, ex, dt, rest⟩
 have sz : (s1.heap.push { cls := .type "dict_items", data := .fields #[.ref a] }).objs.size = s1.heap.objs.size + 1 := Heap.size_push ..
 refine ⟨(s1.heap.push { cls := .type "dict_items", data := .fields #[.ref a] }).objs.size, [_], _, _, _, rfl, I3, turn_items dt, ⟨_, _, by rw [rel.length]; exact Heap.get?_push_size _ rfl⟩, fun c hc => ?_, q1 ob _ rfl⟩
 have hc := List.mem_singleton.mp hc
 subst hc
 have hb : s1.heap.objs.size ≤ (s1.heap.push { cls := .type "dict_items", data := .fields #[.ref a] }).objs.size := by rw [sz]; omega
 have f := I1.fpOk hb (I1.hok.fresh hb)
 refine ⟨?_, f.2⟩
 rw [upd_ne (Nat.ne_of_gt (by rw [sz]; exact Nat.lt_succ_of_lt al))]; exact f.1
theorem k_items (h1 : attributeBase o "items" X.env (eval o X.env) = eval o X.env)
 (h2 : ((backTo cpos (starEach [] X.env)).all (fun x => !x.1) && (backToKw cpos (keywordEach [] X.env)).all (fun x => x.1.isSome)
  && decide (([] : List Expr).length + ([] : List Keyword).length + (if ([] : List Keyword).isEmpty then 0 else 1) < 30)) = true) (h3 : (apos.endLine == cpos.line) = true) (h4 : backTo cpos (starEach [] X.env) = []) (ho : JE X o td) :
 JI X (.Tuple es kt pt) (.Call (.Attribute o "items" apos) [] [] cpos) (iItems td) := ⟨pi_items ho.h ⟨h1, h2, h3, h4⟩⟩
theorem j_dget2 {X : Cx} {o e f : Expr} {td ty tx : TE} {apos cpos : Pos} {k : Nat} (hr : Room k X.A) (h1 : attributeBase o "get" X.env (eval o X.env) = eval o X.env)
 (h2 : ((backTo cpos (starEach [e, f] X.env)).all (fun x => !x.1) && (backToKw cpos (keywordEach [] X.env)).all (fun x => x.1.isSome)
  && decide (([e, f] : List Expr).length + ([] : List Keyword).length + (if ([] : List Keyword).isEmpty then 0 else 1) < 30)) = true) (h3 : (apos.endLine == cpos.line) = true) (h4 : backTo cpos (starEach [e, f] X.env) = [(false, eval e X.env), (false, eval f X.env)])
 (ho : JE X o td) (he : JE X e ty) (hf : JE X f tx) : JE X (.Call (.Attribute o "get" apos) [e, f] [] cpos) (tDGet2 td ty tx) := ⟨pe_dget2 (by have := hr.un; omega) ho.h he.h hf.h ⟨h1, h2, h3, h4⟩⟩
section
theorem cmp_items (hn : kvs.length ≤ 1000) (Pv : Nat → List V → L2.St → Hp → Prop) (h0 : Pv 0 [] σ0 H0) (hl : ∀ i ys σ H, i ≤ kvs.length → Pv i ys σ H → H a = some (.frz ob (.dK kvs)) ∧ ys.length ≤ i)
 (hs : ∀ i kv ys σ H (T : Addr) (N : List V → L2.St → Hp → Prop), kvs[i]? = some kv → Pv i ys σ H → H T = none → (∀ ys' σ' H', Pv (i + 1) ys' σ' H' → N ys' σ' H') →
  g (.ref T) σ (upd H T (.tup [kV kv.1, kv.2])) fun σ3 H3 => tt σ3 H3 fun b H4 => if b = true then te σ3 H4 fun y H5 => N (ys ++ [y]) σ3 H5 else N ys σ3 H4)
 (hd : ∀ ys σ H, Pv kvs.length ys σ H → Z ys H) : Cmp (Iti ob a kvs) g tt te σ0 H0 Z := by
 have hsz := sizeLine_eq
 refine ⟨fun i m ys σ H => m = kvs.length - i ∧ i ≤ kvs.length ∧ Pv i ys σ H, ⟨kvs.length, by simp, Nat.zero_le _, h0⟩, ?_⟩
 rintro i m ys σ H ⟨rfl, hi, p⟩
 obtain ⟨q1, hy⟩ := hl i ys σ H hi p
 refine ⟨by omega, ?_⟩
 by_cases hlt : i < kvs.length
 · refine .inr ⟨⟨q1, hlt⟩, fun v H' yl => ?_⟩
   obtain ⟨kv, T, e, rfl, hT, rfl⟩ := yl
   exact hs i kv ys σ _ T (fun ys' σ' H' => ∃ m', m' < kvs.length - i ∧ m' = kvs.length - (i + 1) ∧ i + 1 ≤ kvs.length ∧ Pv (i + 1) ys' σ' H') e p hT fun ys' σ' H' p' => ⟨kvs.length - (i + 1), by omega, rfl, hlt, p'⟩
 · have e : i = kvs.length := by omega
   subst e
   exact .inl ⟨⟨q1, Nat.le_refl _⟩, hd ys σ H p⟩
end
end Br
namespace Br
namespace ZM
open PySem PySem.Spec PySem.Calls PyProof.Rows L2
section
structure Zp (h : Heap) (z u o c1 c2 d e : Addr) (xs ys : Array Value) (k : Nat) : Prop where
 zip : IsZip h z u o .none
 its : IsPair h u (.ref c1) (.ref c2)
 own : ∃ a b, IsPair h o a b
 i1 : h.IsListIter c1 d k
 i2 : h.IsTupleIter c2 e k
 t1 : h.IsList d xs
 t2 : h.IsTuple e ys
structure Ap (z u o c1 c2 d e : Addr) : Prop where
 ne : [z, u, o, c1, c2].Nodup
 nd : ∀ b ∈ [z, u, o, c1, c2], d ≠ b ∧ e ≠ b
end
end ZM
end Br
namespace Br
open PySem PySem.Spec PySem.Calls PyProof.Rows L2
def rCatTB : R2 := fun x y H Q => ∃ a b xs ys, x = .ref a ∧ y = .ref b ∧ H a = some (.tup xs) ∧ H b = some (.tup ys) ∧ xs.length + ys.length ≤ sizeLine ∧ ∀ p H2, L2.Same H H2 → H2 p = some (.tup (xs ++ ys)) → Q (.ref p) H2
section
theorem op_catTB : OpR X (binaryOp .Add) rCatTB := fun pins s σ H x y v u Q I rx ry h => by
 obtain ⟨a, b, xs, ys, e1, e2, t1, t2, hz, q⟩ := h
 have h1 : SqT X.K H a xs := SqT.of t1
 have h2 : SqT X.K H b ys := SqT.of t2
 by_cases hx : xs = []
 · subst e1; subst e2; subst hx
   cases rx; cases ry
   obtain ⟨its, r1, p1, _⟩ := I.tuple h1
   obtain ⟨its2, r2, p2, _⟩ := I.tuple h2
   have hv := r1.nil_iff.mpr rfl
   obtain ⟨⟨cls, dd, data, sl⟩, ho, hc, n, hd⟩ := id p1
   obtain ⟨⟨cls2, dd2, data2, sl2⟩, ho2, hc2, n2, hd2⟩ := id p2
   subst hc hd hc2 hd2
   exact concat_meets ⟨_, ho, rfl⟩ ⟨_, ho2, rfl⟩ noFill_tuple_add seq_tuple_add PySem.F.slot_tuple_add PySem.F.entry_tuple_add (PySem.F.args_tuple_add_2 _ _)
    (tuple_addW0 a b its.toArray its2.toArray n n2 dd dd2 sl sl2 (by simp [hv])) ⟨ho, ho2, ⟨.ref b, H, I, rfl, q b H (L2.Same.refl _) t2⟩⟩
 · refine op_catT pins s σ H x y v u Q I rx ry ⟨a, b, xs, ys, e1, e2, h1, h2, hx, hz, fun e => ?_, fun _ p hp => q p _ (Br.Same.upd hp) upd_same⟩
   exact q a H (L2.Same.refl _) (by simp_all)
theorem o_addB : JOp X .Add (fun x y H Q => rI0 (fun i j => .int (i + j)) x y H Q ∨ rCatTB x y H Q) := ⟨op_add.or op_catTB⟩
end
theorem thaw {X : Cx} {pins : List (Addr × Obj)} {σ σ' : L2.St} {H H' : Hp} {s s' : Shared} {a : Addr} {ob : Obj} {kvs kvs0 : List (Key × V)} (I0 : Inv X pins σ H s) (e0 : H a = some (.dK kvs0)) (I1 : Inv X pins σ' H' s') (e1 : H' a = some (.frz ob (.dK kvs))) : Inv X pins σ' (upd H' a (.dK kvs)) s' := by
 have none_ne : ∀ {b : Addr}, H' b = none → upd H' a (.dK kvs) b = none := fun h => by rw [upd_ne (fun z => by rw [z, e1] at h; cases h)]; exact h
 have ne : ∀ {b : Addr} {o : HO}, H' b = some o → (∀ ob u, o ≠ .frz ob u) → upd H' a (.dK kvs) b = some o := fun h n => by
  rw [upd_ne (fun z => by grind)]; exact h
 refine ⟨I1.ok, I1.os, I1.bare, ⟨I1.base.keep, I1.base.slot, fun b o q n hx => none_ne (I1.base.free b o q n hx), I1.base.there, fun b xs q => ne (I1.base.tups b xs q) (fun _ _ z => by cases z), fun b o u q => ?_, fun b ps q => ?_⟩, I1.loc, I1.cell, none_ne I1.free, fun x c h => none_ne (I1.freeC x c h), fun p hp => ?_, fun b o q => ?_, I1.len⟩
 · have h0 := I0.base.frzs b o u q
   have h1 := I1.base.frzs b o u q
   rw [upd_ne (fun z => by rw [z, e0] at h0; cases h0)]; exact h1
 · obtain ⟨more, h⟩ := I1.base.tbls b ps q
   exact ⟨more, ne h (fun _ _ z => by cases z)⟩
 · obtain ⟨h1, h2, h3⟩ := I1.pin p hp
   exact ⟨h1, none_ne h2, h3⟩
 · by_cases hb : b = a
   · subst hb
     rw [upd_same] at q; cases q
     obtain ⟨_, k⟩ := (I1.hok b _ e1)
     exact k
   · rw [upd_ne hb] at q
     exact (I1.hok b o q).stay (fun c u hc r => r) (fun c r => ne r (fun _ _ z => by cases z)) fun c xs r => ne r (fun _ _ z => by cases z)
theorem pe_thaw {X : Cx} {e : Expr} {t : TE} (h : PE X e t) : PE X e (fun σ H Q => t σ H fun v H1 => Q v H1 ∨ ∃ a ob kvs kvs0, H a = some (.dK kvs0) ∧ H1 a = some (.frz ob (.dK kvs)) ∧ Q v (upd H1 a (.dK kvs))) := by
 intro pins s σ H Q I k
 refine wpAny_mono (h pins s σ H _ I k) (fun v s1 r => ?_) fun _ _ e => e
 obtain ⟨x, H1, I1, r, q⟩ := r
 rcases q with q | ⟨a, ob, kvs, kvs0, e0, e1, q⟩
 · exact ⟨x, H1, I1, r, q⟩
 · exact ⟨x, _, thaw I e0 I1 e1, r, q⟩
theorem j_thaw (h : JE X e t) : JE X e (fun σ H Q => t σ H fun v H1 => Q v H1 ∨ ∃ a ob kvs kvs0, H a = some (.dK kvs0) ∧ H1 a = some (.frz ob (.dK kvs)) ∧ Q v (upd H1 a (.dK kvs))) := ⟨pe_thaw h.h⟩
theorem s_dead {X : Cx} {st : Stmt} : JS X st (fun _ _ _ => False) := ⟨fun pins s σ H D I h => h.elim⟩
end Br
namespace Br
namespace ZT
open PySem PySem.Spec PySem.Calls PyProof.Rows L2
section
structure Zp (h : Heap) (z u o c1 c2 d e : Addr) (xs ys : Array Value) (k : Nat) : Prop where
 zip : IsZip h z u o .none
 its : IsPair h u (.ref c1) (.ref c2)
 own : ∃ a b, IsPair h o a b
 i1 : h.IsTupleIter c1 d k
 i2 : h.IsListIter c2 e k
 t1 : h.IsTuple d xs
 t2 : h.IsList e ys
structure Ap (z u o c1 c2 d e : Addr) : Prop where
 ne : [z, u, o, c1, c2].Nodup
 nd : ∀ b ∈ [z, u, o, c1, c2], d ≠ b ∧ e ≠ b
end
end ZT
namespace EL
open PySem PySem.Spec PySem.Calls PyProof.Rows L2
end EL
end Br
namespace Br
open PySem PySem.Spec PySem.Calls PyProof.Rows L2
section
variable {K : PySem.W.Frag} {x nm : Str}
theorem j_dgetA (x : Str) (hr : Room k X.A) (hs : NoSl b) (ho : JE X (.Name x p) td) (hi : JE X b ty) : JE X (.Subscript (.Name x p) b pos) (tDGet td ty) := ⟨pe_dget (by have := hr.un; omega) ho.h hi.h hs⟩
theorem s_dputA (x : Str) (hr : Room k X.A) (hs : swapsWith value (some (.Subscript (.Name x p) b pos')) pos.line X.env = pure false) (ho : JE X (.Name x p) td) (hi : JE X b ty) (hv : JE X value tv) : JS X (.Assign [.Subscript (.Name x p) b pos'] value pos) (sDPut td ty tv) :=
 ⟨ps_dput (by have := hr.un; omega) ho.h hi.h hv.h hs⟩
end
def rBitL : V → List V → Hp → VK → Prop := fun x xs H Q => ∃ i : Int, x = .int i ∧ xs = [] ∧ Q (.int ((Builtin.Int.intBits i : Nat) : Int)) H
section
variable {K : PySem.W.Frag}
theorem mt_bitl : MtR X "int.bit_length" rBitL := by
 intro pins s σ H x xs v us Q I rx r h
 obtain ⟨i, rfl, rfl, q⟩ := h
 obtain ⟨tk, rfl⟩ := rx
 cases r
 exact call_gives PySem.F.slot_int_bit_length (typeIs_int _ i tk) PySem.F.entry_int_bit_length (PySem.F.args_int_bit_length_1 _) (PySem.AutoIntG2.int_bit_length_int_0 i tk) ⟨.int _, H, I.tok _, ⟨_, rfl⟩, q⟩
theorem k_bitl (hK : X.K = K) (hbase : attributeBase o "bit_length" X.env (eval o X.env) = eval o X.env) (hline : (apos.endLine == cpos.line) = true) (ho : JE X o to) : JE X (.Call (.Attribute o "bit_length" apos) [] [] cpos) (tBM0 K "int" rBitL to) :=
 hK ▸ ⟨pe_bm0 PySem.F.plainAttrs_int PySem.F.slot_int_bit_length PySem.F.type_int_bit_length mt_bitl ho.h hbase hline⟩
def rLenD : List V → Hp → VK → Prop := fun xs H Q => ∃ (a : Addr) (kvs : List (Key × V)), xs = [.ref a] ∧ H a = some (.dK kvs) ∧ Q (.int kvs.length) H
theorem call_lenD : CallR X (.builtin "len") rLenD := by
 intro pins s σ H xs us Q I r h
 obtain ⟨a, kvs, rfl, e, q⟩ := h
 obtain ⟨u, rfl, rx⟩ := vals1 r
 cases rx
 obtain ⟨z, hd, vs, rel, dd⟩ := dk_of I.hok e
 have hl := rel.length
 have hn := line63
 refine call_len_dict hd dd (by omega) ⟨.int kvs.length, H, (I.tok _), ⟨_, by rw [hl]⟩, q⟩
theorem k_lenD (hK : X.K = K) (hg : Gl X x) (he : starEach (e :: es) X.env = (false, eval e X.env) :: starEach es X.env) (hpl : (backTo pos (starEach es X.env)).any (·.1) = false) (hx : x = "len") (hm : X.mg x = none) (ha : JA X (e :: es) t) :
 JE X (.Call (.Name x p) (e :: es) [] pos) (tCB (fun xs H Q => rLen K xs H Q ∨ rLenD xs H Q) t) := hK ▸ ⟨by subst hx; exact pe_callB (call_lenA.or call_lenD) hg hm boot_len ha.h (by decide) (by decide) he hpl⟩
end
def Itv (o : Obj) (a : Addr) (kvs : List (Key × V)) : It :=
 ⟨fun i H => H a = some (.frz o (.dK kvs)) ∧ i < kvs.length,
  fun i H v H' => H' = H ∧ ∃ kv : Key × V, kvs[i]? = some kv ∧ v = kv.2,
  fun i H => H a = some (.frz o (.dK kvs)) ∧ kvs.length ≤ i⟩
theorem turn_vals {P : Program} {w : World} {K : PySem.W.Frag} {tg : Expr} {it a : Addr} {o : Obj} {kvs : List (Key × V)} {ds : Array DictEntry} {ep : Nat} (he : o.data = .dict ds ep) :
 Turn P w K tg (Itv o a kvs) [it] it (fun i h => h.IsValIter it a i kvs.length ep) where
 mem := by simp
 obj := fun i h st b hb => by
  have e : b = it := by simpa using hb
  subst e
  obtain ⟨o, e, c, d⟩ := st
  exact ⟨o, e, fun v z => by rw [d] at z; cases z⟩
 keep := fun i h h' st k => st.at fun o e => k it (by simp) o e
 item := by
  intro X hP hw hK hc i pins s σ H E I hf st hg
  subst hP hw hK
  obtain ⟨hg, hi⟩ := hg
  obtain ⟨vs, rel, da⟩ := frz_at he I.hok hg
  obtain ⟨kv, hkv⟩ : ∃ kv, kvs[i]? = some kv := ⟨_, List.getElem?_eq_getElem hi⟩
  obtain ⟨v', hv', rx⟩ := kvGet rel hkv
  obtain ⟨f0, f1, f2, f3, f4, f5⟩ := hf it (by simp)
  rw [rel.length] at st
  refine wpAny_pyNext_values_item (knd := mixKind X.prog X.w) st da hv' fun h' st' sb => ?_
  have I1 : Inv X pins σ H { s with heap := h' } := I.turned (t' := s.toks) (fun b o hb e => (sb.2 b hb).trans e) f0 f1 f3 f4 f5
  obtain ⟨o', e, c, d⟩ := id st'
  exact ⟨v', rfl, go_of (s := { s with heap := h' }) e c d (by decide) ⟨kv.2, H, I1, rx, ⟨rfl, kv, hkv, rfl⟩, by rw [rel.length]; exact st', fun b hb => (hf b hb).1⟩⟩
 done := by
  intro X hP hw hK hc i pins s σ H E I hf st hg
  subst hP hw hK
  obtain ⟨hg, hi⟩ := hg
  obtain ⟨vs, rel, da⟩ := frz_at he I.hok hg
  obtain ⟨f0, f1, f2, f3, f4, f5⟩ := hf it (by simp)
  have hl := rel.length
  rw [rel.length] at st
  exact wpAny_pyNext_values_end (I.ok.hd hc) st da (List.getElem?_eq_none (by omega)) fun h' eb => ⟨rfl, I.turned (t' := s.toks) (fun b o hb e => eb b o hb e) f0 f1 f3 f4 f5⟩
 self := fun _ _ _ _ _ st h => wpAny_pyIter_valiter st h
def iVals (td : TE) : TI := fun σ H R => td σ H fun x H1 => ∃ a kvs, x = .ref a ∧ H1 a = some (.dK kvs) ∧ ∀ o H2, H2 = upd H1 a (.frz o (.dK kvs)) → R (Itv o a kvs) H2
theorem pi_vals (ho : PE X o td) (m : M0 X o "values" apos cpos) : PI X tg (.Call (.Attribute o "values" apos) [] [] cpos) (iVals td) := by
 intro pins s σ H R I h
 refine wpAny_Call_method m.base m.few m.line PySem.F.plainAttrs_dict PySem.F.slot_dict_values PySem.F.type_dict_values (thn (ho pins s σ H _ I h) fun u s1 ⟨x, H1, I1, rx, a, kvs, ex, e, q1⟩ => ?_)
 subst ex
 obtain rfl : u = Value.ref a := rx
 obtain ⟨t1, t2, t3⟩ := isD_at I1 (.inl ⟨kvs, .inl e⟩)
 refine ⟨t1, t2, ?_⟩
 rw [m.trees]
 obtain ⟨z, hd, vs, rel, dd⟩ := dk_of I1.hok e
 refine Calls.callWith_builtin rfl (PySem.evalArgs_none ?_)
 refine call_meetsIn PySem.F.slot_dict_values t1 PySem.F.entry_dict_values (PySem.F.args_dict_values_1 _) (meets_dict_values (mixKind X.prog X.w) a t3) ⟨⟨vs, dd⟩, ?_⟩
 obtain ⟨ob, ds, ep, g, ex, dt, rest⟩ := dd
 have gp : ∀ (h : Heap) b o', h.get? b = some o' → ∀ n, (h.push n).get? b = some o' := fun h b o' q n => Heap.get?_push_of_some _ q
 have al := Heap.lt_size g
 refine wpAny_pyIter_values (knd := mixKind X.prog X.w) (kvs := vs) (ep := ep) ⟨_, Heap.get?_push_size _ rfl, rfl, rfl⟩ ⟨ob, ds, gp _ _ _ g _, ex, dt, rest⟩ ?_
 have I2 := I1.kept (t' := s1.toks) (h' := ((s1.heap.push { cls := .type "dict_values", data := .fields #[.ref a] }).push { cls := .type "dict_valueiterator", data := .fields #[.ref a, .int 0 0, .int vs.length 0, .int ep 0] })) fun b o' q => gp _ _ _ (gp _ _ _ q _) _
 have I3 := I2.write (x := a) (e := a) (o := .frz ob (.dK kvs)) (t' := s1.toks) (by rw [e]; exact True.intro) (.inl rfl) (fun b u _ q => q) ⟨ob, gp _ _ _ (gp _ _ _ g _) _⟩ ⟨gp _ _ _ (gp _ _ _ g _) _, z, hd, vs, rel, ob, ds, ep, gp _ _ _ (gp _ _ _ g _) _, ex, dt, rest⟩
 have sz : (s1.heap.push { cls := .type "dict_values", data := .fields #[.ref a] }).objs.size = s1.heap.objs.size + 1 := Heap.size_push ..
 refine ⟨(s1.heap.push { cls := .type "dict_values", data := .fields #[.ref a] }).objs.size, [_], _, _, _, rfl, I3, turn_vals dt, ⟨_, Heap.get?_push_size _ rfl, rfl, by rw [rel.length]; rfl⟩, fun c hc => ?_, q1 ob _ rfl⟩
 have hc := List.mem_singleton.mp hc
 subst hc
 have hb : s1.heap.objs.size ≤ (s1.heap.push { cls := .type "dict_values", data := .fields #[.ref a] }).objs.size := by rw [sz]; omega
 have f := I1.fpOk hb (I1.hok.fresh hb)
 refine ⟨?_, f.2⟩
 rw [upd_ne (Nat.ne_of_gt (by rw [sz]; exact Nat.lt_succ_of_lt al))]; exact f.1
theorem k_vals (h1 : attributeBase o "values" X.env (eval o X.env) = eval o X.env)
 (h2 : ((backTo cpos (starEach [] X.env)).all (fun x => !x.1) && (backToKw cpos (keywordEach [] X.env)).all (fun x => x.1.isSome)
  && decide (([] : List Expr).length + ([] : List Keyword).length + (if ([] : List Keyword).isEmpty then 0 else 1) < 30)) = true) (h3 : (apos.endLine == cpos.line) = true) (h4 : backTo cpos (starEach [] X.env) = []) (ho : JE X o td) :
 JI X tg (.Call (.Attribute o "values" apos) [] [] cpos) (iVals td) := ⟨pi_vals ho.h ⟨h1, h2, h3, h4⟩⟩
section
theorem cmp_vals (hn : kvs.length ≤ 1000) (Pv : Nat → List V → L2.St → Hp → Prop) (h0 : Pv 0 [] σ0 H0) (hl : ∀ i ys σ H, i ≤ kvs.length → Pv i ys σ H → H a = some (.frz ob (.dK kvs)) ∧ ys.length ≤ i)
 (hs : ∀ i kv ys σ H (N : List V → L2.St → Hp → Prop), kvs[i]? = some kv → Pv i ys σ H → (∀ ys' σ' H', Pv (i + 1) ys' σ' H' → N ys' σ' H') →
  g kv.2 σ H fun σ3 H3 => tt σ3 H3 fun b H4 => if b = true then te σ3 H4 fun y H5 => N (ys ++ [y]) σ3 H5 else N ys σ3 H4)
 (hd : ∀ ys σ H, Pv kvs.length ys σ H → Z ys H) : Cmp (Itv ob a kvs) g tt te σ0 H0 Z := by
 have hsz := sizeLine_eq
 refine ⟨fun i m ys σ H => m = kvs.length - i ∧ i ≤ kvs.length ∧ Pv i ys σ H, ⟨kvs.length, by simp, Nat.zero_le _, h0⟩, ?_⟩
 rintro i m ys σ H ⟨rfl, hi, p⟩
 obtain ⟨q1, hy⟩ := hl i ys σ H hi p
 refine ⟨by omega, ?_⟩
 by_cases hlt : i < kvs.length
 · refine .inr ⟨⟨q1, hlt⟩, fun v H' yl => ?_⟩
   obtain ⟨rfl, kv, e, rfl⟩ := yl
   exact hs i kv ys σ _ (fun ys' σ' H' => ∃ m', m' < kvs.length - i ∧ m' = kvs.length - _ ∧ i + 1 ≤ kvs.length ∧ Pv (i + 1) ys' σ' H') e p fun ys' σ' H' p' => ⟨kvs.length - (i + 1), by omega, rfl, hlt, p'⟩
 · have e : i = kvs.length := by omega
   subst e
   exact .inl ⟨⟨q1, Nat.le_refl _⟩, hd ys σ H p⟩
end
section
theorem sorted_gen2 {α : Type} {p : Addr} {f : α → V} {g : α → Value} {pins : List (Addr × Obj)} {s : Shared} {σ : L2.St} {Q : VK} (F : Shared → Hp → List α → Prop) (lt : Hp → Keyed → Keyed → Bool) (O : ∀ H, Tim.Ord (lt H))
 (col : ∀ (R : List Value → Shared → Prop) (E : Value → Shared → Prop), (∀ (s1 : Shared) (H1 : Hp) (zs : List α), Inv X pins σ H1 s1 → F s1 H1 zs → R (zs.map g) s1) → wpAny (model X.prog X.w) X.A.in1 (collect (.ref p)) R E s)
 (each : ∀ s1 H1 zs, F s1 H1 zs → (∀ z ∈ zs, RelV (f z) (g z)) ∧ zs.length ≤ sizeLine)
 (hk : ∀ s1 H1 zs, Inv X pins σ H1 s1 → F s1 H1 zs → 2 ≤ zs.length → ∀ h6 : Heap, (∀ b o, H1 b ≠ none → s1.heap.get? b = some o → h6.get? b = some o) →
  ∃ κ, (∀ Q : SortKind → Shared → Prop, ∀ E, Q κ { s1 with heap := h6 } → wpAny (model X.prog X.w) X.A.in1.in1 (keyKind' (zs.map g).toArray) Q E { s1 with heap := h6 }) ∧ PureLt X.prog X.w X.A.in1.in1 { s1 with heap := h6 } κ (pairsOf (zs.map g)) (lt H1))
 (q : ∀ s1 H1 zs, F s1 H1 zs → ∀ (l : Addr) (ys : List α) (H' : Hp), H1 l = none → L2.Same H1 H' → H' l = some (.lst (ys.map f)) → ys.Perm zs → (ys.map fun z => ((g z, g z) : Keyed)).Pairwise (Tim.Le (lt H1)) → Q (.ref l) H') :
 wpAny (model X.prog X.w) X.A (call (.builtin "sorted") [.ref p]) (EP X pins σ Q) X.xe s := by
 have hsz : (sizeLine : Nat) = 16777216 := sizeLine_eq
 refine Calls.call_function_entry kind_sorted plain_sorted entry_sorted (args_sorted1 _) ?_
 unfold Builtin.«sorted»
 refine wpAny_bind (m := checkCount "sorted" 1 1 _) (wpAny_pure ?_)
 refine wpAny_bind (col _ _ fun s1 H zs I1 hF => ?_)
 obtain ⟨each, hzz⟩ := each s1 H zs hF
 have hk := hk s1 H zs I1 hF
 have q := q s1 H zs hF
 clear hF
 obtain ⟨h', gs, dr, tk, os⟩ := s1
 refine wpAny_bind (wpAny_newList ?_ (by rw [List.length_map]; omega))
 have hoL : (h'.push (seqObj "list" (zs.map g).toArray 0)).get? h'.objs.size = some (seqObj "list" (zs.map g).toArray 0) := Heap.get?_push_size _ rfl
 have hfr : H h'.objs.size = none := I1.hok.fresh (Nat.le_refl _)
 refine wpAny_bind (wpAny_holding (wpAny_call_entry slot_list_sort ⟨_, hoL, rfl⟩ entry_list_sort (sort_any (R := fun out => ∃ ys : List α, out = (ys.map g).toArray ∧ ys.Perm zs ∧ (ys.map fun z => ((g z, g z) : Keyed)).Pairwise (Tim.Le (lt H))) hoL (by rw [List.length_map]; omega) (fun h1 => ⟨zs, rfl, List.Perm.refl _, ?_⟩) (fun h2 h6 old => ?_) fun out ho ⟨ys, hR, hp, hs⟩ => ⟨_, rfl, ?_⟩) (args_list_sort _)))
 · rw [List.length_map] at h1
   match zs, h1 with
   | [], _ => exact List.Pairwise.nil
   | [_], _ => exact List.pairwise_singleton _ _
   | _ :: _ :: _, h => simp at h; omega
 · rw [List.length_map] at h2
   obtain ⟨κ, k1, k2⟩ := hk h2 h6 fun b o hb e => old b o (fun z => hb (by rw [z]; exact hfr)) (Heap.get?_push_of_some _ e)
   refine k1 _ _ ⟨rfl, ?_⟩
   refine Tim.sortRuns_ok (O H) k2 fun v e1 e2 e3 => ⟨e1, ?_, ?_⟩
   · have := e2.length_eq
     rw [Array.length_toList, pairsOf_toList, List.length_zip] at this
     omega
   · have e := pairs_map g zs
     rw [e] at e2
     obtain ⟨ys, h3, h4⟩ := perm_lift (fun z => ((g z, g z) : Keyed)) e2 rfl
     refine ⟨ys, ?_, h3, by rw [h4]; exact e3⟩
     apply Array.toList_inj.mp
     rw [Array.toList_map, ← h4, List.map_map]; simp
 · refine wpAny_pure ⟨_, rfl, ?_⟩
   subst hR
   obtain ⟨n', e'⟩ : ∃ n', (sortedHeap (h'.push (seqObj "list" (zs.map g).toArray 0)) h'.objs.size (zs.map g) (ys.map g).toArray).get? h'.objs.size = some (seqObj "list" (ys.map g).toArray n') := sortedHeap_at hoL
   have keep : ∀ b o, h'.get? b = some o → (sortedHeap (h'.push (seqObj "list" (zs.map g).toArray 0)) h'.objs.size (zs.map g) (ys.map g).toArray).get? b = some o := fun b o e => by
    have hb := Heap.lt_size e
    rw [sortedHeap_old (Nat.ne_of_lt hb) (by rw [Heap.size_push]; exact Nat.lt_succ_of_lt hb)]
    exact Heap.get?_push_of_some _ e
   have vals : ∀ {l : List α}, (∀ z ∈ l, RelV (f z) (g z)) → Vals (l.map f) (l.map g) := fun {l} => by
    induction l with
    | nil => exact fun _ => .nil
    | cons a l ih => exact fun h => .cons (h a (.head _)) (ih fun z hz => h z (.tail _ hz))
   have I2 : Inv X pins σ (upd H h'.objs.size (.lst (ys.map f))) ⟨sortedHeap (h'.push (seqObj "list" (zs.map g).toArray 0)) h'.objs.size (zs.map g) (ys.map g).toArray, gs, dr, tk, os⟩ :=
    I1.laid (t' := tk) keep (Nat.le_refl _) (show ObjOk X.prog X.w _ _ _ (.lst (ys.map f)) from ⟨by rw [List.length_map, hp.length_eq]; exact hzz, ys.map g, n', vals fun z hz => each z (hp.mem_iff.mp hz), e'⟩)
   exact ⟨.ref h'.objs.size, _, I2, rfl, q _ ys _ hfr (Br.Same.upd hfr) upd_same hp hs⟩
open Classical in
theorem lay_pairs {pins : List (Addr × Obj)} {σ : L2.St} {H : Hp} {s : Shared} {h' : Heap} {tk : Nat} {as : List Addr} {qs : List (Int × Int)} (I : Inv X pins σ H s) (keep : ∀ b o, s.heap.get? b = some o → h'.get? b = some o) (rise : as.Pairwise (· < ·))
 (above : ∀ a ∈ as, s.heap.objs.size ≤ a) (pairs : ∀ (j : Nat) (a : Addr), as[j]? = some a → ∃ (q : Int × Int) (t u : Tok), qs[j]? = some q ∧ h'.get? a = some { cls := .type "tuple", data := .seq #[.int q.1 t, .int q.2 u] }) :
 ∃ H1, Inv X pins σ H1 { s with heap := h', toks := tk } ∧ L2.Same H H1 ∧ ∀ (j : Nat) (a : Addr), as[j]? = some a → ∃ q : Int × Int, qs[j]? = some q ∧ H1 a = some (.tup [.int q.1, .int q.2]) := by
 have ndp : ∀ {i j : Nat} {a : Addr}, as[i]? = some a → as[j]? = some a → i = j := fun {i j a} h1 h2 => by
  obtain ⟨l1, e1⟩ := List.getElem?_eq_some_iff.mp h1
  obtain ⟨l2, e2⟩ := List.getElem?_eq_some_iff.mp h2
  rcases Nat.lt_trichotomy i j with z | z | z
  · have := List.pairwise_iff_getElem.mp rise i j l1 l2 z; rw [e1, e2] at this; exact absurd this (Nat.lt_irrefl _)
  · exact z
  · have := List.pairwise_iff_getElem.mp rise j i l2 l1 z; rw [e1, e2] at this; exact absurd this (Nat.lt_irrefl _)
 let H1 : Hp := fun b => if h : ∃ q : Int × Int, ∃ j : Nat, as[j]? = some b ∧ qs[j]? = some q then some (.tup [.int h.choose.1, .int h.choose.2]) else H b
 have at1 : ∀ {j : Nat} {a : Addr} {q : Int × Int}, as[j]? = some a → qs[j]? = some q → H1 a = some (.tup [.int q.1, .int q.2]) := fun {j a q} h1 h2 => by
  have h : ∃ q : Int × Int, ∃ j : Nat, as[j]? = some a ∧ qs[j]? = some q := ⟨q, j, h1, h2⟩
  show (if h : ∃ q : Int × Int, ∃ j : Nat, as[j]? = some a ∧ qs[j]? = some q then some (.tup [.int h.choose.1, .int h.choose.2]) else H a) = _
  rw [dif_pos h]
  obtain ⟨i, h3, h4⟩ := h.choose_spec
  have e := ndp h1 h3
  subst e
  rw [h2] at h4
  cases h4
  rfl
 have off : ∀ {b : Addr}, b < s.heap.objs.size → H1 b = H b := fun {b} hb => by
  show (if h : ∃ q : Int × Int, ∃ j : Nat, as[j]? = some b ∧ qs[j]? = some q then some (.tup [.int h.choose.1, .int h.choose.2]) else H b) = _
  rw [dif_neg]
  rintro ⟨q, j, h1, _⟩
  exact absurd hb (Nat.not_lt.mpr (above b (List.mem_of_getElem? h1)))
 have old : ∀ {b : Addr} {v : HO}, H b = some v → b < s.heap.objs.size := fun {b v} e => by
  by_cases hb : b < s.heap.objs.size
  · exact hb
  · rw [I.hok.fresh (Nat.le_of_not_lt hb)] at e; cases e
 refine ⟨H1, ?_, fun b v e => (off (old e)).trans e, fun j a h => ?_⟩
 · refine I.step (g' := s.gens) (d' := s.drawn) (t' := tk) (ch := []) (fun b hb => nomatch hb) (fun b ob _ _ _ q _ => keep b ob q) (fun b ob _ _ _ q _ => ⟨ob.slots, keep b ob q⟩) (fun b ob _ q n => (off (Heap.lt_size q)).trans n) (fun b ob _ q => ⟨ob, keep b ob q⟩)
    (fun b v q => (off (old q)).trans q) (fun b v v' q => (off (old q)).trans q) (fun b v q => ⟨#[], by rw [off (old q), q]; simp⟩) (fun m hm => ?_) (fun b v q => ?_) I.bare
   · obtain ⟨ob, es, ep, ho, r⟩ := hm
     exact ⟨ob, es, ep, keep _ ob ho, r⟩
   · by_cases hb : b < s.heap.objs.size
     · rw [off hb] at q
       exact (I.hok b v q).stay (fun c' ob hc' q' => keep c' ob q') (fun c' q' => (off (old q')).trans q') fun c' vs q' => (off (old q')).trans q'
     · have q' : (if h : ∃ q : Int × Int, ∃ j : Nat, as[j]? = some b ∧ qs[j]? = some q then some (HO.tup [.int h.choose.1, .int h.choose.2]) else H b) = some v := q
       by_cases hx : ∃ q : Int × Int, ∃ j : Nat, as[j]? = some b ∧ qs[j]? = some q
       · obtain ⟨p, j, h1, h2⟩ := hx
         rw [at1 h1 h2] at q
         cases q
         obtain ⟨p', t, u, h3, h4⟩ := pairs j b h1
         rw [h2] at h3
         cases h3
         exact ⟨by show 2 ≤ sizeLine; decide, [.int p.1 t, .int p.2 u], .cons ⟨t, rfl⟩ (.cons ⟨u, rfl⟩ .nil), ⟨_, h4, rfl, rfl, _, rfl⟩⟩
       · rw [dif_neg hx] at q'
         exact absurd (old q') hb
 · obtain ⟨q, _, _, h2, _⟩ := pairs j a h
   exact ⟨q, h2, at1 h h2⟩
def vv2 (ks : List (Int × Int)) : List (Key × V) := ks.map fun q => (.inl q.1, .int q.2)
def tSortIt (td : TE) : TE := fun σ H Q => td σ H fun x H1 => ∃ (a : Addr) (ks : List (Int × Int)), x = .ref a ∧ H1 a = some (.dK (vv2 ks)) ∧
 ∀ (l : Addr) (bs : List Addr) (qs : List (Int × Int)) (H2 : Hp), H1 l = none → L2.Same H1 H2 → H2 l = some (.lst (bs.map V.ref)) → bs.length = qs.length → (∀ (i : Nat) b, bs[i]? = some b → ∃ q : Int × Int, qs[i]? = some q ∧ H2 b = some (.tup [.int q.1, .int q.2])) →
  qs.Perm ks → qs.Pairwise (fun u v => HT.lexLt [v.1, v.2] [u.1, u.2] = false) → Q (.ref l) H2
theorem kv_pairs {P : Program} {w : World} (r : KV (vv2 ks) vs) {j : Nat} {k : Key} {v key : Value} (e : vs[j]? = some (k, v)) (hk : (mixKind P w).is k key = true) : ∃ (q : Int × Int) (t u : Tok), ks[j]? = some q ∧ key = .int q.1 t ∧ v = .int q.2 u := by
 have hl := r.length
 have hj : j < (vv2 ks).length := by rw [hl]; exact (List.getElem?_eq_some_iff.mp e).1
 have hj' : j < ks.length := by unfold vv2 at hj; simp_all
 have hkv : (vv2 ks)[j]? = some (.inl ks[j].1, .int ks[j].2) := by unfold vv2; simp_all
 obtain ⟨v', h1, h2⟩ := kvGet r hkv
 rw [e] at h1
 cases h1
 obtain ⟨u, rfl⟩ := h2
 obtain ⟨t, rfl⟩ := is_rel hk
 exact ⟨ks[j], t, u, List.getElem?_eq_getElem hj', rfl, rfl⟩
theorem pe_sortIt (ho : PE X o td) (m : M0 X o "items" apos cpos) (hg : Gl X "sorted") (hm : X.mg "sorted" = none) (hc : X.calm = true)
 (he : starEach [.Call (.Attribute o "items" apos) [] [] cpos] X.env = (false, eval (.Call (.Attribute o "items" apos) [] [] cpos) X.env) :: starEach [] X.env) (hpl : (backTo pos (starEach [] X.env)).any (·.1) = false) :
 PE X (.Call (.Name "sorted" p) [.Call (.Attribute o "items" apos) [] [] cpos] [] pos) (tSortIt td) := by
 intro pins s σ H Q I h
 refine wpAny_Call_Name_kw (ld_blt I hg hm boot_sorted ?_ (by decide) (by decide))
 refine PyProof.Rows.callWith_builtin1 ?_ he hpl
 rw [he]
 show wpAny _ _ (spliced ((false, eval (.Call (.Attribute o "items" apos) [] [] cpos) X.env) :: backTo pos (starEach [] X.env))) _ _ s
 refine Calls.spliced_cons ?_
 refine wpAny_Call_method m.base m.few m.line PySem.F.plainAttrs_dict PySem.F.slot_dict_items PySem.F.type_dict_items (thn (ho pins s σ H _ I h) fun u s1 ⟨x, H1, I1, rx, a, ks, ex, e, q1⟩ => ?_)
 subst ex
 obtain rfl : u = Value.ref a := rx
 obtain ⟨t1, t2, t3⟩ := isD_at I1 (.inl ⟨_, .inl e⟩)
 refine ⟨t1, t2, ?_⟩
 rw [m.trees]
 obtain ⟨z, hd, vs, rel, dd⟩ := dk_of I1.hok e
 refine Calls.callWith_builtin rfl (PySem.evalArgs_none ?_)
 refine call_meetsIn PySem.F.slot_dict_items t1 PySem.F.entry_dict_items (PySem.F.args_dict_items_1 _) (meets_dict_items (mixKind X.prog X.w) a t3) ⟨⟨vs, dd⟩, ?_⟩
 obtain ⟨ob, ds, ep, g, ex, dt, rest⟩ := dd
 have gp : ∀ b o', s1.heap.get? b = some o' → ∀ n, (s1.heap.push n).get? b = some o' := fun b o' q n => Heap.get?_push_of_some _ q
 have I2 := I1.kept (t' := s1.toks) (h' := s1.heap.push { cls := .type "dict_items", data := .fields #[.ref a] }) fun b o' q => gp _ _ q _
 have hv : (s1.heap.push { cls := .type "dict_items", data := .fields #[.ref a] }).IsItemsView s1.heap.objs.size a := ⟨_, Heap.get?_push_size _ rfl, rfl, rfl⟩
 have hm2 : (s1.heap.push { cls := .type "dict_items", data := .fields #[.ref a] }).DictAt (mixKind X.prog X.w) a vs ep := ⟨ob, ds, gp _ _ g _, ex, dt, rest⟩
 refine Calls.spliced_nil ?_
 have hvl : vs.length ≤ sizeLine := by rw [← rel.length]; exact z
 refine sorted_gen2 (α := Addr × (Int × Int)) (f := fun z => .ref z.1) (g := fun z => .ref z.1) (fun _ H' zs => L2.Same H1 H' ∧ (∀ z ∈ zs, H' z.1 = some (.tup ([z.2.1, z.2.2].map V.int))) ∧ zs.map (·.2) = ks ∧ zs.length ≤ sizeLine)
  (fun H' x y => HT.lexLt (tkey H' x.1) (tkey H' y.1)) (fun H' => ord_lex fun x => tkey H' x.1) (fun R E hR => ?_) (fun s3 H3 zs hF => ⟨fun z _ => rfl, hF.2.2.2⟩) (fun s3 H3 zs I3 hF h2 h6 old => ?_) (fun s3 H3 zs hF l ys H' n1 q3 e1 hp hs => ?_)
 · refine PySem.W.kdx_collect (A := X.A.in1) (I.ok.hd hc) hv hm2 hvl fun h' tk as keep len G => ?_
   have hkl : as.length = ks.length := by rw [len, ← rel.length]; unfold vv2; rw [List.length_map]
   obtain ⟨H3, I3, s3, at3⟩ := lay_pairs (tk := tk) (qs := ks) I2 keep G.rise (fun a ha => Nat.le_of_lt (G.above a ha)) fun j a hj => by
    obtain ⟨key, k, x, h1, h2, h3⟩ := G.pairs j a hj
    obtain ⟨q, t, u, e1, rfl, rfl⟩ := kv_pairs rel h1 h2
    exact ⟨q, t, u, e1, h3⟩
   have := hR _ H3 (as.zip ks) I3 ⟨s3, fun z hz => ?_, List.map_snd_zip (by omega), by rw [List.length_zip, hkl, Nat.min_self]; rw [← hkl, len]; exact hvl⟩
   · have e : (as.zip ks).map (fun z => Value.ref z.1) = as.map Value.ref := by
      have : (as.zip ks).map (·.1) = as := List.map_fst_zip (by omega)
      calc (as.zip ks).map (fun z => Value.ref z.1) = ((as.zip ks).map (·.1)).map Value.ref := by rw [List.map_map]; rfl
       _ = _ := by rw [this]
     rw [e] at this
     exact this
   · obtain ⟨i, hi, e⟩ := List.getElem_of_mem hz
     have e' : (as.zip ks)[i]? = some z := by rw [List.getElem?_eq_getElem hi, e]
     rw [List.getElem?_zip_eq_some] at e'
     obtain ⟨q, h1, h2⟩ := at3 i z.1 e'.1
     rw [e'.2] at h1; cases h1
     exact h2
 · obtain ⟨_, each, _, _⟩ := hF
   have tup : ∀ z ∈ zs, ∃ its : List Value, IntsAre its [z.2.1, z.2.2] ∧ IsTup h6 z.1 its.toArray := fun z hz => by
    obtain ⟨its, rt, ⟨o, ho, hc, n, hd⟩, _⟩ := I3.tuple (SqT.of (each z hz))
    exact ⟨its, vals_ints rt, o, old z.1 o (by rw [each z hz]; exact fun z => nomatch z) ho, hc, n, hd⟩
   have kt : ∀ l : List (Addr × (Int × Int)), (∀ z ∈ l, z ∈ zs) → ∃ fs : List Value, PySem.W.KatTups h6 (l.map fun z => Value.ref z.1) fs ∧ fs.length = l.length ∧ ∀ v ∈ fs, ∃ n t, v = Value.int n t := fun l => by
    induction l with
    | nil => exact fun _ => ⟨[], trivial, rfl, fun v hv => nomatch hv⟩
    | cons a l ih =>
     intro hl
     obtain ⟨fs, f1, f2, f3⟩ := ih fun b hb => hl b (.tail _ hb)
     obtain ⟨its, hi, o, ho, hc, n, hd⟩ := tup a (hl a (.head _))
     obtain ⟨aa, aw⟩ := a
     cases hi with
     | cons n0 t0 r0 => exact ⟨.int aw.1 t0 :: fs, PySem.W.KatTups.cons ho hc hd (by simp) f1, by rw [List.length_cons, List.length_cons, f2], fun v hv => by
      rcases List.mem_cons.mp hv with z | z
      · exact ⟨_, _, z⟩
      · exact f3 v z⟩
   obtain ⟨fs, f1, f2, f3⟩ := kt zs fun _ h => h
   refine ⟨tuples' true, fun Q E hQ => PySem.W.kat_kind (T := .type "int") f1 (by omega) (fun v hv => by obtain ⟨n, t, rfl⟩ := f3 v hv; exact .now) (by decide) hQ, fun x y hx hy Q E hQ => ?_⟩
   rw [pairs_map] at hx hy
   obtain ⟨z1, m1, e1⟩ := List.mem_map.mp hx
   obtain ⟨z2, m2, e2⟩ := List.mem_map.mp hy
   obtain ⟨it1, i1, o1, ho1, _, n1, hd1⟩ := tup z1 m1
   obtain ⟨it2, i2, o2, ho2, _, n2, hd2⟩ := tup z2 m2
   rw [← e1, ← e2] at hQ ⊢
   have hQ : Q (HT.lexLt (tkey H3 (.ref z1.1)) (tkey H3 (.ref z2.1))) _ := hQ
   rw [tkey_of (each z1 m1), tkey_of (each z2 m2)] at hQ
   refine PySem.W.kat_lt ho1 hd1 ho2 hd2 (katLex_ints rfl ?_ ?_ ?_ hQ)
   · simpa using i1
   · simpa using i2
   · have y1 := i1.length
     have y2 := i2.length
     simp only [List.length_cons, List.length_nil] at y1 y2
     simp; omega
 · obtain ⟨s13, each, hks, _⟩ := hF
   have nl : H1 l = none := by
    cases hq : H1 l with
    | none => rfl
    | some v => have := s13 _ _ hq; rw [n1] at this; cases this
   refine q1 l (ys.map (·.1)) (ys.map (·.2)) H' nl (s13.trans q3) ?_ (by rw [List.length_map, List.length_map]) (fun i b hb => ?_) (by rw [← hks]; exact hp.map _) ?_
   · rw [e1, List.map_map]; rfl
   · rw [List.getElem?_map] at hb
     obtain ⟨z, hz, rfl⟩ := Option.map_eq_some_iff.mp hb
     exact ⟨z.2, by rw [List.getElem?_map, hz]; rfl, q3 _ _ (each z (hp.mem_iff.mp (List.mem_of_getElem? hz)))⟩
   · rw [List.pairwise_map] at hs ⊢
     refine List.Pairwise.imp_of_mem (fun {a b} ha hb h => ?_) hs
     have h : HT.lexLt (tkey H3 (.ref b.1)) (tkey H3 (.ref a.1)) = false := h
     rw [tkey_of (each b (hp.mem_iff.mp hb)), tkey_of (each a (hp.mem_iff.mp ha))] at h
     exact h
theorem k_sortIt (h1 : attributeBase o "items" X.env (eval o X.env) = eval o X.env)
 (h2 : ((backTo cpos (starEach [] X.env)).all (fun x => !x.1) && (backToKw cpos (keywordEach [] X.env)).all (fun x => x.1.isSome)
  && decide (([] : List Expr).length + ([] : List Keyword).length + (if ([] : List Keyword).isEmpty then 0 else 1) < 30)) = true) (h3 : (apos.endLine == cpos.line) = true) (h4 : backTo cpos (starEach [] X.env) = [])
 (hg : Gl X "sorted") (hm : X.mg "sorted" = none) (hc : X.calm = true)
 (he : starEach [.Call (.Attribute o "items" apos) [] [] cpos] X.env = (false, eval (.Call (.Attribute o "items" apos) [] [] cpos) X.env) :: starEach [] X.env) (hpl : (backTo pos (starEach [] X.env)).any (·.1) = false) (ho : JE X o td) :
 JE X (.Call (.Name "sorted" p) [.Call (.Attribute o "items" apos) [] [] cpos] [] pos) (tSortIt td) := ⟨pe_sortIt ho.h ⟨h1, h2, h3, h4⟩ hg hm hc he hpl⟩
end
def dlook : List (Int × Int) → Int → Option Int
 | [], _ => none
 | q :: ks, n => if q.1 = n then some q.2 else dlook ks n
theorem dlook_cons (q : Int × Int) (ks : List (Int × Int)) (n : Int) : dlook (q :: ks) n = if q.1 = n then some q.2 else dlook ks n := rfl
theorem val_vv2 : ∀ (ks : List (Int × Int)) (n : Int), valV (vv2 ks) (.inl n) = (dlook ks n).map V.int
 | [], _ => rfl
 | q :: ks, n => by
  by_cases e : q.1 = n
  · rw [show vv2 _ = ((Sum.inl q.1 : Key), V.int q.2) :: vv2 ks from rfl, valV_pos (by grind)]
    rw [dlook_cons, if_pos e]; rfl
  · rw [show vv2 _ = ((Sum.inl q.1 : Key), V.int q.2) :: vv2 ks from rfl, valV_neg (fun z => e (by simp_all)), val_vv2 ks n]
    rw [dlook_cons, if_neg e]
theorem dlook_none : ∀ {ks : List (Int × Int)} {n : Int}, n ∉ ks.map (·.1) → dlook ks n = none
 | [], _, _ => rfl
 | q :: ks, n, h => by
  rw [dlook_cons, if_neg (fun e => h (by rw [← e]; exact .head _)), dlook_none fun z => h (.tail _ z)]
theorem dlook_some : ∀ {ks : List (Int × Int)} {n c : Int}, dlook ks n = some c → (n, c) ∈ ks
 | q :: ks, n, c, h => by
  rw [dlook_cons] at h
  by_cases e : q.1 = n
  · grind
  · rw [if_neg e] at h; exact .tail _ (dlook_some h)
theorem dlook_key (h : n ∈ ks.map (·.1)) : ∃ c, dlook ks n = some c := by
 induction ks with
 | nil => simp_all
 | cons q ks ih =>
  rw [dlook_cons]
  by_cases e : q.1 = n
  · simp_all
  · rw [if_neg e]
    rcases List.mem_cons.mp h with z | z
    · simp_all
    · exact ih z
theorem dlook_mem (nd : (ks.map (·.1)).Nodup) (q : Int × Int) : q ∈ ks ↔ dlook ks q.1 = some q.2 := by
 refine ⟨fun h => ?_, fun h => dlook_some h⟩
 induction ks with
 | nil => cases h
 | cons r ks ih =>
  rw [List.map_cons, List.nodup_cons] at nd
  rw [dlook_cons]
  rcases List.mem_cons.mp h with z | z
  · simp_all
  · rw [if_neg (fun e => nd.1 (by rw [e]; exact List.mem_map.mpr ⟨q, z, rfl⟩))]
    simp_all
def dput (ks : List (Int × Int)) (n m : Int) : List (Int × Int) := if n ∈ ks.map (·.1) then ks.map (fun q => if q.1 = n then (q.1, m) else q) else ks ++ [(n, m)]
theorem vv2_keys (ks : List (Int × Int)) (n : Int) : ((vv2 ks).any fun p => decide (p.1 = (Sum.inl n : Key))) = decide (n ∈ ks.map (·.1)) := by
 induction ks with
 | nil => rfl
 | cons q ks ih =>
  show (decide ((Sum.inl q.1 : Key) = Sum.inl n) || (vv2 ks).any fun p => decide _) = _
  rw [ih]
  by_cases e : q.1 = n
  · rw [decide_eq_true (by rw [e]), decide_eq_true (show n ∈ (q :: ks).map _ by rw [← e]; exact .head _)]; rfl
  · rw [decide_eq_false (fun z => e (by injection z))]
    show decide _ = decide _
    by_cases h : n ∈ ks.map (·.1)
    · rw [decide_eq_true h, decide_eq_true (.tail _ h)]
    · rw [decide_eq_false h, decide_eq_false (fun z => by
       rcases List.mem_cons.mp z with z | z
       · grind
       · exact h z)]
theorem put_vv2 (ks : List (Int × Int)) (n m : Int) : putK (vv2 ks) (.inl n) (.int m) = vv2 (dput ks n m) := by
 unfold putK dput
 rw [vv2_keys]
 by_cases h : n ∈ ks.map (·.1)
 · rw [if_pos (decide_eq_true h), if_pos h]
   unfold vv2
   rw [List.map_map, List.map_map]
   refine List.map_congr_left fun q _ => ?_
   by_cases e : q.1 = n
   · simp [e]
   simp_all
 · rw [if_neg (fun z => h (of_decide_eq_true z)), if_neg h]
   unfold vv2
   simp
theorem dput_keys (ks : List (Int × Int)) (n m : Int) : (dput ks n m).map (·.1) = if n ∈ ks.map (·.1) then ks.map (·.1) else ks.map (·.1) ++ [n] := by
 unfold dput
 split
 · rw [List.map_map]
   refine List.map_congr_left fun q _ => ?_
   show (if q.1 = n then (q.1, m) else q).1 = q.1
   split <;> rfl
 simp
theorem dput_nodup (n m : Int) (nd : (ks.map (·.1)).Nodup) : ((dput ks n m).map (·.1)).Nodup := by
 rw [dput_keys]
 split
 · omega
 · rename_i h
   refine List.nodup_append.mpr ⟨nd, List.nodup_cons.mpr ⟨fun h => (nomatch h), List.nodup_nil⟩, fun a ha b hb => ?_⟩
   rw [List.mem_singleton.mp hb]
   exact fun e => h (by rw [← e]; omega)
theorem dput_len (ks : List (Int × Int)) (n m : Int) : (dput ks n m).length ≤ ks.length + 1 := by
 unfold dput
 split
 · simp
 simp
theorem dput_mem (h : q ∈ dput ks n m) : q ∈ ks ∨ q = (n, m) := by
 unfold dput at h
 split at h
 · obtain ⟨r, hr, rfl⟩ := List.mem_map.mp h
   by_cases e : r.1 = n
   · simp_all
   simp_all
 simp_all
theorem dlook_app : ∀ (ks : List (Int × Int)) (q : Int × Int) (j : Int), dlook (ks ++ [q]) j = match dlook ks j with | some c => some c | none => if q.1 = j then some q.2 else none
 | [], q, j => rfl
 | r :: ks, q, j => by
  rw [List.cons_append, dlook_cons, dlook_cons]
  by_cases e : r.1 = j
  · simp_all
  · rw [if_neg e, if_neg e]; exact dlook_app ks q j
theorem dput_look (ks : List (Int × Int)) (n m j : Int) : dlook (dput ks n m) j = if n = j then some m else dlook ks j := by
 unfold dput
 split
 · rename_i h
   induction ks with
   | nil => simp at h
   | cons q ks ih =>
    rw [List.map_cons, dlook_cons, dlook_cons]
    by_cases e : q.1 = n
    · rw [if_pos e]
      by_cases e2 : n = j
      · rw [if_pos (e.trans e2), if_pos e2]
      · rw [if_neg (fun z => e2 (e.symm.trans z)), if_neg e2, if_neg (fun z => e2 (e.symm.trans z))]
        by_cases h' : n ∈ ks.map (·.1)
        · rw [ih h', if_neg e2]
        · have : (ks.map fun q => if q.1 = n then (q.1, m) else q) = ks := by
           clear ih h
           induction ks with
           | nil => rfl
           | cons r ks ih2 =>
            rw [List.map_cons, if_neg (fun e => h' (by rw [← e]; exact .head _)), ih2 fun z => h' (.tail _ z)]
          rw [this]
    · rw [if_neg e]
      have h' : n ∈ ks.map (·.1) := by
       rcases List.mem_cons.mp h with z | z
       · exact absurd z.symm e
       · exact z
      by_cases e2 : q.1 = j
      · rw [if_pos e2, if_neg (fun z => e (e2.trans z.symm)), if_pos e2]
      · rw [if_neg e2, if_neg e2, ih h']
 · rename_i h
   rw [dlook_app]
   by_cases e : n = j
   · subst e
     rw [dlook_none h, if_pos rfl]
   · rw [if_neg e]
     cases dlook ks j <;> simp [e]
def Ris (qs : List (Int × Int)) : Prop := qs.Pairwise fun a b => a.1 < b.1
theorem Ris.nodup (h : Ris qs) : (qs.map (·.1)).Nodup := by
 unfold List.Nodup
 rw [List.pairwise_map]
 exact h.imp fun z e => by omega
theorem sort_keys {ks : List (Int × Int)} {ns : List Int} (nd : (ks.map (·.1)).Nodup) (hp : ns.Perm (ks.map (·.1))) (hs : ns.Pairwise (· ≤ ·)) :
 Ris (ns.map fun n => (n, (dlook ks n).getD 0)) ∧ ∀ q, q ∈ (ns.map fun n => (n, (dlook ks n).getD 0)) ↔ q ∈ ks := by
 have nd' : ns.Nodup := hp.nodup_iff.mpr nd
 refine ⟨?_, fun q => ?_⟩
 · unfold Ris
   rw [List.pairwise_map]
   exact (hs.and nd').imp fun {a b} ⟨h1, h2⟩ => by show a < b; omega
 · constructor
   · intro h
     obtain ⟨n, hn, rfl⟩ := List.mem_map.mp h
     obtain ⟨c, hc⟩ := dlook_key (hp.mem_iff.mp hn)
     have := dlook_some hc
     rw [hc]; exact this
   · intro h
     refine List.mem_map.mpr ⟨q.1, hp.mem_iff.mpr (List.mem_map.mpr ⟨q, h, rfl⟩), ?_⟩
     rw [(dlook_mem nd q).mp h]; rfl
theorem sort_items {ks qs : List (Int × Int)} (nd : (ks.map (·.1)).Nodup) (hp : qs.Perm ks) (hs : qs.Pairwise fun u v => HT.lexLt [v.1, v.2] [u.1, u.2] = false) : Ris qs ∧ ∀ q, q ∈ qs ↔ q ∈ ks := by
 refine ⟨?_, fun q => hp.mem_iff⟩
 have nd' : (qs.map (·.1)).Nodup := (hp.map _).nodup_iff.mpr nd
 unfold List.Nodup at nd'
 rw [List.pairwise_map] at nd'
 unfold Ris
 refine (hs.and nd').imp fun {a b} ⟨h1, h2⟩ => ?_
 rw [HT.lexLt_cons, if_neg (fun e => h2 e.symm)] at h1
 have := of_decide_eq_false h1
 omega
def rTupF (K : PySem.W.Frag) : List V → Hp → VK → Prop := fun xs H Q => ∃ p ys, xs = [.ref p] ∧ SqL K H p ys ∧ ∀ l o H2, H l = none → bareT o → L2.Same H H2 → H2 l = some (.frz o (.tup ys)) → Q (.ref l) H2
section
variable {K : PySem.W.Frag}
theorem call_tupF : CallR X (.type "tuple") (rTupF X.K) := by
 intro pins s σ H xs us Q I r h
 obtain ⟨p, ys, rfl, hq, q⟩ := h
 obtain ⟨u, rfl, rx⟩ := vals1 r
 cases rx
 obtain ⟨its, r', pl, hz⟩ := I.list hq
 have hlen := r'.length
 refine call_tuple_list pl.isList (fun h' kp => ?_) (by simp only [List.size_toArray] <;> omega)
 have I1 : Inv X pins σ H { s with heap := h' } := I.kept (t' := s.toks) kp
 have hf := I1.hok.fresh (Nat.le_refl h'.objs.size)
 have I2 : Inv X pins σ (upd H h'.objs.size (.frz { cls := .type "tuple", data := .seq its.toArray } (.tup ys))) { s with heap := h'.push { cls := .type "tuple", data := .seq its.toArray } } :=
  I1.laid (t' := s.toks) (fun b o e => Heap.get?_push_of_some _ e) (Nat.le_refl _) ⟨Heap.get?_push_size _ rfl, hz, its, r', IsTupB.new _ _⟩
 exact ⟨.ref h'.objs.size, _, I2, rfl, q _ _ _ hf ⟨_, _, rfl⟩ (Br.Same.upd hf) upd_same⟩
theorem k_tupleF (hg : Gl X x) (he : starEach (e :: es) X.env = (false, eval e X.env) :: starEach es X.env) (hpl : (backTo pos (starEach es X.env)).any (·.1) = false) (hK : X.K = K) (hx : x = "tuple") (hm : X.mg x = none) (ha : JA X (e :: es) t) :
 JE X (.Call (.Name x p) (e :: es) [] pos) (tCB (rTupF K) t) := hK ▸ ⟨by subst hx; exact pe_callTy call_tupF hg hm boot_tuple' ha.h (by decide) (by decide) he hpl⟩
end
mutual
inductive RepF (H : Hp) : V → PyData → Prop
 | non : RepF H .non .none
 | bl (b : Bool) : RepF H (.bl b) (.bool b)
 | int (i : Int) : RepF H (.int i) (.int i)
 | str (x : Str) : RepF H (.str x) (.str x)
 | tup {a : Addr} {xs : List V} {ds : List PyData} (h : Rd H a (.tup xs)) (r : RepsF H xs ds) : RepF H (.ref a) (.tuple ds)
 | lst {a : Addr} {xs : List V} {ds : List PyData} (h : H a = some (.lst xs)) (r : RepsF H xs ds) : RepF H (.ref a) (.list ds)
inductive RepsF (H : Hp) : List V → List PyData → Prop
 | nil : RepsF H [] []
 | cons {x : V} {xs : List V} {d : PyData} {ds : List PyData} (h : RepF H x d) (r : RepsF H xs ds) : RepsF H (x :: xs) (d :: ds)
end
structure Sm (dp wt : Nat) (d : PyData) : Prop where
 sh : d.showable = true
 lay : d.canLay0 = true
 lv : d.leavesShort 60 = true
 dep : d.depth ≤ dp
 wgt : d.weight ≤ wt
theorem boot_reversed : bootBuiltins "reversed" = some (.type "reversed") := by decide +kernel
end Br
namespace Br
open PySem PySem.Spec PySem.Calls PyProof.Rows L2 HT
end Br
namespace Br
namespace DZ
open PySem PySem.Spec PySem.Calls PyProof.Rows L2 Br.ZM
end DZ
namespace DZ
open PySem PySem.Spec PySem.Calls PyProof.Rows L2
end DZ
end Br
namespace Br
open PySem PySem.Spec PySem.Calls PyProof.Rows L2
end Br
namespace Br
namespace ZL
open PySem PySem.Spec PySem.Calls PyProof.Rows L2
end ZL
end Br
namespace Br
open PySem PySem.Spec PyProof.Rows L2
end Br
namespace Br
open PySem PySem.Spec PySem.Calls PyProof.Rows L2
theorem mulT0 (k : Int) (t : Tok) (a : Addr) (vs : List Value) (c : Nat) (dd : Option Addr) (sl : Array (Option Value)) (h1 : k = 0) (h0 : vs ≠ []) :
 Meets (Builtin.«tuple.__mul__» ⟨[.ref a, .int k t], []⟩) (fun _ R s => s.heap.get? a = some { cls := .type "tuple", dict := dd, data := .seq vs.toArray c, slots := sl } ∧ R (.ok (.ret (.ref s.heap.objs.size))) { s with heap := s.heap.push { cls := .type "tuple", data := .seq #[] } }) :=
 .of_wp fun pr ww Ar Rr st hy => by
  obtain ⟨g1, g2, g3, g4, g5⟩ := st
  obtain ⟨q1, q2⟩ := hy
  subst h1
  have f1 := AutoSeq1.idx_int
  have e0 : vs.toArray.isEmpty = false := by cases vs with
   | nil => exact absurd rfl h0
   | cons _ _ => rfl
  have c1 : ¬ ((0 : Int) < -(2 ^ 63) || (0 : Int) ≥ 2 ^ 63) = true := by simp
  have c2 : ¬ (vs.toArray.isEmpty || (0 : Int) == 1) = true := by rw [e0]; simp
  have c3 : (decide ((0 : Int) ≤ 0) || vs.toArray.isEmpty) = true := by rw [e0]; simp
  wp_walk using wpAny_loadPart' q1
  exact ⟨_, rfl, q2⟩
section
def rRepT0 (K : PySem.W.Frag) : R2 := fun x y H Q => ∃ a k xs, x = .ref a ∧ y = .int k ∧ H a = some (.tup xs) ∧ xs ≠ [] ∧ 0 ≤ k ∧ k < 2 ^ 63 ∧ xs.length * k.toNat ≤ sizeLine ∧ ∀ p H2, L2.Same H H2 → H2 p = some (.tup (List.replicate k.toNat xs).flatten) → Q (.ref p) H2
theorem op_repT0 : OpR X (binaryOp .Mult) (rRepT0 X.K) := by
 intro pins s σ H x y v u Q I rx ry h
 obtain ⟨a, k, xs, rfl, rfl, hH, hne, h1, h2, hz, q⟩ := h
 by_cases k0 : k = 0
 · cases rx
   obtain ⟨t, rfl⟩ := ry
   obtain ⟨its, r, pt, _⟩ := I.tuple (SqT.of (K := X.K) hH)
   obtain ⟨⟨cls, dd, data, sl⟩, ho, hc, n, hd⟩ := id pt
   simp only at hc hd
   subst hc hd
   have hits : its ≠ [] := fun z => hne (r.nil_iff.mp z)
   refine wpAny_binaryOp_repeat_ref (T := "tuple") (U := "int") (by decide) ⟨_, ho, rfl⟩ (fun s' => typeIs_int s' k t) fillT F.fills_int_mul F.slot_int_rmul repT F.slot_int_index.lookup
    (call_meets F.slot_int_rmul (typeIs_int s k t) F.entry_int_rmul (F.args_int_rmul_2 _ _) (rmulT k t a its.toArray n dd sl) ⟨ho, rfl, ⟨_, ho, rfl⟩, ?_⟩)
   refine call_meets PySem.F.slot_tuple_mul ⟨_, ho, rfl⟩ PySem.F.entry_tuple_mul (PySem.F.args_tuple_mul_2 _ _) (mulT0 k t a its n dd sl k0 hits) ⟨ho, ?_⟩
   have hn : H s.heap.objs.size = none := I.hok.fresh (Nat.le_refl _)
   refine ⟨.ref s.heap.objs.size, _, I.laid (t' := s.toks) (o := .tup (List.replicate k.toNat xs).flatten) (fun b ob e => Heap.get?_push_of_some _ e) (Nat.le_refl _) ?_, rfl, q _ _ (Br.Same.upd hn) upd_same⟩
   subst k0
   exact ⟨Nat.zero_le _, [], .nil, IsTupB.new _ _⟩
 · exact op_repT pins s σ H _ _ v u Q I rx ry ⟨a, k, xs, rfl, rfl, hH, hne, by omega, h2, hz, q⟩
end
section
variable {K : PySem.W.Frag}
theorem k_repT0 (hK : X.K = K) (ha : JE X (.Tuple es kk p) ta) (hb : JE X b tb) : JE X (.BinOp (.Tuple es kk p) .Mult b pos) (tOp (rRepT0 K) ta tb) := hK ▸ ⟨r_bin op_repT0 ha.h hb.h⟩
end
end Br
namespace Br
def upD (t b : Int) : Int := -(-t / b)
theorem upD_le {t b n : Int} (hb : 0 < b) : upD t b ≤ n ↔ t ≤ n * b := by
 unfold upD
 constructor
 · intro h
   have h1 : -n ≤ -t / b := by omega
   have h2 := (Int.le_ediv_iff_mul_le hb).mp h1
   rw [Int.neg_mul] at h2; omega
 · intro h
   have h1 : -n ≤ -t / b := (Int.le_ediv_iff_mul_le hb).mpr (by rw [Int.neg_mul]; omega)
   omega
def mostN (need s m : Int) (zs : List Int) : Int := min m (upD (need - zs.sum) s)
def fewN (need below s : Int) (zs : List Int) : Int := max 0 (upD (need - zs.sum - below) s)
def addN (s : Int) (zs : List Int) (n : Nat) : List Int := List.replicate n s ++ zs
theorem sum_repl (s : Int) : ∀ n : Nat, (List.replicate n s).sum = (n : Int) * s
 | 0 => by simp
 | n + 1 => by rw [List.replicate_succ, List.sum_cons, sum_repl s n, Int.natCast_add, Int.add_mul]; simp; omega
theorem addN_sum {s : Int} {zs : List Int} {n : Nat} : (addN s zs n).sum = (n : Int) * s + zs.sum := by
 unfold addN; rw [List.sum_append, sum_repl]
def growP (need s m below : Int) (zs : List Int) : List (List Int) := (List.range (mostN need s m zs + 1 - fewN need below s zs).toNat).map fun i : Nat => addN s zs (fewN need below s zs + i).toNat
theorem few_le {need below s : Int} {zs : List Int} (hs : 0 < s) (i : Nat) : fewN need below s zs ≤ (i : Int) ↔ need ≤ (addN s zs i).sum + below := by
 unfold fewN
 rw [addN_sum]
 have h := upD_le (t := need - zs.sum - below) (b := s) (n := (i : Int)) hs
 constructor
 · intro h1
   have h2 : upD (need - zs.sum - below) s ≤ (i : Int) := Int.le_trans (Int.le_max_right _ _) h1
   have := h.mp h2; omega
 · intro h1
   have := h.mpr (by omega)
   exact Int.max_le.mpr ⟨by omega, this⟩
theorem few0 {need below s : Int} {zs : List Int} : 0 ≤ fewN need below s zs := Int.le_max_left _ _
theorem most0 {need s m : Int} {zs : List Int} (hs : 0 < s) (hm : 0 ≤ m) (hz : zs.sum < need) : 0 ≤ mostN need s m zs := by
 unfold mostN
 have : ¬ upD (need - zs.sum) s ≤ -1 := fun z => by have := (upD_le hs).mp z; omega
 exact Int.le_min.mpr ⟨hm, by omega⟩
theorem few_most {need s m below : Int} {zs : List Int} (hs : 0 < s) (hm : 0 ≤ m) (hz : zs.sum < need) (hb : 0 ≤ below) : fewN need below s zs ≤ mostN need s m zs ↔ need ≤ zs.sum + (below + s * m) := by
 have m0 := most0 (m := m) hs hm hz
 unfold fewN
 rw [Int.max_le]
 have a1 : upD (need - zs.sum - below) s ≤ upD (need - zs.sum) s := (upD_le hs).mpr (by have := (upD_le (t := need - zs.sum) (b := s) hs).mp (Int.le_refl _); omega)
 have a2 := upD_le (t := need - zs.sum - below) (b := s) (n := m) hs
 rw [Int.mul_comm m s] at a2
 constructor
 · rintro ⟨_, h⟩
   have := a2.mp (Int.le_trans h (Int.min_le_left _ _)); omega
 · intro h
   exact ⟨m0, Int.le_min.mpr ⟨a2.mpr (by omega), a1⟩⟩
def fullB (need : Int) (zs : List Int) : Bool := decide (need ≤ zs.sum)
def rowsTo (need s m more : Int) (rows : List (List Int)) : List (List Int) := rows.filter (fullB need) ++ (rows.filter fun r => !fullB need r).flatMap (growP need s m (more - s * m))
def tooLong (need s m more : Int) (rows : List (List Int)) : Prop := ∃ r ∈ rows, r.sum < need ∧ need ≤ r.sum + more ∧ 60 < (r.length : Int) + mostN need s m r
instance (need s m more : Int) (rows : List (List Int)) : Decidable (tooLong need s m more rows) := by unfold tooLong; exact inferInstance
def leansOf (need : Int) : List (Int × Int) → Int → List (List Int) → Option (List (List Int))
 | [], _, rows => some (rows.filter (fullB need))
 | q :: ks, more, rows => if tooLong need q.1 q.2 more rows then none else if 300 < (rowsTo need q.1 q.2 more rows).length then none else leansOf need ks (more - q.1 * q.2) (rowsTo need q.1 q.2 more rows)
theorem rows_full {need s m more : Int} {rows : List (List Int)} : (rowsTo need s m more rows).filter (fullB need) = rows.filter (fullB need) ++ ((rows.filter fun r => !fullB need r).flatMap (growP need s m (more - s * m))).filter (fullB need) := by
 unfold rowsTo; rw [List.filter_append, List.filter_filter]; simp
theorem rows_not {need s m more : Int} {rows : List (List Int)} : ((rowsTo need s m more rows).filter fun r => !fullB need r) = ((rows.filter fun r => !fullB need r).flatMap (growP need s m (more - s * m))).filter fun r => !fullB need r := by
 unfold rowsTo; rw [List.filter_append, List.filter_filter]
 have : (rows.filter fun a => !fullB need a && fullB need a) = [] := by rw [List.filter_eq_nil_iff]; intro a _; cases fullB need a <;> simp
 rw [this, List.nil_append]
theorem split_len {p : List Int → Bool} : ∀ l : List (List Int), l.length = (l.filter p).length + (l.filter fun r => !p r).length
 | [] => rfl
 | x :: l => by
  have := split_len (p := p) l
  cases h : p x <;> simp [h] <;> omega
end Br
namespace Br
open PySem PySem.Spec PySem.Calls PyProof.Rows L2
theorem slot_rvt : Slot "reversed" (Str.ofString "__next__") "reversed.__next__" := .of (owner := "reversed") (n := "__next__") (by rw [typeLookup_type, builtinLookup_eq_fast]; kernel_rfl) (by decide +kernel) (by decide +kernel) (by decide +kernel) (by first | exact .inl (by decide +kernel) | exact .inr (by decide +kernel)) (by rw [isSubtype_type]; kernel_rfl)
theorem entry_rvt : entryFor table "reversed.__next__" = some Builtin.«reversed.__next__» := entryFor_of_tree (by kernel_rfl)
theorem args_rvt (a : Value) : argsOk "reversed.__next__" ⟨[a], []⟩ := by unfold argsOk; kernel_rfl
abbrev IsRvT (h : Heap) (it t : Addr) (i : Int) : Prop := h.get? it = some { cls := .type "reversed", dict := none, data := .fields #[.ref t, rawInt i], slots := #[] }
section
theorem rvt_item {it t : Addr} {k : Nat} {items : Array Value} {x : Value} {Q : Value → Shared → Prop} (hI : IsRvT s.heap it t k) (hT : IsTup s.heap t items) (hx : items[k]? = some x) (hz : items.size ≤ sizeLine)
 (go : ∀ g tk, IsRvT g it t ((k : Int) - 1) → Heap.SameBut it s.heap g → Q x { s with heap := g, toks := tk }) : wpAny (model prog w) A (Builtin.«reversed.__next__» ⟨[.ref it], []⟩) (fun fin s' => ∃ u, fin = .done (.ret u) ∧ Q u s') E s := by
 have f0 := fun {R : Value → Shared → Prop} => wpAny_field (M := model prog w) (A := A) (E := E) (Q := R) (i := 0) hI rfl (x := .ref t) rfl
 have f1 := fun {R : Value → Shared → Prop} => wpAny_field (M := model prog w) (A := A) (E := E) (Q := R) (i := 1) hI rfl (x := rawInt k) rfl
 have hs : items.size ≤ sizeLine := hz
 have hsz : (sizeLine : Nat) = 16777216 := sizeLine_eq
 have hk : k < items.size := by
  by_cases c : k < items.size
  · exact c
  · rw [Array.getElem?_eq_none (by omega)] at hx; cases hx
 have sp := fun {R : Option Value → Shared → Prop} => wpAny_specialOf (M := model prog w) (A := A) (E := E) (Q := R) (name := Str.ofString "__getitem__") hT.typeIs F.slot_tuple_getitem.lookup
 have f1' := fun {R : Value → Shared → Prop} => wpAny_field (M := model prog w) (A := A) (E := E) (s := { s with toks := s.toks + 1 }) (Q := R) (i := 1) hI rfl (x := rawInt k) rfl
 have gi := fun {R : Value → Shared → Prop} {E' : Value → Shared → Prop} => getItem_tuple (prog := prog) (w := w) (A := A) (E := E') (s := { s with toks := s.toks + 1 }) (Q := R) (u := s.toks) (k := (k : Int)) (j := k) hT (by omega) (by omega) (by unfold seqIndex?; simp; omega) hx
 have w1 := fun {R : Unit → Shared → Prop} => wpAny_setField_rec (prog := prog) (w := w) (A := A) (E := E) (s := { s with toks := s.toks + 1 }) (k := 1) (x := rawInt ((k : Int) - 1)) (Q := R) hI (by simp)
 wp_walk using f0, f1, sp, gi, f1', w1
 intro g hg sb
 wp_walk
 exact ⟨_, rfl, go g _ hg sb⟩
theorem rvt_stop {it t : Addr} {Q : PySem.Fin → Shared → Prop} (hh : A.handled = none) (hI : IsRvT s.heap it t (-1))
 (go : ∀ g e, Heap.ExtBut it s.heap g → (∃ o, g.get? e = some o ∧ o.cls = .type "StopIteration") → E (.ref e) { s with heap := g }) : wpAny (model prog w) A (Builtin.«reversed.__next__» ⟨[.ref it], []⟩) Q E s := by
 have f0 := fun {R : Value → Shared → Prop} => wpAny_field (M := model prog w) (A := A) (E := E) (Q := R) (i := 0) hI rfl (x := .ref t) rfl
 have f1 := fun {R : Value → Shared → Prop} => wpAny_field (M := model prog w) (A := A) (E := E) (Q := R) (i := 1) hI rfl (x := rawInt (-1)) rfl
 have w1 := fun {R : Unit → Shared → Prop} => wpAny_setField_rec (prog := prog) (w := w) (A := A) (E := E) (k := 1) (x := rawInt (-1)) (Q := R) hI (by simp)
 wp_walk using f0, f1, w1
 intro g1 hg1 k1
 have w0 := fun {R : Unit → Shared → Prop} => wpAny_setField_rec (prog := prog) (w := w) (A := A) (E := E) (s := { s with heap := g1 }) (k := 0) (x := .none) (Q := R) hg1 (by simp)
 wp_walk using w0
 intro g2 hg2 k2
 wp_walk
 unfold raiseNew
 wp_walk using wpAny_handled
 rw [hh]
 wp_walk
 exact go _ _ (((k1.trans k2).extBut.push _).push _) ⟨_, Heap.get?_push_size _ rfl, rfl⟩
theorem rvt_next {it t : Addr} {k : Nat} {items : Array Value} {x : Value} {Q : Option Value → Shared → Prop} (hI : IsRvT s.heap it t k) (hT : IsTup s.heap t items) (hx : items[k]? = some x) (hz : items.size ≤ sizeLine)
 (go : ∀ g tk, IsRvT g it t ((k : Int) - 1) → Heap.SameBut it s.heap g → Q (some x) { s with heap := g, toks := tk }) : wpAny (model prog w) A (pyNext (.ref it)) Q E s := by
 have ty : s.TypeIs (.ref it) "reversed" := ⟨_, hI, rfl⟩
 unfold pyNext
 exact wpAny_bind (wpAny_attempt (wpAny_callSpecial?_slot (name := Str.ofString "__next__") ty slot_rvt (wpAny_call_entry slot_rvt ty entry_rvt (rvt_item hI hT hx hz fun g tk a1 a2 => wpAny_pure (go g tk a1 a2)) (args_rvt _))))
theorem rvt_end {it t : Addr} {Q : Option Value → Shared → Prop} (hh : A.handled = none) (hI : IsRvT s.heap it t (-1)) (go : ∀ g, Heap.ExtBut it s.heap g → Q none { s with heap := g }) : wpAny (model prog w) A (pyNext (.ref it)) Q E s := by
 have ty : s.TypeIs (.ref it) "reversed" := ⟨_, hI, rfl⟩
 unfold pyNext
 refine wpAny_bind (wpAny_attempt (wpAny_callSpecial?_slot (name := Str.ofString "__next__") ty slot_rvt (wpAny_call_entry slot_rvt ty entry_rvt (rvt_stop hh hI fun g e x he => ?_) (args_rvt _))))
 obtain ⟨ob, a, b⟩ := he
 exact wpAny_bind (wpAny_isInstance (T := "StopIteration") (b := true) ⟨ob, a, b⟩ isSubtype_stop (wpAny_pure (go _ x)))
theorem slot_rvt_init : Slot "reversed" (Str.ofString "__init__") "object.__init__" := .of (owner := "object") (n := "__init__") (by rw [typeLookup_type, builtinLookup_eq_fast]; kernel_rfl) (by decide +kernel) (by decide +kernel) (by decide +kernel) (by first | exact .inl (by decide +kernel) | exact .inr (by decide +kernel)) (by rw [isSubtype_type]; kernel_rfl)
theorem called_rvt : TypeCalled "reversed" "reversed.__new__" "object.__init__" := ⟨by decide +kernel, by decide +kernel, ⟨_, _, F.mro_reversed⟩, F.made_reversed, by decide +kernel, by rw [isSubtype_type]; kernel_rfl, slot_rvt_init⟩
theorem tuple_norev : typeLookup (.type "tuple") (Str.ofString "__reversed__") = pure none := by rw [typeLookup_type, builtinLookup_eq_fast]; kernel_rfl
theorem rvt_meets (t : Addr) (items : Array Value) : Meets (Builtin.«reversed.__new__» ⟨[.type "reversed", .ref t], []⟩) (fun A R s => IsTup s.heap t items ∧ items.size ≤ sizeLine ∧ ∀ tk, R (.ok (.ret (.ref s.heap.objs.size))) { s with heap := s.heap.push { cls := .type "reversed", data := .fields #[.ref t, rawInt ((items.size : Int) - 1)] }, toks := tk }) :=
 .of_wp fun prog w A R s h => by
  obtain ⟨hT, hz, h⟩ := h
  have hsz : (sizeLine : Nat) = 16777216 := sizeLine_eq
  have sp := fun {R : Option Value → Shared → Prop} {E : Value → Shared → Prop} => wpAny_specialOf (M := model prog w) (A := A.in1) (E := E) (Q := R) (name := Str.ofString "__reversed__") hT.typeIs tuple_norev
  have sp2 := fun {R : Option Value → Shared → Prop} {E : Value → Shared → Prop} => wpAny_specialOf (M := model prog w) (A := A.in1) (E := E) (Q := R) (name := Str.ofString "__getitem__") hT.typeIs F.slot_tuple_getitem.lookup
  have hsub := F.sub_reversed_self
  have nd := fun {R : Bool → Shared → Prop} {E : Value → Shared → Prop} => wpAny_isInstance (M := model prog w) (A := A.in1) (E := E) (Q := R) (T := "tuple") (b := false) (U := "dict") hT.typeIs (by rw [isSubtype_type]; kernel_rfl)
  have ln := fun {R : Value → Shared → Prop} {E : Value → Shared → Prop} => len_tuple (prog := prog) (w := w) (A := A.in1) (E := E) (Q := R) hT (by omega)
  wp_walk using sp, sp2, nd, ln
  exact ⟨_, rfl, h _⟩
theorem rvt_make {t : Addr} {items : Array Value} {Q : Value → Shared → Prop} (hT : IsTup s.heap t items) (hz : items.size ≤ sizeLine)
 (go : ∀ tk, Q (.ref s.heap.objs.size) { s with heap := s.heap.push { cls := .type "reversed", data := .fields #[.ref t, rawInt ((items.size : Int) - 1)] }, toks := tk }) : wpAny (model prog w) A (call (.type "reversed") [.ref t]) Q E s := by
 refine callType_new called_rvt (by decide) (F.typeCall_reversed_1 _) (F.newCall_reversed_1 _) (fun obj => F.args_object_init_2 obj _) F.entry_reversed_new (rvt_meets t items) ⟨hT, hz, fun tk => ?_⟩
 exact ⟨⟨_, Heap.get?_push_size _ rfl, rfl⟩, go tk⟩
end
theorem slot_rvt_iter : Slot "reversed" (Str.ofString "__iter__") "reversed.__iter__" := .of (owner := "reversed") (n := "__iter__") (by rw [typeLookup_type, builtinLookup_eq_fast]; kernel_rfl) (by decide +kernel) (by decide +kernel) (by decide +kernel) (by first | exact .inl (by decide +kernel) | exact .inr (by decide +kernel)) (by rw [isSubtype_type]; kernel_rfl)
theorem entry_rvt_iter : entryFor table "reversed.__iter__" = some Builtin.«dict_keyiterator.__iter__» := entryFor_alias (id' := "dict_keyiterator.__iter__") (by kernel_rfl) (by first | rfl | decide +kernel | (unfold String.splitOn; simp +decide [String.splitOnAux])) (by decide +kernel) (by kernel_rfl)
theorem args_rvt_iter (a : Value) : argsOk "reversed.__iter__" ⟨[a], []⟩ := by unfold argsOk; kernel_rfl
theorem rvt_self {prog : Program} {w : World} {A : Around} {E : Value → Shared → Prop} {s : Shared} {it t : Addr} {i : Int} {Q : Value → Shared → Prop} (hI : IsRvT s.heap it t i) (h : Q (.ref it) s) : wpAny (model prog w) A (pyIter (.ref it)) Q E s := by
 have ty : s.TypeIs (.ref it) "reversed" := ⟨_, hI, rfl⟩
 refine wpAny_pyIter_slot ty slot_rvt_iter (wpAny_call_entry slot_rvt_iter ty entry_rvt_iter ?_ (args_rvt_iter _))
 wp_walk
 exact ⟨_, rfl, "reversed", _, ty, slot_rvt.lookup, h⟩
def ItRt (K : PySem.W.Frag) (a : Addr) (n : Nat) : It := ⟨fun i H => i < n ∧ ∃ xs x, SqT K H a xs ∧ xs[n - 1 - i]? = some x, fun i H x H' => H' = H ∧ ∀ xs, SqT K H a xs → xs[n - 1 - i]? = some x, fun i H => n ≤ i⟩
theorem turn_rvt {P : Program} {w : World} {K : PySem.W.Frag} {tg : Expr} (a it : Addr) (n : Nat) : Turn P w K tg (ItRt K a n) [it] it (fun i h => i ≤ n ∧ IsRvT h it a ((n : Int) - 1 - i)) where
 mem := by simp
 obj := fun i h st b hb => by
  have e : b = it := by simpa using hb
  subst e
  exact ⟨_, st.2, fun v z => by cases z⟩
 keep := fun i h h' st k => ⟨st.1, k it (by simp) _ st.2⟩
 item := by
  intro X hP hw hK hc i pins s σ H E I hf st hg
  subst hP hw hK
  obtain ⟨hi, xs, x, q, hx⟩ := hg
  obtain ⟨hle, st⟩ := st
  obtain ⟨its, rv, p, hz⟩ := I.tuple q
  obtain ⟨u, hu, ru⟩ := rv.get hx
  obtain ⟨f0, f1, f2, f3, f4, f5⟩ := hf it (by simp)
  have hl := rv.length
  rw [show (n : Int) - 1 - i = ((n - 1 - i : Nat) : Int) by omega] at st
  refine rvt_next st p (x := u) (by simpa using hu) (by rw [List.size_toArray]; omega) fun h' tk st' sb => ?_
  have I1 : Inv X pins σ H { s with heap := h', toks := tk } := I.turned (t' := tk) (fun b o hb e => (sb.2 b hb).trans e) f0 f1 f3 f4 f5
  refine ⟨u, rfl, go_of (s := { s with heap := h', toks := tk }) st' rfl rfl (by decide) ⟨x, H, I1, ru, ⟨rfl, fun ys hy => by rw [I.tuple_inj hy q]; exact hx⟩, ⟨by omega, ?_⟩, fun b hb => (hf b hb).1⟩⟩
  rw [show (n : Int) - 1 - ((i + 1 : Nat) : Int) = ((n - 1 - i : Nat) : Int) - 1 by omega]
  exact st'
 done := by
  intro X hP hw hK hc i pins s σ H E I hf st hg
  subst hP hw hK
  obtain ⟨hle, st⟩ := st
  have hg : n ≤ i := hg
  obtain ⟨f0, f1, f2, f3, f4, f5⟩ := hf it (by simp)
  rw [show (n : Int) - 1 - i = -1 by omega] at st
  exact rvt_end (I.ok.hd hc) st fun h' eb => ⟨rfl, I.turned (t' := s.toks) (fun b o hb e => eb b o hb e) f0 f1 f3 f4 f5⟩
 self := fun _ _ _ _ _ st h => rvt_self st.2 h
def iRvT (K : PySem.W.Frag) (ta : TA) : TI := fun σ H R => ta σ H fun vs H1 => ∃ a xs, vs = [.ref a] ∧ SqT K H1 a xs ∧ R (ItRt K a xs.length) H1
section
variable {K : PySem.W.Frag}
theorem pi_rvt {a : Expr} {ta : TA} {p pos : Pos} (hg : Gl X "reversed") (hm : X.mg "reversed" = none) (ha : PA X [a] ta) (hs : starEach [a] X.env = [(false, eval a X.env)]) : PI X tg (.Call (.Name "reversed" p) [a] [] pos) (iRvT X.K ta) := by
 intro pins s σ H R I h
 refine Call_ (ld_blt I hg hm boot_reversed (PyProof.Rows.callWith_type1 (thn (ha pos pins s σ H _ I h) fun us s1 ⟨vs, H1, I1, r1, q1⟩ => ?_) hs rfl))
 obtain ⟨a, xs, e, q1, q⟩ := q1
 subst e
 cases r1 with
 | cons r rr =>
  cases rr
  cases r
  obtain ⟨its, rv, p, hz⟩ := I1.tuple q1
  have hl : its.toArray.size = xs.length := by rw [List.size_toArray]; exact rv.length.symm
  refine rvt_make p (by omega) fun tk => ?_
  have hst : IsRvT (s1.heap.push { cls := .type "reversed", data := .fields #[.ref a, rawInt ((its.toArray.size : Int) - 1)] }) s1.heap.objs.size a ((its.toArray.size : Int) - 1) := Heap.get?_push_size _ rfl
  refine rvt_self (s := { s1 with heap := s1.heap.push { cls := .type "reversed", data := .fields #[.ref a, rawInt ((its.toArray.size : Int) - 1)] }, toks := tk }) hst ?_
  refine ⟨s1.heap.objs.size, [s1.heap.objs.size], _, _, H1, rfl, I1.kept (t' := tk) fun b o e => Heap.get?_push_of_some _ e, turn_rvt a _ xs.length, ⟨Nat.zero_le _, ?_⟩, fun b hb => ?_, q⟩
  · rw [hl] at hst
    rw [hl]
    simpa using hst
  · have e : b = s1.heap.objs.size := by simpa using hb
    subst e
    exact I1.fpOk (Nat.le_refl _) (I1.hok.fresh (Nat.le_refl _))
theorem k_rvt (hK : X.K = K) {x : Str} {a : Expr} {t : TA} {p pos : Pos} (hx : x = "reversed") (hg : Gl X x) (hm : X.mg x = none) (hs : starEach [a] X.env = [(false, eval a X.env)]) (ha : JA X [a] t) : JI X tg (.Call (.Name x p) [a] [] pos) (iRvT K t) := hK ▸ ⟨by subst hx; exact pi_rvt hg hm ha.h hs⟩
end
theorem for_rvt {K : PySem.W.Frag} {a : Addr} {xs : List V} {g : TG} {tb : TS} {D : Ends} {σ : L2.St} {H : Hp} (Pv : Nat → L2.St → Hp → Prop) (h0 : Pv 0 σ H) (hl : ∀ i σ H, i ≤ xs.length → Pv i σ H → SqT K H a xs)
 (hs : ∀ i x σ H, xs.reverse[i]? = some x → Pv i σ H → g x σ H fun σ2 H2 => tb { D with nx := Pv (i + 1), ct := Pv (i + 1), bk := D.nx } σ2 H2) (hd : ∀ σ H, Pv xs.length σ H → D.nx σ H) :
 ∃ W : Nat → Nat → L2.St → Hp → Prop, (∃ m, W 0 m σ H) ∧ ∀ i m σ H, W i m σ H →
  ((ItRt K a xs.length).stop i H ∧ D.nx σ H) ∨ ((ItRt K a xs.length).go i H ∧ ∃ N : L2.St → Hp → Prop, (∀ σ' H', N σ' H' → ∃ m', m' < m ∧ W (i + 1) m' σ' H') ∧ ∀ x H', (ItRt K a xs.length).yld i H x H' → g x σ H' fun σ2 H2 => tb { D with nx := N, ct := N, bk := D.nx } σ2 H2) := by
 refine ⟨fun i m σ H => m = xs.length - i ∧ i ≤ xs.length ∧ Pv i σ H, ⟨xs.length, by simp, Nat.zero_le _, h0⟩, ?_⟩
 rintro i m σ H ⟨rfl, hi, p⟩
 have q := hl i σ H hi p
 by_cases hlt : i < xs.length
 · have e : xs[xs.length - 1 - i]? = some xs[xs.length - 1 - i] := List.getElem?_eq_getElem (by omega)
   refine .inr ⟨⟨hlt, xs, _, q, e⟩, Pv (i + 1), fun σ' H' p' => ⟨xs.length - (i + 1), by omega, rfl, hlt, p'⟩, fun x H' ⟨e1, e2⟩ => ?_⟩
   subst e1
   exact hs i x σ _ (by rw [List.getElem?_reverse hlt]; exact e2 xs q) p
 · have e : i = xs.length := by omega
   subst e
   exact .inl ⟨Nat.le_refl _, hd σ H p⟩
section
theorem s_augSub {i : Nat} {x : Str} {e : Expr} {te : TE} {pos pos' : Pos} (hi : At X.N i x) (hN : X.N.Nodup) (hx : Loc X.env.scope x) (hf : X.fn x = true) (he : JE X e te) : JS X (.AugAssign (.Name x pos') .Sub e pos) (tAug i te (ipI fun i j => i - j)) :=
 ⟨ps_aug hN hi.get hx he.h ip_sub (.inl hf)⟩
end
end Br
namespace Br
open PySem PySem.Spec PyProof.Rows L2
end Br
namespace Br
open PySem PySem.Spec PySem.Calls PyProof.Rows L2
section
variable {K : PySem.W.Frag}
def rCountT (K : PySem.W.Frag) : V → List V → Hp → VK → Prop := fun x xs H Q => ∃ (l : Addr) (ns : List Int) (k : Int), x = .ref l ∧ xs = [.int k] ∧ SqT K H l (ns.map V.int) ∧ Q (.int ((ns.count k : Nat) : Int)) H
theorem mt_countT : MtR X "tuple.count" (rCountT X.K) := by
 intro pins s σ H x vs v us Q I rx rv h
 obtain ⟨l, ns, k, rfl, rfl, hq, q⟩ := h
 cases rx
 obtain ⟨u, rfl, ru⟩ := rv.one
 obtain ⟨tk, rfl⟩ := ru
 obtain ⟨its, r', ⟨⟨cls, dd, data, sl⟩, ho, hc, n, hd⟩, hz⟩ := I.tuple hq
 subst hc hd
 have hi := intsAre_of r'
 refine call_meets PySem.F.slot_tuple_count ⟨_, ho, rfl⟩ PySem.F.entry_tuple_count (PySem.F.args_tuple_count_2 _ _) (PySem.SeqAt.tuple_countAt l its.toArray n dd sl _ _) ⟨ho, fun y hy => (eq_isInt k tk hi y (by grind)).at _ _, ?_⟩
 rw [show its.toArray.toList = its from rfl, countP_isInt k hi]
 exact ⟨.int _, H, I.tok _, ⟨_, rfl⟩, q⟩
end
theorem perm_sum {a b : List Int} (h : a.Perm b) : a.sum = b.sum := by
 induction h with
 | nil => rfl
 | cons x _ ih => simp_all
 | swap x y l => simp; omega
 | trans _ _ h1 h2 => grind
def leanL (need : Int) : List Int → List Int
 | [] => []
 | z :: zs => if need ≤ zs.sum then leanL need zs else z :: zs
theorem leanL_suf (need : Int) : ∀ zs : List Int, leanL need zs <:+ zs
 | [] => List.suffix_refl _
 | z :: zs => by
  show (if need ≤ zs.sum then leanL need zs else z :: zs) <:+ _
  split
  · exact (leanL_suf need zs).trans (List.suffix_cons z zs)
  simp
theorem leanL_full : ∀ {zs : List Int}, need ≤ zs.sum → need ≤ (leanL need zs).sum
 | [], h => h
 | z :: zs, h => by
  show need ≤ (if need ≤ zs.sum then leanL need zs else z :: zs).sum
  by_cases e : need ≤ zs.sum
  · rw [if_pos e]; exact leanL_full e
  · rw [if_neg e]; omega
theorem leanL_lean (hn : 1 ≤ need) : ∀ (zs : List Int), ((leanL need zs).drop 1).sum < need
 | [] => by assumption
 | z :: zs => by
  show ((if need ≤ zs.sum then leanL need zs else z :: zs).drop 1).sum < need
  by_cases e : need ≤ zs.sum
  · rw [if_pos e]; exact leanL_lean hn zs
  grind
theorem leanL_ne (hn : 1 ≤ need) (h : need ≤ zs.sum) : leanL need zs ≠ [] := fun e => by
 have := leanL_full h
 grind
theorem tail_cut {zs : List Int} : cutV (zs.map V.int) (some 1) none = zs.tail.map V.int := by
 unfold cutV
 rw [show (some (1 : Int)) = some ((1 : Nat) : Int) from rfl, HT.sIx_nat, HT.sIx_none]
 cases zs with
 | nil => rfl
 | cons a r => simp; rw [List.take_of_length_le (by simp)]
theorem tail_no (h : zs ≠ []) : ¬ (HT.sIx (zs.map V.int).length 0 (some 1) = 0 ∧ HT.sIx (zs.map V.int).length (zs.map V.int).length none = (zs.map V.int).length) := by
 rintro ⟨z, _⟩
 have := List.length_pos_iff.mpr h
 rw [show (some (1 : Int)) = some ((1 : Nat) : Int) from rfl, HT.sIx_nat, List.length_map] at z
 omega
theorem leanL_step (h : n ≤ r.sum) : leanL n (z :: r) = leanL n r := if_pos h
theorem leanL_end (h : ¬ n ≤ r.sum) : leanL n (z :: r) = z :: r := if_neg h
def tTry1 (K : PySem.W.Frag) (c : Value) (tb : TSx) (ts : TS) : TS := fun D σ H => tb D (fun cls σ1 H1 => PySem.W.exmOne K cls c = some true ∧ ∃ C, cls = .ref C ∧ ∀ ea, H1 ea = none → ts D σ1 (upd H1 ea (ExcO ea C))) σ H
section
theorem ps_try1 (hex : X.ex = []) (hstk : X.stack = X.env :: X.outer) (hfr : X.env.frame = some X.env.locals)
 (hg : Gl X x) (hm : X.mg x = some c) (hdb : (x == ("__debug__" : Str)) = false) (hb : PSsx X body tb) (hs : ∀ ea, PSs (mkd X ea) (b0 :: suite) ts) : PS X (.Try body [.ExceptHandler (some (.Name x np)) none (b0 :: suite) hpos] [] [] pos) (tTry1 X.K c tb ts) := by
 intro pins s σ H D I h
 refine wpAny_Try_except (wpAny_mono (hb pins s σ H D _ I h) (fun f s1 q => ?_) fun e s1 q => ?_)
 · cases f with
   | next => exact wpAny_execs_nil q
   | ret v => exact q
   | brk => exact q
   | cont => exact q
 · obtain ⟨ea, T, cls, σ1, H1, rfl, I1, ap, fly, hx, C, rfl, hk⟩ := q
   have fr' : X.A.frames = some (X.env :: X.outer) := by rw [← hstk]; exact I.ok.frames
   rw [hstk] at fly
   refine fly_note fr' (by rw [hfr]; rfl) fly fun h2 T2 fly2 p2 hT2 => ?_
   rw [← hstk] at fly fly2 p2
   have I2 := invPast I1 ap fly p2
   have ap2 := ap.next I1 hex hT2
   have hty : PySem.W.Looks (model X.prog X.w) h2 (typeOf (.ref ea)) (.ref C) := by
    obtain ⟨oe, vs, oT, ts', a0, f1, f2, _⟩ := fly2.at_
    exact ExcAt.ty ⟨oe, f1, f2⟩
   refine wpAny_handleBy_cons (codeAny_handlers_test ?_) (by intro q; cases q)
   refine ld_glob (mkd_inv (ea := ea) I2) hg hm ?_ hdb
   refine (PySem.W.exm_one I2.kIn hty hx).here ?_
   show codeAny _ _ _ _ _
   refine codeAny_handlers_suite (fly_land fly2 fun h3 T3 fly3 p3 hT3 => ?_)
   have I3 := invPast I2 ap2 fly2 p3
   have ap3 := ap2.next I2 hex hT3
   have exc : ExcAt ea C h3 := by
    obtain ⟨oe, vs, oT, ts', a0, f1, f2, _⟩ := fly3.at_
    exact ⟨oe, f1, f2⟩
   have I4 := invTrack I3 ap3 fly3 (o := ExcO ea C) (excO_ok exc)
   refine wpAny_mono (hs ea pins _ _ _ _ (mkd_inv (ea := ea) I4) (hk ea ap.he)) (fun f s6 q => ?_) fun _ _ z => False.elim z
   cases f with
   | next =>
    obtain ⟨σ', H', I', q⟩ := q
    exact ⟨σ', H', unmkd I' I, q⟩
   | ret v =>
    obtain ⟨v', σ', H', I', r', q⟩ := q
    exact ⟨v', σ', H', unmkd I' I, r', q⟩
   | brk =>
    obtain ⟨σ', H', I', q⟩ := q
    exact ⟨σ', H', unmkd I' I, q⟩
   | cont =>
    obtain ⟨σ', H', I', q⟩ := q
    exact ⟨σ', H', unmkd I' I, q⟩
theorem s_try1 (ec : ECls X.K X.mg x C B) (hex : X.ex = []) (hstk : X.stack = X.env :: X.outer) (hfr : X.env.frame = some X.env.locals)
 (hg : Gl X x) (hdb : (x == ("__debug__" : Str)) = false) (hb : JSsx X body tb) (hs : ∀ ea, JSs (mkd X ea) (b0 :: suite) ts) : JS X (.Try body [.ExceptHandler (some (.Name x np)) none (b0 :: suite) hpos] [] [] pos) (tTry1 X.K (.ref C) tb ts) := ⟨ps_try1 hex hstk hfr hg ec.mgx hdb hb.h fun ea => (hs ea).h⟩
end
theorem ECls.selfX {K : PySem.W.Frag} (e : ECls K mg x C B) : PySem.W.exmOne K (.ref C) (.ref C) = some true := by
 obtain ⟨_, _, ⟨cd, q1, q2⟩, h8⟩ := eclsIn_all e.inK
 unfold PySem.W.exmOne
 rw [if_pos (by show (PySem.W.mroIn K C _ == some true) = true; rw [eclsMro e.inK]; rfl)]
 unfold PySem.W.kitCls; dsimp only
 rw [if_pos (by grind)]
 show PySem.W.mroIn K C _ = _
 rw [eclsMro e.inK]; simp [mroE]
end Br
namespace Br
namespace DK
open PySem PySem.Spec PySem.Calls PyProof.Rows L2
end DK
open PySem PySem.Spec PySem.Calls PyProof.Rows L2
end Br
namespace Br
namespace Kas
open PySem PySem.Spec PySem.Calls PyProof.Rows L2
open PySem.W
structure Rel (rel : Nat → Nat → Bool) : Prop where
 irr : ∀ a, rel a a = false
 asy : ∀ a b, rel a b = true → rel b a = false
 tr : ∀ a b c, rel b a = false → rel c b = false → rel c a = false
section
abbrev g (p : Array Nat) (k : Nat) : Nat := p.getD k 0
structure Z where
 prog : Program
 w : World
 A : Around
 s : Shared
 κ : SortKind
 it : Array Keyed
abbrev Z.cmp (z : Z) : Nat → Nat → (Bool → Shared → Prop) → Shared → Prop := kas_cmp z.prog z.w z.A z.κ z.it
structure T (z : Z) (t : KasT α) (G : α → Prop) : Prop where
 h : KasT.kasWp z.cmp t (fun a s' => s' = z.s ∧ G a) z.s
structure Ok (z : Z) (rel : Nat → Nat → Bool) (n : Nat) : Prop where
 R : Rel rel
 n2 : 0 < n
 ask : ∀ i j (C : Bool → Shared → Prop), i < n → j < n → C (rel i j) z.s → z.cmp i j C z.s
def Ar (n : Nat) (p : Array Nat) : Prop := p.size = n ∧ p.toList.Perm (List.range n)
end
end Kas
namespace Tim
open PySem PySem.Spec PySem.Calls PyProof.Rows L2 PySem.W
end Tim
namespace Tim
open PySem PySem.Spec PySem.Calls PyProof.Rows L2
end Tim
open PySem PySem.Spec PySem.Calls PyProof.Rows L2
end Br
namespace Br
namespace ZG
open PySem PySem.Spec PySem.Calls PyProof.Rows L2
def SI : Bool → Heap → Addr → Addr → Nat → Prop
 | true, h, c, d, k => h.IsTupleIter c d k
 | false, h, c, d, k => h.IsListIter c d k
def SS : Bool → Heap → Addr → Array Value → Prop
 | true, h, d, xs => h.IsTuple d xs
 | false, h, d, xs => h.IsList d xs
def SqS : Bool → PySem.W.Frag → Hp → Addr → List V → Prop
 | true, K, H, a, xs => SqT K H a xs
 | false, K, H, a, xs => SqL K H a xs
abbrev itn (f : Bool) : String := if f = true then "tuple_iterator" else "list_iterator"
theorem SI.at (i : SI f h c d k) (q : ∀ ob, h.get? c = some ob → h'.get? c = some ob) : SI f h' c d k := by
 cases f with
 | true => exact Heap.IsTupleIter.at i q
 | false => exact Heap.IsListIter.at i q
theorem SS.at (i : SS f h d xs) (q : ∀ ob, h.get? d = some ob → h'.get? d = some ob) : SS f h' d xs := by
 cases f with
 | true => obtain ⟨ob, a, b⟩ := i; exact ⟨ob, q _ a, b⟩
 | false => obtain ⟨ob, a, b⟩ := i; exact ⟨ob, q _ a, b⟩
theorem SI.ob (i : SI f h c d k) : ∃ ob, h.get? c = some ob ∧ ob.data = .fields #[.ref d, rawInt k] := by
 cases f with
 | true => obtain ⟨ob, a, _, b⟩ := i; exact ⟨ob, a, b⟩
 | false => obtain ⟨ob, a, _, b⟩ := i; exact ⟨ob, a, b⟩
theorem SI.new (e : h.get? c = some { cls := .type (itn f), data := .fields #[.ref d, .int 0 0] }) : SI f h c d 0 := by
 cases f with
 | true => exact ⟨_, e, rfl, rfl⟩
 | false => exact ⟨_, e, rfl, rfl⟩
section
variable {s : Shared}
theorem gnext (hI : SI f s.heap c d k) (hT : SS f s.heap d zs) (hv : zs[k]? = some v)
 (go : ∀ g, SI f g c d (k + 1) → Heap.SameBut c s.heap g → Q v { s with heap := g }) : wpAny (model prog w) A (Builtin.SmallTypes.nextOf (.ref c)) Q E s := by
 cases f with
 | true => exact Br.tnext hI hT hv go
 | false => exact ZL.tnext hI hT hv go
theorem gnone (hh : A.handled = none) (hI : SI f s.heap c d k) (hT : SS f s.heap d zs) (hv : zs[k]? = none)
 (go : ∀ g e, Heap.ExtBut c s.heap g → (∃ o, g.get? e = some o ∧ o.cls = .type "StopIteration") → E (.ref e) { s with heap := g }) : wpAny (model prog w) A (Builtin.SmallTypes.nextOf (.ref c)) Q E s := by
 cases f with
 | true => exact Br.tnone hh hI hT hv go
 | false => exact ZL.tnone hh hI hT hv go
theorem giter (hT : SS f s.heap d zs) (h : Q (.ref s.heap.objs.size) { s with heap := s.heap.push { cls := .type (itn f), data := .fields #[.ref d, .int 0 0] } }) : wpAny (model prog w) A (pyIter (.ref d)) Q E s := by
 cases f with
 | true => exact wpAny_pyIter_tuple hT h
 | false => exact wpAny_pyIter_list hT h
structure Zp (f1 f2 : Bool) (h : Heap) (z u o c1 c2 d e : Addr) (xs ys : Array Value) (k : Nat) : Prop where
 zip : IsZip h z u o .none
 its : IsPair h u (.ref c1) (.ref c2)
 own : ∃ a b, IsPair h o a b
 i1 : SI f1 h c1 d k
 i2 : SI f2 h c2 e k
 t1 : SS f1 h d xs
 t2 : SS f2 h e ys
abbrev zh1 (f1 : Bool) (h : Heap) (d : Addr) : Heap := h.push { cls := .type (itn f1), data := .fields #[.ref d, .int 0 0] }
end
section
variable {σ : L2.St}
theorem inv_seq (I : Inv X pins σ H s) (h : SqS f X.K H a xs) : ∃ its : List Value, Vals xs its ∧ SS f s.heap a its.toArray := by
 cases f with
 | true => obtain ⟨t, r, p, _⟩ := I.tuple h; exact ⟨t, r, p⟩
 | false => obtain ⟨t, r, p, _⟩ := I.list h; exact ⟨t, r, p.isList⟩
theorem sqS_apart (I : Inv X pins σ H s) (h : SqS f X.K H d xs) (q : FpOk X pins H b) : d ≠ b := by
 cases f with
 | true => exact sqT_apart I h q
 | false => exact ZL.sqL_apart I h q
theorem sqS_inj (I : Inv X pins σ H s) (h : SqS f X.K H a xs) (q : SqS f X.K H a ys) : xs = ys := by
 cases f with
 | true => exact I.tuple_inj h q
 | false => exact I.list_inj h q
end
end ZG
namespace EG
open PySem PySem.Spec PySem.Calls PyProof.Rows L2
section
variable {s : Shared}
theorem drawsT (hh : A.handled = none) (c d : Addr) (hdc : d ≠ c) (f : Bool) (xs : Array Value) :
 Draws prog w A c [c, d] xs.size (fun i x => xs[i]? = some x) (fun i h => ZG.SI f h c d i ∧ ZG.SS f h d xs) where
 live := fun i h st => let ⟨o, e, _⟩ := ZG.SI.ob st.1; ⟨o, e⟩
 frame := fun i h h' st k => ⟨ZG.SI.at st.1 fun ob q => k _ (by simp) ob q, ZG.SS.at st.2 fun ob q => k _ (by simp) ob q⟩
 item := fun i s Q E hi st go => by
  have hx : xs[i]? = some xs[i] := by simp
  exact ZG.gnext st.1 st.2 hx fun g j k => go _ g s.toks hx ⟨j, ZG.SS.at st.2 fun ob q => k.extBut _ _ hdc q⟩ k
 done := fun s Q E st go => ZG.gnone hh st.1 st.2 (by simp) fun g e k he => go g e k he
theorem enone {k : Nat} (hh : A.handled = none) (h1 : IsEnum s.heap e c k old) (h2 : ZG.SI f s.heap c d k) (h3 : ZG.SS f s.heap d xs) (hv : xs[k]? = none)
 (go : ∀ g x, Heap.ExtBut c s.heap g → (∃ ob, g.get? x = some ob ∧ ob.cls = .type "StopIteration") → E (.ref x) { s with heap := g }) :
 wpAny (model prog w) A (Builtin.«enumerate.__next__» ⟨[.ref e], []⟩) Q E s := by
 show wpAny _ _ (field _ 2 >>= _) _ _ _
 refine wpAny_bind (wpAny_field h1 rfl rfl ?_)
 exact wpAny_bind (ZG.gnone hh h2 h3 hv go)
theorem enext {f : Bool} {e c d : Addr} {xs : Array Value} {k : Nat} {x old : Value} (hh : A.handled = none) (n1 : e ≠ c) (n2 : d ≠ e) (n3 : d ≠ c) (h1 : IsEnum s.heap e c k old) (h2 : ZG.SI f s.heap c d k) (h3 : ZG.SS f s.heap d xs) (hx : xs[k]? = some x)
 (go : ∀ g tk, IsEnumOut g e c (k + 1) x s.heap.objs.size → ZG.SI f g c d (k + 1) → IsPair g s.heap.objs.size (.int k tk) x → g.objs.size = s.heap.objs.size + 1 →
  (∀ b ob, b ≠ e → b ≠ c → s.heap.get? b = some ob → g.get? b = some ob) → Q (some (.ref s.heap.objs.size)) { s with heap := g, toks := tk + 1 }) : wpAny (model prog w) A (pyNext (.ref e)) Q E s := by
 have hT : s.TypeIs (.ref e) "enumerate" := ⟨_, h1, rfl⟩
 have hk : k < xs.size := by
  rcases Nat.lt_or_ge k xs.size with h | h
  · exact h
  simp_all
 unfold pyNext
 refine wpAny_bind (wpAny_attempt (wpAny_callSpecial?_slot hT F.slot_enumerate_next (wpAny_call_entry F.slot_enumerate_next hT F.entry_enumerate_next ?_ (F.args_enumerate_next_1 _))))
 refine enumerate_next_itemD (drawsT (A := A.in1) (show A.in1.handled = none from hh) c d n3 f xs) h1 ⟨h2, h3⟩ hk n1 (by simp [n1, Ne.symm n2]) fun x' g tk px a1 a2 a3 a4 a5 => wpAny_pure ?_
 have : x' = x := by grind
 subst this
 exact go g tk a1 a2.1 a3 a4 a5
theorem estop {k : Nat} (hh : A.handled = none) (h1 : IsEnum s.heap e c k old) (h2 : ZG.SI f s.heap c d k) (h3 : ZG.SS f s.heap d xs) (hv : xs[k]? = none)
 (go : ∀ g, Heap.ExtBut c s.heap g → Q none { s with heap := g }) : wpAny (model prog w) A (pyNext (.ref e)) Q E s := by
 have hT : s.TypeIs (.ref e) "enumerate" := ⟨_, h1, rfl⟩
 refine wpAny_bind (wpAny_attempt (wpAny_callSpecial?_slot hT F.slot_enumerate_next (wpAny_call_entry F.slot_enumerate_next hT F.entry_enumerate_next (enone hh h1 h2 h3 hv fun g x hk he => ?_) (F.args_enumerate_next_1 _))))
 obtain ⟨ob, hob, hcb⟩ := he
 exact wpAny_bind (wpAny_isInstance ⟨ob, hob, hcb⟩ isSubtype_stop (wpAny_pure (go _ hk)))
theorem wpAny_pureB {b : Bool} (h : ∀ b, Q b s) : wpAny M A (pure b) Q E s := wpAny_pure (h b)
theorem emeets (f : Bool) (d : Addr) (xs : Array Value) : Meets (Builtin.«enumerate.__new__» ⟨[.type "enumerate", .ref d], []⟩) (fun _ R s => ZG.SS f s.heap d xs ∧
 R (.ok (.ret (.ref (ZG.zh1 f s.heap d).objs.size))) { s with heap := (ZG.zh1 f s.heap d).push { cls := .type "enumerate", data := .fields #[.none, .bool false, .ref s.heap.objs.size, rawInt 0, .none, .none] } }) :=
 .of_wp fun prog w A R s h => by
  obtain ⟨hp, g, dr, tk, os⟩ := s
  obtain ⟨h1, h⟩ := h
  have hsub := sub_enumerate
  have q1 : ZG.SS f (Shared.heap ⟨hp, g, dr, tk, os⟩) d xs := h1
  wp_walk using ZG.giter q1
  refine wpAny_stack_any fun st => wpAny_pureB fun bb => ?_
  cases bb
  · wp_walk using ZG.giter q1
    exact ⟨_, rfl, h⟩
  · wp_walk using ZG.giter q1
    exact ⟨_, rfl, h⟩
theorem emake (h1 : ZG.SS f s.heap d xs)
 (go : ∀ g, IsEnum g (s.heap.objs.size + 1) s.heap.objs.size 0 .none → ZG.SI f g s.heap.objs.size d 0 → (∀ b ob, s.heap.get? b = some ob → g.get? b = some ob) → Q (.ref (s.heap.objs.size + 1)) { s with heap := g }) :
 wpAny (model prog w) A (call (.type "enumerate") [.ref d]) Q E s := by
 refine callType_new F.called_enumerate (by decide) (F.typeCall_enumerate_1 _) (F.newCall_enumerate_1 _) (fun obj => F.args_object_init_2 obj _) F.entry_enumerate_new (emeets f d xs) ⟨h1, ?_⟩
 have s1 : (ZG.zh1 f s.heap d).objs.size = s.heap.objs.size + 1 := Heap.size_push ..
 have g2 : ((ZG.zh1 f s.heap d).push { cls := .type "enumerate", data := .fields #[.none, .bool false, .ref s.heap.objs.size, rawInt 0, .none, .none] }).get? (ZG.zh1 f s.heap d).objs.size = some _ := Heap.get?_push_size _ rfl
 have g1 : ((ZG.zh1 f s.heap d).push { cls := .type "enumerate", data := .fields #[.none, .bool false, .ref s.heap.objs.size, rawInt 0, .none, .none] }).get? s.heap.objs.size = some _ := Heap.get?_push_of_some _ (Heap.get?_push_size _ rfl)
 have old : ∀ b ob, s.heap.get? b = some ob → ((ZG.zh1 f s.heap d).push { cls := .type "enumerate", data := .fields #[.none, .bool false, .ref s.heap.objs.size, rawInt 0, .none, .none] }).get? b = some ob := fun b ob q => Heap.get?_push_of_some _ (Heap.get?_push_of_some _ q)
 rw [s1] at g2
 have gz := go _ g2 (ZG.SI.new g1) old
 rw [s1]
 exact ⟨⟨_, g2, rfl⟩, gz⟩
end
def Ite (f : Bool) (K : PySem.W.Frag) (a : Addr) : It :=
 ⟨fun i H => ∃ xs x, ZG.SqS f K H a xs ∧ xs[i]? = some x,
  fun i H v H' => ∃ (x : V) (T : Addr), v = .ref T ∧ H T = none ∧ H' = upd H T (.tup [.int i, x]) ∧ ∀ xs, ZG.SqS f K H a xs → xs[i]? = some x,
  fun i H => ∃ xs, ZG.SqS f K H a xs ∧ xs.length ≤ i⟩
theorem turn_enum {f : Bool} {P : Program} {w : World} {K : PySem.W.Frag} {es : List Expr} {kt : Nat} {pt : Pos} {e c a : Addr} (ne : e ≠ c) :
 Turn P w K (.Tuple es kt pt) (Ite f K a) [e, c] e (fun i h => (∃ old, IsEnum h e c i old) ∧ ZG.SI f h c a i) where
 mem := by simp
 obj := fun i h st b hb => by
  obtain ⟨⟨old, h1⟩, h40⟩ := st
  obtain ⟨o4, h4, d4⟩ := ZG.SI.ob h40
  simp only [List.mem_cons, List.mem_nil_iff, or_false] at hb
  rcases hb with rfl | rfl
  · exact ⟨_, h1, fun v q => by cases q⟩
  · exact ⟨_, h4, fun v q => by rw [d4] at q; cases q⟩
 keep := fun i h h' st k => by
  obtain ⟨⟨old, h1⟩, h4⟩ := st
  exact ⟨⟨old, k _ (by simp) _ h1⟩, ZG.SI.at h4 fun ob q => k _ (by simp) ob q⟩
 item := by
  intro X hP hw hK hc i pins s σ H E I hf st hg
  subst hP hw hK
  obtain ⟨⟨old, h1⟩, h4⟩ := st
  obtain ⟨xs, x, q1, hx⟩ := hg
  obtain ⟨t1, r1, p1⟩ := ZG.inv_seq I q1
  obtain ⟨x', hx', rx⟩ := r1.get hx
  have ae : a ≠ e := ZG.sqS_apart I q1 (hf e (by simp))
  have ac : a ≠ c := ZG.sqS_apart I q1 (hf c (by simp))
  refine enext (I.ok.hd hc) ne ae ac h1 h4 p1 (x := x') (by simpa using hx') fun g tk z1 i1 T1 sz kp => ?_
  refine ⟨_, rfl, wpAny_letOwnedTupleGo_enum z1 fun g' z2 k2 => ?_⟩
  have hfr : H s.heap.objs.size = none := I.hok.fresh (Nat.le_refl _)
  have lt : ∀ b ∈ [e, c], b < s.heap.objs.size := fun b hb => by
   simp only [List.mem_cons, List.mem_nil_iff, or_false] at hb
   rcases hb with rfl | rfl
   · exact Heap.lt_size h1
   · obtain ⟨_, h4, _⟩ := ZG.SI.ob h4; exact Heap.lt_size h4
  have all : ∀ b ob, b ∉ [e, c] → s.heap.get? b = some ob → g'.get? b = some ob := fun b ob hb q => by
   simp only [List.mem_cons, List.mem_nil_iff, or_false, not_or] at hb
   exact k2.extBut _ _ hb.1 (kp b ob hb.1 hb.2 q)
  have zl : e < s.heap.objs.size := lt e (by simp)
  have i1' := ZG.SI.at i1 fun ob q => k2.extBut _ _ (Ne.symm ne) q
  have T' : IsPair g' s.heap.objs.size (.int i tk) x' := k2.extBut _ _ (Nat.ne_of_gt zl) T1
  have trk : ∀ b v, H b = some v → b ∉ [e, c] := fun b v q hb => by rw [(hf b hb).1] at q; cases q
  have I1 : Inv X pins σ (upd H s.heap.objs.size (.tup [.int i, x])) { s with heap := g', toks := tk + 1 } := by
   refine I.step (g' := s.gens) (d' := s.drawn) (t' := tk + 1) (ch := [e, c]) (fun b hb => ?_) (fun b ob _ _ hb q _ => all b ob hb q) (fun b ob _ _ hb q _ => ⟨ob.slots, all b ob hb q⟩) (fun b ob hb q n => ?_) (fun b ob hb q => ⟨ob, all b ob hb q⟩)
    (fun b v q => ?_) (fun b v v' q => ?_) (fun b v q => ⟨#[], ?_⟩) (fun m hm => ?_) (fun b v q => ?_) I.bare
   · obtain ⟨f0, f1, f2, f3, f4, f5⟩ := hf b hb
     exact ⟨f3, f1, f4, f5⟩
   · rw [upd_ne (Nat.ne_of_lt (Heap.lt_size q))]; exact n
   · rw [upd_ne (ne_of_none q hfr)]; exact q
   · rw [upd_ne (ne_of_none q hfr)]; exact q
   · rw [upd_ne (ne_of_none q hfr), q]; simp
   · obtain ⟨ob, es, ep, ho, r⟩ := hm
     exact ⟨ob, es, ep, all _ ob (fun hb => (hf _ hb).2.1 rfl) ho, r⟩
   · by_cases hcT : b = s.heap.objs.size
     · subst hcT
       rw [upd_same] at q; cases q
       exact ⟨by show 2 ≤ sizeLine; decide, [.int i tk, x'], .cons ⟨tk, rfl⟩ (.cons rx .nil), ⟨_, T', rfl, rfl, _, rfl⟩⟩
     · rw [upd_ne hcT] at q
       refine (I.hok b v q).stay (fun c' ob hc' q' => all c' ob ?_ q') (fun c' q' => by rw [upd_ne (ne_of_none q' hfr)]; exact q') fun c' vs q' => by rw [upd_ne (ne_of_none q' hfr)]; exact q'
       rcases hc' with z | z
       · rw [z]; exact trk b v q
       · exact trk c' _ z
  refine ⟨.ref s.heap.objs.size, _, I1, rfl, ⟨x, _, rfl, hfr, rfl, fun xs' e1 => ?_⟩, ⟨⟨_, z2⟩, i1'⟩, fun b hb => ?_⟩
  · rw [ZG.sqS_inj I e1 q1]; exact hx
  · rw [upd_ne (Nat.ne_of_lt (lt b hb))]; exact (hf b hb).1
 done := by
  intro X hP hw hK hc i pins s σ H E I hf st hg
  subst hP hw hK
  obtain ⟨⟨old, h1⟩, h4⟩ := st
  obtain ⟨xs, q1, hend⟩ := hg
  obtain ⟨t1, r1, p1⟩ := ZG.inv_seq I q1
  have e1 := r1.length
  refine estop (I.ok.hd hc) h1 h4 p1 (by simp; omega) fun g kp => ⟨rfl, ?_⟩
  have all : ∀ b ob, b ∉ [e, c] → s.heap.get? b = some ob → g.get? b = some ob := fun b ob hb q => by
   simp only [List.mem_cons, List.mem_nil_iff, or_false, not_or] at hb
   exact kp b ob hb.2 q
  have trk : ∀ b v, H b = some v → b ∉ [e, c] := fun b v q hb => by rw [(hf b hb).1] at q; cases q
  refine I.step (g' := s.gens) (d' := s.drawn) (t' := s.toks) (ch := [e, c]) (fun b hb => ?_) (fun b ob _ _ hb q _ => all b ob hb q) (fun b ob _ _ hb q _ => ⟨ob.slots, all b ob hb q⟩) (fun b ob hb q n => n) (fun b ob hb q => ⟨ob, all b ob hb q⟩)
   (fun b v q => q) (fun b v v' q => q) (fun b v q => ⟨#[], by rw [q]; simp⟩) (fun m hm => ?_) (fun b v q => ?_) I.bare
  · obtain ⟨f0, f1, f2, f3, f4, f5⟩ := hf b hb
    exact ⟨f3, f1, f4, f5⟩
  · obtain ⟨ob, es, ep, ho, r⟩ := hm
    exact ⟨ob, es, ep, all _ ob (fun hb => (hf _ hb).2.1 rfl) ho, r⟩
  · refine (I.hok b v q).stay (fun c' ob hc' q' => all c' ob ?_ q') (fun c' q' => q') fun c' vs q' => q'
    rcases hc' with z | z
    · rw [z]; exact trk b v q
    · exact trk c' _ z
 self := fun _ _ _ _ _ st h => by obtain ⟨⟨old, h1⟩, _⟩ := st; exact wpAny_pyIter_enum h1 h
theorem boot_enum : bootBuiltins "enumerate" = some (.type "enumerate") := by rfl
def iEnum (K : PySem.W.Frag) (ta : TA) : TI := fun σ H R => ta σ H fun vs H1 => ∃ (f : Bool) (a : Addr) (xs : List V), vs = [.ref a] ∧ ZG.SqS f K H1 a xs ∧ R (Ite f K a) H1
theorem pi_enum (hg : Gl X "enumerate") (hm : X.mg "enumerate" = none) (ha : PA X [a] ta) (hs : starEach [a] X.env = [(false, eval a X.env)]) :
 PI X (.Tuple es kt pt) (.Call (.Name "enumerate" p) [a] [] pos) (iEnum X.K ta) := by
 intro pins s σ H R I h
 refine Call_ (ld_blt I hg hm boot_enum (PyProof.Rows.callWith_type1 (thn (ha pos pins s σ H _ I h) fun us s1 ⟨vs, H1, I1, r1, q1⟩ => ?_) (by rw [hs]; rfl) rfl))
 obtain ⟨f, a, xs, e, q1, q⟩ := q1
 subst e
 cases r1 with
 | cons r rr =>
  cases rr
  cases r
  obtain ⟨t1, rv1, p1⟩ := ZG.inv_seq I1 q1
  refine emake p1 fun g h1 h2 old => ?_
  have I2 := I1.kept (t' := s1.toks) old
  refine wpAny_pyIter_enum h1 ?_
  refine ⟨s1.heap.objs.size + 1, [s1.heap.objs.size + 1, s1.heap.objs.size], _, _, H1, rfl, I2, turn_enum ?_, ⟨⟨_, h1⟩, h2⟩, fun c hc => ?_, q⟩
  · intro z; have z : (_ : Nat) = _ := z; omega
  · have hb : s1.heap.objs.size ≤ c := by
     simp at hc
     rcases hc with rfl | rfl
     simp; omega
    exact I1.fpOk hb (I1.hok.fresh hb)
theorem k_enum {K : PySem.W.Frag} (hK : X.K = K) {x : Str} (hx : x = "enumerate") (hg : Gl X x) (hm : X.mg x = none) (hs : starEach [a] X.env = [(false, eval a X.env)]) (ha : JA X [a] ta) :
 JI X (.Tuple es kt pt) (.Call (.Name x p) [a] [] pos) (iEnum K ta) := hK ▸ ⟨by subst hx; exact pi_enum hg hm ha.h hs⟩
section
variable {K : PySem.W.Frag} {g : TG} {tb : TS} {D : Ends}
theorem for_enum (Pv : Nat → L2.St → Hp → Prop) (h0 : Pv 0 σ0 H0) (hl : ∀ i σ H, i ≤ xs.length → Pv i σ H → ZG.SqS f K H a xs)
 (hs : ∀ i x σ H (T : Addr), xs[i]? = some x → Pv i σ H → H T = none → g (.ref T) σ (upd H T (.tup [.int i, x])) fun σ2 H2 => tb { D with nx := Pv (i + 1), ct := Pv (i + 1), bk := D.nx } σ2 H2)
 (hd : ∀ σ H, Pv xs.length σ H → D.nx σ H) :
 ∃ W : Nat → Nat → L2.St → Hp → Prop, (∃ m, W 0 m σ0 H0) ∧ ∀ i m σ H, W i m σ H →
  ((Ite f K a).stop i H ∧ D.nx σ H) ∨ ((Ite f K a).go i H ∧ ∃ N : L2.St → Hp → Prop, (∀ σ' H', N σ' H' → ∃ m', m' < m ∧ W (i + 1) m' σ' H') ∧ ∀ x H', (Ite f K a).yld i H x H' → g x σ H' fun σ2 H2 => tb { D with nx := N, ct := N, bk := D.nx } σ2 H2) := by
 refine ⟨fun i m σ H => m = xs.length - i ∧ i ≤ xs.length ∧ Pv i σ H, ⟨xs.length, by simp, Nat.zero_le _, h0⟩, ?_⟩
 rintro i m σ H ⟨rfl, hi, p⟩
 have q := hl i σ H hi p
 by_cases hlt : i < xs.length
 · refine .inr ⟨⟨xs, xs[i], q, by simp⟩, Pv (i + 1), fun σ' H' p' => ⟨xs.length - _, by omega, rfl, hlt, p'⟩, fun x H' y => ?_⟩
   obtain ⟨x, T, rfl, hT, rfl, hxz⟩ := y
   exact hs i x σ _ T (hxz xs q) p hT
 · have e : i = xs.length := by omega
   subst e
   exact .inl ⟨⟨xs, q, Nat.le_refl _⟩, hd σ H p⟩
end
end EG
end Br
namespace Br
open PySem PySem.Spec PySem.Calls PyProof.Rows L2
section
variable {X : Cx} {k : Nat}
def rInD (K : PySem.W.Frag) (neg : Bool) : R2 := fun x y H Q => ∃ p xs ds d, y = .ref p ∧ SqL K H p xs ∧ Reps H xs ds ∧ Rep H x d ∧ (∀ e ∈ ds, Pl e) ∧ Pl d ∧ Q (.bl (neg != ds.any fun e => e.eqv d)) H
noncomputable def eqU2 (h : Heap) (d : PyData) (u : Value) : Bool := @decide (∃ e as, Reads h u e as ∧ e.canLay0 = true ∧ e.eqv d = true) (Classical.propDecidable _)
theorem eqU2_of {h : Heap} {d e : PyData} {u : Value} {as : List Addr} (r : Reads h u e as) (l : e.canLay0 = true) : eqU2 h d u = e.eqv d := by
 unfold eqU2
 cases c : e.eqv d with
 | true => exact @decide_eq_true _ (Classical.propDecidable _) ⟨e, as, r, l, c⟩
 | false =>
  refine @decide_eq_false _ (Classical.propDecidable _) ?_
  rintro ⟨e', as', r', l', c'⟩
  rw [SeqAt.Reads.unique e' e u as' as l' r' r, c] at c'
  cases c'
theorem any_reps {P : Program} {w : World} {H : Hp} {h : Heap} (ok : HOk P w H h) {d : PyData} : ∀ {xs : List V} {ds : List PyData} {us : List Value}, Reps H xs ds → Vals xs us → (∀ e ∈ ds, Pl e) → us.any (eqU2 h d) = (ds.any fun e => e.eqv d) ∧ ∀ u ∈ us, ∃ e as, Reads h u e as ∧ Pl e
 | _, _, _, .nil, .nil, _ => ⟨rfl, fun u hu => nomatch hu⟩
 | _, _, _, .cons q rs, .cons r t, pl => by
  obtain ⟨as, z⟩ := q.reads ok r
  obtain ⟨i1, i2⟩ := any_reps ok rs t fun e he => pl e (.tail _ he)
  have p0 := pl _ (.head _)
  rw [List.any_cons, List.any_cons, eqU2_of z p0.1, i1]
  refine ⟨rfl, fun u hu => ?_⟩
  rcases List.mem_cons.mp hu with e | e
  · rw [e]; exact ⟨_, as, z, p0⟩
  · exact i2 u e
theorem op_inD (hr : Room k X.A) : OpR X (compareOp .In) (rInD X.K false) := by
 intro pins s σ H x y v u Q I rx ry h
 obtain ⟨p, xs, ds, d, rfl, hq, rr, rd, pls, pd, q⟩ := h
 cases ry
 obtain ⟨its, r, pl, hz⟩ := I.list hq
 obtain ⟨as, rv⟩ := rd.reads I.hok rx
 obtain ⟨e1, e2⟩ := any_reps (d := d) I.hok rr r pls
 have hu := hr.un
 refine SeqAt.in_listAt (eqU2 s.heap d) pl.isList (fun w hw => ?_) ⟨.bl _, H, I, rfl, ?_⟩
 · obtain ⟨e, bs, g1, g2⟩ := e2 w (by simpa using hw)
   rw [eqU2_of g1 g2.1]
   exact SeqAt.eqAt_reads _ _ _ _ _ _ _ _ g1 rv g2.1 pd.1 (by have := g2.2; have e1 : X.A.in1.units = X.A.units + 1 := rfl; omega)
 · rw [show its.toArray.any (eqU2 s.heap d) = its.any (eqU2 s.heap d) by simp, e1]
   simpa using q
theorem op_notInD (hr : Room k X.A) : OpR X (compareOp .NotIn) (rInD X.K true) := by
 intro pins s σ H x y v u Q I rx ry h
 obtain ⟨p, xs, ds, d, rfl, hq, rr, rd, pls, pd, q⟩ := h
 cases ry
 obtain ⟨its, r, pl, hz⟩ := I.list hq
 obtain ⟨as, rv⟩ := rd.reads I.hok rx
 obtain ⟨e1, e2⟩ := any_reps (d := d) I.hok rr r pls
 have hu := hr.un
 refine SeqAt.notIn_listAt (eqU2 s.heap d) pl.isList (fun w hw => ?_) ⟨.bl _, H, I, rfl, ?_⟩
 · obtain ⟨e, bs, g1, g2⟩ := e2 w (by simpa using hw)
   rw [eqU2_of g1 g2.1]
   exact SeqAt.eqAt_reads _ _ _ _ _ _ _ _ g1 rv g2.1 pd.1 (by have := g2.2; have e1 : X.A.in1.units = X.A.units + 1 := rfl; omega)
 · rw [show its.toArray.any (eqU2 s.heap d) = its.any (eqU2 s.heap d) by simp, e1]
   simpa using q
theorem c_inX {K : PySem.W.Frag} (hK : X.K = K) (hr : Room k X.A) : JCop X .In (fun x y H Q => rIn K false x y H Q ∨ rInD K false x y H Q) := hK ▸ ⟨op_in_seq.or (op_inD hr)⟩
theorem c_notInX {K : PySem.W.Frag} (hK : X.K = K) (hr : Room k X.A) : JCop X .NotIn (fun x y H Q => rIn K true x y H Q ∨ rInD K true x y H Q) := hK ▸ ⟨op_notIn_seq.or (op_notInD hr)⟩
theorem c_isnotX : JCop X .IsNot (fun x y H Q => (∃ a b : Bool, x = .bl a ∧ y = .bl b ∧ Q (.bl (!decide (a = b))) H) ∨ (y = .non ∧ Q (.bl (!decide (x = .non))) H)) := ⟨op_isnotB.or op_notN⟩
end
end Br
namespace Br
section
variable {need s m more : Int} {ks : List (Int × Int)} {r r' : List Int} {rows : List (List Int)} {q : Int × Int}
structure Part (ks : List (Int × Int)) (r : List Int) : Prop where
 srt : r.Pairwise (· ≤ ·)
 mem : ∀ x ∈ r, ∃ q ∈ ks, q.1 = x
 cnt : ∀ q ∈ ks, (r.count q.1 : Int) ≤ q.2
def LeanR (need : Int) (r : List Int) : Prop := need ≤ r.sum ∧ ∃ x t, r = x :: t ∧ t.sum < need
theorem split_least (s : Int) : ∀ (r : List Int), r.Pairwise (· ≤ ·) → (∀ x ∈ r, s ≤ x) → r = List.replicate (r.count s) s ++ r.filter (fun x => x != s)
 | [], _, _ => rfl
 | x :: r, h, hs => by
  have h2 := (List.pairwise_cons.mp h)
  have ih := split_least s r h2.2 fun y hy => hs y (.tail _ hy)
  by_cases e : x = s
  · subst e
    rw [List.count_cons_self, List.replicate_succ, List.filter_cons, if_neg (by simp), List.cons_append, ← ih]
  · have c0 : ∀ y ∈ x :: r, y ≠ s := fun y hy z => by
     have h3 := hs x (.head _)
     rcases List.mem_cons.mp hy with w | w
     · exact e (w ▸ z)
     · have := h2.1 y w
       omega
    rw [List.count_eq_zero.mpr (fun z => c0 s z rfl), List.filter_eq_self.mpr fun y hy => by simpa using c0 y hy]
    rfl
theorem up_low {t b n : Int} (hb : 0 < b) (h : n ≤ upD t b) : (n - 1) * b < t := by
 have : ¬ t ≤ (n - 1) * b := fun z => by have := (upD_le hb).mpr z; omega
 omega
theorem grow_in {below : Int} {zs : List Int} (n : Nat) (h1 : fewN need below s zs ≤ (n : Int)) (h2 : (n : Int) ≤ mostN need s m zs) : addN s zs n ∈ growP need s m below zs := by
 have f0 : 0 ≤ fewN need below s zs := few0
 unfold growP
 refine List.mem_map.mpr ⟨(n - fewN need below s zs).toNat, List.mem_range.mpr (by omega), ?_⟩
 show addN s zs (fewN need below s zs + ((n - fewN need below s zs).toNat : Nat)).toNat = _
 congr 1; omega
theorem in_grow {below : Int} {zs : List Int} (h : r ∈ growP need s m below zs) : ∃ n : Nat, r = addN s zs n ∧ fewN need below s zs ≤ (n : Int) ∧ (n : Int) ≤ mostN need s m zs := by
 have f0 : 0 ≤ fewN need below s zs := few0
 unfold growP at h
 obtain ⟨i, hi, e⟩ := List.mem_map.mp h
 have := List.mem_range.mp hi
 exact ⟨(fewN need below s zs + (i : Int)).toNat, e.symm, by omega, by omega⟩
structure Way (need : Int) (P : List (Int × Int)) (more : Int) (rows : List (List Int)) : Prop where
 out : ∀ r ∈ rows, Part P r ∧ (LeanR need r ∨ r.sum < need)
 «in» : ∀ r, Part P r → (LeanR need r ∨ (r.sum < need ∧ need ≤ r.sum + more)) → r ∈ rows
theorem full_iff : fullB need r = true ↔ need ≤ r.sum := by unfold fullB; simp
theorem Way.step {P : List (Int × Int)} (W : Way need P more rows) (hs : 1 ≤ q.1) (hm : 0 ≤ q.2) (hP : ∀ p ∈ P, q.1 < p.1) (hb : 0 ≤ more - q.1 * q.2) : Way need (q :: P) (more - q.1 * q.2) (rowsTo need q.1 q.2 more rows) := by
 have lift : ∀ {r}, Part P r → (∀ x ∈ r, q.1 < x) ∧ Part (q :: P) r := fun {r} h => by
  have lt : ∀ x ∈ r, q.1 < x := fun x hx => by obtain ⟨p, hp, e⟩ := h.mem x hx; have := hP p hp; omega
  refine ⟨lt, h.srt, fun x hx => let ⟨p, hp, e⟩ := h.mem x hx; ⟨p, .tail _ hp, e⟩, fun p hp => ?_⟩
  rcases List.mem_cons.mp hp with e | e
  · rw [e, List.count_eq_zero.mpr fun z => by have := lt _ z; omega]; exact hm
  · exact h.cnt p e
 constructor
 · intro r hr
   rcases List.mem_append.mp hr with h | h
   · obtain ⟨h1, h2⟩ := List.mem_filter.mp h
     obtain ⟨p, c⟩ := W.out r h1
     exact ⟨(lift p).2, c⟩
   · obtain ⟨z, hz, hr⟩ := List.mem_flatMap.mp h
     obtain ⟨h1, h2⟩ := List.mem_filter.mp hz
     have hzs : z.sum < need := by
      have : ¬ need ≤ z.sum := fun c => by rw [full_iff.mpr c] at h2; cases h2
      omega
     obtain ⟨n, e, n1, n2⟩ := in_grow hr
     obtain ⟨p, _⟩ := W.out z h1
     obtain ⟨lt, p'⟩ := lift p
     have n3 : (n : Int) ≤ q.2 := Int.le_trans n2 (Int.min_le_left _ _)
     have n4 : (n : Int) ≤ upD (need - z.sum) q.1 := Int.le_trans n2 (Int.min_le_right _ _)
     have c0 : z.count q.1 = 0 := List.count_eq_zero.mpr fun w => by have := lt _ w; omega
     subst e
     refine ⟨⟨?_, fun x hx => ?_, fun k hk => ?_⟩, ?_⟩
     · refine List.pairwise_append.mpr ⟨List.pairwise_replicate.mpr (.inr (Int.le_refl _)), p.srt, fun a ha b hb => ?_⟩
       rw [List.eq_of_mem_replicate ha]
       exact Int.le_of_lt (lt b hb)
     · rcases List.mem_append.mp hx with w | w
       · exact ⟨q, .head _, (List.eq_of_mem_replicate w).symm⟩
       · exact p'.mem x w
     · unfold addN
       rw [List.count_append, List.count_replicate]
       rcases List.mem_cons.mp hk with w | w
       · subst w
         rw [c0, if_pos (by simp)]; omega
       · have := hP k w
         rw [if_neg (by simp; omega), Nat.zero_add]; exact p.cnt k w
     · cases n with
       | zero => exact .inr hzs
       | succ n =>
        have h5 := up_low (by omega) n4
        have e1 : (addN q.1 z n).sum = (n : Int) * q.1 + z.sum := addN_sum
        have h6 : (addN q.1 z n).sum < need := by
         rw [e1]
         have : ((n + 1 : Nat) : Int) - 1 = n := by omega
         rw [this] at h5
         omega
        rcases Int.lt_or_le (addN q.1 z (n + 1)).sum need with w | w
        · exact .inr w
        · exact .inl ⟨w, q.1, addN q.1 z n, by unfold addN; rw [List.replicate_succ]; rfl, h6⟩
 · intro r p c
   have hs' : ∀ x ∈ r, q.1 ≤ x := fun x hx => by
    obtain ⟨k, hk, e⟩ := p.mem x hx
    rcases List.mem_cons.mp hk with w | w
    · rw [← e, w]; exact Int.le_refl _
    · have := hP k w; omega
   have e := split_least q.1 r p.srt hs'
   generalize hz : r.filter (fun x => x != q.1) = z at e
   generalize hn : r.count q.1 = n at e
   have e' : r = addN q.1 z n := e
   have pz : Part P z := by
    refine ⟨?_, fun x hx => ?_, fun k hk => ?_⟩
    · rw [← hz]; exact p.srt.filter _
    · rw [← hz] at hx
      obtain ⟨h1, h2⟩ := List.mem_filter.mp hx
      obtain ⟨k, hk, ek⟩ := p.mem x h1
      rcases List.mem_cons.mp hk with w | w
      · rw [← ek, w] at h2; simp at h2
      · exact ⟨k, w, ek⟩
    · refine Int.le_trans ?_ (p.cnt k (.tail _ hk))
      rw [← hz]
      exact Int.ofNat_le.mpr (List.Sublist.count_le _ List.filter_sublist)
   have nm : (n : Int) ≤ q.2 := by rw [← hn]; exact p.cnt q (.head _)
   have nm2 : (n : Int) * q.1 ≤ q.1 * q.2 := by rw [Int.mul_comm]; exact Int.mul_le_mul_of_nonneg_left nm (by omega)
   have n0 : (0 : Int) ≤ (n : Int) * q.1 := Int.mul_nonneg (by omega) (by omega)
   have es : r.sum = (n : Int) * q.1 + z.sum := by rw [e']; exact addN_sum
   by_cases full : need ≤ r.sum ∧ n = 0
   · obtain ⟨f1, f2⟩ := full
     have : r = z := by rw [e', f2]; rfl
     refine List.mem_append_left _ (List.mem_filter.mpr ⟨W.in r (this ▸ pz) ?_, full_iff.mpr f1⟩)
     rcases c with c | c
     · exact .inl c
     · omega
   · have low : (n : Int) - 1 < 0 ∨ ((n : Int) - 1) * q.1 + z.sum < need := by
      cases n with
      | zero => exact .inl (by omega)
      | succ n =>
       refine .inr ?_
       have e1 : ((n + 1 : Nat) : Int) - 1 = n := by omega
       rw [e1]
       rcases c with ⟨_, x, t, et, ht⟩ | ⟨c, _⟩
       · have : t = addN q.1 z n := by
          rw [e'] at et
          unfold addN at et
          rw [List.replicate_succ] at et
          injection et with _ et
          exact et.symm
         rw [this, addN_sum] at ht
         exact ht
       · rw [es] at c
         have : ((n + 1 : Nat) : Int) * q.1 = (n : Int) * q.1 + q.1 := by rw [Int.natCast_add, Int.add_mul]; simp
         omega
     have zs : z.sum < need := by
      cases n with
      | zero =>
       have : r.sum = z.sum := by rw [es]; simp
       have : ¬ need ≤ r.sum := fun w => full ⟨w, rfl⟩
       omega
      | succ n =>
       rcases low with w | w
       · omega
       · have : (0 : Int) ≤ (((n + 1 : Nat) : Int) - 1) * q.1 := Int.mul_nonneg (by omega) (by omega)
         omega
     have rb : need ≤ r.sum + (more - q.1 * q.2) := by
      rcases c with c | c
      · have := c.1; omega
      · exact c.2
     refine List.mem_append_right _ (List.mem_flatMap.mpr ⟨z, List.mem_filter.mpr ⟨W.in z pz (.inr ⟨zs, by omega⟩), ?_⟩, ?_⟩)
     · have : fullB need z = false := by
        cases w : fullB need z with
        | false => rfl
        | true => have := full_iff.mp w; omega
       rw [this]; rfl
     · rw [e']
       refine grow_in n ?_ ?_
       · exact (few_le (by omega) n).mpr (by rw [← e']; exact rb)
       · refine Int.le_min.mpr ⟨nm, ?_⟩
         have : ¬ upD (need - z.sum) q.1 ≤ (n : Int) - 1 := fun w => by
          have h1 := (upD_le (by omega)).mp w
          rcases low with h2 | h2
          · have h3 : ((n : Int) - 1) = -1 := by omega
            rw [h3] at h1
            omega
          · omega
         omega
def totK (ks : List (Int × Int)) : Int := (ks.map fun q => q.1 * q.2).sum
theorem totK_pos : ∀ {ks : List (Int × Int)}, (∀ q ∈ ks, 1 ≤ q.1 ∧ 0 ≤ q.2) → 0 ≤ totK ks
 | [], _ => Int.le_refl _
 | q :: ks, h => by
  have h1 := h q (.head _)
  have h2 := totK_pos fun p hp => h p (.tail _ hp)
  have h3 := Int.mul_nonneg (a := q.1) (b := q.2) (by omega) h1.2
  show 0 ≤ (q.1 * q.2 :: _).sum
  rw [List.sum_cons]
  exact Int.add_nonneg h3 h2
theorem totK_cons : totK (q :: ks) = q.1 * q.2 + totK ks := by unfold totK; simp
theorem Way.all {rs : List (List Int)} : ∀ {ks P : List (Int × Int)} {rows : List (List Int)}, Way need P (totK ks) rows → (∀ q ∈ ks, 1 ≤ q.1 ∧ 0 ≤ q.2) → (P.reverse ++ ks).Pairwise (fun a b => b.1 < a.1) → leansOf need ks (totK ks) rows = some rs →
 ∀ r, r ∈ rs ↔ Part (ks.reverse ++ P) r ∧ LeanR need r
 | [], P, rows, W, _, _, e, r => by
  have e1 : rows.filter (fullB need) = rs := Option.some.inj e
  rw [← e1, List.mem_filter, full_iff, List.reverse_nil, List.nil_append]
  constructor
  · rintro ⟨h1, h2⟩
    obtain ⟨p, c⟩ := W.out r h1
    refine ⟨p, ?_⟩
    rcases c with c | c
    · exact c
    · omega
  · rintro ⟨p, c⟩
    exact ⟨W.in r p (.inl c), c.1⟩
 | q :: ks, P, rows, W, h, hp, e, r => by
  have hq := h q (.head _)
  have h' : ∀ q ∈ ks, 1 ≤ q.1 ∧ 0 ≤ q.2 := fun p hp => h p (.tail _ hp)
  rw [totK_cons] at W e
  rw [leansOf] at e
  split at e
  · cases e
  split at e
  · cases e
  have hP : ∀ p ∈ P, q.1 < p.1 := fun p hpp => (List.pairwise_append.mp hp).2.2 p (List.mem_reverse.mpr hpp) q (.head _)
  have e0 : q.1 * q.2 + totK ks - q.1 * q.2 = totK ks := by omega
  have W' := W.step (q := q) hq.1 hq.2 hP (by rw [e0]; exact totK_pos h')
  rw [e0] at W' e
  have := Way.all (P := q :: P) W' h' (by rw [List.reverse_cons, List.append_assoc]; exact hp) e r
  rw [this, List.reverse_cons, List.append_assoc]
  rfl
theorem way0 (need more : Int) (h : 0 < need) : Way need [] more [[]] where
 out := fun r hr => by
  rw [List.mem_singleton.mp hr]
  exact ⟨⟨.nil, fun x hx => (nomatch hx), fun q hq => (nomatch hq)⟩, .inr h⟩
 «in» := fun r p _ => by
  cases r with
  | nil => exact .head _
  | cons x r => obtain ⟨q, hq, _⟩ := p.mem x (.head _); cases hq
theorem Way.short {rs : List (List Int)} : ∀ {ks : List (Int × Int)} {rows : List (List Int)}, (∀ q ∈ ks, 1 ≤ q.1 ∧ 0 ≤ q.2) → (∀ r ∈ rows, r.length ≤ 60) → rows.length ≤ 300 → leansOf need ks (totK ks) rows = some rs → (∀ r ∈ rs, r.length ≤ 60) ∧ rs.length ≤ 300
 | [], rows, _, h1, h2, e => by
  have e1 : rows.filter (fullB need) = rs := Option.some.inj e
  rw [← e1]
  exact ⟨fun r hr => h1 r (List.mem_filter.mp hr).1, Nat.le_trans (List.length_filter_le _ _) h2⟩
 | q :: ks, rows, h, h1, h2, e => by
  have hq := h q (.head _)
  have h' : ∀ q ∈ ks, 1 ≤ q.1 ∧ 0 ≤ q.2 := fun p hp => h p (.tail _ hp)
  have t0 := totK_pos h'
  rw [totK_cons, leansOf] at e
  split at e
  · cases e
  rename_i long
  split at e
  · cases e
  rename_i many
  have e0 : q.1 * q.2 + totK ks - q.1 * q.2 = totK ks := by omega
  rw [e0] at e
  refine Way.short h' (fun r hr => ?_) (by omega) e
  rcases List.mem_append.mp hr with w | w
  · exact h1 r (List.mem_filter.mp w).1
  · obtain ⟨z, hz, hr⟩ := List.mem_flatMap.mp w
    obtain ⟨z1, z2⟩ := List.mem_filter.mp hz
    have hzs : z.sum < need := by
     have : ¬ need ≤ z.sum := fun c => by rw [full_iff.mpr c] at z2; cases z2
     omega
    obtain ⟨n, rfl, n1, n2⟩ := in_grow hr
    have fm := (few_most (need := need) (s := q.1) (m := q.2) (below := q.1 * q.2 + totK ks - q.1 * q.2) (zs := z) (by omega) hq.2 hzs (by omega)).mp (by omega)
    have l1 : ¬ 60 < (z.length : Int) + mostN need q.1 q.2 z := fun c => long ⟨z, z1, hzs, by omega, c⟩
    unfold addN
    rw [List.length_append, List.length_replicate]
    omega
theorem add_filter {zs : List Int} (h : ∀ x ∈ zs, s < x) (n : Nat) : (addN s zs n).filter (fun x => x != s) = zs := by
 unfold addN
 rw [List.filter_append]
 have e1 : (List.replicate n s).filter (fun x => x != s) = [] := by
  rw [List.filter_eq_nil_iff]
  intro x hx
  rw [List.eq_of_mem_replicate hx]; simp
 have e2 : zs.filter (fun x => x != s) = zs := List.filter_eq_self.mpr fun x hx => by
  have := h x hx
  simp; omega
 rw [e1, e2]; rfl
theorem rows_nodup (hP : ∀ r ∈ rows, ∀ x ∈ r, s < x) (nd : rows.Nodup) : (rowsTo need s m more rows).Nodup := by
 have sub : ∀ z ∈ (rows.filter fun r => !fullB need r), z ∈ rows ∧ fullB need z = false := fun z hz => by
  obtain ⟨a, b⟩ := List.mem_filter.mp hz
  exact ⟨a, by simpa using b⟩
 unfold rowsTo
 refine List.nodup_append.mpr ⟨nd.filter _, ?_, fun r hr r' hr' e => ?_⟩
 · refine List.pairwise_flatMap.mpr ⟨fun z hz => ?_, ?_⟩
   · unfold growP
     refine List.pairwise_map.mpr (List.pairwise_lt_range.imp fun {i j} hij e => ?_)
     have f0 : 0 ≤ fewN need (more - s * m) s z := few0
     have := congrArg List.length e
     unfold addN at this
     rw [List.length_append, List.length_append, List.length_replicate, List.length_replicate] at this
     omega
   · refine List.Pairwise.imp_of_mem (fun {z z'} hz hz' ne x hx y hy e => ?_) (nd.filter _)
     obtain ⟨n, e1, _⟩ := in_grow hx
     obtain ⟨n', e2, _⟩ := in_grow hy
     have h1 := add_filter (hP z (sub z hz).1) n
     have h2 := add_filter (hP z' (sub z' hz').1) n'
     rw [← e1, e, e2, h2] at h1
     exact ne h1.symm
 · obtain ⟨a, b⟩ := List.mem_filter.mp hr
   obtain ⟨z, hz, hx⟩ := List.mem_flatMap.mp hr'
   obtain ⟨n, e1, _⟩ := in_grow hx
   have h1 := add_filter (hP z (sub z hz).1) n
   have h2 : r.filter (fun x => x != s) = r := List.filter_eq_self.mpr fun x hx => by
    have := hP r a x hx
    simp; omega
   rw [← e1, ← e, h2] at h1
   rw [h1, (sub z hz).2] at b
   cases b
theorem Way.nodup {rs : List (List Int)} : ∀ {ks P : List (Int × Int)} {rows : List (List Int)}, Way need P (totK ks) rows → rows.Nodup → (∀ q ∈ ks, 1 ≤ q.1 ∧ 0 ≤ q.2) → (P.reverse ++ ks).Pairwise (fun a b => b.1 < a.1) → leansOf need ks (totK ks) rows = some rs → rs.Nodup
 | [], P, rows, W, nd, _, _, e => by
  have e1 : rows.filter (fullB need) = rs := Option.some.inj e
  rw [← e1]; exact nd.filter _
 | q :: ks, P, rows, W, nd, h, hp, e => by
  have hq := h q (.head _)
  have h' : ∀ q ∈ ks, 1 ≤ q.1 ∧ 0 ≤ q.2 := fun p hp => h p (.tail _ hp)
  rw [totK_cons] at W e
  rw [leansOf] at e
  split at e
  · cases e
  split at e
  · cases e
  have hP : ∀ p ∈ P, q.1 < p.1 := fun p hpp => (List.pairwise_append.mp hp).2.2 p (List.mem_reverse.mpr hpp) q (.head _)
  have e0 : q.1 * q.2 + totK ks - q.1 * q.2 = totK ks := by omega
  have W' := W.step (q := q) hq.1 hq.2 hP (by rw [e0]; exact totK_pos h')
  have nd' : (rowsTo need q.1 q.2 (q.1 * q.2 + totK ks) rows).Nodup := rows_nodup (fun r hr x hx => by
   obtain ⟨p, hpp, e⟩ := (W.out r hr).1.mem x hx
   have := hP p hpp; omega) nd
  rw [e0] at W' e
  exact Way.nodup (P := q :: P) W' nd' h' (by rw [List.reverse_cons, List.append_assoc]; exact hp) e
theorem leans_nodup {qs : List (Int × Int)} {rs : List (List Int)} (e : leansOf need qs.reverse (totK qs.reverse) [[]] = some rs) (hn : 0 < need) (hq : ∀ q ∈ qs, 1 ≤ q.1 ∧ 0 ≤ q.2) (ris : qs.Pairwise (fun a b => a.1 < b.1)) : rs.Nodup :=
 Way.nodup (way0 need _ hn) (by simp) (fun q h => hq q (List.mem_reverse.mp h)) (by rw [List.reverse_nil, List.nil_append]; exact List.pairwise_reverse.mpr ris) e
theorem nodup_le {α : Type} [DecidableEq α] : ∀ {l m : List α}, l.Nodup → (∀ x ∈ l, x ∈ m) → l.length ≤ m.length
 | [], _, _, _ => Nat.zero_le _
 | x :: l, m, nd, h => by
  have nd' := List.nodup_cons.mp nd
  have hx := h x (.head _)
  have := nodup_le (l := l) (m := m.erase x) nd'.2 fun y hy => (List.mem_erase_of_ne fun z => nd'.1 (by rw [← z]; exact hy)).mpr (h y (.tail _ hy))
  rw [List.length_erase_of_mem hx] at this
  have := List.length_pos_of_mem hx
  rw [List.length_cons]; omega
theorem leans_all {qs : List (Int × Int)} {rs : List (List Int)} (e : leansOf need qs.reverse (totK qs.reverse) [[]] = some rs) (hn : 0 < need) (hq : ∀ q ∈ qs, 1 ≤ q.1 ∧ 0 ≤ q.2) (ris : qs.Pairwise (fun a b => a.1 < b.1)) :
 (∀ r, r ∈ rs ↔ Part qs r ∧ LeanR need r) ∧ (∀ r ∈ rs, r.length ≤ 60) ∧ rs.length ≤ 300 := by
 have hq' : ∀ q ∈ qs.reverse, 1 ≤ q.1 ∧ 0 ≤ q.2 := fun q h => hq q (List.mem_reverse.mp h)
 refine ⟨fun r => ?_, Way.short hq' (fun r hr => by rw [List.mem_singleton.mp hr]; simp) (by simp) e⟩
 have := Way.all (way0 need _ hn) hq' (by rw [List.reverse_nil, List.nil_append]; exact List.pairwise_reverse.mpr ris) e r
 rw [List.reverse_reverse, List.append_nil] at this
 exact this
end
section
variable {need s m more : Int} {ks P : List (Int × Int)} {r r' : List Int} {rows : List (List Int)} {q : Int × Int}
abbrev Can (need more : Int) (r : List Int) : Prop := LeanR need r ∨ (r.sum < need ∧ need ≤ r.sum + more)
theorem Way.ext : ∀ {ks P : List (Int × Int)} {rows : List (List Int)}, Way need P (totK ks) rows → (∀ q ∈ ks, 1 ≤ q.1 ∧ 0 ≤ q.2) → (P.reverse ++ ks).Pairwise (fun a b => b.1 < a.1) → ∀ r ∈ rows, Can need (totK ks) r →
 ∃ t, (Part (ks.reverse ++ P) (t ++ r) ∧ LeanR need (t ++ r)) ∧ ∀ y ∈ t, ∃ q ∈ ks, q.1 = y
 | [], P, rows, W, _, _, r, hr, c => ⟨[], ⟨(W.out r hr).1, by
  rcases c with c | ⟨c, d⟩
  · exact c
  · have : totK [] = 0 := rfl
    omega⟩, fun y hy => nomatch hy⟩
 | q :: ks, P, rows, W, h, hp, r, hr, c => by
  have hq := h q (.head _)
  have h' : ∀ q ∈ ks, 1 ≤ q.1 ∧ 0 ≤ q.2 := fun p hp => h p (.tail _ hp)
  rw [totK_cons] at W c
  have hP : ∀ p ∈ P, q.1 < p.1 := fun p hpp => (List.pairwise_append.mp hp).2.2 p (List.mem_reverse.mpr hpp) q (.head _)
  have e0 : q.1 * q.2 + totK ks - q.1 * q.2 = totK ks := by omega
  have W' := W.step (q := q) hq.1 hq.2 hP (by rw [e0]; exact totK_pos h')
  rw [e0] at W'
  have hp' : ((q :: P).reverse ++ ks).Pairwise (fun a b => b.1 < a.1) := by rw [List.reverse_cons, List.append_assoc]; exact hp
  have ee : (q :: ks).reverse ++ P = ks.reverse ++ q :: P := by rw [List.reverse_cons, List.append_assoc]; rfl
  rw [ee]
  rcases c with c | ⟨c, d⟩
  · obtain ⟨t, g, ht⟩ := Way.ext W' h' hp' r (List.mem_append_left _ (List.mem_filter.mpr ⟨hr, full_iff.mpr c.1⟩)) (.inl c)
    exact ⟨t, g, fun y hy => let ⟨p, a, b⟩ := ht y hy; ⟨p, .tail _ a, b⟩⟩
  · obtain ⟨g1, g2⟩ := grow_most (q := q) (rows := rows) hq.1 hq.2 (totK_pos h') hr c d
    obtain ⟨t, g, ht⟩ := Way.ext W' h' hp' _ g1 (by
     rcases (W'.out _ g1).2 with z | z
     · exact .inl z
     · exact .inr ⟨z, g2⟩)
    refine ⟨t ++ List.replicate (mostN need q.1 q.2 r).toNat q.1, by rw [List.append_assoc]; exact g, fun y hy => ?_⟩
    rcases List.mem_append.mp hy with z | z
    · obtain ⟨p, a, b⟩ := ht y z; exact ⟨p, .tail _ a, b⟩
    · exact ⟨q, .head _, (List.eq_of_mem_replicate z).symm⟩
where
 grow_most {ks : List (Int × Int)} {q : Int × Int} {rows : List (List Int)} {r : List Int} (h1 : 1 ≤ q.1) (h2 : 0 ≤ q.2) (h3 : 0 ≤ totK ks) (hr : r ∈ rows) (c : r.sum < need) (d : need ≤ r.sum + (q.1 * q.2 + totK ks)) :
  addN q.1 r (mostN need q.1 q.2 r).toNat ∈ rowsTo need q.1 q.2 (q.1 * q.2 + totK ks) rows ∧ need ≤ (addN q.1 r (mostN need q.1 q.2 r).toNat).sum + totK ks := by
  have e0 : q.1 * q.2 + totK ks - q.1 * q.2 = totK ks := by omega
  have fm := (few_most (need := need) (s := q.1) (m := q.2) (below := totK ks) (zs := r) (by omega) h2 c h3).mpr (by omega)
  have f0 : 0 ≤ fewN need (totK ks) q.1 r := few0
  have en : (((mostN need q.1 q.2 r).toNat : Nat) : Int) = mostN need q.1 q.2 r := by omega
  refine ⟨List.mem_append_right _ (List.mem_flatMap.mpr ⟨r, List.mem_filter.mpr ⟨hr, ?_⟩, ?_⟩), ?_⟩
  · have : fullB need r = false := by
     cases w : fullB need r with
     | false => rfl
     | true => have := full_iff.mp w; omega
    rw [this]; rfl
  · rw [e0]; exact grow_in _ (by omega) (by omega)
  · exact (few_le (by omega) _).mp (by omega)
theorem rows_can (W : Way need P more rows) (hs : 1 ≤ q.1) (hm : 0 ≤ q.2) (hP : ∀ p ∈ P, q.1 < p.1) (hb : 0 ≤ more - q.1 * q.2) : ∀ r ∈ rowsTo need q.1 q.2 more rows, Can need (more - q.1 * q.2) r := fun r hr => by
 rcases ((W.step hs hm hP hb).out r hr).2 with z | z
 · exact .inl z
 · refine .inr ⟨z, ?_⟩
   rcases List.mem_append.mp hr with w | w
   · have := full_iff.mp (List.mem_filter.mp w).2
     omega
   · obtain ⟨u, _, hu⟩ := List.mem_flatMap.mp w
     obtain ⟨n, rfl, n1, _⟩ := in_grow hu
     exact (few_le (by omega) n).mp n1
theorem lifted {f : List Int → List Int} {G : List Int → Prop} : ∀ l : List (List Int), (∀ r ∈ l, ∃ x, G x ∧ f x = r) → ∃ R : List (List Int), R.map f = l ∧ ∀ x ∈ R, G x
 | [], _ => ⟨[], rfl, fun x hx => nomatch hx⟩
 | r :: l, h => by
  obtain ⟨x, g, e⟩ := h r (.head _)
  obtain ⟨R, e1, g1⟩ := lifted l fun r hr => h r (.tail _ hr)
  exact ⟨x :: R, by rw [List.map_cons, e, e1], fun y hy => by
   rcases List.mem_cons.mp hy with z | z
   · exact z ▸ g
   · exact g1 y z⟩
def Over (need : Int) (qs : List (Int × Int)) : Prop := ∃ R : List (List Int), R.Nodup ∧ (∀ x ∈ R, Part qs x ∧ LeanR need x) ∧ (300 < R.length ∨ ∃ x ∈ R, 60 < x.length)
theorem Way.none : ∀ {ks P : List (Int × Int)} {rows : List (List Int)}, Way need P (totK ks) rows → rows.Nodup → (∀ q ∈ ks, 1 ≤ q.1 ∧ 0 ≤ q.2) → (P.reverse ++ ks).Pairwise (fun a b => b.1 < a.1) → leansOf need ks (totK ks) rows = none → Over need (ks.reverse ++ P)
 | [], P, rows, W, nd, _, _, e => nomatch e
 | q :: ks, P, rows, W, nd, h, hp, e => by
  have hq := h q (.head _)
  have h' : ∀ q ∈ ks, 1 ≤ q.1 ∧ 0 ≤ q.2 := fun p hp => h p (.tail _ hp)
  rw [totK_cons] at W e
  rw [leansOf] at e
  have hP : ∀ p ∈ P, q.1 < p.1 := fun p hpp => (List.pairwise_append.mp hp).2.2 p (List.mem_reverse.mpr hpp) q (.head _)
  have e0 : q.1 * q.2 + totK ks - q.1 * q.2 = totK ks := by omega
  have hb : 0 ≤ q.1 * q.2 + totK ks - q.1 * q.2 := by rw [e0]; exact totK_pos h'
  have W' := W.step (q := q) hq.1 hq.2 hP hb
  have can := rows_can W hq.1 hq.2 hP hb
  have nd' : (rowsTo need q.1 q.2 (q.1 * q.2 + totK ks) rows).Nodup := rows_nodup (fun r hr x hx => by
   obtain ⟨p, hpp, e⟩ := (W.out r hr).1.mem x hx
   have := hP p hpp; omega) nd
  rw [e0] at W' e can
  have hp' : ((q :: P).reverse ++ ks).Pairwise (fun a b => b.1 < a.1) := by rw [List.reverse_cons, List.append_assoc]; exact hp
  have ee : (q :: ks).reverse ++ P = ks.reverse ++ q :: P := by rw [List.reverse_cons, List.append_assoc]; rfl
  rw [ee]
  have ext := Way.ext W' h' hp'
  split at e
  · rename_i long
    obtain ⟨r, hr, z1, z2, z3⟩ := long
    obtain ⟨g1, g2⟩ := Way.ext.grow_most (q := q) (rows := rows) hq.1 hq.2 (totK_pos h') hr z1 z2
    obtain ⟨t, g, _⟩ := ext _ g1 (can _ g1)
    refine ⟨[t ++ _], by simp, fun x hx => by rw [List.mem_singleton.mp hx]; exact g, .inr ⟨_, .head _, ?_⟩⟩
    unfold addN
    rw [List.length_append, List.length_append, List.length_replicate]
    omega
  split at e
  · rename_i many
    obtain ⟨R, e1, g1⟩ := lifted (f := fun x => x.filter fun y => ks.all fun p => p.1 != y) (G := fun x => Part (ks.reverse ++ q :: P) x ∧ LeanR need x) (rowsTo need q.1 q.2 (q.1 * q.2 + totK ks) rows) fun r hr => by
     obtain ⟨t, g, ht⟩ := ext r hr (can r hr)
     refine ⟨t ++ r, g, ?_⟩
     show List.filter _ _ = _
     rw [List.filter_append, List.filter_eq_nil_iff.mpr fun y hy => ?_, List.filter_eq_self.mpr fun y hy => ?_, List.nil_append]
     · refine List.all_eq_true.mpr fun p hpp => ?_
       obtain ⟨c, hc, ec⟩ := (W'.out r hr).1.mem y hy
       have := (List.pairwise_append.mp hp').2.2 c (List.mem_reverse.mpr hc) p hpp
       simp; omega
     · obtain ⟨p, hpp, ey⟩ := ht y hy
       intro z
       have := List.all_eq_true.mp z p hpp
       simp [ey] at this
    refine ⟨R, ?_, g1, .inl ?_⟩
    · rw [← e1] at nd'
      exact List.Pairwise.of_map _ (fun a b h z => h (by rw [z])) nd'
    · rw [← e1, List.length_map] at many
      omega
  · have := Way.none (P := q :: P) W' nd' h' hp' e
    exact this
theorem leans_none {qs : List (Int × Int)} (e : leansOf need qs.reverse (totK qs.reverse) [[]] = none) (hn : 0 < need) (hq : ∀ q ∈ qs, 1 ≤ q.1 ∧ 0 ≤ q.2) (ris : qs.Pairwise (fun a b => a.1 < b.1)) : Over need qs := by
 have := Way.none (way0 need _ hn) (by simp) (fun q h => hq q (List.mem_reverse.mp h)) (by rw [List.reverse_nil, List.nil_append]; exact List.pairwise_reverse.mpr ris) e
 rw [List.reverse_reverse, List.append_nil] at this
 exact this
end
end Br
namespace Br
open PySem PySem.Spec PySem.Calls PyProof.Rows L2
section
variable {X : Cx} {K : PySem.W.Frag} {o e : Expr} {to : TE} {t : TA} {apos cpos : Pos}
def tCountB (K : PySem.W.Frag) (to : TE) (t : TA) : TE := fun σ H Q => to σ H fun x H1 => (∃ (l : Addr) (ns : List Int), x = .ref l ∧ H1 l = some (.tup (ns.map V.int))) ∧ t σ H1 fun xs H2 => rCountT K x xs H2 Q
theorem pe_countB (ho : PE X o to) (ha : PA X [e] t) (hbase : attributeBase o "count" X.env (eval o X.env) = eval o X.env) (hfew : ((backTo cpos (starEach [e] X.env)).all (fun x => !x.1) && (backToKw cpos (keywordEach [] X.env)).all (fun x => x.1.isSome)
 && decide (([e] : List Expr).length + ([] : List Keyword).length + (if ([] : List Keyword).isEmpty then 0 else 1) < 30)) = true) (hline : (apos.endLine == cpos.line) = true) (hs : starEach [e] X.env = (false, eval e X.env) :: starEach [] X.env)
 (hpl : (backTo cpos (starEach [] X.env)).any (·.1) = false) : PE X (.Call (.Attribute o "count" apos) [e] [] cpos) (tCountB X.K to t) := by
 intro pins s σ H Q I h
 refine wpAny_Call_method_late hbase hfew hline rfl (thn (ho pins s σ H _ I h) fun v s1 ⟨x, H1, I1, r1, ⟨l, ns, e1, hl⟩, q1⟩ => ?_)
 subst e1
 cases r1
 obtain ⟨_, its, _, ob, hg, hc, hd, n, hi⟩ := (show ObjOk X.prog X.w H1 s1.heap l (.tup (ns.map V.int)) from I1.hok l _ hl)
 refine ⟨"tuple", "tuple.count", PySem.F.plainAttrs_tuple, PySem.F.slot_tuple_count, PySem.F.type_tuple_count, ⟨_, hg, hc⟩, fun a e => by cases e; exact ⟨_, hg, hd⟩, ?_⟩
 have hA := ha cpos pins s1 σ H1 _ I1 q1
 rw [hs] at hA ⊢
 refine Calls.callWith_builtin (by show (false || (backTo cpos (starEach [] X.env)).any (·.1)) = false; rw [hpl] <;> rfl) (Calls.evalArgs_plain ?_)
 exact thn hA fun us s2 ⟨vs, H2, I2, r2, q2⟩ => mt_countT pins s2 σ H2 (.ref l) vs _ us Q I2 rfl r2 q2
theorem k_countB (hK : X.K = K) (hbase : attributeBase o "count" X.env (eval o X.env) = eval o X.env) (hfew : ((backTo cpos (starEach [e] X.env)).all (fun x => !x.1) && (backToKw cpos (keywordEach [] X.env)).all (fun x => x.1.isSome)
 && decide (([e] : List Expr).length + ([] : List Keyword).length + (if ([] : List Keyword).isEmpty then 0 else 1) < 30)) = true) (hline : (apos.endLine == cpos.line) = true) (hs : starEach [e] X.env = (false, eval e X.env) :: starEach [] X.env)
 (hpl : (backTo cpos (starEach [] X.env)).any (·.1) = false) (ho : JE X o to) (ha : JA X [e] t) : JE X (.Call (.Attribute o "count" apos) [e] [] cpos) (tCountB K to t) := hK ▸ ⟨pe_countB ho.h ha.h hbase hfew hline hs hpl⟩
end
theorem iteT' {c : Bool} {A B : Prop} (e : c = true) (h : A) : if c = true then A else B := by rw [if_pos e]; exact h
theorem iteF' {c : Bool} {A B : Prop} (e : c = false) (h : B) : if c = true then A else B := by rw [if_neg (by rw [e]; decide)]; exact h
section
variable {K : PySem.W.Frag}
theorem FnOk.low (F : FnOk P w K mg base (CXF P w) k f fd ps sp) : FnOk P w K mg base CX0 k f fd ps (fun vs H Q _ => sp vs H Q fun _ _ _ => False) :=
 ⟨fun vs H Q _ h => F.len vs H Q _ h, fun A outer s H args us vs Q E hr he hb hv hs => codeAny_mono (F.run A outer s H args us vs Q (fun _ _ _ => False) hr he hb hv hs) fun r s' h => by
  cases r with
  | ok fl => cases fl <;> exact h
  | error e => obtain ⟨_, _, _, _, _, _, _, _, _, _, _, _, _, _, z⟩ := h; exact z.elim⟩
end
end Br
open PySem PySem.Spec PyProof.Rows L2 Br
local macro_rules | `(tactic| wtm_at "at") => `(tactic| first | exact At.here | (apply At.there; wtm_at "at") | fail)
local macro_rules | `(tactic| wtm_at "K") => `(tactic| first | exact cxC_K | exact cxC_K.trans cxC_K | rfl | fail)
local macro_rules | `(tactic| wtm_at "op") => `(tactic| first | (apply k_addA; wtm_at "K") | apply o_sub | apply o_mulI | apply o_mod | apply o_fdiv | apply o_pow | fail)
local macro_rules | `(tactic| wtm_at "cop") => `(tactic| first | apply c_eq | apply c_ne | apply c_lt | apply c_le | apply c_gt | apply c_ge | apply c_isnotN | apply c_is | (apply k_in; wtm_at "K") | (apply k_notin; wtm_at "K") | fail)
local macro_rules | `(tactic| wtm_at "pe") => `(tactic| first
 | apply j_int
 | (apply j_name; (wtm_at "at"); (rfl); (decide +kernel); (decide +kernel))
 | (apply j_cell; (wtm_at "at"); (rfl); (decide +kernel); (decide +kernel))
 | (apply j_repL; (wtm_at "pe"); (wtm_at "pe"))
 | (apply j_bin; (wtm_at "op"); (wtm_at "pe"); (wtm_at "pe"))
 | (apply k_ix; (wtm_at "K"); (exact fun _ _ => rfl); (wtm_at "pe"); (wtm_at "pe"))
 | wtm_at "call"
 | (apply j_tup; (wtm_at "pa"))
 | (apply j_lst; (wtm_at "pa"))
 | (apply j_cmp; (decide); (decide); (wtm_at "cop"); (wtm_at "pe"); (wtm_at "pe"))
 | (apply j_cmpM; (with_unfolding_all rfl); (wtm_at "cop"); (wtm_at "pe"); (wtm_at "pe"))
 | apply j_bl | apply j_non | apply j_str
 | (apply j_neg; (wtm_at "pe"))
 | (apply k_slS; (wtm_at "K"); (wtm_at "pe"); (wtm_at "po"); (wtm_at "po"))
 | (apply j_not; (wtm_at "pe"))
 | (apply j_one; (wtm_at "pe"))
 | (apply j_and; (wtm_at "pe"); (wtm_at "pe"))
 | apply j_dict0
 | (apply j_comp1; (rfl); (rfl); (intro _; rfl); (wtm_at "nd"); (rfl); (wtm_at "pi"); (intro cC cs cH cfp; wtm_at "pf"); (intro cC cs cH cfp; wtm_at "pe"))
 | (apply k_comp2; (wtm_at "K"); (rfl); (rfl); (intro _; rfl); (wtm_at "nd"); (decide +kernel); (rfl); (rfl); (wtm_at "pi"); (intro cC cs cH cfp; wtm_at "pf"); (intro cC cs cH cfp; wtm_at "pe"))
 | (apply j_const; (assumption); (rfl); (decide +kernel))
 | fail)
local macro_rules | `(tactic| wtm_at "call") => `(tactic| first
 | (apply k_extend; (wtm_at "K"); (rfl); (rfl); (rfl); (rfl); (rfl); (wtm_at "pe"); (wtm_at "pa"))
 | (apply k_append; (wtm_at "K"); (rfl); (rfl); (rfl); (rfl); (rfl); (wtm_at "pe"); (wtm_at "pa"))
 | (apply j_call; (assumption); (wtm_at "room"); (rfl); (decide +kernel); (rfl); (rfl); (wtm_at "pa"))
 | (apply k_len; (wtm_at "K"); (rfl); (rfl); (rfl); (with_reducible rfl); (assumption); (wtm_at "pa"))
 | (apply j_abs; (rfl); (rfl); (rfl); (with_reducible rfl); (assumption); (wtm_at "pa"))
 | (apply j_max; (rfl); (rfl); (rfl); (with_reducible rfl); (rfl); (assumption); (wtm_at "pa"))
 | (apply j_min; (rfl); (rfl); (rfl); (with_reducible rfl); (rfl); (assumption); (wtm_at "pa"))
 | (apply j_intc; (rfl); (rfl); (rfl); (with_reducible rfl); (assumption); (wtm_at "pa"))
 | (apply k_sortedM; (rfl); (rfl); (rfl); (wtm_at "K"); (with_reducible rfl); (rfl); (assumption); (wtm_at "pa"))
 | (apply k_tuple; (rfl); (rfl); (rfl); (wtm_at "K"); (with_reducible rfl); (assumption); (wtm_at "pa"))
 | (apply k_sumS; (rfl); (rfl); (rfl); (wtm_at "K"); (with_reducible rfl); (rfl); (assumption); (wtm_at "pa"))
 | (apply k_all; (wtm_at "K"); (rfl); (rfl); (rfl); (with_reducible rfl); (rfl); (assumption); (wtm_at "pa"))
 | (apply k_any; (wtm_at "K"); (rfl); (rfl); (rfl); (with_reducible rfl); (rfl); (assumption); (wtm_at "pa"))
 | (apply j_callX; (assumption); (first | exact passF | exact passF0); (wtm_at "room"); (rfl); (decide +kernel); (rfl); (rfl); (wtm_at "pa"))
 | fail)
local macro_rules | `(tactic| wtm_at "roomH") => `(tactic| first | assumption | exact RoomH.mark (by assumption) (by decide) | exact RoomH.of (by assumption) (by decide) | exact RoomH.mono (by assumption) (by decide) | fail)
local macro_rules | `(tactic| wtm_at "room") => `(tactic| first | assumption | exact Room.mono (by assumption) (by decide) | fail)
local macro_rules | `(tactic| wtm_at "pa") => `(tactic| first | apply j_nil | (apply j_cons; (rfl); (wtm_at "pe"); (wtm_at "pa")) | fail)
local macro_rules | `(tactic| wtm_at "po") => `(tactic| first | apply j_onone | (apply j_osome; (wtm_at "pe")) | fail)
local macro_rules | `(tactic| wtm_at "pt") => `(tactic| first
 | (apply u_cmp; (decide); (decide); (wtm_at "cop"); (wtm_at "pe"); (wtm_at "pe"))
 | (apply u_cmpM; (with_unfolding_all rfl); (wtm_at "cop"); (wtm_at "pe"); (wtm_at "pe"))
 | (apply u_or; (wtm_at "pw"))
 | (apply u_and; (wtm_at "pw"))
 | (apply u_not; (wtm_at "pt"))
 | (apply u_call; (wtm_at "pe"))
 | fail)
local macro_rules | `(tactic| wtm_at "pw") => `(tactic| first
 | (apply w_and1; (wtm_at "pt"))
 | (apply w_or1; (wtm_at "pt"))
 | (apply w_and; (wtm_at "pt"); (wtm_at "pw"))
 | (apply w_or; (wtm_at "pt"); (wtm_at "pw"))
 | fail)
local macro_rules | `(tactic| wtm_at "pi") => `(tactic| first
 | (apply i_range1; (with_reducible rfl); (rfl); (assumption); (rfl); (wtm_at "pa"))
 | (apply i_range2; (with_reducible rfl); (rfl); (assumption); (rfl); (rfl); (wtm_at "pa"))
 | (apply k_seq; (wtm_at "K"); (wtm_at "pe"))
 | fail)
local macro_rules | `(tactic| wtm_at "pg") => `(tactic| first
 | (apply g_name; (wtm_at "at"); (assumption); (rfl))
 | (apply g_tup2; (wtm_at "at"); (wtm_at "at"); (rfl); (assumption); (rfl); (rfl); (rfl); (rfl); (rfl); (rfl))
 | (apply g_cell; (wtm_at "at"); (assumption); (rfl); (rfl))
 | fail)
local macro_rules | `(tactic| wtm_at "ps") => `(tactic| first
 | (apply s_set; (wtm_at "at"); (assumption); (rfl); (rfl); (wtm_at "pe"))
 | (apply s_setC; (wtm_at "at"); (assumption); (rfl); (rfl); (rfl); (wtm_at "pe"))
 | (apply s_if; (wtm_at "pt"); (wtm_at "pss"); (wtm_at "pss"))
 | (apply s_ret; (wtm_at "pe"))
 | (apply s_for; (exact PassesOwn.never); (rfl); (intro _; rfl); (wtm_at "pi"); (wtm_at "pg"); (wtm_at "pss"))
 | (apply s_while; (exact PassesOwn.never); (wtm_at "pt"); (wtm_at "pss"))
 | (apply s_expr; (rfl); (wtm_at "pe"))
 | (apply s_comp1; (rfl); (rfl); (intro _; rfl); (assumption); (rfl); (wtm_at "at"); (rfl); (rfl); (wtm_at "pi"); (intro cC cs cH cfp; wtm_at "pf"); (intro cC cs cH cfp; wtm_at "pe"))
 | (apply s_comp2; (rfl); (rfl); (intro _; rfl); (assumption); (decide +kernel); (rfl); (rfl); (wtm_at "at"); (rfl); (rfl); (wtm_at "pi"); (intro cC cs cH cfp; wtm_at "pf"); (intro cC cs cH cfp; wtm_at "pe"))
 | (apply s_unpack2; (wtm_at "at"); (wtm_at "at"); (rfl); (assumption); (rfl); (rfl); (rfl); (rfl); (rfl); (rfl); (rfl); (rfl); (rfl); (wtm_at "pe"))
 | (apply s_ixset; (rfl); (rfl); (rfl); (intro _; rfl); (wtm_at "pe"); (wtm_at "pe"); (wtm_at "pe"))
 | (apply s_unpackC; (wtm_at "at"); (wtm_at "at"); (rfl); (assumption); (first | exact .inl rfl | exact .inr rfl); (first | exact .inl rfl | exact .inr rfl); (rfl); (rfl); (rfl); (rfl); (rfl); (rfl); (rfl); (rfl); (rfl); (wtm_at "pe"))
 | (apply s_raise; (assumption); (rfl); (rfl); (exact throwF); (decide +kernel); (rfl); (wtm_at "pe"))
 | fail)
local macro_rules | `(tactic| wtm_at "nd") => `(tactic| first | assumption | decide +kernel | fail)
local macro_rules | `(tactic| wtm_at "pf") => `(tactic| first | apply f_nil | (apply f_one; (wtm_at "pt")) | fail)
local macro_rules | `(tactic| wtm_at "pss") => `(tactic| first
 | (apply ss_cons; (wtm_at "ps"); (wtm_at "pss"))
 | apply ss_nil
 | fail)
local macro_rules | `(tactic| wtm_at "pex") => `(tactic| first
 | (apply x_call; (assumption); (wtm_at "room"); (rfl); (decide +kernel); (rfl); (rfl); (rfl); (wtm_at "pa"))
 | fail)
local macro_rules | `(tactic| wtm_at "psx") => `(tactic| first
 | (apply x_ret; (wtm_at "pex"))
 | fail)
local macro_rules | `(tactic| wtm_at "pssx") => `(tactic| first
 | (apply xx_cons; (wtm_at "psx"); (wtm_at "pssx"))
 | apply xx_nil
 | fail)
local macro_rules | `(tactic| wtm_at "body") => `(tactic| (refine' ss_cons ?a ?b; (case a => wtm_at "ps"); (case b => wtm_at "pss")))
local macro_rules | `(tactic| wtm_at "side") => `(tactic| first
 | (with_reducible exact IntMulOk.of_right (by decide))
 | (with_reducible exact IntMulOk.of_left (by decide))
 | (with_reducible refine CMulB.ok (mulB ?_ ?_) <;> omega)
 | (with_reducible refine mulB ?_ ?_ <;> omega)
 | (with_reducible refine divB ?_ ?_ <;> omega)
 | (show (0 : Int) < _; omega)
 | (show (0 : Int) < _; decide)
 | (exact ⟨by omega, by omega, by omega⟩)
 | fail)
local macro_rules | `(tactic| wtm_at "rd1") => `(tactic| first
 | refine ⟨_, rfl, ?_⟩
 | (refine ⟨_, _, rfl, rfl, ?c, ?_⟩; (case c => wtm_at "side"))
 | refine ⟨_, _, rfl, rfl, ?_⟩
 | refine .inl ⟨_, _, rfl, rfl, ?_⟩
 | refine ⟨_, _, rfl, ?_⟩
 | fail)
local macro_rules | `(tactic| wtm_at "rd") => `(tactic| repeat wtm_at "rd1")
namespace K16
def top (i : Nat) : Stmt := PySem.Challenge.pw_brimyard_k16_whole_lean_lots_lie_in_all.main.body.getD i (.Pass ⟨0, 0, 0, 0⟩)
abbrev sFolded : Stmt := top 27
abbrev sBegun : Stmt := top 28
abbrev sTake : Stmt := top 29
abbrev sWide : Stmt := top 30
def Mo (ps : List Addr) (H H' : Hp) : Prop := ∀ b o, b ∉ ps → H b = some o → H' b = some o
theorem Mo.refl : Mo ps H H := fun _ _ _ e => e
theorem Mo.trans (a : Mo ps H H') (b : Mo ps H' H'') : Mo ps H H'' := fun c o n e => b c o n (a c o n e)
theorem Mo.of (s : L2.Same H H') : Mo ps H H' := fun b o _ e => s b o e
theorem Mo.put (hp : p ∈ ps) : Mo ps H (L2.upd H p o) := fun b u n e => by rw [upd_ne (fun z => n (by simp_all))]; omega
def Pot (n : Nat) (H : Hp) (p : Addr) : Prop := ∃ x y z : Int, H p = some (.lst [.int x, .int y, .int z]) ∧ 0 ≤ x ∧ 0 ≤ y ∧ y ≤ n ∧ 0 ≤ z ∧ z < 2147483647
theorem Pot.same {n : Nat} {H H' : Hp} {p : Addr} (h : Pot n H p) (s : L2.Same H H') : Pot n H' p := let ⟨x, y, z, e, a⟩ := h; ⟨x, y, z, s _ _ e, a⟩
theorem Pot.le {n m : Nat} {H : Hp} {p : Addr} (h : Pot n H p) (l : n ≤ m) : Pot m H p := let ⟨x, y, z, e, a, b, c, d⟩ := h; ⟨x, y, z, e, a, b, by omega, d⟩
section
variable {P : Program} {w : World} {K : PySem.W.Frag} {mg : Str → Option Value} {base : Heap}
theorem scBegun : FnScope ["cell", "rest"] ["cell"] (defScope sBegun) := ⟨rfl, rfl, rfl, by decide +kernel, rfl, by decide +kernel, by decide +kernel⟩
def spBegun : Sp := fun vs H Q _ => ∃ c : Int, vs = [.int c] ∧ ∀ (p : Addr) (H' : Hp), H p = none → L2.Same H H' → Pot 0 H' p → Q (.ref p) H'
theorem ok_begun {f : Addr} {fd : FuncData} (F : Fun K "_law_begun" "_law_begun" sBegun f fd) (mA : mg "abs" = none) : FnOk P w K mg base CX0 1 f fd ["cell"] spBegun := by
 refine Br.Fun.j F scBegun (fun vs H Q E h => ?_) (fun cdv A outer s H vs Q E hr h => ?_)
 · obtain ⟨_, rfl, _⟩ := h; rfl
 · obtain ⟨c, rfl, h⟩ := h
   have nd := scBegun.nd
   refine' ⟨_, ?d, ?r⟩
   case d => wtm_at "body"
   case r =>
    have e18 : (10 : Int) ^ Int.toNat 18 = 1000000000000000000 := by decide
    refine ⟨fun σ' H' => H' = H ∧ ∃ r : Int, 0 ≤ r ∧ σ' = [some (.int c), some (.int r)], ?_, ?_⟩
    · wtm_at "rd"
      refine ite2 (fun hc => ?_) (fun hc => ?_)
      · have hc := of_decide_eq_true hc
        rw [e18] at hc
        wtm_at "rd"
        exact ⟨rfl, _, by show (0 : Int) ≤ (if c < 0 then -c else c) - 10 ^ Int.toNat 18 + 1; rw [e18]; omega, rfl⟩
      · exact ⟨rfl, 0, by decide, rfl⟩
    · rintro σ' H' ⟨rfl, r, hr0, rfl⟩
      wtm_at "rd"
      refine ⟨lenLe (n := 3) rfl (by decide), fun l H1 n1 s1 e1 => h l H1 n1 s1 ⟨r, 0, _, e1, hr0, by decide, by decide, Int.emod_nonneg _ (by decide), Int.emod_lt_of_pos _ (by decide)⟩⟩
theorem scTake : FnScope ["pot", "size", "digit", "mixed"] ["pot", "size"] (defScope sTake) := ⟨rfl, rfl, rfl, by decide +kernel, rfl, by decide +kernel, by decide +kernel⟩
def spTake : Sp := fun vs H Q _ => ∃ (p : Addr) (n : Nat) (m : Int), vs = [.ref p, .int m] ∧ Pot n H p ∧ n ≤ 10 ^ 50 ∧ 0 < m ∧ m ≤ 10 ^ 13 ∧ ∀ (r : Int) (H' : Hp), Mo [p] H H' → Pot (n + 1) H' p → 0 ≤ r → r < m → Q (.int r) H'
theorem ok_take {f : Addr} {fd : FuncData} (F : Fun K "_law_take" "_law_take" sTake f fd) : FnOk P w K mg base CX0 1 f fd ["pot", "size"] spTake := by
 refine Br.Fun.j F scTake (fun vs H Q E h => ?_) (fun cdv A outer s H vs Q E hr h => ?_)
 · obtain ⟨_, _, _, rfl, _⟩ := h; rfl
 · obtain ⟨p, n, m, rfl, ⟨x, y, z, hp, hx, hy, hyn, hz, hz1⟩, hn, hm, hm2, h⟩ := h
   have nd := scTake.nd
   refine' ⟨_, ?d, ?r⟩
   case d => wtm_at "body"
   case r =>
    refine ⟨fun σ' H' => H' = H ∧ σ' = [some (.ref p), some (.int m), none, none], ?_, ?_⟩
    · refine ⟨_, rfl, .inl ⟨p, _, 0, _, rfl, rfl, SqL.of hp, (show atI [V.int x, V.int y, V.int z] 0 = some (.int x) from rfl), ?_⟩⟩
      wtm_at "rd"
      refine ite2 (fun hc => ?_) (fun _ => ⟨rfl, rfl⟩)
      refine ⟨_, rfl, .inl ⟨p, _, 0, _, rfl, rfl, SqL.of hp, (show atI [V.int x, V.int y, V.int z] 0 = some (.int x) from rfl), ?_⟩⟩
      wtm_at "rd"
      refine .inl ⟨p, _, 0, _, rfl, rfl, SqL.of hp, (show atI [V.int x, V.int y, V.int z] 0 = some (.int x) from rfl), ?_⟩
      refine ⟨_, rfl, _, _, rfl, rfl, divB hm (by omega), ?_⟩
      refine ⟨_, rfl, p, _, _, 0, rfl, rfl, hp, rfl, ?_⟩
      exact ⟨_, rfl, h _ _ (Mo.put (by simp)) ⟨x / m, y, z, upd_same, Int.ediv_nonneg hx (by omega), hy, by omega, hz, hz1⟩ (Int.emod_nonneg _ (by omega)) (Int.emod_lt_of_pos _ hm)⟩
    · rintro σ' H' ⟨rfl, rfl⟩
      refine ⟨_, rfl, .inl ⟨p, _, 1, _, rfl, rfl, SqL.of hp, (show atI [V.int x, V.int y, V.int z] 1 = some (.int y) from rfl), ?_⟩⟩
      wtm_at "rd"
      refine ⟨p, _, _, 1, rfl, rfl, hp, rfl, ?_⟩
      have e2 : upd H' p (.lst [.int x, .int (y + 1), .int z]) p = some (.lst [.int x, .int (y + 1), .int z]) := upd_same
      have m2 : Mo [p] H' (upd H' p (.lst [.int x, .int (y + 1), .int z])) := Mo.put (by simp)
      show tSeq _ _ _ _ (upd H' p (.lst [.int x, .int (y + 1), .int z]))
      generalize upd H' p (.lst [.int x, .int (y + 1), .int z]) = H2 at e2 m2
      have ix0 : atI [V.int x, V.int (y + 1), V.int z] 1 = some (.int (y + 1)) := rfl
      have ix2 : atI [V.int x, V.int (y + 1), V.int z] 2 = some (.int z) := rfl
      refine ⟨_, rfl, .inl ⟨p, _, 2, _, rfl, rfl, SqL.of e2, ix2, ?_⟩⟩
      refine ⟨_, rfl, .inl ⟨p, _, 1, _, rfl, rfl, SqL.of e2, ix0, ?_⟩⟩
      refine ⟨_, _, rfl, rfl, IntMulOk.of_left (intBits_le_64 (by decide) (by decide)), ?_⟩
      refine ⟨_, rfl, .inl ⟨p, _, 1, _, rfl, rfl, SqL.of e2, ix0, ?_⟩⟩
      refine ⟨_, _, rfl, rfl, CMulB.ok (mulB (by omega) (by omega)), .inl ⟨_, _, rfl, rfl, ?_⟩⟩
      refine ⟨_, rfl, .inl ⟨p, _, 1, _, rfl, rfl, SqL.of e2, ix0, ?_⟩⟩
      refine ⟨_, _, rfl, rfl, IntMulOk.of_left (intBits_le_64 (by decide) (by decide)), .inl ⟨_, _, rfl, rfl, .inl ⟨_, _, rfl, rfl, _, _, rfl, rfl, (show (0 : Int) < 2147483647 by decide), ?_⟩⟩⟩
      have hk0 : 0 ≤ (z + 977 * (y + 1) * (y + 1) + 40693 * (y + 1) + 1) % 2147483647 := Int.emod_nonneg _ (by decide)
      have hk1 : (z + 977 * (y + 1) * (y + 1) + 40693 * (y + 1) + 1) % 2147483647 < 2147483647 := Int.emod_lt_of_pos _ (by decide)
      generalize (z + 977 * (y + 1) * (y + 1) + 40693 * (y + 1) + 1) = kk at hk0 hk1
      refine ⟨_, rfl, _, rfl, _, _, rfl, rfl, IntMulOk.of_left (intBits_le_64 (by omega) (by omega)), _, _, rfl, rfl, (show (0 : Int) < 1000000007 by decide), _, _, rfl, rfl, IntMulOk.of_right (intBits_le_64 (by decide) (by decide)), _, _, rfl, rfl, (show (0 : Int) < 998244353 by decide), ?_⟩
      refine ⟨_, rfl, _, _, rfl, rfl, divB (by decide) (by decide), _, rfl, _, _, rfl, rfl, hm, ?_⟩
      exact h _ _ m2 ⟨x, y + 1, z, e2, hx, by omega, by omega, hz, hz1⟩ (Int.emod_nonneg _ (by omega)) (Int.emod_lt_of_pos _ hm)
theorem scWide : FnScope ["pot", "size", "number", "turn"] ["pot", "size"] (defScope sWide) := ⟨rfl, rfl, rfl, by decide +kernel, rfl, by decide +kernel, by decide +kernel⟩
def spWide : Sp := fun vs H Q _ => ∃ (p : Addr) (n : Nat) (m : Int), vs = [.ref p, .int m] ∧ Pot n H p ∧ n ≤ 10 ^ 49 ∧ 0 < m ∧ m ≤ 10 ^ 13 ∧ ∀ (r : Int) (H' : Hp), Mo [p] H H' → Pot (n + 10) H' p → 0 ≤ r → r < m → Q (.int r) H'
section
local macro_rules | `(tactic| wtm_at "call") => `(tactic| (apply k_bitl; (wtm_at "K"); (rfl); (rfl); (wtm_at "pe")))
theorem ok_wide {f : Addr} {fd : FuncData} (F : Fun K "_law_wide" "_law_wide" sWide f fd) (cT : Callee CX0 P w K mg base "_law_take" 1 ["pot", "size"] spTake) (mR : mg "range" = none) : FnOk P w K mg base CX0 2 f fd ["pot", "size"] spWide := by
 refine Br.Fun.j F scWide (fun vs H Q E h => ?_) (fun cdv A outer s H vs Q E hr h => ?_)
 · obtain ⟨_, _, _, rfl, _⟩ := h; rfl
 · obtain ⟨p, n, m, rfl, hp0, hn, hm, hm2, h⟩ := h
   have nd := scWide.nd
   obtain ⟨x, y, z, hp, _⟩ := id hp0
   refine' ⟨_, ?d, ?r⟩
   case d => wtm_at "body"
   case r =>
    refine ⟨fun σ' H' => H' = H ∧ 10 ^ 6 ≤ m ∧ σ' = [some (.ref p), some (.int m), none, none], ?_, ?_⟩
    · refine ⟨_, rfl, .inl ⟨p, _, 0, _, rfl, rfl, SqL.of hp, (show atI [V.int x, V.int y, V.int z] 0 = some (.int x) from rfl), ?_⟩⟩
      have tk : spTake [.ref p, .int m] H Q E0 := ⟨p, n, m, rfl, hp0, by omega, hm, hm2, fun r H' m1 p1 r0 r1 => h r H' m1 (p1.le (by omega)) r0 r1⟩
      wtm_at "rd"
      refine ite2 (fun hc => ?_) (fun hc => ?_)
      · exact iteT ⟨_, rfl, _, rfl, tk⟩
      · wtm_at "rd"
        refine ite2 (fun hc2 => ⟨_, rfl, _, rfl, tk⟩) (fun hc2 => ⟨rfl, ?_, rfl⟩)
        have e6 : (10 : Int) ^ Int.toNat 6 = 1000000 := by decide
        by_cases z : (10 : Int) ^ 6 ≤ m
        · exact z
        · exact absurd (decide_eq_true (show m < 10 ^ Int.toNat 6 by rw [e6]; omega)) hc2
    · rintro σ' H' ⟨rfl, hm6, rfl⟩
      have hb : Builtin.Int.intBits m ≤ 64 := intBits_le_64 (by omega) (by omega)
      refine ⟨_, rfl, rfl, m, rfl, rfl, ?_⟩
      generalize Builtin.Int.intBits m = bt at hb
      refine ⟨_, _, rfl, rfl, divB (by decide) (by decide), .inl ⟨_, _, rfl, rfl, ?_⟩⟩
      have hq0 : 0 ≤ (bt : Int) / 19 := Int.ediv_nonneg (by omega) (by decide)
      have hq1 : (bt : Int) / 19 ≤ 4 := by omega
      refine ⟨_, rfl, by omega, by omega, for_range (fun i σ G => Mo [p] H' G ∧ Pot (n + i) G p ∧ ∃ (nu : Int) (x3 : Option V), 0 ≤ nu ∧ σ = [some (.ref p), some (.int m), some (.int nu), x3]) ⟨Mo.refl, hp0, 0, none, by decide, rfl⟩ ?_ ?_⟩
      · rintro i σ G hi ⟨mG, pG, nu, x3, hnu, rfl⟩
        have hi7 : i < 8 := by omega
        refine ⟨_, rfl, _, _, rfl, rfl, IntMulOk.of_right (intBits_le_64 (by decide) (by decide)), ?_⟩
        refine ⟨_, rfl, p, n + i, 1000003, rfl, pG, by omega, by decide, by decide, fun r G1 m1 p1 r0 r1 => .inl ⟨_, _, rfl, rfl, ?_⟩⟩
        exact ⟨mG.trans m1, p1, nu * 1000003 + r, _, by omega, rfl⟩
      · rintro σ G ⟨mG, pG, nu, x3, hnu, rfl⟩
        refine ⟨_, rfl, _, rfl, _, _, rfl, rfl, hm, ?_⟩
        exact h _ _ mG (pG.le (by omega)) (Int.emod_nonneg _ (by omega)) (Int.emod_lt_of_pos _ hm)
end
end
section
local macro_rules | `(tactic| wtm_at "pi") => `(tactic| (apply EG.k_enum; (wtm_at "K"); (with_reducible rfl); (rfl); (assumption); (rfl); (wtm_at "pa")))
variable {P : Program} {w : World} {K : PySem.W.Frag} {mg : Str → Option Value} {base : Heap}
theorem scFolded : FnScope ["cells", "many", "found", "k", "cell"] ["cells", "many"] (defScope sFolded) := ⟨rfl, rfl, rfl, by decide +kernel, rfl, by decide +kernel, by decide +kernel⟩
def spFolded (K : PySem.W.Frag) : Sp := fun vs H Q _ => ∃ (a : Addr) (ns : List Int) (k : Int), vs = [.ref a, .int k] ∧ SqL K H a (ns.map V.int) ∧ 1 ≤ k ∧ k ≤ 100 ∧
 ∀ (l : Addr) (zs : List Int) (H' : Hp), H l = none → L2.Same H H' → H' l = some (.lst (zs.map V.int)) → (zs.length : Int) ≤ k → Q (.ref l) H'
theorem ok_folded {f : Addr} {fd : FuncData} (F : Fun K "_law_folded" "_law_folded" sFolded f fd) (mE : mg "enumerate" = none) (mL : mg "len" = none) (mX : mg "max" = none) (mN : mg "min" = none) : FnOk P w K mg base CX0 1 f fd ["cells", "many"] (spFolded K) := by
 refine Br.Fun.j F scFolded (fun vs H Q E h => ?_) (fun cdv A outer s H vs Q E hr h => ?_)
 · obtain ⟨_, _, _, rfl, _⟩ := h; rfl
 · obtain ⟨a, ns, k, rfl, ha, hk1, hk2, h⟩ := h
   have nd := scFolded.nd
   have hsz : (sizeLine : Nat) = 16777216 := sizeLine_eq
   refine' ⟨_, ?d, ?r⟩
   case d => wtm_at "body"
   case r =>
    refine ⟨lenLe (n := 1) rfl (by decide), fun l0 H1 n1 s1 e1 => ?_⟩
    refine ⟨_, rfl, _, rfl, .inl ⟨a, _, rfl, .inl (s1.seq ha), ?_⟩⟩
    wtm_at "rd"
    generalize hL : ((ns.map V.int).length : Int) = Ln
    have hL0 : 0 ≤ Ln := by omega
    generalize hm : (if (if Ln > 1 then Ln else 1) < k then (if Ln > 1 then Ln else 1) else k) = mx
    have hmx : 1 ≤ mx ∧ mx ≤ k := by
     rw [← hm]
     constructor <;> (repeat' split) <;> omega
    have s1a := s1.seq ha
    refine ⟨l0, mx, _, rfl, rfl, e1, by omega, by omega, by rw [hsz, List.length_singleton]; omega, fun l H2 n2 s2 e2 => ?_⟩
    have s12 := s1.trans s2
    have hl0 : H l = none := by
     cases q : H l with
     | none => rfl
     | some o => have := s1 _ _ q; rw [n2] at this; cases this
    refine ⟨_, rfl, false, a, _, rfl, s12.seq ha, ?_⟩
    have e2' : H2 l = some (.lst ((List.replicate mx.toNat (0 : Int)).map V.int)) := by
     rw [e2]
     congr 2
     induction mx.toNat with
     | zero => rfl
     | succ m ih => rw [List.replicate_succ, List.replicate_succ, List.flatten_cons, ih]; rfl
    refine EG.for_enum (f := false) (K := K) (a := a) (xs := ns.map V.int) (fun i σ G => L2.Same H G ∧ ∃ (zs : List Int) (x3 x4 : Option V), G l = some (.lst (zs.map V.int)) ∧ (zs.length : Int) = mx ∧ σ = [some (.ref a), some (.int k), some (.ref l), x3, x4])
     ⟨s12, _, none, none, e2', by rw [List.length_replicate]; omega, rfl⟩ (fun i σ G _ ⟨sG, _⟩ => sG.seq ha) ?_ ?_
    · rintro i x σ G T hx ⟨sG, zs, x3, x4, eG, hzl, rfl⟩ nT
      rw [List.getElem?_map] at hx
      obtain ⟨c, hc, rfl⟩ := Option.map_eq_some_iff.mp hx
      have sT : L2.Same G (upd G T (.tup [.int (i : Int), .int c])) := Br.Same.upd nT
      generalize hG1 : upd G T (.tup [.int (i : Int), .int c]) = G1 at sT
      have eT : G1 T = some (.tup [.int (i : Int), .int c]) := by rw [← hG1]; exact upd_same
      have eG1 := sT _ _ eG
      have hlen : ((zs.map V.int).length : Int) = mx := by rw [List.length_map]; exact hzl
      have hm0 := Int.emod_nonneg (i : Int) (show mx ≠ 0 by omega)
      have hm1 := Int.emod_lt_of_pos (i : Int) (show 0 < mx by omega)
      refine ⟨T, _, rfl, SqT.of eT, rfl, _, _, rfl, _, _, rfl, rfl, ?_⟩
      obtain ⟨v, _, hv1, hv2⟩ := atI_ints (zs := zs) (i := (i : Int) % mx) hm0 (by omega)
      refine ⟨_, rfl, _, rfl, _, rfl, .inl ⟨l, _, rfl, .inl (SqL.of eG1), ?_⟩⟩
      rw [hlen]
      refine ⟨_, _, rfl, rfl, (show (0 : Int) < mx by omega), .inl ⟨l, _, _, _, rfl, rfl, SqL.of eG1, hv2, ?_⟩⟩
      refine ⟨_, _, rfl, rfl, IntMulOk.of_right (intBits_le_64 (by decide) (by decide)), _, rfl, .inl ⟨_, _, rfl, rfl, ?_⟩⟩
      refine ⟨_, rfl, _, rfl, _, rfl, .inl ⟨l, _, rfl, .inl (SqL.of eG1), ?_⟩⟩
      rw [hlen]
      refine ⟨_, _, rfl, rfl, (show (0 : Int) < mx by omega), ?_⟩
      have hix : ixN (zs.map V.int).length ((i : Int) % mx) = some ((i : Int) % mx).toNat := by
       unfold ixN
       rw [List.length_map]
       rw [if_pos hm0, if_pos (by omega)]
      refine ⟨l, _, _, _, rfl, rfl, eG1, hix, ?_⟩
      have hle : ∀ o, L2.Same H (upd G1 l o) := fun o b u e => by rw [upd_ne (ne_of_none e hl0)]; exact (sG.trans sT) _ _ e
      exact ⟨hle _, zs.set ((i : Int) % mx).toNat (v * 7 + c), _, _, by rw [upd_same, List.map_set], by rw [List.length_set]; exact hzl, rfl⟩
    · rintro σ G ⟨sG, zs, x3, x4, eG, hzl, rfl⟩
      exact ⟨_, rfl, h l zs G hl0 sG eG (by omega)⟩
end
section
variable {P : Program} {w : World} {K : PySem.W.Frag} {mg : Str → Option Value} {base : Heap}
abbrev sNeed : Stmt := top 31
abbrev sSize : Stmt := top 32
abbrev sMany : Stmt := top 33
theorem scNeed : FnScope ["pot", "some"] ["pot"] (defScope sNeed) := ⟨rfl, rfl, rfl, by decide +kernel, rfl, by decide +kernel, by decide +kernel⟩
def spNeed : Sp := fun vs H Q _ => ∃ (p : Addr) (n : Nat), vs = [.ref p] ∧ Pot n H p ∧ n ≤ 10 ^ 48 ∧ ∀ (r : Int) (H' : Hp), Mo [p] H H' → Pot (n + 20) H' p → 1 ≤ r → r ≤ 10 ^ 12 → Q (.int r) H'
theorem ok_need {f : Addr} {fd : FuncData} (F : Fun K "_law_need" "_law_need" sNeed f fd) (cT : Callee CX0 P w K mg base "_law_take" 1 ["pot", "size"] spTake) (cW : Callee CX0 P w K mg base "_law_wide" 2 ["pot", "size"] spWide) : FnOk P w K mg base CX0 3 f fd ["pot"] spNeed := by
 refine Br.Fun.j F scNeed (fun vs H Q E h => ?_) (fun cdv A outer s H vs Q E hr h => ?_)
 · obtain ⟨_, _, rfl, _⟩ := h; rfl
 · obtain ⟨p, n, rfl, hp, hn, h⟩ := h
   have nd := scNeed.nd
   refine' ⟨_, ?d, ?r⟩
   case d => wtm_at "body"
   case r =>
    have e12 : (10 : Int) ^ Int.toNat 12 = 1000000000000 := by decide
    refine ⟨_, rfl, p, n, 12, rfl, hp, by omega, by decide, by decide, fun r1 H1 m1 p1 a1 b1 => .inl ⟨_, _, rfl, rfl, ?_⟩⟩
    refine ⟨_, rfl, p, n + 1, 60, rfl, p1, by omega, by decide, by decide, fun r2 H2 m2 p2 a2 b2 => .inl ⟨_, _, rfl, rfl, ?_⟩⟩
    refine ⟨_, rfl, ?_⟩
    wtm_at "rd"
    refine ⟨p, n + 2, _, rfl, p2, by omega, by decide, by decide, fun r3 H3 m3 p3 a3 b3 => .inl ⟨_, _, rfl, rfl, ?_⟩⟩
    wtm_at "rd"
    refine ⟨lenLe (n := 5) rfl (by decide), fun l H4 nl s4 e4 => ?_⟩
    refine ⟨_, rfl, _, rfl, p, n + 12, 5, rfl, p3.same s4, by omega, by decide, by decide, fun r5 H5 m5 p5 a5 b5 => ?_⟩
    obtain ⟨z, hz, _, ez⟩ := atI_ints (zs := [1 + r1, 1 + r2, 100, 1 + r3, 10 ^ 12]) (i := r5) (by omega) (by simp; omega)
    have hlp : l ≠ p := fun z => by obtain ⟨_, _, _, e, _⟩ := p3; rw [z, e] at nl; cases nl
    refine .inl ⟨l, _, _, _, rfl, rfl, SqL.of (m5 _ _ (fun y => hlp (List.mem_singleton.mp y)) e4), ez, ?_⟩
    have hz' : 1 ≤ z ∧ z ≤ 10 ^ 12 := by rw [e12] at b3; simp at hz; omega
    exact h z H5 (m1.trans (m2.trans (m3.trans ((Mo.of s4).trans m5)))) (p5.le (by omega)) hz'.1 hz'.2
end
section
variable {P : Program} {w : World} {K : PySem.W.Frag} {mg : Str → Option Value} {base : Heap}
theorem scSize : FnScope ["pot", "need", "some"] ["pot", "need"] (defScope sSize) := ⟨rfl, rfl, rfl, by decide +kernel, rfl, by decide +kernel, by decide +kernel⟩
def spSize : Sp := fun vs H Q _ => ∃ (p : Addr) (n : Nat) (need : Int), vs = [.ref p, .int need] ∧ Pot n H p ∧ n ≤ 10 ^ 48 ∧ 1 ≤ need ∧ need ≤ 10 ^ 12 ∧ ∀ (r : Int) (H' : Hp), Mo [p] H H' → Pot (n + 20) H' p → 1 ≤ r → r ≤ 10 ^ 12 → Q (.int r) H'
theorem ok_size {f : Addr} {fd : FuncData} (F : Fun K "_law_size" "_law_size" sSize f fd) (cT : Callee CX0 P w K mg base "_law_take" 1 ["pot", "size"] spTake) (cW : Callee CX0 P w K mg base "_law_wide" 2 ["pot", "size"] spWide) (mX : mg "max" = none) (mN : mg "min" = none) : FnOk P w K mg base CX0 3 f fd ["pot", "need"] spSize := by
 refine Br.Fun.j F scSize (fun vs H Q E h => ?_) (fun cdv A outer s H vs Q E hr h => ?_)
 · obtain ⟨_, _, _, rfl, _⟩ := h; rfl
 · obtain ⟨p, n, need, rfl, hp, hn, hd1, hd2, h⟩ := h
   have nd := scSize.nd
   have hsz : (sizeLine : Nat) = 16777216 := sizeLine_eq
   refine' ⟨_, ?d, ?r⟩
   case d => wtm_at "body"
   case r =>
    have e12 : (10 : Int) ^ Int.toNat 12 = 1000000000000 := by decide
    wtm_at "rd"
    refine ⟨p, n, 9, rfl, hp, by omega, by decide, by decide, fun r1 H1 m1 p1 a1 b1 => .inl ⟨_, _, rfl, rfl, ?_⟩⟩
    wtm_at "rd"
    refine ⟨lenLe (n := 8) rfl (by decide), fun l1 H2 n2 s2 e2 => ?_⟩
    have p2 := p1.same s2
    have h1p : l1 ≠ p := fun z => by obtain ⟨_, _, _, e, _⟩ := p1; rw [z, e] at n2; cases n2
    refine ⟨_, rfl, _, rfl, _, rfl, p, n + 1, need, rfl, p2, by omega, by omega, by omega, fun r3 H3 m3 p3 a3 b3 => .inl ⟨_, _, rfl, rfl, ?_⟩⟩
    refine ⟨_, rfl, p, n + 11, 12, rfl, p3, by omega, by decide, by decide, fun r4 H4 m4 p4 a4 b4 => .inl ⟨_, _, rfl, rfl, ?_⟩⟩
    wtm_at "rd"
    refine ⟨lenLe (n := 4) rfl (by decide), fun l2 H5 n5 s5 e5 => ?_⟩
    have e2' := s5 _ _ (m4 _ _ (fun z => h1p (List.mem_singleton.mp z)) (m3 _ _ (fun z => h1p (List.mem_singleton.mp z)) e2))
    refine .inr (.inl ⟨l1, l2, _, _, rfl, rfl, e2', e5, by rw [hsz]; show (8 + 4 : Nat) ≤ _; decide, fun l3 H6 n6 s6 e6 => ?_⟩)
    have p6 := (p4.same s5).same s6
    have h3p : l3 ≠ p := fun z => by obtain ⟨_, _, _, e, _⟩ := p4.same s5; rw [z, e] at n6; cases n6
    wtm_at "rd"
    refine ⟨p, n + 12, 12, rfl, p6, by omega, by decide, by decide, fun r7 H7 m7 p7 a7 b7 => ?_⟩
    obtain ⟨z, _, _, ez⟩ := atI_ints (zs := [need / 2, need / 2 + 1, need / 3 + 1, need - 1, need, need + r1, 1, need / 7, 1 + r3, 1 + r4, need / 4 + 1, need / 5]) (i := r7) (by omega) (by simp; omega)
    refine .inl ⟨l3, _, _, _, rfl, rfl, SqL.of (m7 _ _ (fun y => h3p (List.mem_singleton.mp y)) e6), ez, ?_⟩
    refine ⟨_, _, rfl, _, _, rfl, ?_⟩
    have q1 : 1 ≤ (if (if z < (10 : Int) ^ Int.toNat 12 then z else 10 ^ Int.toNat 12) > 1 then (if z < (10 : Int) ^ Int.toNat 12 then z else 10 ^ Int.toNat 12) else 1) := by (repeat' split) <;> omega
    have q2 : (if (if z < (10 : Int) ^ Int.toNat 12 then z else 10 ^ Int.toNat 12) > 1 then (if z < (10 : Int) ^ Int.toNat 12 then z else 10 ^ Int.toNat 12) else 1) ≤ 10 ^ 12 := by rw [e12]; (repeat' split) <;> omega
    exact h _ H7 (m1.trans ((Mo.of s2).trans (m3.trans (m4.trans ((Mo.of s5).trans ((Mo.of s6).trans m7)))))) (p7.le (by omega)) q1 q2
theorem scMany : FnScope ["pot", "kind"] ["pot", "kind"] (defScope sMany) := ⟨rfl, rfl, rfl, by decide +kernel, rfl, by decide +kernel, by decide +kernel⟩
def spMany : Sp := fun vs H Q _ => ∃ (p : Addr) (n : Nat) (kd : Int), vs = [.ref p, .int kd] ∧ Pot n H p ∧ n ≤ 10 ^ 48 ∧ 0 ≤ kd ∧ kd < 4 ∧ ∀ (r : Int) (H' : Hp), Mo [p] H H' → Pot (n + 20) H' p → 1 ≤ r → r ≤ 10 ^ 12 → Q (.int r) H'
theorem ok_many {f : Addr} {fd : FuncData} (F : Fun K "_law_many" "_law_many" sMany f fd) (cT : Callee CX0 P w K mg base "_law_take" 1 ["pot", "size"] spTake) (cW : Callee CX0 P w K mg base "_law_wide" 2 ["pot", "size"] spWide) : FnOk P w K mg base CX0 3 f fd ["pot", "kind"] spMany := by
 refine Br.Fun.j F scMany (fun vs H Q E h => ?_) (fun cdv A outer s H vs Q E hr h => ?_)
 · obtain ⟨_, _, _, rfl, _⟩ := h; rfl
 · obtain ⟨p, n, kd, rfl, hp, hn, hk0, hk1, h⟩ := h
   have nd := scMany.nd
   refine' ⟨_, ?d, ?r⟩
   case d => wtm_at "body"
   case r =>
    have e12 : (10 : Int) ^ Int.toNat 12 = 1000000000000 := by decide
    refine ⟨_, rfl, p, n, 4, rfl, hp, by omega, by decide, by decide, fun r1 H1 m1 p1 a1 b1 => .inl ⟨_, _, rfl, rfl, ?_⟩⟩
    refine ⟨_, rfl, p, n + 1, 60, rfl, p1, by omega, by decide, by decide, fun r2 H2 m2 p2 a2 b2 => .inl ⟨_, _, rfl, rfl, ?_⟩⟩
    refine ⟨_, rfl, ?_⟩
    wtm_at "rd"
    refine ⟨p, n + 2, _, rfl, p2, by omega, by decide, by decide, fun r3 H3 m3 p3 a3 b3 => .inl ⟨_, _, rfl, rfl, ?_⟩⟩
    refine ⟨lenLe (n := 4) rfl (by decide), fun l H4 nl s4 e4 => ?_⟩
    obtain ⟨z, hz, _, ez⟩ := atI_ints (zs := [1 + r1, 1, 1 + r2, 1 + r3]) (i := kd) (by omega) (by simp; omega)
    refine ⟨_, rfl, .inl ⟨l, _, _, _, rfl, rfl, SqL.of e4, ez, ?_⟩⟩
    have hz' : 1 ≤ z ∧ z ≤ 10 ^ 12 := by rw [e12] at b3; simp at hz; omega
    exact h z H4 (m1.trans (m2.trans (m3.trans (Mo.of s4)))) ((p3.same s4).le (by omega)) hz'.1 hz'.2
end
def Kind (H : Hp) (v : V) (q : Int × Int) : Prop := ∃ r : Addr, v = .ref r ∧ H r = some (.tup [.int q.1, .int q.2])
def Kinds (H : Hp) (vs : List V) (qs : List (Int × Int)) : Prop := vs.length = qs.length ∧ ∀ (i : Nat) (v : V), vs[i]? = some v → ∃ q, qs[i]? = some q ∧ Kind H v q
structure HOk8 (need : Int) (qs : List (Int × Int)) : Prop where
 len : qs.length ≤ 16
 n0 : 1 ≤ need
 n1 : need ≤ 10 ^ 12
 bd : ∀ q ∈ qs, 1 ≤ q.1 ∧ q.1 ≤ 10 ^ 12 ∧ 1 ≤ q.2 ∧ q.2 ≤ 10 ^ 13
 ris : Ris qs
def HeapAt (H : Hp) (h : Addr) (need : Int) (qs : List (Int × Int)) : Prop := ∃ (t : Addr) (o : Obj) (vs : List V), H h = some (.tup [.int need, .ref t]) ∧ bareT o ∧ H t = some (.frz o (.tup vs)) ∧ Kinds H vs qs ∧ HOk8 need qs
def IsT (o : HO) : Prop := (∃ xs, o = .tup xs) ∨ ∃ ob xs, o = .frz ob (.tup xs)
theorem Kinds.mo {H H' : Hp} {vs : List V} {qs : List (Int × Int)} (k : Kinds H vs qs) (m : ∀ b o, H b = some o → IsT o → H' b = some o) : Kinds H' vs qs :=
 ⟨k.1, fun i v e => let ⟨q, h1, r, h2, h3⟩ := k.2 i v e; ⟨q, h1, r, h2, m _ _ h3 (.inl ⟨_, rfl⟩)⟩⟩
theorem Kinds.same {H H' : Hp} {vs : List V} {qs : List (Int × Int)} (k : Kinds H vs qs) (s : L2.Same H H') : Kinds H' vs qs := k.mo fun b o e _ => s _ _ e
theorem Kinds.nil : Kinds H [] [] := ⟨rfl, fun i v e => by simp_all⟩
theorem Kinds.snoc (k : Kinds H vs qs) (e : H r = some (.tup [.int q.1, .int q.2])) : Kinds H (vs ++ [.ref r]) (qs ++ [q]) := by
 have k1 := k.1
 refine ⟨by rw [List.length_append, List.length_append, k1]; rfl, fun i v h => ?_⟩
 by_cases hi : i < vs.length
 · rw [List.getElem?_append_left hi] at h
   obtain ⟨q', h1, h2⟩ := k.2 i v h
   exact ⟨q', by rw [List.getElem?_append_left (by omega)]; exact h1, h2⟩
 · have hi2 : i = vs.length := by have := (List.getElem?_eq_some_iff.mp h).1; rw [List.length_append] at this; simp at this; omega
   subst hi2
   simp at h
   exact ⟨q, by rw [k1, List.getElem?_append_right (Nat.le_refl _), Nat.sub_self]; rfl, r, h.symm, e⟩
def Tu (H H' : Hp) : Prop := ∀ b o, H b = some o → IsT o → H' b = some o
theorem Tu.of (s : L2.Same H H') : Tu H H' := fun b o e _ => s b o e
theorem Tu.mo {n : Nat} {p : Addr} {H H' : Hp} (hp : Pot n H p) (m : Mo [p] H H') : Tu H H' := fun b o e x => by
 refine m b o (fun z => ?_) e
 rw [List.mem_singleton.mp z] at e
 obtain ⟨_, _, _, e2, _⟩ := hp
 rcases x with ⟨xs, rfl⟩ | ⟨ob, xs, rfl⟩ <;> (rw [e2] at e; cases e)
theorem HeapAt.tu {H H' : Hp} {h : Addr} {need : Int} {qs : List (Int × Int)} (x : HeapAt H h need qs) (m : Tu H H') : HeapAt H' h need qs :=
 let ⟨t, o, vs, a, bo, b, c, d⟩ := x; ⟨t, o, vs, m _ _ a (.inl ⟨_, rfl⟩), bo, m _ _ b (.inr ⟨_, _, rfl⟩), c.mo m, d⟩
theorem kinds_refs {H : Hp} : ∀ {vs : List V} {qs : List (Int × Int)}, Kinds H vs qs → ∃ as : List Addr, vs = as.map V.ref ∧ as.length = qs.length ∧ ∀ (i : Nat) (a : Addr) (q : Int × Int), as[i]? = some a → qs[i]? = some q → H a = some (.tup [.int q.1, .int q.2])
 | [], [], _ => ⟨[], rfl, rfl, fun i a q h => by simp at h⟩
 | [], _ :: _, h => by have := h.1; simp at this
 | _ :: _, [], h => by have := h.1; simp at this
 | v :: vs, q :: qs, h => by
  obtain ⟨q', e, r, rfl, hr⟩ := h.2 0 v rfl
  simp at e; subst e
  obtain ⟨as, h1, h2, h3⟩ := kinds_refs ⟨by simpa using h.1, fun i u e => h.2 (i + 1) u (by simpa using e)⟩
  refine ⟨r :: as, by rw [h1]; rfl, by grind, fun i a q e1 e2 => ?_⟩
  cases i with
  | zero => simp at e1 e2; subst e1; subst e2; exact hr
  | succ i => exact h3 i a q (by simpa using e1) (by simpa using e2)
theorem vv2_ikv (ks : List (Int × Int)) : vv2 ks = ikv (ks.map fun q => (q.1, V.int q.2)) := by
 unfold vv2 ikv; rw [List.map_map]; rfl
def HeapW (K : PySem.W.Frag) (H : Hp) (h : Addr) (need : Int) (qs : List (Int × Int)) : Prop := ∃ (t : Addr) (vs : List V), H h = some (.tup [.int need, .ref t]) ∧ SqT K H t vs ∧ Kinds H vs qs ∧ HOk8 need qs
theorem HeapAt.w {K : PySem.W.Frag} {H : Hp} {h : Addr} {need : Int} {qs : List (Int × Int)} (x : HeapAt H h need qs) : HeapW K H h need qs :=
 let ⟨t, o, vs, a, _, b, c, d⟩ := x; ⟨t, vs, a, .inl (.inr ⟨_, b⟩), c, d⟩
section
local macro_rules | `(tactic| wtm_at "call") => `(tactic| (apply k_tupleF; (rfl); (rfl); (rfl); (wtm_at "K"); (with_reducible rfl); (assumption); (wtm_at "pa")))
local macro_rules | `(tactic| wtm_at "pe") => `(tactic| (apply j_dget; (assumption); (exact fun _ _ => rfl); (wtm_at "pe"); (wtm_at "pe")))
local macro_rules | `(tactic| wtm_at "ps") => `(tactic| (apply s_dput; (assumption); (rfl); (wtm_at "pe"); (wtm_at "pe"); (wtm_at "pe")))
variable {P : Program} {w : World} {K : PySem.W.Frag} {mg : Str → Option Value} {base : Heap}
abbrev sSmall : Stmt := top 34
theorem scSmall : FnScope ["pot", "most", "need", "kind", "counts", "turn", "size"] ["pot", "most"] (defScope sSmall) := ⟨rfl, rfl, rfl, by decide +kernel, rfl, by decide +kernel, by decide +kernel⟩
def spSmall : Sp := fun vs H Q _ => ∃ (p : Addr) (n : Nat) (ms : Int), vs = [.ref p, .int ms] ∧ Pot n H p ∧ n ≤ 10 ^ 45 ∧ 0 ≤ ms ∧ ms ≤ 8 ∧ ∀ (h : Addr) (need : Int) (qs : List (Int × Int)) (H' : Hp), Mo [p] H H' → Pot (n + 1000) H' p → HeapAt H' h need qs → (qs.length : Int) ≤ ms → (∀ q ∈ qs, q.2 ≤ 10 ^ 12) → Q (.ref h) H'
theorem ok_small {f : Addr} {fd : FuncData} (F : Fun K "_law_small_heap" "_law_small_heap" sSmall f fd) (cT : Callee CX0 P w K mg base "_law_take" 1 ["pot", "size"] spTake) (cN : Callee CX0 P w K mg base "_law_need" 3 ["pot"] spNeed) (cS : Callee CX0 P w K mg base "_law_size" 3 ["pot", "need"] spSize) (cM : Callee CX0 P w K mg base "_law_many" 3 ["pot", "kind"] spMany)
 (mR : mg "range" = none) (mS : mg "sorted" = none) (mT : mg "tuple" = none) (mX : mg "max" = none) : FnOk P w K mg base CX0 4 f fd ["pot", "most"] spSmall := by
 refine Br.Fun.j F scSmall (fun vs H Q E h => ?_) (fun cdv A outer s H vs Q E hr h => ?_)
 · obtain ⟨_, _, _, rfl, _⟩ := h; rfl
 · obtain ⟨p, n, ms, rfl, hp, hn, hm0, hm1, h⟩ := h
   have nd := scSmall.nd
   have hsz : (sizeLine : Nat) = 16777216 := sizeLine_eq
   refine' ⟨_, ?d, ?r⟩
   case d => wtm_at "body"
   case r =>
    refine ⟨_, rfl, p, n, rfl, hp, by omega, fun need H1 m1 p1 n0 n1 => ?_⟩
    refine ⟨_, rfl, p, n + 20, 4, rfl, p1, by omega, by decide, by decide, fun kd H2 m2 p2 k0 k1 => ?_⟩
    refine fun d H3 hd s3 e3 => ?_
    have hdp : d ≠ p := fun z => by obtain ⟨_, _, _, e, _⟩ := p2; rw [z, e] at hd; cases hd
    have hdH : H d = none := by
     cases q : H d with
     | none => rfl
     | some o =>
      have := m2 d o (fun z => hdp (List.mem_singleton.mp z)) (m1 d o (fun z => hdp (List.mem_singleton.mp z)) q)
      rw [hd] at this; cases this
    refine ⟨_, rfl, _, rfl, .inl ⟨_, _, rfl, rfl, ?_⟩⟩
    refine ⟨p, n + 21, _, rfl, p2.same s3, by omega, by omega, by omega, fun cnt H4 m4 p4 c0 c1 => ?_⟩
    have e4 := m4 _ _ (fun z => hdp (List.mem_singleton.mp z)) e3
    have m14 : Mo [p] H H4 := m1.trans (m2.trans ((Mo.of s3).trans m4))
    refine ⟨_, rfl, by omega, by omega, for_range (fun i σ G => Mo [p] H G ∧ Pot (n + 30 + 60 * i) G p ∧ ∃ (ks : List (Int × Int)) (x5 x6 : Option V), ks.length ≤ i ∧ (ks.map (·.1)).Nodup ∧ (∀ q ∈ ks, 1 ≤ q.1 ∧ q.1 ≤ 10 ^ 12 ∧ 1 ≤ q.2 ∧ q.2 ≤ 10 ^ 12) ∧ G d = some (.dK (vv2 ks)) ∧
     σ = [some (.ref p), some (.int ms), some (.int need), some (.int kd), some (.ref d), x5, x6]) ⟨m14, p4.le (by omega), [], none, none, Nat.le_refl _, List.nodup_nil, by simp, e4, rfl⟩ ?_ ?_⟩
    · rintro i σ G hi ⟨mG, pG, ks, x5, x6, hkl, hnd, hks, eG, rfl⟩
      have hi8 : i < 8 := by omega
      refine ⟨_, rfl, _, rfl, p, _, need, rfl, pG, by omega, n0, n1, fun sz0 G0 q0 p0' z00 z01 => ?_⟩
      wtm_at "rd"
      refine ⟨lenLe (n := 4) rfl (by decide), fun l0 G1 nl s1' e1' => ?_⟩
      have pl0 := p0'.same s1'
      have hl0p : l0 ≠ p := fun z => by obtain ⟨_, _, _, e, _⟩ := p0'; rw [z, e] at nl; cases nl
      refine ⟨_, rfl, p, _, 4, rfl, pl0, by omega, by decide, by decide, fun r1 G2 q2 p2' a1 b1 => ?_⟩
      obtain ⟨z, hz, _, ez⟩ := atI_ints (zs := [3, 5, 10, 4]) (i := r1) (by omega) (by simp; omega)
      have hz' : 3 ≤ z ∧ z ≤ 10 := by simp at hz; omega
      refine .inl ⟨l0, _, _, _, rfl, rfl, SqL.of (q2 _ _ (fun y => hl0p (List.mem_singleton.mp y)) e1'), ez, ?_⟩
      refine ⟨_, _, rfl, rfl, divB (by omega) (by omega), _, _, rfl, rfl, divB (by decide) (by decide), ?_⟩
      refine ⟨_, _, rfl, ?_⟩
      have hq1 : (need + 9) / z ≤ (need + 9) := Int.ediv_le_self _ (by omega)
      have hq2 : (need + 9) / z / 2 ≤ 10 ^ 12 := by omega
      generalize hs0 : (if (need + 9) / z / 2 > sz0 then (need + 9) / z / 2 else sz0) = sz1
      have hs1 : sz1 ≤ 10 ^ 12 := by rw [← hs0]; split <;> omega
      refine ⟨_, rfl, _, rfl, p, _, kd, rfl, p2', by omega, k0, k1, fun mv G3 q3 p3' v0 v1 => ?_⟩
      wtm_at "rd"
      have z0 : 1 ≤ (if sz1 > 1 then sz1 else 1) := by split <;> omega
      have z1 : (if sz1 > 1 then sz1 else 1) ≤ 10 ^ 12 := by split <;> omega
      show ∃ a H4, V.ref d = V.ref a ∧ DPut G3 a (V.int (if sz1 > 1 then sz1 else 1)) (V.int mv) H4 ∧ _
      generalize (if sz1 > 1 then sz1 else 1) = sz at z0 z1
      have qq : Mo [p] G G3 := q0.trans ((Mo.of s1').trans (q2.trans q3))
      have eG2 := qq _ _ (fun z => hdp (List.mem_singleton.mp z)) eG
      have hlen : (vv2 ks).length = ks.length := by unfold vv2; rw [List.length_map]
      have dp := DPut.k (k := .inl sz) (v := .int mv) eG2 (by rw [hlen]; omega)
      have pp : Pot (n + 30 + 60 * (i + 1)) (upd G3 d (.dK (putK (vv2 ks) (.inl sz) (.int mv)))) p := by
       obtain ⟨x, y, z, e, r⟩ := p3'.le (show n + 30 + 60 * i + 20 + 1 + 20 ≤ n + 30 + 60 * (i + 1) by omega)
       exact ⟨x, y, z, by rw [upd_ne (fun w => hdp w.symm)]; exact e, r⟩
      refine ⟨d, _, rfl, dp, fun b o nb e => ?_, pp, dput ks sz mv, _, _, ?_, dput_nodup sz mv hnd, fun q hq => ?_, by rw [upd_same, put_vv2], rfl⟩
      · rw [upd_ne (ne_of_none e hdH)]
        exact qq _ _ nb (mG _ _ nb e)
      · have := dput_len ks sz mv; omega
      · rcases dput_mem hq with z | rfl
        · exact hks q z
        · exact ⟨z0, z1, v0, v1⟩
    · rintro σ G ⟨mG, pG, ks, x5, x6, hkl, hnd, hks, eG, rfl⟩
      have hk8 : ks.length ≤ 8 := by omega
      have eG' := eG
      rw [vv2_ikv] at eG'
      refine ⟨_, rfl, _, rfl, .inl ⟨d, _, rfl, eG', by rw [List.length_map]; omega, fun l ns H9 hl s9 e9 perm pw => ?_⟩⟩
      have perm : ns.Perm (ks.map (·.1)) := by rw [List.map_map] at perm; exact perm
      have hnl : ns.length = ks.length := by rw [perm.length_eq, List.length_map]
      obtain ⟨sk1, sk2⟩ := sort_keys hnd perm pw
      have e9d := s9 _ _ eG
      refine ⟨l, rfl, .inl ⟨⟨_, SqL.of e9⟩, ?_⟩⟩
      refine cmp_list (K := K) (a := l) (xs := ns.map V.int) (fun i ys σ H2 => L2.Same H9 H2 ∧ ys.length = i ∧ Kinds H2 ys ((ns.map fun n => (n, (dlook ks n).getD 0)).take i) ∧ ∃ x : Option V, σ = [x, some (.ref p), some (.int ms), some (.int need), some (.int kd), some (.ref d), x5, x6])
       ⟨L2.Same.refl _, rfl, Kinds.nil, none, rfl⟩ (by rw [List.length_map]; omega) (fun i ys σ H2 _ ⟨sh, hy, _⟩ => ⟨SqL.of (sh _ _ e9), by omega⟩) ?_ ?_
      · rintro i x ys σ H2 N hx ⟨sh, hy, hk, x0, rfl⟩ hN
        rw [List.getElem?_map] at hx
        obtain ⟨m, hm, rfl⟩ := Option.map_eq_some_iff.mp hx
        obtain ⟨c, hc⟩ := dlook_key (perm.mem_iff.mp (List.mem_of_getElem? hm))
        have dg : DGet H2 d (.int m) (some (.int c)) := by
         have := DGet.k (k := .inl m) (sh _ _ e9d)
         rw [val_vv2, hc] at this; exact this
        refine ⟨_, rfl, _, rfl, _, rfl, d, .int c, rfl, dg, ?_⟩
        refine ⟨lenLe (n := 2) rfl (by decide), fun r H3' hr s3' e3' => hN _ _ _ ⟨sh.trans s3', by rw [List.length_append, hy]; rfl, ?_, _, rfl⟩⟩
        have hmi : (ns.map fun n => (n, (dlook ks n).getD 0))[i]? = some (m, c) := by rw [List.getElem?_map, hm]; show some (m, (dlook ks m).getD 0) = _; rw [hc]; rfl
        rw [List.take_add_one, hmi]
        exact (hk.same s3').snoc e3'
      · rintro ys σ H2 ⟨sh, hy, hk, x0, rfl⟩ pl H11 hpl s11 e11
        rw [List.take_of_length_le (by rw [List.length_map, List.length_map]; exact Nat.le_refl _)] at hk
        refine ⟨pl, _, rfl, SqL.of e11, fun t ob H12 ht bo s12 e12' => ?_⟩
        refine ⟨lenLe (n := 2) rfl (by decide), fun hq' H13 hh s13 e13 => ?_⟩
        have sA : L2.Same G H13 := s9.trans (sh.trans (s11.trans (s12.trans s13)))
        have bd : ∀ q ∈ (ns.map fun n => (n, (dlook ks n).getD 0)), 1 ≤ q.1 ∧ q.1 ≤ 10 ^ 12 ∧ 1 ≤ q.2 ∧ q.2 ≤ 10 ^ 12 := fun q hq => hks q ((sk2 q).mp hq)
        refine h hq' need _ H13 (fun b o nb e => sA _ _ (mG _ _ nb e)) ((pG.same sA).le (by omega)) ⟨t, ob, ys, e13, bo, s13 _ _ e12', hk.same (s11.trans (s12.trans s13)), ⟨by rw [List.length_map]; omega, n0, n1, fun q hq => ?_, sk1⟩⟩ (by rw [List.length_map]; omega) fun q hq => (bd q hq).2.2.2
        obtain ⟨b1, b2, b3, b4⟩ := bd q hq
        exact ⟨b1, b2, b3, by omega⟩
end
def tot (qs : List (Int × Int)) : Int := (qs.map fun q => q.1 * q.2).sum
section
variable {P : Program} {w : World} {K : PySem.W.Frag} {mg : Str → Option Value} {base : Heap}
abbrev sTot : Stmt := top 11
theorem scTot : FnScope ["heap"] ["heap"] (defScope sTot) := ⟨rfl, rfl, rfl, by decide +kernel, rfl, by decide +kernel, by decide +kernel⟩
def spTot (K : PySem.W.Frag) : Sp := fun vs H Q _ => ∃ (h : Addr) (need : Int) (qs : List (Int × Int)), vs = [.ref h] ∧ HeapW K H h need qs ∧ ∀ H', L2.Same H H' → Q (.int (tot qs)) H'
theorem ok_tot {f : Addr} {fd : FuncData} (F : Fun K "total_of" "total_of" sTot f fd) (mU : mg "sum" = none) : FnOk P w K mg base CX0 1 f fd ["heap"] (spTot K) := by
 refine Br.Fun.j F scTot (fun vs H Q E h => ?_) (fun cdv A outer s H vs Q E hr h => ?_)
 · obtain ⟨_, _, _, rfl, _⟩ := h; rfl
 · obtain ⟨hp, need, qs, rfl, ⟨t, us, h1, h2, h3, h4⟩, h⟩ := h
   have nd := scTot.nd
   have hul := h3.1
   have hsz : (sizeLine : Nat) = 16777216 := sizeLine_eq
   have hlen := h4.len
   have h2' : SqT K H t us := h2
   refine' ⟨_, ?d, ?r⟩
   case d => wtm_at "body"
   case r =>
    refine ⟨_, rfl, .inr (.inl ⟨hp, _, _, _, rfl, rfl, SqT.of h1, (show atI [V.int need, V.ref t] 1 = some (.ref t) from rfl), ?_⟩)⟩
    refine ⟨t, rfl, .inr ⟨⟨_, h2'⟩, ?_⟩⟩
    refine cmp_tup (K := K) (a := t) (xs := us) (fun j ys σ G => G = H ∧ ys = ((qs.map fun q => q.1 * q.2).take j).map V.int ∧ ∃ x y : Option V, σ = [x, y, some (.ref hp)])
     ⟨rfl, rfl, none, none, rfl⟩ (by rw [hul]; omega) (fun j ys σ G _ ⟨e1, e2, _⟩ => ⟨by rw [e1]; exact h2', by rw [e2, List.length_map, List.length_take]; omega⟩) ?_ ?_
    · rintro j x ys σ G N hx ⟨rfl, rfl, x0, y0, rfl⟩ hN
      obtain ⟨q, hq, r, rfl, hrr⟩ := h3.2 j x hx
      obtain ⟨b1, b2, b3, b4⟩ := h4.bd q (List.mem_of_getElem? hq)
      refine ⟨r, _, rfl, SqT.of hrr, rfl, _, _, rfl, _, _, rfl, rfl, ?_⟩
      refine ⟨_, rfl, _, rfl, _, _, rfl, rfl, IntMulOk.of_left (intBits_le_64 (by omega) (by omega)), hN _ _ _ ⟨rfl, ?_, _, _, rfl⟩⟩
      rw [List.take_add_one, List.getElem?_map, hq, List.map_append]; rfl
    rintro ys σ G ⟨eG, rfl, x0, y0, rfl⟩ pl G1 hpl s1 e1
    rw [eG] at s1
    rw [List.take_of_length_le (by rw [List.length_map]; omega)] at e1
    exact ⟨pl, _, rfl, .inl (SqL.of e1), h G1 s1⟩
abbrev sUp : Stmt := top 6
theorem scUp : FnScope ["top", "bottom"] ["top", "bottom"] (defScope sUp) := ⟨rfl, rfl, rfl, by decide +kernel, rfl, by decide +kernel, by decide +kernel⟩
def spUp : Sp := fun vs H Q _ => ∃ t b : Int, vs = [.int t, .int b] ∧ 0 < b ∧ b ≤ 10 ^ 12 ∧ Q (.int (-(-t / b))) H
theorem ok_up {f : Addr} {fd : FuncData} (F : Fun K "rounded_up" "rounded_up" sUp f fd) : FnOk P w K mg base CX0 1 f fd ["top", "bottom"] spUp := by
 refine Br.Fun.j F scUp (fun vs H Q E h => ?_) (fun cdv A outer s H vs Q E hr h => ?_)
 · obtain ⟨_, _, rfl, _⟩ := h; rfl
 · obtain ⟨t, b, rfl, h0, h1, h⟩ := h
   have nd := scUp.nd
   refine' ⟨_, ?d, ?r⟩
   case d => wtm_at "body"
   case r =>
    wtm_at "rd"
    exact h
abbrev sFull : Stmt := top 17
theorem scFull : FnScope ["need", "lot"] ["need", "lot"] (defScope sFull) := ⟨rfl, rfl, rfl, by decide +kernel, rfl, by decide +kernel, by decide +kernel⟩
def spFull (K : PySem.W.Frag) : Sp := fun vs H Q _ => ∃ (n : Int) (a : Addr) (zs : List Int), vs = [.int n, .ref a] ∧ SqT K H a (zs.map V.int) ∧ Q (.bl (decide (n ≤ zs.sum))) H
theorem ok_full (F : Fun K "is_full" "is_full" sFull f fd) (mU : mg "sum" = none) : FnOk P w K mg base CX0 1 f fd ["need", "lot"] (spFull K) := by
 refine Br.Fun.j F scFull (fun vs H Q E h => ?_) (fun cdv A outer s H vs Q E hr h => ?_)
 · obtain ⟨_, _, _, rfl, _⟩ := h; rfl
 · obtain ⟨n, a, zs, rfl, ha, h⟩ := h
   refine' ⟨_, ?d, ?r⟩
   case d => wtm_at "body"
   case r => exact ⟨_, rfl, a, zs, rfl, .inr ha, _, rfl, _, _, rfl, rfl, h⟩
end
def Rows (H : Hp) (us : List V) (rs : List (List Int)) : Prop := us.length = rs.length ∧ ∀ (i : Nat) (v : V), us[i]? = some v → ∃ (a : Addr) (zs : List Int), rs[i]? = some zs ∧ v = .ref a ∧ H a = some (.tup (zs.map V.int))
section
variable {H H' : Hp} {us us' : List V} {rs rs' : List (List Int)}
theorem Rows.nil : Rows H [] [] := ⟨rfl, fun i v h => by cases h⟩
theorem Rows.tu (h : Rows H us rs) (s : Tu H H') : Rows H' us rs := ⟨h.1, fun i v hv => let ⟨a, zs, e1, e2, e3⟩ := h.2 i v hv; ⟨a, zs, e1, e2, s _ _ e3 (.inl ⟨_, rfl⟩)⟩⟩
theorem Rows.same (h : Rows H us rs) (s : L2.Same H H') : Rows H' us rs := h.tu (Tu.of s)
theorem Rows.one {a : Addr} {zs : List Int} (e : H a = some (.tup (zs.map V.int))) : Rows H [.ref a] [zs] := ⟨rfl, fun i v hv => by
 cases i with
 | zero => cases hv; exact ⟨a, zs, rfl, rfl, e⟩
 | succ i => cases hv⟩
theorem Rows.app (h : Rows H us rs) (h' : Rows H us' rs') : Rows H (us ++ us') (rs ++ rs') := ⟨by rw [List.length_append, List.length_append, h.1, h'.1], fun i v hv => by
 by_cases c : i < us.length
 · rw [List.getElem?_append_left c] at hv
   obtain ⟨a, zs, e1, e2, e3⟩ := h.2 i v hv
   exact ⟨a, zs, by rw [List.getElem?_append_left (by rw [← h.1]; exact c)]; exact e1, e2, e3⟩
 · rw [List.getElem?_append_right (by omega)] at hv
   obtain ⟨a, zs, e1, e2, e3⟩ := h'.2 _ v hv
   exact ⟨a, zs, by rw [List.getElem?_append_right (by rw [← h.1]; omega), ← h.1]; exact e1, e2, e3⟩⟩
end
theorem repl_flat (v : V) : ∀ n : Nat, (List.replicate n [v]).flatten = List.replicate n v
 | 0 => rfl
 | n + 1 => by rw [List.replicate_succ, List.flatten_cons, repl_flat v n, List.replicate_succ]; rfl
theorem Tu.put {G : Hp} {l : Addr} {xs ys : List V} (e : G l = some (.lst xs)) : Tu G (upd G l (.lst ys)) := fun b o hb ht => by
 rw [upd_ne (fun z => by subst z; rw [e] at hb; cases hb; rcases ht with ⟨_, z⟩ | ⟨_, _, z⟩ <;> cases z)]; exact hb
structure GrOk (need s m below : Int) (zs : List Int) : Prop where
 n1 : 1 ≤ need
 n2 : need ≤ 10 ^ 12
 s1 : 1 ≤ s
 s2 : s ≤ 10 ^ 12
 m1 : 0 ≤ m
 m2 : m ≤ 10 ^ 13
 b1 : 0 ≤ below
 b2 : below ≤ 10 ^ 27
 z1 : 0 ≤ zs.sum
 z2 : zs.sum < need
 len : zs.length ≤ 60
section
local macro_rules | `(tactic| wtm_at "op") => `(tactic| first | apply o_addB | apply o_sub | fail)
local macro_rules | `(tactic| wtm_at "pe") => `(tactic| (apply k_repT0; (wtm_at "K"); (wtm_at "pe"); (wtm_at "pe")))
local macro_rules | `(tactic| wtm_at "ps") => `(tactic| (apply s_for; (exact PassesOwn.leaving); (rfl); (intro _; rfl); (wtm_at "pi"); (wtm_at "pg"); (wtm_at "pss")))
variable {P : Program} {w : World} {K : PySem.W.Frag} {mg : Str → Option Value} {base : Heap}
abbrev sGrow : Stmt := top 23
theorem scGrow : FnScope ["need", "lot", "kind", "below", "size", "many", "missing", "fewest", "most", "grown", "number"] ["need", "lot", "kind", "below"] (defScope sGrow) := ⟨rfl, rfl, rfl, by decide +kernel, rfl, by decide +kernel, by decide +kernel⟩
def spGrow (K : PySem.W.Frag) (C : Addr) : Sp := fun vs H Q E => ∃ (need s m below : Int) (a kd : Addr) (zs : List Int), vs = [.int need, .ref a, .ref kd, .int below] ∧ H a = some (.tup (zs.map V.int)) ∧ SqT K H kd [.int s, .int m] ∧ GrOk need s m below zs ∧
 (fewN need below s zs ≤ mostN need s m zs → 60 < (zs.length : Int) + mostN need s m zs → ∀ H', L2.Same H H' → E (.ref C) none H') ∧
 ((fewN need below s zs ≤ mostN need s m zs → (zs.length : Int) + mostN need s m zs ≤ 60) → ∀ (l : Addr) (us : List V) (H' : Hp), H l = none → L2.Same H H' → H' l = some (.lst us) → Rows H' us (growP need s m below zs) → Q (.ref l) H')
theorem ok_grow {f : Addr} {fd : FuncData} {C B : Addr} (F : Fun K "grown_lots" "grown_lots" sGrow f fd) (eR : ECls K mg "TooMany" C B) (cU : Callee CX0 P w K mg base "rounded_up" 1 ["top", "bottom"] spUp) (g1 : GInt mg "MOST_IN_A_LEAN" 60)
 (mS : mg "sum" = none) (mX : mg "max" = none) (mN : mg "min" = none) (mR : mg "range" = none) (mL : mg "len" = none) : FnOk P w K mg base (CXF P w) 2 f fd ["need", "lot", "kind", "below"] (spGrow K C) := by
 refine Br.Fun.jX F scGrow (fun vs H Q E h => ?_) (fun cdv A outer s H vs Q E hr h => ?_)
 · obtain ⟨_, _, _, _, _, _, _, rfl, _⟩ := h; rfl
 · obtain ⟨need, sz, m, below, a, kd, zs, rfl, ha, hk, g, hX, h⟩ := h
   have nd := scGrow.nd
   have hsz : (sizeLine : Nat) = 16777216 := sizeLine_eq
   have g2 := g.n2; have g3 := g.s1; have g4 := g.s2; have g5 := g.m1; have g6 := g.m2
   refine' ⟨_, ?d, ?r⟩
   case d => wtm_at "body"
   case r =>
    have ha' : SqT K H a (zs.map V.int) := SqT.of ha
    refine ⟨_, rfl, kd, _, rfl, hk, rfl, _, _, rfl, _, _, rfl, rfl, ?_⟩
    refine ⟨_, rfl, _, rfl, a, zs, rfl, .inr ha', _, _, rfl, rfl, ?_⟩
    refine ⟨_, rfl, _, rfl, _, _, rfl, rfl, _, rfl, _, _, rfl, by omega, by omega, 0, _, rfl, ?_⟩
    refine ⟨_, rfl, _, rfl, _, rfl, _, _, rfl, by omega, by omega, _, _, rfl, ?_⟩
    have eF : (if -(-(need - zs.sum - below) / sz) > 0 then -(-(need - zs.sum - below) / sz) else 0) = fewN need below sz zs := by
     unfold fewN upD; split <;> omega
    have eM : (if -(-(need - zs.sum) / sz) < m then -(-(need - zs.sum) / sz) else m) = mostN need sz m zs := by
     unfold mostN upD; split <;> omega
    have f0 : 0 ≤ fewN need below sz zs := few0
    have z1 := g.z1; have z2 := g.z2; have b1 := g.b1; have hlen := g.len
    have hmul : (10 : Int) ^ 12 ≤ 10 ^ 12 * sz := by have := Int.mul_le_mul_of_nonneg_left g3 (by decide : (0 : Int) ≤ 10 ^ 12); omega
    have f1 : fewN need below sz zs ≤ 10 ^ 12 := Int.max_le.mpr ⟨by decide, (upD_le (by omega)).mpr (by omega)⟩
    have m0 : 0 ≤ mostN need sz m zs := most0 (by omega) g5 z2
    have m1 : mostN need sz m zs ≤ 10 ^ 13 := Int.le_trans (Int.min_le_left _ _) g6
    rw [eF, eM]
    refine ⟨by simp, fun l H1 nl s1 e1 => ?_⟩
    refine ⟨_, rfl, _, rfl, .inl ⟨_, _, rfl, rfl, _, _, rfl, ⟨by omega, by omega, by omega, by omega⟩, ?_⟩⟩
    have eN : (mostN need sz m zs + 1 - fewN need below sz zs).toNat = (growP need sz m below zs).length := by unfold growP; rw [List.length_map, List.length_range]
    refine for_range (fun i σ G => L2.Same H G ∧ (∃ us, G l = some (.lst us) ∧ Rows G us ((growP need sz m below zs).take i)) ∧ (i = 0 ∨ (zs.length : Int) + (fewN need below sz zs + i - 1) ≤ 60) ∧
     ∃ x : Option V, σ = [some (.int need), some (.ref a), some (.ref kd), some (.int below), some (.int sz), some (.int m), some (.int (need - zs.sum)), some (.int (fewN need below sz zs)), some (.int (mostN need sz m zs)), some (.ref l), x])
     ⟨s1, ⟨_, e1, Rows.nil⟩, .inl rfl, none, rfl⟩ ?_ ?_
    · rintro i σ G hi ⟨sG, ⟨us, eG, rG⟩, hb, x, rfl⟩
      have hfi : fewN need below sz zs + (i : Int) ≤ mostN need sz m zs := by omega
      refine ⟨_, ⟨_, rfl, .inl ⟨a, _, rfl, .inr (SqT.of (sG _ _ ha)), _, rfl, .inl ⟨_, _, rfl, rfl, ?_⟩⟩⟩, fun _ _ h => h⟩
      rw [List.length_map]
      refine ⟨_, _, rfl, rfl, _, rfl, ite2 (fun hc => ?_) (fun hc => ?_)⟩
      · have hc := of_decide_eq_true hc
        exact hX (by omega) (by omega) G sG
      have hc : (zs.length : Int) + (fewN need below sz zs + (i : Int)) ≤ 60 := by
       by_cases c : (zs.length : Int) + (fewN need below sz zs + (i : Int)) ≤ 60
       · exact c
       · exact absurd (decide_eq_true (by omega)) hc
      have hul : us.length ≤ i := by rw [rG.1, List.length_take]; exact Nat.min_le_left _ _
      refine ⟨_, rfl, .inl ⟨rfl, _, SqL.of eG⟩, ?_⟩
      refine ⟨_, rfl, lenLe (n := 1) rfl (by decide), fun t1 G1 n1 s1' e1' => ?_⟩
      refine ⟨_, rfl, t1, _, _, rfl, rfl, e1', by simp, by omega, by omega, by rw [List.length_singleton, hsz]; omega, fun t2 G2 s2' e2' => ?_⟩
      have sG2 := sG.trans (s1'.trans s2')
      refine ⟨_, rfl, .inr ⟨t2, a, _, _, rfl, rfl, e2', sG2 _ _ ha, by rw [List.length_map, hsz]; simp; omega, fun t3 G3 s3' e3' => ?_⟩⟩
      have sG3 := sG2.trans s3'
      have sGG := s1'.trans (s2'.trans s3')
      have hfl : (List.replicate (fewN need below sz zs + (i : Int)).toNat [V.int sz]).flatten ++ zs.map V.int = (addN sz zs (fewN need below sz zs + (i : Int)).toNat).map V.int := by
       unfold addN; rw [List.map_append, repl_flat, List.map_replicate]
      rw [hfl] at e3'
      have tl : Tu G3 (upd G3 l (.lst (us ++ [.ref t3]))) := Tu.put (sGG _ _ eG)
      refine ⟨l, us, _, rfl, rfl, sGG _ _ eG, by omega, fun b o e => ?_, ⟨_, upd_same, ?_⟩, .inr (by omega), _, rfl⟩
      · rw [upd_ne (ne_of_none e nl)]; exact sG3 _ _ e
      · have hg : (growP need sz m below zs)[i]? = some (addN sz zs (fewN need below sz zs + (i : Int)).toNat) := by
         unfold growP; rw [List.getElem?_map, List.getElem?_range (by omega)]; rfl
        rw [List.take_add_one, hg]
        exact ((rG.same sGG).tu tl).app ((Rows.one e3').tu tl)
    · rintro σ G ⟨sG, ⟨us, eG, rG⟩, hb, x, rfl⟩
      rw [eN, List.take_length] at rG
      refine ⟨_, rfl, h (fun hfm => ?_) l us G nl sG eG rG⟩
      have : ((mostN need sz m zs + 1 - fewN need below sz zs).toNat : Int) = mostN need sz m zs + 1 - fewN need below sz zs := Int.toNat_of_nonneg (by omega)
      rcases hb with hb | hb
      · omega
      · omega
end
theorem grow_mem {need s m below : Int} {zs r : List Int} (g : GrOk need s m below zs) (hl : fewN need below s zs ≤ mostN need s m zs → (zs.length : Int) + mostN need s m zs ≤ 60) (h : r ∈ growP need s m below zs) : 0 ≤ r.sum ∧ r.length ≤ 60 := by
 unfold growP at h
 obtain ⟨i, hi, rfl⟩ := List.mem_map.mp h
 have hi := List.mem_range.mp hi
 have f0 : 0 ≤ fewN need below s zs := few0
 have hfm : fewN need below s zs ≤ mostN need s m zs := by omega
 have hl := hl hfm
 rw [addN_sum]
 have z1 := g.z1; have s1 := g.s1
 have hp : 0 ≤ (((fewN need below s zs + (i : Int)).toNat : Nat) : Int) * s := Int.mul_nonneg (by omega) (by omega)
 refine ⟨by omega, ?_⟩
 unfold addN
 rw [List.length_append, List.length_replicate]
 omega
theorem grow_len {need s m below : Int} {zs : List Int} (hl : fewN need below s zs ≤ mostN need s m zs → (zs.length : Int) + mostN need s m zs ≤ 60) : (growP need s m below zs).length ≤ 61 := by
 unfold growP
 rw [List.length_map, List.length_range]
 have f0 : 0 ≤ fewN need below s zs := few0
 by_cases c : fewN need below s zs ≤ mostN need s m zs
 · have := hl c; omega
 · omega
theorem flat_len {α β : Type} {f : α → List β} {n : Nat} : ∀ l : List α, (∀ x ∈ l, (f x).length ≤ n) → (l.flatMap f).length ≤ n * l.length
 | [], _ => by simp
 | x :: l, h => by
  have h1 := h x (.head _)
  have h2 := flat_len (f := f) (n := n) l fun y hy => h y (.tail _ hy)
  rw [List.flatMap_cons, List.length_append, List.length_cons, Nat.mul_add]; omega
def RwOk (rows : List (List Int)) : Prop := (∀ r ∈ rows, 0 ≤ r.sum ∧ r.length ≤ 60) ∧ rows.length ≤ 300
theorem tot_app (a b : List (Int × Int)) : tot (a ++ b) = tot a + tot b := by unfold tot; rw [List.map_append, List.sum_append]
theorem tot_rev : ∀ qs : List (Int × Int), tot qs.reverse = tot qs
 | [] => rfl
 | q :: qs => by
  rw [List.reverse_cons, tot_app, tot_rev qs]
  unfold tot; simp; omega
theorem tot_cons (q : Int × Int) (qs : List (Int × Int)) : tot (q :: qs) = q.1 * q.2 + tot qs := by unfold tot; simp
theorem tot_bd : ∀ (qs : List (Int × Int)), (∀ q ∈ qs, 1 ≤ q.1 ∧ q.1 ≤ 10 ^ 12 ∧ 1 ≤ q.2 ∧ q.2 ≤ 10 ^ 13) → 0 ≤ tot qs ∧ tot qs ≤ 10 ^ 25 * (qs.length : Int)
 | [], _ => by unfold tot; simp
 | q :: qs, h => by
  obtain ⟨a, b, c, d⟩ := h q (.head _)
  have ⟨i1, i2⟩ := tot_bd qs fun x hx => h x (.tail _ hx)
  rw [tot_cons, List.length_cons]
  have h1 : 0 ≤ q.1 * q.2 := Int.mul_nonneg (by omega) (by omega)
  have h2 : q.1 * q.2 ≤ 10 ^ 12 * 10 ^ 13 := Int.mul_le_mul b d (by omega) (by decide)
  have h3 : (10 : Int) ^ 12 * 10 ^ 13 = 10 ^ 25 := by decide
  refine ⟨by omega, ?_⟩
  rw [Int.natCast_add, Int.mul_add]
  omega
theorem kinds_rev {H : Hp} {us : List V} {qs : List (Int × Int)} (h : Kinds H us qs) {i : Nat} {x : V} (hx : us.reverse[i]? = some x) : ∃ q, qs.reverse[i]? = some q ∧ Kind H x q := by
 have hi : i < us.length := by have := (List.getElem?_eq_some_iff.mp hx).1; rw [List.length_reverse] at this; exact this
 rw [List.getElem?_reverse hi] at hx
 obtain ⟨q, h1, h2⟩ := h.2 _ x hx
 exact ⟨q, by rw [List.getElem?_reverse (by rw [← h.1]; exact hi), ← h.1]; exact h1, h2⟩
theorem rows_refs {H : Hp} : ∀ {us : List V} {rs : List (List Int)}, Rows H us rs → ∃ as : List Addr, us = as.map V.ref
 | [], _, _ => ⟨[], rfl⟩
 | u :: us, [], h => by have := h.1; simp at this
 | u :: us, r :: rs, h => by
  obtain ⟨a, _, _, e, _⟩ := h.2 0 u rfl
  obtain ⟨as, ea⟩ := rows_refs (us := us) (rs := rs) ⟨by have := h.1; simpa using this, fun i v hv => let ⟨a, zs, e1, e2⟩ := h.2 (i + 1) v hv; ⟨a, zs, e1, e2⟩⟩
  exact ⟨a :: as, by rw [e, ea]; rfl⟩
theorem rows_zip {H : Hp} {as bs : List Addr} {rs ws : List (List Int)} (h : Rows H (as.map V.ref) rs) (hl : as.length = rs.length) (hb : bs.length = ws.length) (p : (bs.zip ws).Perm (as.zip rs)) : Rows H (bs.map V.ref) ws := by
 refine ⟨by rw [List.length_map]; exact hb, fun i v hv => ?_⟩
 rw [List.getElem?_map] at hv
 obtain ⟨b, hbi, rfl⟩ := Option.map_eq_some_iff.mp hv
 have hi : i < ws.length := by rw [← hb]; exact (List.getElem?_eq_some_iff.mp hbi).1
 have hw : ws[i]? = some ws[i] := List.getElem?_eq_getElem hi
 have hz : (b, ws[i]) ∈ bs.zip ws := by
  refine List.mem_of_getElem? (i := i) ?_
  rw [List.getElem?_zip_eq_some]; exact ⟨hbi, hw⟩
 obtain ⟨j, hj⟩ := List.getElem?_of_mem (p.mem_iff.mp hz)
 rw [List.getElem?_zip_eq_some] at hj
 obtain ⟨a, zs, e1, e2, e3⟩ := h.2 j (.ref b) (by rw [List.getElem?_map, hj.1]; rfl)
 cases e2
 rw [hj.2] at e1; cases e1
 exact ⟨b, _, hw, rfl, e3⟩
theorem leans_step {need more : Int} {q : Int × Int} {ks : List (Int × Int)} {rows : List (List Int)} : leansOf need (q :: ks) more rows = if tooLong need q.1 q.2 more rows then none else if 300 < (rowsTo need q.1 q.2 more rows).length then none else leansOf need ks (more - q.1 * q.2) (rowsTo need q.1 q.2 more rows) := rfl
theorem rows_ok {need more : Int} {q : Int × Int} {rows : List (List Int)} (R : RwOk rows) (G : ∀ r ∈ rows, r.sum < need → GrOk need q.1 q.2 (more - q.1 * q.2) r) (hn : ¬ tooLong need q.1 q.2 more rows) (hl : (rowsTo need q.1 q.2 more rows).length ≤ 300) : RwOk (rowsTo need q.1 q.2 more rows) := by
 refine ⟨fun r hr => ?_, hl⟩
 unfold rowsTo at hr
 rcases List.mem_append.mp hr with h | h
 · exact R.1 r (List.mem_filter.mp h).1
 · obtain ⟨x, hx, hg⟩ := List.mem_flatMap.mp h
   obtain ⟨hx, hf⟩ := List.mem_filter.mp hx
   have hs : x.sum < need := by
    unfold fullB at hf
    by_cases c : need ≤ x.sum
    · rw [decide_eq_true c] at hf; cases hf
    · omega
   have g := G x hx hs
   refine grow_mem g (fun hfm => ?_) hg
   by_cases c : (x.length : Int) + mostN need q.1 q.2 x ≤ 60
   · exact c
   · have h1 := (few_most (need := need) (s := q.1) (m := q.2) (below := more - q.1 * q.2) (zs := x) (by have := g.s1; omega) g.m1 hs g.b1).mp hfm
     exact absurd ⟨x, hx, hs, by omega, by omega⟩ hn
section
local macro_rules | `(tactic| wtm_at "ps") => `(tactic| first | (apply s_augSub; (wtm_at "at"); (assumption); (exact .inl rfl); (rfl); (wtm_at "pe")) | (apply s_for; (exact PassesOwn.leaving); (rfl); (intro _; rfl); (wtm_at "pi"); (wtm_at "pg"); (wtm_at "pss")))
local macro_rules | `(tactic| wtm_at "pi") => `(tactic| (apply k_rvt; (wtm_at "K"); (with_reducible rfl); (rfl); (assumption); (rfl); (wtm_at "pa")))
local macro_rules | `(tactic| wtm_at "call") => `(tactic| (apply k_sortedU; (rfl); (rfl); (rfl); (wtm_at "K"); (with_reducible rfl); (assumption); (wtm_at "pa")))
variable {P : Program} {w : World} {K : PySem.W.Frag} {mg : Str → Option Value} {base : Heap}
abbrev sLean : Stmt := top 24
theorem scLean : FnScope ["heap", "need", "kinds", "below", "begun", "found", "size", "many", "grown", "lot"] ["heap"] (defScope sLean) := ⟨rfl, rfl, rfl, by decide +kernel, rfl, by decide +kernel, by decide +kernel⟩
def leansQ (need : Int) (qs : List (Int × Int)) : Option (List (List Int)) := leansOf need qs.reverse (tot qs) [[]]
def Told (H : Hp) (l : Addr) (rs : List (List Int)) : Prop := ∃ (bs : List Addr) (us : List (List Int)), H l = some (.lst (bs.map V.ref)) ∧ Rows H (bs.map V.ref) us ∧ us.Perm rs ∧ us.Pairwise (fun u v => HT.lexLt v u = false)
def spLean (K : PySem.W.Frag) (C : Addr) : Sp := fun vs H Q E => ∃ (h : Addr) (need : Int) (qs : List (Int × Int)), vs = [.ref h] ∧ HeapW K H h need qs ∧ (leansQ need qs = none → ∀ H', L2.Same H H' → E (.ref C) none H') ∧
 (∀ rs, leansQ need qs = some rs → ∀ (l : Addr) (H' : Hp), H l = none → L2.Same H H' → Told H' l rs → Q (.ref l) H')
theorem ok_lean {f : Addr} {fd : FuncData} {C B : Addr} (F : Fun K "lean_lots" "lean_lots" sLean f fd) (eR : ECls K mg "TooMany" C B) (cT : Callee CX0 P w K mg base "total_of" 1 ["heap"] (spTot K)) (cG : Callee (CXF P w) P w K mg base "grown_lots" 2 ["need", "lot", "kind", "below"] (spGrow K C)) (cF : Callee CX0 P w K mg base "is_full" 1 ["need", "lot"] (spFull K)) (g1 : GInt mg "MOST_LEANS" 300)
 (mS : mg "sorted" = none) (mR : mg "reversed" = none) (mL : mg "len" = none) : FnOk P w K mg base (CXF P w) 3 f fd ["heap"] (spLean K C) := by
 refine Br.Fun.jX F scLean (fun vs H Q E h => ?_) (fun cdv A outer s H vs Q E hr h => ?_)
 · obtain ⟨_, _, _, rfl, _⟩ := h; rfl
 · obtain ⟨hp, need, qs, rfl, hh, hX, h⟩ := h
   have nd := scLean.nd
   have hsz : (sizeLine : Nat) = 16777216 := sizeLine_eq
   refine' ⟨_, ?d, ?r⟩
   case d => wtm_at "body"
   case r =>
    obtain ⟨t, us, h1, h2, h3, h4⟩ := id hh
    have sq : ∀ {G : Hp}, L2.Same H G → SqT K G t us := fun s => seqT s h2
    have hul := h3.1
    have n0 := h4.n0; have n1 := h4.n1; have hql := h4.len
    have bdr : ∀ i, ∀ q ∈ qs.reverse.drop i, 1 ≤ q.1 ∧ q.1 ≤ 10 ^ 12 ∧ 1 ≤ q.2 ∧ q.2 ≤ 10 ^ 13 := fun i q hq => h4.bd q (List.mem_reverse.mp (List.mem_of_mem_drop hq))
    refine ⟨_, rfl, hp, _, rfl, SqT.of h1, rfl, _, _, rfl, _, _, rfl, rfl, ?_⟩
    refine ⟨_, rfl, hp, need, qs, rfl, hh, fun H1 s1 => ?_⟩
    refine ⟨lenLe (n := 0) rfl (by decide), fun t0 H2 nt s2 e2 => ⟨lenLe (n := 1) rfl (by decide), fun bl H3 nb s3 e3 => ?_⟩⟩
    refine ⟨by simp, fun fl H4 nf s4 e4 => ?_⟩
    have s14 := s1.trans (s2.trans (s3.trans s4))
    have nfH : H fl = none := by
     cases q : H fl with
     | none => rfl
     | some o => have := (s1.trans (s2.trans s3)) _ _ q; rw [nf] at this; cases this
    have hbf : bl ≠ fl := fun z => by rw [z, nf] at e3; cases e3
    refine ⟨_, rfl, t, us, rfl, sq s14, ?_⟩
    have ef0 : ([[]] : List (List Int)).filter (fullB need) = [] := by
     have : fullB need [] = false := decide_eq_false (by simp; omega)
     rw [List.filter_cons, this]; rfl
    have ef1 : (([[]] : List (List Int)).filter fun r => !fullB need r) = [[]] := by
     have : fullB need [] = false := decide_eq_false (by simp; omega)
     rw [List.filter_cons, this]; rfl
    refine for_rvt (K := K) (a := t) (xs := us) (fun i σ G => L2.Same H G ∧ ∃ (rows : List (List Int)) (bl : Addr) (fus bus : List V), leansQ need qs = leansOf need (qs.reverse.drop i) (tot (qs.reverse.drop i)) rows ∧ RwOk rows ∧
     G fl = some (.lst fus) ∧ Rows G fus (rows.filter (fullB need)) ∧ G bl = some (.lst bus) ∧ Rows G bus (rows.filter fun r => !fullB need r) ∧ bl ≠ fl ∧
     ∃ x6 x7 x8 x9 : Option V, σ = [some (.ref hp), some (.int need), some (.ref t), some (.int (tot (qs.reverse.drop i))), some (.ref bl), some (.ref fl), x6, x7, x8, x9])
     ⟨s14, [[]], bl, [], _, by rw [List.drop_zero, tot_rev]; rfl, ⟨fun r hr => by rw [List.mem_singleton.mp hr]; simp, by simp⟩, e4, by rw [ef0]; exact Rows.nil, s4 _ _ e3, by rw [ef1]; exact (Rows.one (zs := []) e2).same (s3.trans s4), hbf, none, none, none, none, by rw [List.drop_zero, tot_rev]; rfl⟩
     (fun i σ G _ ⟨sG, _⟩ => sq sG) ?_ ?_
    · rintro i x σ G hx ⟨sG, rows, bl, fus, bus, hl, R, eF, rF, eB, rB, hbf, x6, x7, x8, x9, rfl⟩
      obtain ⟨q, hq, r, rfl, hrr⟩ := kinds_rev h3 hx
      have hd : qs.reverse.drop i = q :: qs.reverse.drop (i + 1) := by
       obtain ⟨hlt, e⟩ := List.getElem?_eq_some_iff.mp hq
       rw [List.drop_eq_getElem_cons hlt, e]
      have ht : tot (qs.reverse.drop i) = q.1 * q.2 + tot (qs.reverse.drop (i + 1)) := by rw [hd, tot_cons]
      obtain ⟨b1, b2, b3, b4⟩ := bdr i q (by rw [hd]; exact .head _)
      obtain ⟨c1, c2⟩ := tot_bd _ (bdr (i + 1))
      have c3 : ((qs.reverse.drop (i + 1)).length : Int) ≤ 16 := by rw [List.length_drop, List.length_reverse]; omega
      generalize htl2 : tot (qs.reverse.drop (i + 1)) = tl at ht c1 c2
      generalize htt : tot (qs.reverse.drop i) = tt at ht hl
      rw [hd, leans_step] at hl
      refine ⟨r, _, rfl, SqT.of (sG _ _ hrr), rfl, _, _, rfl, _, _, rfl, rfl, ?_⟩
      refine ⟨_, rfl, _, rfl, _, rfl, _, _, rfl, rfl, IntMulOk.of_left (intBits_le_64 (by omega) (by omega)), _, _, rfl, rfl, ?_⟩
      refine ⟨by simp, fun gl G1 ng g1' e1 => ?_⟩
      have hgf : gl ≠ fl := fun z => by rw [z, eF] at ng; cases ng
      have hgb : gl ≠ bl := fun z => by rw [z, eB] at ng; cases ng
      have ngH : H gl = none := by
       cases z : H gl with
       | none => rfl
       | some o => have := sG _ _ z; rw [ng] at this; cases this
      have hnf : ∀ r ∈ (rows.filter fun r => !fullB need r), r ∈ rows ∧ r.sum < need := fun r hr => by
       obtain ⟨a1, a2⟩ := List.mem_filter.mp hr
       refine ⟨a1, ?_⟩
       unfold fullB at a2
       by_cases c : need ≤ r.sum
       · rw [decide_eq_true c] at a2; cases a2
       · omega
      have hG : ∀ r ∈ rows, r.sum < need → GrOk need q.1 q.2 (tt - q.1 * q.2) r := fun r hr hs => ⟨n0, n1, b1, b2, by omega, b4, by omega, by omega, (R.1 r hr).1, hs, (R.1 r hr).2⟩
      generalize hNF : (rows.filter fun r => !fullB need r) = NF at rB hnf
      refine ⟨_, rfl, bl, rfl, .inl ⟨⟨_, SqL.of (g1' _ _ eB)⟩, ?_⟩⟩
      refine for_list (K := K) (a := bl) (xs := bus) (fun j σ G2 => (∀ b o, b ≠ gl → G b = some o → G2 b = some o) ∧ (∃ gus, G2 gl = some (.lst gus) ∧ Rows G2 gus ((NF.take j).flatMap (growP need q.1 q.2 (tt - q.1 * q.2)))) ∧
       (∀ r ∈ NF.take j, fewN need (tt - q.1 * q.2) q.1 r ≤ mostN need q.1 q.2 r → (r.length : Int) + mostN need q.1 q.2 r ≤ 60) ∧
       ∃ x9 : Option V, σ = [some (.ref hp), some (.int need), some (.ref t), some (.int (tt - q.1 * q.2)), some (.ref bl), some (.ref fl), some (.int q.1), some (.int q.2), some (.ref gl), x9])
       ⟨fun b o _ e => g1' _ _ e, ⟨_, e1, Rows.nil⟩, fun r hr => by simp at hr, _, rfl⟩ (fun j σ G2 _ ⟨k2, _⟩ => SqL.of (k2 _ _ (Ne.symm hgb) eB)) ?_ ?_
      · rintro j x σ G2 hx ⟨k2, ⟨gus, eGl, rG⟩, hsh, x9, rfl⟩
        obtain ⟨a, zs, hz, rfl, ha⟩ := rB.2 j x hx
        have hzm := List.mem_of_getElem? hz
        obtain ⟨hzr, hzs⟩ := hnf zs hzm
        have g := hG zs hzr hzs
        have hga : a ≠ gl := fun z => by rw [z, ng] at ha; cases ha
        refine ⟨_, rfl, .inl ⟨rfl, _, SqL.of eGl⟩, ?_⟩
        refine ⟨_, rfl, _, rfl, _, rfl, _, rfl, lenLe (n := 2) rfl (by decide), fun kd G3 nk s3 e3 => ⟨_, rfl, ?_⟩⟩
        have k3 : ∀ b o, b ≠ gl → G b = some o → G3 b = some o := fun b o hb e => s3 _ _ (k2 b o hb e)
        have sH3 : L2.Same H G3 := fun b o e => k3 b o (ne_of_none e ngH) (sG _ _ e)
        have iff := few_most (need := need) (s := q.1) (m := q.2) (below := tt - q.1 * q.2) (zs := zs) (by omega) (by omega) hzs (by omega)
        refine ⟨need, q.1, q.2, tt - q.1 * q.2, a, kd, zs, rfl, k3 _ _ hga ha, SqT.of e3, g, fun hfm hlong G4 s4 => ?_, fun hok gl2 gus2 G4 n4 s4 e4 r4 => ?_⟩
        · refine hX ?_ G4 (sH3.trans s4)
          rw [hl, if_pos ⟨zs, hzr, hzs, by have := iff.mp hfm; omega, hlong⟩]
        have eGl4 := s4 _ _ (s3 _ _ eGl)
        have hgl2 : gl2 ≠ gl := fun z => by rw [z, s3 _ _ eGl] at n4; cases n4
        have tl : Tu G4 (upd G4 gl (.lst (gus ++ gus2))) := Tu.put eGl4
        have hb1 : gus.length ≤ 61 * 300 := by
         rw [rG.1]
         refine Nat.le_trans (flat_len (n := 61) _ fun r hr => grow_len (hsh r hr)) (Nat.mul_le_mul_left _ ?_)
         rw [List.length_take, ← hNF]
         exact Nat.le_trans (Nat.min_le_right _ _) (Nat.le_trans (List.length_filter_le _ _) R.2)
        have hb2 : gus2.length ≤ 61 := by rw [r4.1]; exact grow_len hok
        refine ⟨gl, gl2, gus, gus2, rfl, rfl, eGl4, e4, by omega, fun b o hb e => ?_, ⟨_, upd_same, ?_⟩, fun r hr => ?_, _, rfl⟩
        · rw [upd_ne hb]; exact s4 _ _ (k3 b o hb e)
        · rw [List.take_add_one, hz, List.flatMap_append]
          refine (((rG.same s3).same s4).tu tl).app ?_
          have : ((some zs).toList : List (List Int)).flatMap (growP need q.1 q.2 (tt - q.1 * q.2)) = growP need q.1 q.2 (tt - q.1 * q.2) zs := by simp
          rw [this]
          exact r4.tu tl
        · rw [List.take_add_one, hz] at hr
          rcases List.mem_append.mp hr with hr | hr
          · exact hsh r hr
          · have e : r = zs := by simpa using hr
            subst e; exact hok
      rintro σ G2 ⟨k2, ⟨gus, eGl, rG⟩, hsh, x9, rfl⟩
      have hbl : bus.length = NF.length := rB.1
      rw [hbl, List.take_length] at rG hsh
      have hnl : ¬ tooLong need q.1 q.2 tt rows := fun ⟨r, hr, h1, h2, h3⟩ => by
       have hm : r ∈ NF := by rw [← hNF]; exact List.mem_filter.mpr ⟨hr, by unfold fullB; rw [decide_eq_false (by omega)]; rfl⟩
       have := hsh r hm ((few_most (by omega) (by omega) h1 (by omega)).mpr (by omega))
       omega
      rw [if_neg hnl] at hl
      generalize hGR : NF.flatMap (growP need q.1 q.2 (tt - q.1 * q.2)) = GR at rG
      have hgl : gus.length ≤ 61 * 300 := by
       rw [rG.1, ← hGR]
       refine Nat.le_trans (flat_len (n := 61) _ fun r hr => grow_len (hsh r hr)) (Nat.mul_le_mul_left _ ?_)
       rw [← hNF]; exact Nat.le_trans (List.length_filter_le _ _) R.2
      have eF2 := k2 _ _ (Ne.symm hgf) eF
      refine ⟨_, rfl, .inl ⟨rfl, _, SqL.of eF2⟩, ?_⟩
      refine ⟨_, rfl, gl, rfl, .inl ⟨⟨_, SqL.of eGl⟩, ?_⟩⟩
      refine cmp_list (K := K) (a := gl) (xs := gus) (fun j ys σ G' => G' = G2 ∧ Rows G2 ys ((GR.take j).filter (fullB need)) ∧
       ∃ x : Option V, σ = [x, some (.ref hp), some (.int need), some (.ref t), some (.int (tt - q.1 * q.2)), some (.ref bl), some (.ref fl), some (.int q.1), some (.int q.2), some (.ref gl), x9])
       ⟨rfl, Rows.nil, none, rfl⟩ (by omega) (fun j ys σ G' _ ⟨e, r, _⟩ => ⟨by rw [e]; exact SqL.of eGl, by rw [r.1]; exact Nat.le_trans (List.length_filter_le _ _) (by rw [List.length_take]; exact Nat.min_le_left _ _)⟩) ?_ ?_
      · rintro j x ys σ G' N hx ⟨rfl, r, x0, rfl⟩ hN
        obtain ⟨a, zs, hz, rfl, ha⟩ := rG.2 j x hx
        refine ⟨_, rfl, _, rfl, need, a, zs, rfl, SqT.of ha, _, rfl, ite2 (fun hc => ⟨_, rfl, hN _ _ _ ⟨rfl, ?_, _, rfl⟩⟩) (fun hc => hN _ _ _ ⟨rfl, ?_, _, rfl⟩)⟩
        · rw [List.take_add_one, hz, List.filter_append]
          have : ((some zs).toList : List (List Int)).filter (fullB need) = [zs] := by
           show List.filter (fullB need) [zs] = [zs]
           rw [List.filter_cons, show fullB need zs = true from hc]; rfl
          rw [this]; exact r.app (Rows.one ha)
        · rw [List.take_add_one, hz, List.filter_append]
          have : ((some zs).toList : List (List Int)).filter (fullB need) = [] := by
           show List.filter (fullB need) [zs] = []
           rw [List.filter_cons, show fullB need zs = false from Bool.eq_false_iff.mpr hc]; rfl
          rw [this, List.append_nil]; exact r
      rintro fys σ G' ⟨rfl, rY, x0, rfl⟩ yl G3 n3 s3 e3
      rw [rG.1, List.take_length] at rY
      have hfyl : fys.length ≤ 61 * 300 := by rw [rY.1]; exact Nat.le_trans (List.length_filter_le _ _) (by rw [← rG.1]; exact hgl)
      have hful : fus.length ≤ 300 := by rw [rF.1]; exact Nat.le_trans (List.length_filter_le _ _) R.2
      have eF3 := s3 _ _ eF2
      have tl3 : Tu G3 (upd G3 fl (.lst (fus ++ fys))) := Tu.put eF3
      refine ⟨fl, yl, fus, fys, rfl, rfl, eF3, e3, by omega, ?_⟩
      generalize hG4 : upd G3 fl (.lst (fus ++ fys)) = G4 at tl3
      have eF4 : G4 fl = some (.lst (fus ++ fys)) := by rw [← hG4]; exact upd_same
      have eGl4 : G4 gl = some (.lst gus) := by rw [← hG4, upd_ne hgf]; exact s3 _ _ eGl
      have rG4 : Rows G4 gus GR := (rG.same s3).tu tl3
      have rowsF : Rows G4 (fus ++ fys) (rows.filter (fullB need) ++ GR.filter (fullB need)) := by
       refine Rows.app ?_ ((rY.same s3).tu tl3)
       have : Tu G G' := fun b o e ht => k2 b o (fun z => by rw [z, ng] at e; cases e) e
       exact ((rF.tu this).same s3).tu tl3
      have sH4 : L2.Same H G4 := fun b o e => by
       rw [← hG4, upd_ne (ne_of_none e nfH)]
       exact s3 _ _ (k2 b o (ne_of_none e ngH) (sG _ _ e))
      refine ⟨_, rfl, gl, rfl, .inl ⟨⟨_, SqL.of eGl4⟩, ?_⟩⟩
      refine cmp_list (K := K) (a := gl) (xs := gus) (fun j ys σ G' => G' = G4 ∧ Rows G4 ys ((GR.take j).filter fun r => !fullB need r) ∧
       ∃ x : Option V, σ = [x, some (.ref hp), some (.int need), some (.ref t), some (.int (tt - q.1 * q.2)), some (.ref bl), some (.ref fl), some (.int q.1), some (.int q.2), some (.ref gl), x9])
       ⟨rfl, Rows.nil, none, rfl⟩ (by omega) (fun j ys σ G' _ ⟨e, r, _⟩ => ⟨by rw [e]; exact SqL.of eGl4, by rw [r.1]; exact Nat.le_trans (List.length_filter_le _ _) (by rw [List.length_take]; exact Nat.min_le_left _ _)⟩) ?_ ?_
      · rintro j x ys σ G' N hx ⟨rfl, r, x0, rfl⟩ hN
        obtain ⟨a, zs, hz, rfl, ha⟩ := rG4.2 j x hx
        refine ⟨_, rfl, _, rfl, need, a, zs, rfl, SqT.of ha, _, rfl, ite2 (fun hc => ⟨_, rfl, hN _ _ _ ⟨rfl, ?_, _, rfl⟩⟩) (fun hc => hN _ _ _ ⟨rfl, ?_, _, rfl⟩)⟩
        · rw [List.take_add_one, hz, List.filter_append]
          have : (((some zs).toList : List (List Int)).filter fun r => !fullB need r) = [zs] := by
           show (List.filter (fun r => !fullB need r) [zs]) = [zs]
           rw [List.filter_cons, show (!fullB need zs) = true from hc]; rfl
          rw [this]; exact r.app (Rows.one ha)
        · rw [List.take_add_one, hz, List.filter_append]
          have : (((some zs).toList : List (List Int)).filter fun r => !fullB need r) = [] := by
           show (List.filter (fun r => !fullB need r) [zs]) = []
           rw [List.filter_cons, show (!fullB need zs) = false from Bool.eq_false_iff.mpr hc]; rfl
          rw [this, List.append_nil]; exact r
      rintro bys σ G'' ⟨rfl, rY2, x0, rfl⟩ bl2 G5 n5 s5 e5
      rw [rG4.1, List.take_length] at rY2
      have eF5 := s5 _ _ eF4
      have er : rowsTo need q.1 q.2 tt rows = rows.filter (fullB need) ++ GR := by unfold rowsTo; rw [hNF, hGR]
      have e1' : (rowsTo need q.1 q.2 tt rows).filter (fullB need) = rows.filter (fullB need) ++ GR.filter (fullB need) := by rw [rows_full, hNF, hGR]
      have e2' : ((rowsTo need q.1 q.2 tt rows).filter fun r => !fullB need r) = GR.filter fun r => !fullB need r := by rw [rows_not, hNF, hGR]
      have elen : ((fus ++ fys).length : Int) + (bys.length : Int) = ((rowsTo need q.1 q.2 tt rows).length : Int) := by
       rw [split_len (p := fullB need) (rowsTo need q.1 q.2 tt rows), e1', e2', rowsF.1, rY2.1, Int.natCast_add]
      refine ⟨_, ⟨_, rfl, .inl ⟨fl, _, rfl, .inl (SqL.of eF5), _, rfl, .inl ⟨bl2, _, rfl, .inl (SqL.of e5), .inl ⟨_, _, rfl, rfl, ?_⟩⟩⟩⟩, fun _ _ h => h⟩
      refine ⟨_, _, rfl, rfl, _, rfl, ite2 (fun hc => ?_) (fun hc => ?_)⟩
      · have hc : (300 : Int) < ((fus ++ fys).length : Int) + (bys.length : Int) := of_decide_eq_true hc
        rw [if_pos (by omega)] at hl
        exact hX hl G5 (sH4.trans s5)
      have hc : (rowsTo need q.1 q.2 tt rows).length ≤ 300 := by
       by_cases c : (rowsTo need q.1 q.2 tt rows).length ≤ 300
       · exact c
       · exact absurd (decide_eq_true (show (300 : Int) < ((fus ++ fys).length : Int) + (bys.length : Int) by omega)) hc
      rw [if_neg (by omega)] at hl
      have hb2 : bl2 ≠ fl := fun z => by rw [z, eF4] at n5; cases n5
      have htl : tt - q.1 * q.2 = tl := by omega
      refine ⟨sH4.trans s5, rowsTo need q.1 q.2 tt rows, bl2, _, _, ?_, rows_ok R hG hnl hc, eF5, by rw [e1']; exact rowsF.same s5, e5, by rw [e2']; exact rY2.same s5, hb2, some (.int q.1), some (.int q.2), some (.ref gl), x9, ?_⟩
      · rw [hl, htl]
      · rw [htl]; rfl
    · rintro σ G ⟨sG, rows, bl, fus, bus, hl, R, eF, rF, eB, rB, hbf, x6, x7, x8, x9, rfl⟩
      have hdn : qs.reverse.drop us.length = [] := List.drop_eq_nil_of_le (by rw [List.length_reverse]; omega)
      rw [hdn] at hl
      have hl : leansQ need qs = some (rows.filter (fullB need)) := hl
      obtain ⟨as, rfl⟩ := rows_refs rF
      have hne : ∀ w ∈ rows.filter (fullB need), w ≠ [] := fun w hw z => by
       have h2 := (List.mem_filter.mp hw).2
       rw [z] at h2
       have := of_decide_eq_true h2
       simp at this; omega
      have hlen := rF.1
      rw [List.length_map] at hlen
      refine ⟨_, rfl, fl, as, _, rfl, .inl (SqL.of eF), hlen, fun i a hi => ?_, fun _ => hne, fun l bs ws G1 nl s1 e1 hp hbl hpw => ?_⟩
      · obtain ⟨a', zs, h1, h2, h3⟩ := rF.2 i (.ref a) (by rw [List.getElem?_map, hi]; rfl)
        cases h2
        exact ⟨zs, h1, h3⟩
      have hlH : H l = none := by
       cases z : H l with
       | none => rfl
       | some o => have := sG _ _ z; rw [nl] at this; cases this
      refine h _ hl l G1 hlH (sG.trans s1) ⟨bs, ws, e1, ?_, ?_, hpw⟩
      · exact rows_zip (rF.same s1) hlen hbl hp
      · have := hp.map Prod.snd
        rw [List.map_snd_zip (by omega), List.map_snd_zip (by omega)] at this
        exact this
end
def topS (qs : List (Int × Int)) : Int := ((qs.getLast?).map (·.1)).getD 0
def Up (r : List Int) : Prop := r.Pairwise (· ≤ ·)
theorem up_add {s : Int} {zs : List Int} {n : Nat} (h : Up zs) (hz : ∀ z ∈ zs, s ≤ z) : Up (addN s zs n) := by
 unfold addN Up
 rw [List.pairwise_append]
 refine ⟨?_, h, fun a ha b hb => by rw [(List.mem_replicate.mp ha).2]; exact hz b hb⟩
 rw [List.pairwise_replicate]
 exact .inr (Int.le_refl _)
theorem leans_inv {S : Int → Prop} {need : Int} : ∀ (ks : List (Int × Int)) (more : Int) (rows rs : List (List Int)), ks.Pairwise (fun a b => b.1 < a.1) → (∀ q ∈ ks, S q.1) → (∀ r ∈ rows, Up r ∧ ∀ z ∈ r, S z ∧ ∀ q ∈ ks, q.1 ≤ z) → leansOf need ks more rows = some rs → ∀ r ∈ rs, need ≤ r.sum ∧ Up r ∧ ∀ z ∈ r, S z
 | [], more, rows, rs, _, _, hr, h => by
  intro r hm
  have h : some (rows.filter (fullB need)) = some rs := h
  cases h
  obtain ⟨a, b⟩ := List.mem_filter.mp hm
  exact ⟨of_decide_eq_true b, (hr r a).1, fun z hz => ((hr r a).2 z hz).1⟩
 | q :: ks, more, rows, rs, hk, hS, hr, h => by
  rw [leans_step] at h
  split at h
  · cases h
  split at h
  · cases h
  rw [List.pairwise_cons] at hk
  refine leans_inv ks _ _ _ hk.2 (fun x hx => hS x (.tail _ hx)) (fun r hm => ?_) h
  unfold rowsTo at hm
  rcases List.mem_append.mp hm with hm | hm
  · have := hr r (List.mem_filter.mp hm).1
    exact ⟨this.1, fun z hz => ⟨(this.2 z hz).1, fun x hx => (this.2 z hz).2 x (.tail _ hx)⟩⟩
  · obtain ⟨y, hy, hg⟩ := List.mem_flatMap.mp hm
    have hy := hr y (List.mem_filter.mp hy).1
    unfold growP at hg
    obtain ⟨i, _, rfl⟩ := List.mem_map.mp hg
    refine ⟨up_add hy.1 fun z hz => (hy.2 z hz).2 q (.head _), fun z hz => ?_⟩
    unfold addN at hz
    rcases List.mem_append.mp hz with hz | hz
    · rw [(List.mem_replicate.mp hz).2]
      exact ⟨hS q (.head _), fun x hx => by have := hk.1 x hx; omega⟩
    · exact ⟨(hy.2 z hz).1, fun x hx => (hy.2 z hz).2 x (.tail _ hx)⟩
theorem leansQ_inv {need : Int} {qs : List (Int × Int)} {rs : List (List Int)} (hq : Ris qs) (h : leansQ need qs = some rs) : ∀ r ∈ rs, need ≤ r.sum ∧ Up r ∧ ∀ z ∈ r, z ∈ qs.map (·.1) := by
 refine leans_inv (S := fun z => z ∈ qs.map (·.1)) qs.reverse _ _ _ ?_ (fun q hm => List.mem_map.mpr ⟨q, List.mem_reverse.mp hm, rfl⟩) (fun r hr => ?_) h
 · rw [List.pairwise_reverse]; exact hq
 · rw [List.mem_singleton.mp hr]; exact ⟨List.Pairwise.nil, fun z hz => by cases hz⟩
theorem leansQ_ne {need : Int} {qs : List (Int × Int)} {rs : List (List Int)} (hn : 1 ≤ need) (h : leansQ need qs = some rs) {r : List Int} (hr : r ∈ rs) : qs ≠ [] := fun z => by
 subst z
 have h : some (([[]] : List (List Int)).filter (fullB need)) = some rs := h
 cases h
 obtain ⟨a, b⟩ := List.mem_filter.mp hr
 rw [List.mem_singleton.mp a] at b
 have := of_decide_eq_true b
 simp at this; omega
theorem leans_len {need : Int} : ∀ (ks : List (Int × Int)) (more : Int) (rows rs : List (List Int)), rows.length ≤ 300 → leansOf need ks more rows = some rs → rs.length ≤ 300
 | [], more, rows, rs, hl, h => by
  have h : some (rows.filter (fullB need)) = some rs := h
  cases h
  exact Nat.le_trans (List.length_filter_le _ _) hl
 | q :: ks, more, rows, rs, hl, h => by
  rw [leans_step] at h
  split at h
  · cases h
  split at h
  · cases h
  · exact leans_len ks _ _ _ (by omega) h
theorem leansQ_len {need : Int} {qs : List (Int × Int)} {rs : List (List Int)} (h : leansQ need qs = some rs) : rs.length ≤ 300 := leans_len _ _ _ _ (by decide) h
theorem top_last {qs : List (Int × Int)} (hq : Ris qs) {r : List Int} (hu : Up r) (hm : ∀ z ∈ r, z ∈ qs.map (·.1)) (hr : r ≠ []) : (topS qs ∈ r) ↔ r.getLast hr = topS qs := by
 constructor
 · intro h
   have ht : ∀ z ∈ qs.map (·.1), z ≤ topS qs := fun z hz => by
    obtain ⟨q, hqm, rfl⟩ := List.mem_map.mp hz
    have hne : qs ≠ [] := fun z => by rw [z] at hqm; cases hqm
    unfold topS
    rw [List.getLast?_eq_some_getLast hne]
    show q.1 ≤ (qs.getLast hne).1
    rw [← List.dropLast_concat_getLast hne] at hqm
    rcases List.mem_append.mp hqm with hx | hx
    · have hq' : Ris (qs.dropLast ++ [qs.getLast hne]) := by rw [List.dropLast_concat_getLast hne]; exact hq
      have := (List.pairwise_append.mp hq').2.2 q hx (qs.getLast hne) (.head _)
      exact Int.le_of_lt this
    · rw [List.mem_singleton.mp hx]; exact Int.le_refl _
   have h1 := ht _ (hm _ (List.getLast_mem hr))
   have h2 : topS qs ≤ r.getLast hr := by
    have hu' : Up (r.dropLast ++ [r.getLast hr]) := by rw [List.dropLast_concat_getLast hr]; exact hu
    rw [← List.dropLast_concat_getLast hr] at h
    rcases List.mem_append.mp h with hx | hx
    · exact (List.pairwise_append.mp hu').2.2 _ hx _ (.head _)
    · rw [List.mem_singleton.mp hx]; exact Int.le_refl _
   omega
 · intro h; rw [← h]; exact List.getLast_mem hr
section
variable {P : Program} {w : World} {K : PySem.W.Frag} {mg : Str → Option Value} {base : Heap}
abbrev sGreat : Stmt := top 25
theorem scGreat : FnScope ["heap"] ["heap"] (defScope sGreat) := ⟨rfl, rfl, rfl, by decide +kernel, rfl, by decide +kernel, by decide +kernel⟩
def GTold (H : Hp) (l : Addr) (qs : List (Int × Int)) (rs : List (List Int)) : Prop := ∃ (bs : List Addr) (us all : List (List Int)), H l = some (.lst (bs.map V.ref)) ∧ Rows H (bs.map V.ref) us ∧ all.Perm rs ∧ all.Pairwise (fun u v => HT.lexLt v u = false) ∧ us = all.filter (fun u => decide (topS qs ∈ u))
def spGreat (C : Addr) : Sp := fun vs H Q E => ∃ (h : Addr) (need : Int) (qs : List (Int × Int)), vs = [.ref h] ∧ HeapAt H h need qs ∧ (leansQ need qs = none → ∀ H', L2.Same H H' → E (.ref C) none H') ∧
 (∀ rs, leansQ need qs = some rs → ∀ (l : Addr) (H' : Hp), H l = none → L2.Same H H' → GTold H' l qs rs → Q (.ref l) H')
theorem ok_great {f : Addr} {fd : FuncData} {C : Addr} (F : Fun K "greatest_lots" "greatest_lots" sGreat f fd) (cL : Callee (CXF P w) P w K mg base "lean_lots" 3 ["heap"] (spLean K C)) : FnOk P w K mg base (CXF P w) 4 f fd ["heap"] (spGreat C) := by
 refine Br.Fun.jX F scGreat (fun vs H Q E h => ?_) (fun cdv A outer s H vs Q E hr h => ?_)
 · obtain ⟨_, _, _, rfl, _⟩ := h; rfl
 · obtain ⟨hp, need, qs, rfl, hh, hX, h⟩ := h
   have nd := scGreat.nd
   have hsz : (sizeLine : Nat) = 16777216 := sizeLine_eq
   refine' ⟨_, ?d, ?r⟩
   case d => wtm_at "body"
   case r =>
    obtain ⟨t, ob, us, h1, hb, h2, h3, h4⟩ := id hh
    refine ⟨_, rfl, hp, need, qs, rfl, hh.w, hX, fun rs hrs l0 H1 n1 s1 tl => ?_⟩
    obtain ⟨bs, ws, e1, r1, p1, w1⟩ := tl
    have sq : SqT K H1 t us := .inl (.inr ⟨_, s1 _ _ h2⟩)
    have hwl : ws.length ≤ 300 := by rw [p1.length_eq]; exact leansQ_len hrs
    refine ⟨l0, rfl, .inl ⟨⟨_, SqL.of e1⟩, ?_⟩⟩
    refine cmp_list (K := K) (a := l0) (xs := bs.map V.ref) (fun j ys σ G => G = H1 ∧ Rows H1 ys ((ws.take j).filter fun u => decide (topS qs ∈ u)) ∧ ∃ x : Option V, σ = [x, some (.ref hp)])
     ⟨rfl, Rows.nil, none, rfl⟩ (by rw [r1.1]; omega) (fun j ys σ G _ ⟨e, r, _⟩ => ⟨by rw [e]; exact SqL.of e1, by rw [r.1]; exact Nat.le_trans (List.length_filter_le _ _) (by rw [List.length_take]; exact Nat.min_le_left _ _)⟩) ?_ ?_
    · rintro j x ys σ G N hx ⟨rfl, r, x0, rfl⟩ hN
      obtain ⟨a, zs, hz, rfl, ha⟩ := r1.2 j x hx
      have hzm : zs ∈ rs := p1.mem_iff.mp (List.mem_of_getElem? hz)
      obtain ⟨i1, i2, i3⟩ := leansQ_inv h4.ris hrs zs hzm
      have hne : zs ≠ [] := fun z => by rw [z] at i1; have := h4.n0; simp at i1; omega
      have hqn := leansQ_ne h4.n0 hrs hzm
      have hat : atI (zs.map V.int) (-1) = some (V.int (zs.getLast hne)) := by
       have e : zs.map V.int = zs.dropLast.map V.int ++ [V.int (zs.getLast hne)] := by
        have := congrArg (List.map V.int) (List.dropLast_concat_getLast hne)
        rw [List.map_append] at this; exact this.symm
       rw [e, atI_last]
      have hun : us ≠ [] := fun z => hqn (List.eq_nil_of_length_eq_zero (by rw [← h3.1, z]; rfl))
      have hlast : us[us.length - 1]? = some (us.getLast hun) := by rw [← List.getLast?_eq_getElem?, List.getLast?_eq_some_getLast hun]
      obtain ⟨q, hq, rr, hv, hrr⟩ := h3.2 _ _ hlast
      have hqt : q.1 = topS qs := by
       unfold topS
       rw [List.getLast?_eq_getElem?, ← h3.1, hq]; rfl
      have hau : atI us (-1) = some (V.ref rr) := by
       have e : us = us.dropLast ++ [V.ref rr] := by rw [← hv]; exact (List.dropLast_concat_getLast hun).symm
       rw [e, atI_last]
      have eb : decide (zs.getLast hne = topS qs) = decide (topS qs ∈ zs) := decide_eq_decide.mpr (top_last h4.ris i2 i3 hne).symm
      refine ⟨_, rfl, 1, rfl, .inr (.inl ⟨a, _, _, _, rfl, rfl, SqT.of ha, hat, ?_⟩)⟩
      refine ⟨_, rfl, .inr (.inl ⟨hp, _, 1, _, rfl, rfl, SqT.of (s1 _ _ h1), (show atI [V.int need, V.ref t] 1 = some (.ref t) from rfl), 1, rfl, .inr (.inl ⟨t, us, _, _, rfl, rfl, sq, hau, ?_⟩)⟩)⟩
      refine .inr (.inl ⟨rr, _, 0, _, rfl, rfl, SqT.of (s1 _ _ hrr), rfl, ?_⟩)
      have eb2 : decide (V.int (zs.getLast hne) = V.int q.1) = decide (topS qs ∈ zs) := by
       rw [hqt, ← eb]
       exact decide_eq_decide.mpr ⟨fun z => V.int.inj z, fun z => by rw [z]⟩
      refine ⟨rfl, _, rfl, ?_⟩
      rw [eb2]
      refine ite2 (fun hc => ⟨_, rfl, hN _ _ _ ⟨rfl, ?_, _, rfl⟩⟩) (fun hc => hN _ _ _ ⟨rfl, ?_, _, rfl⟩)
      · rw [List.take_add_one, hz, List.filter_append]
        have : (((some zs).toList : List (List Int)).filter fun u => decide (topS qs ∈ u)) = [zs] := by
         show (List.filter (fun u => decide (topS qs ∈ u)) [zs]) = [zs]
         rw [List.filter_cons, hc]; rfl
        rw [this]; exact r.app (Rows.one ha)
      · rw [List.take_add_one, hz, List.filter_append]
        have : (((some zs).toList : List (List Int)).filter fun u => decide (topS qs ∈ u)) = [] := by
         show (List.filter (fun u => decide (topS qs ∈ u)) [zs]) = []
         rw [List.filter_cons, Bool.eq_false_iff.mpr hc]; rfl
        rw [this, List.append_nil]; exact r
    rintro ys σ G ⟨rfl, r, x0, rfl⟩ l G2 nl s2 e2
    rw [r1.1, List.take_length] at r
    obtain ⟨as, rfl⟩ := rows_refs r
    have hlH : H l = none := by
     cases z : H l with
     | none => rfl
     | some o => have := s1 _ _ z; rw [nl] at this; cases this
    exact h rs hrs l G2 hlH (s1.trans s2) ⟨as, _, ws, e2, r.same s2, p1, w1, rfl⟩
end
theorem cnt_take {zs : List Int} {i : Nat} {z : Int} (h : zs[i]? = some z) (n : Int) : (zs.take (i + 1)).count n = (zs.take i).count n + (if z = n then 1 else 0) := by
 rw [List.take_add_one, h]
 show (zs.take i ++ [z]).count n = _
 rw [List.count_append]
 by_cases e : z = n
 · rw [if_pos e, e]; simp
 · rw [if_neg e, List.count_cons_of_ne e, List.count_nil]
def CntIs (ks : List (Int × Int)) (zs : List Int) : Prop := ∀ n, dlook ks n = if zs.count n = 0 then none else some ((zs.count n : Nat) : Int)
theorem CntIs.step {ks : List (Int × Int)} {zs : List Int} {i : Nat} {z : Int} (h : CntIs ks (zs.take i)) (e : zs[i]? = some z) : CntIs (dput ks z ((dlook ks z).getD 0 + 1)) (zs.take (i + 1)) := fun n => by
 rw [dput_look, cnt_take e n]
 by_cases hz : z = n
 · subst hz
   rw [if_pos rfl, if_pos rfl, if_neg (by omega), h z]
   by_cases h0 : (zs.take i).count z = 0
   · rw [if_pos h0, h0]; rfl
   · rw [if_neg h0]; show some (((zs.take i).count z : Nat) + 1 : Int) = _; congr 1
 · rw [if_neg hz, if_neg hz, h n]; rfl
theorem merge_vv2 (nd : (qs.map (·.1)).Nodup) : mergeK [] (vv2 qs) = vv2 qs := by
 have gen : ∀ (rs ks : List _), ((ks ++ rs).map (·.1)).Nodup → mergeK (vv2 ks) (vv2 rs) = vv2 (ks ++ rs) := fun rs => by
  induction rs with
  | nil => intro ks _; rw [List.append_nil]; rfl
  | cons r rs ih =>
   intro ks h
   have e : mergeK (vv2 ks) (vv2 (r :: rs)) = mergeK (putK (vv2 ks) (.inl r.1) (.int r.2)) (vv2 rs) := rfl
   have hr := fun z => by
    rw [List.map_append, List.nodup_append] at h
    exact h.2.2 _ z r.1 (.head _) rfl
   rw [e, put_vv2, show dput ks r.1 r.2 = ks ++ [r] by unfold dput; rw [if_neg hr], ih _ (by simp_all), List.append_assoc]; rfl
 exact gen qs [] nd
section
local macro_rules | `(tactic| wtm_at "pe") => `(tactic| first | (apply j_dget2; (assumption); (rfl); (rfl); (rfl); (rfl); (wtm_at "pe"); (wtm_at "pe"); (wtm_at "pe")) | (apply j_dget; (assumption); (exact fun _ _ => rfl); (wtm_at "pe"); (wtm_at "pe")))
local macro_rules | `(tactic| wtm_at "ps") => `(tactic| (apply s_dput; (assumption); (rfl); (wtm_at "pe"); (wtm_at "pe"); (wtm_at "pe")))
variable {P : Program} {w : World} {K : PySem.W.Frag} {mg : Str → Option Value} {base : Heap}
abbrev sCo : Stmt := top 10
theorem scCo : FnScope ["sizes", "counts", "size"] ["sizes"] (defScope sCo) := ⟨rfl, rfl, rfl, by decide +kernel, rfl, by decide +kernel, by decide +kernel⟩
def spCo (K : PySem.W.Frag) : Sp := fun vs H Q _ => ∃ (a : Addr) (zs : List Int), vs = [.ref a] ∧ (SqT K H a (zs.map V.int) ∨ H a = some (.lst (zs.map V.int))) ∧ zs.length ≤ 200 ∧
 ∀ (d : Addr) (ks : List (Int × Int)) (H' : Hp), H d = none → L2.Same H H' → H' d = some (.dK (vv2 ks)) → (ks.map (·.1)).Nodup → CntIs ks zs → ks.length ≤ 200 → Q (.ref d) H'
theorem ok_co {f : Addr} {fd : FuncData} (F : Fun K "counts_of" "counts_of" sCo f fd) : FnOk P w K mg base CX0 1 f fd ["sizes"] (spCo K) := by
 refine Br.Fun.j F scCo (fun vs H Q E h => ?_) (fun cdv A outer s H vs Q E hr h => ?_)
 · obtain ⟨_, _, rfl, _⟩ := h; rfl
 · obtain ⟨a, zs, rfl, ha, hzl, h⟩ := h
   have nd := scCo.nd
   have hsz : (sizeLine : Nat) = 16777216 := sizeLine_eq
   refine' ⟨_, ?d, ?r⟩
   case d => wtm_at "body"
   case r =>
    refine fun d H1 hd s1 e1 => ?_
    rcases ha with ha | ha
    · refine ⟨_, rfl, a, rfl, .inr ⟨⟨_, seqT s1 ha⟩, ?_⟩⟩
      refine for_tup (K := K) (a := a) (xs := zs.map V.int) (fun i σ G => L2.Same H G ∧ ∃ (ks : List (Int × Int)) (x2 : Option V), G d = some (.dK (vv2 ks)) ∧ (ks.map (·.1)).Nodup ∧ CntIs ks (zs.take i) ∧ ks.length ≤ i ∧ σ = [some (.ref a), some (.ref d), x2])
       ⟨s1, [], none, e1, List.nodup_nil, fun n => rfl, Nat.le_refl _, rfl⟩ (fun i σ G _ ⟨sG, _⟩ => seqT sG ha) ?_ ?_
      · rintro i x σ G hx ⟨sG, ks, x2, eG, hnd, hc, hkl, rfl⟩
        rw [List.getElem?_map] at hx
        obtain ⟨z, hz, rfl⟩ := Option.map_eq_some_iff.mp hx
        have hil : i < zs.length := (List.getElem?_eq_some_iff.mp hz).1
        have dg := DGet.k (k := .inl z) eG
        rw [val_vv2] at dg
        have hlen : (vv2 ks).length = ks.length := by unfold vv2; rw [List.length_map]
        have gd : ((dlook ks z).map V.int).getD (.int 0) = .int ((dlook ks z).getD 0) := by cases dlook ks z <;> rfl
        refine ⟨_, rfl, d, rfl, .inl ⟨_, .inl eG⟩, _, rfl, _, dg, ?_⟩
        rw [gd]
        refine .inl ⟨_, _, rfl, rfl, ?_⟩
        refine ⟨_, rfl, _, rfl, d, _, rfl, DPut.k (k := .inl z) eG (by rw [hlen]; omega), fun b o e => ?_, dput ks z ((dlook ks z).getD 0 + 1), _, by rw [upd_same, put_vv2], dput_nodup _ _ hnd, hc.step hz, ?_, rfl⟩
        · rw [upd_ne (ne_of_none e hd)]; exact sG _ _ e
        · have := dput_len ks z ((dlook ks z).getD 0 + 1); omega
      · rintro σ G ⟨sG, ks, x2, eG, hnd, hc, hkl, rfl⟩
        rw [List.length_map, List.take_length] at hc
        exact ⟨_, rfl, h d ks G hd sG eG hnd hc (by rw [List.length_map] at hkl; omega)⟩
    · refine ⟨_, rfl, a, rfl, .inl ⟨⟨_, SqL.of (s1 _ _ ha)⟩, ?_⟩⟩
      refine for_list (K := K) (a := a) (xs := zs.map V.int) (fun i σ G => L2.Same H G ∧ ∃ (ks : List (Int × Int)) (x2 : Option V), G d = some (.dK (vv2 ks)) ∧ (ks.map (·.1)).Nodup ∧ CntIs ks (zs.take i) ∧ ks.length ≤ i ∧ σ = [some (.ref a), some (.ref d), x2])
       ⟨s1, [], none, e1, List.nodup_nil, fun n => rfl, Nat.le_refl _, rfl⟩ (fun i σ G _ ⟨sG, _⟩ => SqL.of (sG _ _ ha)) ?_ ?_
      · rintro i x σ G hx ⟨sG, ks, x2, eG, hnd, hc, hkl, rfl⟩
        rw [List.getElem?_map] at hx
        obtain ⟨z, hz, rfl⟩ := Option.map_eq_some_iff.mp hx
        have hil : i < zs.length := (List.getElem?_eq_some_iff.mp hz).1
        have dg := DGet.k (k := .inl z) eG
        rw [val_vv2] at dg
        have hlen : (vv2 ks).length = ks.length := by unfold vv2; rw [List.length_map]
        have gd : ((dlook ks z).map V.int).getD (.int 0) = .int ((dlook ks z).getD 0) := by cases dlook ks z <;> rfl
        refine ⟨_, rfl, d, rfl, .inl ⟨_, .inl eG⟩, _, rfl, _, dg, ?_⟩
        rw [gd]
        refine .inl ⟨_, _, rfl, rfl, ?_⟩
        refine ⟨_, rfl, _, rfl, d, _, rfl, DPut.k (k := .inl z) eG (by rw [hlen]; omega), fun b o e => ?_, dput ks z ((dlook ks z).getD 0 + 1), _, by rw [upd_same, put_vv2], dput_nodup _ _ hnd, hc.step hz, ?_, rfl⟩
        · rw [upd_ne (ne_of_none e hd)]; exact sG _ _ e
        · have := dput_len ks z ((dlook ks z).getD 0 + 1); omega
      · rintro σ G ⟨sG, ks, x2, eG, hnd, hc, hkl, rfl⟩
        rw [List.length_map, List.take_length] at hc
        exact ⟨_, rfl, h d ks G hd sG eG hnd hc (by rw [List.length_map] at hkl; omega)⟩
end
def lessBy (qs ks : List (Int × Int)) : List (Int × Int) := (qs.map fun q => (q.1, q.2 - (dlook ks q.1).getD 0)).filter fun q => decide (0 < q.2)
section
local macro_rules | `(tactic| wtm_at "pe") => `(tactic| first | (apply j_dictP; (rfl); (rfl); (rfl); (with_reducible rfl); (rfl); (assumption); (wtm_at "pa")) | (apply j_dget2; (assumption); (rfl); (rfl); (rfl); (rfl); (wtm_at "pe"); (wtm_at "pe"); (wtm_at "pe")))
local macro_rules | `(tactic| wtm_at "pi") => `(tactic| (apply k_items; (rfl); (rfl); (rfl); (rfl); (wtm_at "pe")))
variable {P : Program} {w : World} {K : PySem.W.Frag} {mg : Str → Option Value} {base : Heap}
abbrev sHas : Stmt := top 12
theorem scHas : FnScope ["heap", "counts", "owned"] ["heap", "counts"] (defScope sHas) := ⟨rfl, rfl, rfl, by decide +kernel, rfl, by decide +kernel, by decide +kernel⟩
def spHas : Sp := fun vs H Q _ => ∃ (h d : Addr) (need : Int) (qs ks : List (Int × Int)), vs = [.ref h, .ref d] ∧ HeapAt H h need qs ∧ H d = some (.dK (vv2 ks)) ∧ ks.length ≤ 200 ∧ (∀ q ∈ ks, q.2 ≤ (dlook qs q.1).getD 0) ∧
 ∀ (ob : Obj) (H' : Hp), (∀ b o, b ≠ d → H b = some o → H' b = some o) → H' d = some (.frz ob (.dK (vv2 ks))) → Q (.bl true) H'
theorem ok_has {f : Addr} {fd : FuncData} (F : Fun K "has_counts" "has_counts" sHas f fd) (mA : mg "all" = none) (mD : mg "dict" = none) : FnOk P w K mg base CX0 1 f fd ["heap", "counts"] spHas := by
 refine Br.Fun.j F scHas (fun vs H Q E h => ?_) (fun cdv A outer s H vs Q E hr h => ?_)
 · obtain ⟨_, _, _, _, _, rfl, _⟩ := h; rfl
 · obtain ⟨hp, d, need, qs, ks, rfl, ⟨t, ob, us, h1, hb, h2, h3, h4⟩, hd, hkl, hle, h⟩ := h
   have nd := scHas.nd
   have hsz : (sizeLine : Nat) = 16777216 := sizeLine_eq
   obtain ⟨as, rfl, hasl, hat⟩ := kinds_refs h3
   have hql := h4.len
   refine' ⟨_, ?d, ?r⟩
   case d => wtm_at "body"
   case r =>
    refine ⟨_, rfl, .inr (.inl ⟨hp, _, 1, _, rfl, rfl, SqT.of h1, (show atI [V.int need, V.ref t] 1 = some (.ref t) from rfl), ?_⟩)⟩
    refine ⟨t, vv2 qs, rfl, ⟨ob, as, hb, h2, by unfold vv2; rw [List.length_map]; exact hasl, by unfold vv2; rw [List.length_map]; omega, fun i a kv e1 e2 => ?_⟩, fun p H1 hpn s1 e1 => ?_⟩
    · unfold vv2 at e2
      rw [List.getElem?_map] at e2
      obtain ⟨q, hq, rfl⟩ := Option.map_eq_some_iff.mp e2
      exact .inl (hat i a q e1 hq)
    rw [merge_vv2 h4.ris.nodup] at e1
    have hd1 := s1 _ _ hd
    refine ⟨_, rfl, d, _, rfl, hd1, fun ob2 H2 e2 => ?_⟩
    have hpd : p ≠ d := fun z => by rw [z, hd] at hpn; cases hpn
    have hvl : (vv2 ks).length = ks.length := by unfold vv2; rw [List.length_map]
    refine cmp_items (a := d) (ob := ob2) (kvs := vv2 ks) (by omega) (fun i ys σ H3 => L2.Same H2 H3 ∧ ys = (List.replicate i true).map V.bl ∧ ∃ x y : Option V, σ = [x, y, some (.ref hp), some (.ref d), some (.ref p)])
     ⟨L2.Same.refl _, rfl, none, none, rfl⟩ (fun i ys σ H3 _ ⟨sh, e3, _⟩ => ⟨sh _ _ (by rw [e2]; exact upd_same), by rw [e3, List.length_map, List.length_replicate]; exact Nat.le_refl _⟩) ?_ ?_
    · rintro i kv ys σ H3 T N hkv ⟨sh, rfl, x0, y0, rfl⟩ hT hN
      unfold vv2 at hkv
      rw [List.getElem?_map] at hkv
      obtain ⟨q, hq, rfl⟩ := Option.map_eq_some_iff.mp hkv
      have hcv := hle q (List.mem_of_getElem? hq)
      have sT : L2.Same H3 (upd H3 T (.tup [kV (.inl q.1), .int q.2])) := Br.Same.upd hT
      have ep : upd H3 T (.tup [kV (.inl q.1), .int q.2]) p = some (.dK (vv2 qs)) := sT _ _ (sh _ _ (by rw [e2, upd_ne hpd]; exact e1))
      have dg := DGet.k (k := .inl q.1) ep
      rw [val_vv2] at dg
      have gd : ((dlook qs q.1).map V.int).getD (.int 0) = .int ((dlook qs q.1).getD 0) := by cases dlook qs q.1 <;> rfl
      refine ⟨T, _, rfl, SqT.of upd_same, rfl, _, _, rfl, _, _, rfl, rfl, ?_⟩
      refine ⟨_, rfl, _, rfl, p, rfl, .inl ⟨_, .inl ep⟩, _, rfl, _, dg, ?_⟩
      rw [gd]
      refine ⟨_, _, rfl, rfl, hN _ _ _ ⟨sh.trans sT, ?_, _, _, rfl⟩⟩
      show List.map V.bl (List.replicate i true) ++ [V.bl (decide (q.2 ≤ (dlook qs q.1).getD 0))] = _
      rw [decide_eq_true hcv, List.replicate_succ', List.map_append]; rfl
    · rintro ys σ H3 ⟨sh, rfl, x0, y0, rfl⟩ pc H4 hpc s4 e4
      refine ⟨pc, _, rfl, SqL.of e4, ?_⟩
      show Q (V.bl ((List.replicate (vv2 ks).length true).all id)) H4
      rw [show (List.replicate (vv2 ks).length true).all id = true by rw [List.all_eq_true]; intro x hx; exact List.eq_of_mem_replicate hx]
      refine h ob2 H4 (fun b o hb e => s4 _ _ (sh _ _ ?_)) (s4 _ _ (sh _ _ (by rw [e2]; exact upd_same)))
      rw [e2, upd_ne hb]; exact s1 _ _ e
end
theorem less_ris {qs ks : List (Int × Int)} (h : Ris qs) : Ris (lessBy qs ks) := by
 unfold lessBy Ris
 refine List.Pairwise.filter _ ?_
 rw [List.pairwise_map]
 exact h.imp fun z => z
theorem less_ok {need : Int} {qs ks : List (Int × Int)} (h : HOk8 need qs) (hk : ∀ q ∈ ks, 0 ≤ q.2) : HOk8 need (lessBy qs ks) := by
 refine ⟨?_, h.n0, h.n1, fun q hq => ?_, less_ris h.ris⟩
 · unfold lessBy
   refine Nat.le_trans (List.length_filter_le _ _) ?_
   rw [List.length_map]; exact h.len
 · unfold lessBy at hq
   obtain ⟨h1, h2⟩ := List.mem_filter.mp hq
   obtain ⟨r, hr, rfl⟩ := List.mem_map.mp h1
   obtain ⟨b1, b2, b3, b4⟩ := h.bd r hr
   have h2 := of_decide_eq_true h2
   refine ⟨b1, b2, by omega, ?_⟩
   have : 0 ≤ (dlook ks r.1).getD 0 := by
    cases e : dlook ks r.1 with
    | none => exact Int.le_refl _
    | some c => exact hk _ (dlook_some e)
   show r.2 - (dlook ks r.1).getD 0 ≤ _
   omega
section
local macro_rules | `(tactic| wtm_at "ps") => `(tactic| (apply s_if; (wtm_at "pt"); (apply ss_cons; (apply s_dead); (apply ss_nil)); (wtm_at "pss")))
local macro_rules | `(tactic| wtm_at "pe") => `(tactic| (apply j_dget2; (assumption); (rfl); (rfl); (rfl); (rfl); (wtm_at "pe"); (wtm_at "pe"); (wtm_at "pe")))
local macro_rules | `(tactic| wtm_at "call") => `(tactic| (apply k_tupleF; (rfl); (rfl); (rfl); (wtm_at "K"); (with_reducible rfl); (assumption); (wtm_at "pa")))
variable {P : Program} {w : World} {K : PySem.W.Frag} {mg : Str → Option Value} {base : Heap}
abbrev sLess : Stmt := top 13
theorem scLess : FnScope ["heap", "counts", "need", "kinds", "left"] ["heap", "counts"] (defScope sLess) := ⟨rfl, rfl, rfl, by decide +kernel, rfl, by decide +kernel, by decide +kernel⟩
def spLess : Sp := fun vs H Q _ => ∃ (h d : Addr) (need : Int) (qs ks : List (Int × Int)), vs = [.ref h, .ref d] ∧ HeapAt H h need qs ∧ H d = some (.dK (vv2 ks)) ∧ ks.length ≤ 200 ∧ (∀ q ∈ ks, 0 ≤ q.2 ∧ q.2 ≤ (dlook qs q.1).getD 0) ∧
 ∀ (h' : Addr) (H' : Hp), (∀ b o, b ≠ d → H b = some o → H' b = some o) → HeapAt H' h' need (lessBy qs ks) → Q (.ref h') H'
theorem ok_less {f : Addr} {fd : FuncData} (F : Fun K "heap_less" "heap_less" sLess f fd) (cH : Callee CX0 P w K mg base "has_counts" 1 ["heap", "counts"] spHas) (mT : mg "tuple" = none) : FnOk P w K mg base CX0 2 f fd ["heap", "counts"] spLess := by
 refine Br.Fun.j F scLess (fun vs H Q E h => ?_) (fun cdv A outer s H vs Q E hr h => ?_)
 · obtain ⟨_, _, _, _, _, rfl, _⟩ := h; rfl
 · obtain ⟨hp, d, need, qs, ks, rfl, hh, hd, hkl, hle, h⟩ := h
   have nd := scLess.nd
   have hsz : (sizeLine : Nat) = 16777216 := sizeLine_eq
   refine' ⟨_, ?d, ?r⟩
   case d => wtm_at "body"
   case r =>
    obtain ⟨t, ob, us, h1, hb, h2, h3, h4⟩ := id hh
    have hpd : hp ≠ d := fun z => by rw [z, hd] at h1; cases h1
    have htd : t ≠ d := fun z => by rw [z, hd] at h2; cases h2
    refine ⟨fun σ' H' => (∀ b o, b ≠ d → H b = some o → H' b = some o) ∧ (∃ ob, H' d = some (.frz ob (.dK (vv2 ks)))) ∧ σ' = [some (.ref hp), some (.ref d), none, none, none], ?_, ?_⟩
    · exact ⟨_, rfl, _, rfl, hp, d, need, qs, ks, rfl, hh, hd, hkl, fun q hq => (hle q hq).2, fun ob2 H1 k1 e1 => ⟨_, rfl, iteF ⟨k1, ⟨ob2, e1⟩, rfl⟩⟩⟩
    · rintro σ' H1 ⟨k1, ⟨ob2, e1⟩, rfl⟩
      have h1' := k1 _ _ hpd h1
      have h2' := k1 _ _ htd h2
      have h3' : Kinds H1 us qs := h3.mo fun b o e it => k1 b o (fun z => by rw [z, hd] at e; cases e; rcases it with ⟨_, z⟩ | ⟨_, _, z⟩ <;> cases z) e
      have sq : ∀ {G : Hp}, L2.Same H1 G → SqT K G t us := fun s => .inl (.inr ⟨_, s _ _ h2'⟩)
      have hul := h3'.1
      have hql := h4.len
      refine ⟨_, rfl, hp, _, rfl, SqT.of h1', rfl, _, _, rfl, _, _, rfl, rfl, ?_⟩
      refine ⟨_, rfl, t, rfl, .inr ⟨⟨_, sq (L2.Same.refl _)⟩, ?_⟩⟩
      refine cmp_tup (K := K) (a := t) (xs := us) (fun j ys σ G => L2.Same H1 G ∧ ys.length = j ∧ Kinds G ys ((qs.map fun q => (q.1, q.2 - (dlook ks q.1).getD 0)).take j) ∧ ∃ x y : Option V, σ = [x, y, some (.ref hp), some (.ref d), some (.int need), some (.ref t), none])
       ⟨L2.Same.refl _, rfl, Kinds.nil, none, none, rfl⟩ (by omega) (fun j ys σ G _ ⟨e3, e4, _⟩ => ⟨sq e3, by omega⟩) ?_ ?_
      · rintro j x ys σ G N hx ⟨sG, hyl, hk, x0, y0, rfl⟩ hN
        obtain ⟨q, hq, r, rfl, hrr⟩ := h3'.2 j x hx
        have dg : DGet G d (.int q.1) ((dlook ks q.1).map V.int) := .inl ⟨vv2 ks, .inl q.1, .inr ⟨_, sG _ _ e1⟩, rfl, (val_vv2 ks q.1).symm⟩
        have gd : ((dlook ks q.1).map V.int).getD (.int 0) = .int ((dlook ks q.1).getD 0) := by cases dlook ks q.1 <;> rfl
        refine ⟨r, _, rfl, SqT.of (sG _ _ hrr), rfl, _, _, rfl, _, _, rfl, rfl, ?_⟩
        refine ⟨_, rfl, _, rfl, _, rfl, d, rfl, .inl ⟨_, .inr ⟨_, sG _ _ e1⟩⟩, _, rfl, _, dg, ?_⟩
        rw [gd]
        refine ⟨_, _, rfl, rfl, lenLe (n := 2) rfl (by decide), fun r2 G2 n2 s2 e2 => hN _ _ _ ⟨sG.trans s2, by rw [List.length_append, hyl]; rfl, ?_, _, _, rfl⟩⟩
        rw [List.take_add_one, List.getElem?_map, hq]
        exact (hk.same s2).snoc e2
      rintro ys σ G ⟨sG, hyl, hk, x0, y0, rfl⟩ pl G1 npl s1 e2
      rw [List.take_of_length_le (by rw [List.length_map]; omega)] at hk
      have hk1 := hk.same s1
      refine ⟨_, rfl, _, rfl, pl, rfl, .inl ⟨⟨_, SqL.of e2⟩, ?_⟩⟩
      have hyl2 : ys.length = qs.length := by rw [hk.1, List.length_map]
      refine cmp_list (K := K) (a := pl) (xs := ys) (fun j zs σ G' => G' = G1 ∧ zs.length ≤ j ∧ Kinds G1 zs (((qs.map fun q => (q.1, q.2 - (dlook ks q.1).getD 0)).take j).filter fun q => decide (0 < q.2)) ∧ ∃ x : Option V, σ = [x, some (.ref hp), some (.ref d), some (.int need), some (.ref t), some (.ref pl)])
       ⟨rfl, Nat.le_refl _, Kinds.nil, none, rfl⟩ (by omega) (fun j zs σ G' _ ⟨e3, e4, _⟩ => ⟨by rw [e3]; exact SqL.of e2, e4⟩) ?_ ?_
      · rintro j x zs σ G' N hx ⟨eG, hzl, hkz, x1, rfl⟩ hN
        subst eG
        obtain ⟨q, hq, r, rfl, hrr⟩ := hk1.2 j x hx
        have hix : atI [V.int q.1, V.int q.2] 1 = some (.int q.2) := rfl
        refine ⟨_, rfl, .inr (.inl ⟨r, _, 1, _, rfl, rfl, SqT.of hrr, hix, ?_⟩)⟩
        refine ⟨_, _, rfl, rfl, _, rfl, ite2 (fun hc => ?_) (fun hc => ?_)⟩
        · refine ⟨_, rfl, hN _ _ _ ⟨rfl, by rw [List.length_append]; simp; omega, ?_, _, rfl⟩⟩
          rw [List.take_add_one, hq, List.filter_append]
          have : List.filter (fun q : Int × Int => decide (0 < q.2)) (some q).toList = [q] := List.filter_cons_of_pos (by exact hc)
          rw [this]
          exact hkz.snoc hrr
        · refine hN _ _ _ ⟨rfl, by omega, ?_, _, rfl⟩
          rw [List.take_add_one, hq, List.filter_append]
          have : List.filter (fun q : Int × Int => decide (0 < q.2)) (some q).toList = [] := List.filter_cons_of_neg (by exact hc)
          rw [this, List.append_nil]
          exact hkz
      rintro zs σ G' ⟨eG, hzl, hkz, x1, rfl⟩ pf G2 npf s2 e3
      subst eG
      rw [hyl2, List.take_of_length_le (by rw [List.length_map]; exact Nat.le_refl _)] at hkz
      refine ⟨pf, _, rfl, SqL.of e3, fun tt ob3 G3 n3 b3 s3 e4 => ?_⟩
      refine ⟨lenLe (n := 2) rfl (by decide), fun h' G4 n4 s4 e5 => ?_⟩
      have sA := sG.trans (s1.trans (s2.trans (s3.trans s4)))
      exact h h' G4 (fun b o nb e => sA _ _ (k1 b o nb e)) ⟨tt, ob3, zs, e5, b3, s4 _ _ e4, hkz.same (s2.trans (s3.trans s4)), less_ok h4 fun q hq => (hle q hq).1⟩
abbrev sWithout : Stmt := top 14
theorem scWithout : FnScope ["heap", "lot"] ["heap", "lot"] (defScope sWithout) := ⟨rfl, rfl, rfl, by decide +kernel, rfl, by decide +kernel, by decide +kernel⟩
def without (qs : List (Int × Int)) (zs : List Int) : List (Int × Int) := (qs.map fun q => (q.1, q.2 - ((zs.count q.1 : Nat) : Int))).filter fun q => decide (0 < q.2)
theorem less_without {qs ks : List (Int × Int)} {zs : List Int} (h : CntIs ks zs) : lessBy qs ks = without qs zs := by
 unfold lessBy without
 congr 1
 refine List.map_congr_left fun q _ => ?_
 rw [h q.1]
 by_cases e : zs.count q.1 = 0
 · rw [if_pos e, e]; rfl
 · rw [if_neg e]; rfl
def spWithout (K : PySem.W.Frag) : Sp := fun vs H Q _ => ∃ (h a : Addr) (need : Int) (qs : List (Int × Int)) (zs : List Int), vs = [.ref h, .ref a] ∧ HeapAt H h need qs ∧ SqT K H a (zs.map V.int) ∧ zs.length ≤ 200 ∧ (∀ z ∈ zs, ((zs.count z : Nat) : Int) ≤ (dlook qs z).getD 0) ∧
 ∀ (h' : Addr) (H' : Hp), L2.Same H H' → HeapAt H' h' need (without qs zs) → Q (.ref h') H'
theorem ok_without {f : Addr} {fd : FuncData} (F : Fun K "heap_without" "heap_without" sWithout f fd) (cC : Callee CX0 P w K mg base "counts_of" 1 ["sizes"] (spCo K)) (cL : Callee CX0 P w K mg base "heap_less" 2 ["heap", "counts"] spLess) : FnOk P w K mg base CX0 3 f fd ["heap", "lot"] (spWithout K) := by
 refine Br.Fun.j F scWithout (fun vs H Q E h => ?_) (fun cdv A outer s H vs Q E hr h => ?_)
 · obtain ⟨_, _, _, _, _, rfl, _⟩ := h; rfl
 · obtain ⟨hp, a, need, qs, zs, rfl, hh, ha, hzl, hle, h⟩ := h
   have nd := scWithout.nd
   refine' ⟨_, ?d, ?r⟩
   case d => wtm_at "body"
   case r =>
    refine ⟨_, rfl, _, rfl, a, zs, rfl, .inl ha, hzl, fun d ks H1 hd s1 e1 hnd hc hkl => ?_⟩
    refine ⟨hp, d, need, qs, ks, rfl, hh.tu (Tu.of s1), e1, hkl, fun q hq => ?_, fun h' H2 k2 hh2 => ?_⟩
    · have e := (dlook_mem hnd q).mp hq
      rw [hc q.1] at e
      by_cases z : zs.count q.1 = 0
      · rw [if_pos z] at e; cases e
      · rw [if_neg z] at e
        injection e with e
        rw [← e]
        exact ⟨by omega, hle q.1 (List.count_pos_iff.mp (by omega))⟩
    · rw [less_without hc] at hh2
      exact h h' H2 (fun b o e => k2 b o (ne_of_none e hd) (s1 _ _ e)) hh2
end
def bothK (qs rs : List (Int × Int)) : List (Int × Int) := rs.foldl (fun ks r => dput ks r.1 ((dlook ks r.1).getD 0 + r.2)) qs
theorem both_take {qs rs : List (Int × Int)} {i : Nat} {r : Int × Int} (h : rs[i]? = some r) : bothK qs (rs.take (i + 1)) = dput (bothK qs (rs.take i)) r.1 ((dlook (bothK qs (rs.take i)) r.1).getD 0 + r.2) := by
 unfold bothK
 rw [List.take_add_one, h]
 show (rs.take i ++ [r]).foldl _ qs = _
 rw [List.foldl_append]; rfl
theorem both_ok {qs : List (Int × Int)} (nd : (qs.map (·.1)).Nodup) : ∀ (rs : List (Int × Int)), ((bothK qs rs).map (·.1)).Nodup ∧ (bothK qs rs).length ≤ qs.length + rs.length := fun rs => by
 induction rs generalizing qs with
 | nil => exact ⟨nd, Nat.le_refl _⟩
 | cons r rs ih =>
  have h := ih (qs := dput qs r.1 ((dlook qs r.1).getD 0 + r.2)) (dput_nodup _ _ nd)
  have := dput_len qs r.1 ((dlook qs r.1).getD 0 + r.2)
  refine ⟨h.1, ?_⟩
  have h2 := h.2
  show (bothK (dput qs r.1 ((dlook qs r.1).getD 0 + r.2)) rs).length ≤ _
  rw [List.length_cons]; omega
theorem j_anyT {X : Cx} {t : TE} {p pos ps : Pos} {e : Expr} {gs : List Comprehension} {sc : Scope} (ha : JE X (.Call (.Name "any" p) [.ListComp e gs sc ps] [] pos) t) :
 JE X (.Call (.Name "any" p) [.ListComp e gs sc ps] [] pos) (fun σ H Q => t σ H fun v H1 => Q v H1 ∨ ∃ a ob kvs kvs0, H a = some (.dK kvs0) ∧ H1 a = some (.frz ob (.dK kvs)) ∧ Q v (upd H1 a (.dK kvs))) := j_thaw ha
section
local macro_rules | `(tactic| wtm_at "pe") => `(tactic| first | (apply j_dictP; (rfl); (rfl); (rfl); (with_reducible rfl); (rfl); (assumption); (wtm_at "pa")) | (apply j_dget2; (assumption); (rfl); (rfl); (rfl); (rfl); (wtm_at "pe"); (wtm_at "pe"); (wtm_at "pe")) | (apply k_sortIt; (rfl); (rfl); (rfl); (rfl); (rfl); (assumption); (rfl); (rfl); (rfl); (wtm_at "pe")))
local macro_rules | `(tactic| wtm_at "pi") => `(tactic| (apply k_vals; (rfl); (rfl); (rfl); (rfl); (wtm_at "pe")))
local macro_rules | `(tactic| wtm_at "call") => `(tactic| first | (apply k_tupleF; (rfl); (rfl); (rfl); (wtm_at "K"); (with_reducible rfl); (assumption); (wtm_at "pa")) | (apply j_anyT; apply k_any; (wtm_at "K"); (rfl); (rfl); (rfl); (with_reducible rfl); (rfl); (assumption); (wtm_at "pa")) | (apply k_lenD; (wtm_at "K"); (rfl); (rfl); (rfl); (with_reducible rfl); (assumption); (wtm_at "pa")))
local macro_rules | `(tactic| wtm_at "ps") => `(tactic| first | (apply s_if; (wtm_at "pt"); (apply ss_cons; (apply s_dead); (apply ss_nil)); (wtm_at "pss")) | (apply s_dput; (assumption); (rfl); (wtm_at "pe"); (wtm_at "pe"); (wtm_at "pe")))
variable {P : Program} {w : World} {K : PySem.W.Frag} {mg : Str → Option Value} {base : Heap}
abbrev sBeside : Stmt := top 15
theorem scBeside : FnScope ["one", "other", "counts", "size", "many"] ["one", "other"] (defScope sBeside) := ⟨rfl, rfl, rfl, by decide +kernel, rfl, by decide +kernel, by decide +kernel⟩
def spBeside : Sp := fun vs H Q _ => ∃ (h g : Addr) (need : Int) (qs rs : List (Int × Int)), vs = [.ref h, .ref g] ∧ HeapAt H h need qs ∧ HeapAt H g need rs ∧ (bothK qs rs).length ≤ 8 ∧ (∀ q ∈ bothK qs rs, 1 ≤ q.1 ∧ q.1 ≤ 10 ^ 12 ∧ 1 ≤ q.2 ∧ q.2 ≤ 10 ^ 12) ∧
 ∀ (h' : Addr) (ps : List (Int × Int)) (H' : Hp), L2.Same H H' → HeapAt H' h' need ps → (∀ q, q ∈ ps ↔ q ∈ bothK qs rs) → Q (.ref h') H'
theorem ok_beside {f : Addr} {fd : FuncData} (F : Fun K "put_beside" "put_beside" sBeside f fd) (g1 : GInt mg "MOST_KINDS" 8) (g2 : GInt mg "GREATEST" 1000000000000) (mD : mg "dict" = none) (mL : mg "len" = none) (mA : mg "any" = none) (mT : mg "tuple" = none) (mS : mg "sorted" = none) : FnOk P w K mg base CX0 1 f fd ["one", "other"] spBeside := by
 refine Br.Fun.j F scBeside (fun vs H Q E h => ?_) (fun cdv A outer s H vs Q E hr h => ?_)
 · obtain ⟨_, _, _, _, _, rfl, _⟩ := h; rfl
 · obtain ⟨hp, gp, need, qs, rs, rfl, hh, hg, hl8, hbd, h⟩ := h
   have nd := scBeside.nd
   have hsz : (sizeLine : Nat) = 16777216 := sizeLine_eq
   refine' ⟨_, ?d, ?r⟩
   case d => wtm_at "body"
   case r =>
    obtain ⟨t, ob, us, h1, hb, h2, h3, h4⟩ := id hh
    obtain ⟨t', ob', us', h1', hb', h2', h3', h4'⟩ := id hg
    obtain ⟨as, rfl, hasl, hat⟩ := kinds_refs h3
    have hql := h4.len
    have hrl := h4'.len
    obtain ⟨bk1, bk2⟩ := both_ok h4.ris.nodup rs
    have sq : ∀ {G : Hp}, L2.Same H G → SqT K G t' us' := fun s => .inl (.inr ⟨_, s _ _ h2'⟩)
    refine ⟨fun σ' H' => H' = H ∧ σ' = [some (.ref hp), some (.ref gp), none, none, none], ?_, ?_⟩
    · refine ⟨_, rfl, .inr (.inl ⟨hp, _, 0, _, rfl, rfl, SqT.of h1, (show atI [V.int need, V.ref t] 0 = some (.int need) from rfl), ?_⟩)⟩
      refine ⟨_, rfl, .inr (.inl ⟨gp, _, 0, _, rfl, rfl, SqT.of h1', (show atI [V.int need, V.ref t'] 0 = some (.int need) from rfl), ?_⟩)⟩
      refine ⟨rfl, _, rfl, ?_⟩
      rw [dec_int, beq_self_eq_true]
      exact iteF ⟨rfl, rfl⟩
    rintro σ' H' ⟨rfl, rfl⟩
    refine ⟨_, rfl, .inr (.inl ⟨hp, _, 1, _, rfl, rfl, SqT.of h1, (show atI [V.int need, V.ref t] 1 = some (.ref t) from rfl), ?_⟩)⟩
    refine ⟨t, vv2 qs, rfl, ⟨ob, as, hb, h2, by unfold vv2; rw [List.length_map]; exact hasl, by unfold vv2; rw [List.length_map]; omega, fun i a kv e1 e2 => ?_⟩, fun d H1 hd s1 e1 => ?_⟩
    · unfold vv2 at e2
      rw [List.getElem?_map] at e2
      obtain ⟨q, hq, rfl⟩ := Option.map_eq_some_iff.mp e2
      exact .inl (hat i a q e1 hq)
    rw [merge_vv2 h4.ris.nodup] at e1
    refine ⟨_, rfl, .inr (.inl ⟨gp, _, 1, _, rfl, rfl, SqT.of (s1 _ _ h1'), (show atI [V.int need, V.ref t'] 1 = some (.ref t') from rfl), ?_⟩)⟩
    refine ⟨t', rfl, .inr ⟨⟨_, sq s1⟩, ?_⟩⟩
    refine for_tup (K := K) (a := t') (xs := us') (fun i σ G => L2.Same H' G ∧ G d = some (.dK (vv2 (bothK qs (rs.take i)))) ∧ ∃ x3 x4 : Option V, σ = [some (.ref hp), some (.ref gp), some (.ref d), x3, x4])
     ⟨s1, e1, none, none, rfl⟩ (fun i σ G _ ⟨sG, _⟩ => sq sG) ?_ ?_
    · rintro i x σ G hx ⟨sG, eG, x3, x4, rfl⟩
      obtain ⟨q, hq, r, rfl, hrr⟩ := h3'.2 i x hx
      obtain ⟨c1, c2⟩ := both_ok h4.ris.nodup (rs.take i)
      have hti : (rs.take i).length ≤ 16 := by rw [List.length_take]; omega
      have dg := DGet.k (k := .inl q.1) eG
      rw [val_vv2] at dg
      have hlen : (vv2 (bothK qs (rs.take i))).length = (bothK qs (rs.take i)).length := by unfold vv2; rw [List.length_map]
      have gd : ((dlook (bothK qs (rs.take i)) q.1).map V.int).getD (.int 0) = .int ((dlook (bothK qs (rs.take i)) q.1).getD 0) := by cases dlook (bothK qs (rs.take i)) q.1 <;> rfl
      refine ⟨r, _, rfl, SqT.of (sG _ _ hrr), rfl, _, _, rfl, _, _, rfl, rfl, ?_⟩
      refine ⟨_, rfl, d, rfl, .inl ⟨_, .inl eG⟩, _, rfl, _, dg, ?_⟩
      rw [gd]
      refine ⟨_, rfl, .inl ⟨_, _, rfl, rfl, ?_⟩⟩
      refine ⟨_, rfl, _, rfl, d, _, rfl, DPut.k (k := .inl q.1) eG (by rw [hlen]; omega), fun b o e => ?_, by rw [upd_same, put_vv2, both_take hq], _, _, rfl⟩
      rw [upd_ne (ne_of_none e hd)]; exact sG _ _ e
    · rintro σ G ⟨sG, eG, x3, x4, rfl⟩
      rw [h3'.1, List.take_length] at eG
      have hlen : (vv2 (bothK qs rs)).length = (bothK qs rs).length := by unfold vv2; rw [List.length_map]
      refine ⟨fun σ' H2 => H2 = G ∧ σ' = [some (.ref hp), some (.ref gp), some (.ref d), x3, x4], ?_, ?_⟩
      · refine ⟨_, rfl, .inr ⟨d, _, rfl, eG, ?_⟩⟩
        rw [hlen]
        refine ⟨_, _, rfl, rfl, _, rfl, ite2 (fun hc => absurd (of_decide_eq_true hc) (by omega)) (fun _ => ⟨rfl, rfl⟩)⟩
      rintro σ' H2 ⟨rfl, rfl⟩
      have hdH : ∀ {b : Addr} {o : HO}, H' b = some o → b ≠ d := fun {b o} e => ne_of_none e hd
      refine ⟨fun σ' H3 => L2.Same H' H3 ∧ H3 d = some (.dK (vv2 (bothK qs rs))) ∧ σ' = [some (.ref hp), some (.ref gp), some (.ref d), x3, x4], ?_, ?_⟩
      · refine ⟨_, rfl, d, _, rfl, eG, fun ob3 H3 e3 => ?_⟩
        refine cmp_vals (a := d) (ob := ob3) (kvs := vv2 (bothK qs rs)) (by omega) (fun i ys σ G' => G' = H3 ∧ ys = (List.replicate i false).map V.bl ∧ ∃ x : Option V, σ = [x, some (.ref hp), some (.ref gp), some (.ref d), x3, x4])
         ⟨rfl, rfl, none, rfl⟩ (fun i ys σ G' _ ⟨e4, e5, _⟩ => ⟨by rw [e4, e3]; exact upd_same, by rw [e5, List.length_map, List.length_replicate]; exact Nat.le_refl _⟩) ?_ ?_
        · rintro i kv ys σ G' N hkv ⟨rfl, rfl, x0, rfl⟩ hN
          unfold vv2 at hkv
          rw [List.getElem?_map] at hkv
          obtain ⟨q, hq, rfl⟩ := Option.map_eq_some_iff.mp hkv
          have hq4 := (hbd q (List.mem_of_getElem? hq)).2.2.2
          refine ⟨_, rfl, _, _, rfl, rfl, hN _ _ _ ⟨rfl, ?_, _, rfl⟩⟩
          show List.map V.bl (List.replicate i false) ++ [V.bl (decide ((1000000000000 : Int) < q.2))] = _
          rw [decide_eq_false (by omega), List.replicate_succ', List.map_append]; rfl
        · rintro ys σ G' ⟨rfl, rfl, x0, rfl⟩ pc G1 npc s4 e4
          have hfz : G1 d = some (.frz ob3 (.dK (vv2 (bothK qs rs)))) := s4 _ _ (by rw [e3]; exact upd_same)
          refine ⟨pc, _, rfl, SqL.of e4, .inr ⟨d, ob3, _, _, eG, hfz, _, rfl, ite2 (fun hc => ?_) (fun _ => ⟨fun b o e => ?_, upd_same, rfl⟩)⟩⟩
          · exfalso
            obtain ⟨b, hb1, hb2⟩ := List.any_eq_true.mp hc
            rw [List.eq_of_mem_replicate hb1] at hb2
            exact absurd hb2 (by decide)
          · rw [upd_ne (hdH e)]
            exact s4 _ _ (by rw [e3, upd_ne (hdH e)]; exact sG _ _ e)
      · rintro σ' H3 ⟨s3, e3, rfl⟩
        refine ⟨_, rfl, .inr (.inl ⟨hp, _, 0, _, rfl, rfl, SqT.of (s3 _ _ h1), (show atI [V.int need, V.ref t] 0 = some (.int need) from rfl), ?_⟩)⟩
        refine ⟨_, rfl, d, bothK qs rs, rfl, e3, fun l bs ps H4 nl s4 e4 hbl hbt hpm hpw => ?_⟩
        obtain ⟨si1, si2⟩ := sort_items bk1 hpm hpw
        have hk4 : Kinds H4 (bs.map V.ref) ps := ⟨by rw [List.length_map]; exact hbl, fun i v e => by
         rw [List.getElem?_map] at e
         obtain ⟨b, hb3, rfl⟩ := Option.map_eq_some_iff.mp e
         obtain ⟨q, e5, e6⟩ := hbt i b hb3
         exact ⟨q, e5, b, rfl, e6⟩⟩
        refine ⟨l, _, rfl, SqL.of e4, fun tt ob5 H5 n5 b5 s5 e5 => ?_⟩
        refine ⟨lenLe (n := 2) rfl (by decide), fun h' H6 n6 s6 e6 => ?_⟩
        refine h h' ps H6 (s3.trans (s4.trans (s5.trans s6))) ⟨tt, ob5, _, e6, b5, s6 _ _ e5, hk4.same (s5.trans s6), ⟨by rw [hpm.length_eq]; omega, h4.n0, h4.n1, fun q hq => ?_, si1⟩⟩ si2
        obtain ⟨c1, c2, c3, c4⟩ := hbd q ((si2 q).mp hq)
        exact ⟨c1, c2, c3, by omega⟩
end
section
variable {P : Program} {w : World} {K : PySem.W.Frag} {mg : Str → Option Value} {base : Heap}
abbrev sIsLn : Stmt := top 18
theorem scIsLn : FnScope ["need", "lot"] ["need", "lot"] (defScope sIsLn) := ⟨rfl, rfl, rfl, by decide +kernel, rfl, by decide +kernel, by decide +kernel⟩
def spIsLn (K : PySem.W.Frag) : Sp := fun vs H Q _ => ∃ (n : Int) (a : Addr) (zs : List Int), vs = [.int n, .ref a] ∧ SqT K H a (zs.map V.int) ∧ zs ≠ [] ∧ ∀ H', L2.Same H H' → Q (.bl (decide (n ≤ zs.sum) && !decide (n ≤ zs.tail.sum))) H'
theorem ok_isln {f : Addr} {fd : FuncData} (F : Fun K "is_lean" "is_lean" sIsLn f fd) (cF : Callee CX0 P w K mg base "is_full" 1 ["need", "lot"] (spFull K)) : FnOk P w K mg base CX0 2 f fd ["need", "lot"] (spIsLn K) := by
 refine Br.Fun.j F scIsLn (fun vs H Q E h => ?_) (fun cdv A outer s H vs Q E hr h => ?_)
 · obtain ⟨_, _, _, rfl, _⟩ := h; rfl
 · obtain ⟨n, a, zs, rfl, ha, hne, h⟩ := h
   have nd := scIsLn.nd
   refine' ⟨_, ?d, ?r⟩
   case d => wtm_at "body"
   case r =>
    refine ⟨_, rfl, _, rfl, n, a, zs, rfl, ha, _, rfl, ite2 (fun hc => ?_) (fun hc => ?_)⟩
    · refine ⟨_, rfl, ?_⟩
      wtm_at "rd"
      refine ⟨a, _, rfl, .inr ⟨ha, tail_no hne, fun l2 G1 n2 s1 e1 => ?_⟩⟩
      rw [tail_cut] at e1
      have := h G1 s1
      rw [hc, Bool.true_and] at this
      exact ⟨n, l2, _, rfl, SqT.of e1, _, rfl, this⟩
    · have := h H (L2.Same.refl _)
      rw [eq_false_of_ne_true hc] at this
      exact this
end
section
local macro_rules | `(tactic| wtm_at "ps") => `(tactic| (apply s_if; (wtm_at "pt"); (apply ss_cons; (apply s_dead); (apply ss_nil)); (wtm_at "pss")))
variable {P : Program} {w : World} {K : PySem.W.Frag} {mg : Str → Option Value} {base : Heap}
abbrev sLeanOf : Stmt := top 19
theorem scLeanOf : FnScope ["need", "lot"] ["need", "lot"] (defScope sLeanOf) := ⟨rfl, rfl, rfl, by decide +kernel, rfl, by decide +kernel, by decide +kernel⟩
def spLnOf : Sp := fun vs H Q _ => ∃ (n : Int) (a : Addr) (zs : List Int), vs = [.int n, .ref a] ∧ H a = some (.tup (zs.map V.int)) ∧ zs ≠ [] ∧ 1 ≤ n ∧ n ≤ zs.sum ∧ ∀ (b : Addr) (H' : Hp), L2.Same H H' → H' b = some (.tup ((leanL n zs).map V.int)) → Q (.ref b) H'
theorem ok_leanOf {f : Addr} {fd : FuncData} (F : Fun K "lean_of" "lean_of" sLeanOf f fd) (cF : Callee CX0 P w K mg base "is_full" 1 ["need", "lot"] (spFull K)) : FnOk P w K mg base CX0 2 f fd ["need", "lot"] spLnOf := by
 refine Br.Fun.j F scLeanOf (fun vs H Q E h => ?_) (fun cdv A outer s H vs Q E hr h => ?_)
 · obtain ⟨_, _, _, rfl, _⟩ := h; rfl
 · obtain ⟨n, a, zs, rfl, ha, hne, hn1, hfull, h⟩ := h
   have nd := scLeanOf.nd
   refine' ⟨_, ?d, ?r⟩
   case d => wtm_at "body"
   case r =>
    refine ⟨fun σ' H' => H' = H ∧ σ' = [some (.int n), some (.ref a)], ?_, ?_⟩
    · refine ⟨_, rfl, _, rfl, n, a, zs, rfl, SqT.of ha, _, rfl, ite2 (fun hc => ?_) (fun hc => ⟨rfl, rfl⟩)⟩
      rw [decide_eq_true hfull] at hc; cases hc
    rintro σ' H' ⟨rfl, rfl⟩
    refine ⟨fun m σ G => L2.Same H' G ∧ ∃ (b : Addr) (ys : List Int), m = ys.length ∧ G b = some (.tup (ys.map V.int)) ∧ ys ≠ [] ∧ leanL n ys = leanL n zs ∧ σ = [some (.int n), some (.ref b)], ⟨_, L2.Same.refl _, a, zs, rfl, ha, hne, rfl, rfl⟩, ?_⟩
    rintro m σ G ⟨sG, b, ys, rfl, hb, hyn, hys, rfl⟩
    obtain ⟨y, yr, rfl⟩ : ∃ y yr, ys = y :: yr := by
     cases ys with
     | nil => exact absurd rfl hyn
     | cons y yr => exact ⟨y, yr, rfl⟩
    refine ⟨_, rfl, ?_⟩
    wtm_at "rd"
    refine ⟨b, _, rfl, .inr ⟨SqT.of hb, tail_no hyn, fun l2 G1 n2 s1 e1 => ?_⟩⟩
    rw [tail_cut] at e1
    refine ⟨n, l2, yr, rfl, SqT.of e1, _, rfl, ite2 (fun hc => ?_) (fun hc => ?_)⟩
    · have hc := of_decide_eq_true hc
      refine ⟨_, fun _ _ hN => hN, ?_⟩
      wtm_at "rd"
      refine ⟨b, _, rfl, .inr ⟨SqT.of (s1 _ _ hb), tail_no hyn, fun l3 G2 n3 s2 e2 => ?_⟩⟩
      rw [tail_cut] at e2
      have hyr : yr ≠ [] := fun z => by subst z; simp at hc; omega
      exact ⟨yr.length, by simp, sG.trans (s1.trans s2), l3, yr, rfl, e2, hyr, by rw [← hys, leanL_step hc], rfl⟩
    · have hc' : ¬ n ≤ yr.sum := fun z => hc (decide_eq_true z)
      refine ⟨_, rfl, h b G1 (sG.trans s1) ?_⟩
      rw [← hys, leanL_end hc']
      exact s1 _ _ hb
end
def LeftIs (ks qs : List (Int × Int)) (zs : List Int) (tm : Int) : Prop := ∀ n, dlook ks n = (dlook qs n).map fun c => c - tm * ((zs.count n : Nat) : Int)
theorem LeftIs.snoc {ks qs : List (Int × Int)} {fs : List Int} {z c : Int} (h : LeftIs ks qs fs 1) (hc : dlook qs z = some c) : LeftIs (dput ks z ((dlook ks z).getD 0 - 1)) qs (fs ++ [z]) 1 := fun n => by
 rw [dput_look, List.count_append]
 by_cases hz : z = n
 · subst hz
   rw [if_pos rfl, h z, hc]
   show some (c - 1 * ((fs.count z : Nat) : Int) - 1) = some (c - 1 * ((fs.count z + [z].count z : Nat) : Int))
   congr 1; simp; omega
 · rw [if_neg hz, h n, List.count_cons_of_ne hz, List.count_nil]; rfl
section
local macro_rules | `(tactic| wtm_at "call") => `(tactic| first | (apply k_sortedI; (rfl); (rfl); (rfl); (wtm_at "K"); (with_reducible rfl); (rfl); (assumption); (wtm_at "pa")))
local macro_rules | `(tactic| wtm_at "pe") => `(tactic| first | (apply j_dictP; (rfl); (rfl); (rfl); (with_reducible rfl); (rfl); (assumption); (wtm_at "pa")) | (apply j_dgetA "left"; (assumption); (exact fun _ _ => rfl); (wtm_at "pe"); (wtm_at "pe")))
local macro_rules | `(tactic| wtm_at "ps") => `(tactic| (apply s_dputA "left"; (assumption); (rfl); (wtm_at "pe"); (wtm_at "pe"); (wtm_at "pe")))
variable {P : Program} {w : World} {K : PySem.W.Frag} {mg : Str → Option Value} {base : Heap}
abbrev sFullLot : Stmt := top 35
theorem scFullLot : FnScope ["pot", "heap", "left", "found", "more", "turn", "sizes", "size"] ["pot", "heap"] (defScope sFullLot) := ⟨rfl, rfl, rfl, by decide +kernel, rfl, by decide +kernel, by decide +kernel⟩
def LotOk (qs : List (Int × Int)) (zs : List Int) : Prop := ∀ z ∈ zs, ∃ c, dlook qs z = some c ∧ ((zs.count z : Nat) : Int) ≤ c
def spFullLot : Sp := fun vs H Q _ => ∃ (p h : Addr) (n : Nat) (need : Int) (qs : List (Int × Int)), vs = [.ref p, .ref h] ∧ Pot n H p ∧ n ≤ 10 ^ 45 ∧ HeapAt H h need qs ∧
 (∀ H', Mo [p] H H' → Pot (n + 400) H' p → Q .non H') ∧ ∀ (a : Addr) (zs : List Int) (H' : Hp), H a = none → Mo [p] H H' → Pot (n + 400) H' p → H' a = some (.tup (zs.map V.int)) → zs.length ≤ 100 → zs ≠ [] → zs.Pairwise (· ≤ ·) → need ≤ zs.sum → LotOk qs zs → Q (.ref a) H'
theorem ok_fullLot {f : Addr} {fd : FuncData} (F : Fun K "_law_full_lot" "_law_full_lot" sFullLot f fd) (cT : Callee CX0 P w K mg base "_law_take" 1 ["pot", "size"] spTake) (mR : mg "range" = none) (mL : mg "len" = none) (mD : mg "dict" = none) (mT : mg "tuple" = none) (mS : mg "sorted" = none) (mU : mg "sum" = none) (mI : mg "int" = none) : FnOk P w K mg base CX0 2 f fd ["pot", "heap"] spFullLot := by
 refine Br.Fun.j F scFullLot (fun vs H Q E h => ?_) (fun cdv A outer s H vs Q E hr h => ?_)
 · obtain ⟨_, _, _, _, _, rfl, _⟩ := h; rfl
 · obtain ⟨p, hp, n, need, qs, rfl, hpot, hn, hh, hN, h⟩ := h
   have nd := scFullLot.nd
   have hsz : (sizeLine : Nat) = 16777216 := sizeLine_eq
   refine' ⟨_, ?d, ?r⟩
   case d => wtm_at "body"
   case r =>
    obtain ⟨t, ob, us, h1, hb, h2, h3, h4⟩ := id hh
    obtain ⟨as, rfl, hasl, hat⟩ := kinds_refs h3
    have hql := h4.len
    refine ⟨_, rfl, .inr (.inl ⟨hp, _, 1, _, rfl, rfl, SqT.of h1, (show atI [V.int need, V.ref t] 1 = some (.ref t) from rfl), ?_⟩)⟩
    refine ⟨t, vv2 qs, rfl, ⟨ob, as, hb, h2, by unfold vv2; rw [List.length_map]; exact hasl, by unfold vv2; rw [List.length_map]; omega, fun i a kv e1 e2 => ?_⟩, fun d H1 hd s1 e1 => ?_⟩
    · unfold vv2 at e2
      rw [List.getElem?_map] at e2
      obtain ⟨q, hq, rfl⟩ := Option.map_eq_some_iff.mp e2
      exact .inl (hat i a q e1 hq)
    rw [merge_vv2 h4.ris.nodup] at e1
    refine ⟨by simp, fun l H2 nl s2 e2 => ?_⟩
    have p3 := (hpot.same s1).same s2
    refine ⟨_, rfl, p, n, 3, rfl, p3, by omega, by decide, by decide, fun r H4 m4 p4 r0 r1 => ?_⟩
    refine ⟨_, rfl, p, n + 1, 2, rfl, p4, by omega, by decide, by decide, fun r' H5 m5 p5 r0' r1' => ?_⟩
    refine ⟨_, _, rfl, rfl, IntMulOk.of_left (intBits_le_64 (by omega) (by omega)), ?_⟩
    have hdp : d ≠ p := fun z => by obtain ⟨_, _, _, e, _⟩ := hpot; rw [z, e] at hd; cases hd
    have hhp : hp ≠ p := fun z => by obtain ⟨_, _, _, e, _⟩ := hpot; rw [z, e] at h1; cases h1
    have hlp : l ≠ p := fun z => by obtain ⟨_, _, _, e, _⟩ := hpot.same s1; rw [z, e] at nl; cases nl
    have hld : l ≠ d := fun z => by rw [z, e1] at nl; cases nl
    have hlH : H l = none := by
     cases q : H l with
     | none => rfl
     | some o => have := s1 _ _ q; rw [nl] at this; cases this
    have nin : ∀ {b : Addr}, b ≠ p → b ∉ [p] := fun hb z => hb (List.mem_singleton.mp z)
    have mH5 : Mo [p] H H5 := (Mo.of (s1.trans s2)).trans (m4.trans m5)
    have eD5 := m5 _ _ (nin hdp) (m4 _ _ (nin hdp) (s2 _ _ e1))
    have eL5 := m5 _ _ (nin hlp) (m4 _ _ (nin hlp) e2)
    refine ⟨_, rfl, by decide, by decide, for_range (fun i σ G => Mo [p] H G ∧ Pot (n + 2 + 2 * i) G p ∧ ∃ (ks : List (Int × Int)) (fs : List Int) (mo : Int) (x4 x5 x6 : Option V), G d = some (.dK (vv2 ks)) ∧ (ks.map (·.1)).Nodup ∧ LeftIs ks qs fs 1 ∧ ks.map (·.1) = qs.map (·.1) ∧ (∀ m c, dlook ks m = some c → 0 ≤ c) ∧ G l = some (.lst (fs.map V.int)) ∧ fs.length ≤ i ∧
     (∀ z ∈ fs, ∃ c, dlook qs z = some c) ∧ σ = [some (.ref p), some (.ref hp), some (.ref d), some (.ref l), some (.int mo), x4, x5, x6])
     ⟨mH5, p5, qs, [], _, none, none, none, eD5, h4.ris.nodup, fun m => by cases dlook qs m with | none => rfl | some c => show some c = some (c - 1 * 0); rw [Int.mul_zero, Int.sub_zero], rfl, fun m c e => by have := (h4.bd _ (dlook_some e)).2.2.1; have : 1 ≤ c := this; omega, eL5, Nat.le_refl _, fun z hz => (nomatch hz), rfl⟩ ?_ ?_⟩
    · rintro i σ G hi ⟨mG, pG, ks, fs, mo, x4, x5, x6, eD, hnd, hL, hkk, hnn, eL, hfl, hfq, rfl⟩
      have hi31 : i < 100 := hi
      have hkl : ks.length ≤ 16 := by
       have := congrArg List.length hkk
       rw [List.length_map, List.length_map] at this; omega
      have eD' := eD
      rw [vv2_ikv] at eD'
      refine ⟨_, rfl, .inl ⟨d, _, rfl, eD', by rw [List.length_map]; omega, fun sl ns H9 hsl s9 e9 perm pw => ?_⟩⟩
      have perm : ns.Perm (ks.map (·.1)) := by rw [List.map_map] at perm; exact perm
      have hnl : ns.length = ks.length := by rw [perm.length_eq, List.length_map]
      have e9d := s9 _ _ eD
      refine ⟨sl, rfl, .inl ⟨⟨_, SqL.of e9⟩, ?_⟩⟩
      refine cmp_list (K := K) (a := sl) (xs := ns.map V.int) (fun j ys σ H2 => H2 = H9 ∧ (∃ ss : List Int, ys = ss.map V.int ∧ ss.length ≤ j ∧ ∀ m ∈ ss, ∃ c, dlook ks m = some c ∧ 0 < c) ∧ ∃ x : Option V, σ = [x, some (.ref p), some (.ref hp), some (.ref d), some (.ref l), some (.int mo), some (.int (0 + (i : Int))), x5, x6])
       ⟨rfl, ⟨[], rfl, Nat.le_refl _, fun m hm => (nomatch hm)⟩, none, rfl⟩ (by rw [List.length_map]; omega) (fun j ys σ H2 _ ⟨e3, ⟨ss, e4, e5, _⟩, _⟩ => ⟨by rw [e3]; exact SqL.of e9, by rw [e4, List.length_map]; exact e5⟩) ?_ ?_
      · rintro j x ys σ H2 N hx ⟨eH, ⟨ss, rfl, hsl2, hss⟩, x0, rfl⟩ hN2
        subst eH
        rw [List.getElem?_map] at hx
        obtain ⟨m, hm, rfl⟩ := Option.map_eq_some_iff.mp hx
        obtain ⟨c, hc⟩ := dlook_key (perm.mem_iff.mp (List.mem_of_getElem? hm))
        have dg : DGet H2 d (.int m) (some (.int c)) := by
         have := DGet.k (k := .inl m) e9d
         rw [val_vv2, hc] at this; exact this
        refine ⟨_, rfl, _, rfl, d, .int c, rfl, dg, ?_⟩
        refine ⟨_, _, rfl, rfl, _, rfl, ite2 (fun hx => ?_) (fun hx => ?_)⟩
        · refine ⟨_, rfl, hN2 _ _ _ ⟨rfl, ⟨ss ++ [m], by rw [List.map_append]; rfl, by rw [List.length_append]; simp; omega, fun m' hm' => ?_⟩, _, rfl⟩⟩
          rcases List.mem_append.mp hm' with z | z
          · exact hss m' z
          · rw [List.mem_singleton.mp z]; exact ⟨c, hc, of_decide_eq_true hx⟩
        · exact hN2 _ _ _ ⟨rfl, ⟨ss, rfl, by omega, hss⟩, _, rfl⟩
      · rintro ys σ H2 ⟨eH, ⟨ss, rfl, hsl2, hss⟩, x0, rfl⟩ pl G1 npl s10 e10
        subst eH
        have sG1 := s9.trans s10
        have eD1 := sG1 _ _ eD
        have eL1 := sG1 _ _ eL
        have pG1 := pG.same sG1
        have mG1 : Mo [p] H G1 := mG.trans (Mo.of sG1)
        have hssl : ss.length ≤ 16 := by rw [List.length_map] at hsl2; omega
        have hplp : pl ≠ p := fun z => by obtain ⟨_, _, _, e, _⟩ := pG.same s9; rw [z, e] at npl; cases npl
        refine ⟨_, ?_, fun _ _ h => h⟩
        have hix0 : atI [V.int need, V.ref t] 0 = some (.int need) := rfl
        have skip : ∀ {x6 x7 : Option V}, Mo [p] H G1 ∧ Pot (n + 2 + 2 * (i + 1)) G1 p ∧ ∃ (ks : List (Int × Int)) (fs : List Int) (mo' : Int) (x4 x5 x6' : Option V), G1 d = some (.dK (vv2 ks)) ∧ (ks.map (·.1)).Nodup ∧ LeftIs ks qs fs 1 ∧ ks.map (·.1) = qs.map (·.1) ∧ (∀ m c, dlook ks m = some c → 0 ≤ c) ∧ G1 l = some (.lst (fs.map V.int)) ∧ fs.length ≤ i + 1 ∧
         (∀ z ∈ fs, ∃ c, dlook qs z = some c) ∧ [some (V.ref p), some (.ref hp), some (.ref d), some (.ref l), some (.int mo), some (.int (0 + (i : Int))), x6, x7] = [some (.ref p), some (.ref hp), some (.ref d), some (.ref l), some (.int mo'), x4, x5, x6'] :=
         ⟨mG1, pG1.le (by omega), ks, fs, mo, _, _, _, eD1, hnd, hL, hkk, hnn, eL1, by omega, hfq, rfl⟩
        refine ⟨_, rfl, .inl ⟨pl, _, rfl, .inl (SqL.of e10), ?_⟩⟩
        refine ⟨_, _, rfl, rfl, _, rfl, ite2 (fun hc => ?_) (fun hc => skip)⟩
        have hc := of_decide_eq_true hc
        rw [List.length_map] at hc
        refine ⟨_, rfl, l, _, rfl, .inl (SqL.of eL1), _, rfl, .inr (.inl ⟨hp, _, 0, _, rfl, rfl, SqT.of (mG1 _ _ (nin hhp) h1), hix0, ?_⟩)⟩
        refine (fun key => ⟨_, _, rfl, rfl, _, rfl, ite2 (fun _ => iteT key) (fun _ => ⟨_, rfl, _, _, rfl, rfl, _, rfl, ite2 (fun _ => key) (fun _ => skip)⟩)⟩) ?_
        refine ⟨_, rfl, ?_⟩
        wtm_at "rd"
        refine ⟨l, _, rfl, .inl (SqL.of eL1), _, rfl, .inr (.inl ⟨hp, _, 0, _, rfl, rfl, SqT.of (mG1 _ _ (nin hhp) h1), hix0, ?_⟩)⟩
        refine ⟨_, _, rfl, rfl, .inr ⟨_, rfl, _, _, rfl, rfl, ?_⟩⟩
        refine ⟨_, rfl, ?_⟩
        refine ⟨_, rfl, _, rfl, .inl ⟨pl, _, rfl, .inl (SqL.of e10), ?_⟩⟩
        refine ⟨p, n + 2 + 2 * i, _, rfl, pG1, by omega, by rw [List.length_map]; omega, by rw [List.length_map]; omega, fun k1 G2 m2 p2 k10 k11 => ?_⟩
        rw [List.length_map] at k11
        refine ⟨_, rfl, .inl ⟨pl, _, rfl, .inl (SqL.of (m2 _ _ (nin hplp) e10)), ?_⟩⟩
        wtm_at "rd"
        refine ⟨lenLe (n := 2) rfl (by decide), fun l9 G3 n9' s9' e9' => ?_⟩
        have hl9p : l9 ≠ p := fun z => by obtain ⟨_, _, _, e, _⟩ := p2; rw [z, e] at n9'; cases n9'
        refine ⟨_, rfl, p, _, 2, rfl, p2.same s9', by omega, by decide, by decide, fun k2 G4 m4' p4' k20 k21 => ?_⟩
        obtain ⟨z2, hz2, _, ez2⟩ := atI_ints (zs := [k1, ((ss.map V.int).length : Int) - 1]) (i := k2) (by omega) (by simp; omega)
        have hz2' : 0 ≤ z2 ∧ z2 < ss.length := by rw [List.length_map] at hz2; simp at hz2; omega
        refine .inl ⟨l9, _, _, _, rfl, rfl, SqL.of (m4' _ _ (nin hl9p) e9'), ez2, ?_⟩
        obtain ⟨sz, hsz1, _, esz⟩ := atI_ints (zs := ss) (i := z2) hz2'.1 hz2'.2
        obtain ⟨c, hcz, hcp⟩ := hss sz hsz1
        have m2 : Mo [p] G1 G4 := m2.trans ((Mo.of s9').trans m4')
        have p2 := p4'
        have eD2 := m2 _ _ (nin hdp) eD1
        have eL2 := m2 _ _ (nin hlp) eL1
        refine .inl ⟨pl, _, _, _, rfl, rfl, SqL.of (m2 _ _ (nin hplp) e10), esz, ?_⟩
        refine ⟨_, rfl, .inl ⟨rfl, _, SqL.of eL2⟩, ?_⟩
        refine ⟨_, rfl, l, _, _, rfl, rfl, eL2, by rw [List.length_map, hsz]; omega, ?_⟩
        obtain ⟨c', hc'⟩ : ∃ c', dlook qs sz = some c' := by
         have := hL sz
         rw [hcz] at this
         cases e : dlook qs sz with
         | none => rw [e] at this; cases this
         | some c' => exact ⟨c', rfl⟩
        have eD3 : upd G4 l (.lst (fs.map V.int ++ [.int sz])) d = some (.dK (vv2 ks)) := by rw [upd_ne (fun z => hld z.symm)]; exact eD2
        have eL3 : upd G4 l (.lst (fs.map V.int ++ [.int sz])) l = some (.lst ((fs ++ [sz]).map V.int)) := by rw [upd_same, List.map_append]; rfl
        have mG5 : Mo [p] H (upd G4 l (.lst (fs.map V.int ++ [.int sz]))) := fun b o nb e => by rw [upd_ne (ne_of_none e hlH)]; exact m2 _ _ nb (mG1 _ _ nb e)
        have pG5 : Pot (n + 2 + 2 * (i + 1)) (upd G4 l (.lst (fs.map V.int ++ [.int sz]))) p := by
         obtain ⟨x, y, z, e, r⟩ := p2
         exact ⟨x, y, z, by rw [upd_ne (fun w => hlp w.symm)]; exact e, r⟩
        show tSeq _ _ _ _ (upd G4 l (.lst (fs.map V.int ++ [.int sz])))
        generalize upd G4 l (.lst (fs.map V.int ++ [.int sz])) = G5 at eD3 eL3 mG5 pG5
        have dg : DGet G5 d (.int sz) (some (.int c)) := by
         have := DGet.k (k := .inl sz) eD3
         rw [val_vv2, hcz] at this; exact this
        have hlen : (vv2 ks).length = ks.length := by unfold vv2; rw [List.length_map]
        have hzk : sz ∈ ks.map (·.1) := List.mem_map.mpr ⟨_, dlook_some hcz, rfl⟩
        have hsn := hL.snoc hc'
        rw [hcz] at hsn
        refine ⟨_, rfl, _, rfl, d, .int c, rfl, dg, _, _, rfl, rfl, ?_⟩
        refine ⟨_, rfl, _, rfl, d, _, rfl, DPut.k (k := .inl sz) eD3 (by rw [hlen]; omega), fun b o nb e => ?_, ?_, dput ks sz (c - 1), fs ++ [sz], _, _, _, _, by rw [upd_same, put_vv2], dput_nodup _ _ hnd, hsn, by rw [dput_keys, if_pos hzk]; exact hkk, fun m a e => ?_, ?_, by rw [List.length_append]; simp; omega, fun z hz => ?_, rfl⟩
        · rw [upd_ne (ne_of_none e hd)]; exact mG5 _ _ nb e
        · obtain ⟨x, y, z, e, r⟩ := pG5
          exact ⟨x, y, z, by rw [upd_ne (fun w => hdp w.symm)]; exact e, r⟩
        · rw [dput_look] at e
          by_cases hm : sz = m
          · rw [if_pos hm] at e; injection e with e; omega
          · rw [if_neg hm] at e; exact hnn m a e
        · rw [upd_ne hld]; exact eL3
        · rcases List.mem_append.mp hz with y | y
          · exact hfq z y
          · rw [List.mem_singleton.mp y]; exact ⟨c', hc'⟩
    · rintro σ G ⟨mG, pG, ks, fs, mo, x4, x5, x6, eD, hnd, hL, hkk, hnn, eL, hfl, hfq, rfl⟩
      have hfl : fs.length ≤ 100 := hfl
      have lot : ∀ {ms : List Int}, ms.Perm fs → LotOk qs ms := fun {ms} pm z hz => by
       obtain ⟨c, hc⟩ := hfq z (pm.mem_iff.mp hz)
       refine ⟨c, hc, ?_⟩
       have := hnn z (c - 1 * ((fs.count z : Nat) : Int)) (by rw [hL z, hc]; rfl)
       rw [pm.count_eq z]
       omega
      have hix0 : atI [V.int need, V.ref t] 0 = some (.int need) := rfl
      refine ⟨fun σ' G' => G' = G ∧ need ≤ fs.sum ∧ σ' = [some (.ref p), some (.ref hp), some (.ref d), some (.ref l), some (.int mo), x4, x5, x6], ?_, ?_⟩
      · refine ⟨_, rfl, l, _, rfl, .inl (SqL.of eL), _, rfl, .inr (.inl ⟨hp, _, 0, _, rfl, rfl, SqT.of (mG _ _ (nin hhp) h1), hix0, ?_⟩)⟩
        refine ⟨_, _, rfl, rfl, _, rfl, ite2 (fun hc => ?_) (fun hc => ⟨rfl, ?_, rfl⟩)⟩
        · exact hN G mG (pG.le (by omega))
        · by_cases z : need ≤ fs.sum
          · exact z
          · exact absurd (decide_eq_true (show fs.sum < need by omega)) hc
      · rintro σ' G' ⟨rfl, hfull, rfl⟩
        refine ⟨_, rfl, .inr ⟨l, fs, rfl, .inl (SqL.of eL), fun l2 ms H9 n9 s9 e9 pm pw => ?_⟩⟩
        refine ⟨l2, _, rfl, SqL.of e9, fun a H10 na s10 e10 => ?_⟩
        have haH : H a = none := by
         cases q : H a with
         | none => rfl
         | some o =>
          by_cases z : a = p
          · obtain ⟨_, _, _, e, _⟩ := pG.same s9
            rw [z, e] at na; cases na
          · have := s9 _ _ (mG _ _ (nin z) q); rw [na] at this; cases this
        have hms : need ≤ ms.sum := by rw [perm_sum pm]; exact hfull
        have hne : ms ≠ [] := fun z => by
         rw [z] at hms
         have := h4.n0
         have : need ≤ 0 := hms
         omega
        exact h a ms H10 haH (mG.trans (Mo.of (s9.trans s10))) ((pG.same (s9.trans s10)).le (by omega)) e10 (by rw [pm.length_eq]; exact hfl) hne pw hms (lot pm)
end
theorem can_ints : ∀ zs : List Int, PyData.canLayAll0 (zs.map PyData.int) = true
 | [] => rfl
 | z :: r => by exact can_ints r
theorem dep_ints : ∀ zs : List Int, PyData.depthAll (zs.map PyData.int) ≤ 1
 | [] => by simp [PyData.depthAll]
 | z :: r => by
  have := dep_ints r
  assumption
def dWay (w : List Int) : PyData := .tuple (w.map PyData.int)
theorem can_ways : ∀ ws : List (List Int), PyData.canLayAll0 (ws.map dWay) = true
 | [] => rfl
 | w :: r => by rw [List.map_cons]; unfold dWay; simp only [PyData.canLayAll0, PyData.canLay0, can_ints, Bool.true_and]; exact can_ways r
theorem dep_ways : ∀ ws : List (List Int), PyData.depthAll (ws.map dWay) ≤ 2
 | [] => by simp [PyData.depthAll]
 | w :: r => by
  have := dep_ways r
  have := dep_ints w
  rw [List.map_cons]; unfold dWay at *; simp only [PyData.depthAll, PyData.depth]; omega
theorem pl_ways (ws : List (List Int)) : Pl (.list (ws.map dWay)) := ⟨by simp only [PyData.canLay0]; exact can_ways ws, by have := dep_ways ws; simp only [PyData.depth]; omega⟩
theorem eqv_ways (ws : List (List Int)) : PyData.eqv (.list (ws.map dWay)) (.list (ws.map dWay)) = true := SeqAt.eqv_refl _ (pl_ways ws).1
theorem reps_int {H : Hp} : ∀ zs : List Int, Reps H (zs.map V.int) (zs.map PyData.int)
 | [] => .nil
 | z :: r => .cons (.int z) (reps_int r)
theorem Rows.reps {H : Hp} : ∀ {us : List V} {rs : List (List Int)}, Rows H us rs → Reps H us (rs.map dWay)
 | [], [], _ => .nil
 | [], _ :: _, h => by have := h.1; simp at this
 | _ :: _, [], h => by have := h.1; simp at this
 | u :: us, r :: rs, h => by
  obtain ⟨a, zs, e1, e2, e3⟩ := h.2 0 u rfl
  cases e1; subst e2
  exact .cons (.tup e3 (reps_int _)) (Rows.reps ⟨by have := h.1; simpa using this, fun i v hv => let ⟨a, zs, e1, e2⟩ := h.2 (i + 1) v hv; ⟨a, zs, e1, e2⟩⟩)
theorem rows_one_way {a b rs : List (List Int)} (h1 : a.Perm rs) (h2 : b.Perm rs) (w1 : a.Pairwise (fun u v => HT.lexLt v u = false)) (w2 : b.Pairwise (fun u v => HT.lexLt v u = false)) : a = b := by
 refine List.Perm.eq_of_pairwise (fun u v _ _ z1 z2 => ?_) w1 w2 (h1.trans h2.symm)
 rcases lexLt_total u v with h | h | h
 · rw [h] at z2; cases z2
 · exact h
 · rw [h] at z1; cases z1
theorem in_ints (x : Int) : ∀ zs : List Int, inV (.int x) (zs.map V.int) = decide (x ∈ zs)
 | [] => by rfl
 | z :: r => by
  have ih := in_ints x r
  unfold inV at *
  rw [List.map_cons, List.any_cons, ih]
  by_cases c : z = x
  · subst c; simp [eqV]
  · have c' : ¬ x = z := fun q => c q.symm
    simp [eqV, c, c']
theorem flat_ints : ∀ zs : List Int, (zs.map V.int).all flatV = true
 | [] => rfl
 | z :: r => by rw [List.map_cons, List.all_cons, flat_ints r]; rfl
theorem leansQ_K {need : Int} {qs : List (Int × Int)} : leansQ need qs = leansOf need qs.reverse (totK qs.reverse) [[]] := by
 unfold leansQ
 rw [show totK qs.reverse = tot qs.reverse from rfl, tot_rev]
theorem pos_ok {need : Int} {qs : List (Int × Int)} (ok : HOk8 need qs) : 0 < need ∧ ∀ q ∈ qs, 1 ≤ q.1 ∧ 0 ≤ q.2 := ⟨by have := ok.n0; omega, fun q h => by have := ok.bd q h; exact ⟨this.1, by have := this.2.2.1; omega⟩⟩
theorem all_of {need : Int} {qs : List (Int × Int)} {rs : List (List Int)} (ok : HOk8 need qs) (e : leansQ need qs = some rs) : (∀ r, r ∈ rs ↔ Part qs r ∧ LeanR need r) ∧ (∀ r ∈ rs, r.length ≤ 60) ∧ rs.length ≤ 300 ∧ rs.Nodup := by
 rw [leansQ_K] at e
 have p := pos_ok ok
 have a := leans_all e p.1 p.2 ok.ris
 exact ⟨a.1, a.2.1, a.2.2, leans_nodup e p.1 p.2 ok.ris⟩
theorem some_of {need : Int} {qs qs' : List (Int × Int)} {rs : List (List Int)} (ok : HOk8 need qs) (ok' : HOk8 need qs') (sub : ∀ r, Part qs' r → Part qs r) (e : leansQ need qs = some rs) : ∃ rs', leansQ need qs' = some rs' := by
 cases h : leansQ need qs' with
 | some rs' => exact ⟨rs', rfl⟩
 | none =>
  rw [leansQ_K] at h
  obtain ⟨R, nd, g, c⟩ := leans_none h (pos_ok ok').1 (pos_ok ok').2 ok'.ris
  have a := all_of ok e
  have inr : ∀ x ∈ R, x ∈ rs := fun x hx => (a.1 x).mpr ⟨sub x (g x hx).1, (g x hx).2⟩
  have l := nodup_le nd inr
  rcases c with c | ⟨x, hx, c⟩
  · have := a.2.2.1; omega
  · have := a.2.1 x (inr x hx); omega
def lessAt (qs : List (Int × Int)) (i : Nat) : List (Int × Int) := qs.take i ++ qs.drop (i + 1)
theorem lessAt_sub (qs : List (Int × Int)) (i : Nat) : (lessAt qs i).Sublist qs := by
 unfold lessAt
 rw [← List.eraseIdx_eq_take_drop_succ]
 exact List.eraseIdx_sublist ..
theorem mem_lessAt {qs : List (Int × Int)} (ris : Ris qs) {i : Nat} {q : Int × Int} (hq : qs[i]? = some q) (p : Int × Int) : p ∈ lessAt qs i ↔ p ∈ qs ∧ p.1 ≠ q.1 := by
 obtain ⟨hi, e⟩ := List.getElem?_eq_some_iff.mp hq
 have e1 : qs = qs.take i ++ q :: qs.drop (i + 1) := by
  rw [← e, ← List.drop_eq_getElem_cons hi, List.take_append_drop]
 have r1 : Ris (qs.take i ++ q :: qs.drop (i + 1)) := e1 ▸ ris
 have r2 := List.pairwise_append.mp r1
 have r3 := List.pairwise_cons.mp r2.2.1
 unfold lessAt
 rw [List.mem_append]
 constructor
 · rintro (h | h)
   · exact ⟨List.mem_of_mem_take h, by have := r2.2.2 p h q (.head _); omega⟩
   · exact ⟨List.mem_of_mem_drop h, by have := r3.1 p h; omega⟩
 · rintro ⟨h, n⟩
   rw [e1] at h
   rcases List.mem_append.mp h with h | h
   · exact .inl h
   · rcases List.mem_cons.mp h with h | h
     · exact absurd (by rw [h]) n
     · exact .inr h
theorem lessAt_ok {need : Int} {qs : List (Int × Int)} (ok : HOk8 need qs) (i : Nat) : HOk8 need (lessAt qs i) :=
 ⟨Nat.le_trans (lessAt_sub qs i).length_le ok.len, ok.n0, ok.n1, fun q hq => ok.bd q ((lessAt_sub qs i).mem hq), ok.ris.sublist (lessAt_sub qs i)⟩
theorem part_less {need : Int} {qs : List (Int × Int)} (ok : HOk8 need qs) {i : Nat} {q : Int × Int} (hq : qs[i]? = some q) {r : List Int} : Part (lessAt qs i) r ↔ Part qs r ∧ q.1 ∉ r := by
 have mm := mem_lessAt ok.ris hq
 constructor
 · intro p
   have no : q.1 ∉ r := fun h => by
    obtain ⟨c, hc, e⟩ := p.mem _ h
    exact ((mm c).mp hc).2 e
   refine ⟨⟨p.srt, fun x hx => let ⟨c, hc, e⟩ := p.mem x hx; ⟨c, ((mm c).mp hc).1, e⟩, fun c hc => ?_⟩, no⟩
   by_cases z : c.1 = q.1
   · rw [z, List.count_eq_zero.mpr no]
     have := (ok.bd c hc).2.2.1; omega
   · exact p.cnt c ((mm c).mpr ⟨hc, z⟩)
 · rintro ⟨p, no⟩
   refine ⟨p.srt, fun x hx => ?_, fun c hc => p.cnt c ((mm c).mp hc).1⟩
   obtain ⟨c, hc, e⟩ := p.mem x hx
   exact ⟨c, (mm c).mpr ⟨hc, fun z => no (by rw [← z, e]; exact hx)⟩, e⟩
theorem less_told {need : Int} {qs : List (Int × Int)} {rs : List (List Int)} (ok : HOk8 need qs) (e : leansQ need qs = some rs) {i : Nat} {q : Int × Int} (hq : qs[i]? = some q) : ∃ rs', leansQ need (lessAt qs i) = some rs' ∧ rs'.Perm (rs.filter fun r => !decide (q.1 ∈ r)) := by
 obtain ⟨rs', h⟩ := some_of ok (lessAt_ok ok i) (fun r p => ((part_less ok hq).mp p).1) e
 have a := all_of ok e
 have b := all_of (lessAt_ok ok i) h
 refine ⟨rs', h, (List.perm_ext_iff_of_nodup b.2.2.2 (a.2.2.2.filter _)).mpr fun r => ?_⟩
 rw [b.1, List.mem_filter, a.1, part_less ok hq]
 constructor
 · rintro ⟨⟨x, y⟩, z⟩; exact ⟨⟨x, z⟩, by simpa using y⟩
 · rintro ⟨⟨x, z⟩, y⟩; exact ⟨⟨x, by simpa using y⟩, z⟩
theorem perm_of_count : ∀ (u v : List Int), (∀ a, u.count a ≤ v.count a) → ∃ w, v.Perm (u ++ w)
 | [], v, _ => ⟨v, .refl _⟩
 | x :: u, v, h => by
  have hx : x ∈ v := List.count_pos_iff.mp (by have := h x; rw [List.count_cons_self] at this; omega)
  have pe := List.perm_cons_erase hx
  obtain ⟨w, hw⟩ := perm_of_count u (v.erase x) fun a => by
   have h1 := h a
   have h2 := pe.count_eq a
   rw [List.count_cons] at h1 h2
   omega
  exact ⟨w, pe.trans (hw.cons x)⟩
theorem not_within {need : Int} {u v : List Int} (hu : need ≤ u.sum) (hv : LeanR need v) (su : u.Pairwise (· ≤ ·)) (sv : v.Pairwise (· ≤ ·)) (pos : ∀ x ∈ v, 1 ≤ x) (h : ∀ x ∈ u, u.count x ≤ v.count x) : u = v := by
 obtain ⟨w, hw⟩ := perm_of_count u v fun a => by
  by_cases z : a ∈ u
  · exact h a z
  · rw [List.count_eq_zero.mpr z]; exact Nat.zero_le _
 cases w with
 | nil =>
  rw [List.append_nil] at hw
  exact List.Perm.eq_of_pairwise (fun a b _ _ z1 z2 => Int.le_antisymm z1 z2) su sv hw.symm
 | cons y w =>
  obtain ⟨_, x, t, rfl, ht⟩ := hv
  have e := perm_sum hw
  have hy : y ∈ x :: t := hw.mem_iff.mpr (List.mem_append_right _ (.head _))
  have xy : x ≤ y := by
   rcases List.mem_cons.mp hy with z | z
   · rw [z]; exact Int.le_refl _
   · exact (List.pairwise_cons.mp sv).1 y z
  have nn : ∀ (w : List Int), (∀ z ∈ w, 1 ≤ z) → 0 ≤ w.sum := fun w => by
   induction w with
   | nil => intro _; exact Int.le_refl _
   | cons a w ih =>
    intro h
    have := ih fun z hz => h z (.tail _ hz)
    have := h a (.head _)
    rw [List.sum_cons]; omega
  have := nn w fun z hz => pos z (hw.mem_iff.mpr (List.mem_append_right _ (.tail _ hz)))
  rw [List.sum_cons, List.sum_append, List.sum_cons] at e
  omega
theorem dl_mem {need : Int} {qs : List (Int × Int)} (ok : HOk8 need qs) {q : Int × Int} (h : q ∈ qs) : dlook qs q.1 = some q.2 := (dlook_mem ok.ris.nodup q).mp h
theorem part_cnt {need : Int} {qs : List (Int × Int)} {r : List Int} (ok : HOk8 need qs) (p : Part qs r) : ∀ z ∈ r, ((r.count z : Nat) : Int) ≤ (dlook qs z).getD 0 := fun z hz => by
 obtain ⟨q, hq, e⟩ := p.mem z hz
 have := p.cnt q hq
 rw [e] at this
 rw [← e, dl_mem ok hq]
 exact e ▸ this
theorem lean_part {need : Int} {qs : List (Int × Int)} {zs : List Int} (ok : HOk8 need qs) (n : need ≤ zs.sum) (s : zs.Pairwise (· ≤ ·)) (l : LotOk qs zs) : Part qs (leanL need zs) ∧ LeanR need (leanL need zs) := by
 have suf := (leanL_suf need zs).sublist
 have n0 := ok.n0
 have low := leanL_lean n0 zs
 refine ⟨⟨s.sublist suf, fun x hx => ?_, fun q hq => ?_⟩, leanL_full n, ?_⟩
 · obtain ⟨c, hc, _⟩ := l x (suf.mem hx)
   exact ⟨(x, c), dlook_some hc, rfl⟩
 · have h1 := suf.count_le q.1
   by_cases z : q.1 ∈ zs
   · obtain ⟨c, hc, h2⟩ := l _ z
     rw [dl_mem ok hq] at hc
     cases hc; omega
   · rw [List.count_eq_zero.mpr z] at h1
     have := (ok.bd q hq).2.2.1; omega
 · cases e : leanL need zs with
   | nil => exact absurd e (leanL_ne n0 n)
   | cons x t => rw [e] at low; exact ⟨x, t, rfl, low⟩
theorem both_one {need : Int} {qs : List (Int × Int)} (ok : HOk8 need qs) {s m : Int} (h : (s, m) ∈ qs) (q : Int × Int) : q ∈ bothK qs [(s, 1)] ↔ if s = q.1 then m + 1 = q.2 else q ∈ qs := by
 have e : bothK qs [(s, 1)] = dput qs s (m + 1) := by
  show dput qs s ((dlook qs s).getD 0 + 1) = _
  rw [show dlook qs s = some m from dl_mem ok h]; rfl
 rw [dlook_mem (both_ok ok.ris.nodup _).1, e, dput_look]
 by_cases z : s = q.1
 · rw [if_pos z, if_pos z]; exact ⟨fun h => Option.some.inj h, fun h => by rw [h]⟩
 · rw [if_neg z, if_neg z, dlook_mem ok.ris.nodup]
theorem part_more {need : Int} {qs ps : List (Int × Int)} (ok : HOk8 need qs) {s m : Int} (h : (s, m) ∈ qs) (hp : ∀ q, q ∈ ps ↔ q ∈ bothK qs [(s, 1)]) {r : List Int} (p : Part qs r) : Part ps r := by
 refine ⟨p.srt, fun x hx => ?_, fun q hq => ?_⟩
 · obtain ⟨q, hq, e⟩ := p.mem x hx
   by_cases z : s = x
   · exact ⟨(s, m + 1), (hp _).mpr ((both_one ok h _).mpr (by rw [if_pos rfl])), z⟩
   · exact ⟨q, (hp _).mpr ((both_one ok h _).mpr (by rw [if_neg (by rw [e]; exact z)]; exact hq)), e⟩
 · have hq := (both_one ok h q).mp ((hp q).mp hq)
   by_cases z : s = q.1
   · rw [if_pos z] at hq
     have := p.cnt _ h
     rw [← z]
     have : ((r.count s : Nat) : Int) ≤ m := this
     omega
   · rw [if_neg z] at hq; exact p.cnt q hq
theorem eqv_ints : ∀ ts us : List Int, PyData.eqvAll (ts.map PyData.int) (us.map PyData.int) = (ts == us)
 | [], [] => rfl
 | [], _ :: _ => rfl
 | _ :: _, [] => rfl
 | t :: r, u :: q => by
  rw [List.map_cons, List.map_cons]; simp only [PyData.eqvAll, PyData.eqv, eqv_ints r q]; rfl
theorem pl_way (u : List Int) : Pl (dWay u) := ⟨can_ints u, by have := dep_ints u; unfold dWay; simp only [PyData.depth]; omega⟩
theorem eqv_way (u v : List Int) : PyData.eqv (dWay u) (dWay v) = decide (u = v) := by
 have h : PyData.eqv (dWay u) (dWay v) = PyData.eqvAll (u.map PyData.int) (v.map PyData.int) := rfl
 rw [h, eqv_ints]
 by_cases c : u = v
 · rw [decide_eq_true c]; simpa using c
 · rw [decide_eq_false c]; simpa using c
theorem any_way (rs : List (List Int)) (u : List Int) : ((rs.map dWay).any fun e => e.eqv (dWay u)) = decide (u ∈ rs) := by
 rw [List.any_map]
 by_cases c : u ∈ rs
 · rw [decide_eq_true c]
   exact List.any_eq_true.mpr ⟨u, c, by show PyData.eqv (dWay u) (dWay u) = true; rw [eqv_way]; exact decide_eq_true rfl⟩
 · rw [decide_eq_false c]
   refine List.any_eq_false.mpr fun v hv => ?_
   show ¬ PyData.eqv (dWay v) (dWay u) = true
   rw [eqv_way]
   intro z
   exact c (of_decide_eq_true z ▸ hv)
section
local macro_rules | `(tactic| wtm_at "call") => `(tactic| (apply k_countB; (wtm_at "K"); (rfl); (rfl); (rfl); (rfl); (rfl); (wtm_at "pe"); (wtm_at "pa")))
variable {P : Program} {w : World} {K : PySem.W.Frag} {mg : Str → Option Value} {base : Heap}
abbrev sLies : Stmt := top 36
theorem scLies : FnScope ["one", "other"] ["one", "other"] (defScope sLies) := ⟨rfl, rfl, rfl, by decide +kernel, rfl, by decide +kernel, by decide +kernel⟩
def liesB (u v : List Int) : Bool := u.all fun x => decide (u.count x ≤ v.count x)
def spLies : Sp := fun vs H Q _ => ∃ (a b : Addr) (u v : List Int), vs = [.ref a, .ref b] ∧ H a = some (.tup (u.map V.int)) ∧ H b = some (.tup (v.map V.int)) ∧ u.length ≤ 60 ∧ ∀ H', L2.Same H H' → Q (.bl (liesB u v)) H'
theorem ok_lies {f : Addr} {fd : FuncData} (F : Fun K "_law_lies_in" "_law_lies_in" sLies f fd) (mA : mg "all" = none) : FnOk P w K mg base CX0 1 f fd ["one", "other"] spLies := by
 refine Br.Fun.j F scLies (fun vs H Q E h => ?_) (fun cdv A outer s H vs Q E hr h => ?_)
 · obtain ⟨_, _, _, _, rfl, _⟩ := h; rfl
 · obtain ⟨a, b, u, v, rfl, ha, hb, hl, h⟩ := h
   have nd := scLies.nd
   have hsz : (sizeLine : Nat) = 16777216 := sizeLine_eq
   refine' ⟨_, ?d, ?r⟩
   case d => wtm_at "body"
   case r =>
    refine ⟨_, rfl, a, rfl, .inr ⟨⟨_, SqT.of ha⟩, ?_⟩⟩
    refine cmp_tup (K := K) (a := a) (xs := u.map V.int) (fun j ys σ G => G = H ∧ ys = ((u.map fun x => decide (u.count x ≤ v.count x)).take j).map V.bl ∧ ∃ x : Option V, σ = [x, some (.ref a), some (.ref b)])
     ⟨rfl, rfl, none, rfl⟩ (by rw [List.length_map]; omega) (fun j ys σ G _ ⟨e, r, _⟩ => ⟨by rw [e]; exact SqT.of ha, by rw [r, List.length_map, List.length_take]; exact Nat.min_le_left _ _⟩) ?_ ?_
    · rintro j x ys σ G N hx ⟨rfl, rfl, x0, rfl⟩ hN
      rw [List.getElem?_map] at hx
      obtain ⟨c, hc, rfl⟩ := Option.map_eq_some_iff.mp hx
      refine ⟨_, rfl, ⟨a, u, rfl, ha⟩, _, rfl, a, u, c, rfl, rfl, SqT.of ha, ?_⟩
      refine ⟨_, rfl, ⟨b, v, rfl, hb⟩, _, rfl, b, v, c, rfl, rfl, SqT.of hb, ?_⟩
      refine ⟨_, _, rfl, rfl, hN _ _ _ ⟨rfl, ?_, _, rfl⟩⟩
      rw [List.take_add_one, List.getElem?_map, hc, List.map_append]
      have e4 : decide (((u.count c : Nat) : Int) ≤ ((v.count c : Nat) : Int)) = decide (u.count c ≤ v.count c) := decide_eq_decide.mpr Int.ofNat_le
      show _ ++ [V.bl (decide (((u.count c : Nat) : Int) ≤ ((v.count c : Nat) : Int)))] = _
      rw [e4]; rfl
    · rintro ys σ G ⟨rfl, rfl, x0, rfl⟩ al G2 na s2 e2
      rw [List.take_of_length_le (by rw [List.length_map, List.length_map]; exact Nat.le_refl _)] at e2
      have e3 : liesB u v = (u.map fun x => decide (u.count x ≤ v.count x)).all id := by unfold liesB; rw [List.all_map]; rfl
      refine ⟨al, _, rfl, SqL.of e2, ?_⟩
      have h5 := h G2 s2
      rw [e3] at h5
      exact h5
end
section
local macro_rules | `(tactic| wtm_at "ps") => `(tactic| (apply s_try1; (assumption); (rfl); (rfl); (rfl); (rfl); (decide +kernel); (wtm_at "pssx"); (intro ea; wtm_at "pss")))
variable {P : Program} {w : World} {K : PySem.W.Frag} {mg : Str → Option Value} {base : Heap}
abbrev sTold : Stmt := top 37
theorem scTold : FnScope ["heap"] ["heap"] (defScope sTold) := ⟨rfl, rfl, rfl, by decide +kernel, rfl, by decide +kernel, by decide +kernel⟩
def spTold (K : PySem.W.Frag) : Sp := fun vs H Q _ => ∃ (h : Addr) (need : Int) (qs : List (Int × Int)), vs = [.ref h] ∧ HeapW K H h need qs ∧ (leansQ need qs = none → ∀ H', L2.Same H H' → Q .non H') ∧
 (∀ rs, leansQ need qs = some rs → ∀ (l : Addr) (H' : Hp), H l = none → L2.Same H H' → Told H' l rs → Q (.ref l) H')
theorem ok_told {f : Addr} {fd : FuncData} {C B : Addr} (F : Fun K "_law_told" "_law_told" sTold f fd) (eR : ECls K mg "TooMany" C B) (cL : Callee (CXF P w) P w K mg base "lean_lots" 3 ["heap"] (spLean K C)) : FnOk P w K mg base CX0 4 f fd ["heap"] (spTold K) := by
 refine Br.Fun.j F scTold (fun vs H Q E h => ?_) (fun cdv A outer s H vs Q E hr h => ?_)
 · obtain ⟨_, _, _, rfl, _⟩ := h; rfl
 · obtain ⟨hp, need, qs, rfl, hh, hN, h⟩ := h
   have nd := scTold.nd
   refine' ⟨_, ?d, ?r⟩
   case d => wtm_at "body"
   case r =>
    refine ⟨_, rfl, hp, need, qs, rfl, hh, fun hn H1 s1 => ?_, fun rs e l H1 nl s1 t => h rs e l H1 nl s1 t⟩
    exact ⟨eR.selfX, C, rfl, fun ea hea => hN hn _ (s1.trans (Br.Same.upd hea))⟩
end
section
local macro_rules | `(tactic| wtm_at "cop") => `(tactic| (apply c_neD; assumption))
variable {P : Program} {w : World} {K : PySem.W.Frag} {mg : Str → Option Value} {base : Heap}
abbrev sNw : Stmt := top 38
theorem scNw : FnScope ["found", "one", "other"] ["found"] (defScope sNw) := ⟨rfl, rfl, rfl, by decide +kernel, rfl, by decide +kernel, by decide +kernel⟩
def spNw : Sp := fun vs H Q _ => ∃ (l : Addr) (us : List V) (rs : List (List Int)), vs = [.ref l] ∧ H l = some (.lst us) ∧ Rows H us rs ∧ (∀ r ∈ rs, r.length ≤ 60) ∧ (∀ u ∈ rs, ∀ v ∈ rs, liesB u v = true → u = v) ∧ ∀ H', L2.Same H H' → Q (.bl true) H'
theorem ok_nw {f : Addr} {fd : FuncData} (F : Fun K "_law_none_within" "_law_none_within" sNw f fd) (cL : Callee CX0 P w K mg base "_law_lies_in" 1 ["one", "other"] spLies) : FnOk P w K mg base CX0 2 f fd ["found"] spNw := by
 refine Br.Fun.j F scNw (fun vs H Q E h => ?_) (fun cdv A outer s H vs Q E hr h => ?_)
 · obtain ⟨_, _, _, rfl, _⟩ := h; rfl
 · obtain ⟨l, us, rs, rfl, hl, hr', h60, hw, h⟩ := h
   have nd := scNw.nd
   have hsz : (sizeLine : Nat) = 16777216 := sizeLine_eq
   refine' ⟨_, ?d, ?r⟩
   case d => wtm_at "body"
   case r =>
    refine ⟨_, rfl, l, rfl, .inl ⟨⟨_, SqL.of hl⟩, ?_⟩⟩
    refine for_list (K := K) (a := l) (xs := us) (fun i σ G => L2.Same H G ∧ ∃ x1 x2 : Option V, σ = [some (.ref l), x1, x2])
     ⟨L2.Same.refl _, none, none, rfl⟩ (fun i σ G _ ⟨sG, _⟩ => SqL.of (sG _ _ hl)) ?_ ?_
    · rintro i x σ G hx ⟨sG, x1, x2, rfl⟩
      obtain ⟨a, u, hu, rfl, ha⟩ := hr'.2 i x hx
      refine ⟨_, rfl, l, rfl, .inl ⟨⟨_, SqL.of (sG _ _ hl)⟩, ?_⟩⟩
      refine for_list (K := K) (a := l) (xs := us) (fun i σ G => L2.Same H G ∧ ∃ x2 : Option V, σ = [some (.ref l), some (.ref a), x2])
       ⟨sG, _, rfl⟩ (fun i σ G _ ⟨sG, _⟩ => SqL.of (sG _ _ hl)) ?_ ?_
      · rintro j y σ G hy ⟨sG, x2, rfl⟩
        obtain ⟨b, v, hv, rfl, hb⟩ := hr'.2 j y hy
        refine ⟨fun σ' G' => L2.Same H G' ∧ σ' = [some (.ref l), some (.ref a), some (.ref b)], ?_, ?_⟩
        · refine ⟨_, rfl, _, rfl, .inr ⟨_, _, .tup (sG _ _ ha) (reps_int _), .tup (sG _ _ hb) (reps_int _), pl_way u, pl_way v, _, rfl, ite2 (fun hc => ?_) (fun hc => ⟨sG, rfl⟩)⟩⟩
          refine ⟨_, rfl, _, rfl, a, b, u, v, rfl, sG _ _ ha, sG _ _ hb, h60 u (List.mem_of_getElem? hu), fun G2 s2 => ?_⟩
          cases hlb : liesB u v with
          | true =>
           have e := hw u (List.mem_of_getElem? hu) v (List.mem_of_getElem? hv) hlb
           have hc : (!PyData.eqv (dWay u) (dWay v)) = true := hc
           rw [eqv_way, decide_eq_true e] at hc; cases hc
          | false => exact ⟨_, rfl, iteF' rfl ⟨sG.trans s2, rfl⟩⟩
        · rintro σ' G' ⟨sG', rfl⟩
          exact ⟨sG', _, rfl⟩
      · rintro σ G ⟨sG, x2, rfl⟩
        exact ⟨sG, _, _, rfl⟩
    · rintro σ G ⟨sG, x1, x2, rfl⟩
      exact h G sG
end
def spGreatL (C : Addr) : Sp := fun vs H Q _ => spGreat C vs H Q fun _ _ _ => False
section
variable {P : Program} {w : World} {K : PySem.W.Frag} {mg : Str → Option Value} {base : Heap}
theorem ok_greatL {f : Addr} {fd : FuncData} {C : Addr} (F : Fun K "greatest_lots" "greatest_lots" sGreat f fd) (cL : Callee (CXF P w) P w K mg base "lean_lots" 3 ["heap"] (spLean K C)) : FnOk P w K mg base CX0 4 f fd ["heap"] (spGreatL C) := by exact Br.FnOk.low (ok_great F cL)
end
theorem cmp_rows {K : PySem.W.Frag} {a : Addr} {xs : List V} {rs : List (List Int)} {p : List Int → Bool} {G : Hp} {σ0 : L2.St} {tt : TT} {Z : List V → Hp → Prop} (e : G a = some (.lst xs)) (r : Rows G xs rs) (hz : xs.length ≤ sizeLine)
 (ht : ∀ (b : Addr) (zs : List Int) (Q : Bool → Hp → Prop), zs ∈ rs → G b = some (.tup (zs.map V.int)) → Q (p zs) G → tt (some (.ref b) :: σ0) G Q) (hd : ∀ ys, Rows G ys (rs.filter p) → Z ys G) : Cmp (Itl K a) (gName 0) tt (tVar 0) (List.replicate 1 none ++ σ0) G Z := by
 refine cmp_list (K := K) (a := a) (xs := xs) (fun j ys σ G' => G' = G ∧ Rows G ys ((rs.take j).filter p) ∧ ∃ x : Option V, σ = x :: σ0)
  ⟨rfl, Rows.nil, none, rfl⟩ hz (fun j ys σ G' _ ⟨e', r', _⟩ => ⟨by rw [e']; exact SqL.of e, by rw [r'.1]; exact Nat.le_trans (List.length_filter_le _ _) (by rw [List.length_take]; exact Nat.min_le_left _ _)⟩) ?_ ?_
 · rintro j x ys σ G' N hx ⟨rfl, r', x0, rfl⟩ hN
   obtain ⟨b, zs, hz, rfl, hb⟩ := r.2 j x hx
   refine ht b zs _ (List.mem_of_getElem? hz) hb ?_
   cases hc : p zs with
   | true =>
    refine iteT ⟨_, rfl, hN _ _ _ ⟨rfl, ?_, _, rfl⟩⟩
    rw [List.take_add_one, hz, List.filter_append]
    have : ((some zs).toList : List (List Int)).filter p = [zs] := by
     show List.filter p [zs] = [zs]
     rw [List.filter_cons, hc]; rfl
    rw [this]; exact r'.app (Rows.one hb)
   | false =>
    refine iteF (hN _ _ _ ⟨rfl, ?_, _, rfl⟩)
    rw [List.take_add_one, hz, List.filter_append]
    have : ((some zs).toList : List (List Int)).filter p = [] := by
     show List.filter p [zs] = []
     rw [List.filter_cons, hc]; rfl
    rw [this, List.append_nil]; exact r'
 · rintro ys σ G' ⟨rfl, r', x0, rfl⟩
   rw [r.1, List.take_length] at r'
   exact hd ys r'
theorem cut_hi {xs : List V} {k : Nat} (h : k < xs.length) : cutV xs none (some (k : Int)) = xs.take k ∧ ¬ (HT.sIx xs.length 0 none = 0 ∧ HT.sIx xs.length xs.length (some (k : Int)) = xs.length) := by
 unfold cutV
 rw [HT.sIx_nat, HT.sIx_none, Nat.min_eq_left (by omega)]
 exact ⟨rfl, fun z => by omega⟩
theorem cut_from {xs : List V} {k : Nat} (h : k < xs.length) : cutV xs (some ((k : Int) + 1)) none = xs.drop (k + 1) ∧ ¬ (HT.sIx xs.length 0 (some ((k : Int) + 1)) = 0 ∧ HT.sIx xs.length xs.length none = xs.length) := by
 unfold cutV
 rw [show ((k : Int) + 1) = ((k + 1 : Nat) : Int) from rfl, HT.sIx_nat, HT.sIx_none, Nat.min_eq_left (by omega)]
 exact ⟨List.take_of_length_le (by rw [List.length_drop]; omega), fun z => by omega⟩
theorem kinds_less {H : Hp} {us : List V} {qs : List (Int × Int)} (k : Kinds H us qs) (i : Nat) : Kinds H (us.take i ++ us.drop (i + 1)) (lessAt qs i) := by
 unfold lessAt
 rw [← List.eraseIdx_eq_take_drop_succ, ← List.eraseIdx_eq_take_drop_succ]
 refine ⟨by rw [List.length_eraseIdx, List.length_eraseIdx, k.1], fun j v h => ?_⟩
 rw [List.getElem?_eraseIdx] at h ⊢
 split at h
 · next c => rw [if_pos c]; exact k.2 _ _ h
 · next c => rw [if_neg c]; exact k.2 _ _ h
theorem j_tup1F (ha : JA X [.Tuple es k p] t) : JE X (.Tuple [.Tuple es k p] k2 pos) (tTupF t) := j_tupF ha
section
local macro_rules | `(tactic| wtm_at "cop") => `(tactic| first | (apply c_neD; assumption) | (apply c_eqD; assumption) | apply c_isN | apply c_isnotX | (apply c_inX; (wtm_at "K"); assumption) | (apply c_notInX; (wtm_at "K"); assumption))
local macro_rules | `(tactic| wtm_at "pe") => `(tactic| (apply j_tup1F; (wtm_at "pa")))
variable {P : Program} {w : World} {K : PySem.W.Frag} {mg : Str → Option Value} {base : Heap}
abbrev sHolds : Stmt := top 39
theorem scHolds : FnScope ["pot", "heap", "found", "lot", "turn", "at", "less", "size", "many", "more"] ["pot", "heap", "found"] (defScope sHolds) := ⟨rfl, rfl, rfl, by decide +kernel, rfl, by decide +kernel, by decide +kernel⟩
def spHolds : Sp := fun vs H Q _ => ∃ (p h l : Addr) (n : Nat) (need : Int) (qs : List (Int × Int)) (rs : List (List Int)), vs = [.ref p, .ref h, .ref l] ∧ Pot n H p ∧ n ≤ 10 ^ 44 ∧ HeapAt H h need qs ∧ 0 < qs.length ∧ qs.length ≤ 6 ∧ (∀ q ∈ qs, q.2 ≤ 10 ^ 12) ∧ leansQ need qs = some rs ∧ Told H l rs ∧ l ≠ p ∧ ∀ H', Mo [p] H H' → Q (.bl true) H'
theorem ok_holds {f : Addr} {fd : FuncData} {C : Addr} (F : Fun K "_law_holds" "_law_holds" sHolds f fd) (cI : Callee CX0 P w K mg base "is_lean" 2 ["need", "lot"] (spIsLn K)) (cW : Callee CX0 P w K mg base "heap_without" 3 ["heap", "lot"] (spWithout K))
 (cN : Callee CX0 P w K mg base "_law_none_within" 2 ["found"] spNw) (cF : Callee CX0 P w K mg base "_law_full_lot" 2 ["pot", "heap"] spFullLot) (cO : Callee CX0 P w K mg base "lean_of" 2 ["need", "lot"] spLnOf) (cT : Callee CX0 P w K mg base "_law_told" 4 ["heap"] (spTold K))
 (cK : Callee CX0 P w K mg base "_law_take" 1 ["pot", "size"] spTake) (cB : Callee CX0 P w K mg base "put_beside" 1 ["one", "other"] spBeside) (cG : Callee CX0 P w K mg base "greatest_lots" 4 ["heap"] (spGreatL C))
 (mL : mg "len" = none) (mR : mg "range" = none) (mU : mg "sum" = none) (mA : mg "all" = none) : FnOk P w K mg base CX0 5 f fd ["pot", "heap", "found"] spHolds := by
 refine Br.Fun.j F scHolds (fun vs H Q E h => ?_) (fun cdv A outer s H vs Q E hr h => ?_)
 · obtain ⟨_, _, _, _, _, _, _, rfl, _⟩ := h; rfl
 · obtain ⟨p, hp, l, n, need, qs, rs, rfl, hpot, hn, hh, hq0, hq6, hb2, hrs, tl, hlp, h⟩ := h
   have nd := scHolds.nd
   have hsz : (sizeLine : Nat) = 16777216 := sizeLine_eq
   refine' ⟨_, ?d, ?r⟩
   case d => wtm_at "body"
   case r =>
    obtain ⟨t, ob, us, h1, hb, h2, h3, h4⟩ := id hh
    obtain ⟨bs, ws, eL, rL, pL, wL⟩ := tl
    have hul := h3.1
    have all := all_of h4 hrs
    have inw : ∀ r, r ∈ ws → Part qs r ∧ LeanR need r := fun r hr => (all.1 r).mp (pL.mem_iff.mp hr)
    have w60 : ∀ r ∈ ws, r.length ≤ 60 := fun r hr => all.2.1 r (pL.mem_iff.mp hr)
    have w300 : ws.length ≤ 300 := by rw [pL.length_eq]; exact all.2.2.1
    have wnd : ws.Nodup := pL.nodup_iff.mpr all.2.2.2
    have hix0 : atI [V.int need, V.ref t] 0 = some (.int need) := rfl
    have hix1 : atI [V.int need, V.ref t] 1 = some (.ref t) := rfl
    have hne : ∀ r, LeanR need r → r ≠ [] := fun r ⟨_, x, t, e, _⟩ z => by rw [z] at e; cases e
    refine ⟨_, rfl, l, rfl, .inl ⟨⟨_, SqL.of eL⟩, ?_⟩⟩
    refine for_list (K := K) (a := l) (xs := bs.map V.ref) (fun i σ G => L2.Same H G ∧ ∃ x3 : Option V, σ = [some (.ref p), some (.ref hp), some (.ref l), x3, none, none, none, none, none, none])
     ⟨L2.Same.refl _, none, rfl⟩ (fun i σ G _ ⟨sG, _⟩ => SqL.of (sG _ _ eL)) ?_ ?_
    · rintro i x σ G hx ⟨sG, x3, rfl⟩
      obtain ⟨b, zs, hz, rfl, hb'⟩ := rL.2 i x hx
      have hzm := List.mem_of_getElem? hz
      obtain ⟨pt, ln⟩ := inw zs hzm
      refine ⟨fun σ' G' => L2.Same H G' ∧ σ' = [some (.ref p), some (.ref hp), some (.ref l), some (.ref b), none, none, none, none, none, none], ?_, ?_⟩
      · refine ⟨_, rfl, .inr (.inl ⟨hp, _, 0, _, rfl, rfl, SqT.of (sG _ _ h1), hix0, ?_⟩)⟩
        refine ⟨_, rfl, need, b, zs, rfl, SqT.of (sG _ _ hb'), hne _ ln, fun G2 s2 => ?_⟩
        have e1 : (decide (need ≤ zs.sum) && !decide (need ≤ zs.tail.sum)) = true := by
         obtain ⟨a1, x, t', e, a2⟩ := ln
         rw [decide_eq_true a1, e, List.tail_cons, decide_eq_false (by omega)]; rfl
        rw [e1]
        refine .inl ⟨_, _, rfl, rfl, _, rfl, iteF ?_⟩
        have s12 := sG.trans s2
        refine ⟨_, rfl, _, rfl, hp, b, need, qs, zs, rfl, hh.tu (Tu.of s12), SqT.of (s12 _ _ hb'), by have := w60 zs hzm; omega, part_cnt h4 pt, fun h' G3 s3 hh' => ?_⟩
        exact ⟨rfl, _, rfl, iteF ⟨s12.trans s3, rfl⟩⟩
      · rintro σ' G' ⟨sG', rfl⟩
        exact ⟨sG', _, rfl⟩
    rintro σ G ⟨sG, x3, rfl⟩
    refine ⟨fun σ' G' => L2.Same H G' ∧ ∃ x3 : Option V, σ' = [some (.ref p), some (.ref hp), some (.ref l), x3, none, none, none, none, none, none], ?_, ?_⟩
    · refine ⟨_, rfl, .inl ⟨l, _, rfl, .inl (SqL.of (sG _ _ eL)), _, _, rfl, rfl, _, rfl, ite2 (fun hc => ?_) (fun hc => ⟨sG, _, rfl⟩)⟩⟩
      refine ⟨_, rfl, l, bs.map V.ref, ws, rfl, sG _ _ eL, rL.same sG, w60, fun u hu v hv hl => ?_, fun G2 s2 => ?_⟩
      · obtain ⟨pu, lu⟩ := inw u hu
        obtain ⟨pv, lv⟩ := inw v hv
        refine not_within lu.1 lv pu.srt pv.srt (fun x hx => ?_) fun x hx => of_decide_eq_true (List.all_eq_true.mp hl x hx)
        obtain ⟨q, hq, e⟩ := pv.mem x hx
        rw [← e]; exact (h4.bd q hq).1
      · exact ⟨_, rfl, iteF ⟨sG.trans s2, _, rfl⟩⟩
    rintro σ' G ⟨sG, x3, rfl⟩
    have tu : ∀ {G : Hp}, Mo [p] H G → Tu H G := fun m => Tu.mo hpot m
    have ntt : ∀ {b : Addr} {o : HO}, H b = some o → IsT o → b ∉ [p] := fun {b o} e x z => by
     rw [List.mem_singleton.mp z] at e
     obtain ⟨_, _, _, e2, _⟩ := hpot
     rcases x with ⟨xs, rfl⟩ | ⟨ob, xs, rfl⟩ <;> (rw [e2] at e; cases e)
    have nl : l ∉ [p] := fun z => hlp (List.mem_singleton.mp z)
    have sqt : ∀ {G : Hp}, Mo [p] H G → SqT K G t us := fun m => .inl (.inr ⟨_, m _ _ (ntt h2 (.inr ⟨_, _, rfl⟩)) h2⟩)
    have sqh : ∀ {G : Hp}, Mo [p] H G → SqT K G hp [V.int need, V.ref t] := fun m => SqT.of (m _ _ (ntt h1 (.inl ⟨_, rfl⟩)) h1)
    refine ⟨_, rfl, by decide, by decide, for_range (fun i σ G => Mo [p] H G ∧ Pot (n + 400 * i) G p ∧ ∃ x3 x4 : Option V, σ = [some (.ref p), some (.ref hp), some (.ref l), x3, x4, none, none, none, none, none]) ⟨Mo.of sG, (hpot.same sG).le (by omega), x3, none, rfl⟩ ?_ ?_⟩
    · rintro i σ G hi0 ⟨mG, pG, x3, x4, rfl⟩
      have hi : i < 3 := hi0
      refine ⟨_, rfl, _, rfl, p, hp, n + 400 * i, need, qs, rfl, pG, by omega, hh.tu (tu mG), fun G2 m2 p2 => ?_, fun a zs G2 na m2 p2 e2 hzl hzn hzs hzf hzo => ?_⟩
      · refine ⟨fun σ' G' => Mo [p] H G' ∧ Pot (n + 400 * (i + 1)) G' p ∧ σ' = [some (.ref p), some (.ref hp), some (.ref l), some .non, some (.int (0 + (i : Int))), none, none, none, none, none], ⟨_, rfl, .inr ⟨rfl, _, rfl, iteF' (by simp) ⟨mG.trans m2, p2.le (by omega), rfl⟩⟩⟩, ?_⟩
        rintro σ' G' ⟨m', p', rfl⟩
        exact ⟨m', p', _, _, rfl⟩
      · have mG2 := mG.trans m2
        refine ⟨fun σ' G' => Mo [p] H G' ∧ Pot (n + 400 * (i + 1)) G' p ∧ σ' = [some (.ref p), some (.ref hp), some (.ref l), some (.ref a), some (.int (0 + (i : Int))), none, none, none, none, none], ?_, ?_⟩
        · refine ⟨_, rfl, .inr ⟨rfl, _, rfl, iteT' (by simp) ?_⟩⟩
          refine ⟨_, rfl, a, zs, rfl, .inr (SqT.of e2), _, rfl, .inr (.inl ⟨hp, _, 0, _, rfl, rfl, sqh mG2, hix0, ?_⟩)⟩
          refine ⟨_, _, rfl, rfl, _, rfl, iteF' (decide_eq_false (by omega)) ?_⟩
          refine ⟨_, rfl, .inr (.inl ⟨hp, _, 0, _, rfl, rfl, sqh mG2, hix0, ?_⟩)⟩
          obtain ⟨lp1, lp2⟩ := lean_part h4 hzf hzs hzo
          refine ⟨_, rfl, need, a, zs, rfl, e2, hzn, h4.n0, hzf, fun b G3 s3 e3 => ?_⟩
          have mG3 := mG2.trans (Mo.of s3)
          refine ⟨_, rfl, .inr ⟨l, _, _, _, rfl, SqL.of (mG3 _ _ nl eL), (rL.tu (tu mG3)).reps, .tup e3 (reps_int _), fun e he => ?_, pl_way _, _, rfl, ?_⟩⟩
          · obtain ⟨u, _, rfl⟩ := List.mem_map.mp he
            exact pl_way u
          have e5 : (true != (ws.map dWay).any fun e => e.eqv (dWay (leanL need zs))) = false := by
           rw [any_way, decide_eq_true (pL.mem_iff.mpr ((all.1 _).mpr ⟨lp1, lp2⟩))]; rfl
          exact iteF' e5 ⟨mG3, (p2.same s3).le (by omega), rfl⟩
        · rintro σ' G' ⟨m', p', rfl⟩
          exact ⟨m', p', _, _, rfl⟩
    rintro σ G ⟨mG, pG, x3, x4, rfl⟩
    refine ⟨_, rfl, .inr (.inl ⟨hp, _, 1, _, rfl, rfl, sqh mG, hix1, ?_⟩)⟩
    refine .inl ⟨t, _, rfl, .inr (sqt mG), ?_⟩
    refine ⟨_, rfl, by omega, by omega, for_range (fun i σ G => Mo [p] H G ∧ Pot (n + 1200) G p ∧ ∃ x3 x4 x5 x6 : Option V, σ = [some (.ref p), some (.ref hp), some (.ref l), x3, x4, x5, x6, none, none, none]) ⟨mG, pG, x3, x4, none, none, rfl⟩ ?_ ?_⟩
    · rintro i σ G hi0 ⟨mG, pG, x3, x4, x5, x6, rfl⟩
      have hi : i < us.length := by simpa using hi0
      have hi2 : i < qs.length := by omega
      obtain ⟨q, hq⟩ : ∃ q, qs[i]? = some q := ⟨_, List.getElem?_eq_getElem hi2⟩
      obtain ⟨v, hv⟩ : ∃ v, us[i]? = some v := ⟨_, List.getElem?_eq_getElem hi⟩
      obtain ⟨q', hq', r, rfl, hrr⟩ := h3.2 i v hv
      rw [hq] at hq'; cases hq'
      have hat : atI us (0 + (i : Int)) = some (.ref r) := by rw [Int.zero_add]; exact atI_nat hv
      refine ⟨_, rfl, .inr (.inl ⟨hp, _, 0, _, rfl, rfl, sqh mG, hix0, ?_⟩)⟩
      refine ⟨_, rfl, .inr (.inl ⟨hp, _, 1, _, rfl, rfl, sqh mG, hix1, ?_⟩)⟩
      have c1 : cutV us none (some (0 + (i : Int))) = us.take i ∧ ¬ (HT.sIx us.length 0 none = 0 ∧ HT.sIx us.length us.length (some (0 + (i : Int))) = us.length) := by rw [Int.zero_add]; exact cut_hi hi
      have c2 : cutV us (some (0 + (i : Int) + 1)) none = us.drop (i + 1) ∧ ¬ (HT.sIx us.length 0 (some (0 + (i : Int) + 1)) = 0 ∧ HT.sIx us.length us.length none = us.length) := by rw [Int.zero_add]; exact cut_from hi
      refine ⟨_, rfl, _, rfl, t, us, rfl, .inr ⟨sqt mG, c1.2, fun p1 G1 n1 s1 e1 => ?_⟩⟩
      rw [c1.1] at e1
      have m1 := mG.trans (Mo.of s1)
      refine ⟨_, rfl, .inr (.inl ⟨hp, _, 1, _, rfl, rfl, sqh m1, hix1, ?_⟩)⟩
      refine ⟨_, rfl, .inl ⟨_, _, rfl, rfl, ?_⟩⟩
      refine ⟨_, rfl, t, us, rfl, .inr ⟨sqt m1, c2.2, fun p2 G2 n2 s2 e2 => ?_⟩⟩
      rw [c2.1] at e2
      have m2 := m1.trans (Mo.of s2)
      refine .inr (.inr ⟨p1, p2, _, _, rfl, rfl, SqT.of (s2 _ _ e1), SqT.of e2, by rw [List.length_take, List.length_drop]; omega, fun p3 G3 s3 sq3 => ?_⟩)
      refine ⟨lenLe (n := 2) rfl (by decide), fun h' G4 n4 s4 e4 => ?_⟩
      have m4 := m2.trans (Mo.of (s3.trans s4))
      obtain ⟨rs', hrs', pm'⟩ := less_told h4 hrs hq
      refine ⟨h', need, lessAt qs i, rfl, ⟨p3, _, e4, seqT s4 sq3, kinds_less (h3.mo (tu m4)) i, lessAt_ok h4 i⟩, (fun z => by rw [hrs'] at z; cases z), fun rs2 er ll G5 nll s5 tl' => ?_⟩
      rw [hrs'] at er; cases er
      obtain ⟨bs', ws', eL', rL', pL', wL'⟩ := tl'
      have m5 := m4.trans (Mo.of s5)
      have p5 := pG.same (s1.trans (s2.trans (s3.trans (s4.trans s5))))
      refine ⟨fun σ' G' => Mo [p] H G' ∧ Pot (n + 1200) G' p ∧ σ' = [some (.ref p), some (.ref hp), some (.ref l), x3, x4, some (.int (0 + (i : Int))), some (.ref ll), none, none, none], ?_, ?_⟩
      · refine ⟨_, rfl, _, rfl, l, rfl, .inl ⟨⟨_, SqL.of (m5 _ _ nl eL)⟩, ?_⟩⟩
        refine cmp_rows (m5 _ _ nl eL) (rL.tu (tu m5)) (by rw [rL.1]; omega) (p := fun u => !decide (q.1 ∈ u)) (fun b zs Q _ hb' hQ => ?_) (fun hys rH hl G6 nhl s6 eH => ?_)
        · refine ⟨_, rfl, .inr (.inl ⟨hp, _, 1, _, rfl, rfl, sqh m5, hix1, ?_⟩)⟩
          refine ⟨_, rfl, .inr (.inl ⟨t, us, _, _, rfl, rfl, sqt m5, hat, ?_⟩)⟩
          refine .inr (.inl ⟨r, _, 0, _, rfl, rfl, SqT.of (m5 _ _ (ntt hrr (.inl ⟨_, rfl⟩)) hrr), rfl, ?_⟩)
          exact ⟨_, rfl, .inl ⟨b, _, rfl, .inr (SqT.of hb'), rfl, flat_ints zs, _, rfl, by rw [if_pos rfl, in_ints]; exact hQ⟩⟩
        have ew : ws' = ws.filter fun u => !decide (q.1 ∈ u) := rows_one_way (pL'.trans pm') (pL.filter _) wL' (wL.filter _)
        refine .inr ⟨_, _, .lst (s6 _ _ eL') (rL'.same s6).reps, .lst eH (rH.same s6).reps, pl_ways _, pl_ways _, _, rfl, ite2 (fun hc => by rw [ew, eqv_ways] at hc; cases hc) (fun _ => ⟨m5.trans (Mo.of s6), p5.same s6, rfl⟩)⟩
      · rintro σ' G' ⟨m', p', rfl⟩
        exact ⟨m', p', _, _, _, _, rfl⟩
    rintro σ G ⟨mG, pG, x3, x4, x5, x6, rfl⟩
    refine ⟨_, rfl, .inr (.inl ⟨hp, _, 1, _, rfl, rfl, sqh mG, hix1, ?_⟩)⟩
    refine ⟨_, rfl, _, rfl, .inr (.inl ⟨hp, _, 1, _, rfl, rfl, sqh mG, hix1, ?_⟩)⟩
    refine .inl ⟨t, _, rfl, .inr (sqt mG), ?_⟩
    refine ⟨p, n + 1200, (us.length : Int), rfl, pG, by omega, by omega, by omega, fun c G2 m2 p2 c0 c1 => ?_⟩
    have mG2 := mG.trans m2
    obtain ⟨v, hvm, hv, hat⟩ := atI_mem (xs := us) c0 c1
    obtain ⟨q, hq, r, rfl, hrr⟩ := h3.2 _ v hv
    have hqm := List.mem_of_getElem? hq
    have hqb := h4.bd q hqm
    refine .inr (.inl ⟨t, us, c, .ref r, rfl, rfl, sqt mG2, hat, ?_⟩)
    refine ⟨r, _, rfl, SqT.of (mG2 _ _ (ntt hrr (.inl ⟨_, rfl⟩)) hrr), rfl, _, _, rfl, _, _, rfl, rfl, ?_⟩
    refine ⟨fun σ' G' => Mo [p] H G' ∧ ∃ x9 : Option V, σ' = [some (.ref p), some (.ref hp), some (.ref l), x3, x4, x5, x6, some (.int q.1), some (.int q.2), x9], ?_, ?_⟩
    · refine ⟨_, rfl, ?_⟩
      wtm_at "rd"
      refine ite2 (fun hc => ?_) (fun _ => ⟨mG2, _, rfl⟩)
      have e12 : (10 : Int) ^ Int.toNat 12 = 10 ^ 12 := by decide
      have hc := of_decide_eq_true hc
      rw [e12] at hc
      refine ⟨_, rfl, _, rfl, .inr (.inl ⟨hp, _, 0, _, rfl, rfl, sqh mG2, hix0, ?_⟩)⟩
      refine ⟨_, rfl, ?_⟩
      refine ⟨lenLe (n := 2) rfl (by decide), fun pr G3 n3 s3 e3 => ?_⟩
      refine ⟨lenLe (n := 1) rfl (by decide), fun tf o_ G4 n4 b4 s4 e4 => ?_⟩
      refine ⟨lenLe (n := 2) rfl (by decide), fun ht G5 n5 s5 e5 => ?_⟩
      have s35 := s3.trans (s4.trans s5)
      have mG5 := mG2.trans (Mo.of s35)
      have kk : Kinds G5 [.ref pr] [(q.1, 1)] := Kinds.snoc (vs := []) (qs := []) (q := (q.1, 1)) Kinds.nil ((s4.trans s5) _ _ e3)
      have hg : HeapAt G5 ht need [(q.1, 1)] := ⟨tf, o_, [.ref pr], e5, b4, s5 _ _ e4, kk, ⟨by show 1 ≤ 16; decide, h4.n0, h4.n1, fun x hx => by rw [List.mem_singleton.mp hx]; exact ⟨hqb.1, hqb.2.1, Int.le_refl 1, by show (1 : Int) ≤ 10 ^ 13; decide⟩, List.pairwise_singleton _ _⟩⟩
      have bo := both_one h4 (s := q.1) (m := q.2) hqm
      refine ⟨hp, ht, need, qs, [(q.1, 1)], rfl, hh.tu (tu mG5), hg, by have := (both_ok h4.ris.nodup [(q.1, 1)]).2; rw [List.length_singleton] at this; omega, fun x hx => ?_, fun h' ps G6 s6 hh' hps => ?_⟩
      · have hx := (bo x).mp hx
        by_cases z : q.1 = x.1
        · rw [if_pos z] at hx
          exact ⟨z ▸ hqb.1, z ▸ hqb.2.1, by omega, by omega⟩
        · rw [if_neg z] at hx
          have b := h4.bd x hx
          exact ⟨b.1, b.2.1, b.2.2.1, hb2 x hx⟩
      have mG6 := mG5.trans (Mo.of s6)
      refine ⟨h', need, ps, rfl, hh'.w, fun hN G7 s7 => ?_, fun rs' er ll G7 nll s7 tl' => ?_⟩
      · have mG7 := mG6.trans (Mo.of s7)
        refine ⟨fun σ' G' => Mo [p] H G' ∧ ∃ x9 : Option V, σ' = [some (.ref p), some (.ref hp), some (.ref l), x3, x4, x5, x6, some (.int q.1), some (.int q.2), x9], ⟨_, rfl, .inr ⟨rfl, _, rfl, iteF' (by simp) ⟨mG7, _, rfl⟩⟩⟩, fun σ' G' ⟨m', x9, e⟩ => ⟨m', x9, e⟩⟩
      · have mG7 := mG6.trans (Mo.of s7)
        obtain ⟨bs', ws', eL', rL', pL', wL'⟩ := tl'
        have ok' : HOk8 need ps := let ⟨_, _, _, _, _, _, _, z⟩ := hh'; z
        have all' := all_of ok' er
        refine ⟨fun σ' G' => Mo [p] H G' ∧ ∃ x9 : Option V, σ' = [some (.ref p), some (.ref hp), some (.ref l), x3, x4, x5, x6, some (.int q.1), some (.int q.2), x9], ?_, fun σ' G' ⟨m', x9, e⟩ => ⟨m', x9, e⟩⟩
        refine ⟨_, rfl, .inr ⟨rfl, _, rfl, iteT' (by simp) ?_⟩⟩
        have eL7 := mG7 _ _ nl eL
        refine ⟨_, rfl, l, rfl, .inl ⟨⟨_, SqL.of eL7⟩, ?_⟩⟩
        refine cmp_list (K := K) (a := l) (xs := bs.map V.ref) (fun j ys σ G => G = G7 ∧ ys = (List.replicate j true).map V.bl ∧ ∃ x : Option V, σ = [x, some (.ref p), some (.ref hp), some (.ref l), x3, x4, x5, x6, some (.int q.1), some (.int q.2), some (.ref ll)])
         ⟨rfl, rfl, none, rfl⟩ (by rw [rL.1]; omega) (fun j ys σ G _ ⟨e, r, _⟩ => ⟨by rw [e]; exact SqL.of eL7, by rw [r, List.length_map, List.length_replicate]; exact Nat.le_refl _⟩) ?_ ?_
        · rintro j x ys σ G N hx ⟨rfl, rfl, x0, rfl⟩ hN
          obtain ⟨b, zs, hz, rfl, hb'⟩ := (rL.tu (tu mG7)).2 j x hx
          obtain ⟨pz, lz⟩ := inw zs (List.mem_of_getElem? hz)
          have hin : zs ∈ ws' := pL'.mem_iff.mpr ((all'.1 _).mpr ⟨part_more h4 hqm hps pz, lz⟩)
          refine ⟨_, rfl, _, rfl, .inr ⟨ll, _, _, _, rfl, SqL.of eL', rL'.reps, .tup hb' (reps_int _), fun e he => ?_, pl_way _, hN _ _ _ ⟨rfl, ?_, _, rfl⟩⟩⟩
          · obtain ⟨u, _, rfl⟩ := List.mem_map.mp he
            exact pl_way u
          · rw [List.replicate_succ', List.map_append]
            have e5 : (false != (ws'.map dWay).any fun e => e.eqv (dWay zs)) = true := by
             rw [any_way, decide_eq_true hin]; rfl
            show _ ++ [V.bl (false != (ws'.map dWay).any fun e => e.eqv (dWay zs))] = _
            rw [e5]; rfl
        rintro ys σ G ⟨rfl, rfl, x0, rfl⟩ al G8 nal s8 e8
        refine ⟨al, _, rfl, SqL.of e8, _, rfl, iteF' ?_ ⟨mG7.trans (Mo.of s8), _, rfl⟩⟩
        have e6 : (List.replicate (bs.map V.ref).length true).all id = true := by rw [List.all_eq_true]; intro x hx; rw [(List.mem_replicate.mp hx).2]; rfl
        show (!(List.replicate (bs.map V.ref).length true).all id) = false
        rw [e6]; rfl
    rintro σ' G ⟨mG, x9, rfl⟩
    refine ⟨_, rfl, hp, need, qs, rfl, hh.tu (tu mG), (fun z => by rw [hrs] at z; cases z), fun rs' er gl G2 ngl s2 tg => ?_⟩
    rw [hrs] at er; cases er
    obtain ⟨bs3, us3, all3, eG, rG, pG3, wG, eu⟩ := tg
    have ea : all3 = ws := rows_one_way pG3 pL wG wL
    have mG2 := mG.trans (Mo.of s2)
    have eL2 := mG2 _ _ nl eL
    have rL2 := rL.tu (tu mG2)
    refine ⟨_, rfl, l, rfl, .inl ⟨⟨_, SqL.of eL2⟩, ?_⟩⟩
    refine cmp_rows eL2 rL2 (by rw [rL.1]; omega) (p := fun u => decide (topS qs ∈ u)) (fun b zs Q _ hb' hQ => ?_) (fun hys rH hl G6 nhl s6 eH => ?_)
    · have hun : us ≠ [] := fun z => by rw [z] at hul; simp at hul; omega
      have hlast : us[us.length - 1]? = some (us.getLast hun) := by rw [← List.getLast?_eq_getElem?, List.getLast?_eq_some_getLast hun]
      obtain ⟨q', hq', rr, hv', hrr'⟩ := h3.2 _ _ hlast
      have hqt : q'.1 = topS qs := by
       unfold topS
       rw [List.getLast?_eq_getElem?, ← h3.1, hq']; rfl
      have hau : atI us (-1) = some (V.ref rr) := by
       have e : us = us.dropLast ++ [V.ref rr] := by rw [← hv']; exact (List.dropLast_concat_getLast hun).symm
       rw [e, atI_last]
      refine ⟨_, rfl, .inr (.inl ⟨hp, _, 1, _, rfl, rfl, sqh mG2, hix1, 1, rfl, .inr (.inl ⟨t, us, _, _, rfl, rfl, sqt mG2, hau, ?_⟩)⟩)⟩
      refine .inr (.inl ⟨rr, _, 0, _, rfl, rfl, SqT.of (mG2 _ _ (ntt hrr' (.inl ⟨_, rfl⟩)) hrr'), rfl, ?_⟩)
      exact ⟨_, rfl, .inl ⟨b, _, rfl, .inr (SqT.of hb'), rfl, flat_ints zs, _, rfl, by rw [if_neg (by simp), in_ints, hqt]; exact hQ⟩⟩
    refine .inr ⟨_, _, .lst (s6 _ _ eG) (rG.same s6).reps, .lst eH (rH.same s6).reps, pl_ways _, pl_ways _, ?_⟩
    rw [eu, ea, eqv_ways]
    exact h G6 (mG2.trans (Mo.of s6))
end
section
local macro_rules | `(tactic| wtm_at "cop") => `(tactic| first | (apply c_neD; assumption) | apply c_isnotN)
variable {P : Program} {w : World} {K : PySem.W.Frag} {mg : Str → Option Value} {base : Heap}
abbrev sLaw : Stmt := top 40
theorem scLaw : FnScope ["script", "cell", "pot", "heap", "found"] ["script"] (defScope sLaw) := ⟨rfl, rfl, rfl, by decide +kernel, rfl, by decide +kernel, by decide +kernel⟩
def spLaw (K : PySem.W.Frag) : Sp := fun vs H Q _ => ∃ (a : Addr) (ns : List Int), vs = [.ref a] ∧ SqL K H a (ns.map V.int) ∧ ns.length ≤ 63 ∧ ∀ H', Q (.bl true) H'
theorem ok_law {f : Addr} {fd : FuncData} (F : Fun K "law" "law" sLaw f fd) (cF : Callee CX0 P w K mg base "_law_folded" 1 ["cells", "many"] (spFolded K)) (cB : Callee CX0 P w K mg base "_law_begun" 1 ["cell"] spBegun) (cS : Callee CX0 P w K mg base "_law_small_heap" 4 ["pot", "most"] spSmall)
 (cT : Callee CX0 P w K mg base "_law_told" 4 ["heap"] (spTold K)) (cH : Callee CX0 P w K mg base "_law_holds" 5 ["pot", "heap", "found"] spHolds) (mL : mg "len" = none) : FnOk P w K mg base CX0 7 f fd ["script"] (spLaw K) := by
 refine Br.Fun.j F scLaw (fun vs H Q E h => ?_) (fun cdv A outer s H vs Q E hr h => ?_)
 · obtain ⟨_, _, rfl, _⟩ := h; rfl
 · obtain ⟨a, ns, rfl, hS, hlen, k⟩ := h
   have nd := scLaw.nd
   have hsz : (sizeLine : Nat) = 16777216 := sizeLine_eq
   refine' ⟨_, ?d, ?r⟩
   case d => wtm_at "body"
   case r =>
    refine ⟨_, rfl, a, ns, 4, rfl, hS, by decide, by decide, fun l zs H1 nl s1 e1 hzl => ?_⟩
    refine ⟨l, rfl, .inl ⟨⟨_, SqL.of e1⟩, ?_⟩⟩
    refine for_list (K := K) (a := l) (xs := zs.map V.int) (fun i σ G => G l = some (.lst (zs.map V.int)) ∧ ∃ x1 x2 x3 x4 : Option V, σ = [some (.ref a), x1, x2, x3, x4])
     ⟨e1, none, none, none, none, rfl⟩ (fun i σ G _ ⟨eG, _⟩ => SqL.of eG) ?_ ?_
    · rintro i x σ G hx ⟨eG, x1, x2, x3, x4, rfl⟩
      rw [List.getElem?_map] at hx
      obtain ⟨c, hc, rfl⟩ := Option.map_eq_some_iff.mp hx
      refine ⟨_, rfl, c, rfl, fun p G1 np q1 po => ?_⟩
      have hlp : l ≠ p := fun z => by rw [z, np] at eG; cases eG
      have nlp : l ∉ [p] := fun z => hlp (List.mem_singleton.mp z)
      refine ⟨_, rfl, p, 0, 6, rfl, po, by decide, by decide, by decide, fun hh need qs G2 m2 p2 hG2 hl2 hb2 => ?_⟩
      have e2 := m2 _ _ nlp (q1 _ _ eG)
      obtain ⟨t, ob, us, h1, hb, h2, h3, h4⟩ := id hG2
      have sqt : ∀ {G : Hp}, L2.Same G2 G → SqT K G t us := fun s => .inl (.inr ⟨_, s _ _ h2⟩)
      have hix1 : atI [V.int need, V.ref t] 1 = some (.ref t) := rfl
      have hul := h3.1
      refine ⟨_, rfl, hh, need, qs, rfl, hG2.w, fun hN G3 s3 => ?_, fun rs er fl G3 nfl s3 tl => ?_⟩
      · refine ⟨fun σ' G' => G' = G3 ∧ σ' = [some (.ref a), some (.int c), some (.ref p), some (.ref hh), some .non], ⟨_, rfl, rfl, _, rfl, iteF' (by simp) ⟨rfl, rfl⟩⟩, ?_⟩
        rintro σ' G' ⟨rfl, rfl⟩
        refine ⟨fun σ' G' => G' l = some (.lst (zs.map V.int)) ∧ ∃ x1 x2 x3 x4 : Option V, σ' = [some (.ref a), x1, x2, x3, x4], ?_, ?_⟩
        · refine ⟨_, rfl, .inr (.inl ⟨hh, _, 1, _, rfl, rfl, SqT.of (s3 _ _ h1), hix1, ?_⟩)⟩
          refine .inl ⟨t, _, rfl, .inr (sqt s3), ?_⟩
          refine ⟨rfl, _, rfl, ite2 (fun hc => ?_) (fun hc => ⟨s3 _ _ e2, _, _, _, _, rfl⟩)⟩
          exfalso
          have hz : us.length = 0 := by have := V.int.inj (of_decide_eq_true hc); omega
          have hq : qs = [] := List.eq_nil_of_length_eq_zero (by omega)
          rw [hq] at hN
          cases hN
        · rintro σ' G' ⟨e, x1, x2, x3, x4, rfl⟩
          exact ⟨e, _, _, _, _, rfl⟩
      · obtain ⟨bs, ws, eL, rL, pL, wL⟩ := id tl
        have hfp : fl ≠ p := fun z => by
         obtain ⟨_, _, _, e', _⟩ := p2
         rw [z, e'] at nfl; cases nfl
        have nn : ∀ {b : Addr} {o : HO}, G2 b = some o → IsT o → b ∉ [p] := fun {b o} e x z => by
         rw [List.mem_singleton.mp z] at e
         obtain ⟨_, _, _, e2, _⟩ := p2
         rcases x with ⟨xs, rfl⟩ | ⟨ob, xs, rfl⟩ <;> (rw [e2] at e; cases e)
        refine ⟨fun σ' G' => G' l = some (.lst (zs.map V.int)) ∧ G' fl = some (.lst (bs.map V.ref)) ∧ Rows G' (bs.map V.ref) ws ∧ SqT K G' t us ∧ SqT K G' hh [V.int need, V.ref t] ∧ σ' = [some (.ref a), some (.int c), some (.ref p), some (.ref hh), some (.ref fl)], ?_, ?_⟩
        · refine ⟨_, rfl, rfl, _, rfl, iteT' (by simp) ?_⟩
          refine ⟨_, rfl, .inr (.inl ⟨hh, _, 1, _, rfl, rfl, SqT.of (s3 _ _ h1), hix1, ?_⟩)⟩
          refine .inl ⟨t, _, rfl, .inr (sqt s3), ?_⟩
          refine ⟨_, _, rfl, rfl, _, rfl, ite2 (fun hc => ?_) (fun hc => ⟨s3 _ _ e2, eL, rL, sqt s3, SqT.of (s3 _ _ h1), rfl⟩)⟩
          have hc := of_decide_eq_true hc
          refine ⟨_, rfl, _, rfl, _, rfl, p, hh, fl, 0 + 1000, need, qs, rs, rfl, p2.same s3, by decide, hG2.tu (Tu.of s3), by omega, by omega, hb2, er, tl, hfp, fun G4 m4 => ?_⟩
          have t4 : Tu G3 G4 := Tu.mo (p2.same s3) m4
          exact ⟨_, rfl, iteF ⟨m4 _ _ nlp (s3 _ _ e2), m4 _ _ (fun z => hfp (List.mem_singleton.mp z)) eL, rL.tu t4, .inl (.inr ⟨_, t4 _ _ (s3 _ _ h2) (.inr ⟨_, _, rfl⟩)⟩), SqT.of (t4 _ _ (s3 _ _ h1) (.inl ⟨_, rfl⟩)), rfl⟩⟩
        · rintro σ' G' ⟨eG', eF', rF', sq', sqh', rfl⟩
          refine ⟨fun σ' G' => G' l = some (.lst (zs.map V.int)) ∧ ∃ x1 x2 x3 x4 : Option V, σ' = [some (.ref a), x1, x2, x3, x4], ?_, ?_⟩
          · refine ⟨_, rfl, .inr (.inl ⟨hh, _, 1, _, rfl, rfl, sqh', hix1, ?_⟩)⟩
            refine .inl ⟨t, _, rfl, .inr sq', ?_⟩
            refine ⟨rfl, _, rfl, ite2 (fun hc => ?_) (fun hc => ⟨eG', _, _, _, _, rfl⟩)⟩
            have hz : us.length = 0 := by have := V.int.inj (of_decide_eq_true hc); omega
            have hq : qs = [] := List.eq_nil_of_length_eq_zero (by omega)
            have hws : ws = [] := by
             cases ws with
             | nil => rfl
             | cons r ws => exact absurd hq (leansQ_ne h4.n0 er (pL.mem_iff.mp (.head _)))
            refine ⟨_, rfl, by simp, fun z0 G5 n5 s5 e5 => ?_⟩
            refine .inr ⟨_, _, .lst (s5 _ _ eF') (rF'.same s5).reps, .lst e5 .nil, pl_ways _, pl_ways [], _, rfl, ite2 (fun hc => ?_) (fun _ => ⟨s5 _ _ eG', _, _, _, _, rfl⟩)⟩
            rw [hws] at hc
            cases hc
          · rintro σ' G' ⟨e, x1, x2, x3, x4, rfl⟩
            exact ⟨e, _, _, _, _, rfl⟩
    · rintro σ G ⟨sG, x1, x2, x3, x4, rfl⟩
      exact k G
end
abbrev GAt (K : PySem.W.Frag) (x : Str) (v : Value) : Prop := PySem.W.nsIn K mainGlobals x = some (some v)
abbrev NAt (K : PySem.W.Frag) (x : Str) : Prop := PySem.W.nsIn K mainGlobals x = some none
def DfAt (K : PySem.W.Frag) (x : Str) (st : Stmt) : Prop := ∃ f oc od kV dc pm an cd ct sl, GAt K x (.ref f) ∧ K.lookup f = some ⟨oc, od, .func (PySem.W.fnOf x x (defArgs st) (defBody st) (defScope st) .none kV dc pm an cd ct), sl⟩ ∧ PySem.W.codeIn K cd x = true ∧ PySem.W.keepIn K (.ref f) = true
theorem DfAt.of {K : PySem.W.Frag} {x : Str} {st : Stmt} {f : Addr} {oc kV dc pm cd ct : Value} {od an : Option Addr} {sl : Array (Option Value)} (a : PySem.W.nsIn K mainGlobals x = some (some (.ref f))) (l : K.lookup f = some ⟨oc, od, .func (PySem.W.fnOf x x (defArgs st) (defBody st) (defScope st) .none kV dc pm an cd ct), sl⟩) (c : PySem.W.codeIn K cd x = true) (k : PySem.W.keepIn K (.ref f) = true) : DfAt K x st := ⟨_, _, _, _, _, _, _, _, _, _, a, l, c, k⟩
theorem DfAt.cal {K : PySem.W.Frag} {h : Heap} {mg : Str → Option Value} {x : Str} {st : Stmt} {CX : CXT} {k : Nat} {ps : List Str} {sp : Sp} (d : DfAt K x st) (P : Program) (w : World) (base : Heap) (X : K.In h) (G : h.Ns mainGlobals mg) (ok : ∀ {f : Addr} {fd : FuncData}, Fun K x x st f fd → FnOk P w K mg base CX k f fd ps sp)
 (b : ∀ (kV doc pm : Value) (an : Option Addr) (cdv ct : Value) (us : List Value), us.length = ps.length → bindArgs (PySem.W.fnOf x x (defArgs st) (defBody st) (defScope st) .none kV doc pm an cdv ct) ⟨us, []⟩ = pure (ps.zip us)) : Callee CX P w K mg base x k ps sp :=
 let ⟨_, _, _, _, _, _, _, _, _, _, a, l, c, k⟩ := d; ⟨_, _, ok (fun_mk l c k), PySem.W.mg_of X G a, k, (fun_mk l c k).binds b⟩
local macro_rules | `(tactic| wtm_at "b1") => `(tactic| exact fun _ _ _ _ _ _ us hl => match us, hl with | [_], _ => rfl)
local macro_rules | `(tactic| wtm_at "b2") => `(tactic| exact fun _ _ _ _ _ _ us hl => match us, hl with | [_, _], _ => rfl)
local macro_rules | `(tactic| wtm_at "b3") => `(tactic| exact fun _ _ _ _ _ _ us hl => match us, hl with | [_, _, _], _ => rfl)
local macro_rules | `(tactic| wtm_at "b4") => `(tactic| exact fun _ _ _ _ _ _ us hl => match us, hl with | [_, _, _, _], _ => rfl)
theorem all_mk {l : PySem.W.OpenLaw} {w : World} {K : PySem.W.Frag} {h : Heap} {mg : Str → Option Value} {fa : Addr} (X : K.In h) (G : h.Ns mainGlobals mg) (hfa : mg "law" = some (.ref fa)) {tgM1 tgM2 tgM3 tgM4 : Tok}
 {cB cTooMany : Addr}
 (d1 : DfAt K "_law_begun" sBegun)
 (d2 : DfAt K "_law_take" sTake)
 (d3 : DfAt K "_law_wide" sWide)
 (d4 : DfAt K "_law_folded" sFolded)
 (d5 : DfAt K "_law_need" sNeed)
 (d6 : DfAt K "_law_size" sSize)
 (d7 : DfAt K "_law_many" sMany)
 (d8 : DfAt K "_law_small_heap" sSmall)
 (d9 : DfAt K "total_of" sTot)
 (d10 : DfAt K "rounded_up" sUp)
 (d11 : DfAt K "is_full" sFull)
 (d12 : DfAt K "grown_lots" sGrow)
 (d13 : DfAt K "lean_lots" sLean)
 (d14 : DfAt K "counts_of" sCo)
 (d15 : DfAt K "has_counts" sHas)
 (d16 : DfAt K "heap_less" sLess)
 (d17 : DfAt K "heap_without" sWithout)
 (d18 : DfAt K "put_beside" sBeside)
 (d19 : DfAt K "is_lean" sIsLn)
 (d20 : DfAt K "lean_of" sLeanOf)
 (d21 : DfAt K "_law_full_lot" sFullLot)
 (d22 : DfAt K "_law_lies_in" sLies)
 (d23 : DfAt K "_law_told" sTold)
 (d24 : DfAt K "_law_none_within" sNw)
 (d25 : DfAt K "greatest_lots" sGreat)
 (d26 : DfAt K "_law_holds" sHolds)
 (d27 : DfAt K "law" sLaw)
 (gB : GAt K "BrimError" (.ref cB))
 (gTooMany : GAt K "TooMany" (.ref cTooMany))
 (uB1 : (PySem.W.clsIn K cB).isSome = true) (uB2 : PySem.W.typeIn K (.ref cB) = some (.type "type")) (uB3 : PySem.W.mroIn K cB (.type "BaseException") = some true)
 (uTooMany : eclsIn K cTooMany cB = true)
 (gM1 : PySem.W.nsIn K mainGlobals "GREATEST" = some (some (.int 1000000000000 tgM1)))
 (gM2 : PySem.W.nsIn K mainGlobals "MOST_KINDS" = some (some (.int 8 tgM2)))
 (gM3 : PySem.W.nsIn K mainGlobals "MOST_IN_A_LEAN" = some (some (.int 60 tgM3)))
 (gM4 : PySem.W.nsIn K mainGlobals "MOST_LEANS" = some (some (.int 300 tgM4)))
 (n_abs : NAt K "abs")
 (n_range : NAt K "range")
 (n_enumerate : NAt K "enumerate")
 (n_len : NAt K "len")
 (n_max : NAt K "max")
 (n_min : NAt K "min")
 (n_sorted : NAt K "sorted")
 (n_tuple : NAt K "tuple")
 (n_sum : NAt K "sum")
 (n_reversed : NAt K "reversed")
 (n_all : NAt K "all")
 (n_dict : NAt K "dict")
 (n_any : NAt K "any")
 (n_int : NAt K "int") :
 ∃ fd : FuncData, (∀ (s : Shared) (v : Value), BindsTo s fd ⟨[v], []⟩ [("script", v)]) ∧ ∀ base : Heap, K.In base → base.Ns mainGlobals mg → FnOk l.prog w K mg base CX0 7 fa fd ["script"] (spLaw K) := by
 obtain ⟨fL, oc, od, kV, dc, pm, an, cd, ct, sl, aL, lL, cL, kL⟩ := d27
 have e := hfa.symm.trans (PySem.W.mg_of X G aL)
 cases e
 have F27 := fun_mk (st := sLaw) lL cL kL
 have z_abs := PySem.W.mg_none_of X G n_abs
 have z_range := PySem.W.mg_none_of X G n_range
 have z_enumerate := PySem.W.mg_none_of X G n_enumerate
 have z_len := PySem.W.mg_none_of X G n_len
 have z_max := PySem.W.mg_none_of X G n_max
 have z_min := PySem.W.mg_none_of X G n_min
 have z_sorted := PySem.W.mg_none_of X G n_sorted
 have z_tuple := PySem.W.mg_none_of X G n_tuple
 have z_sum := PySem.W.mg_none_of X G n_sum
 have z_reversed := PySem.W.mg_none_of X G n_reversed
 have z_all := PySem.W.mg_none_of X G n_all
 have z_dict := PySem.W.mg_none_of X G n_dict
 have z_any := PySem.W.mg_none_of X G n_any
 have z_int := PySem.W.mg_none_of X G n_int
 have bB : BCls K mg "BrimError" cB := ⟨PySem.W.mg_of X G gB, uB1, uB2, uB3⟩
 have eTooMany : ECls K mg "TooMany" cTooMany cB := ⟨PySem.W.mg_of X G gTooMany, uTooMany⟩
 refine ⟨PySem.W.fnOf "law" "law" (defArgs sLaw) (defBody sLaw) (defScope sLaw) .none kV dc pm an cd ct, fun s v => .of_eq rfl, fun base _ _ => ?_⟩
 have C1 := d1.cal l.prog w base X G (fun F => ok_begun F z_abs) (by wtm_at "b1")
 have C2 := d2.cal l.prog w base X G (fun F => ok_take F) (by wtm_at "b2")
 have C3 := d3.cal l.prog w base X G (fun F => ok_wide F C2 z_range) (by wtm_at "b2")
 have C4 := d4.cal l.prog w base X G (fun F => ok_folded F z_enumerate z_len z_max z_min) (by wtm_at "b2")
 have C5 := d5.cal l.prog w base X G (fun F => ok_need F C2 C3) (by wtm_at "b1")
 have C6 := d6.cal l.prog w base X G (fun F => ok_size F C2 C3 z_max z_min) (by wtm_at "b2")
 have C7 := d7.cal l.prog w base X G (fun F => ok_many F C2 C3) (by wtm_at "b2")
 have C8 := d8.cal l.prog w base X G (fun F => ok_small F C2 C5 C6 C7 z_range z_sorted z_tuple z_max) (by wtm_at "b2")
 have C9 := d9.cal l.prog w base X G (fun F => ok_tot F z_sum) (by wtm_at "b1")
 have C10 := d10.cal l.prog w base X G (fun F => ok_up F) (by wtm_at "b2")
 have C11 := d11.cal l.prog w base X G (fun F => ok_full F z_sum) (by wtm_at "b2")
 have C12 := d12.cal l.prog w base X G (fun F => ok_grow F eTooMany C10 ⟨⟨_, PySem.W.mg_of X G gM3⟩⟩ z_sum z_max z_min z_range z_len) (by wtm_at "b4")
 have C13 := d13.cal l.prog w base X G (fun F => ok_lean F eTooMany C9 C12 C11 ⟨⟨_, PySem.W.mg_of X G gM4⟩⟩ z_sorted z_reversed z_len) (by wtm_at "b1")
 have C14 := d14.cal l.prog w base X G (fun F => ok_co F) (by wtm_at "b1")
 have C15 := d15.cal l.prog w base X G (fun F => ok_has F z_all z_dict) (by wtm_at "b2")
 have C16 := d16.cal l.prog w base X G (fun F => ok_less F C15 z_tuple) (by wtm_at "b2")
 have C17 := d17.cal l.prog w base X G (fun F => ok_without F C14 C16) (by wtm_at "b2")
 have C18 := d18.cal l.prog w base X G (fun F => ok_beside F ⟨⟨_, PySem.W.mg_of X G gM2⟩⟩ ⟨⟨_, PySem.W.mg_of X G gM1⟩⟩ z_dict z_len z_any z_tuple z_sorted) (by wtm_at "b2")
 have C19 := d19.cal l.prog w base X G (fun F => ok_isln F C11) (by wtm_at "b2")
 have C20 := d20.cal l.prog w base X G (fun F => ok_leanOf F C11) (by wtm_at "b2")
 have C21 := d21.cal l.prog w base X G (fun F => ok_fullLot F C2 z_range z_len z_dict z_tuple z_sorted z_sum z_int) (by wtm_at "b2")
 have C22 := d22.cal l.prog w base X G (fun F => ok_lies F z_all) (by wtm_at "b2")
 have C23 := d23.cal l.prog w base X G (fun F => ok_told F eTooMany C13) (by wtm_at "b1")
 have C24 := d24.cal l.prog w base X G (fun F => ok_nw F C22) (by wtm_at "b1")
 have C25 := d25.cal l.prog w base X G (fun F => ok_greatL F C13) (by wtm_at "b1")
 have C26 := d26.cal l.prog w base X G (fun F => ok_holds F C19 C17 C24 C21 C20 C23 C2 C18 C25 z_len z_range z_sum z_all) (by wtm_at "b3")
 exact ok_law F27 C4 C1 C8 C23 C26 z_len
theorem walk {l : PySem.W.OpenLaw} {q : Program} {loose : List Str} {XP : (Str → Option Value) → Heap → Prop} {YP : World → Heap → Prop} {d : DefRec} {K : Params → PySem.W.Frag} (hn : l.most = some 63) (hdf : d.params.defaults = [])
 (hY : ∀ (w : World) (h : Heap), YP w h → (K w.params).In h)
 (F : ∀ (w : World) (mg : Str → Option Value) (fa : Addr) (h : Heap), (K w.params).In h → h.Ns mainGlobals mg → mg d.name = some (.ref fa) →
  ∃ fd : FuncData, (∀ (s : Shared) (u : Value), BindsTo s fd ⟨[u], []⟩ [("script", u)]) ∧ ∀ base : Heap, (K w.params).In base → base.Ns mainGlobals mg → FnOk l.prog w (K w.params) mg base CX0 7 fa fd ["script"] (spLaw (K w.params))) :
 PySem.W.WalkO q loose XP YP l.row.toRowW d [] (fun f vs => PySem.call f vs) :=
 L2.walk_of (n := 63) (k := 7) (x := "script") (CX := fun _ => CX0) (sp := fun w => spLaw (K w.params)) hn (by decide) hdf ⟨rfl, by decide, by decide, rfl⟩ hY F (fun _ _ a ns hl _ hS => ⟨a, ns, rfl, hS, hl, fun _ => rfl⟩) fun _ _ _ _ _ z => z
end K16
local macro_rules | `(tactic| wtm_at "keq") => `(tactic| (show _ = _; k_is))
local macro_rules | `(tactic| wtm_at "dat") => `(tactic| (refine' K16.DfAt.of ?a ?l ?c ?k; (case a => k_is); (case l => k_is); (case c => k_is); (case k => k_is)))
theorem PySem.W.Fast.tw15283346458971569471 : True := trivial
theorem PySem.W.Fast.tw11710677105431546035 : True := trivial
theorem PySem.W.Fast.tw10911457349328186960 : True := trivial
theorem PySem.W.Fast.tw1446637062817921305 : True := trivial
theorem PySem.W.Fast.tw2690424508998777161 : True := trivial
theorem PySem.W.Fast.tw16239724360342724375 : True := trivial
theorem PySem.W.Fast.tw15813090148488745747 : True := trivial
theorem PySem.W.Fast.tw14943938765812571041 : True := trivial
theorem PySem.W.Fast.tw13904325156117481911 : True := trivial
theorem PySem.W.Fast.tw11107447403114218701 : True := trivial
theorem PySem.W.Fast.tw5096779748170199948 : True := trivial
theorem PySem.W.Fast.tw4376055205410391970 : True := trivial
theorem PySem.W.Fast.tw1427732035459876352 : True := trivial
theorem PySem.W.Fast.tw16163646004872585684 : True := trivial
theorem PySem.W.Fast.tw11414577916206119675 : True := trivial
theorem PySem.W.Fast.tw13508469681123327427 : True := trivial
theorem PySem.W.Fast.tw7284612719586896916 : True := trivial
theorem PySem.W.Fast.tw335674554491007853 : True := trivial
theorem PySem.W.Fast.tw11432185765026935428 : True := trivial
theorem PySem.W.Fast.tw6567501548585876270 : True := trivial
theorem PySem.W.Fast.tw10892332293221410096 : True := trivial
theorem PySem.W.Fast.tw14067366619073527250 : True := trivial
theorem PySem.W.Fast.tw13387254172761798156 : True := trivial
theorem PySem.W.Fast.tw15525397312856476668 : True := trivial
theorem PySem.W.Fast.tw16906879725137864379 : True := trivial
theorem PySem.W.Fast.tw15681824794652759462 : True := trivial
theorem PySem.W.Fast.tw8021043225072593119 : True := trivial
theorem PySem.W.Fast.tw15522240515805895159 : True := trivial
theorem PySem.W.Fast.tw816686031029572817 : True := trivial
theorem PySem.W.Fast.tw7572182927453508415 : True := trivial
theorem PySem.W.Fast.tw7743864188685350990 : True := trivial
theorem PySem.W.Fast.tw15902400047419431034 : True := trivial
theorem PySem.W.Fast.tw13852341759641412296 : True := trivial
theorem PySem.W.Fast.tw9998633435619477466 : True := trivial
theorem PySem.W.Fast.tw7930379038763528539 : True := trivial
theorem PySem.W.Fast.tw9151200540715515481 : True := trivial
theorem PySem.W.Fast.tw10261403096630075386 : True := trivial
theorem PySem.W.Fast.tw17197295683168956742 : True := trivial
theorem PySem.W.Fast.tw2864683443267746532 : True := trivial
theorem PySem.W.Fast.tw17806895758169130130 : True := trivial
theorem PySem.W.Fast.tw1203576183467847722 : True := trivial
theorem PySem.W.Fast.tw14961009472428569603 : True := trivial
theorem PySem.W.Fast.tw16364058290026085454 : True := trivial
theorem PySem.W.Fast.tw2443561797610439512 : True := trivial
theorem PySem.W.Fast.tw1932175548219297589 : True := trivial
theorem PySem.W.Fast.tw588169658528159690 : True := trivial
theorem PySem.W.Fast.tw17418036741174617024 : True := trivial
theorem PySem.W.Fast.tw18331446191744351207 : True := trivial
theorem PySem.W.Fast.tw5507105424336969053 : True := trivial
theorem PySem.W.Fast.tw14522367106742973728 : True := trivial
theorem PySem.W.Fast.tw14140138904963196875 : True := trivial
theorem PySem.W.Fast.tw967436834009479225 : True := trivial
theorem PySem.W.Fast.tw5501440263786996345 : True := trivial
theorem PySem.W.Fast.tw3843977280656378250 : True := trivial
theorem PySem.W.Fast.tw76734154878549132 : True := trivial
theorem PySem.W.Fast.tw17223584809532879801 : True := trivial
theorem PySem.W.Fast.tw2138374564010908740 : True := trivial
theorem PySem.W.Fast.tw15133918565906047899 : True := trivial
theorem PySem.W.Fast.tw16261539306036267411 : True := trivial
theorem PySem.W.Fast.tw8464710878032928638 : True := trivial
theorem PySem.W.Fast.tw10153699215239884264 : True := trivial
theorem PySem.W.Fast.tw12294810010397730244 : True := trivial
theorem PySem.W.Fast.tw9469448169579975131 : True := trivial
theorem PySem.W.Fast.tw13372863715542873235 : True := trivial
theorem PySem.W.Fast.tw14343149365458417935 : True := trivial
theorem PySem.W.Fast.tw11527179114198807039 : True := trivial
theorem PySem.W.Fast.tw13919856885649380914 : True := trivial
theorem PySem.W.Fast.tw4753322390612814501 : True := trivial
theorem PySem.W.Fast.tw9757807669701879699 : True := trivial
theorem PySem.W.Fast.tw14876843246285058658 : True := trivial
theorem PySem.W.Fast.tw12744097791697174390 : True := trivial
theorem PySem.W.Fast.tw552984510824917112 : True := trivial
theorem PySem.W.Fast.tw18349501620933585318 : True := trivial
theorem PySem.W.Fast.tw10344345174244317609 : True := trivial
theorem PySem.W.Fast.tw4383505079470405140 : True := trivial
theorem PySem.W.Fast.tw16670775657293981746 : True := trivial
theorem PySem.W.Fast.tw17460382315430533381 : True := trivial
theorem PySem.W.Fast.tw16878313933204066594 : True := trivial
theorem PySem.W.Fast.tw7896131527671110799 : True := trivial
theorem PySem.W.Fast.tw17653329360672528527 : True := trivial
theorem PySem.W.Fast.tw11091481662766621076 : True := trivial
theorem PySem.W.Fast.tw13632695757211094740 : True := trivial
theorem PySem.W.Fast.tw12871777338243628317 : True := trivial
theorem PySem.W.Fast.tw7278422202154273688 : True := trivial
theorem PySem.W.Fast.tw3839306688888099195 : True := trivial
theorem PySem.W.Fast.tw12672153572302929308 : True := trivial
theorem PySem.W.Fast.tw8521757628339991550 : True := trivial
theorem PySem.W.Fast.tw10511963405346169384 : True := trivial
theorem PySem.W.Fast.tw6540100926906289950 : True := trivial
theorem PySem.W.Fast.tw10040937709065302976 : True := trivial
theorem PySem.W.Fast.tw13274435971160693217 : True := trivial
theorem PySem.W.Fast.tw10595452202632559319 : True := trivial
theorem PySem.W.Fast.tw12756755848484079118 : True := trivial
theorem PySem.W.Fast.tw7776984512199523985 : True := trivial
theorem PySem.W.Fast.tw15962990699699580262 : True := trivial
theorem PySem.W.Fast.tw1049503292901173699 : True := trivial
theorem PySem.W.Fast.tw11690197507146301659 : True := trivial
theorem PySem.W.Fast.tw10911940236204262068 : True := trivial
theorem PySem.W.Fast.tw2267877754855871702 : True := trivial
theorem PySem.W.Fast.tw8072180101160846164 : True := trivial
theorem PySem.W.Fast.tw10351250714550619641 : True := trivial
theorem PySem.W.Fast.tw4450632973849306269 : True := trivial
theorem PySem.W.Fast.tw12171827538847743270 : True := trivial
theorem PySem.W.Fast.tw6418990264011177425 : True := trivial
theorem PySem.W.Fast.tw5261692855698919207 : True := trivial
theorem PySem.W.Fast.tw1417319389993420514 : True := trivial
theorem PySem.W.Fast.tw17060089333102136285 : True := trivial
theorem PySem.W.Fast.tw7714029315960180311 : True := trivial
theorem PySem.W.Fast.tw3222464200538526829 : True := trivial
theorem PySem.W.Fast.tw9834084228221829931 : True := trivial
theorem PySem.W.Fast.tw9867145675813147757 : True := trivial
theorem PySem.W.Fast.tw14936803497707351058 : True := trivial
theorem PySem.W.Fast.tw4454150410476042105 : True := trivial
theorem PySem.W.Fast.tw7819252180545386184 : True := trivial
theorem PySem.W.Fast.tw7635380848276909416 : True := trivial
theorem PySem.W.Fast.tw12905642600457650010 : True := trivial
theorem PySem.W.Fast.tw9799570112412403863 : True := trivial
theorem PySem.W.Fast.tw11281248125025428553 : True := trivial
theorem PySem.W.Fast.tw7827995334727802507 : True := trivial
theorem PySem.W.Fast.tw14553499302222527017 : True := trivial
theorem PySem.W.Fast.tw9969053794301185986 : True := trivial
theorem PySem.W.Fast.tw7707778800812785704 : True := trivial
theorem PySem.W.Fast.tw7817182498325775615 : True := trivial
theorem PySem.W.Fast.tw11706171649428833604 : True := trivial
theorem PySem.W.Fast.tw16913448680097926137 : True := trivial
theorem PySem.W.Fast.tw12569791701616665380 : True := trivial
theorem PySem.W.Fast.tw13958030475473735258 : True := trivial
theorem PySem.W.Fast.tw13927749105598761025 : True := trivial
theorem PySem.W.Fast.tw400858380698452922 : True := trivial
theorem PySem.W.Fast.tw10075694580644900787 : True := trivial
theorem PySem.W.Fast.tw10956842055379856414 : True := trivial
theorem PySem.W.Fast.tw4292395541634565984 : True := trivial
theorem PySem.W.Fast.tw2156670071186318519 : True := trivial
theorem PySem.W.Fast.tw3599574428073245180 : True := trivial
theorem PySem.W.Fast.tw14434293972644677985 : True := trivial
theorem PySem.W.Fast.tw2186711595155761039 : True := trivial
theorem PySem.W.Fast.tw1971139619153565687 : True := trivial
theorem PySem.W.Fast.tw18422635689492326786 : True := trivial
theorem PySem.W.Fast.tw8830890969650507254 : True := trivial
theorem PySem.W.Fast.tw7369402648371689354 : True := trivial
theorem PySem.W.Fast.tw10177422616247602077 : True := trivial
theorem PySem.W.Fast.tw11019360425779667702 : True := trivial
theorem PySem.W.Fast.tw14135018893808948372 : True := trivial
theorem PySem.W.Fast.tw5904295308157013966 : True := trivial
theorem PySem.W.Fast.tw4245958471762036419 : True := trivial
theorem PySem.W.Fast.tw7322238885697536756 : True := trivial
theorem PySem.W.Fast.tw8664582424058439890 : True := trivial
theorem PySem.W.Fast.tw7857720713280480405 : True := trivial
theorem PySem.W.Fast.tw8374451139777758435 : True := trivial
theorem PySem.W.Fast.tw4774613674633296587 : True := trivial
theorem PySem.W.Fast.tw7054755356107390302 : True := trivial
theorem PySem.W.Fast.tw14076822001988944992 : True := trivial
theorem PySem.W.Fast.tw801909739321652645 : True := trivial
theorem PySem.W.Fast.tw6918038026005678301 : True := trivial
theorem PySem.W.Fast.tw15707534891665511081 : True := trivial
theorem PySem.W.Fast.tw16302095773702478559 : True := trivial
theorem PySem.W.Fast.tw1605785011943141155 : True := trivial
theorem PySem.W.Fast.tw13552891083318295678 : True := trivial
theorem PySem.W.Fast.tw11123007947019281015 : True := trivial
theorem PySem.W.Fast.tw2057687654137542879 : True := trivial
theorem PySem.W.Fast.tw3342327196100042375 : True := trivial
theorem PySem.W.Fast.tw17022677375619930691 : True := trivial
theorem PySem.W.Fast.tw1749298745866974510 : True := trivial
theorem PySem.W.Fast.tw3822978025154513738 : True := trivial
theorem PySem.W.Fast.tw1389651587035724577 : True := trivial
theorem PySem.W.Fast.tw3683190027271535252 : True := trivial
theorem PySem.W.Fast.tw9783640860595479897 : True := trivial
theorem PySem.W.Fast.tw3275217452765684257 : True := trivial
theorem PySem.W.Fast.tw5040035756094710660 : True := trivial
theorem PySem.W.Fast.tw10215133653485632248 : True := trivial
theorem PySem.W.Fast.tw11238355924117030591 : True := trivial
theorem PySem.W.Fast.tw11748952905442220398 : True := trivial
theorem PySem.W.Fast.tw468849564734600930 : True := trivial
theorem PySem.W.Fast.tw8406481381434407749 : True := trivial
theorem PySem.W.Fast.tw15700274496534519984 : True := trivial
theorem PySem.W.Fast.tw6425315819897722630 : True := trivial
theorem PySem.W.Fast.tw14906662352471160342 : True := trivial
theorem PySem.W.Fast.tw4053046932003647660 : True := trivial
theorem PySem.W.Fast.tw797135238133421501 : True := trivial
theorem PySem.W.Fast.tw2024819788182577220 : True := trivial
theorem PySem.W.Fast.tw892053066827856303 : True := trivial
theorem PySem.W.Fast.tw10736234624500324698 : True := trivial
theorem PySem.W.Fast.tw2889108596879340091 : True := trivial
theorem PySem.W.Fast.tw9673905850007593647 : True := trivial
theorem PySem.W.Fast.tw11058977639901479816 : True := trivial
theorem PySem.W.Fast.tw1418658709421106224 : True := trivial
theorem PySem.W.Fast.tw9425990930691487108 : True := trivial
theorem PySem.W.Fast.tw15792727463742989471 : True := trivial
theorem PySem.W.Fast.tw17888889121365680468 : True := trivial
theorem PySem.W.Fast.tw5310219555779871555 : True := trivial
theorem PySem.W.Fast.tw7855011093524077771 : True := trivial
theorem PySem.W.Fast.tw12130376126708928337 : True := trivial
theorem PySem.W.Fast.tw13156462861178522444 : True := trivial
theorem PySem.W.Fast.tw13023297606509100899 : True := trivial
theorem PySem.W.Fast.tw8452000117689707929 : True := trivial
theorem PySem.W.Fast.tw16927180514365531929 : True := trivial
theorem PySem.W.Fast.tw13958330040358705869 : True := trivial
theorem PySem.W.Fast.tw680180743053531837 : True := trivial
theorem PySem.W.Fast.tw16031994946982994383 : True := trivial
theorem PySem.W.Fast.tw9890451815969523634 : True := trivial
theorem PySem.W.Fast.tw981513053418344974 : True := trivial
theorem PySem.W.Fast.tw8961158520536962911 : True := trivial
theorem PySem.W.Fast.tw14300176169429704363 : True := trivial
theorem PySem.W.Fast.tw16626845329463519192 : True := trivial
theorem PySem.W.Fast.tw993573518935087563 : True := trivial
theorem PySem.W.Fast.tw6687595309125825078 : True := trivial
theorem PySem.W.Fast.tw17117013861803574308 : True := trivial
theorem PySem.W.Fast.tw487389083924248090 : True := trivial
theorem PySem.W.Fast.tw7603683031040608898 : True := trivial
theorem PySem.W.Fast.tw7935448502138735327 : True := trivial
theorem PySem.W.Fast.tw9311739461746420394 : True := trivial
theorem PySem.W.Fast.tw8048248456834839515 : True := trivial
theorem PySem.W.Fast.tw13956285396373255253 : True := trivial
theorem PySem.W.Fast.tw11985918919554363174 : True := trivial
theorem PySem.W.Fast.tw17943993820341788034 : True := trivial
theorem PySem.W.Fast.tw13895903801219989799 : True := trivial
theorem PySem.W.Fast.tw8770155894053358218 : True := trivial
theorem PySem.W.Fast.tw15496695998670262381 : True := trivial
theorem PySem.W.Fast.tw4015978815009519474 : True := trivial
theorem PySem.W.Fast.tw4424573131552215951 : True := trivial
theorem PySem.W.Fast.tw11434933379845207166 : True := trivial
theorem PySem.W.Fast.tw10421591529889651817 : True := trivial
theorem PySem.W.Fast.tw6289700479771848750 : True := trivial
theorem PySem.W.Fast.tw16948740266187170485 : True := trivial
theorem PySem.W.Fast.tw6195394021540375943 : True := trivial
theorem PySem.W.Fast.tw16318067130785431270 : True := trivial
theorem PySem.W.Fast.tw15225503590140219103 : True := trivial
theorem PySem.W.Fast.tw5632344766030977472 : True := trivial
theorem PySem.W.Fast.tw840167711390820605 : True := trivial
theorem PySem.W.Fast.tw6267410158788377781 : True := trivial
theorem PySem.W.Fast.tw7544250133920767063 : True := trivial
theorem PySem.W.Fast.tw13507852808736791960 : True := trivial
theorem PySem.W.Fast.tw9483620031350589954 : True := trivial
theorem PySem.W.Fast.tw2966941493253851762 : True := trivial
theorem PySem.W.Fast.tw10156569357512695962 : True := trivial
theorem PySem.W.Fast.tw496291814211004308 : True := trivial
theorem PySem.W.Fast.tw14854085653033478850 : True := trivial
theorem PySem.W.Fast.tw14032282565290196232 : True := trivial
theorem PySem.W.Fast.tw7900475321018281995 : True := trivial
theorem PySem.W.Fast.tw6863018917459612641 : True := trivial
theorem PySem.W.Fast.tw8568053320076246749 : True := trivial
theorem PySem.W.Fast.tw7722104279964123816 : True := trivial
theorem PySem.W.Fast.tw14782458020249320215 : True := trivial
theorem PySem.W.Fast.tw17391157065934943896 : True := trivial
theorem PySem.W.Fast.tw1661654603577332508 : True := trivial
theorem PySem.W.Fast.tw17918650498416957170 : True := trivial
theorem PySem.W.Fast.tw14923599364376572715 : True := trivial
theorem PySem.W.Fast.tw15268582963452054434 : True := trivial
theorem PySem.W.Fast.tw14412042313320498113 : True := trivial
theorem PySem.W.Fast.tw5873686431339939453 : True := trivial
theorem PySem.W.Fast.tw12791379084549200062 : True := trivial
theorem PySem.W.Fast.tw16706347625786489829 : True := trivial
theorem PySem.W.Fast.tw13574076076908009010 : True := trivial
theorem PySem.W.Fast.tw689778663571839996 : True := trivial
theorem PySem.W.Fast.tw8367143850535394792 : True := trivial
open PySem PySem.W PyProof.Rows
set_option maxRecDepth 100000 in
set_option maxHeartbeats 0 in
theorem PySem.Challenge.cw_brimyard_k16_whole_lean_lots_lie_in_all_holds : PySem.Challenge.rw_brimyard_k16_whole_lean_lots_lie_in_all.Holds := by
 w_on; refine holds_law (by decide +kernel) fun said => ?_
 k_head; (case hw => w_witness2)
 k_fill
 refine K16.walk (l := PySem.Challenge.rw_brimyard_k16_whole_lean_lots_lie_in_all) rfl rfl (fun w h Y => PySem.W.kIn_of Y) ?F
 case F =>
  intro w mg fa h KX G hmg
  refine' K16.all_mk KX G hmg ?d1 ?d2 ?d3 ?d4 ?d5 ?d6 ?d7 ?d8 ?d9 ?d10 ?d11 ?d12 ?d13 ?d14 ?d15 ?d16 ?d17 ?d18 ?d19 ?d20 ?d21 ?d22 ?d23 ?d24 ?d25 ?d26 ?d27 ?gB ?gTooMany ?uB1 ?uB2 ?uB3 ?uTooMany ?gM1 ?gM2 ?gM3 ?gM4 ?n_abs ?n_range ?n_enumerate ?n_len ?n_max ?n_min ?n_sorted ?n_tuple ?n_sum ?n_reversed ?n_all ?n_dict ?n_any ?n_int
  (case d1 | d2 | d3 | d4 | d5 | d6 | d7 | d8 | d9 | d10 | d11 | d12 | d13 | d14 | d15 | d16 | d17 | d18 | d19 | d20 | d21 | d22 | d23 | d24 | d25 | d26 | d27 => wtm_at "dat")
  (case gB | gTooMany => wtm_at "keq")
  (case uB1 => kernel_rfl)
  (case uB2 | uB3 => k_is)
  (case uTooMany => kernel_rfl)
  (case gM1 | gM2 | gM3 | gM4 => k_is)
  (case n_abs | n_range | n_enumerate | n_len | n_max | n_min | n_sorted | n_tuple | n_sum | n_reversed | n_all | n_dict | n_any | n_int => wtm_at "keq")
