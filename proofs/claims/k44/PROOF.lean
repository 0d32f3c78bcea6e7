import PyProof.Rows.All
import Wide.All
import OpenK.AllK
import Wide.FinOn
import Lean
import PyProof.EqAt
import PyProof.EqKinds
import PyProof.TupleCall
import PyProof.NeData
import KE.KSortTup
import PyProof.Rows.FStr
import PyProof.AutoIntG2
import PyProof.DictTruth
import PyProof.Rows.CountFlat
import PyProof.Rows.SeqMore
import PyProof.DictWalks
import KE.KItemsList
import PyProof.ReprRoads
import PyProof.ReprLen
import PyProof.Rows.ReprOcc
import KE.KRevIter
import KE.KRevSl
import PyProof.Rows.Range3
import PyProof.DictCompW
import KE.KSortAsk
import PySem.Challenge.RW_brimyard_k44_sizes_left
set_option Elab.async false
set_option linter.all false
set_option maxRecDepth 100000
namespace L2
open PySem PySem.Spec PyProof.Rows
abbrev Key:=Sum Int Str
def keyIs:Key->Value->Bool
 | .inl k,v=>Value.isInt k v
 | .inr x,v=>Value.isStrOf x v
def keyH (w:World):Key->Int
 | .inl k=>hashInt k
 | .inr x=>hashStr w x
theorem keyIs_shape:∀ {k:Key}{v:Value},keyIs k v = true->(∃ i t,k = Sum.inl i/\v = Value.int i t)\/(∃ x t,k = Sum.inr x/\v = Value.str x t)
 | .inl i,v,h=>by
  obtain⟨t,e⟩:=Value.isInt_shape h
  exact .inl ⟨i,t,rfl,e⟩
 | .inr x,v,h=>by
  obtain⟨t,e⟩:=Value.isStrOf_shape h
  exact .inr ⟨x,t,rfl,e⟩
theorem keyIs_int (i:Int) (t:Tok):keyIs (.inl i) (.int i t) = true:=by simp [keyIs,Value.isInt]
theorem keyIs_str (x:Str) (t:Tok):keyIs (.inr x) (.str x t) = true:=by simp [keyIs,Value.isStrOf]
theorem key_ll (a b:Int):decide ((Sum.inl a:Key) = Sum.inl b) = (a == b):=by
 by_cases e:a = b
 · simp_all
 simp_all
theorem key_rr (a b:Str):decide ((Sum.inr a:Key) = Sum.inr b) = decide (a = b):=by simp
theorem key_lr (a:Int) (b:Str):decide ((Sum.inl a:Key) = Sum.inr b) = false:=rfl
theorem key_rl (a:Str) (b:Int):decide ((Sum.inr a:Key) = Sum.inl b) = false:=rfl
def mixKind (prog:Program) (w:World):PySem.KeyKind prog w Key where
 is:=keyIs
 hash:=keyH w
 inj:=fun v a b ha hb=>by
  rcases keyIs_shape ha with ⟨i,t,rfl,rfl⟩ | ⟨x,t,rfl,rfl⟩
  · rcases keyIs_shape hb with ⟨j,u,rfl,e⟩ | ⟨y,u,rfl,e⟩
    · injection e with e1 _;rw [e1]
    · exact nomatch e
  · rcases keyIs_shape hb with ⟨j,u,rfl,e⟩ | ⟨y,u,rfl,e⟩
    · exact nomatch e
    · injection e with e1 _;rw [e1]
 byValue:=fun k v h=>by
  rcases keyIs_shape h with ⟨i,t,rfl,rfl⟩ | ⟨x,t,rfl,rfl⟩ <;> rfl
 pyHash:=fun hv h=>by
  rcases keyIs_shape hv with ⟨i,t,rfl,rfl⟩ | ⟨x,t,rfl,rfl⟩
  · exact wpAny_pyHash_int h
  · exact wpAny_pyHash_str h
 eqBool:=fun hu hv h=>by
  rcases keyIs_shape hu with ⟨i,t,rfl,rfl⟩ | ⟨x,t,rfl,rfl⟩
  · rcases keyIs_shape hv with ⟨j,u,rfl,rfl⟩ | ⟨y,u,rfl,rfl⟩
    · rw [key_ll] at h;exact wpAny_eqBool_int h
    · rw [key_lr] at h;exact SeqAt.EqAt.int_str i t y u _ _ _ _ h
  · rcases keyIs_shape hv with ⟨j,u,rfl,rfl⟩ | ⟨y,u,rfl,rfl⟩
    · rw [key_rl] at h;exact SeqAt.EqAt.str_int x t j u _ _ _ _ h
    · rw [key_rr] at h;exact wpAny_eqBool_str h
 «strs»:=fun k x t v h=>by
  rcases keyIs_shape h with ⟨i,u,rfl,e⟩ | ⟨y,u,rfl,e⟩
  · exact nomatch e
  · injection e with e1 _
    subst e1
    cases v <;> rfl
theorem mixKind_int (prog:Program) (w:World) (i:Int) (t:Tok):(mixKind prog w).is (.inl i) (.int i t) = true:=keyIs_int i t
theorem mixKind_str (prog:Program) (w:World) (x:Str) (t:Tok):(mixKind prog w).is (.inr x) (.str x t) = true:=keyIs_str x t
inductive V where
 | non | bl (b:Bool) | int (i:Int) | str (x:Str) | byt (b:Array UInt8) | flt (b:UInt64) | ref (a:Addr) | ty (n:String)
 deriving DecidableEq
def RelV:V->Value->Prop
 | .non,u=>u = Value.none
 | .bl b,u=>u = Value.bool b
 | .int i,u=>∃ t,u = Value.int i t
 | .str x,u=>∃ t,u = Value.str x t
 | .byt b,u=>∃ t,u = Value.bytes b t
 | .flt b,u=>∃ t,u = Value.float b t
 | .ref a,u=>u = Value.ref a
 | .ty n,u=>u = Value.type n
abbrev Vals:List V->List Value->Prop:=Paired RelV
theorem Vals.length (r:Vals xs us):xs.length = us.length:=Paired.length r
theorem Vals.get:∀ {xs:List V}{us:List Value}{i:Nat}{x:V},Vals xs us->xs[i]? = some x->∃ u,us[i]? = some u/\RelV x u
 | _,_,_,_,.nil,e=>by simp_all
 | _,_,0,_,.cons r _,e=>by simp_all
 | _,_,i + 1,x,.cons _ t,e=>by
  obtain⟨u,h1,h2⟩:=Vals.get t (by assumption)
  simp_all
theorem Vals.set (r:RelV x u):∀ {xs:List V}{us:List Value} (i:Nat),Vals xs us->Vals (xs.set i x) (us.set i u)
 | _,_,_,.nil=>.nil
 | _,_,0,.cons _ t=>.cons r t
 | _,_,i + 1,.cons q t=>.cons q (Vals.set r i t)
theorem Vals.append:∀ {xs ys:List V}{us ws:List Value},Vals xs us->Vals ys ws->Vals (xs ++ ys) (us ++ ws)
 | _,_,_,_,.nil,s=>s
 | _,_,_,_,.cons r t,s=>.cons r (Vals.append t s)
theorem Vals.take:∀ {xs:List V}{us:List Value} (n:Nat),Vals xs us->Vals (xs.take n) (us.take n)
 | _,_,0,_=>.nil
 | _,_,_ + 1,.nil=>.nil
 | _,_,n + 1,.cons r t=>.cons r (Vals.take n t)
theorem Vals.drop:∀ {xs:List V}{us:List Value} (n:Nat),Vals xs us->Vals (xs.drop n) (us.drop n)
 | _,_,0,r=>r
 | _,_,_ + 1,.nil=>.nil
 | _,_,n + 1,.cons _ t=>Vals.drop n t
def RelO:Option V->Option Value->Prop
 | some v,some u=>RelV v u
 | none,none=>True
 | _,_=>False
def KV {κ:Type}:List (κ×V)->List (κ×Value)->Prop:=Paired fun (p:κ×V) (q:κ×Value)=>p.1 = q.1/\RelV p.2 q.2
def kV:Key->V
 | .inl i=>.int i
 | .inr x=>.str x
inductive HO where
 | lst (xs:List V)
 | tup (xs:List V)
 | dK (kvs:List (Key×V)) | dT (kvs:List (List Key×V))
 | set (S:Int->Bool) (n:Nat)
 | ins (C dx:Addr) (fs:List (Str×V))
 | own (x:Addr)
 | xd (fs:List (Str×V))
 | met (f x:Addr)
 | rng (lo hi:Int)
 | frz (o:Obj) (u:HO)
 | tbl (ps:Array Value)
 | ext (φ:Heap->Prop)
abbrev Hp:=Addr->Option HO
def upd (H:Hp) (a:Addr) (o:HO):Hp:=fun b=>if b = a then some o else H b
theorem upd_same:upd H a o a = some o:=by unfold upd;simp
theorem upd_ne (h:b≠a):upd H a o b = H b:=by unfold upd;simp_all
theorem ne_of {H:Hp}{a b:Addr}{o u:HO} (h:H a = some o) (h':H b = some u) (d:o≠u):a≠b:=by
 intro e;subst e;rw [h] at h';exact d (Option.some.inj h')
theorem ne_of_none {H:Hp} (h:H a = some o) (h':H b = none):a≠b:=by grind
section
variable (P:Program) (w:World)
def ObjOk (H:Hp) (h:Heap) (a:Addr):HO->Prop
 | .lst xs=>xs.length<=sizeLine/\∃ (its:List Value) (n:Nat),Vals xs its/\h.get? a = some { cls:=.type "list",data:=.seq its.toArray n }
 | .tup xs=>xs.length<=sizeLine/\∃ its:List Value,Vals xs its/\IsTup h a its.toArray
 | .dK kvs=>kvs.length<=sizeLine/\(a == sysModules) = false/\∃ vs,KV kvs vs/\h.DictOf (mixKind P w) a vs
 | .dT kvs=>kvs.length<=sizeLine/\(a == sysModules) = false/\∃ xs:List (List Key×Addr×Value),
  Paired (fun (p:List Key×V) (q:List Key×Addr×Value)=>p.1 = q.1/\H q.2.1 = some (.tup (p.1.map kV))/\RelV p.2 q.2.2) kvs xs/\
  ∃ o es ep,h.get? a = some o/\o.ExactDict/\o.data = .dict es ep/\es.toList = xs.map (entryOfKey (tupleKind (mixKind P w)))/\(xs.map (·.1)).Nodup
 | .set S n=>h.SetOf (intKind P w) a S n
 | .ins C dx fs=>H dx = some (.own a)/\fs.length<=1000/\dx≠a/\h.get? a = some (PySem.W.instObj C dx)/\
  ∃ mA,h.Ns1 dx mA/\(∀ f,RelO (fs.lookup f) (mA f))/\PySem.Within mA (fs.map (·.1))
 | .own _=>∃ o,h.get? a = some o
 | .xd fs=>∃ mA,h.Ns1 a mA/\∀ f,RelO (fs.lookup f) (mA f)
 | .rng lo hi=>∃ t u v,h.get? a = some { cls:=.type "range",data:=.fields #[.int lo t,.int hi u,.int 1 v] }
 | .frz o u=>h.get? a = some o/\ObjOk H h a u
 | .tbl ps=>h.get? a = some { cls:=.none,data:=.fields ps }
 | .met f x=>h.get? a = some (PySem.W.methodObj (.ref f) (.ref x))
 | .ext φ=>φ h/\(∃ o,h.get? a = some o)/\∀ h1 h2:Heap,φ h1->(∀ o,h1.get? a = some o->h2.get? a = some o)->φ h2
def HOk (H:Hp) (h:Heap):Prop:=∀ a o,H a = some o->ObjOk P w H h a o
end
section
variable {a:Addr}
theorem ObjOk.lt (x:ObjOk P w H h a o):a < h.objs.size:=by
 cases o with
 | lst xs=>obtain⟨_,_,_,_,e⟩:=x;exact Heap.lt_size e
 | tup xs=>obtain⟨_,_,_,p⟩:=x;exact p.lt
 | dK kvs=>obtain⟨_,_,_,_,o,_,_,e,_⟩:=x;exact Heap.lt_size e
 | dT kvs=>obtain⟨_,_,_,_,o,_,_,e,_⟩:=x;exact Heap.lt_size e
 | set S n=>obtain⟨o,_,_,_,e,_⟩:=x;exact Heap.lt_size e
 | ins C dx fs=>obtain⟨_,_,_,e,_⟩:=x;exact Heap.lt_size e
 | own y=>obtain⟨_,e⟩:=x;exact Heap.lt_size e
 | xd fs=>obtain⟨_,⟨_,_,_,e,_⟩,_⟩:=x;exact Heap.lt_size e
 | rng lo hi=>obtain⟨_,_,_,e⟩:=x;exact Heap.lt_size e
 | frz ob u=>obtain⟨e,_⟩:=x;exact Heap.lt_size e
 | tbl ps=>exact Heap.lt_size (x)
 | met f y=>exact Heap.lt_size (x)
 | ext φ=>obtain⟨_,⟨_,e⟩,_⟩:=x;exact Heap.lt_size e
theorem Paired.mapP:∀ {l₁:List α}{l₂:List β},Paired F l₁ l₂->(∀ a b,F a b->G a b)->Paired G l₁ l₂
 | _,_,.nil,_=>.nil
 | _,_,.cons r t,f=>.cons (f _ _ r) (Paired.mapP t f)
theorem ObjOk.stay (x:ObjOk P w H h a o) (k:∀ b u,(b = a\/H b = some (.own a))->h.get? b = some u->h'.get? b = some u)
 (ho:∀ b,H b = some (.own a)->H' b = some (.own a)) (ht:∀ b xs,H b = some (.tup xs)->H' b = some (.tup xs)):ObjOk P w H' h' a o:=by
 induction o with
 | lst xs=>obtain⟨z,its,n,r,e⟩:=x;exact⟨z,its,n,r,k _ _ (.inl rfl) e⟩
 | tup xs=>obtain⟨z,its,r,ob,e,c⟩:=x;exact⟨z,its,r,ob,k _ _ (.inl rfl) e,c⟩
 | dK kvs=>obtain⟨z,y,vs,r,ob,es,ep,e,c⟩:=x;exact⟨z,y,vs,r,ob,es,ep,k _ _ (.inl rfl) e,c⟩
 | dT kvs=>
  obtain⟨z,y,xs,r,ob,es,ep,e,c⟩:=x
  exact⟨z,y,xs,Paired.mapP r fun p q z=>⟨z.1,ht _ _ z.2.1,z.2.2⟩,ob,es,ep,k _ _ (.inl rfl) e,c⟩
 | set S n=>obtain⟨ob,es,ep,t,e,c⟩:=x;exact⟨ob,es,ep,t,k _ _ (.inl rfl) e,c⟩
 | ins C dx fs=>
  obtain⟨d,z,ne,e,mA,⟨od,es,ep,e2,c⟩,r⟩:=x
  exact⟨ho _ d,z,ne,k _ _ (.inl rfl) e,mA,⟨od,es,ep,k _ _ (.inr d) e2,c⟩,r⟩
 | own y=>obtain⟨ob,e⟩:=x;exact⟨ob,k _ _ (.inl rfl) e⟩
 | xd fs=>obtain⟨mA,⟨od,es,ep,e,c⟩,r⟩:=x;exact⟨mA,⟨od,es,ep,k _ _ (.inl rfl) e,c⟩,r⟩
 | rng lo hi=>obtain⟨t,u,v,e⟩:=x;exact⟨t,u,v,k _ _ (.inl rfl) e⟩
 | frz ob u ih=>obtain⟨e,q⟩:=x;exact⟨k _ _ (.inl rfl) e,ih q⟩
 | tbl ps=>
  have e:h.get? a = some { cls:=.none,data:=.fields ps }:=x
  show h'.get? a = some { cls:=.none,data:=.fields ps }
  exact k a _ (.inl rfl) e
 | met f y=>
  have e:h.get? a = some (PySem.W.methodObj (.ref f) (.ref y)):=x
  show h'.get? a = some (PySem.W.methodObj (.ref f) (.ref y))
  exact k a _ (.inl rfl) e
 | ext φ=>obtain⟨p,⟨o,e⟩,st⟩:=x;exact⟨st _ _ p fun o q=>k _ _ (.inl rfl) q,⟨o,k _ _ (.inl rfl) e⟩,st⟩
theorem HOk.lt (x:HOk P w H h) (e:H a = some o):a < h.objs.size:=(x a o e).lt
theorem HOk.fresh (x:HOk P w H h) (e:h.objs.size<=a):H a = none:=by
 cases q:H a with
 | none=>rfl
 | some u=>exact absurd (Nat.lt_of_lt_of_le (x.lt q) e) (Nat.lt_irrefl _)
theorem HOk.kept (x:HOk P w H h) (k:∀ b u,h.get? b = some u->h'.get? b = some u):HOk P w H h':=fun a o e=>
 (x a o e).stay (fun b u _ q=>k b u q) (fun _ q=>q) fun _ _ q=>q
theorem HOk.laid (x:HOk P w H h) (k:∀ b u,h.get? b = some u->h'.get? b = some u) (hp:h.objs.size<=a) (new:ObjOk P w (upd H a o) h' a o):HOk P w (upd H a o) h':=fun b u e=>by
 have hn:=x.fresh hp
 by_cases hb:b = a
 · subst hb;rw [upd_same] at e;cases e;exact new
 · rw [upd_ne hb] at e
   exact (x b u e).stay (fun c v _ q=>k c v q) (fun c q=>by rw [upd_ne (ne_of_none q hn)];exact q) fun c xs q=>by rw [upd_ne (ne_of_none q hn)];exact q
end
def Rd (H:Hp) (a:Addr) (u:HO):Prop:=H a = some u\/∃ o,H a = some (.frz o u)
theorem Rd.ok (r:Rd H a u) (x:HOk P w H h):ObjOk P w H h a u:=by
 rcases r with r | ⟨o,r⟩
 · exact x a u r
 · obtain⟨_,q⟩:=x a _ r
   omega
def Mut:Option HO->Prop
 | some (.lst _)=>True
 | some (.dK _)=>True
 | some (.dT _)=>True
 | some (.set _ _)=>True
 | some (.ins _ _ _)=>True
 | some (.ext _)=>True
 | _=>False
theorem HOk.write (ok:HOk P w H h) (mu:Mut (H x)) (he:e = x\/H e = some (.own x)) (k:∀ b u,b≠e->h.get? b = some u->h'.get? b = some u) (heo:∃ u,h'.get? e = some u)
 (new:ObjOk P w (upd H x o') h' x o'):HOk P w (upd H x o') h':=fun b u q=>by
 have nown:∀ c y,H c = some (.own y)->c≠x:=fun c y r z=>by subst z;rw [r] at mu;exact mu
 have ntup:∀ c xs,H c = some (.tup xs)->c≠x:=fun c xs r z=>by subst z;rw [r] at mu;exact mu
 by_cases hb:b = x
 · subst hb;rw [upd_same] at q;cases q;exact new
 · rw [upd_ne hb] at q
   by_cases hbe:b = e
   · have q':H b = some (.own x):=by
      rcases he with z | z
      · exact absurd (hbe.trans z) hb
      · rw [hbe];exact z
     rw [q] at q';cases q'
     obtain⟨v,hv⟩:=heo
     exact⟨v,by rw [hbe];exact hv⟩
   · refine (ok b u q).stay (fun c v hc r=>k c v ?_ r) (fun c r=>by rw [upd_ne (nown c b r)];exact r) fun c xs r=>by rw [upd_ne (ntup c xs r)];exact r
     rcases hc with rfl | hc
     · exact hbe
     · rintro rfl
       rcases he with z | z
       · exact nown c b hc z
       · rw [hc] at z;cases z;exact hb rfl
structure Un (fs ex:List Addr) (H H':Hp) (h h':Heap):Prop where
 keep:∀ b o,h.get? b = some o->H b = none->b∉fs->b∉ex->h'.get? b = some o
 slot:∀ b o,h.get? b = some o->H b = none->b∈fs->b∉ex->∃ sl,h'.get? b = some { o with slots:=sl }
 free:∀ b o,h.get? b = some o->H b = none->b∉ex->H' b = none
 there:∀ b o,h.get? b = some o->b∉ex->∃ o',h'.get? b = some o'
 tups:∀ b xs,H b = some (.tup xs)->H' b = some (.tup xs)
 frzs:∀ b o u,H b = some (.frz o u)->H' b = some (.frz o u)
 tbls:∀ b ps,H b = some (.tbl ps)->∃ more,H' b = some (.tbl (ps ++ more))
section
variable {h h1 h2 h':Heap}{a x e:Addr}
theorem Un.any (u:Un fs ex H H1 h h1) (q:h.get? b = some ob) (n:H b = none) (hx:b∉ex):∃ sl,h1.get? b = some { ob with slots:=sl }:=by
 by_cases hb:b∈fs
 · exact u.slot b ob q n hb hx
 · exact⟨ob.slots,u.keep b ob q n hb hx⟩
theorem Un.kept (k:∀ b u,h.get? b = some u->h'.get? b = some u):Un fs ex H H h h':=
 ⟨fun b ob q _ _ _=>k b ob q,fun b ob q _ _ _=>⟨ob.slots,k b ob q⟩,fun _ _ _ n _=>n,fun b ob q _=>⟨ob,k b ob q⟩,fun _ _ q=>q,fun _ _ _ q=>q,fun _ ps q=>⟨#[],by simp_all⟩⟩
theorem Un.refl:Un fs ex H H h h:=Un.kept fun _ _ q=>q
theorem Un.laid (k:∀ b u,h.get? b = some u->h'.get? b = some u) (hp:h.objs.size<=a) (hn:H a = none):Un fs ex H (upd H a o) h h' where
 keep:=fun b u q _ _ _=>k b u q
 slot:=fun b u q _ _ _=>⟨u.slots,k b u q⟩
 free:=fun b u q n _=>by rw [upd_ne (Nat.ne_of_lt (Nat.lt_of_lt_of_le (Heap.lt_size q) hp))];omega
 there:=fun b u q _=>⟨u,k b u q⟩
 tups:=fun b xs q=>by rw [upd_ne (ne_of_none q hn)];omega
 frzs:=fun b u xs q=>by rw [upd_ne (ne_of_none q hn)];omega
 tbls:=fun b ps q=>⟨#[],by rw [upd_ne (ne_of_none q hn),q];simp⟩
theorem Un.write (mu:Mut (H x)) (he:e = x\/H e = some (.own x)) (k:∀ b u,b≠e->h.get? b = some u->h'.get? b = some u) (heo:∃ u,h'.get? e = some u):Un fs ex H (upd H x o) h h':=by
 have hx:∀ b,H b = none->b≠x:=fun b n z=>by subst z;rw [n] at mu;exact mu
 have hb:∀ b,H b = none->b≠e:=fun b n z=>by simp_all
 have hm:∀ b u,H b = some u->¬ Mut (some u)->b≠x:=fun b u q nm z=>by grind
 refine⟨fun b u q n _ _=>k b u (hb b n) q,fun b u q n _ _=>⟨u.slots,k b u (hb b n) q⟩,fun b u q n _=>by rw [upd_ne (hx b n)];exact n,fun b u q _=>?_,
  fun b xs q=>by rw [upd_ne (hm b _ q fun z=>z)];exact q,fun b u xs q=>by rw [upd_ne (hm b _ q fun z=>z)];exact q,fun b ps q=>⟨#[],by rw [upd_ne (hm b _ q fun z=>z),q];simp⟩⟩
 by_cases hbe:b = e
 · simp_all
 · exact⟨u,k b u hbe q⟩
end
def trk (h:Heap) (H:Hp):List Addr:=(List.range h.objs.size).filter fun a=>(H a).isSome
def hidT (h:Heap) (H:Hp):Heap:=PySem.W.hideAll h (trk h H)
theorem hidT_size (h:Heap) (H:Hp):(hidT h H).objs.size = h.objs.size:=PySem.W.hideAll_size _ _
theorem hidT_get (e:h.get? b = some o) (n:H b = none):(hidT h H).get? b = some o:=
 PySem.W.hideAll_get _ e fun hm=>by
  have q:=(List.mem_filter.mp hm).2
  simp_all
theorem of_hidT (e:(hidT h H).get? b = some o):h.get? b = some o/\H b = none:=by
 have e':=PySem.W.of_hideAll _ e
 refine⟨e',?_⟩
 cases q:H b with
 | none=>rfl
 | some x=>
  have hm:b∈trk h H:=List.mem_filter.mpr ⟨List.mem_range.mpr (Heap.lt_size e'),by simp [q]⟩
  have z:(hidT h H).get? b = none:=PySem.W.hideAll_none _ hm
  grind
def allNews (g h:Heap) (L:Addr):List (Addr×Obj):=(List.range h.objs.size).filterMap fun a=>if a = L\/(g.get? a).isSome = true then none else (h.get? a).map fun o=>(a,o)
def rest (g h:Heap) (L d:Addr):List (Addr×Obj):=(allNews g h L).filter fun p=>decide (p.1≠d)
structure Mod (K:PySem.W.Frag) (mg:Str->Option Value) (base:Heap):Prop where
 kin:K.In base
 glob:base.Ns mainGlobals mg
 blt:∃ mb,base.Ns builtinsNs mb/\∀ x:Str,x≠"__name__"->mb x = bootBuiltins x
 nolimit:base.NoLimit
structure Cx where
 prog:Program
 w:World
 K:PySem.W.Frag
 mg:Str->Option Value
 base:Heap
 A:Around
 N:List Str
 s₀:Shared
 H₀:Hp
 env:Env
 outer:List Env
 stack:List Env
 ex:List Addr
 fn:Str->Bool
 calm:Bool
 pn:List (Addr×Obj)
 xe:Value->Shared->Prop
def frs (l:List Env):List Addr:=l.filterMap (·.frame)
abbrev Cx.fs (X:Cx):List Addr:=frs X.outer
def Vis (sc:Scope) (x:Str):Prop:=sc.names.lookup x = some .local\/sc.names.lookup x = some .cell\/sc.names.lookup x = some .free
def Loc (sc:Scope) (x:Str):Prop:=sc.names.lookup x = some .local\/sc.names.lookup x = some .cell
def Look (env:Env) (h:Heap) (m:Str->Option Value) (x:Str) (u:Value):Prop:=
 (env.kindOf x = some .local/\m x = some u)\/((env.kindOf x = some .cell\/env.kindOf x = some .free)/\∃ c,env.cells.lookup x = some c/\h.IsCell c (some u))
structure Cx.Ok (X:Cx):Prop where
 mod:Mod X.K X.mg X.base
 kind:X.env.scope.kind = .function
 glob:X.env.globals = mainGlobals
 blt:X.env.builtins = builtinsNs
 above:X.s₀.heap.objs.size<=X.env.locals
 inj:∀ x y c,X.env.cells.lookup x = some c->X.env.cells.lookup y = some c->x = y
 has:∀ x,(X.env.kindOf x = some .cell\/X.env.kindOf x = some .free)->∃ c,X.env.cells.lookup x = some c
 cab:∀ x c,X.fn x = true->X.env.cells.lookup x = some c->X.s₀.heap.objs.size<=c
 hd:X.calm = true->X.A.handled = none
 frames:X.A.frames = some X.stack
 stk:X.stack = X.outer\/(X.stack = X.env :: X.outer/\X.env.frame = some X.env.locals)
 exf:∀ b∈X.ex,b≠X.env.locals/\∀ x c,X.env.cells.lookup x = some c->c≠b
 bs:∀ b o,X.base.get? b = some o->X.s₀.heap.get? b = some o/\X.H₀ b = none
 bsz:X.base.objs.size<=X.s₀.heap.objs.size
 noex:∀ b o,X.base.get? b = some o->b∉X.ex
 exfs:∀ b∈X.ex,b∉X.fs
 funs:X.s₀.heap.FunFrames X.base X.outer
 frf:∀ b∈X.fs,X.H₀ b = none
structure Inv (X:Cx) (pins:List (Addr×Obj)) (σ:List (Option V)) (H:Hp) (s:Shared):Prop where
 ok:X.Ok
 os:s.os = X.s₀.os
 bare:AllBare s.gens
 base:Un X.fs X.ex X.H₀ H X.s₀.heap s.heap
 loc:∃ m,s.heap.Ns X.env.locals m/\∀ (i:Nat) (x:Str) (v:V),X.N[i]? = some x->σ[i]? = some (some v)->Vis X.env.scope x->∃ u,RelV v u/\Look X.env s.heap m x u
 cell:∀ x c,X.env.cells.lookup x = some c->∃ v,s.heap.IsCell c v
 free:H X.env.locals = none
 freeC:∀ x c,X.env.cells.lookup x = some c->H c = none
 pin:∀ p∈X.pn ++ pins,s.heap.get? p.1 = some p.2/\H p.1 = none/\p.1≠X.env.locals/\p.1∉X.fs/\∀ v,p.2.data≠.cell v
 hok:HOk X.prog X.w H s.heap
 len:σ.length = X.N.length
section
variable {X:Cx}
theorem Cx.Ok.nofr (ok:X.Ok) (e:X.base.get? b = some o):b∉X.fs:=fun hb=>by
 have:=(ok.funs.mem hb).1
 grind
theorem Inv.bs (I:Inv X pins σ H s):∀ b o,X.base.get? b = some o->s.heap.get? b = some o/\H b = none:=fun b o e=>
 ⟨I.base.keep b o (I.ok.bs b o e).1 (I.ok.bs b o e).2 (I.ok.nofr e) (I.ok.noex b o e),I.base.free b o (I.ok.bs b o e).1 (I.ok.bs b o e).2 (I.ok.noex b o e)⟩
theorem Inv.bk (I:Inv X pins σ H s):∀ b o,X.base.get? b = some o->s.heap.get? b = some o:=fun b o e=>(I.bs b o e).1
theorem Inv.mod (I:Inv X pins σ H s):Mod X.K X.mg X.base:=I.ok.mod
theorem Inv.kIn (I:Inv X pins σ H s):X.K.In s.heap:=I.ok.mod.kin.keeps I.bk
theorem Inv.lt (I:Inv X pins σ H s):X.env.locals < s.heap.objs.size:=let ⟨_,hn,_⟩:=I.loc;hn.lt
theorem Inv.sz (I:Inv X pins σ H s):X.s₀.heap.objs.size<=s.heap.objs.size:=Nat.le_trans I.ok.above (Nat.le_of_lt I.lt)
theorem Inv.nofs (I:Inv X pins σ H s) {a:Addr} (h:s.heap.objs.size<=a):a∉X.fs:=fun hb=>by
 obtain⟨_,o,ho,_⟩:=I.ok.funs.mem hb
 exact absurd (Nat.lt_of_lt_of_le (Heap.lt_size ho) (Nat.le_trans I.sz h)) (Nat.lt_irrefl _)
theorem Inv.cne (I:Inv X pins σ H s):∀ x c,X.env.cells.lookup x = some c->c≠X.env.locals:=fun x c e z=>by
 obtain⟨v,o,ho,hd⟩:=I.cell x c e
 obtain⟨m,⟨o',es,ep,ho',hd',_⟩,_⟩:=I.loc
 grind
theorem Inv.funs (I:Inv X pins σ H s):s.heap.FunFrames X.base X.outer:=by
 have all:∀ (l:List Env),(∀ b∈frs l,b∈X.fs)->X.s₀.heap.FunFrames X.base l->s.heap.FunFrames X.base l:=by
  intro l
  induction l with
  | nil=>intro _ _;trivial
  | cons env r ih=>
   intro hs hl
   obtain⟨hk,⟨L,o,hf,hn,ho,hd⟩,hr⟩:=hl
   have hL:=hs L (by unfold frs;simp_all)
   obtain⟨sl,e⟩:=I.base.slot L o ho (I.ok.frf L hL) hL fun z=>I.ok.exfs L z hL
   exact⟨hk,⟨L,_,hf,hn,e,hd⟩,ih (fun b hb=>hs b (by unfold frs;rw [List.filterMap_cons,hf];exact List.mem_cons_of_mem _ hb)) hr⟩
 exact all X.outer (fun _ hb=>hb) I.ok.funs
theorem Inv.stack (I:Inv X pins σ H s):s.heap.FunFrames X.base X.stack:=by
 rcases I.ok.stk with e | ⟨e,hf⟩
 · rw [e];exact I.funs
 · rw [e]
   obtain⟨m,hn,_⟩:=I.loc
   refine .cons (by rw [I.ok.kind];decide) hf hn ?_ I.funs
   exact Heap.get?_none_of_le (Nat.le_trans I.ok.bsz I.ok.above)
theorem Inv.stkSub (I:Inv X pins σ H s):∀ b∈frs X.stack,b∈X.env.locals :: X.fs:=fun b hb=>by
 rcases I.ok.stk with e | ⟨e,hf⟩
 · simp_all
 · rw [e] at hb
   unfold frs at hb
   rw [List.filterMap_cons,hf] at hb
   exact hb
theorem Inv.stkFree (I:Inv X pins σ H s):∀ b∈frs X.stack,H b = none:=fun b hb=>by
 rcases List.mem_cons.mp (I.stkSub b hb) with e | hb
 · rw [e];exact I.free
 · obtain⟨_,o,ho,_⟩:=I.ok.funs.mem hb
   exact I.base.free b o ho (I.ok.frf b hb) fun z=>I.ok.exfs b z hb
theorem Inv.step {g':Array GenState}{t':Nat}{d':Drawn}{ch:List Addr} (I:Inv X pins σ H s)
 (hch:∀ b∈ch,(b∈X.ex\/X.s₀.heap.objs.size<=b)/\b≠X.env.locals/\(∀ x c,X.env.cells.lookup x = some c->c≠b)/\∀ p∈X.pn ++ pins,p.1≠b)
 (keep:∀ b o,b≠X.env.locals->b∉X.fs->b∉ch->s.heap.get? b = some o->H b = none->h'.get? b = some o)
 (slot:∀ b o,b≠X.env.locals->b∈X.fs->b∉ch->s.heap.get? b = some o->H b = none->∃ sl,h'.get? b = some { o with slots:=sl }) (free:∀ b o,b∉ch->s.heap.get? b = some o->H b = none->H' b = none)
 (there:∀ b o,b∉ch->s.heap.get? b = some o->∃ o',h'.get? b = some o')
 (tups:∀ b xs,H b = some (.tup xs)->H' b = some (.tup xs)) (frzs:∀ b o u,H b = some (.frz o u)->H' b = some (.frz o u)) (tbls:∀ b ps,H b = some (.tbl ps)->∃ more,H' b = some (.tbl (ps ++ more)))
 (ns:∀ m,s.heap.Ns X.env.locals m->h'.Ns X.env.locals m) (hok:HOk X.prog X.w H' h') (hg:AllBare g'):
 Inv X pins σ H' { s with heap:=h',gens:=g',drawn:=d',toks:=t' }:=by
 have neL:∀ b o,X.s₀.heap.get? b = some o->b≠X.env.locals:=fun b o e=>Nat.ne_of_lt (Nat.lt_of_lt_of_le (Heap.lt_size e) I.ok.above)
 have neC:∀ b o,X.s₀.heap.get? b = some o->b∉X.ex->b∉ch:=fun b o e hx hb=>by
  rcases (hch b hb).1 with z | z
  · exact hx z
  · exact absurd (Nat.lt_of_lt_of_le (Heap.lt_size e) z) (Nat.lt_irrefl _)
 have cellK:∀ x c,X.env.cells.lookup x = some c->∀ v,s.heap.IsCell c v->h'.IsCell c v:=fun x c e v ⟨o,ho,hd⟩=>by
  have nch:c∉ch:=fun z=>(hch c z).2.2.1 x c e rfl
  by_cases hc:c∈X.fs
  · obtain⟨sl,q⟩:=slot c o (I.cne x c e) hc nch ho (I.freeC x c e)
    exact⟨_,q,hd⟩
  · exact⟨o,keep c o (I.cne x c e) hc nch ho (I.freeC x c e),hd⟩
 refine⟨I.ok,I.os,hg,⟨fun b o e n hb hx=>?_,fun b o e n hb hx=>?_,fun b o e n hx=>?_,fun b o e hx=>?_,fun b xs e=>tups b xs (I.base.tups b xs e),fun b o xs e=>frzs b o xs (I.base.frzs b o xs e),fun b ps e=>?_⟩,?_,fun x c e=>?_,?_,fun x c e=>?_,fun p hp=>?_,hok,I.len⟩
 · exact keep b o (neL b o e) hb (neC b o e hx) (I.base.keep b o e n hb hx) (I.base.free b o e n hx)
 · obtain⟨sl,e1⟩:=I.base.slot b o e n hb hx
   obtain⟨sl',e2⟩:=slot b _ (neL b o e) hb (neC b o e hx) e1 (I.base.free b o e n hx)
   exact⟨sl',e2⟩
 · obtain⟨o',e1⟩:=I.base.there b o e hx
   exact free b o' (neC b o e hx) e1 (I.base.free b o e n hx)
 · obtain⟨o',e1⟩:=I.base.there b o e hx
   exact there b o' (neC b o e hx) e1
 · obtain⟨m1,e1⟩:=I.base.tbls b ps e
   obtain⟨m2,e2⟩:=tbls b _ e1
   exact⟨m1 ++ m2,by rw [e2,Array.append_assoc]⟩
 · obtain⟨m,hn,hl⟩:=I.loc
   refine⟨m,ns m hn,fun i x v e1 e2 e3=>?_⟩
   obtain⟨u,r,l⟩:=hl i x v e1 e2 e3
   refine⟨u,r,?_⟩
   rcases l with l | ⟨k,c,e,z⟩
   · exact .inl l
   · exact .inr ⟨k,c,e,cellK x c e _ z⟩
 · obtain⟨v,z⟩:=I.cell x c e
   exact⟨v,cellK x c e v z⟩
 · obtain⟨m,⟨o,_,_,ho,_⟩,_⟩:=I.loc
   exact free _ o (fun z=>(hch _ z).2.1 rfl) ho I.free
 · obtain⟨v,o,ho,hd⟩:=I.cell x c e
   exact free c o (fun z=>(hch c z).2.2.1 x c e rfl) ho (I.freeC x c e)
 · obtain⟨e,n,ne,nf,d⟩:=I.pin p hp
   have nch:p.1∉ch:=fun z=>(hch p.1 z).2.2.2 p hp rfl
   exact⟨keep p.1 p.2 ne nf nch e n,free p.1 p.2 nch e n,ne,nf,d⟩
theorem Inv.un {t':Nat} (I:Inv X pins σ H s) (u:Un X.fs [] H H' s.heap h') (hok:HOk X.prog X.w H' h'):Inv X pins σ H' { s with heap:=h',toks:=t' }:=by
 obtain⟨m,⟨o,es,ep,ho,r⟩,_⟩:=id I.loc
 obtain⟨sl,hL⟩:=u.any ho I.free (by simp)
 exact I.step (g':=s.gens) (d':=s.drawn) (ch:=[]) (fun _ z=>nomatch z) (fun b o _ hb _ e n=>u.keep b o e n hb (by simp)) (fun b o _ hb _ e n=>u.slot b o e n hb (by simp)) (fun b o _ e n=>u.free b o e n (by simp)) (fun b o _ e=>u.there b o e (by simp)) u.tups u.frzs u.tbls (fun m' hm=>by
  obtain⟨o',es',ep',ho',r'⟩:=hm
  rw [ho] at ho';cases ho'
  exact⟨_,es',ep',hL,r'⟩) hok I.bare
theorem Inv.call {g':Array GenState}{t':Nat}{d':Drawn}{ch:List Addr} (I:Inv X pins σ H s) (u:Un (frs X.stack) ch H H' s.heap h') (hok:HOk X.prog X.w H' h') (hg:AllBare g')
 (hch:∀ b∈ch,(b∈X.ex\/X.s₀.heap.objs.size<=b)/\b≠X.env.locals/\(∀ x c,X.env.cells.lookup x = some c->c≠b)/\∀ p∈X.pn ++ pins,p.1≠b):
 Inv X pins σ H' { s with heap:=h',gens:=g',drawn:=d',toks:=t' }:=by
 obtain⟨m,⟨o,es,ep,ho,r⟩,_⟩:=id I.loc
 obtain⟨sl,hL⟩:=u.any ho I.free fun z=>(hch _ z).2.1 rfl
 exact I.step (ch:=ch) hch (fun b o hL hb hc e n=>u.keep b o e n (fun z=>(List.mem_cons.mp (I.stkSub b z)).elim hL hb) hc) (fun b o _ _ hc e n=>u.any e n hc) (fun b o hc e n=>u.free b o e n hc) (fun b o hc e=>u.there b o e hc) u.tups u.frzs u.tbls (fun m' hm=>by
  obtain⟨o',es',ep',ho',r'⟩:=hm
  rw [ho] at ho';cases ho'
  exact⟨_,es',ep',hL,r'⟩) hok hg
theorem Inv.turned {t':Nat}{it:Addr} (I:Inv X pins σ H s) (k:∀ b o,b≠it->s.heap.get? b = some o->h'.get? b = some o) (hn:H it = none) (hL:it≠X.env.locals)
 (h1:it∈X.ex\/X.s₀.heap.objs.size<=it) (h2:∀ x c,X.env.cells.lookup x = some c->c≠it) (h3:∀ p∈X.pn ++ pins,p.1≠it):Inv X pins σ H { s with heap:=h',toks:=t' }:=by
 have nit:∀ b u,H b = some u->b≠it:=fun b u e z=>by rw [z,hn] at e;cases e
 refine I.step (g':=s.gens) (d':=s.drawn) (ch:=[it]) (fun b hb=>?_) (fun b o _ _ hc e _=>k b o (fun z=>hc (by simp [z])) e) (fun b o _ _ hc e _=>⟨o.slots,k b o (fun z=>hc (by simp [z])) e⟩) (fun _ _ _ _ n=>n)
  (fun b o hc e=>⟨o,k b o (fun z=>hc (by simp [z])) e⟩) (fun _ _ e=>e) (fun _ _ _ e=>e) (fun b ps e=>⟨#[],by rw [e];simp⟩) (fun m hm=>?_) (fun b u e=>?_) I.bare
 · have e:b = it:=by simpa using hb
   subst e
   exact⟨h1,hL,h2,h3⟩
 · obtain⟨o,es,ep,ho,r⟩:=hm
   exact⟨o,es,ep,k _ o (Ne.symm hL) ho,r⟩
 · refine (I.hok b u e).stay (fun c v hc q=>k c v ?_ q) (fun _ q=>q) fun _ _ q=>q
   rcases hc with z | z
   · rw [z];exact nit b u e
   · exact nit c _ z
theorem Inv.tok (I:Inv X pins σ H s) (t:Nat):Inv X pins σ H { s with toks:=t }:=I.un Un.refl I.hok
theorem Inv.kept {t':Nat} (I:Inv X pins σ H s) (k:∀ b u,s.heap.get? b = some u->h'.get? b = some u):Inv X pins σ H { s with heap:=h',toks:=t' }:=I.un (Un.kept k) (I.hok.kept k)
theorem Inv.laid {a:Addr}{o:HO}{t':Nat} (I:Inv X pins σ H s) (k:∀ b u,s.heap.get? b = some u->h'.get? b = some u) (hp:s.heap.objs.size<=a) (new:ObjOk X.prog X.w (upd H a o) h' a o):
 Inv X pins σ (upd H a o) { s with heap:=h',toks:=t' }:=I.un (Un.laid k hp (I.hok.fresh hp)) (I.hok.laid k hp new)
theorem Inv.write {x e:Addr}{o:HO}{t':Nat} (I:Inv X pins σ H s) (mu:Mut (H x)) (he:e = x\/H e = some (.own x)) (k:∀ b u,b≠e->s.heap.get? b = some u->h'.get? b = some u) (heo:∃ u,h'.get? e = some u)
 (new:ObjOk X.prog X.w (upd H x o) h' x o):Inv X pins σ (upd H x o) { s with heap:=h',toks:=t' }:=I.un (Un.write mu he k heo) (I.hok.write mu he k heo new)
theorem Inv.pins_of (I:Inv X pins σ H s) (h:∀ p∈pins',s.heap.get? p.1 = some p.2/\H p.1 = none/\p.1≠X.env.locals/\p.1∉X.fs/\∀ v,p.2.data≠.cell v):Inv X pins' σ H s:=
 ⟨I.ok,I.os,I.bare,I.base,I.loc,I.cell,I.free,I.freeC,fun p hp=>(List.mem_append.mp hp).elim (fun z=>I.pin p (List.mem_append_left _ z)) (h p),I.hok,I.len⟩
theorem nodup_ix {N:List Str} (hN:N.Nodup) {i j:Nat} (a:N[i]? = some x) (b:N[j]? = some x):i = j:=by
 obtain⟨h1,e1⟩:=List.getElem?_eq_some_iff.mp a
 obtain⟨h2,e2⟩:=List.getElem?_eq_some_iff.mp b
 exact (List.getElem_inj hN).mp (e1.trans e2.symm)
theorem store_ok2 {M:Model}{A:Around}{E:Value->Shared->Prop}{i:Nat}{x:Str}{v:V}{u:Value}{Q:Unit->Shared->Prop} (I:Inv X pins σ H s) (hN:X.N.Nodup) (hi:X.N[i]? = some x) (hx:Loc X.env.scope x) (r:RelV v u)
 (h:∀ s',Inv X pins (σ.set i (some v)) H s'->(∃ a,Heap.SameBut a s.heap s'.heap/\(a = X.env.locals\/X.env.cells.lookup x = some a))->Q () s') (hf:X.fn x = true\/X.env.scope.names.lookup x = some .local:=by first | exact .inl rfl | exact .inr rfl | assumption):wpAny M A (storeName X.env x u) Q E s:=by
 obtain⟨m,hn,hl⟩:=id I.loc
 have hcls:(X.env.scope.kind == .class || (X.env.scope.kind == .module && X.env.locals != X.env.globals)) = false:=by rw [I.ok.kind];rfl
 have hiσ:i < σ.length:=by rw [I.len];exact (List.getElem?_eq_some_iff.mp hi).1
 have cne:=I.cne
 have tracked:∀ {a:Addr}{h':Heap},(∃ o,s.heap.get? a = some o/\H a = none)->Heap.SameBut a s.heap h'->HOk X.prog X.w H h':=fun {a h'} ha hs b ob e=>by
  obtain⟨_,_,hfree⟩:=ha
  refine (I.hok b ob e).stay (fun c w' hc q=>(hs.2 c ?_).trans q) (fun _ q=>q) fun _ _ q=>q
  rintro rfl
  rcases hc with rfl | hc
  · rw [hfree] at e;cases e
  · rw [hfree] at hc;cases hc
 rcases hx with hk | hk
 · refine wpAny_storeName_local hk hn (fun h' hn' hs=>?_) hcls
   obtain⟨oL,_,_,hoL,_⟩:=id hn
   refine h _ ⟨I.ok,I.os,I.bare,⟨fun b o e n hb hx=>?_,fun b o e n hb hx=>?_,I.base.free,fun b o e hx=>?_,I.base.tups,I.base.frzs,I.base.tbls⟩,⟨_,hn',fun j y v' e1 e2 e3=>?_⟩,fun y c e=>?_,I.free,I.freeC,fun p hp=>?_,tracked ⟨oL,hoL,I.free⟩ hs,by simpa using I.len⟩ ⟨_,hs,.inl rfl⟩
   · exact (hs.2 b (Nat.ne_of_lt (Nat.lt_of_lt_of_le (Heap.lt_size e) I.ok.above))).trans (I.base.keep b o e n hb hx)
   · obtain⟨sl,e1⟩:=I.base.slot b o e n hb hx
     exact⟨sl,(hs.2 b (Nat.ne_of_lt (Nat.lt_of_lt_of_le (Heap.lt_size e) I.ok.above))).trans e1⟩
   · obtain⟨o',e1⟩:=I.base.there b o e hx
     exact⟨o',(hs.2 b (Nat.ne_of_lt (Nat.lt_of_lt_of_le (Heap.lt_size e) I.ok.above))).trans e1⟩
   · by_cases hj:j = i
     · subst hj
       rw [hi] at e1;cases e1
       rw [List.getElem?_set_self hiσ] at e2
       cases e2
       exact⟨u,r,.inl ⟨hk,by simp⟩⟩
     · rw [List.getElem?_set_ne (Ne.symm hj)] at e2
       obtain⟨u',r',q⟩:=hl j y v' e1 e2 e3
       refine⟨u',r',?_⟩
       rcases q with ⟨k,e⟩ | ⟨k,c,e,z⟩
       · refine .inl ⟨k,?_⟩
         have:y≠x:=fun e=>hj (nodup_ix hN e1 (e▸hi))
         simp [this,e]
       · exact .inr ⟨k,c,e,z.sameBut hs (cne y c e)⟩
   · obtain⟨w',z⟩:=I.cell y c e
     exact⟨w',z.sameBut hs (cne y c e)⟩
   · obtain⟨e,n,ne,nf,d⟩:=I.pin p hp
     exact⟨(hs.2 p.1 ne).trans e,n,ne,nf,d⟩
 · have hfn:X.fn x = true:=by
    rcases hf with z | z
    · exact z
    · rw [z] at hk;cases hk
   obtain⟨c,hc⟩:=I.ok.has x (.inl hk)
   obtain⟨w',z⟩:=I.cell x c hc
   refine wpAny_storeName_cell I.ok.kind hk hc z (fun h' hc' hs=>?_)
   obtain⟨oc,hoc,hocd⟩:=id z
   refine h { s with heap:=h' } ⟨I.ok,I.os,I.bare,⟨fun b o e n hb hx=>?_,fun b o e n hb hx=>?_,I.base.free,fun b o e hx=>?_,I.base.tups,I.base.frzs,I.base.tbls⟩,⟨m,hn.sameBut hs (Ne.symm (cne x c hc)),fun j y v' e1 e2 e3=>?_⟩,fun y c' e=>?_,I.free,I.freeC,fun p hp=>?_,tracked ⟨oc,hoc,I.freeC x c hc⟩ hs,by simpa using I.len⟩ ⟨c,hs,.inr hc⟩
   · exact (hs.2 b (Nat.ne_of_lt (Nat.lt_of_lt_of_le (Heap.lt_size e) (I.ok.cab x c hfn hc)))).trans (I.base.keep b o e n hb hx)
   · obtain⟨sl,e1⟩:=I.base.slot b o e n hb hx
     exact⟨sl,(hs.2 b (Nat.ne_of_lt (Nat.lt_of_lt_of_le (Heap.lt_size e) (I.ok.cab x c hfn hc)))).trans e1⟩
   · obtain⟨o',e1⟩:=I.base.there b o e hx
     exact⟨o',(hs.2 b (Nat.ne_of_lt (Nat.lt_of_lt_of_le (Heap.lt_size e) (I.ok.cab x c hfn hc)))).trans e1⟩
   · by_cases hj:j = i
     · subst hj
       rw [hi] at e1;cases e1
       rw [List.getElem?_set_self hiσ] at e2
       cases e2
       exact⟨u,r,.inr ⟨.inl hk,c,hc,hc'⟩⟩
     · rw [List.getElem?_set_ne (Ne.symm hj)] at e2
       obtain⟨u',r',q⟩:=hl j y v' e1 e2 e3
       refine⟨u',r',?_⟩
       rcases q with q | ⟨k,c',e,z'⟩
       · exact .inl q
       · refine .inr ⟨k,c',e,z'.sameBut hs ?_⟩
         rintro rfl
         exact hj (nodup_ix hN e1 (I.ok.inj _ _ _ e hc▸hi))
   · by_cases hcc:c' = c
     · subst hcc;exact⟨_,hc'⟩
     · obtain⟨w2,z2⟩:=I.cell y c' e
       exact⟨w2,z2.sameBut hs hcc⟩
   · obtain⟨e,n,ne,nf,d⟩:=I.pin p hp
     refine⟨(hs.2 p.1 ?_).trans e,n,ne,nf,d⟩
     intro q
     rw [q,hoc] at e
     have q':oc = p.2:=Option.some.inj e
     exact d w' (by rw [<- q'];exact hocd)
theorem store_ok (I:Inv X pins σ H s) (hN:X.N.Nodup) (hi:X.N[i]? = some x) (hx:Loc X.env.scope x) (r:RelV v u)
 (h:∀ s',Inv X pins (σ.set i (some v)) H s'->Q () s') (hf:X.fn x = true\/X.env.scope.names.lookup x = some .local:=by first | exact .inl rfl | exact .inr rfl | assumption):wpAny M A (storeName X.env x u) Q E s:=
 store_ok2 I hN hi hx r (fun s' I' _=>h s' I') hf
theorem Inv.call' {s':Shared}{ch:List Addr} (I:Inv X pins σ H s) (ho:s'.os = s.os) (u:Un (frs X.stack) ch H H' s.heap s'.heap) (hok:HOk X.prog X.w H' s'.heap) (hg:AllBare s'.gens)
 (hch:∀ b∈ch,(b∈X.ex\/X.s₀.heap.objs.size<=b)/\b≠X.env.locals/\(∀ x c,X.env.cells.lookup x = some c->c≠b)/\∀ p∈X.pn ++ pins,p.1≠b):Inv X pins σ H' s':=by
 obtain⟨h',g',d',t',o'⟩:=s'
 have e:o' = s.os:=ho
 subst e
 exact I.call (g':=g') (t':=t') (d':=d') u hok hg hch
end
abbrev XK:=Value->Option Addr->Hp->Prop
abbrev St:=List (Option V)
abbrev VK:=V->Hp->Prop
abbrev TE:=St->Hp->VK->Prop
abbrev TT:=St->Hp->(Bool->Hp->Prop)->Prop
abbrev TA:=St->Hp->(List V->Hp->Prop)->Prop
structure Ends where
 nx:St->Hp->Prop
 rt:VK
 bk:St->Hp->Prop:=fun _ _=>False
 ct:St->Hp->Prop:=fun _ _=>False
abbrev TS:=Ends->St->Hp->Prop
def EP (X:Cx) (pins:List (Addr×Obj)) (σ:St) (Q:VK) (u:Value) (s':Shared):Prop:=∃ v H',Inv X pins σ H' s'/\RelV v u/\Q v H'
def TP (X:Cx) (pins:List (Addr×Obj)) (σ:St) (Q:Bool->Hp->Prop) (b:Bool) (s':Shared):Prop:=∃ H',Inv X pins σ H' s'/\Q b H'
def AP (X:Cx) (pins:List (Addr×Obj)) (σ:St) (Q:List V->Hp->Prop) (us:List Value) (s':Shared):Prop:=∃ vs H',Inv X pins σ H' s'/\Vals vs us/\Q vs H'
def SP (X:Cx) (pins:List (Addr×Obj)) (D:Ends) (f:Flow) (s':Shared):Prop:=
 match f with
 | .next=>∃ σ' H',Inv X pins σ' H' s'/\D.nx σ' H'
 | .brk=>∃ σ' H',Inv X pins σ' H' s'/\D.bk σ' H'
 | .cont=>∃ σ' H',Inv X pins σ' H' s'/\D.ct σ' H'
 | .ret u=>∃ v σ' H',Inv X pins σ' H' s'/\RelV v u/\D.rt v H'
def PE (X:Cx) (e:Expr) (t:TE):Prop:=
 ∀ (pins:List (Addr×Obj)) (s:Shared) (σ:St) (H:Hp) (Q:VK),Inv X pins σ H s->t σ H Q->wpAny (model X.prog X.w) X.A (eval e X.env) (EP X pins σ Q) X.xe s
def PT (X:Cx) (e:Expr) (t:TT):Prop:=
 ∀ (pins:List (Addr×Obj)) (s:Shared) (σ:St) (H:Hp) (Q:Bool->Hp->Prop),Inv X pins σ H s->t σ H Q->wpAny (model X.prog X.w) X.A (isTrue e X.env (eval e X.env)) (TP X pins σ Q) X.xe s
def PW (X:Cx) (e:Expr) (t:TT):Prop:=
 ∀ (whole:Sem Value) (pins:List (Addr×Obj)) (s:Shared) (σ:St) (H:Hp) (Q:Bool->Hp->Prop),Inv X pins σ H s->t σ H Q->wpAny (model X.prog X.w) X.A (isTrue e X.env whole) (TP X pins σ Q) X.xe s
theorem PW.pt (h:PW X e t):PT X e t:=h _
def PA (X:Cx) (es:List Expr) (t:TA):Prop:=
 ∀ (pos:Pos) (pins:List (Addr×Obj)) (s:Shared) (σ:St) (H:Hp) (Q:List V->Hp->Prop),Inv X pins σ H s->t σ H Q->wpAny (model X.prog X.w) X.A (spliced (backTo pos (starEach es X.env))) (AP X pins σ Q) X.xe s
def PS (X:Cx) (st:Stmt) (t:TS):Prop:=
 ∀ (pins:List (Addr×Obj)) (s:Shared) (σ:St) (H:Hp) (D:Ends),Inv X pins σ H s->t D σ H->wpAny (model X.prog X.w) X.A (exec st X.env) (SP X pins D) X.xe s
def PSs (X:Cx) (st:List Stmt) (t:TS):Prop:=
 ∀ (pins:List (Addr×Obj)) (s:Shared) (σ:St) (H:Hp) (D:Ends),Inv X pins σ H s->t D σ H->wpAny (model X.prog X.w) X.A (execs st X.env) (SP X pins D) X.xe s
theorem thn {α:Type}{t:Sem α}{Q Q':α->Shared->Prop}{M:Model}{A:Around}{E:Value->Shared->Prop}{s:Shared} (h:wpAny M A t Q E s) (hQ:∀ a s,Q a s->Q' a s):wpAny M A t Q' E s:=wpAny_mono h hQ fun _ _ x=>x
section
variable {X:Cx}
theorem bin {a b:Expr}{ta tb:TE} (ha:PE X a ta) (hb:PE X b tb) {pins:List (Addr×Obj)}{s:Shared}{σ:St}{H:Hp}{R:V->V->Hp->Prop} (I:Inv X pins σ H s) (h:ta σ H fun x H1=>tb σ H1 fun y H2=>R x y H2)
 {α:Type}{Q:α->Shared->Prop}{f:Value->Value->Sem α}
 (hf:∀ v u s2 x y H2,Inv X pins σ H2 s2->RelV x v->RelV y u->R x y H2->wpAny (model X.prog X.w) X.A (f v u) Q X.xe s2):
 wpAny (model X.prog X.w) X.A (eval a X.env) (fun v s₁=>wpAny (model X.prog X.w) X.A (eval b X.env) (fun u s₂=>wpAny (model X.prog X.w) X.A (f v u) Q X.xe s₂) X.xe s₁) X.xe s:=by
 refine thn (ha pins s σ H _ I h) fun v s1 ⟨x,H1,I1,r1,q1⟩=>?_
 refine thn (hb pins s1 σ H1 _ I1 q1) fun u s2 ⟨y,H2,I2,r2,q2⟩=>?_
 exact hf v u s2 x y H2 I2 r1 r2 q2
def tVar (i:Nat):TE:=fun σ H Q=>∃ v,σ[i]? = some (some v)/\Q v H
def tC (v:V):TE:=fun _ H Q=>Q v H
theorem pe_var {pos:Pos} (hN:X.N[i]? = some x) (hv:Vis X.env.scope x) (hd:(x == ("__debug__" : Str)) = false:=by decide) (hcd:(x == ("__classdict__" : Str)) = false:=by decide):PE X (.Name x pos) (tVar i):=by
 intro pins s σ H Q I h
 obtain⟨v,e,h⟩:=h
 obtain⟨m,hn,hl⟩:=I.loc
 obtain⟨u,r,l⟩:=hl i x v hN e hv
 have fin:EP X pins σ Q u s:=⟨v,H,I,r,h⟩
 rcases l with ⟨hk,hm⟩ | ⟨hk,c,hc,hcell⟩
 · exact wpAny_Name (wpAny_loadName_local I.ok.kind hk hn hm fin) hd
 · rcases hk with hk | hk
   · exact wpAny_Name (wpAny_loadName_cell I.ok.kind hk hc hcell fin) hd
   · exact wpAny_Name (wpAny_loadName_free I.ok.kind hk hc hcell fin hcd) hd
theorem pe_int:PE X (.Constant (.int i) j pos) (tC (.int i)):=fun _ _ _ H _ I h=>wpAny_Constant_int ⟨.int i,H,I.tok _,⟨_,rfl⟩,h⟩
theorem pe_bl:PE X (.Constant (.bool b) j pos) (tC (.bl b)):=fun _ _ _ H _ I h=>Constant_bool ⟨.bl b,H,I,rfl,h⟩
theorem pe_non:PE X (.Constant .none j pos) (tC .non):=fun _ _ _ H _ I h=>Constant_none ⟨.non,H,I,rfl,h⟩
theorem pe_str:PE X (.Constant (.str x) j pos) (tC (.str x)):=fun _ _ _ H _ I h=>Calls.Constant_str ⟨.str x,H,I.tok _,⟨_,rfl⟩,h⟩
def Gl (X:Cx) (x:Str):Prop:=X.env.kindOf x = some .globalImplicit
theorem ld_glob {σ:St} (I:Inv X pins σ H s) (hg:Gl X x) (hm:X.mg x = some u) (h:Q u s)
 (hd:(x == ("__debug__" : Str)) = false:=by decide):wpAny (model X.prog X.w) X.A (eval (.Name x pos) X.env) Q E s:=
 Calls.Name_function_global I.ok.kind hg (Calls.loadGlobal_global (by rw [I.ok.glob];exact I.mod.glob.keeps I.bk) hm h) hd
theorem ld_blt {E:Value->Shared->Prop}{σ:St}{pos:Pos} (I:Inv X pins σ H s) (hg:Gl X x) (hm:X.mg x = none) (hv:bootBuiltins x = some u) (h:Q u s)
 (hn:x≠"__name__":=by decide) (hd:(x == ("__debug__" : Str)) = false:=by decide):wpAny (model X.prog X.w) X.A (eval (.Name x pos) X.env) Q E s:=by
 obtain⟨mb,h1,h2⟩:=I.mod.blt
 exact Calls.Name_function_global I.ok.kind hg (Calls.loadGlobal_builtin (by rw [I.ok.glob];exact I.mod.glob.keeps I.bk) hm (by rw [I.ok.blt];exact h1.keeps I.bk) ((h2 x hn).trans hv) h) hd
theorem pe_glob {x:Str}{v:V}{u:Value}{pos:Pos} (hg:Gl X x) (hm:X.mg x = some u) (r:RelV v u) (hd:(x == ("__debug__" : Str)) = false:=by decide):PE X (.Name x pos) (tC v):=
 fun _ _ _ H _ I h=>ld_glob I hg hm ⟨v,H,I,r,h⟩ hd
theorem pe_bltn {pos:Pos} (hg:Gl X x) (hm:X.mg x = none) (hv:bootBuiltins x = some u) (r:RelV v u) (hn:x≠"__name__":=by decide) (hd:(x == ("__debug__" : Str)) = false:=by decide):PE X (.Name x pos) (tC v):=
 fun _ _ _ H _ I h=>ld_blt I hg hm hv ⟨v,H,I,r,h⟩ hn hd
def PC (X:Cx) (op:CmpOp) (a b:Expr) (t:TE):Prop:=
 ∀ (pins:List (Addr×Obj)) (s:Shared) (σ:St) (H:Hp) (Q:VK),Inv X pins σ H s->t σ H Q->
  wpAny (model X.prog X.w) X.A (eval a X.env) (fun v s₁=>wpAny (model X.prog X.w) X.A (eval b X.env) (fun u s₂=>wpAny (model X.prog X.w) X.A (compareOp op v u) (EP X pins σ Q) X.xe s₂) X.xe s₁) X.xe s
def tB (t:TE):TT:=fun σ H Q=>t σ H fun x H1=>∃ c,x = .bl c/\Q c H1
theorem pt_cmp (h:PC X op a b t) (h1:behindInMarks op b = false:=by first | exact nobehind _ (by decide) (by decide) | rfl):PT X (.Compare a [op] [b] pos) (tB t):=by
 intro pins s σ H Q I hw
 refine wpAny_isTrue_Compare1 (thn (h pins s σ H _ I hw) fun v s1 h1=>thn h1 fun u s2 h2=>thn h2 fun c s3 ⟨x,H1,I1,r1,q1⟩=>?_) h1
 obtain⟨d,rfl,q⟩:=q1
 cases r1
 exact wpAny_truthy_bool ⟨H1,I1,q⟩
theorem pt_val {e:Expr}{t:TE} (h:PE X e t) (he:∀ whole,isTrue e X.env whole = (do let v <- whole;standAt e.pos;holding [v] (truthy v)):=by intro _;rfl):PT X e (tB t):=by
 intro pins s σ H Q I hw
 refine isTrue_plain (thn (h pins s σ H _ I hw) fun v s1 ⟨x,H1,I1,r1,q1⟩=>?_) (he _)
 obtain⟨d,rfl,q⟩:=q1
 cases r1
 exact wpAny_truthy_bool ⟨H1,I1,q⟩
variable {rest:List Expr}
def tAnd (t u:TT):TT:=fun σ H Q=>t σ H fun c H1=>if c = true then u σ H1 Q else Q false H1
def tOr (t u:TT):TT:=fun σ H Q=>t σ H fun c H1=>if c = true then Q true H1 else u σ H1 Q
def tNot (t:TT):TT:=fun σ H Q=>t σ H fun c H1=>Q (!c) H1
theorem pw_and1 (ha:PT X a tA):PW X (.BoolOp .And [a] pos) tA:=by
 intro wh pins s σ H Q I h
 refine isTrue_and (thn (ha pins s σ H Q I h) fun c s1 e=>?_)
 cases c with
 | true=>exact isTrue_and_nil e
 | false=>exact e
theorem pw_or1 (ha:PT X a tA):PW X (.BoolOp .Or [a] pos) tA:=by
 intro wh pins s σ H Q I h
 refine isTrue_or (thn (ha pins s σ H Q I h) fun c s1 e=>?_)
 cases c with
 | false=>exact isTrue_or_nil e
 | true=>exact e
theorem pw_and (ha:PT X a tA) (hb:PW X (.BoolOp .And (b :: rest) pos) tB'):PW X (.BoolOp .And (a :: b :: rest) pos) (tAnd tA tB'):=by
 intro wh pins s σ H Q I h
 refine isTrue_and (thn (ha pins s σ H _ I h) fun c s1 ⟨H1,I1,q1⟩=>?_)
 cases c with
 | true=>exact hb wh pins s1 σ H1 Q I1 q1
 | false=>assumption
theorem pw_or (ha:PT X a tA) (hb:PW X (.BoolOp .Or (b :: rest) pos) tB'):PW X (.BoolOp .Or (a :: b :: rest) pos) (tOr tA tB'):=by
 intro wh pins s σ H Q I h
 refine isTrue_or (thn (ha pins s σ H _ I h) fun c s1 ⟨H1,I1,q1⟩=>?_)
 cases c with
 | true=>assumption
 | false=>exact hb wh pins s1 σ H1 Q I1 q1
theorem pt_not (ha:PT X a tA):PT X (.UnaryOp .Not a pos) (tNot tA):=by
 intro pins s σ H Q I h
 exact isTrue_not (ha pins s σ H _ I h)
def tAndV (ta tb:TE):TE:=fun σ H Q=>ta σ H fun x H1=>∃ c,x = .bl c/\if c = true then tb σ H1 Q else Q (.bl false) H1
def tOrV (ta tb:TE):TE:=fun σ H Q=>ta σ H fun x H1=>∃ c,x = .bl c/\if c = true then Q (.bl true) H1 else tb σ H1 Q
def tNotV (ta:TE):TE:=fun σ H Q=>ta σ H fun x H1=>∃ c,x = .bl c/\Q (.bl (!c)) H1
theorem pe_one (h:PE X a t):PE X (.BoolOp op [a] pos) t:=fun pins s σ H Q I hw=>BoolOp_one (h pins s σ H Q I hw)
theorem pe_and (ha:PE X a ta) (hb:PE X (.BoolOp .And (b :: rest) pos) tb):PE X (.BoolOp .And (a :: b :: rest) pos) (tAndV ta tb):=by
 intro pins s σ H Q I h
 refine BoolOp_and (thn (ha pins s σ H _ I h) fun v s1 ⟨x,H1,I1,r1,q1⟩=>?_)
 obtain⟨c,rfl,q1⟩:=q1
 cases r1
 refine wpAny_truthy_bool ?_
 cases c with
 | true=>exact hb pins s1 σ H1 Q I1 q1
 | false=>exact⟨.bl false,H1,I1,rfl,q1⟩
theorem pe_or (ha:PE X a ta) (hb:PE X (.BoolOp .Or (b :: rest) pos) tb):PE X (.BoolOp .Or (a :: b :: rest) pos) (tOrV ta tb):=by
 intro pins s σ H Q I h
 refine BoolOp_or (thn (ha pins s σ H _ I h) fun v s1 ⟨x,H1,I1,r1,q1⟩=>?_)
 obtain⟨c,rfl,q1⟩:=q1
 cases r1
 refine wpAny_truthy_bool ?_
 cases c with
 | false=>exact hb pins s1 σ H1 Q I1 q1
 | true=>exact⟨.bl true,H1,I1,rfl,q1⟩
theorem pe_not (ha:PE X a ta):PE X (.UnaryOp .Not a pos) (tNotV ta):=by
 intro pins s σ H Q I h
 refine UnaryOp_ (thn (ha pins s σ H _ I h) fun v s1 ⟨x,H1,I1,r1,q1⟩=>?_)
 obtain⟨c,rfl,q1⟩:=q1
 cases r1
 exact not_of (wpAny_truthy_bool ⟨.bl (!c),H1,I1,rfl,q1⟩)
end
def SqL (K:PySem.W.Frag) (H:Hp) (a:Addr) (xs:List V):Prop:=
 Rd H a (.lst xs)\/
  ∃ (o:Obj) (its:Array Value) (n:Nat),K.lookup a = some o/\o.cls = .type "list"/\o.dict = none/\o.data = .seq its n/\its.size<=sizeLine/\Vals xs its.toList
def SqT (K:PySem.W.Frag) (H:Hp) (a:Addr) (xs:List V):Prop:=
 Rd H a (.tup xs)\/
  ∃ (o:Obj) (its:Array Value) (n:Nat),K.lookup a = some o/\o.cls = .type "tuple"/\o.data = .seq its n/\its.size<=sizeLine/\Vals xs its.toList
def absV:Value->Option V
 | .none=>some .non
 | .bool b=>some (.bl b)
 | .int i _=>some (.int i)
 | .str x _=>some (.str x)
 | .bytes b _=>some (.byt b)
 | .float b _=>some (.flt b)
 | .ref a=>some (.ref a)
 | .type n=>some (.ty n)
 | _=>none
theorem RelV.abs (r:RelV x u):absV u = some x:=by
 cases x with
 | non=>cases r;rfl
 | bl _=>cases r;rfl
 | int _=>obtain⟨t,rfl⟩:=r;rfl
 | str _=>obtain⟨t,rfl⟩:=r;rfl
 | byt _=>obtain⟨t,rfl⟩:=r;rfl
 | flt _=>obtain⟨t,rfl⟩:=r;rfl
 | ref _=>cases r;rfl
 | ty _=>cases r;rfl
theorem RelV.inj (r:RelV x u) (q:RelV y u):x = y:=Option.some.inj (r.abs.symm.trans q.abs)
theorem Vals.inj:∀ {xs ys:List V}{us:List Value},Vals xs us->Vals ys us->xs = ys
 | _,_,_,.nil,.nil=>rfl
 | _,_,_,.cons r t,.cons r' t'=>by rw [r.inj r',Vals.inj t t']
section
variable {σ:St}
theorem SqL.of {K:PySem.W.Frag} (h:H a = some (.lst xs)):SqL K H a xs:=.inl (.inl h)
theorem SqT.of {K:PySem.W.Frag} (h:H a = some (.tup xs)):SqT K H a xs:=.inl (.inl h)
theorem Inv.list (I:Inv X pins σ H s) (h:SqL X.K H a xs):∃ its:List Value,Vals xs its/\PlainL s.heap a its.toArray/\xs.length<=sizeLine:=by
 rcases h with h | ⟨o,its,n,hk,hc,hd,hs,hz,r⟩
 · obtain⟨z,its,n,r,e⟩:=h.ok I.hok
   exact⟨its,r,⟨_,n,e,rfl,rfl,rfl⟩,z⟩
 · refine⟨its.toList,r,⟨o,n,I.kIn a o hk,hc,hd,by omega⟩,?_⟩
   have e:=r.length
   grind
theorem Inv.tuple (I:Inv X pins σ H s) (h:SqT X.K H a xs):∃ its:List Value,Vals xs its/\IsTup s.heap a its.toArray/\xs.length<=sizeLine:=by
 rcases h with h | ⟨o,its,n,hk,hc,hs,hz,r⟩
 · obtain⟨z,its,r,p⟩:=h.ok I.hok
   grind
 · refine⟨its.toList,r,⟨o,I.kIn a o hk,hc,n,by omega⟩,?_⟩
   have e:=r.length
   grind
theorem Inv.list_inj (I:Inv X pins σ H s) (h:SqL X.K H a xs) (h':SqL X.K H a ys):xs = ys:=by
 obtain⟨its,r,⟨o,n,e,_,_,d⟩,_⟩:=I.list h
 obtain⟨its',r',⟨o',n',e',_,_,d'⟩,_⟩:=I.list h'
 have:its = its':=by grind
 subst this
 exact r.inj r'
theorem Inv.tuple_inj (I:Inv X pins σ H s) (h:SqT X.K H a xs) (h':SqT X.K H a ys):xs = ys:=by
 obtain⟨its,r,⟨o,e,_,n,d⟩,_⟩:=I.tuple h
 obtain⟨its',r',⟨o',e',_,n',d'⟩,_⟩:=I.tuple h'
 rw [e] at e';cases e'
 rw [d] at d'
 injection d' with d1 _
 have:its = its':=by grind
 subst this
 exact r.inj r'
end
abbrev Cx.wish (X:Cx) (E:Value->Shared->Prop):Cx:={ X with xe:=E }
abbrev Cx.nox (X:Cx):Cx:=X.wish fun _ _=>False
theorem Cx.Ok.wish {X:Cx} (ok:X.Ok) (E:Value->Shared->Prop):(X.wish E).Ok:=
 ⟨ok.mod,ok.kind,ok.glob,ok.blt,ok.above,ok.inj,ok.has,ok.cab,ok.hd,ok.frames,ok.stk,ok.exf,ok.bs,ok.bsz,ok.noex,ok.exfs,ok.funs,ok.frf⟩
theorem Cx.Ok.unwish {X:Cx} (ok:(X.wish E).Ok):X.Ok:=
 ⟨ok.mod,ok.kind,ok.glob,ok.blt,ok.above,ok.inj,ok.has,ok.cab,ok.hd,ok.frames,ok.stk,ok.exf,ok.bs,ok.bsz,ok.noex,ok.exfs,ok.funs,ok.frf⟩
section
variable {σ:St}
theorem Inv.wish (I:Inv X pins σ H s) (E:Value->Shared->Prop):Inv (X.wish E) pins σ H s:=⟨I.ok.wish E,I.os,I.bare,I.base,I.loc,I.cell,I.free,I.freeC,I.pin,I.hok,I.len⟩
theorem Inv.unwish (I:Inv (X.wish E) pins σ H s):Inv X pins σ H s:=⟨I.ok.unwish,I.os,I.bare,I.base,I.loc,I.cell,I.free,I.freeC,I.pin,I.hok,I.len⟩
theorem SP.unwish (h:SP (X.wish E) pins D f s'):SP X pins D f s':=by
 cases f with
 | next=>obtain⟨σ',H',I,q⟩:=h;exact⟨σ',H',I.unwish,q⟩
 | brk=>obtain⟨σ',H',I,q⟩:=h;exact⟨σ',H',I.unwish,q⟩
 | cont=>obtain⟨σ',H',I,q⟩:=h;exact⟨σ',H',I.unwish,q⟩
 | ret u=>obtain⟨v,σ',H',I,r,q⟩:=h;exact⟨v,σ',H',I.unwish,r,q⟩
theorem PSs.nox {st:List Stmt} (h:PSs X.nox st t):PSs X st t:=fun pins s σ H D I hw=>
 wpAny_mono (h pins s σ H D (I.wish _) hw) (fun _ _ q=>q.unwish) fun _ _ z=>False.elim z
end
section
variable {st:Stmt}{rest:List Stmt}
def tNext:TS:=fun D σ H=>D.nx σ H
def tSeq (t u:TS):TS:=fun D σ H=>t { D with nx:=u D } σ H
theorem pss_nil:PSs X [] tNext:=fun _ _ σ H _ I h=>wpAny_execs_nil ⟨σ,H,I,h⟩
theorem pss_cons (h1:PS X st t) (h2:PSs X rest u):PSs X (st :: rest) (tSeq t u):=by
 intro pins s σ H D I h
 refine wpAny_execs_cons (thn (h1 pins s σ H { D with nx:=u D } I h) fun f s1 q=>?_)
 cases f with
 | next=>
  obtain⟨σ',H',I',q⟩:=q
  exact h2 pins s1 σ' H' D I' q
 | ret v=>exact q
 | brk=>exact q
 | cont=>exact q
theorem Inv.quiet {pins:List (Addr×Obj)}{σ:St}{H:Hp}{s:Shared} (I:Inv X pins σ H s):interactive X.env = false:=by simp [interactive,I.ok.kind]
def tDrop (te:TE):TS:=fun D σ H=>te σ H fun _ H1=>D.nx σ H1
theorem ps_expr (he:PE X e te) (hs:swapsWith e none pos.line X.env = pure false:=by rfl):PS X (.Expr e pos) (tDrop te):=by
 intro pins s σ H D I h
 exact wpAny_Expr_any (thn (he pins s σ H _ I h) fun v s1 ⟨x,H1,I1,r1,q1⟩=>⟨σ,H1,I1,q1⟩) I.quiet hs
def tRet (te:TE):TS:=fun D σ H=>te σ H D.rt
theorem ps_ret (he:PE X e te):PS X (.Return (some e) pos) (tRet te):=by
 intro pins s σ H D I h
 exact wpAny_Return_some (thn (he pins s σ H _ I h) fun v s1 ⟨x,H1,I1,r1,q1⟩=>⟨x,σ,H1,I1,r1,q1⟩)
def tIfS (c:TT) (t u:TS):TS:=fun D σ H=>c σ H fun b H1=>if b = true then t D σ H1 else u D σ H1
theorem ps_if (hc:PT X c tc) (ha:PSs X a t) (hb:PSs X b u):PS X (.If c a b pos) (tIfS tc t u):=by
 intro pins s σ H D I h
 refine wpAny_If (thn (hc pins s σ H _ I h) fun d s1 ⟨H1,I1,q1⟩=>?_)
 cases d with
 | true=>exact ha pins s1 σ H1 D I1 q1
 | false=>exact hb pins s1 σ H1 D I1 q1
end
abbrev TG:=V->St->Hp->(St->Hp->Prop)->Prop
abbrev TGs:=List V->St->Hp->(St->Hp->Prop)->Prop
def PG (X:Cx) (target:Expr) (t:TG):Prop:=
 ∀ (pins:List (Addr×Obj)) (s:Shared) (σ:St) (H:Hp) (v:V) (u:Value) (Q:St->Hp->Prop),Inv X pins σ H s->RelV v u->t v σ H Q->
  wpAny (model X.prog X.w) X.A (assign target X.env u) (fun _ s'=>∃ σ' H',Inv X pins σ' H' s'/\Q σ' H') X.xe s
def PGs (X:Cx) (ts:List Expr) (t:TGs):Prop:=
 ∀ (pins:List (Addr×Obj)) (s:Shared) (σ:St) (H:Hp) (vs:List V) (us:List Value) (Q:St->Hp->Prop),Inv X pins σ H s->Vals vs us->t vs σ H Q->
  wpAny (model X.prog X.w) X.A (assignInOrder ((assignEach ts X.env).map (·.2)) us) (fun _ s'=>∃ σ' H',Inv X pins σ' H' s'/\Q σ' H') X.xe s
abbrev TSet:=V->V->V->Hp->(Hp->Prop)->Prop
def PSet (X:Cx) (t:TSet):Prop:=
 ∀ (pins:List (Addr×Obj)) (s:Shared) (σ:St) (H:Hp) (o i v:V) (ov iv u:Value) (Q:Hp->Prop),Inv X pins σ H s->RelV o ov->RelV i iv->RelV v u->t o i v H Q->
  wpAny (model X.prog X.w) X.A (setItem ov iv u) (fun _ s'=>∃ H',Inv X pins σ H' s'/\Q H') X.xe s
abbrev TIp:=V->V->Hp->VK->Prop
def PIp (X:Cx) (op:Operator) (t:TIp):Prop:=
 ∀ (pins:List (Addr×Obj)) (s:Shared) (σ:St) (H:Hp) (x y:V) (v u:Value) (Q:VK),Inv X pins σ H s->RelV x v->RelV y u->t x y H Q->
  wpAny (model X.prog X.w) X.A (inplaceOp op v u) (EP X pins σ Q) X.xe s
section
variable {pos:Pos}
def gName (i:Nat):TG:=fun v σ H Q=>Q (σ.set i (some v)) H
theorem pg_name (hN:X.N.Nodup) (hi:X.N[i]? = some x) (hx:Loc X.env.scope x) (hf:X.fn x = true\/X.env.scope.names.lookup x = some .local:=by first | exact .inl rfl | exact .inr rfl | assumption):PG X (.Name x pos) (gName i):=by
 intro pins s σ H v u Q I r h
 exact wpAny_assign_Name (store_ok I hN hi hx r (fun s' I'=>⟨_,H,I',h⟩) hf)
def gNil:TGs:=fun vs σ H Q=>vs = []/\Q σ H
def gCons (t:TG) (u:TGs):TGs:=fun vs σ H Q=>∃ v r,vs = v :: r/\t v σ H fun σ' H'=>u r σ' H' Q
theorem pgs_nil:PGs X [] gNil:=by
 intro pins s σ H vs us Q I r h
 obtain⟨e,h⟩:=h
 exact assignInOrder_nil ⟨σ,H,I,h⟩
theorem pgs_cons (h1:PG X e t) (h2:PGs X es u)
 (hs:(assignEach (e :: es) X.env).map (·.2) = assign e X.env :: (assignEach es X.env).map (·.2):=by rfl):PGs X (e :: es) (gCons t u):=by
 intro pins s σ H vs us Q I r h
 obtain⟨v,vr,e1,h⟩:=h
 subst e1
 cases r with
 | cons r rr=>
  rw [hs]
  refine assignInOrder_cons (thn (h1 pins s σ H _ _ _ I r h) fun _ s1 ⟨σ1,H1,I1,q1⟩=>?_)
  exact h2 pins s1 σ1 H1 _ _ Q I1 rr q1
def gTup (K:PySem.W.Frag) (n:Nat) (t:TGs):TG:=fun v σ H Q=>∃ a xs,v = .ref a/\SqT K H a xs/\xs.length = n/\t xs σ H Q
theorem pg_tup {k:Nat} (hc:X.calm = true) (h:PGs X es t)
 (hn:(assignEach es X.env).length = n:=by rfl) (hst:(assignEach es X.env).findIdx? (·.1) = none:=by rfl):PG X (.Tuple es k pos) (gTup X.K n t):=by
 intro pins s σ H v u Q I r hw
 obtain⟨a,xs,e1,hq,hl,hw⟩:=hw
 subst e1
 cases r
 obtain⟨its,rv,ht,hz⟩:=I.tuple hq
 refine assign_Tuple_tuple (I.ok.hd hc) ht (by simp [hn,<- hl,rv.length]) hst fun h' hx=>?_
 have I1:=I.kept (t':=s.toks) fun b o e=>hx b o (Nat.ne_of_lt (Heap.lt_size e)) e
 exact h pins _ σ H xs _ Q I1 (by omega) hw
def gSub (to ti:TE) (t:TSet):TG:=fun v σ H Q=>to σ H fun o H1=>ti σ H1 fun i H2=>t o i v H2 fun H3=>Q σ H3
theorem pg_sub (ho:PE X o to) (hi:PE X i ti) (hs:PSet X t)
 (ha:∀ v,assign (.Subscript o i pos) X.env v = (do
  let ov <- holding [v] (eval o X.env)
  let iv <- holding [v,ov] (eval i X.env)
  standAt pos
  holding [v,ov,iv] (setItem ov iv v)
  release [v,ov,iv] []):=by intro _;rfl):PG X (.Subscript o i pos) (gSub to ti t):=by
 intro pins s σ H v u Q I r h
 refine wpAny_bind (wpAny_holding (thn (ho pins s σ H _ I h) fun ov s1 ⟨x,H1,I1,r1,q1⟩=>?_))
 refine wpAny_bind (wpAny_holding (thn (hi pins s1 σ H1 _ I1 q1) fun iv s2 ⟨y,H2,I2,r2,q2⟩=>?_))
 refine wpAny_bind (wpAny_standAt (wpAny_bind (wpAny_holding (thn (hs pins s2 σ H2 x y v ov iv u _ I2 r1 r2 r q2) fun _ s3 ⟨H3,I3,q3⟩=>?_))))
 exact wpAny_release ⟨σ,H3,I3,q3⟩
def tAsg (te:TE) (g:TG):TS:=fun D σ H=>te σ H fun x H1=>g x σ H1 D.nx
theorem ps_asg (he:PE X e te) (hg:PG X tg g) (hs:swapsWithSole [tg] e pos.line X.env = pure false:=by rfl) (hw:swappedStores [tg] e X.env = pure none:=by rfl)
 (h1:(assignEach [tg] X.env).map (·.2) = [assign tg X.env]:=by rfl):PS X (.Assign [tg] e pos) (tAsg te g):=by
 intro pins s σ H D I h
 refine wpAny_Assign_stores (thn (he pins s σ H _ I h) fun v s1 ⟨x,H1,I1,r1,q1⟩=>?_) hs hw
 rw [h1]
 exact thn (hg pins s1 σ H1 x v _ I1 r1 q1) fun _ s2 q=>q
theorem ps_set {i:Nat}{x:Str}{e:Expr}{te:TE}{pos':Pos} (hN:X.N.Nodup) (hi:X.N[i]? = some x) (hx:Loc X.env.scope x) (he:PE X e te) (hs:swapsWith e (some (.Name x pos')) pos.line X.env = pure false:=by rfl) (hf:X.fn x = true\/X.env.scope.names.lookup x = some .local:=by first | exact .inl rfl | exact .inr rfl | assumption):
 PS X (.Assign [.Name x pos'] e pos) (tAsg te (gName i)):=by
 intro pins s σ H D I h
 refine wpAny_Assign_Name (thn (he pins s σ H _ I h) fun v s1 ⟨y,H1,I1,r1,q1⟩=>?_) hs
 exact store_ok I1 hN hi hx r1 (fun s2 I2=>⟨_,H1,I2,q1⟩) hf
def tAug (i:Nat) (te:TE) (ti:TIp):TS:=fun D σ H=>∃ x,σ[i]? = some (some x)/\te σ H fun y H1=>ti x y H1 fun z H2=>D.nx (σ.set i (some z)) H2
theorem ps_aug (hN:X.N.Nodup) (hi:X.N[i]? = some x) (hx:Loc X.env.scope x) (he:PE X e te) (ho:PIp X op ti) (hf:X.fn x = true\/X.env.scope.names.lookup x = some .local:=by first | exact .inl rfl | exact .inr rfl | assumption):
 PS X (.AugAssign (.Name x pos') op e pos) (tAug i te ti):=by
 intro pins s σ H D I h
 obtain⟨v,e1,h⟩:=h
 obtain⟨m,hn,hl⟩:=I.loc
 have vis:Vis X.env.scope x:=by rcases hx with k | k;exact .inl k;exact .inr (.inl k)
 obtain⟨u,r,l⟩:=hl i x v hi e1 vis
 refine wpAny_AugAssign_Name ?_
 have go:wpAny (model X.prog X.w) X.A (eval e X.env) (fun w s₂=>wpAny (model X.prog X.w) X.A (inplaceOp op u w) (fun r s₃=>wpAny (model X.prog X.w) X.A (storeName X.env x r) (fun _=>SP X pins D .next) X.xe s₃) X.xe s₂) X.xe s:=by
  refine thn (he pins s σ H _ I h) fun w s1 ⟨y,H1,I1,r1,q1⟩=>?_
  refine thn (ho pins s1 σ H1 v y u w _ I1 r r1 q1) fun z s2 ⟨zv,H2,I2,r2,q2⟩=>?_
  exact store_ok I2 hN hi hx r2 (fun s3 I3=>⟨_,H2,I3,q2⟩) hf
 rcases l with ⟨hk,hm⟩ | ⟨hk,c,hc,hcell⟩
 · exact wpAny_loadName_local I.ok.kind hk hn hm go
 · rcases hk with hk | hk
   · exact wpAny_loadName_cell I.ok.kind hk hc hcell go
   · rcases hx with k | k
     · have:X.env.scope.names.lookup x = some .free:=hk
       rw [k] at this;cases this
     · have:X.env.scope.names.lookup x = some .free:=hk
       rw [k] at this;cases this
def ipI (f:Int->Int->Int):TIp:=fun x y H Q=>∃ i j,x = .int i/\y = .int j/\Q (.int (f i j)) H
theorem ip_sub:PIp X .Sub (ipI fun i j=>i - j):=by
 intro pins s σ H x y v u Q I r1 r2 h
 obtain⟨i,j,e1,e2,q⟩:=h
 subst e1;subst e2
 obtain⟨t,rfl⟩:=r1
 obtain⟨t',rfl⟩:=r2
 exact isub_int ⟨.int _,H,I.tok _,⟨_,rfl⟩,q⟩
end
def tWhile (c:TT) (tb:TS):TS:=fun D σ H=>∃ W:Nat->St->Hp->Prop,(∃ m,W m σ H)/\∀ m σ H,W m σ H->
 c σ H fun b H1=>if b = true then ∃ N:St->Hp->Prop,(∀ σ' H',N σ' H'->∃ m',m' < m/\W m' σ' H')/\tb { D with nx:=N,ct:=N,bk:=D.nx } σ H1 else D.nx σ H1
theorem ps_while (hp:PassesOwn (model X.prog X.w) X.A X.env X.xe) (hc:PT X c tc) (hb:PSs X body tb):PS X (.While c body [] pos) (tWhile tc tb):=by
 intro pins s σ H D I h
 obtain⟨W,⟨m0,w0⟩,turn⟩:=h
 refine wpAny_While (codeAny_whileLoop (fun n s'=>∃ σ' H',Inv X pins σ' H' s'/\W n σ' H') ?_ m0 ⟨σ,H,I,w0⟩)
 rintro n s1 ⟨σ1,H1,I1,w1⟩
 refine wpAny_passesOwn hp (thn (hc pins s1 σ1 H1 _ I1 (turn n σ1 H1 w1)) fun b s2 ⟨H2,I2,q2⟩=>?_)
 cases b with
 | true=>
  obtain⟨N,hN,q2⟩:=q2
  refine wpAny_passesOwn hp (thn (hb pins s2 σ1 H2 _ I2 q2) fun f s3 q3=>?_)
  cases f with
  | next=>
   obtain⟨σ3,H3,I3,n3⟩:=q3
   obtain⟨m',hm,w3⟩:=hN σ3 H3 n3
   exact⟨m',hm,σ3,H3,I3,w3⟩
  | cont=>
   obtain⟨σ3,H3,I3,n3⟩:=q3
   obtain⟨m',hm,w3⟩:=hN σ3 H3 n3
   exact⟨m',hm,σ3,H3,I3,w3⟩
  | brk=>exact q3
  | ret v=>exact q3
 | false=>
  exact wpAny_execs_nil ⟨σ1,H2,I2,q2⟩
structure It where
 go:Nat->Hp->Prop
 yld:Nat->Hp->V->Hp->Prop
 stop:Nat->Hp->Prop
def FpOk (X:Cx) (pins:List (Addr×Obj)) (H:Hp) (b:Addr):Prop:=
 H b = none/\b≠X.env.locals/\b∉X.fs/\(b∈X.ex\/X.s₀.heap.objs.size<=b)/\(∀ x c,X.env.cells.lookup x = some c->c≠b)/\∀ p∈X.pn ++ pins,p.1≠b
theorem Inv.fpOk {σ:St}{b:Addr} (I:Inv X pins σ H s) (hb:s.heap.objs.size<=b) (hn:H' b = none):FpOk X pins H' b:=by
 refine⟨hn,Nat.ne_of_gt (Nat.lt_of_lt_of_le I.lt hb),I.nofs hb,.inr (Nat.le_trans I.sz hb),fun x c e z=>?_,fun p hp z=>?_⟩
 · obtain⟨v,q⟩:=I.cell x c e
   exact absurd (Nat.lt_of_lt_of_le q.lt (by simp_all)) (Nat.lt_irrefl _)
 · exact absurd (Nat.lt_of_lt_of_le (Heap.lt_size (I.pin p hp).1) (by simp_all)) (Nat.lt_irrefl _)
structure Turn (P:Program) (w:World) (K:PySem.W.Frag) (tg:Expr) (J:It) (fp:List Addr) (it:Addr) (tn:Nat->Heap->Prop):Prop where
 mem:it∈fp
 obj:∀ i h,tn i h->∀ b∈fp,∃ o,h.get? b = some o/\∀ v,o.data≠.cell v
 keep:∀ i h h',tn i h->(∀ b∈fp,∀ o,h.get? b = some o->h'.get? b = some o)->tn i h'
 item:∀ (X:Cx),X.prog = P->X.w = w->X.K = K->X.calm = true->∀ (i:Nat) (pins:List (Addr×Obj)) (s:Shared) (σ:St) (H:Hp) (E:Value->Shared->Prop),Inv X pins σ H s->(∀ b∈fp,FpOk X pins H b)->tn i s.heap->J.go i H->
  wpAny (model P w) X.A (pyNext (.ref it)) (fun r s1=>∃ u,r = some u/\
   wpAny (model P w) X.A (letOwnedTupleGo tg (.ref it) u) (fun _ s2=>∃ x H',Inv X pins σ H' s2/\RelV x u/\J.yld i H x H'/\tn (i + 1) s2.heap/\∀ b∈fp,H' b = none) E s1) E s
 done:∀ (X:Cx),X.prog = P->X.w = w->X.K = K->X.calm = true->∀ (i:Nat) (pins:List (Addr×Obj)) (s:Shared) (σ:St) (H:Hp) (E:Value->Shared->Prop),Inv X pins σ H s->(∀ b∈fp,FpOk X pins H b)->tn i s.heap->J.stop i H->
  wpAny (model P w) X.A (pyNext (.ref it)) (fun r s1=>r = none/\Inv X pins σ H s1) E s
 self:∀ (A:Around) (i:Nat) (s:Shared) (Q:Value->Shared->Prop) (E:Value->Shared->Prop),tn i s.heap->Q (.ref it) s->wpAny (model P w) A (pyIter (.ref it)) Q E s
abbrev TI:=St->Hp->(It->Hp->Prop)->Prop
def PIE (X:Cx) (pins:List (Addr×Obj)) (σ:St) (tg:Expr) (R:It->Hp->Prop) (itv:Value) (s2:Shared):Prop:=
 ∃ (it:Addr) (fp:List Addr) (tn:Nat->Heap->Prop) (J:It) (H':Hp),itv = .ref it/\Inv X pins σ H' s2/\Turn X.prog X.w X.K tg J fp it tn/\tn 0 s2.heap/\(∀ b∈fp,FpOk X pins H' b)/\R J H'
def PI (X:Cx) (tg iter:Expr) (wi:TI):Prop:=
 ∀ (pins:List (Addr×Obj)) (s:Shared) (σ:St) (H:Hp) (R:It->Hp->Prop),Inv X pins σ H s->wi σ H R->
  wpAny (model X.prog X.w) X.A (eval iter X.env) (fun v s1=>wpAny (model X.prog X.w) X.A (pyIter v) (PIE X pins σ tg R) X.xe s1) X.xe s
theorem go_of {M:Model}{A:Around}{E:Value->Shared->Prop}{s:Shared}{tg:Expr}{it:Addr}{u:Value}{o:Obj}{n:String}{vs:Array Value}{Q:Unit->Shared->Prop} (ho:s.heap.get? it = some o) (hc:o.cls = .type n) (hd:o.data = .fields vs)
 (hn:["enumerate","zip","dict_itemiterator","dict_reverseitemiterator","odict_iterator","itertools.zip_longest","itertools.pairwise"].contains n = false) (hQ:Q () s):wpAny M A (letOwnedTupleGo tg (.ref it) u) Q E s:=by
 unfold letOwnedTupleGo
 cases tg <;> first
  | exact wpAny_pure hQ
  | (cases u <;> first
   | exact wpAny_pure hQ
   | (refine wpAny_bind (wpAny_load ho ?_)
      rw [hc,hd]
      show wpAny M A (if (["enumerate","zip","dict_itemiterator","dict_reverseitemiterator","odict_iterator","itertools.zip_longest","itertools.pairwise"].contains n && vs[0]? == some (rawInt _)) = true then _ else _) Q E s
      rw [if_neg (by intro h;rw [hn,Bool.false_and] at h;cases h)]
      exact wpAny_pure hQ))
def Itl (K:PySem.W.Frag) (a:Addr):It:=
 ⟨fun i H=>∃ xs x,SqL K H a xs/\xs[i]? = some x,fun i H x H'=>H' = H/\∀ xs,SqL K H a xs->xs[i]? = some x,fun i H=>∃ xs,SqL K H a xs/\xs.length<=i⟩
def Itt (K:PySem.W.Frag) (a:Addr):It:=
 ⟨fun i H=>∃ xs x,SqT K H a xs/\xs[i]? = some x,fun i H x H'=>H' = H/\∀ xs,SqT K H a xs->xs[i]? = some x,fun i H=>∃ xs,SqT K H a xs/\xs.length<=i⟩
def Itr (lo:Int) (n:Nat):It:=⟨fun i _=>i < n,fun i H x H'=>H' = H/\x = .int (lo + i),fun i _=>n<=i⟩
theorem turn_list {P:Program}{w:World}{K:PySem.W.Frag}{tg:Expr} (a it:Addr):Turn P w K tg (Itl K a) [it] it (fun i h=>h.IsListIter it a i) where
 mem:=by simp
 obj:=fun i h st b hb=>by
  have e:b = it:=by simpa using hb
  subst e
  obtain⟨o,e,c,d⟩:=st
  exact⟨o,e,fun v z=>by rw [d] at z;cases z⟩
 keep:=fun i h h' st k=>st.at fun o e=>k it (by simp) o e
 item:=by
  intro X hP hw hK hc i pins s σ H E I hf st hg
  subst hP hw hK
  obtain⟨xs,x,hq,hx⟩:=hg
  obtain⟨its,rv,p,hz⟩:=I.list hq
  obtain⟨u,hu,ru⟩:=rv.get hx
  obtain⟨f0,f1,f2,f3,f4,f5⟩:=hf it (by simp)
  refine wpAny_pyNext_list_item st p.isList (x:=u) (by simpa using hu) fun h' st' sb=>?_
  have I1:Inv X pins σ H { s with heap:=h' }:=I.turned (t':=s.toks) (fun b o hb e=>(sb.2 b hb).trans e) f0 f1 f3 f4 f5
  obtain⟨o,e,c,d⟩:=id st'
  exact⟨u,rfl,go_of (s:={ s with heap:=h' }) e c d (by decide) ⟨x,H,I1,ru,⟨rfl,fun ys hy=>by rw [I.list_inj hy hq];exact hx⟩,st',fun b hb=>(hf b hb).1⟩⟩
 done:=by
  intro X hP hw hK hc i pins s σ H E I hf st hg
  subst hP hw hK
  obtain⟨xs,hq,hx⟩:=hg
  obtain⟨its,rv,p,hz⟩:=I.list hq
  obtain⟨f0,f1,f2,f3,f4,f5⟩:=hf it (by simp)
  have hl:=rv.length
  exact wpAny_pyNext_list_end (I.ok.hd hc) st p.isList (by simp;omega) fun h' eb=>⟨rfl,I.turned (t':=s.toks) (fun b o hb e=>eb b o hb e) f0 f1 f3 f4 f5⟩
 self:=fun _ _ _ _ _ st h=>wpAny_pyIter_listiter st h
theorem turn_tuple {P:Program}{w:World}{K:PySem.W.Frag}{tg:Expr} (a it:Addr):Turn P w K tg (Itt K a) [it] it (fun i h=>h.IsTupleIter it a i) where
 mem:=by simp
 obj:=fun i h st b hb=>by
  have e:b = it:=by simpa using hb
  subst e
  obtain⟨o,e,c,d⟩:=st
  exact⟨o,e,fun v z=>by rw [d] at z;cases z⟩
 keep:=fun i h h' st k=>st.at fun o e=>k it (by simp) o e
 item:=by
  intro X hP hw hK hc i pins s σ H E I hf st hg
  subst hP hw hK
  obtain⟨xs,x,hq,hx⟩:=hg
  obtain⟨its,rv,p,hz⟩:=I.tuple hq
  obtain⟨u,hu,ru⟩:=rv.get hx
  obtain⟨f0,f1,f2,f3,f4,f5⟩:=hf it (by simp)
  refine wpAny_pyNext_tuple_item st (show s.heap.IsTuple a its.toArray from p) (x:=u) (by simpa using hu) fun h' st' sb=>?_
  have I1:Inv X pins σ H { s with heap:=h' }:=I.turned (t':=s.toks) (fun b o hb e=>(sb.2 b hb).trans e) f0 f1 f3 f4 f5
  obtain⟨o,e,c,d⟩:=id st'
  exact⟨u,rfl,go_of (s:={ s with heap:=h' }) e c d (by decide) ⟨x,H,I1,ru,⟨rfl,fun ys hy=>by rw [I.tuple_inj hy hq];exact hx⟩,st',fun b hb=>(hf b hb).1⟩⟩
 done:=by
  intro X hP hw hK hc i pins s σ H E I hf st hg
  subst hP hw hK
  obtain⟨xs,hq,hx⟩:=hg
  obtain⟨its,rv,p,hz⟩:=I.tuple hq
  obtain⟨f0,f1,f2,f3,f4,f5⟩:=hf it (by simp)
  have hl:=rv.length
  exact wpAny_pyNext_tuple_end (I.ok.hd hc) st (show s.heap.IsTuple a its.toArray from p) (by simp;omega) fun h' eb=>⟨rfl,I.turned (t':=s.toks) (fun b o hb e=>eb b o hb e) f0 f1 f3 f4 f5⟩
 self:=fun _ _ _ _ _ st h=>wpAny_pyIter_tupleiter st h
theorem turn_range {P:Program}{w:World}{K:PySem.W.Frag}{tg:Expr} (it:Addr) (lo:Int) (n:Nat):Turn P w K tg (Itr lo n) [it] it (fun i h=>IsRangeIter h it (lo + (i:Nat) * 1) ((n:Int) - (i:Nat)) 1) where
 mem:=by simp
 obj:=fun i h st b hb=>by simp_all
 keep:=fun i h h' st k=>k it (by simp) _ st
 item:=by
  intro X hP hw hK hc i pins s σ H E I hf st hg
  subst hP hw hK
  obtain⟨f0,f1,f2,f3,f4,f5⟩:=hf it (by simp)
  have W:=Walks.range (prog:=X.prog) (w:=X.w) (I.ok.hd hc) it lo 1 n
  refine W.item i s _ _ hg st fun v h' tk hv st' kk=>?_
  obtain⟨t,rfl⟩:=hv
  have I1:Inv X pins σ H { s with heap:=h',toks:=tk }:=I.turned (fun b o hb e=>kk b o (by simpa using hb) e) f0 f1 f3 f4 f5
  refine⟨_,rfl,go_of (s:={ s with heap:=h',toks:=tk }) (n:="range_iterator") st' rfl rfl (by decide) ⟨.int (lo + i),H,I1,⟨t,?_⟩,⟨rfl,rfl⟩,st',fun b hb=>(hf b hb).1⟩⟩
  rw [Int.mul_one]
 done:=by
  intro X hP hw hK hc i pins s σ H E I hf st hg
  subst hP hw hK
  obtain⟨f0,f1,f2,f3,f4,f5⟩:=hf it (by simp)
  exact wpAny_pyNext_range_end (I.ok.hd hc) st (by have:n<=i:=hg;omega) fun h' eb=>⟨rfl,I.turned (t':=s.toks) (fun b o hb e=>eb b o hb e) f0 f1 f3 f4 f5⟩
 self:=fun _ _ _ _ _ st h=>wpAny_pyIter_rangeiter st h
section
variable {tg:Expr}
theorem range_it {pins:List (Addr×Obj)}{σ:St}{H:Hp}{s:Shared}{R:It->Hp->Prop}{E:Value->Shared->Prop}{lo hi:Int}{t u v:Tok}{tk:Nat} (I:Inv X pins σ H s) (h1:-(2 ^ 62)<=lo) (h2:lo < 2 ^ 62) (h3:-(2 ^ 62)<=hi) (h4:hi < 2 ^ 62)
 (q:R (Itr lo (hi - lo).toNat) H):wpAny (model X.prog X.w) X.A (pyIter (.ref s.heap.objs.size)) (PIE X pins σ tg R) E { s with heap:=s.heap.push { cls:=.type "range",data:=.fields #[.int lo t,.int hi u,.int 1 v] },toks:=tk }:=by
 refine wpAny_pyIter_range (IsRange.new ..) (small_one h1 h2 h3 h4) ?_
 have I1:Inv X pins σ H { s with heap:=s.heap.push { cls:=.type "range",data:=.fields #[.int lo t,.int hi u,.int 1 v] },toks:=tk }:=I.kept fun b o e=>Heap.get?_push_of_some _ e
 refine⟨(s.heap.push { cls:=.type "range",data:=.fields #[.int lo t,.int hi u,.int 1 v] }).objs.size,[(s.heap.push { cls:=.type "range",data:=.fields #[.int lo t,.int hi u,.int 1 v] }).objs.size],_,_,H,rfl,
  I1.kept (t':=tk) fun b o e=>Heap.get?_push_of_some _ e,turn_range _ lo (hi - lo).toNat,?_,fun b hb=>?_,q⟩
 · have e1:lo + ((0:Nat):Int) * 1 = lo:=by simp
   have e2:(((hi - lo).toNat:Nat):Int) - ((0:Nat):Int) = Builtin.Range.rangeSize lo hi 1:=by rw [rangeSize_one];split <;> omega
   show IsRangeIter _ _ (lo + ((0:Nat):Int) * 1) ((((hi - lo).toNat:Nat):Int) - ((0:Nat):Int)) 1
   rw [e1,e2]
   exact Heap.get?_push_size _ rfl
 · have e:b = (s.heap.push { cls:=.type "range",data:=.fields #[.int lo t,.int hi u,.int 1 v] }).objs.size:=by simpa using hb
   subst e
   exact I1.fpOk (Nat.le_refl _) (I1.hok.fresh (Nat.le_refl _))
def iRng1 (ta:TA):TI:=fun σ H R=>ta σ H fun vs H1=>∃ j:Int,vs = [.int j]/\-(2 ^ 62)<=j/\j < 2 ^ 62/\R (Itr 0 j.toNat) H1
theorem pi_range1 (hg:Gl X "range") (hm:X.mg "range" = none) (ha:PA X [a] ta) (hs:starEach [a] X.env = [(false,eval a X.env)]:=by rfl):PI X tg (.Call (.Name "range" p) [a] [] pos) (iRng1 ta):=by
 intro pins s σ H R I h
 refine Call_ (ld_blt I hg hm boot_range (PyProof.Rows.callWith_type1 (thn (ha pos pins s σ H _ I h) fun us s1 ⟨vs,H1,I1,r1,q1⟩=>?_) hs rfl))
 obtain⟨j,e,q1,q2,q⟩:=q1
 subst e
 cases r1 with
 | cons r rr=>
  cases rr
  obtain⟨t,rfl⟩:=r
  exact call_range_1 (range_it I1 (by omega) (by omega) q1 q2 (by grind))
def tFor (wi:TI) (g:TG) (tb:TS):TS:=fun D σ H=>wi σ H fun J H1=>∃ W:Nat->Nat->St->Hp->Prop,(∃ m,W 0 m σ H1)/\∀ i m σ H,W i m σ H->
 (J.stop i H/\D.nx σ H)\/(J.go i H/\∃ N:St->Hp->Prop,(∀ σ' H',N σ' H'->∃ m',m' < m/\W (i + 1) m' σ' H')/\∀ x H',J.yld i H x H'->g x σ H' fun σ2 H2=>tb { D with nx:=N,ct:=N,bk:=D.nx } σ2 H2)
def pinsAt (fp:List Addr) (h:Heap):List (Addr×Obj):=fp.filterMap fun b=>(h.get? b).map fun o=>(b,o)
theorem mem_pinsAt (hb:b∈fp) (e:h.get? b = some o):(b,o)∈pinsAt fp h:=List.mem_filterMap.mpr ⟨b,hb,by simp_all⟩
theorem of_pinsAt (hp:p∈pinsAt fp h):p.1∈fp/\h.get? p.1 = some p.2:=by
 obtain⟨b,hb,e⟩:=List.mem_filterMap.mp hp
 cases q:h.get? b with
 | none=>simp_all
 | some o=>
  rw [q] at e
  have e':=Option.some.inj e
  subst e'
  simp_all
theorem Inv.pinned {σ:St} (I:Inv X pins σ H s) (hf:∀ b∈fp,FpOk X pins H b) (ho:∀ b∈fp,∃ o,s.heap.get? b = some o/\∀ v,o.data≠.cell v):Inv X (pins ++ pinsAt fp s.heap) σ H s:=
 I.pins_of fun p hp=>(List.mem_append.mp hp).elim (fun z=>I.pin p (List.mem_append_right _ z)) fun z=>by
  obtain⟨hb,e⟩:=of_pinsAt z
  obtain⟨f0,f1,f2,_⟩:=hf p.1 hb
  obtain⟨o,e',d⟩:=ho p.1 hb
  simp_all
theorem Inv.unpinned {σ:St} (I:Inv X (pins ++ pl) σ H s):Inv X pins σ H s:=I.pins_of fun p hp=>I.pin p (List.mem_append_right _ (List.mem_append_left _ hp))
theorem ps_for (hp:PassesOwn (model X.prog X.w) X.A X.env X.xe) (hc:X.calm = true) (hi:PI X tg iter wi) (hg:PG X tg g) (hb:PSs X body tb)
 (hs:∀ x,foldedSetIterable iter X.env x = pure x:=by intro _;rfl):PS X (.For tg iter body [] pos) (tFor wi g tb):=by
 intro pins s σ H D I h
 refine wpAny_For (thn (hi pins s σ H _ I h) fun v s1 h1=>thn h1 fun itv s2 h2=>?_) hs
 obtain⟨it,fp,tn,J,H2,e,I2,T,st2,f2,W,⟨m0,w0⟩,turn⟩:=h2
 subst e
 -- what stays true of the iterator's objects through the loop
 have stat:∀ {H':Hp},(∀ b∈fp,H' b = none)->∀ b∈fp,FpOk X pins H' b:=fun hn b hb=>⟨hn b hb,(f2 b hb).2⟩
 refine codeAny_forLoop_any (fun n s'=>∃ i σ' H',Inv X pins σ' H' s'/\tn i s'.heap/\(∀ b∈fp,H' b = none)/\W i n σ' H') ?_ m0 ⟨0,σ,H2,I2,st2,fun b hb=>(f2 b hb).1,w0⟩
 rintro n s3 ⟨i,σ3,H3,I3,st3,fr3,w3⟩
 rcases turn i n σ3 H3 w3 with ⟨stop,qn⟩ | ⟨go,N,hN,step⟩
 · refine wpAny_passesOwn hp (thn (T.done X rfl rfl rfl hc i pins s3 σ3 H3 X.xe I3 (stat fr3) st3 stop) fun r s4 ⟨hr,I4⟩=>?_)
   subst hr
   exact wpAny_execs_nil ⟨σ3,H3,I4,qn⟩
 · refine wpAny_passesOwn hp (thn (T.item X rfl rfl rfl hc i pins s3 σ3 H3 X.xe I3 (stat fr3) st3 go) fun r s4 ⟨u,hr,h4⟩=>?_)
   subst hr
   refine wpAny_passesOwn hp (thn h4 fun _ s5 ⟨x,H5,I5,r5,y5,st5,fr5⟩=>?_)
   have I5':=I5.pinned (stat fr5) (T.obj _ _ st5)
   refine wpAny_passesOwn hp (thn (hg _ s5 σ3 H5 x u _ I5' r5 (step x H5 y5)) fun _ s6 ⟨σ6,H6,I6,q6⟩=>?_)
   refine wpAny_passesOwn hp (thn (hb _ s6 σ6 H6 _ I6 q6) fun f s7 q7=>?_)
   have again:∀ {σ7:St}{H7:Hp},Inv X (pins ++ pinsAt fp s5.heap) σ7 H7 s7->N σ7 H7->∃ m,m < n/\∃ i σ' H',Inv X pins σ' H' s7/\tn i s7.heap/\(∀ b∈fp,H' b = none)/\W i m σ' H':=fun {σ7 H7} I7 n7=>by
    obtain⟨m',hm,w7⟩:=hN σ7 H7 n7
    refine⟨m',hm,i + 1,σ7,H7,I7.unpinned,T.keep _ _ _ st5 fun b hb o e=>(I7.pin (b,o) (List.mem_append_right _ (List.mem_append_right _ (mem_pinsAt hb e)))).1,fun b hb=>?_,w7⟩
    obtain⟨o,e,d⟩:=T.obj _ _ st5 b hb
    exact (I7.pin (b,o) (List.mem_append_right _ (List.mem_append_right _ (mem_pinsAt hb e)))).2.1
   cases f with
   | next=>obtain⟨σ7,H7,I7,n7⟩:=q7;exact again I7 n7
   | cont=>obtain⟨σ7,H7,I7,n7⟩:=q7;exact again I7 n7
   | brk=>obtain⟨σ7,H7,I7,q7⟩:=q7;exact⟨σ7,H7,I7.unpinned,q7⟩
   | ret v=>obtain⟨x7,σ7,H7,I7,r7,q7⟩:=q7;exact⟨x7,σ7,H7,I7.unpinned,r7,q7⟩
end
theorem for_list {K:PySem.W.Frag}{a:Addr}{xs:List V}{g:TG}{tb:TS}{D:Ends}{σ:St}{H:Hp} (Pv:Nat->St->Hp->Prop) (h0:Pv 0 σ H) (hl:∀ i σ H,i<=xs.length->Pv i σ H->SqL K H a xs)
 (hs:∀ i x σ H,xs[i]? = some x->Pv i σ H->g x σ H fun σ2 H2=>tb { D with nx:=Pv (i + 1),ct:=Pv (i + 1),bk:=D.nx } σ2 H2) (hd:∀ σ H,Pv xs.length σ H->D.nx σ H):
 ∃ W:Nat->Nat->St->Hp->Prop,(∃ m,W 0 m σ H)/\∀ i m σ H,W i m σ H->
  ((Itl K a).stop i H/\D.nx σ H)\/((Itl K a).go i H/\∃ N:St->Hp->Prop,(∀ σ' H',N σ' H'->∃ m',m' < m/\W (i + 1) m' σ' H')/\∀ x H',(Itl K a).yld i H x H'->g x σ H' fun σ2 H2=>tb { D with nx:=N,ct:=N,bk:=D.nx } σ2 H2):=by
 refine⟨fun i m σ H=>m = xs.length - i/\i<=xs.length/\Pv i σ H,⟨xs.length,by simp,Nat.zero_le _,h0⟩,?_⟩
 rintro i m σ H ⟨rfl,hi,p⟩
 have q:=hl i σ H hi p
 by_cases hlt:i < xs.length
 · refine .inr ⟨⟨xs,xs[i],q,by simp [hlt]⟩,Pv (i + 1),fun σ' H' p'=>⟨xs.length - (i + 1),by omega,rfl,hlt,p'⟩,fun x H' y=>?_⟩
   obtain⟨e,y⟩:=y
   subst e
   exact hs i x σ _ (y xs q) p
 · have e:i = xs.length:=by omega
   subst e
   exact .inl ⟨⟨xs,q,Nat.le_refl _⟩,hd σ H p⟩
theorem for_tup {K:PySem.W.Frag}{g:TG}{tb:TS}{D:Ends}{H:Hp} (Pv:Nat->St->Hp->Prop) (h0:Pv 0 σ H) (hl:∀ i σ H,i<=xs.length->Pv i σ H->SqT K H a xs)
 (hs:∀ i x σ H,xs[i]? = some x->Pv i σ H->g x σ H fun σ2 H2=>tb { D with nx:=Pv (i + 1),ct:=Pv (i + 1),bk:=D.nx } σ2 H2) (hd:∀ σ H,Pv xs.length σ H->D.nx σ H):
 ∃ W:Nat->Nat->St->Hp->Prop,(∃ m,W 0 m σ H)/\∀ i m σ H,W i m σ H->
  ((Itt K a).stop i H/\D.nx σ H)\/((Itt K a).go i H/\∃ N:St->Hp->Prop,(∀ σ' H',N σ' H'->∃ m',m' < m/\W (i + 1) m' σ' H')/\∀ x H',(Itt K a).yld i H x H'->g x σ H' fun σ2 H2=>tb { D with nx:=N,ct:=N,bk:=D.nx } σ2 H2):=by
 refine⟨fun i m σ H=>m = xs.length - i/\i<=xs.length/\Pv i σ H,⟨xs.length,by simp,Nat.zero_le _,h0⟩,?_⟩
 rintro i m σ H ⟨rfl,hi,p⟩
 have q:=hl i σ H hi p
 by_cases hlt:i < xs.length
 · refine .inr ⟨⟨xs,xs[i],q,by simp [hlt]⟩,Pv (i + 1),fun σ' H' p'=>⟨xs.length - (i + 1),by omega,rfl,hlt,p'⟩,fun x H' y=>?_⟩
   obtain⟨e,y⟩:=y
   subst e
   exact hs i x σ _ (y xs q) p
 · have e:i = xs.length:=by omega
   subst e
   exact .inl ⟨⟨xs,q,Nat.le_refl _⟩,hd σ H p⟩
theorem for_range {lo:Int}{g:TG}{tb:TS}{D:Ends}{H:Hp} (Pv:Nat->St->Hp->Prop) (h0:Pv 0 σ H)
 (hs:∀ i σ H,i < n->Pv i σ H->g (.int (lo + i)) σ H fun σ2 H2=>tb { D with nx:=Pv (i + 1),ct:=Pv (i + 1),bk:=D.nx } σ2 H2) (hd:∀ σ H,Pv n σ H->D.nx σ H):
 ∃ W:Nat->Nat->St->Hp->Prop,(∃ m,W 0 m σ H)/\∀ i m σ H,W i m σ H->
  ((Itr lo n).stop i H/\D.nx σ H)\/((Itr lo n).go i H/\∃ N:St->Hp->Prop,(∀ σ' H',N σ' H'->∃ m',m' < m/\W (i + 1) m' σ' H')/\∀ x H',(Itr lo n).yld i H x H'->g x σ H' fun σ2 H2=>tb { D with nx:=N,ct:=N,bk:=D.nx } σ2 H2):=by
 refine⟨fun i m σ H=>m = n - i/\i<=n/\Pv i σ H,⟨n,by simp,Nat.zero_le _,h0⟩,?_⟩
 rintro i m σ H ⟨rfl,hi,p⟩
 by_cases hlt:i < n
 · refine .inr ⟨hlt,Pv (i + 1),fun σ' H' p'=>⟨n - (i + 1),by omega,rfl,hlt,p'⟩,fun x H' y=>?_⟩
   obtain⟨e,y⟩:=y
   simp_all
 · have e:i = n:=by omega
   subst e
   exact .inl ⟨Nat.le_refl _,hd σ H p⟩
abbrev R2:=V->V->Hp->VK->Prop
def OpR (X:Cx) (f:Value->Value->Sem Value) (r:R2):Prop:=
 ∀ (pins:List (Addr×Obj)) (s:Shared) (σ:St) (H:Hp) (x y:V) (v u:Value) (Q:VK),Inv X pins σ H s->RelV x v->RelV y u->r x y H Q->
  wpAny (model X.prog X.w) X.A (f v u) (EP X pins σ Q) X.xe s
def UnR (X:Cx) (f:Value->Sem Value) (r:V->Hp->VK->Prop):Prop:=
 ∀ (pins:List (Addr×Obj)) (s:Shared) (σ:St) (H:Hp) (x:V) (v:Value) (Q:VK),Inv X pins σ H s->RelV x v->r x H Q->
  wpAny (model X.prog X.w) X.A (f v) (EP X pins σ Q) X.xe s
def CallR (X:Cx) (f:Value) (r:List V->Hp->VK->Prop):Prop:=
 ∀ (pins:List (Addr×Obj)) (s:Shared) (σ:St) (H:Hp) (xs:List V) (us:List Value) (Q:VK),Inv X pins σ H s->Vals xs us->r xs H Q->
  wpAny (model X.prog X.w) X.A (call f us) (EP X pins σ Q) X.xe s
def tOp (r:R2) (ta tb:TE):TE:=fun σ H Q=>ta σ H fun x H1=>tb σ H1 fun y H2=>r x y H2 Q
def tUn (r:V->Hp->VK->Prop) (ta:TE):TE:=fun σ H Q=>ta σ H fun x H1=>r x H1 Q
def rI (C:Int->Int->Prop) (g:Int->Int->V):R2:=fun x y H Q=>∃ i j,x = .int i/\y = .int j/\C i j/\Q (g i j) H
def rI0 (g:Int->Int->V):R2:=fun x y H Q=>∃ i j,x = .int i/\y = .int j/\Q (g i j) H
def rU (g:Int->V):V->Hp->VK->Prop:=fun x H Q=>∃ i,x = .int i/\Q (g i) H
theorem binT (ha:PE X a ta) (hb:PE X b tb) {σ:St}{R:V->V->Hp->Prop} (I:Inv X pins σ H s)
 (h:ta σ H fun x H1=>tb σ H1 fun y H2=>R x y H2) {f:Value->Value->Sem Value}
 (hf:∀ v u s2 x y H2,Inv X pins σ H2 s2->RelV x v->RelV y u->R x y H2->wpAny (model X.prog X.w) X.A (f v u) Q X.xe s2):
 wpAny (model X.prog X.w) X.A (eval a X.env) (fun v s₁=>wpAny (model X.prog X.w) X.A (eval b X.env) (fun u s₂=>wpAny (model X.prog X.w) X.A (f v u) Q X.xe s₂) X.xe s₁) X.xe s:=by
 refine thn (ha pins s σ H _ I h) fun v s1 ⟨x,H1,I1,r1,q1⟩=>?_
 refine thn (hb pins s1 σ H1 _ I1 q1) fun u s2 ⟨y,H2,I2,r2,q2⟩=>?_
 exact hf v u s2 x y H2 I2 r1 r2 q2
theorem pe_op (ho:OpR X (binaryOp op) r) (ha:PE X a ta) (hb:PE X b tb):PE X (.BinOp a op b pos) (tOp r ta tb):=by
 intro pins s σ H Q I h
 exact wpAny_BinOp (binT ha hb I h fun v u s2 x y H2 I2 rx ry q=>ho pins s2 σ H2 x y v u Q I2 rx ry q)
theorem pe_un (ho:UnR X (unaryOp op) r) (ha:PE X a ta):PE X (.UnaryOp op a pos) (tUn r ta):=by
 intro pins s σ H Q I h
 exact UnaryOp_ (thn (ha pins s σ H _ I h) fun v s1 ⟨x,H1,I1,r1,q1⟩=>ho pins s1 σ H1 x v Q I1 r1 q1)
theorem opI {g:Int->Int->Int}
 (rule:∀ (i j:Int) (t u:Tok) (s:Shared) (Q:Value->Shared->Prop) (E:Value->Shared->Prop),C i j->Q (.int (g i j) s.toks) { s with toks:=s.toks + 1 }->wpAny (model X.prog X.w) X.A (f (.int i t) (.int j u)) Q E s):
 OpR X f (rI C fun i j=>.int (g i j)):=by
 intro pins s σ H x y v u Q I rx ry h
 obtain⟨i,j,rfl,rfl,hc,q⟩:=h
 obtain⟨t,rfl⟩:=rx
 obtain⟨t',rfl⟩:=ry
 exact rule i j t t' s _ _ hc ⟨.int _,H,I.tok _,⟨_,rfl⟩,q⟩
theorem opI0 {g:Int->Int->Int}
 (rule:∀ (i j:Int) (t u:Tok) (s:Shared) (Q:Value->Shared->Prop) (E:Value->Shared->Prop),Q (.int (g i j) s.toks) { s with toks:=s.toks + 1 }->wpAny (model X.prog X.w) X.A (f (.int i t) (.int j u)) Q E s):
 OpR X f (rI0 fun i j=>.int (g i j)):=by
 intro pins s σ H x y v u Q I rx ry h
 obtain⟨i,j,rfl,rfl,q⟩:=h
 obtain⟨t,rfl⟩:=rx
 obtain⟨t',rfl⟩:=ry
 exact rule i j t t' s _ _ ⟨.int _,H,I.tok _,⟨_,rfl⟩,q⟩
theorem opB0 {g:Int->Int->Bool}
 (rule:∀ (i j:Int) (t u:Tok) (s:Shared) (Q:Value->Shared->Prop) (E:Value->Shared->Prop),Q (.bool (g i j)) s->wpAny (model X.prog X.w) X.A (f (.int i t) (.int j u)) Q E s):
 OpR X f (rI0 fun i j=>.bl (g i j)):=by
 intro pins s σ H x y v u Q I rx ry h
 obtain⟨i,j,rfl,rfl,q⟩:=h
 obtain⟨t,rfl⟩:=rx
 obtain⟨t',rfl⟩:=ry
 exact rule i j t t' s _ _ ⟨.bl _,H,I,rfl,q⟩
def CPow (i j:Int):Prop:=0<=j/\j<=1000000/\i.natAbs < 2 ^ 64
theorem op_add:OpR X (binaryOp .Add) (rI0 fun i j=>.int (i + j)):=opI0 fun _ _ _ _ _ _ _ q=>add_int q
theorem op_sub:OpR X (binaryOp .Sub) (rI0 fun i j=>.int (i - j)):=opI0 fun _ _ _ _ _ _ _ q=>sub_int q
theorem op_mod:OpR X (binaryOp .Mod) (rI (fun _ j=>0 < j) fun i j=>.int (i % j)):=opI fun i j _ _ _ _ _ hc q=>by
 have h1:(0:Int) < j:=hc
 exact mod_int' (by omega) (by rw [Int.fmod_eq_emod_of_nonneg i (by omega)];exact q)
theorem op_pow:OpR X (binaryOp .Pow) (rI CPow fun i j=>.int (i ^ j.toNat)):=opI fun _ _ _ _ _ _ _ hc q=>pow_int_small hc.1 hc.2.1 hc.2.2 q
theorem unI {g:Int->Int}
 (rule:∀ (i:Int) (t:Tok) (s:Shared) (Q:Value->Shared->Prop) (E:Value->Shared->Prop),Q (.int (g i) s.toks) { s with toks:=s.toks + 1 }->wpAny (model X.prog X.w) X.A (f (.int i t)) Q E s):
 UnR X f (rU fun i=>.int (g i)):=by
 intro pins s σ H x v Q I rx h
 obtain⟨i,rfl,q⟩:=h
 obtain⟨t,rfl⟩:=rx
 exact rule i t s _ _ ⟨.int _,H,I.tok _,⟨_,rfl⟩,q⟩
theorem un_neg:UnR X (unaryOp .USub) (rU fun i=>.int (-i)):=unI fun _ _ _ _ _ q=>neg_int q
def scal:V->V->Bool
 | .non,.non=>true | .non,.int _=>true | .int _,.non=>true | .non,.bl _=>true | .bl _,.non=>true | .non,.str _=>true | .str _,.non=>true
 | .int _,.int _=>true | .bl _,.bl _=>true | .str _,.str _=>true | .byt _,.byt _=>true
 | .int _,.str _=>true | .str _,.int _=>true | .bl _,.str _=>true | .str _,.bl _=>true
 | _,_=>false
def rEq:R2:=fun x y H Q=>scal x y = true/\Q (.bl (decide (x = y))) H
def rNe:R2:=fun x y H Q=>scal x y = true/\Q (.bl (!decide (x = y))) H
theorem dec_int:decide (V.int i = V.int j) = (i == j):=by
 rw [Bool.eq_iff_iff]
 simp
theorem dec_bl:decide (V.bl i = V.bl j) = (i == j):=by
 rw [Bool.eq_iff_iff]
 simp
theorem dec_str:decide (V.str i = V.str j) = (i == j):=by
 rw [Bool.eq_iff_iff]
 simp
theorem dec_byt:decide (V.byt i = V.byt j) = (i.toList == j.toList):=by
 rw [Bool.eq_iff_iff]
 simp
theorem fin_bl {σ:St} (I:Inv X pins σ H s) (q:Q (.bl k) H) (e:k = k'):EP X pins σ Q (.bool k') s:=by
 subst e
 exact⟨.bl k,H,I,rfl,q⟩
theorem op_eq:OpR X (compareOp .Eq) rEq:=by
 intro pins s σ H x y v u Q I rx ry h
 obtain⟨hs,q⟩:=h
 cases x with
 | non=>
  cases rx
  cases y with
  | non=>cases ry;exact PySem.EqNone.eq_none_none (fin_bl I q (by simp))
  | bl j=>cases ry;exact PySem.EqNone.eq_none_bool (fin_bl I q (by simp))
  | int j=>obtain⟨t',rfl⟩:=ry;exact PySem.EqNone.eq_none_int (fin_bl I q (by simp))
  | str j=>obtain⟨t',rfl⟩:=ry;exact PySem.EqNone.eq_none_str (fin_bl I q (by simp))
  | _=>exact absurd (show false = true from hs) Bool.false_ne_true
 | bl i=>
  cases rx
  cases y with
  | non=>cases ry;exact PySem.EqNone.eq_bool_none (fin_bl I q (by simp))
  | bl j=>cases ry;exact eq_bool (fin_bl I q dec_bl)
  | str j=>obtain⟨t',rfl⟩:=ry;exact PySem.EqMixed.eq_bool_str (fin_bl I q (by simp))
  | _=>exact absurd (show false = true from hs) Bool.false_ne_true
 | int i=>
  obtain⟨t,rfl⟩:=rx
  cases y with
  | non=>cases ry;exact PySem.EqNone.eq_int_none (fin_bl I q (by simp))
  | int j=>obtain⟨t',rfl⟩:=ry;exact eq_int (fin_bl I q dec_int)
  | str j=>obtain⟨t',rfl⟩:=ry;exact PySem.EqMixed.eq_int_str (fin_bl I q (by simp))
  | _=>exact absurd (show false = true from hs) Bool.false_ne_true
 | str i=>
  obtain⟨t,rfl⟩:=rx
  cases y with
  | non=>cases ry;exact PySem.EqNone.eq_str_none (fin_bl I q (by simp))
  | bl j=>cases ry;exact PySem.EqMixed.eq_str_bool (fin_bl I q (by simp))
  | int j=>obtain⟨t',rfl⟩:=ry;exact PySem.EqMixed.eq_str_int (fin_bl I q (by simp))
  | str j=>obtain⟨t',rfl⟩:=ry;exact eq_str (fin_bl I q dec_str)
  | _=>exact absurd (show false = true from hs) Bool.false_ne_true
 | byt i=>
  obtain⟨t,rfl⟩:=rx
  cases y with
  | byt j=>obtain⟨t',rfl⟩:=ry;exact PySem.W.eq_bytes (fin_bl I q dec_byt)
  | _=>exact absurd (show false = true from hs) Bool.false_ne_true
 | _=>cases y <;> exact absurd (show false = true from hs) Bool.false_ne_true
theorem op_ne:OpR X (compareOp .NotEq) rNe:=by
 intro pins s σ H x y v u Q I rx ry h
 obtain⟨hs,q⟩:=h
 cases x with
 | non=>
  cases rx
  cases y with
  | non=>cases ry;exact PySem.EqNone.ne_none_none (fin_bl I q (by simp))
  | bl j=>cases ry;exact PySem.EqNone.ne_none_bool (fin_bl I q (by simp))
  | int j=>obtain⟨t',rfl⟩:=ry;exact PySem.EqNone.ne_none_int (fin_bl I q (by simp))
  | str j=>obtain⟨t',rfl⟩:=ry;exact PySem.EqNone.ne_none_str (fin_bl I q (by simp))
  | _=>exact absurd (show false = true from hs) Bool.false_ne_true
 | bl i=>
  cases rx
  cases y with
  | non=>cases ry;exact PySem.EqNone.ne_bool_none (fin_bl I q (by simp))
  | bl j=>cases ry;exact ne_bool (fin_bl I q (congrArg not dec_bl))
  | str j=>obtain⟨t',rfl⟩:=ry;exact PySem.EqMixed.ne_bool_str (fin_bl I q (by simp))
  | _=>exact absurd (show false = true from hs) Bool.false_ne_true
 | int i=>
  obtain⟨t,rfl⟩:=rx
  cases y with
  | non=>cases ry;exact PySem.EqNone.ne_int_none (fin_bl I q (by simp))
  | int j=>obtain⟨t',rfl⟩:=ry;exact ne_int (fin_bl I q (congrArg not dec_int))
  | str j=>obtain⟨t',rfl⟩:=ry;exact PySem.EqMixed.ne_int_str (fin_bl I q (by simp))
  | _=>exact absurd (show false = true from hs) Bool.false_ne_true
 | str i=>
  obtain⟨t,rfl⟩:=rx
  cases y with
  | non=>cases ry;exact PySem.EqNone.ne_str_none (fin_bl I q (by simp))
  | bl j=>cases ry;exact PySem.EqMixed.ne_str_bool (fin_bl I q (by simp))
  | int j=>obtain⟨t',rfl⟩:=ry;exact PySem.EqMixed.ne_str_int (fin_bl I q (by simp))
  | str j=>obtain⟨t',rfl⟩:=ry;exact ne_str (fin_bl I q (congrArg not dec_str))
  | _=>exact absurd (show false = true from hs) Bool.false_ne_true
 | byt i=>
  obtain⟨t,rfl⟩:=rx
  cases y with
  | byt j=>obtain⟨t',rfl⟩:=ry;exact PySem.W.ne_bytes (fin_bl I q (congrArg not dec_byt))
  | _=>exact absurd (show false = true from hs) Bool.false_ne_true
 | _=>cases y <;> exact absurd (show false = true from hs) Bool.false_ne_true
theorem op_lt:OpR X (compareOp .Lt) (rI0 fun i j=>.bl (decide (i < j))):=opB0 fun _ _ _ _ _ _ _ q=>lt_int q
theorem op_le:OpR X (compareOp .LtE) (rI0 fun i j=>.bl (decide (i<=j))):=opB0 fun _ _ _ _ _ _ _ q=>le_int q
theorem op_gt:OpR X (compareOp .Gt) (rI0 fun i j=>.bl (decide (j < i))):=opB0 fun _ _ _ _ _ _ _ q=>gt_int q
theorem op_ge:OpR X (compareOp .GtE) (rI0 fun i j=>.bl (decide (j<=i))):=opB0 fun _ _ _ _ _ _ _ q=>ge_int q
theorem op_isN:OpR X (compareOp .Is) (fun x y H Q=>y = .non/\Q (.bl (decide (x = .non))) H):=by
 intro pins s σ H x y v u Q I rx ry h
 obtain⟨rfl,q⟩:=h
 cases ry
 refine is_none_gen (fin_bl I q ?_)
 cases x <;> first
  | (cases rx;rfl)
  | (obtain⟨t,rfl⟩:=rx;rfl)
theorem OpR.or {f:Value->Value->Sem Value}{r r':R2} (h:OpR X f r) (h':OpR X f r'):OpR X f (fun x y H Q=>r x y H Q\/r' x y H Q):=by
 intro pins s σ H x y v u Q I rx ry q
 rcases q with q | q
 · exact h pins s σ H x y v u Q I rx ry q
 · exact h' pins s σ H x y v u Q I rx ry q
theorem nomark (b:Expr) (h:op≠.In:=by decide) (h2:op≠.NotIn:=by decide):behindInMarks op b = false:=by
 have e1:(op == CmpOp.In) = false:=by grind
 have e2:(op == CmpOp.NotIn) = false:=by grind
 cases b <;> simp [behindInMarks,e1,e2]
theorem pe_cmpR {op:CmpOp}{r:R2} (ho:OpR X (compareOp op) r) (ha:PE X a ta) (hb:PE X b tb) (hm:behindInMarks op b = false):PE X (.Compare a [op] [b] pos) (tOp r ta tb):=by
 intro pins s σ H Q I h
 exact wpAny_Compare1 (binT ha hb I h fun v u s2 x y H2 I2 rx ry q=>ho pins s2 σ H2 x y v u Q I2 rx ry q) hm
def tTest (t:TE):TT:=fun σ H Q=>t σ H fun x H'=>∃ k,x = .bl k/\Q k H'
theorem pt_cmpR (ho:OpR X (compareOp op) r) (ha:PE X a ta) (hb:PE X b tb) (hm:behindInMarks op b = false):PT X (.Compare a [op] [b] pos) (tTest (tOp r ta tb)):=by
 intro pins s σ H Q I h
 refine wpAny_isTrue_Compare1 (thn (ha pins s σ H _ I h) fun v s1 ⟨x,H1,I1,r1,q1⟩=>thn (hb pins s1 σ H1 _ I1 q1) fun u s2 ⟨y,H2,I2,r2,q2⟩=>
  thn (ho pins s2 σ H2 x y v u _ I2 r1 r2 q2) fun c s3 ⟨z,H3,I3,r3,k,e,q3⟩=>?_) hm
 subst e
 cases r3
 exact wpAny_truthy_bool ⟨H3,I3,q3⟩
theorem line63:(sizeLine:Nat) < 2 ^ 63:=by decide
theorem vals1 (r:Vals [x] us):∃ u,us = [u]/\RelV x u:=by
 cases r with
 | cons r1 r2=>cases r2;simp_all
theorem vals2 (r:Vals [x,y] us):∃ u w',us = [u,w']/\RelV x u/\RelV y w':=by
 cases r with
 | cons r1 r2=>
  cases r2 with
  | cons r3 r4=>cases r4;exact⟨_,_,rfl,r1,r3⟩
theorem call_max2 (hc:X.calm = true):CallR X (.builtin "max") (fun xs H Q=>∃ i j,xs = [.int i,.int j]/\Q (.int (if j > i then j else i)) H):=by
 intro pins s σ H xs us Q I r h
 obtain⟨i,j,rfl,q⟩:=h
 obtain⟨u,w',rfl,⟨t,rfl⟩,⟨t',rfl⟩⟩:=vals2 r
 refine max_two_ints (I.ok.hd hc) fun h' tk k=>⟨_,H,I.kept k,?_,q⟩
 by_cases hj:j > i
 · rw [if_pos hj,if_pos hj];exact⟨_,rfl⟩
 · rw [if_neg hj,if_neg hj];exact⟨_,rfl⟩
theorem call_min2 (hc:X.calm = true):CallR X (.builtin "min") (fun xs H Q=>∃ i j,xs = [.int i,.int j]/\Q (.int (if j < i then j else i)) H):=by
 intro pins s σ H xs us Q I r h
 obtain⟨i,j,rfl,q⟩:=h
 obtain⟨u,w',rfl,⟨t,rfl⟩,⟨t',rfl⟩⟩:=vals2 r
 refine min_two_ints (I.ok.hd hc) fun h' tk k=>⟨_,H,I.kept k,?_,q⟩
 by_cases hj:j < i
 · rw [if_pos hj,if_pos hj];exact⟨_,rfl⟩
 · rw [if_neg hj,if_neg hj];exact⟨_,rfl⟩
theorem call_int1:CallR X (.type "int") (fun xs H Q=>(∃ i,xs = [.int i]/\Q (.int i) H)\/∃ k,xs = [.bl k]/\Q (.int (if k then 1 else 0)) H):=by
 intro pins s σ H xs us Q I r h
 rcases h with ⟨i,rfl,q⟩ | ⟨k,rfl,q⟩
 · obtain⟨u,rfl,t,rfl⟩:=vals1 r
   exact call_int_int ⟨.int i,H,I,⟨_,rfl⟩,q⟩
 · obtain⟨u,rfl,r1⟩:=vals1 r
   cases r1
   exact call_int_bool ⟨.int _,H,I.tok _,⟨_,rfl⟩,q⟩
structure ObjM (h:Heap) (x dx C:Addr) (mA:Str->Option Value):Prop where
 obj:h.get? x = some (PySem.W.instObj C dx)
 ns:h.Ns1 dx mA
 ne:dx≠x
theorem lookIn_ns {h:Heap}{dx:Addr} (n:h.Ns1 dx mA):∃ od,h.get? dx = some od/\∀ name,PySem.W.lookIn name od = some (mA name):=by
 obtain⟨o,es,ep,ho,hd,hk,_,hm⟩:=n
 refine⟨o,ho,fun name=>?_⟩
 have e:=hm name
 unfold nsFind findBy at e
 rw [<- Array.find?_toList] at e
 unfold PySem.W.lookIn
 rw [hd]
 dsimp only
 split
 · simp_all
 · have a:es.toList.any (·.refKey) = false:=by
    rw [List.any_eq_false]
    intro y hy
    obtain⟨z,t,hkey⟩:=hk y (Array.mem_toList_iff.mp hy)
    simp [DictEntry.refKey,hkey]
   have a':¬ es.toList.any (·.refKey) = true:=by grind
   rw [if_neg a']
   simp_all
theorem ObjM.look (I:ObjM h x dx C mA):∃ od,PySem.W.InstAt h x (PySem.W.instObj C dx) C (some od)/\∀ name,PySem.W.lookIn name od = some (mA name):=
 let ⟨od,ho,hl⟩:=lookIn_ns I.ns
 ⟨od,⟨I.obj,rfl,rfl,ho⟩,hl⟩
section
variable {s:Shared}{K:PySem.W.Frag}
theorem get_map (X:K.In s.heap) (I:ObjM s.heap x dx C mA) (hg:PySem.W.plainGet K C name = true) (hh:PySem.W.hasDictIn K C = true)
 (ha:PySem.W.findIn K (.ref C) name = some none) (hv:mA name = some v) (hv':PySem.W.handedIn v = true) (h:Q v { s with toks:=s.toks + 1 }):
 wpAny (model prog w) A (getAttr (.ref x) name expr) Q E s:=by
 obtain⟨od,J,hl⟩:=I.look
 exact PySem.W.get_value X J (PySem.W.plainGet_of hg).1 (PySem.W.findObj_own hh ha rfl (by simp_all)) hv' h
theorem get_meth (X:K.In s.heap) (I:ObjM s.heap x dx C mA) (hg:PySem.W.plainGet K C name = true)
 (hf:PySem.W.findIn K (.ref C) name = some (some (.ref f))) (ht:PySem.W.isFn K (.ref f) = true) (hv:mA name = none) (h:Q (.ref f,[.ref x]) s):
 wpAny (model prog w) A (getMethod (.ref x) name pl) Q E s:=by
 obtain⟨od,J,hl⟩:=I.look
 exact PySem.W.method_fn X J (PySem.W.plainGet_of hg).1 (PySem.W.plainGet_of hg).2 hf (beq_iff_eq.mp ht) (by show (PySem.W.lookIn name od).map _ = some false;simp_all) h
theorem set_map (X:K.In s.heap) (I:ObjM s.heap x dx C mA)
 (hs:PySem.W.findIn K (.ref C) "__setattr__" = some (some (.builtin "object.__setattr__"))) (hp:PySem.W.plainOver K C = true) (ht:PySem.W.takerIn K C name = some none) (hh:PySem.W.hasDictIn K C = true)
 (hw:PySem.Within mA ns) (hsz:ns.length<=sizeLine)
 (h:∀ h',ObjM h' x dx C (fun y=>if y = name then some v else mA y)->Heap.SameBut dx s.heap h'->Q () { s with heap:=h',toks:=s.toks + 2 }):
 wpAny (model prog w) A (setAttr (.ref x) name v) Q E s:=by
 obtain⟨od,J,hl⟩:=I.look
 refine PySem.W.set_plain X J hs (PySem.W.osa_open (r:=none) X J hp ht fun b=>?_)
 obtain⟨cd,hc,hd'⟩:=PySem.W.any_some hh
 have hx:=I.obj
 refine wpAny_bind (wpAny_pure (wpAny_bind (wpAny_bind (wpAny_loadPart hx (wpAny_bind (PySem.W.Looks.here (s:={ s with toks:=s.toks + 1 }) (PySem.W.looks_clsIn X hc) ?_))))))
 rw [hd']
 refine wpAny_pure (a:=some dx) (wpAny_bind (wpAny_pure (wpAny_bind ?_)))
 refine wpAny_nsSet1 (s:={ s with toks:=s.toks + 1 }) I.ns fun h' hn2 hs2=>?_
 obtain⟨oD,esD,epD,hoD,hdD,hcD⟩:=hn2.count (PySem.Within.cons name v hw)
 refine wpAny_bind (wpAny_lookBehind hoD (by rw [hdD];exact pastItsLine_dict (Nat.le_trans hcD (by rw [List.length_cons];omega))) ?_)
 exact wpAny_pure (h _ ⟨(hs2.2 _ (Ne.symm I.ne)).trans I.obj,hn2,I.ne⟩ hs2)
theorem make_map {R:Result->Shared->Prop}{vs:List Value}{kw:List (Str×Value)} (X:K.In s.heap) (hm:PySem.W.makesIn K C = true)
 (hi:PySem.W.findIn K (.ref C) "__init__" = some (some (.ref f))) (hf:PySem.W.typeIn K (.ref f) = some (.type "function"))
 (h:codeAny (model prog w) (A.under (.builtin "type.__call__" ⟨.ref C :: vs,kw⟩)) (.call (.ref f) ⟨.ref (s.heap.objs.size + 1) :: vs,kw⟩) (PySem.W.InitBack (s.heap.objs.size + 1) R)
  { s with heap:=(s.heap.push PySem.W.emptyDict).push (PySem.W.instObj C s.heap.objs.size) }):
 codeAny (model prog w) A (.call (.ref C) ⟨vs,kw⟩) R s:=by
 obtain⟨hh,g,d,t,os⟩:=s
 exact PySem.W.make_core (PySem.W.makes_of X hm) (PySem.W.looks_findIn X hi) (fun self=>PySem.W.bind_fn X self hf) (.inl rfl) h
end
def putF (f:Str) (v:V):List (Str×V)->List (Str×V)
 | []=>[(f,v)]
 | (g,x) :: r=>if g = f then (g,v) :: r else (g,x) :: putF f v r
theorem lookup_putF (f g:Str) (v:V):∀ fs:List (Str×V),(putF f v fs).lookup g = if g = f then some v else fs.lookup g
 | []=>by
  show List.lookup g [(f,v)] = _
  by_cases h:g = f
  · simp_all
  · have hb:(g == f) = false:=beq_eq_false_iff_ne.mpr h
    simp only [List.lookup,hb,if_neg h]
 | (k,x) :: r=>by
  have ih:=lookup_putF f g v r
  rw [show putF f v ((k,x) :: r) = (if k = f then (k,v) :: r else (k,x) :: putF f v r) from rfl]
  by_cases hk:k = f
  · rw [if_pos hk]
    by_cases h:g = k
    · simp_all
    · have hb:(g == k) = false:=beq_eq_false_iff_ne.mpr h
      simp only [List.lookup,hb,if_neg (fun e:g = f=>h (e.trans hk.symm))]
  · rw [if_neg hk]
    by_cases h:g = k
    · simp_all
    · have hb:(g == k) = false:=beq_eq_false_iff_ne.mpr h
      simp only [List.lookup,hb]
      exact ih
theorem keys_putF (f:Str) (v:V):∀ fs:List (Str×V),f∈(putF f v fs).map (·.1)/\∀ g,g∈fs.map (·.1)->g∈(putF f v fs).map (·.1)
 | []=>⟨by simp [putF],fun g h=>by grind⟩
 | (k,x) :: r=>by
  obtain⟨i1,i2⟩:=keys_putF f v r
  rw [show putF f v _ = (if k = f then (k,v) :: r else (k,x) :: putF f v r) from rfl]
  grind
theorem length_putF (f:Str) (v:V):∀ fs:List (Str×V),(putF f v fs).length<=fs.length + 1
 | []=>by simp [putF]
 | (k,x) :: r=>by
  have ih:=length_putF f v r
  rw [show putF f v _ = (if k = f then (k,v) :: r else (k,x) :: putF f v r) from rfl]
  grind
theorem RelO.some_of (r:RelO (some v) o):∃ u,o = some u/\RelV v u:=by
 cases o with
 | none=>exact (r).elim
 | some u=>exact⟨u,rfl,r⟩
theorem RelO.none_of (r:RelO none o):o = none:=by
 cases o with
 | none=>rfl
 | some u=>exact (r).elim
theorem handed_of (r:RelV v u):PySem.W.handedIn u = true:=by
 cases v with
 | non=>cases (r);rfl
 | bl b=>cases (r);rfl
 | int i=>obtain⟨t,e⟩:=(r);cases e;rfl
 | str x=>obtain⟨t,e⟩:=(r);cases e;rfl
 | byt b=>obtain⟨t,e⟩:=(r);cases e;rfl
 | flt b=>obtain⟨t,e⟩:=(r);cases e;rfl
 | ref a=>cases (r);rfl
 | ty n=>cases (r);rfl
theorem ins_get (hok:HOk P w H h) (e:H a = some (.ins C dx fs)):∃ mA,ObjM h a dx C mA/\(∀ f,RelO (fs.lookup f) (mA f))/\PySem.Within mA (fs.map (·.1))/\fs.length<=1000/\H dx = some (.own a):=by
 obtain⟨d,z,ne,ob,mA,n,r,q⟩:=(hok a _ e)
 exact⟨mA,⟨ob,n,ne⟩,r,q,z,d⟩
structure Cls (K:PySem.W.Frag) (C:Addr):Prop where
 pg:PySem.W.plainGet K C Str.empty = true
 hd:PySem.W.hasDictIn K C = true
 po:PySem.W.plainOver K C = true
 sa:PySem.W.findIn K (.ref C) "__setattr__" = some (some (.builtin "object.__setattr__"))
theorem Cls.get {K:PySem.W.Frag} (c:Cls K C) (f:Str):PySem.W.plainGet K C f = true:=c.pg
def NoAttr (K:PySem.W.Frag) (C:Addr) (f:Str):Prop:=PySem.W.findIn K (.ref C) f = some none
theorem NoAttr.taker {K:PySem.W.Frag} (n:NoAttr K C f):PySem.W.takerIn K C f = some none:=by
 unfold PySem.W.takerIn
 rw [n]
 rfl
structure Meth (K:PySem.W.Frag) (C:Addr) (m:Str) (f:Addr):Prop where
 at_:PySem.W.findIn K (.ref C) m = some (some (.ref f))
 fn:PySem.W.isFn K (.ref f) = true
 kp:PySem.W.keepIn K (.ref f) = true
section
variable {σ:St}
theorem getattr_ok (I:Inv X pins σ H s) (e:H a = some (.ins C dx fs)) (c:Cls X.K C) (n:NoAttr X.K C f) (l:fs.lookup f = some v)
 (h:∀ u s',Inv X pins σ H s'->RelV v u->Q u s'):wpAny (model X.prog X.w) A (getAttr (.ref a) f b) Q E s:=by
 obtain⟨mA,O,r,_,_,_⟩:=ins_get I.hok e
 obtain⟨u,hu,ru⟩:=RelO.some_of (by rw [<- l];exact r f)
 exact get_map I.kIn O (c.get f) c.hd n hu (handed_of ru) (h u _ (I.tok _) ru)
theorem getmeth_ok (I:Inv X pins σ H s) (e:H a = some (.ins C dx fs)) (c:Cls X.K C) (k:Meth X.K C m g) (l:fs.lookup m = none)
 (h:Q (.ref g,[.ref a]) s):wpAny (model X.prog X.w) A (getMethod (.ref a) m pl) Q E s:=by
 obtain⟨mA,O,r,_,_,_⟩:=ins_get I.hok e
 have hn:=RelO.none_of (by rw [<- l];exact r m)
 exact get_meth I.kIn O (c.get m) k.at_ k.fn hn h
theorem setattr_ok (I:Inv X pins σ H s) (e:H a = some (.ins C dx fs)) (c:Cls X.K C) (n:NoAttr X.K C f) (hl:fs.length < 1000) (ry:RelV y u)
 (h:∀ s',Inv X pins σ (upd H a (.ins C dx (putF f y fs))) s'->Q () s'):wpAny (model X.prog X.w) A (setAttr (.ref a) f u) Q E s:=by
 obtain⟨mA,O,r,wi,_,ho⟩:=ins_get I.hok e
 have hz:(fs.map (·.1)).length<=sizeLine:=by rw [List.length_map,sizeLine_eq];omega
 refine set_map I.kIn O c.sa c.po n.taker c.hd wi hz fun h' O' sb=>h _ ?_
 have hd:∃ o,h'.get? dx = some o:=let ⟨o,_,_,e',_⟩:=O'.ns;⟨o,e'⟩
 refine I.write (x:=a) (e:=dx) (by rw [e];exact True.intro) (.inr ho) (fun b q hb z=>(sb.2 b hb).trans z) hd ?_
 refine⟨by rw [upd_ne O.ne];exact ho,?_,O.ne,O'.obj,_,O'.ns,fun g=>?_,fun g hg=>?_⟩
 · have:=length_putF f y fs;omega
 · rw [lookup_putF]
   by_cases q:g = f
   · rw [if_pos q,if_pos q];exact ry
   grind
 · by_cases q:g = f
   · rw [q];exact (keys_putF f y fs).1
   · refine (keys_putF f y fs).2 g (wi g fun z=>hg ?_)
     grind
theorem Inv.made (I:Inv X pins σ H s):Inv X pins σ (upd (upd H s.heap.objs.size (.own (s.heap.objs.size + 1))) (s.heap.objs.size + 1) (.ins C s.heap.objs.size []))
 { s with heap:=(s.heap.push PySem.W.emptyDict).push (PySem.W.instObj C s.heap.objs.size) }:=by
 have e1:(s.heap.push PySem.W.emptyDict).get? s.heap.objs.size = some PySem.W.emptyDict:=Heap.get?_push_size s.heap rfl
 have e2:((s.heap.push PySem.W.emptyDict).push (PySem.W.instObj C s.heap.objs.size)).get? (s.heap.objs.size + 1) = some (PySem.W.instObj C s.heap.objs.size):=by
  have:=Heap.get?_push_size (s.heap.push PySem.W.emptyDict) (o:=PySem.W.instObj C s.heap.objs.size) rfl
  rwa [Heap.size_push] at this
 have e3:(s.heap.push PySem.W.emptyDict).Ns s.heap.objs.size (fun _=>none):=⟨PySem.W.emptyDict,#[],_,e1,rfl,(fun e he=>absurd he (by simp)),fun _=>rfl⟩
 have I1:=I.laid (a:=s.heap.objs.size) (o:=.own (s.heap.objs.size + 1)) (h':=s.heap.push PySem.W.emptyDict) (t':=s.toks) (fun b u q=>Heap.get?_push_of_some _ q) (Nat.le_refl _) ⟨_,e1⟩
 refine I1.laid (a:=s.heap.objs.size + 1) (o:=.ins C s.heap.objs.size []) (t':=s.toks) (fun b u q=>Heap.get?_push_of_some _ q) (Nat.le_of_eq (Heap.size_push _ _)) ?_
 have ne:s.heap.objs.size≠s.heap.objs.size + 1:=Nat.ne_of_lt (Nat.lt_succ_self _)
 refine⟨by rw [upd_ne ne,upd_same],Nat.zero_le _,ne,e2,fun _=>none,(Heap.Ns1.of_empty e3).at fun o q=>Heap.get?_push_of_some _ q,fun _=>True.intro,fun y hy=>absurd rfl hy⟩
theorem attr_of {prog:Program}{w:World}{env:Env}{e:Expr}{f:Str}{pos:Pos}{s:Shared}{Q:Value->Shared->Prop} (hb:attributeBase e f env (eval e env) = eval e env)
 (h:wpAny (model prog w) A (eval e env) (fun o s₁=>wpAny (model prog w) A (getAttr o f true) Q E s₁) E s):wpAny (model prog w) A (eval (.Attribute e f pos) env) Q E s:=
 Attribute_any_ h (by rw [arm_eval_Attribute,hb])
end
def tFld (K:PySem.W.Frag) (ta:TE) (f:Str):TE:=fun σ H Q=>ta σ H fun x H1=>∃ a C dx fs v,x = .ref a/\H1 a = some (.ins C dx fs)/\Cls K C/\NoAttr K C f/\fs.lookup f = some v/\Q v H1
def sFld (K:PySem.W.Frag) (ta tv:TE) (f:Str):TS:=fun D σ H=>tv σ H fun y H1=>ta σ H1 fun x H2=>∃ a C dx fs,x = .ref a/\H2 a = some (.ins C dx fs)/\Cls K C/\NoAttr K C f/\fs.length < 1000/\
 D.nx σ (upd H2 a (.ins C dx (putF f y fs)))
theorem pe_fld (he:PE X e ta) (hb:attributeBase e f X.env (eval e X.env) = eval e X.env):PE X (.Attribute e f pos) (tFld X.K ta f):=by
 intro pins s σ H Q I h
 refine attr_of hb (thn (he pins s σ H _ I h) fun u s1 ⟨x,H1,I1,rx,a,C,dx,fs,v,ex,ea,c,n,l,q⟩=>?_)
 subst ex
 obtain rfl:u = Value.ref a:=rx
 exact getattr_ok I1 ea c n l fun u' s2 I2 ru=>⟨v,H1,I2,ru,q⟩
theorem ps_fld (ha:PE X o ta) (hv:PE X value tv) (hs:swapsWith value (some (.Attribute o f pos')) pos.line X.env = pure false):PS X (.Assign [.Attribute o f pos'] value pos) (sFld X.K ta tv f):=by
 intro pins s σ H D I h
 refine plainObj_wpAny_Assign_Attribute (thn (hv pins s σ H _ I h) fun u s1 ⟨y,H1,I1,ry,q⟩=>thn (ha pins s1 σ H1 _ I1 q) fun ov s2 ⟨x,H2,I2,rx,a,C,dx,fs,ex,ea,c,n,l,q2⟩=>?_) hs
 subst ex
 obtain rfl:ov = Value.ref a:=rx
 exact setattr_ok I2 ea c n l ry fun s3 I3=>⟨σ,_,I3,q2⟩
theorem methcall_of {pl:Sem Bool}{m:Str}{apos:Pos}{args:List Expr}{pins:List (Addr×Obj)}{s:Shared}{σ:St}{H:Hp}{Q:Value->Shared->Prop}{te:TE} (he:PE X e te) (I:Inv X pins σ H s)
 (h:te σ H fun x H1=>∃ a C dx fs g,x = .ref a/\H1 a = some (.ins C dx fs)/\Cls X.K C/\Meth X.K C m g/\fs.lookup m = none/\
  ∀ s1,Inv X pins σ H1 s1->wpAny (model X.prog X.w) X.A (callWith pos (.ref g) [.ref a] (backTo pos (starEach args X.env)) (backToKw pos (keywordEach [] X.env))) Q X.xe s1)
 (ht:eval (.Call (.Attribute e m apos) args [] pos) X.env = (do
  let ov <- eval e X.env
  standAt apos.atName
  let (f,first) <- holding [ov] (getMethod ov m pl)
  callWith pos f first (backTo pos (starEach args X.env)) (backToKw pos (keywordEach [] X.env)))):
 wpAny (model X.prog X.w) X.A (eval (.Call (.Attribute e m apos) args [] pos) X.env) Q X.xe s:=by
 refine PySem.W.methodCall_KW (pl:=pl) (thn (he pins s σ H _ I h) fun u s1 ⟨x,H1,I1,rx,a,C,dx,fs,g,ex,ea,c,k,l,q⟩=>?_) ht
 subst ex
 obtain rfl:u = Value.ref a:=rx
 exact getmeth_ok I1 ea c k l (q s1 I1)
section
variable {σ:St}
inductive TyOf (K:PySem.W.Frag) (H:Hp):V->Value->Prop where
 | non:TyOf K H .non (.type "NoneType")
 | bl (x:Bool):TyOf K H (.bl x) (.type "bool")
 | int (i:Int):TyOf K H (.int i) (.type "int")
 | str (x:Str):TyOf K H (.str x) (.type "str")
 | flt (x:UInt64):TyOf K H (.flt x) (.type "float")
 | lst {a:Addr}{xs:List V} (e:H a = some (.lst xs)):TyOf K H (.ref a) (.type "list")
 | frz {a:Addr}{o:Obj}{xs:List V} (e:H a = some (.frz o (.lst xs))):TyOf K H (.ref a) (.type "list")
 | tup {a:Addr}{xs:List V} (e:H a = some (.tup xs)):TyOf K H (.ref a) (.type "tuple")
 | dK {a:Addr}{kvs:List (Key×V)} (e:H a = some (.dK kvs)):TyOf K H (.ref a) (.type "dict")
 | dT {a:Addr}{kvs:List (List Key×V)} (e:H a = some (.dT kvs)):TyOf K H (.ref a) (.type "dict")
 | ins {a C dx:Addr}{fs:List (Str×V)} (e:H a = some (.ins C dx fs)) (cl:Cls K C) (ha:PySem.W.findIn K (.ref C) "__class__" = some (some (.builtin "object.__class__")))
  (hn:PySem.W.specialIn K (.builtin "object.__class__") "__get__" = some (some (.builtin "getset_descriptor.__get__"))) (htk:PySem.W.takesIn K (.builtin "object.__class__") = some true)
  (hm:PySem.W.mroIn K C (.type "object") = some true):TyOf K H (.ref a) (.ref C)
theorem isinst_ok {x:V}{u t:Value} (I:Inv X pins σ H s) (rx:RelV x u) (ty:TyOf X.K H x t) (e:PySem.W.kitOne X.K t c = some b) (h:∀ tk,Q (.bool b) { s with toks:=tk }):
 wpAny (model X.prog X.w) A (call (.builtin "isinstance") [u,c]) Q E s:=by
 cases ty with
 | non=>cases (show u = Value.none from rx);exact PySem.W.kia_one PySem.W.kitx_none I.kIn True.intro e (fun z=>nomatch z) h
 | bl y=>cases (show u = Value.bool y from rx);exact PySem.W.kia_one PySem.W.kitx_bool I.kIn True.intro e (fun z=>nomatch z) h
 | int i=>obtain⟨t,q⟩:=(show ∃ t,u = Value.int i t from rx);cases q;exact PySem.W.kia_one PySem.W.kitx_int I.kIn True.intro e (fun z=>nomatch z) h
 | str y=>obtain⟨t,q⟩:=(show ∃ t,u = Value.str y t from rx);cases q;exact PySem.W.kia_one PySem.W.kitx_str I.kIn True.intro e (fun z=>nomatch z) h
 | flt y=>obtain⟨t,q⟩:=(show ∃ t,u = Value.float y t from rx);cases q;exact PySem.W.kia_one PySem.W.kitx_float I.kIn True.intro e (fun z=>nomatch z) h
 | @lst a xs ea=>
  cases (show u = Value.ref a from rx)
  obtain⟨_,_,n,_,h1⟩:=(show ObjOk X.prog X.w H s.heap a (.lst xs) from I.hok a _ ea)
  exact PySem.W.kia_one PySem.W.kitx_list I.kIn ⟨_,h1,rfl⟩ e (fun z=>nomatch z) h
 | @frz a ob xs ea=>
  cases (show u = Value.ref a from rx)
  obtain⟨_,_,_,n,_,h1⟩:=(show ObjOk X.prog X.w H s.heap a (.frz ob (.lst xs)) from I.hok a _ ea)
  exact PySem.W.kia_one PySem.W.kitx_list I.kIn ⟨_,h1,rfl⟩ e (fun z=>nomatch z) h
 | @tup a xs ea=>
  cases (show u = Value.ref a from rx)
  obtain⟨_,_,_,p⟩:=(show ObjOk X.prog X.w H s.heap a (.tup xs) from I.hok a _ ea)
  obtain⟨o,h1,h2,_⟩:=p
  exact PySem.W.kia_one PySem.W.kitx_tuple I.kIn ⟨o,h1,h2⟩ e (fun z=>nomatch z) h
 | @dK a kvs ea=>
  cases (show u = Value.ref a from rx)
  obtain⟨_,_,vs,_,p⟩:=(show ObjOk X.prog X.w H s.heap a (.dK kvs) from I.hok a _ ea)
  obtain⟨o,es,ep,h1,h2,_⟩:=p
  exact PySem.W.kia_one PySem.W.kitx_dict I.kIn ⟨o,h1,h2.1⟩ e (fun z=>nomatch z) h
 | @dT a kvs ea=>
  cases (show u = Value.ref a from rx)
  obtain⟨_,_,xs,_,o,es,ep,h1,h2,_⟩:=(show ObjOk X.prog X.w H s.heap a (.dT kvs) from I.hok a _ ea)
  exact PySem.W.kia_one PySem.W.kitx_dict I.kIn ⟨o,h1,h2.1⟩ e (fun z=>nomatch z) h
 | @ins a C dx fs ea cl ha hn htk hm=>
  cases (show u = Value.ref a from rx)
  obtain⟨mA,O,_⟩:=ins_get I.hok ea
  obtain⟨od,J,_⟩:=O.look
  exact PySem.W.kia_one (PySem.W.kitx_own (cl.get _) cl.hd ha hn htk hm) I.kIn J e (fun z=>nomatch z) h
end
structure Room (k:Nat) (A:Around):Prop where
 hd:A.handled = none
 dp:A.depth + 3 * k + 5 < recursionLimit
 un:A.units + 16 * k + 200 < cLine
theorem Room.mono {j k:Nat}{A:Around} (r:Room k A) (h:j<=k):Room j A:=⟨r.hd,by have:=r.dp;omega,by have:=r.un;omega⟩
theorem Room.deeper {k:Nat}{A:Around} (r:Room (k + 1) A) (env:Env):Room k (A.deeper env):=
 ⟨r.hd,by have:=r.dp;show A.depth + 1 + 3 * k + 5 < _;omega,by have:=r.un;show A.units + 3 + 16 * k + 200 < _;omega⟩
theorem make_depth {A:Around}:(A.under (.builtin "type.__call__" ⟨.ref C :: us,kw⟩)).depth = A.depth + 1:=rfl
theorem make_units {A:Around}:(A.under (.builtin "type.__call__" ⟨.ref C :: us,kw⟩)).units = A.units + 1:=rfl
theorem Room.make {k:Nat}{A:Around} (r:Room (k + 1) A) (C:Addr) (us:List Value) (kw:List (Str×Value)):Room k (A.under (.builtin "type.__call__" ⟨.ref C :: us,kw⟩)):=
 ⟨r.hd,by have:=r.dp;rw [make_depth];omega,by have:=r.un;rw [make_units];omega⟩
theorem Room.depth (r:Room k A):A.depth < recursionLimit:=by have:=r.dp;omega
def tNil:TA:=fun _ H Q=>Q [] H
def tCons (ta:TE) (tr:TA):TA:=fun σ H Q=>ta σ H fun x H1=>tr σ H1 fun xs H2=>Q (x :: xs) H2
theorem pa_nil:PA X [] tNil:=fun _ _ _ _ H Q I h=>Calls.spliced_nil ⟨[],H,I,.nil,h⟩
theorem pa_cons (ha:PE X e te) (hr:PA X es t) (hs:starEach (e :: es) X.env = (false,eval e X.env) :: starEach es X.env:=by rfl):PA X (e :: es) (tCons te t):=by
 intro pos pins s σ H Q I h
 rw [hs]
 refine Calls.spliced_cons (thn (ha pins s σ H _ I h) fun u s1 ⟨x,H1,I1,r1,q1⟩=>?_)
 exact thn (hr pos pins s1 σ H1 _ I1 q1) fun us s2 ⟨xs,H2,I2,r2,q2⟩=>⟨x :: xs,H2,I2,.cons r1 r2,q2⟩
abbrev Sp:=List V->Hp->VK->XK->Prop
abbrev CXT:=List Env->Hp->Shared->XK->Value->Shared->Prop
structure Env0 (P:Program) (w:World) (K:PySem.W.Frag) (mg:Str->Option Value) (base:Heap) (A:Around) (outer:List Env) (s:Shared) (H:Hp):Prop where
 frames:A.frames = some outer
 mod:Mod K mg base
 bs:∀ b o,base.get? b = some o->s.heap.get? b = some o/\H b = none
 bsz:base.objs.size<=s.heap.objs.size
 funs:s.heap.FunFrames base outer
 frf:∀ b∈frs outer,H b = none
 hok:HOk P w H s.heap
 bare:AllBare s.gens
def CE (outer:List Env) (P:Program) (w:World) (H:Hp) (s:Shared) (Q:VK) (u:Value) (s':Shared):Prop:=
 ∃ v H',s'.os = s.os/\AllBare s'.gens/\Un (frs outer) [] H H' s.heap s'.heap/\HOk P w H' s'.heap/\RelV v u/\Q v H'
def CR (CX:CXT) (outer:List Env) (P:Program) (w:World) (H:Hp) (s:Shared) (Q:VK) (E:XK) (r:Result) (s':Shared):Prop:=
 match r with
 | .ok (.ret u)=>CE outer P w H s Q u s'
 | .ok _=>False
 | .error e=>CX outer H s E e s'
structure FnOk (P:Program) (w:World) (K:PySem.W.Frag) (mg:Str->Option Value) (base:Heap) (CX:CXT) (k:Nat) (f:Addr) (fd:FuncData) (ps:List Str) (sp:Sp):Prop where
 len:∀ vs H Q E,sp vs H Q E->vs.length = ps.length
 run:∀ (A:Around) (outer:List Env) (s:Shared) (H:Hp) (args:Args) (us:List Value) (vs:List V) (Q:VK) (E:XK),Room k A->Env0 P w K mg base A outer s H->BindsTo s fd args (ps.zip us)->Vals vs us->sp vs H Q E->
  codeAny (model P w) A (.call (.ref f) args) (CR CX outer P w H s Q E) s
theorem Env0.make {K:PySem.W.Frag} (e:Env0 P w K mg base A outer s H) (C:Addr) (us:List Value) (kw:List (Str×Value)):
 Env0 P w K mg base (A.under (.builtin "type.__call__" ⟨.ref C :: us,kw⟩)) outer s H:=⟨by first | exact e.frames | rfl,e.mod,e.bs,e.bsz,e.funs,e.frf,e.hok,e.bare⟩
section
variable {σ:St}
theorem Inv.env0 (I:Inv X pins σ H s):Env0 X.prog X.w X.K X.mg X.base X.A X.stack s H:=
 ⟨I.ok.frames,I.ok.mod,I.bs,Nat.le_trans I.ok.bsz I.sz,I.stack,I.stkFree,I.hok,I.bare⟩
theorem Inv.after {Q:VK}{u:Value} (I:Inv X pins σ H s) (h:CE X.stack X.prog X.w H s Q u s'):EP X pins σ Q u s':=by
 obtain⟨v,H',os,bare,un,hok,r,q⟩:=h
 obtain⟨hh,g,d,t,os'⟩:=s'
 obtain rfl:os' = s.os:=os
 exact⟨v,H',I.call (h':=hh) (g':=g) (d':=d) (t':=t) (ch:=[]) un hok bare (fun b z=>absurd z (by simp)),r,q⟩
end
def tCall (sp:Sp) (dvs:List V) (E:XK) (t:TA):TE:=fun σ H Q=>t σ H fun vs H1=>sp (vs ++ dvs) H1 Q E
def tMeth (C:Addr) (m:Str) (sp:Sp) (dvs:List V) (E:XK) (ta:TE) (t:TA):TE:=fun σ H Q=>ta σ H fun x H1=>∃ a dx fs,x = .ref a/\H1 a = some (.ins C dx fs)/\fs.lookup m = none/\
 t σ H1 fun vs H2=>sp (x :: (vs ++ dvs)) H2 Q E
def tMake (C:Addr) (sp:Sp) (dvs:List V) (E:XK) (t:TA):TE:=fun σ H Q=>t σ H fun vs H1=>∀ x dx,H1 x = none->H1 dx = none->dx≠x->
 sp (.ref x :: (vs ++ dvs)) (upd (upd H1 dx (.own x)) x (.ins C dx [])) (fun v H2=>v = .non/\Q (.ref x) H2) E
def Binds (K:PySem.W.Frag) (fd:FuncData) (ps:List Str) (ds:List Value):Prop:=
 ∀ (s:Shared) (us:List Value),K.In s.heap->(us ++ ds).length = ps.length->BindsTo s fd ⟨us,[]⟩ (ps.zip (us ++ ds))
theorem Binds.all {K:PySem.W.Frag}{fd:FuncData}{ps:List Str} (h:∀ us:List Value,us.length = ps.length->bindArgs fd ⟨us,[]⟩ = pure (ps.zip us)):Binds K fd ps []:=fun s us _ hl=>by
 rw [List.append_nil] at hl ⊢
 exact .of_eq (h us hl)
def Passes (CX:CXT) (X:Cx) (E:XK):Prop:=∀ (pins:List (Addr×Obj)) (σ:St) (H:Hp) (s:Shared) (e:Value) (s':Shared),Inv X pins σ H s->CX X.stack H s E e s'->X.xe e s'
section
variable {p pos apos:Pos}
theorem run_fn {pins:List (Addr×Obj)}{σ:St}{H:Hp}{s:Shared}{Q:VK}{us:List Value}{vs:List V} (F:FnOk X.prog X.w X.K X.mg X.base CX k f fd ps sp) (hr:Room k X.A) (hb:Binds X.K fd ps ds) (hd:Vals dvs ds) (hx:Passes CX X E)
 (I:Inv X pins σ H s) (r:Vals vs us) (h:sp (vs ++ dvs) H Q E):wpAny (model X.prog X.w) X.A (call (.ref f) us) (EP X pins σ Q) X.xe s:=by
 have r2:Vals (vs ++ dvs) (us ++ ds):=r.append hd
 have hl:(us ++ ds).length = ps.length:=by rw [<- r2.length];exact F.len _ _ _ _ h
 refine wpAny_call (codeAny_mono (F.run X.A X.stack s H ⟨us,[]⟩ (us ++ ds) (vs ++ dvs) Q E hr I.env0 (hb s us I.kIn hl) r2 h) fun r s' hq=>?_)
 cases r with
 | error e=>exact hx pins σ H s e s' I hq
 | ok fl=>
  cases fl with
  | ret u=>exact I.after hq
  | next=>exact False.elim hq
  | brk=>exact False.elim hq
  | cont=>exact False.elim hq
theorem pe_call (F:FnOk X.prog X.w X.K X.mg X.base CX k f fd ps sp) (hr:Room k X.A) (hg:Gl X x) (hm:X.mg x = some (.ref f)) (hk:PySem.W.keepIn X.K (.ref f) = true) (hb:Binds X.K fd ps ds) (hd:Vals dvs ds) (hx:Passes CX X E)
 (ha:PA X (e :: es) t) (hdb:(x == ("__debug__" : Str)) = false:=by decide) (he:starEach (e :: es) X.env = (false,eval e X.env) :: starEach es X.env:=by rfl) (hpl:(backTo pos (starEach es X.env)).any (·.1) = false:=by rfl):
 PE X (.Call (.Name x p) (e :: es) [] pos) (tCall sp dvs E t):=by
 intro pins s σ H Q I h
 refine wpAny_Call_Name_kw (ld_glob I hg hm ?_ hdb)
 refine PySem.W.callWith_K I.ok.mod.kin hk (thn (ha pos pins s σ H _ I h) fun us s1 ⟨vs,H1,I1,r,q⟩=>⟨I1.kIn,?_⟩) he hpl
 exact run_fn F hr hb hd hx I1 r q
theorem pe_meth {pl:Sem Bool} (he:PE X o ta) (c:Cls X.K C) (hm:Meth X.K C m f) (F:FnOk X.prog X.w X.K X.mg X.base CX k f fd ps sp) (hr:Room k X.A) (hb:Binds X.K fd ps ds) (hd:Vals dvs ds) (hx:Passes CX X E) (ha:PA X (e :: es) t)
 (hst:starEach (e :: es) X.env = (false,eval e X.env) :: starEach es X.env:=by rfl) (hpl:(backTo pos (starEach es X.env)).any (·.1) = false:=by rfl)
 (ht:eval (.Call (.Attribute o m apos) (e :: es) [] pos) X.env = (do
  let ov <- eval o X.env
  standAt apos.atName
  let (f,first) <- holding [ov] (getMethod ov m pl)
  callWith pos f first (backTo pos (starEach (e :: es) X.env)) (backToKw pos (keywordEach [] X.env))):=by rfl):
 PE X (.Call (.Attribute o m apos) (e :: es) [] pos) (tMeth C m sp dvs E ta t):=by
 intro pins s σ H Q I h
 refine PySem.W.methodCall_KW (pl:=pl) (thn (he pins s σ H _ I h) fun u s1 ⟨x,H1,I1,rx,a,dx,fs,ex,ea,l,q⟩=>?_) ht
 subst ex
 obtain rfl:u = Value.ref a:=rx
 refine getmeth_ok I1 ea c hm l ?_
 refine PySem.W.callWith_K (first:=[.ref a]) (h₀:=X.base) I.ok.mod.kin hm.kp (thn (ha pos pins s1 σ H1 _ I1 q) fun us s2 ⟨vs,H2,I2,r,q2⟩=>⟨I2.kIn,?_⟩) hst hpl
 exact run_fn (us:=.ref a :: us) (vs:=.ref a :: vs) F hr hb hd hx I2 (.cons rfl r) q2
theorem pe_meth0 {pl:Sem Bool} (he:PE X o ta) (c:Cls X.K C) (hm:Meth X.K C m f) (F:FnOk X.prog X.w X.K X.mg X.base CX k f fd ps sp) (hr:Room k X.A) (hb:Binds X.K fd ps ds) (hd:Vals dvs ds) (hx:Passes CX X E)
 (ht:eval (.Call (.Attribute o m apos) [] [] pos) X.env = (do
  let ov <- eval o X.env
  standAt apos.atName
  let (f,first) <- holding [ov] (getMethod ov m pl)
  callWith pos f first (backTo pos (starEach [] X.env)) (backToKw pos (keywordEach [] X.env))):=by rfl):
 PE X (.Call (.Attribute o m apos) [] [] pos) (tMeth C m sp dvs E ta tNil):=by
 intro pins s σ H Q I h
 refine PySem.W.methodCall_KW (pl:=pl) (thn (he pins s σ H _ I h) fun u s1 ⟨x,H1,I1,rx,a,dx,fs,ex,ea,l,q⟩=>?_) ht
 subst ex
 obtain rfl:u = Value.ref a:=rx
 refine getmeth_ok I1 ea c hm l ?_
 exact PySem.W.callWith_K0 (first:=[.ref a]) I1.kIn hm.kp (run_fn (us:=[.ref a]) (vs:=[.ref a]) F hr hb hd hx I1 (.cons rfl .nil) q)
structure Mk (K:PySem.W.Frag) (C f:Addr):Prop where
 makes:PySem.W.makesIn K C = true
 init:PySem.W.findIn K (.ref C) "__init__" = some (some (.ref f))
 fn:PySem.W.isFn K (.ref f) = true
 kp:PySem.W.keepIn K (.ref C) = true
theorem run_make {pins:List (Addr×Obj)}{σ:St}{H:Hp}{s:Shared}{Q:VK}{us:List Value}{vs:List V} (M:Mk X.K C f) (F:FnOk X.prog X.w X.K X.mg X.base CX k f fd ps sp) (hr:Room (k + 1) X.A) (hb:Binds X.K fd ps ds) (hd:Vals dvs ds)
 (hx:Passes CX X E) (I:Inv X pins σ H s) (r:Vals vs us)
 (h:∀ x dx,H x = none->H dx = none->dx≠x->sp (.ref x :: (vs ++ dvs)) (upd (upd H dx (.own x)) x (.ins C dx [])) (fun v H2=>v = .non/\Q (.ref x) H2) E):
 wpAny (model X.prog X.w) X.A (call (.ref C) us) (EP X pins σ Q) X.xe s:=by
 have hq:=h (s.heap.objs.size + 1) s.heap.objs.size (I.hok.fresh (Nat.le_succ _)) (I.hok.fresh (Nat.le_refl _)) (Nat.ne_of_lt (Nat.lt_succ_self _))
 have I2:=Inv.made (C:=C) I
 have r2:Vals (V.ref (s.heap.objs.size + 1) :: (vs ++ dvs)) _:=.cons rfl (r.append hd)
 have hl:=by
  have e:=r2.length
  rw [F.len _ _ _ _ hq] at e
  exact e.symm
 refine wpAny_call (make_map (f:=f) I.kIn M.makes M.init (beq_iff_eq.mp M.fn) (codeAny_mono (F.run _ X.stack _ _ _ _ _ _ E (hr.make C us [])
  (I2.env0.make C us []) (hb _ _ I2.kIn hl) r2 hq) fun r s' hq'=>?_))
 cases r with
 | error e=>exact hx pins σ _ _ e s' I2 hq'
 | ok fl=>
  cases fl with
  | ret u=>
   obtain⟨v,H',I3,rv,ev,q3⟩:=I2.after hq'
   subst ev
   exact⟨rv,⟨V.ref (s.heap.objs.size + 1),H',I3,rfl,q3⟩⟩
  | next=>exact False.elim hq'
  | brk=>exact False.elim hq'
  | cont=>exact False.elim hq'
theorem pe_make (M:Mk X.K C f) (F:FnOk X.prog X.w X.K X.mg X.base CX k f fd ps sp) (hr:Room (k + 1) X.A) (hg:Gl X x) (hm:X.mg x = some (.ref C)) (hb:Binds X.K fd ps ds) (hd:Vals dvs ds) (hx:Passes CX X E)
 (ha:PA X (e :: es) t) (hdb:(x == ("__debug__" : Str)) = false:=by decide) (he:starEach (e :: es) X.env = (false,eval e X.env) :: starEach es X.env:=by rfl) (hpl:(backTo pos (starEach es X.env)).any (·.1) = false:=by rfl):
 PE X (.Call (.Name x p) (e :: es) [] pos) (tMake C sp dvs E t):=by
 intro pins s σ H Q I h
 refine wpAny_Call_Name_kw (ld_glob I hg hm ?_ hdb)
 refine PySem.W.callWith_K I.ok.mod.kin M.kp (thn (ha pos pins s σ H _ I h) fun us s1 ⟨vs,H1,I1,r,q⟩=>⟨I1.kIn,?_⟩) he hpl
 exact run_make M F hr hb hd hx I1 r q
end
structure FnScope (N P:List Str) (sc:Scope):Prop where
 kind:sc.kind = .function
 co:sc.isCoroutine = false
 gen:sc.isGenerator = false
 nd:N.Nodup
 pre:N.take P.length = P
 par:∀ x∈P,sc.names.lookup x = some .local\/sc.names.lookup x = some .cell
 nofree:∀ y∈sc.names,y.2≠.free
theorem bindL_out {kindOf:Str->Option NameKind}:∀ {binds:List (Str×Value)}{m:Str->Option Value},(∀ v,(x,v)∉binds)->bindL kindOf binds m x = m x
 | [],_,_=>rfl
 | (n,v) :: r,m,h=>by
  unfold bindL
  rw [bindL_out fun w hw=>h w (List.mem_cons_of_mem _ hw)]
  split
  · have:x≠n:=by grind
    simp_all
  · rfl
theorem bindC_out {kindOf:Str->Option NameKind}:∀ {binds:List (Str×Value)}{m:Str->Option Value},(∀ v,(x,v)∉binds)->bindC kindOf binds m x = m x
 | [],_,_=>rfl
 | (n,v) :: r,m,h=>by
  unfold bindC
  rw [bindC_out fun w hw=>h w (List.mem_cons_of_mem _ hw)]
  split
  · rfl
  · have:x≠n:=by grind
    grind
theorem bindL_get {kindOf:Str->Option NameKind}:∀ {P:List Str}{vs:List Value}{i:Nat}{m:Str->Option Value},P.Nodup->P[i]? = some x->vs[i]? = some v->kindOf x = some .local->
 bindL kindOf (P.zip vs) m x = some v
 | [],_,_,_,_,h,_,_=>by simp at h
 | _ :: _,[],_,_,_,_,h,_=>by simp at h
 | p :: P,w :: vs,0,m,nd,h1,h2,hk=>by
  simp at h1 h2;subst h1;subst h2
  show bindL kindOf ((p,w) :: P.zip vs) m p = _
  unfold bindL
  rw [bindL_out fun v hv=>(List.nodup_cons.mp nd).1 (List.of_mem_zip hv).1,if_pos hk]
  simp
 | p :: P,w :: vs,i + 1,m,nd,h1,h2,hk=>by
  unfold bindL
  exact bindL_get (i:=i) (List.nodup_cons.mp nd).2 (by simpa using h1) (by simpa using h2) hk
theorem bindC_get {kindOf:Str->Option NameKind}:∀ {P:List Str}{vs:List Value}{i:Nat}{m:Str->Option Value},P.Nodup->P[i]? = some x->vs[i]? = some v->kindOf x≠some .local->
 bindC kindOf (P.zip vs) m x = some v
 | [],_,_,_,_,h,_,_=>by simp at h
 | _ :: _,[],_,_,_,_,h,_=>by simp at h
 | p :: P,w :: vs,0,m,nd,h1,h2,hk=>by
  simp at h1 h2;subst h1;subst h2
  show bindC kindOf ((p,w) :: P.zip vs) m p = _
  unfold bindC
  rw [bindC_out fun v hv=>(List.nodup_cons.mp nd).1 (List.of_mem_zip hv).1,if_neg hk]
  simp
 | p :: P,w :: vs,i + 1,m,nd,h1,h2,hk=>by
  unfold bindC
  exact bindC_get (i:=i) (List.nodup_cons.mp nd).2 (by simpa using h1) (by simpa using h2) hk
def start (N:List Str) (vs:List V):St:=vs.map some ++ List.replicate (N.length - vs.length) none
def cxOf (CX:CXT) (P:Program) (w:World) (K:PySem.W.Frag) (mg:Str->Option Value) (base:Heap) (N:List Str) (qual:Str) (scope:Scope) (f:Addr) (cd:Value) (A:Around) (outer:List Env) (s:Shared) (H:Hp) (E:XK):Cx where
 prog:=P
 w:=w
 K:=K
 mg:=mg
 base:=base
 A:=A.deeper (envOfC qual scope s.heap.objs.size f cd)
 N:=N
 s₀:=s
 H₀:=H
 env:=envOfC qual scope s.heap.objs.size f cd
 outer:=outer
 stack:=envOfC qual scope s.heap.objs.size f cd :: outer
 ex:=[]
 calm:=true
 fn:=fun _=>true
 pn:=[]
 xe:=fun e s'=>wpAny (model P w) (A.deeper (envOfC qual scope s.heap.objs.size f cd)) (leaving (envOfC qual scope s.heap.objs.size f cd) e) (fun _ s''=>CX outer H s E e s'') (fun e' s''=>CX outer H s E e' s'') s'
theorem cell_has {sc:Scope} (h:sc.names.lookup x = some .cell):∃ c,(cellsFrom n sc.names []).lookup x = some c:=by
 have q:=PySem.W.cellsFrom_some sc.names n [] (.inl h)
 exact Option.isSome_iff_exists.mp q
theorem inv_start {CX:CXT}{P:Program}{w:World}{K:PySem.W.Frag}{mg:Str->Option Value}{base:Heap}{N ps:List Str}{qual:Str}{scope:Scope}{f:Addr}{cd:Value}{A:Around}{outer:List Env}{s s1:Shared}{H:Hp}{E:XK}{us:List Value}{vs:List V}
 (S:FnScope N ps scope) (hd:A.handled = none) (e0:Env0 P w K mg base A outer s H) (hl:vs.length = ps.length) (r:Vals vs us)
 (x:InCallC s s.heap.objs.size (bindL (envOfC qual scope s.heap.objs.size f cd).kindOf (ps.zip us) fun _=>none) (cellsFrom (s.heap.objs.size + 1) scope.names []) (bindC (envOfC qual scope s.heap.objs.size f cd).kindOf (ps.zip us) fun _=>none) s1):
 Inv (cxOf CX P w K mg base N qual scope f cd A outer s H E) [] (start N vs) H s1:=by
 have hpl:ps.length<=N.length:=by have:=congrArg List.length S.pre;rw [List.length_take] at this;omega
 obtain⟨h1,tk,rfl,hk⟩:=x.done
 have noA:∀ b:Addr,b∉(cxOf CX P w K mg base N qual scope f cd A outer s H E).ex:=fun b z=>absurd (show b∈([]:List Addr) from z) (by simp)
 refine⟨⟨e0.mod,S.kind,rfl,rfl,Nat.le_refl _,fun y z c h1 h2=>?_,fun y hy=>?_,fun y c _ h=>?_,fun _=>hd,Around.frames_deeper e0.frames,.inr ⟨rfl,rfl⟩,fun b z=>absurd z (noA b),e0.bs,e0.bsz,fun b _ _=>noA b,fun b z=>absurd z (noA b),e0.funs,e0.frf⟩,
  rfl,e0.bare,Un.kept hk,⟨_,x.toInCall.ns,fun i y v h1 h2 h3=>?_⟩,fun y c h=>⟨_,x.cell y c h⟩,e0.hok.fresh (Nat.le_refl _),fun y c h=>?_,fun p hp=>absurd (show p∈([]:List (Addr×Obj)) from hp) (by simp),e0.hok.kept hk,?_⟩
 · exact name_of_addr x.apart (PySem.mem_of_lookup h1) (PySem.mem_of_lookup h2)
 · have hy:scope.names.lookup y = some .cell\/scope.names.lookup y = some .free:=hy
   rcases hy with hy | hy
   · exact cell_has hy
   · exact absurd rfl (S.nofree _ (PySem.mem_of_lookup hy))
 · exact Nat.le_of_lt (x.above y c (PySem.mem_of_lookup h))
 · have hi:i < vs.length:=by
    unfold start at h2
    by_cases hi:i < vs.length
    · exact hi
    · rw [List.getElem?_append_right (by simpa using hi)] at h2
      rw [List.getElem?_replicate] at h2
      split at h2 <;> cases h2
   have ha:vs[i]? = some v:=by
    unfold start at h2
    rw [List.getElem?_append_left (by simpa using hi),List.getElem?_map] at h2
    cases e:vs[i]? with
    | none=>rw [e] at h2;cases h2
    | some a=>rw [e] at h2;cases h2;rfl
   obtain⟨u,hu,rv⟩:=r.get ha
   have hp:ps[i]? = some y:=by
    rw [<- S.pre,List.getElem?_take_of_lt (by omega)];exact h1
   have ndP:ps.Nodup:=by rw [<- S.pre];exact S.nd.sublist (List.take_sublist _ _)
   refine⟨u,rv,?_⟩
   rcases S.par y (List.mem_of_getElem? hp) with k | k
   · exact .inl ⟨k,bindL_get ndP hp hu k⟩
   · obtain⟨c,e⟩:=cell_has (n:=s.heap.objs.size + 1) k
     refine .inr ⟨.inl k,c,e,?_⟩
     have q:=x.cell y c e
     rw [bindC_get ndP hp hu (by show scope.names.lookup y≠_;rw [k];decide)] at q
     exact q
 · exact e0.hok.fresh (Nat.le_of_lt (x.above y c (PySem.mem_of_lookup h)))
 · unfold start
   show _ = N.length
   rw [List.length_append,List.length_map,List.length_replicate]
   omega
theorem fn_of {CX:CXT}{P:Program}{w:World}{K:PySem.W.Frag}{mg:Str->Option Value}{base:Heap}{k:Nat}{f:Addr}{name qual:Str}{params:Arguments}{body:List Stmt}{scope:Scope}{dV kV doc pm cdv ct oc:Value}{an od:Option Addr}
 {osl:Array (Option Value)}{N ps:List Str}{sp:Sp} (lk:K.lookup f = some ⟨oc,od,.func (PySem.W.fnOf name qual params body scope dV kV doc pm an cdv ct),osl⟩) (hcd:PySem.W.codeIn K cdv qual = true) (S:FnScope N ps scope)
 (len:∀ vs H Q E,sp vs H Q E->vs.length = ps.length)
 (hbody:∀ (A:Around) (outer:List Env) (s:Shared) (H:Hp) (vs:List V) (Q:VK) (E:XK),Room k (A.deeper (envOfC qual scope s.heap.objs.size f cdv))->sp vs H Q E->
  ∃ t,PSs (cxOf CX P w K mg base N qual scope f cdv A outer s H E) body t/\t { nx:=fun _ H'=>Q .non H',rt:=Q } (start N vs) H):
 FnOk P w K mg base CX (k + 1) f (PySem.W.fnOf name qual params body scope dV kV doc pm an cdv ct) ps sp:=by
 refine⟨len,fun A outer s H args us vs Q E hr e0 hb r hsp=>?_⟩
 have hl:=len _ _ _ _ hsp
 have KX:K.In s.heap:=e0.mod.kin.keeps fun b o e=>(e0.bs b o e).1
 have lim:s.heap.NoLimit:=e0.mod.nolimit.keeps fun b o e=>(e0.bs b o e).1
 have hkind:∀ y∈ps.zip us,scope.names.lookup y.1 = some .local\/(scope.names.lookup y.1 = some .cell/\((cellsFrom (s.heap.objs.size + 1) scope.names []).lookup y.1).isSome = true):=fun⟨n,v⟩ hy=>by
  rcases S.par n (List.of_mem_zip hy).1 with q | q
  · exact .inl q
  · exact .inr ⟨q,PySem.W.cellsFrom_some _ _ _ (.inl q)⟩
 refine codeAny_call_function hr.depth (KX _ _ lk) rfl S.co S.gen rfl (PySem.W.codeRec_of KX hcd) (hb _ _ _ _ ?_)
 refine wpAny_newFunctionEnv_cells S.kind hkind fun env he s1 x=>?_
 subst he
 refine⟨lim.keeps x.toInCall.keep,codeAny_func ?_⟩
 obtain⟨t,ht,hq⟩:=hbody A outer s H vs Q E (hr.deeper _) hsp
 have I:Inv (cxOf CX P w K mg base N qual scope f cdv A outer s H E) [] (start N vs) H s1:=inv_start S hr.hd e0 hl r x
 refine wpAny_mono (ht [] s1 (start N vs) H _ I hq) (fun fl s' hs=>?_) fun e s' hs=>hs
 have fin:∀ {σ':St}{H':Hp}{v:V}{u:Value},Inv (cxOf CX P w K mg base N qual scope f cdv A outer s H E) [] σ' H' s'->RelV v u->Q v H'->CE outer P w H s Q u s':=
  fun {σ' H' v u} J rv q=>⟨v,H',J.os,J.bare,J.base,J.hok,rv,q⟩
 cases fl with
 | ret u=>
  obtain⟨v,σ',H',J,rv,q⟩:=hs
  exact fin J rv q
 | next=>
  obtain⟨σ',H',J,q⟩:=hs
  exact fin (v:=V.non) (u:=Value.none) J rfl q
 | brk=>
  obtain⟨_,_,_,q⟩:=hs
  exact False.elim q
 | cont=>
  obtain⟨_,_,_,q⟩:=hs
  exact False.elim q
section
variable {p pos:Pos}{id T:String}
def tCB (r:List V->Hp->VK->Prop) (t:TA):TE:=fun σ H Q=>t σ H fun vs H1=>r vs H1 Q
theorem pe_callB (hc:CallR X (.builtin id) r) (hg:Gl X x) (hm:X.mg x = none) (hv:bootBuiltins x = some (.builtin id)) (ha:PA X (e :: es) t) (hn:x≠"__name__":=by decide) (hdb:(x == ("__debug__" : Str)) = false:=by decide)
 (he:starEach (e :: es) X.env = (false,eval e X.env) :: starEach es X.env:=by rfl) (hpl:(backTo pos (starEach es X.env)).any (·.1) = false:=by rfl):PE X (.Call (.Name x p) (e :: es) [] pos) (tCB r t):=by
 intro pins s σ H Q I h
 refine wpAny_Call_Name_kw (ld_blt I hg hm hv ?_ hn hdb)
 exact PyProof.Rows.callWith_builtin1 (thn (ha pos pins s σ H _ I h) fun us s1 ⟨vs,H1,I1,r1,q1⟩=>hc pins s1 σ H1 vs us Q I1 r1 q1) he hpl
theorem pe_callTy (hc:CallR X (.type T) r) (hg:Gl X x) (hm:X.mg x = none) (hv:bootBuiltins x = some (.type T)) (ha:PA X (e :: es) t) (hn:x≠"__name__":=by decide) (hdb:(x == ("__debug__" : Str)) = false:=by decide)
 (he:starEach (e :: es) X.env = (false,eval e X.env) :: starEach es X.env:=by rfl) (hpl:(backTo pos (starEach es X.env)).any (·.1) = false:=by rfl):PE X (.Call (.Name x p) (e :: es) [] pos) (tCB r t):=by
 intro pins s σ H Q I h
 refine wpAny_Call_Name_kw (ld_blt I hg hm hv ?_ hn hdb)
 exact PyProof.Rows.callWith_type1 (thn (ha pos pins s σ H _ I h) fun us s1 ⟨vs,H1,I1,r1,q1⟩=>hc pins s1 σ H1 vs us Q I1 r1 q1) he hpl
end
end L2
namespace HT
open PySem PyProof.Rows
def lexLt:List Int->List Int->Bool
 | [],[]=>false
 | [],_ :: _=>true
 | _ :: _,[]=>false
 | x :: xs,y :: ys=>if x = y then lexLt xs ys else decide (x < y)
theorem lexLt_cons (x y:Int) (xs ys:List Int):lexLt (x :: xs) (y :: ys) = if x = y then lexLt xs ys else decide (x < y):=rfl
theorem lexLt_nil_nil:lexLt [] [] = false:=rfl
theorem lexLt_nil_cons (y:Int) (ys:List Int):lexLt [] (y :: ys) = true:=rfl
theorem lexLt_cons_nil (x:Int) (xs:List Int):lexLt (x :: xs) [] = false:=rfl
theorem eqAt_int (A:Around) (s:Shared) (a:Int) (t:Tok) (c:Int) (u:Tok):∃ e,SeqAt.EqAt A s (.int a t) (.int c u) e/\(e = true↔a = c):=
 ⟨_,SeqAt.EqAt.int_int a t c u,by simp⟩
theorem rcLt_int (A:Around) (s:Shared) (a:Int) (t:Tok) (c:Int) (u:Tok) (prog:Program) (w:World) (E:Value->Shared->Prop) (Q:Value->Shared->Prop) (h:Q (.bool (decide (a < c))) s):
 wpAny (model prog w) A (richCompare .Lt (.int a t) (.int c u)) Q E s:=
 (PyProof.Rows.lt_int h:wpAny _ A _ Q E s)
section
open PySem.SeqAt
open PySem.AutoSeq1 (wpAny_loadPart')
open PySem.MeetsSeq PySem.MeetsSeq2 PySem.MeetsSeq3
theorem tuple_lt_ints (l b:Addr) (items items2:Array Value) (n n2:Nat) (dd dd2:Option Addr) (sl sl2:Array (Option Value)) (ns ms:List Int) (hi:IntsAre items.toList ns) (hj:IntsAre items2.toList ms):
 Meets (Builtin.«tuple.__lt__» ⟨[.ref l,.ref b],[]⟩)
  (fun _ R s=>s.heap.get? l = some { cls:=.type "tuple",dict:=dd,data:=.seq items n,slots:=sl }/\s.heap.get? b = some { cls:=.type "tuple",dict:=dd2,data:=.seq items2 n2,slots:=sl2 }/\
   R (.ok (.ret (.bool (lexLt ns ms)))) s):=
 .of_wp fun prog w A R s h=>by
  obtain⟨hp,g,d,tk,os⟩:=s;obtain⟨hl,hb,h⟩:=h
  have f2:=AutoSeq1.sub_tuple_tuple
  have z1:items.size = ns.length:=by rw [<- hi.length];simp
  have z2:items2.size = ms.length:=by rw [<- hj.length];simp
  wp_walk using wpAny_loadPart' hl,wpAny_loadPart' hb,wpAny_forIn_list _ (fun rest b s'=>b.1 = none/\s' = ⟨hp,g,d,tk,os⟩/\∃ (vs ws:List Value) (ns' ms':List Int),rest = vs.zip ws/\
   IntsAre vs ns'/\IntsAre ws ms'/\ns'.length + items2.size = ms'.length + items.size/\R (.ok (.ret (.bool (lexLt ns' ms')))) ⟨hp,g,d,tk,os⟩) _
  case turn=>
   rintro⟨y,x⟩ rest b s' ⟨hb',rfl,vs,ws,ns',ms',hz,hvi,hwi,hlen,hR⟩
   cases hvi with
   | nil=>rw [List.zip_nil_left] at hz;cases hz
   | cons a t hvi'=>
    cases hwi with
    | nil=>rw [List.zip_nil_right] at hz;cases hz
    | cons c u hwi'=>
     rw [List.zip_cons_cons] at hz
     injection hz with hyx hrest
     injection hyx with hy hx
     subst hy hx
     rw [lexLt_cons] at hR
     simp only [List.length_cons] at hlen
     obtain⟨e,he,hiff⟩:=eqAt_int A.in1 ⟨hp,g,d,tk,os⟩ a t c u
     refine wpAny_bind (he prog w _ _ ?_)
     cases e with
     | true=>
      rw [if_pos (hiff.mp rfl)] at hR
      wp_walk
      exact⟨rfl,rfl,_,_,_,_,hrest,hvi',hwi',by omega,hR⟩
     | false=>
      rw [if_neg (fun q=>absurd (hiff.mpr q) Bool.false_ne_true)] at hR
      have hri:=rcLt_int A.in1 ⟨hp,g,d,tk,os⟩ a t c u prog w
      wp_walk using hri
      exact⟨_,rfl,by simpa using hR⟩
  case fin=>
   rintro⟨b1,b2⟩ s' ⟨hb',rfl,vs,ws,ns',ms',hz,hvi,hwi,hlen,hR⟩
   simp only at hb'
   subst hb'
   have hv:lexLt ns' ms' = decide (items.size < items2.size):=by
    cases hvi with
    | nil=>
     cases hwi with
     | nil=>
      simp only [List.length_nil] at hlen
      rw [lexLt_nil_nil]
      exact (decide_eq_false (by omega)).symm
     | cons c u hw=>
      simp only [List.length_nil,List.length_cons] at hlen
      rw [lexLt_nil_cons]
      exact (decide_eq_true (by omega)).symm
    | cons a t hv=>
     cases hwi with
     | nil=>
      simp only [List.length_nil,List.length_cons] at hlen
      rw [lexLt_cons_nil]
      exact (decide_eq_false (by omega)).symm
     | cons c u hw=>
      rw [List.zip_cons_cons] at hz
      cases hz
   rw [hv] at hR
   wp_walk
   exact⟨_,rfl,by simpa [Builtin.Tuple.tupleCompareSizes] using hR⟩
  case h=>
   exact⟨rfl,rfl,items.toList,items2.toList,ns,ms,rfl,hi,hj,by omega,h⟩
end
theorem lt_tupInts (hl:IsTup s.heap l items) (hb:IsTup s.heap b items2) (hi:IntsAre items.toList ns) (hj:IntsAre items2.toList ms)
 (hu:A.units < cLine) (h:Q (.bool (lexLt ns ms)) s):wpAny (model prog w) A (compareOp .Lt (.ref l) (.ref b)) Q E s:=by
 obtain⟨⟨cls,dd,data,sl⟩,ho,hc,n,hd⟩:=id hl
 obtain⟨⟨cls2,dd2,data2,sl2⟩,ho2,hc2,n2,hd2⟩:=id hb
 subst hc hd hc2 hd2
 exact richCompare_meets_room (op:=.Lt) ⟨_,ho,rfl⟩ ⟨_,ho2,rfl⟩ PySem.F.slot_tuple_lt PySem.F.entry_tuple_lt (PySem.F.args_tuple_lt_2 _ _) (tuple_lt_ints l b items items2 n n2 dd dd2 sl sl2 ns ms hi hj)
  ⟨ho,ho2,⟨(fun x=>nomatch x),h⟩⟩ hu
theorem cat_tup {t b:Addr}{vs ws:List Value}{Q:Value->Shared->Prop} (ht:IsTup s.heap t vs.toArray) (hb:IsTup s.heap b ws.toArray) (hv:vs≠[])
 (h1:ws = []->Q (.ref t) s) (h2:ws≠[]->Q (.ref s.heap.objs.size) { s with heap:=s.heap.push { cls:=.type "tuple",data:=.seq (vs ++ ws).toArray } })
 (hsz:vs.length + ws.length<=sizeLine):wpAny (model prog w) A (binaryOp .Add (.ref t) (.ref b)) Q E s:=by
 obtain⟨⟨cls,dd,data,sl⟩,ho,hc,n,hd⟩:=id ht
 obtain⟨⟨cls2,dd2,data2,sl2⟩,ho2,hc2,n2,hd2⟩:=id hb
 simp only at hc hd hc2 hd2
 subst hc hd hc2 hd2
 have e:vs.toArray ++ ws.toArray = (vs ++ ws).toArray:=by simp
 by_cases hw:ws = []
 · exact concat_meets ⟨_,ho,rfl⟩ ⟨_,ho2,rfl⟩ noFill_tuple_add seq_tuple_add PySem.F.slot_tuple_add PySem.F.entry_tuple_add (PySem.F.args_tuple_add_2 _ _)
    (tuple_addW1 t b vs.toArray ws.toArray n n2 dd dd2 sl sl2 (by simpa using hv) (by simp [hw])) ⟨ho,ho2,h1 hw⟩
 · refine concat_meets ⟨_,ho,rfl⟩ ⟨_,ho2,rfl⟩ noFill_tuple_add seq_tuple_add PySem.F.slot_tuple_add PySem.F.entry_tuple_add (PySem.F.args_tuple_add_2 _ _)
    (tuple_addW2 t b vs.toArray ws.toArray n n2 dd dd2 sl sl2 (by simpa using hv) (by simpa using hw) (by rw [List.size_toArray,List.size_toArray];exact hsz)) ⟨ho,ho2,?_⟩
   rw [e]
   exact h2 hw
def sIx (n d:Nat):Option Int->Nat
 | none=>d
 | some v=>if v < 0 then (v + (n:Int)).toNat else min v.toNat n
theorem sIx_none (n d:Nat):sIx n d none = d:=rfl
theorem sIx_nat (n d k:Nat):sIx n d (some (k:Int)) = min k n:=rfl
theorem sIx_le (n d:Nat) (hd:d<=n) (o:Option Int):sIx n d o<=n:=by
 cases o with
 | none=>exact hd
 | some v=>
  show (if v < 0 then (v + (n:Int)).toNat else min v.toNat n)<=n
  grind
theorem clip_eq (v:Int) (n d:Nat):(if v < 0 then max (v + (n:Int)) 0 else min v (n:Int)) = ((sIx n d (some v):Nat):Int):=by
 show _ = (((if v < 0 then (v + (n:Int)).toNat else min v.toNat n):Nat):Int)
 grind
theorem adjust_gen (lo hi:Option Int) (n:Nat):Builtin.Slice.sliceAdjust lo hi 1 (n:Int) = (((sIx n 0 lo:Nat):Int),((sIx n n hi:Nat):Int)):=by
 refine Prod.ext ?_ ?_
 · cases lo with
   | none=>rfl
   | some v=>exact clip_eq v n 0
 · cases hi with
   | none=>rfl
   | some v=>exact clip_eq v n n
theorem places_gen (i j:Nat):Builtin.Slice.slicePlaces (i:Int) (j:Int) 1 = j - i:=by
 unfold Builtin.Slice.slicePlaces
 grind
theorem slicePart_ (p:IsPart v o) (h:Q o s):wpAny (model prog w) A (Builtin.Slice.slicePartIndex v) Q E s:=by
 cases p with
 | none=>exact slicePart_none h
 | int i t=>exact slicePart_int h
theorem sliceApplied_gen {sl:Addr}{lo hi:Option Int}{n:Nat} (hs:s.heap.IsSliceOf sl vl vu .none) (pl:IsPart vl lo) (pu:IsPart vu hi)
 (h:Q (((sIx n 0 lo:Nat):Int),1,sIx n n hi - sIx n 0 lo) s):wpAny (model prog w) A (Builtin.Slice.sliceApplied (.ref sl) (pure (n:Int))) Q E s:=by
 obtain⟨os,hos,hcs,hds⟩:=id hs
 refine wpAny_bind (wpAny_bind (wpAny_field hos hds (x:=vl) rfl (wpAny_bind (wpAny_field hos hds (x:=vu) rfl (wpAny_bind (wpAny_field hos hds (x:=.none) rfl (wpAny_pure ?_)))))))
 refine wpAny_bind (slicePart_none ?_)
 refine wpAny_bind (slicePart_ pl (wpAny_bind (slicePart_ pu (wpAny_bind (wpAny_pure ?_)))))
 show wpAny _ _ (match Builtin.Slice.sliceAdjust lo hi 1 (n:Int) with | (lo,hi)=>pure (lo,(1:Int),Builtin.Slice.slicePlaces lo hi 1)) _ _ s
 rw [adjust_gen lo hi n]
 show wpAny _ _ (pure (((sIx n 0 lo:Nat):Int),(1:Int),Builtin.Slice.slicePlaces ((sIx n 0 lo:Nat):Int) ((sIx n n hi:Nat):Int) 1)) _ _ s
 rw [places_gen]
 exact wpAny_pure h
theorem pick_gen (xs:Array Value) (i k:Nat):((List.range k).filterMap fun (m:Nat)=>xs[((i:Int) + (m:Int) * 1).toNat]?).toArray = ((xs.toList.drop i).take k).toArray:=by
 have e:(fun (m:Nat)=>xs[((i:Int) + (m:Int) * 1).toNat]?) = fun m=>xs[i + m]?:=by grind
 have:=pick_run xs i k
 have e2:(_ ∘ fun x=>i + x) = fun m=>xs[i + m]?:=rfl
 simp_all
theorem getItem_tuple_cut {t sl:Addr}{items:Array Value}{vl vu:Value}{lo hi:Option Int}{Q:Value->Shared->Prop} (ht:IsTup s.heap t items) (hs:s.heap.IsSliceOf sl vl vu .none) (pl:IsPart vl lo) (pu:IsPart vu hi)
 (hw:¬ (sIx items.size 0 lo = 0/\sIx items.size items.size hi = items.size))
 (h:Q (.ref s.heap.objs.size) { s with heap:=s.heap.push { cls:=.type "tuple",data:=.seq ((items.toList.drop (sIx items.size 0 lo)).take (sIx items.size items.size hi - sIx items.size 0 lo)).toArray } })
 (hsz:items.size<=sizeLine):wpAny (model prog w) A (getItem (.ref t) (.ref sl)) Q E s:=by
 have htake:sizeOk (.seq ((items.toList.drop (sIx items.size 0 lo)).take (sIx items.size items.size hi - sIx items.size 0 lo)).toArray):=by
  show ((items.toList.drop (sIx items.size 0 lo)).take (sIx items.size items.size hi - sIx items.size 0 lo)).toArray.size<=sizeLine
  rw [List.size_toArray,List.length_take,List.length_drop,Array.length_toList]
  omega
 have hj:sIx items.size items.size hi<=items.size:=sIx_le _ _ (Nat.le_refl _) hi
 obtain⟨os,hos,hcs,hds⟩:=id hs
 have hTs:s.TypeIs (.ref sl) "slice":=⟨os,hos,hcs⟩
 unfold getItem
 try with_reducible refine wpAny_holding ?_
 first | refine wpAny_bind (wpAny_pure ?_) | skip
 refine wpAny_bind (wpAny_sequenceKey ht.typeIs (by decide) ?_)
 refine wpAny_bind (wpAny_callSpecial?_slot (name:=Str.ofString "__getitem__") ht.typeIs PyProof.Rows.slot_tuple_getitem
  (wpAny_call_entry PyProof.Rows.slot_tuple_getitem ht.typeIs entry_tuple_getitem ?_ (args_tuple_getitem _ _)))
 show wpAny _ _ (Builtin.Tuple.tupleItemsOf (.ref t) >>= _) _ _ s
 refine wpAny_bind (tupleItemsOf_ ht ?_)
 refine wpAny_bind (wpAny_typeOf hTs ?_)
 rw [if_pos (by decide)]
 refine wpAny_bind (sliceApplied_gen hs pl pu ?_)
 have hno:¬ ((((sIx items.size 0 lo:Nat):Int) == 0 && (1:Int) == 1 && (sIx items.size items.size hi - sIx items.size 0 lo) == items.size) = true):=by grind
 show wpAny _ _ (if (((sIx items.size 0 lo:Nat):Int) == 0 && (1:Int) == 1 && (sIx items.size items.size hi - sIx items.size 0 lo) == items.size) = true then _ else _) _ _ s
 rw [if_neg hno,pick_gen]
 first
  | exact wpAny_bind (m:=Builtin.Tuple.tupleExact _) (wpAny_newObj_type (wpAny_pure ⟨_,rfl,wpAny_pure h⟩) htake)
  | exact wpAny_bind (m:=Builtin.Tuple.tupleExact _) (wpAny_newObj_type (wpAny_bind (wpAny_pure (wpAny_pure ⟨_,rfl,wpAny_pure h⟩))) htake)
  | exact wpAny_bind (wpAny_bind (m:=Builtin.Tuple.tupleExact _) (wpAny_newObj_type (wpAny_pure (wpAny_pure ⟨_,rfl,wpAny_pure h⟩)) htake))
  | exact wpAny_bind (wpAny_bind (m:=Builtin.Tuple.tupleExact _) (wpAny_newObj_type (wpAny_pure ⟨_,rfl,wpAny_pure h⟩) htake))
end HT
namespace L2
open PySem PySem.Spec PyProof.Rows
abbrev TO:=St->Hp->(Option Int->Hp->Prop)->Prop
def PO (X:Cx) (e:Option Expr) (t:TO):Prop:=
 ∀ (pins:List (Addr×Obj)) (s:Shared) (σ:St) (H:Hp) (Q:Option Int->Hp->Prop),Inv X pins σ H s->t σ H Q->
  wpAny (model X.prog X.w) X.A (evalPart e X.env) (fun u s'=>∃ o H',Inv X pins σ H' s'/\IsPart u o/\Q o H') X.xe s
def tNoPart:TO:=fun _ H Q=>Q none H
def tPart (t:TE):TO:=fun σ H Q=>t σ H fun x H1=>∃ i,x = .int i/\Q (some i) H1
theorem intsAre_of:∀ {us:List Value},Vals (ns.map V.int) us->IntsAre us ns:=by
 induction ns with
 | nil=>intro us r;cases r;exact .nil
 | cons n ns ih=>
  intro us r
  cases r with
  | cons r1 r2=>
   obtain⟨t,e⟩:=r1
   subst e
   exact .cons n t (ih r2)
section
variable {lo hi:Option Expr}
theorem po_none:PO X none tNoPart:=by
 intro pins s σ H Q I h
 exact wpAny_pure ⟨none,H,I,.none,h⟩
theorem po_some (h:PE X e te):PO X (some e) (tPart te):=by
 intro pins s σ H Q I hw
 refine thn (h pins s σ H _ I hw) fun u s1 ⟨x,H1,I1,r1,q1⟩=>?_
 obtain⟨i,rfl,q⟩:=q1
 obtain⟨t,rfl⟩:=r1
 exact⟨some i,H1,I1,.int i t,q⟩
def SlR (X:Cx) (r:V->Option Int->Option Int->Hp->VK->Prop):Prop:=
 ∀ (pins:List (Addr×Obj)) (s:Shared) (σ:St) (H:Hp) (x:V) (v vl vu:Value) (lo hi:Option Int) (sl:Addr) (Q:VK),Inv X pins σ H s->RelV x v->s.heap.IsSliceOf sl vl vu .none->IsPart vl lo->IsPart vu hi->r x lo hi H Q->
  ∃ T id,typeLookup (.type T) "__getitem__" = pure (some (.builtin id))/\s.TypeIs v T/\wpAny (model X.prog X.w) X.A (getItem v (.ref sl)) (EP X pins σ Q) X.xe s
def tSl (r:V->Option Int->Option Int->Hp->VK->Prop) (te:TE) (tl th:TO):TE:=fun σ H Q=>te σ H fun x H1=>tl σ H1 fun l H2=>th σ H2 fun u H3=>r x l u H3 Q
theorem pe_slice {r:V->Option Int->Option Int->Hp->VK->Prop} (hr:SlR X r) (he:PE X e te) (hl:PO X lo tl) (hu:PO X hi th):PE X (.Subscript e (.Slice lo hi none p2) pos) (tSl r te tl th):=by
 intro pins s σ H Q I h
 refine Subscript_ (thn (he pins s σ H _ I h) fun v s1 ⟨x,H1,I1,r1,q1⟩=>?_)
 refine wpAny_Slice (thn (hl pins s1 σ H1 _ I1 q1) fun vl s2 ⟨l,H2,I2,pl,q2⟩=>thn (hu pins s2 σ H2 _ I2 q2) fun vu s3 ⟨u,H3,I3,pu,q3⟩=>?_)
 rw [evalPart_none]
 refine wpAny_pure ?_
 have I4:Inv X pins σ H3 { s3 with heap:=s3.heap.push { cls:=.type "slice",data:=.fields #[vl,vu,.none] } }:=I3.kept (t':=s3.toks) fun b ob q=>Heap.get?_push_of_some _ q
 obtain⟨T,id,hT,ht,hg⟩:=hr pins { s3 with heap:=s3.heap.push { cls:=.type "slice",data:=.fields #[vl,vu,.none] } } σ H3 x v vl vu l u s3.heap.objs.size Q I4 r1 (Heap.IsSliceOf.new ..) pl pu q3
 show wpAny (model X.prog X.w) X.A (subscriptTail e (.Slice lo hi none p2) v (.ref s3.heap.objs.size)) (EP X pins σ Q) X.xe { s3 with heap:=s3.heap.push { cls:=.type "slice",data:=.fields #[vl,vu,.none] } }
 exact tail_any (ops:=[.ref s3.heap.objs.size,v]) ht hT hg (by with_unfolding_all rfl)
def cutV (xs:List V) (lo hi:Option Int):List V:=(xs.drop (HT.sIx xs.length 0 lo)).take (HT.sIx xs.length xs.length hi - HT.sIx xs.length 0 lo)
theorem cutV_length (xs:List V) (lo hi:Option Int):(cutV xs lo hi).length<=xs.length:=by
 unfold cutV
 simp;omega
def rSlT (K:PySem.W.Frag):V->Option Int->Option Int->Hp->VK->Prop:=fun x lo hi H Q=>∃ a xs,x = .ref a/\SqT K H a xs/\
 ¬ (HT.sIx xs.length 0 lo = 0/\HT.sIx xs.length xs.length hi = xs.length)/\∀ p,H p = none->Q (.ref p) (upd H p (.tup (cutV xs lo hi)))
theorem sl_tup:SlR X (rSlT X.K):=by
 intro pins s σ H x v vl vu lo hi sl Q I rx hs pl pu h
 obtain⟨a,xs,rfl,hx,hw,q⟩:=h
 cases rx
 obtain⟨its,r,ht,hz⟩:=I.tuple hx
 have hlen:its.toArray.size = xs.length:=by exact r.length.symm
 refine⟨"tuple",_,PyProof.Rows.slot_tuple_getitem.lookup,ht.typeIs,?_⟩
 refine HT.getItem_tuple_cut ht hs pl pu (by simp_all) ?_ (by simp_all)
 rw [hlen]
 refine⟨.ref s.heap.objs.size,_,I.laid (fun b ob q=>Heap.get?_push_of_some _ q) (Nat.le_refl _) ?_,rfl,q _ (I.hok.fresh (Nat.le_refl _))⟩
 exact⟨Nat.le_trans (cutV_length xs lo hi) hz,_,(r.drop _).take _,IsTup.new _ _⟩
def rCatT (K:PySem.W.Frag):R2:=fun x y H Q=>∃ a b xs ys,x = .ref a/\y = .ref b/\SqT K H a xs/\SqT K H b ys/\xs≠[]/\xs.length + ys.length<=sizeLine/\
 (ys = []->Q (.ref a) H)/\(ys≠[]->∀ p,H p = none->Q (.ref p) (upd H p (.tup (xs ++ ys))))
theorem Vals.nil_iff (r:Vals xs us):us = []↔xs = []:=by
 cases r with
 | nil=>simp
 | cons _ _=>simp
theorem op_catT:OpR X (binaryOp .Add) (rCatT X.K):=by
 intro pins s σ H x y v u Q I rx ry h
 obtain⟨a,b,xs,ys,rfl,rfl,ha,hb,hx,hz,q1,q2⟩:=h
 cases rx
 cases ry
 obtain⟨its,r1,p1,_⟩:=I.tuple ha
 obtain⟨its2,r2,p2,_⟩:=I.tuple hb
 refine HT.cat_tup p1 p2 (fun z=>hx (r1.nil_iff.mp z)) (fun z=>⟨.ref a,H,I,rfl,q1 (r2.nil_iff.mp z)⟩) (fun z=>?_) (by rw [<- r1.length,<- r2.length];omega)
 refine⟨.ref s.heap.objs.size,_,I.laid (fun b ob q=>Heap.get?_push_of_some _ q) (Nat.le_refl _) ?_,rfl,q2 (fun w=>z (r2.nil_iff.mpr w)) _ (I.hok.fresh (Nat.le_refl _))⟩
 exact⟨by simp_all,_,r1.append r2,IsTup.new _ _⟩
end
def ixN (n:Nat) (i:Int):Option Nat:=if 0<=i then (if i < n then some i.toNat else none) else if -(n:Int)<=i then some (i + n).toNat else none
def atI {α:Type} (xs:List α) (i:Int):Option α:=(ixN xs.length i).bind fun j=>xs[j]?
theorem ixN_seq (h:ixN n i = some j):seqIndex? i n = some j/\j < n/\-(n:Int)<=i/\i < n:=by
 unfold ixN at h
 by_cases h0:0<=i
 · rw [if_pos h0] at h
   by_cases h1:i < n
   · rw [if_pos h1] at h
     have e:i.toNat = j:=Option.some.inj h
     exact⟨by rw [seqIndex_of h0 h1,e],by omega,by omega,h1⟩
   simp_all
 · rw [if_neg h0] at h
   by_cases h1:-(n:Int)<=i
   · rw [if_pos h1] at h
     have e:=Option.some.inj h
     exact⟨by rw [seqIndex_neg (by omega) h1,e],by omega,h1,by omega⟩
   grind
theorem atI_get {v:α} (h:atI xs i = some v):∃ j,seqIndex? i xs.length = some j/\xs[j]? = some v/\j < xs.length/\-(xs.length:Int)<=i/\i < xs.length:=by
 unfold atI at h
 cases e:ixN xs.length i with
 | none=>simp_all
 | some j=>
  obtain⟨h1,h2,h3,h4⟩:=ixN_seq e
  simp_all
theorem atI_nat {j:Nat}{v:α} (h:xs[j]? = some v):atI xs (j:Int) = some v:=by
 have hj:=(List.getElem?_eq_some_iff.mp h).1
 have e:ixN xs.length (j:Int) = some j:=by
  unfold ixN
  simp_all
 unfold atI;grind
theorem atI_last (xs:List α) (v:α):atI (xs ++ [v]) (-1) = some v:=by
 have e:ixN (xs ++ [v]).length (-1) = some xs.length:=by
  unfold ixN
  grind
 unfold atI
 simp_all
def PlainIx (b:Expr):Prop:=∀ o i,subscripted b false o i = operate [o,i] (getItem o i)
def IxR (X:Cx) (r:R2):Prop:=
 ∀ (value slice:Expr) (pins:List (Addr×Obj)) (s:Shared) (σ:St) (H:Hp) (x y:V) (v u:Value) (Q:VK),Inv X pins σ H s->RelV x v->RelV y u->r x y H Q->
  subscripted slice false v u = operate [v,u] (getItem v u)->wpAny (model X.prog X.w) X.A (subscriptTail value slice v u) (EP X pins σ Q) X.xe s
def MtR (X:Cx) (id:String) (r:V->List V->Hp->VK->Prop):Prop:=
 ∀ (pins:List (Addr×Obj)) (s:Shared) (σ:St) (H:Hp) (x:V) (xs:List V) (v:Value) (us:List Value) (Q:VK),Inv X pins σ H s->RelV x v->Vals xs us->r x xs H Q->
  wpAny (model X.prog X.w) X.A (call (.builtin id) (v :: us)) (EP X pins σ Q) X.xe s
section
theorem IxR.or (h:IxR X r) (h':IxR X r'):IxR X (fun x y H Q=>r x y H Q\/r' x y H Q):=by
 intro value slice pins s σ H x y v u Q I rx ry q hs
 rcases q with q | q
 · exact h value slice pins s σ H x y v u Q I rx ry q hs
 · exact h' value slice pins s σ H x y v u Q I rx ry q hs
theorem MtR.or {id:String} (h:MtR X id r) (h':MtR X id r'):MtR X id (fun x xs H Q=>r x xs H Q\/r' x xs H Q):=by
 intro pins s σ H x xs v us Q I rx rs q
 rcases q with q | q
 · exact h pins s σ H x xs v us Q I rx rs q
 · exact h' pins s σ H x xs v us Q I rx rs q
theorem pe_ix {r:R2} (hr:IxR X r) (ha:PE X a ta) (hb:PE X b tb) (hs:PlainIx b):PE X (.Subscript a b pos) (tOp r ta tb):=by
 intro pins s σ H Q I h
 exact Subscript_ (binT ha hb I h fun v u s2 x y H2 I2 rx ry q=>hr a b pins s2 σ H2 x y v u Q I2 rx ry q (hs _ _))
def rIxL (K:PySem.W.Frag):R2:=fun x y H Q=>∃ p xs i v,x = .ref p/\y = .int i/\SqL K H p xs/\atI xs i = some v/\Q v H
def rIxT (K:PySem.W.Frag):R2:=fun x y H Q=>∃ p xs i v,x = .ref p/\y = .int i/\SqT K H p xs/\atI xs i = some v/\Q v H
def rIxS:R2:=fun x y H Q=>∃ z i c,x = .str z/\y = .int i/\z.length<=sizeLine/\atI z.cps.toList i = some c/\Q (.str ⟨#[c]⟩) H
theorem ix_list:IxR X (rIxL X.K):=by
 intro value slice pins s σ H x y v u Q I rx ry h hs
 obtain⟨p,xs,i,z,rfl,rfl,hq,he,q⟩:=h
 cases rx
 obtain⟨t,rfl⟩:=ry
 obtain⟨its,r,pl,hz⟩:=I.list hq
 obtain⟨j,h1,h2,h3,h4,h5⟩:=atI_get he
 obtain⟨w,ew,rw'⟩:=r.get h2
 have hl:=r.length
 have hn:=line63
 have fin:EP X pins σ Q w s:=⟨z,H,I,rw',q⟩
 by_cases h0:0<=i
 · have hj:i.toNat = j:=by
    rw [seqIndex_of h0 h5] at h1
    exact Option.some.inj h1
   exact item_listR pl.isList h0 (by omega) (by rw [hj];simpa using ew) fin hs
 · have hj:(i + (its.toArray.size:Int)).toNat = j:=by
    rw [seqIndex_neg (by omega) h4] at h1
    simp_all
   exact subscriptTail_builtinR (x:=w) pl.isList.typeIs slot_list_getitem.lookup
    (wpAny_getItem_list_neg pl.isList (by omega) (by rw [List.size_toArray] <;> omega) (by omega) (by rw [hj];simpa using ew) ⟨rfl,fin⟩) hs
theorem ix_tup:IxR X (rIxT X.K):=by
 intro value slice pins s σ H x y v u Q I rx ry h hs
 obtain⟨p,xs,i,z,rfl,rfl,hq,he,q⟩:=h
 cases rx
 obtain⟨t,rfl⟩:=ry
 obtain⟨its,r,pl,hz⟩:=I.tuple hq
 obtain⟨j,h1,h2,h3,h4,h5⟩:=atI_get he
 obtain⟨w,ew,rw'⟩:=r.get h2
 have hl:=r.length
 have hn:=line63
 have fin:EP X pins σ Q w s:=⟨z,H,I,rw',q⟩
 exact subscriptTail_builtinR pl.typeIs slot_tuple_getitem.lookup
  (getItem_tuple (j:=j) pl (by omega) (by omega) (by simp_all) (by simp_all) ⟨rfl,fin⟩) hs
theorem ix_str:IxR X rIxS:=by
 intro value slice pins s σ H x y v u Q I rx ry h hs
 obtain⟨z,i,c,rfl,rfl,hz,he,q⟩:=h
 obtain⟨t,rfl⟩:=rx
 obtain⟨t',rfl⟩:=ry
 obtain⟨j,h1,h2,h3,h4,h5⟩:=atI_get he
 have hl:z.cps.toList.length = z.length:=by rfl
 have hn:=line63
 exact tail_any (typeIs_str s z t) slot_str_getitem.lookup (getItem_str (by grind) (by grind) ⟨.str _,H,I.tok _,⟨_,rfl⟩,q⟩) hs
def rIx (K:PySem.W.Frag):R2:=fun x y H Q=>rIxL K x y H Q\/rIxT K x y H Q\/rIxS x y H Q
theorem ix_seq:IxR X (rIx X.K):=ix_list.or (ix_tup.or ix_str)
theorem mapSeq_set (its:List Value) (n j:Nat) (u:Value):Obj.mapSeq (·.setIfInBounds j u) { cls:=.type "list",data:=.seq its.toArray n } = { cls:=.type "list",data:=.seq (its.set j u).toArray n }:=by
 simp [Obj.mapSeq]
theorem Inv.lst {σ:St} (I:Inv X pins σ H s) (h:H p = some (.lst xs)):
 ∃ (its:List Value) (n:Nat),Vals xs its/\s.heap.get? p = some { cls:=.type "list",data:=.seq its.toArray n }/\xs.length<=sizeLine:=by
 obtain⟨z,its,n,r,e⟩:=I.hok p _ h
 exact⟨its,n,r,e,z⟩
theorem Inv.lstUpd {pins:List (Addr×Obj)}{σ:St}{H:Hp}{s:Shared}{p:Addr}{xs ys:List V}{its its':List Value}{n n':Nat}{f:Obj->Obj} (I:Inv X pins σ H s) (h:H p = some (.lst xs))
 (ho:s.heap.get? p = some { cls:=.type "list",data:=.seq its.toArray n }) (hf:f { cls:=.type "list",data:=.seq its.toArray n } = { cls:=.type "list",data:=.seq its'.toArray n' }) (r:Vals ys its') (hz:ys.length<=sizeLine) (t:Nat):
 Inv X pins σ (upd H p (.lst ys)) { s with heap:=s.heap.update p f,toks:=t }:=by
 have e:(s.heap.update p f).get? p = some { cls:=.type "list",data:=.seq its'.toArray n' }:=by
  rw [Heap.get?_update_self f ho (by rw [hf] <;> rfl),hf]
 refine I.write (x:=p) (e:=p) (by rw [h];trivial) (.inl rfl) (fun b u hb q=>(Heap.get?_update_other _ _ (Ne.symm hb)).trans q) ⟨_,e⟩ ?_
 exact⟨hz,its',n',r,e⟩
def rSetL:V->V->V->Hp->(Hp->Prop)->Prop:=fun o i v H Q=>∃ p xs k j,o = .ref p/\i = .int k/\H p = some (.lst xs)/\ixN xs.length k = some j/\Q (upd H p (.lst (xs.set j v)))
theorem set_list:PSet X rSetL:=by
 intro pins s σ H o i v ov iv u Q I ro ri rv h
 obtain⟨p,xs,k,j,rfl,rfl,hp,hj,q⟩:=h
 cases ro
 obtain⟨t,rfl⟩:=ri
 obtain⟨its,n,r,ho,hz⟩:=I.lst hp
 obtain⟨h1,h2,h3,h4⟩:=ixN_seq hj
 have hl:=r.length
 have hn:=line63
 have I':=
  I.lstUpd hp ho (mapSeq_set its n j u) (r.set rv j) (by rw [List.length_set];exact hz) s.toks
 by_cases h0:0<=k
 · have hk:k.toNat = j:=by
    rw [seqIndex_of h0 h4] at h1
    exact Option.some.inj h1
   exact PySem.W.ki_setAt ho h0 (by omega) (by simp_all) (by rw [hk];exact⟨_,I',q⟩)
 · have hk:(k + (its.toArray.size:Int)).toNat = j:=by
    rw [seqIndex_neg (by omega) h3] at h1
    grind
   exact PySem.W.ki_setBack ho (by omega) (by rw [List.size_toArray,<- hl];exact h3) (by omega) (by rw [hk];exact⟨_,I',q⟩)
theorem slice_bounds (lo hi:Option Int) (n:Nat):(sliceBounds lo hi none n).1 = ((HT.sIx n 0 lo:Nat):Int)/\(sliceBounds lo hi none n).2.1 = ((HT.sIx n n hi:Nat):Int)/\(sliceBounds lo hi none n).2.2 = 1:=by
 refine⟨?_,?_,rfl⟩
 · cases lo with
   | none=>rfl
   | some i=>
    simp only [sliceBounds,HT.sIx,Option.getD_none,show (1:Int) > 0 by decide,if_true]
    by_cases h:i < 0
    · simp only [h,if_true] <;> omega
    · simp only [h,if_false] <;> omega
 · cases hi with
   | none=>simp [sliceBounds,HT.sIx]
   | some i=>
    simp only [sliceBounds,HT.sIx,Option.getD_none,show (1:Int) > 0 by decide,if_true]
    by_cases h:i < 0
    · simp only [h,if_true] <;> omega
    · simp only [h,if_false] <;> omega
theorem slicePick_cut (its:List Value) (lo hi:Option Int):slicePick its.toArray lo hi none = ((its.drop (HT.sIx its.length 0 lo)).take (HT.sIx its.length its.length hi - HT.sIx its.length 0 lo)).toArray:=by
 obtain⟨h1,h2,h3⟩:=slice_bounds lo hi its.toArray.size
 unfold slicePick
 rw [h1,h2,h3]
 simp only [sliceRange_one,pick_run,List.size_toArray] <;> rfl
def rSlL (K:PySem.W.Frag):V->Option Int->Option Int->Hp->VK->Prop:=fun x lo hi H Q=>∃ a xs,x = .ref a/\SqL K H a xs/\∀ p,H p = none->Q (.ref p) (upd H p (.lst (cutV xs lo hi)))
theorem sl_list:SlR X (rSlL X.K):=by
 intro pins s σ H x v vl vu lo hi sl Q I rx hs pl pu h
 obtain⟨a,xs,rfl,hx,q⟩:=h
 cases rx
 obtain⟨its,r,ht,hz⟩:=I.list hx
 have hlen:=r.length
 refine⟨"list",_,slot_list_getitem.lookup,ht.isList.typeIs,?_⟩
 refine wpAny_getItem_list_slice ht.isList hs pl pu .none (by simp) ?_ (by grind)
 rw [slicePick_cut,<- hlen]
 refine⟨.ref s.heap.objs.size,_,I.laid (fun b ob q=>Heap.get?_push_of_some _ q) (Nat.le_refl _) ?_,rfl,q _ (I.hok.fresh (Nat.le_refl _))⟩
 exact⟨Nat.le_trans (cutV_length xs lo hi) hz,_,0,(r.drop _).take _,Heap.get?_push_size _ rfl⟩
def flatV:V->Bool
 | .non=>true
 | .bl _=>true
 | .int _=>true
 | .str _=>true
 | _=>false
def eqV:V->V->Bool
 | .non,.non=>true
 | .bl a,.bl b=>a == b
 | .bl a,.int b=>(if a then 1 else 0) == b
 | .int a,.bl b=>a == (if b then 1 else 0)
 | .int a,.int b=>a == b
 | .str a,.str b=>a == b
 | _,_=>false
theorem eqAt_V {A:Around}{s:Shared}{y x:V}{u v:Value} (ry:RelV y u) (rx:RelV x v) (fy:flatV y = true) (fx:flatV x = true):SeqAt.EqAt A s u v (eqV y x):=by
 cases y with
 | non=>
  cases ry
  cases x with
  | non=>cases rx;exact SeqAt.EqAt.same _
  | bl b=>cases rx;exact SeqAt.EqAt.none_bool b
  | int b=>obtain⟨t,rfl⟩:=rx;exact SeqAt.EqAt.none_int b t
  | str b=>obtain⟨t,rfl⟩:=rx;exact SeqAt.EqAt.none_str b t
  | _=>exact absurd (show false = true from fx) Bool.false_ne_true
 | bl a=>
  cases ry
  cases x with
  | non=>cases rx;exact SeqAt.EqAt.bool_none a
  | bl b=>cases rx;exact SeqAt.EqAt.bool_bool a b
  | int b=>obtain⟨t,rfl⟩:=rx;exact SeqAt.EqAt.bool_int a b t
  | str b=>obtain⟨t,rfl⟩:=rx;exact SeqAt.EqAt.bool_str a b t
  | _=>exact absurd (show false = true from fx) Bool.false_ne_true
 | int a=>
  obtain⟨t',rfl⟩:=ry
  cases x with
  | non=>cases rx;exact SeqAt.EqAt.int_none a t'
  | bl b=>cases rx;exact SeqAt.EqAt.int_bool a t' b
  | int b=>obtain⟨t,rfl⟩:=rx;exact SeqAt.EqAt.int_int a t' b t
  | str b=>obtain⟨t,rfl⟩:=rx;exact SeqAt.EqAt.int_str a t' b t
  | _=>exact absurd (show false = true from fx) Bool.false_ne_true
 | str a=>
  obtain⟨t',rfl⟩:=ry
  cases x with
  | non=>cases rx;exact SeqAt.EqAt.str_none a t'
  | bl b=>cases rx;exact SeqAt.EqAt.str_bool a t' b
  | int b=>obtain⟨t,rfl⟩:=rx;exact SeqAt.EqAt.str_int a t' b t
  | str b=>obtain⟨t,rfl⟩:=rx;exact SeqAt.EqAt.str_str a t' b t
  | _=>exact absurd (show false = true from fx) Bool.false_ne_true
 | _=>exact absurd (show false = true from fy) Bool.false_ne_true
def eqU (x:V) (u:Value):Bool:=match u with
 | .none=>eqV .non x
 | .bool b=>eqV (.bl b) x
 | .int i _=>eqV (.int i) x
 | .str z _=>eqV (.str z) x
 | _=>false
theorem eqU_of {x y:V}{u:Value} (r:RelV y u) (f:flatV y = true):eqU x u = eqV y x:=by
 cases y with
 | non=>cases r;rfl
 | bl b=>cases r;rfl
 | int i=>obtain⟨t,rfl⟩:=r;rfl
 | str z=>obtain⟨t,rfl⟩:=r;rfl
 | _=>exact absurd (show false = true from f) Bool.false_ne_true
theorem any_eqU {x:V}:∀ {xs:List V}{us:List Value},Vals xs us->xs.all flatV = true->us.any (eqU x) = xs.any fun y=>eqV y x
 | _,_,.nil,_=>rfl
 | y :: xs,u :: us,.cons r t,f=>by
  rw [List.all_cons,Bool.and_eq_true] at f
  rw [List.any_cons,List.any_cons,eqU_of r f.1,any_eqU t f.2]
theorem mem_eqAt {A:Around}{s:Shared}{x:V}{v:Value} (rx:RelV x v) (fx:flatV x = true):∀ {xs:List V}{us:List Value},Vals xs us->xs.all flatV = true->∀ u∈us,SeqAt.EqAt A s u v (eqU x u)
 | _,_,.nil,_=>fun u hu=>by cases hu
 | y :: xs,u :: us,.cons r t,f=>fun u' hu=>by
  rw [List.all_cons,Bool.and_eq_true] at f
  rcases List.mem_cons.mp hu with rfl | hu
  · rw [eqU_of r f.1];exact eqAt_V r rx f.1 fx
  · exact mem_eqAt rx fx t f.2 u' hu
def inV (x:V) (xs:List V):Bool:=xs.any fun y=>eqV y x
def rIn (K:PySem.W.Frag) (neg:Bool):R2:=fun x y H Q=>∃ p xs,y = .ref p/\(SqL K H p xs\/SqT K H p xs)/\flatV x = true/\xs.all flatV = true/\Q (.bl (if neg then !inV x xs else inV x xs)) H
theorem op_notIn_seq:OpR X (compareOp .NotIn) (rIn X.K true):=by
 intro pins s σ H x y v u Q I rx ry h
 obtain⟨p,xs,rfl,hq,fx,fs,q⟩:=h
 cases ry
 rcases hq with hq | hq
 · obtain⟨its,r,pl,hz⟩:=I.list hq
   refine SeqAt.notIn_listAt (eqU x) pl.isList (fun w hw=>mem_eqAt rx fx r fs w (by simpa using hw)) ⟨.bl _,H,I,rfl,?_⟩
   rw [show its.toArray.any (eqU x) = its.any (eqU x) by simp,any_eqU r fs]
   exact q
 · obtain⟨its,r,pl,hz⟩:=I.tuple hq
   refine SeqAt.notIn_tupleAt (eqU x) pl (fun w hw=>mem_eqAt rx fx r fs w (by simpa using hw)) ⟨.bl _,H,I,rfl,?_⟩
   rw [show its.toArray.any (eqU x) = its.any (eqU x) by simp,any_eqU r fs]
   exact q
theorem call_len_seq:CallR X (.builtin "len") (fun xs H Q=>∃ p ys,xs = [.ref p]/\(SqL X.K H p ys\/SqT X.K H p ys)/\Q (.int ys.length) H):=by
 intro pins s σ H xs us Q I r h
 obtain⟨p,ys,rfl,hq,q⟩:=h
 obtain⟨u,rfl,rx⟩:=vals1 r
 cases rx
 have hn:=line63
 rcases hq with hq | hq
 · obtain⟨its,r',pl,hz⟩:=I.list hq
   have hlen:=r'.length
   exact Calls.call_len_list pl.isList (by simp only [List.size_toArray] <;> omega) ⟨.int ys.length,H,I.tok _,⟨s.toks + 1,by grind⟩,q⟩
 · obtain⟨its,r',pl,hz⟩:=I.tuple hq
   have hlen:=r'.length
   exact len_tuple pl (by simp only [List.size_toArray] <;> omega) ⟨.int ys.length,H,I.tok _,⟨s.toks + 1,by grind⟩,q⟩
theorem call_len_str:CallR X (.builtin "len") (fun xs H Q=>∃ z,xs = [.str z]/\z.length<=sizeLine/\Q (.int z.length) H):=by
 intro pins s σ H xs us Q I r h
 obtain⟨z,rfl,hz,q⟩:=h
 obtain⟨u,rfl,t,rfl⟩:=vals1 r
 have hn:=line63
 exact len_str (by omega) ⟨.int z.length,H,I.tok _,⟨_,rfl⟩,q⟩
theorem CallR.or (h:CallR X f r) (h':CallR X f r'):CallR X f (fun xs H Q=>r xs H Q\/r' xs H Q):=by
 intro pins s σ H xs us Q I rs q
 rcases q with q | q
 · exact h pins s σ H xs us Q I rs q
 · exact h' pins s σ H xs us Q I rs q
theorem call_list_of:CallR X (.type "list") (fun xs H Q=>∃ p ys,xs = [.ref p]/\(SqL X.K H p ys\/SqT X.K H p ys)/\∀ l,H l = none->Q (.ref l) (upd H l (.lst ys))):=by
 intro pins s σ H xs us Q I r h
 obtain⟨p,ys,rfl,hq,q⟩:=h
 obtain⟨u,rfl,rx⟩:=vals1 r
 cases rx
 have fin:∀ (its:List Value),Vals ys its->ys.length<=sizeLine->∀ (h':Heap) (c':Nat),_->
  h'.get? s.heap.objs.size = some { cls:=.type "list",dict:=none,data:=.seq its.toArray c',slots:=#[] }->EP X pins σ Q _ { s with heap:=h' }:=fun its r' hz h' c' kp e=>
  ⟨.ref s.heap.objs.size,_,I.laid (t':=s.toks) kp (Nat.le_refl _) (show ObjOk X.prog X.w _ h' _ (.lst ys) from ⟨hz,its,c',r',e⟩),rfl,q _ (I.hok.fresh (Nat.le_refl _))⟩
 rcases hq with hq | hq
 · obtain⟨its,r',pl,hz⟩:=I.list hq
   have hlen:=r'.length
   obtain⟨o,ho,hc,n,hd⟩:=pl.isList
   exact call_list_seq p (.inl rfl) ho hc hd (fun h' c' kp e=>fin its r' hz h' c' kp e) (by simp_all)
 · obtain⟨its,r',pl,hz⟩:=I.tuple hq
   have hlen:=r'.length
   obtain⟨o,ho,hc,n,hd⟩:=pl
   exact call_list_seq p (.inr rfl) ho hc hd (fun h' c' kp e=>fin its r' hz h' c' kp e) (by simp_all)
theorem call_tuple_of:CallR X (.type "tuple") (fun xs H Q=>∃ p ys,xs = [.ref p]/\((SqL X.K H p ys/\∀ l,H l = none->Q (.ref l) (upd H l (.tup ys)))\/(SqT X.K H p ys/\Q (.ref p) H))):=by
 intro pins s σ H xs us Q I r h
 obtain⟨p,ys,rfl,h⟩:=h
 obtain⟨u,rfl,rx⟩:=vals1 r
 cases rx
 rcases h with ⟨hq,q⟩ | ⟨hq,q⟩
 · obtain⟨its,r',pl,hz⟩:=I.list hq
   have hlen:=r'.length
   refine call_tuple_list pl.isList (fun h' kp=>?_) (by simp_all)
   have I1:=I.kept (t':=s.toks) kp
   have I2:=
    I1.laid (t':=s.toks) (fun b o e=>Heap.get?_push_of_some _ e) (Nat.le_refl _) (show ObjOk X.prog X.w _ _ _ (.tup ys) from ⟨hz,its,r',IsTup.new _ _⟩)
   exact⟨.ref h'.objs.size,_,I2,rfl,q _ (I1.hok.fresh (Nat.le_refl _))⟩
 · obtain⟨its,r',pl,hz⟩:=I.tuple hq
   exact call_tuple_same pl ⟨.ref p,H,I,rfl,q⟩
def tyV (K:PySem.W.Frag) (T:String) (x:V) (H:Hp):Prop:=match x with
 | .str _=>T = "str"
 | .int _=>T = "int"
 | .ref p=>(T = "list"/\∃ xs,SqL K H p xs)\/(T = "tuple"/\∃ o,K.lookup p = some o/\o.cls = .type "tuple"/\o.dict = none)\/
  (T = "dict"/\((∃ kvs,H p = some (.dK kvs))\/∃ kvs,H p = some (.dT kvs)))\/(T = "set"/\∃ S n,H p = some (.set S n))
 | _=>False
theorem tyV_is {σ:St}{H:Hp}{s:Shared}{T:String}{x:V}{v:Value} (I:Inv X pins σ H s) (r:RelV x v) (ty:tyV X.K T x H):
 s.TypeIs v T/\∀ a,v = .ref a->∃ ob,s.heap.get? a = some ob/\ob.dict = none:=by
 cases x with
 | str z=>
  obtain⟨t,rfl⟩:=r
  cases (show T = "str" from ty)
  exact⟨typeIs_str s z t,fun _ e=>nomatch e⟩
 | int i=>
  obtain⟨t,rfl⟩:=r
  cases (show T = "int" from ty)
  exact⟨typeIs_int s i t,fun _ e=>nomatch e⟩
 | ref p=>
  cases r
  rcases ty with ⟨rfl,xs,hq⟩ | ⟨rfl,o,hk,hc,hd⟩ | ⟨rfl,hk⟩ | ⟨rfl,S,n,hk⟩
  · obtain⟨its,_,pl,_⟩:=I.list hq
    refine⟨pl.isList.typeIs,fun a e=>?_⟩
    cases e
    obtain⟨o,n,e,c,hd,_⟩:=pl
    exact⟨o,e,hd⟩
  · refine⟨⟨o,I.kIn p o hk,hc⟩,fun a e=>?_⟩
    cases e
    exact⟨o,I.kIn _ o hk,hd⟩
  · have z:∃ o,s.heap.get? p = some o/\o.ExactDict:=by
     rcases hk with ⟨kvs,hk⟩ | ⟨kvs,hk⟩
     · obtain⟨_,_,_,_,o,_,_,e,ex,_⟩:=I.hok p _ hk
       exact⟨o,e,ex⟩
     · obtain⟨_,_,_,_,o,_,_,e,ex,_⟩:=I.hok p _ hk
       exact⟨o,e,ex⟩
    obtain⟨o,e,ex⟩:=z
    refine⟨⟨o,e,ex.1⟩,fun a e2=>?_⟩
    cases e2
    exact⟨o,e,ex.2.1⟩
  · obtain⟨o,_,_,_,e,ex,_⟩:=I.hok p _ hk
    refine⟨⟨o,e,ex.1⟩,fun a e2=>?_⟩
    cases e2
    exact⟨o,e,ex.2.1⟩
 | _=>exact False.elim ty
def tBM (K:PySem.W.Frag) (T:String) (r:V->List V->Hp->VK->Prop) (to:TE) (t:TA):TE:=fun σ H Q=>to σ H fun x H1=>tyV K T x H1/\t σ H1 fun xs H2=>r x xs H2 Q
variable {apos cpos:Pos}{T id:String}
theorem pe_bm (pa:PlainAttrs T) (slot:Slot T name id) (hty:typeOf (.builtin id) = pure (.type "method_descriptor")) (hm:MtR X id r) (ho:PE X o to) (ha:PA X (e :: es) t)
 (hbase:attributeBase o name X.env (eval o X.env) = eval o X.env:=by rfl)
 (hfew:((backTo cpos (starEach (e :: es) X.env)).all (fun x=>!x.1) && (backToKw cpos (keywordEach [] X.env)).all (fun x=>x.1.isSome)
  && decide ((e :: es).length + ([]:List Keyword).length + (if ([]:List Keyword).isEmpty then 0 else 1) < 30)) = true:=by rfl)
 (hline:(apos.endLine == cpos.line) = true:=by rfl) (hs:starEach (e :: es) X.env = (false,eval e X.env) :: starEach es X.env:=by rfl) (hplain:(backTo cpos (starEach es X.env)).any (·.1) = false:=by rfl):
 PE X (.Call (.Attribute o name apos) (e :: es) [] cpos) (tBM X.K T r to t):=by
 intro pins s σ H Q I h
 refine wpAny_Call_method_late hbase hfew hline rfl (thn (ho pins s σ H _ I h) fun v s1 ⟨x,H1,I1,r1,ty,q1⟩=>?_)
 obtain⟨h1,h2⟩:=tyV_is I1 r1 ty
 refine⟨T,id,pa,slot,hty,h1,h2,?_⟩
 have hA:=ha cpos pins s1 σ H1 _ I1 q1
 rw [hs] at hA ⊢
 refine Calls.callWith_builtin (by show (false || (backTo cpos (starEach es X.env)).any (·.1)) = false;rw [hplain] <;> rfl) (Calls.evalArgs_plain ?_)
 exact thn hA fun us s2 ⟨vs,H2,I2,r2,q2⟩=>hm pins s2 σ H2 x vs v us Q I2 r1 r2 q2
end
def MtM (X:Cx) (id:String) (r:V->List V->Hp->VK->Prop):Prop:=
 ∀ (pins:List (Addr×Obj)) (s:Shared) (σ:St) (H:Hp) (x:V) (xs:List V) (v:Value) (us:List Value) (Q:VK),Inv X pins σ H s->RelV x v->Vals xs us->r x xs H Q->
  wpAny (model X.prog X.w) X.A (call (.builtin id) (v :: us)) (EP X pins σ Q) X.xe s
theorem Vals.one:∀ {x:V}{us:List Value},Vals [x] us->∃ u,us = [u]/\RelV x u
 | _,_,.cons r .nil=>⟨_,rfl,r⟩
section
variable {σ:St}
theorem Inv.lset {its its':List Value} (I:Inv X pins σ H s) (hH:H l = some (.lst xs))
 (e:s.heap.get? l = some { cls:=.type "list",data:=.seq its.toArray n }) (hf:f its.toArray = its'.toArray) (hv:Vals ys its') (hz:ys.length<=sizeLine):
 Inv X pins σ (upd H l (.lst ys)) { s with heap:=s.heap.update l (Obj.mapSeq f),toks:=t' }:=by
 have q:=PySem.IsL.update e f
 rw [hf] at q
 refine I.write (by rw [hH];exact trivial) (.inl rfl) (fun b' u hb hu=>(Heap.get?_update_other s.heap _ (Ne.symm hb)).trans hu) ⟨_,q⟩ ?_
 exact⟨hz,its',_,hv,q⟩
theorem Inv.lnew (I:Inv X pins σ H s) (hv:Vals ys its) (hz:ys.length<=sizeLine):
 Inv X pins σ (upd H s.heap.objs.size (.lst ys)) { s with heap:=s.heap.push { cls:=.type "list",data:=.seq its.toArray },toks:=t' }:=
 I.laid (fun _ _ q=>Heap.get?_push_of_some _ q) (Nat.le_refl _) ⟨hz,its,0,hv,Heap.get?_push_size _ rfl⟩
theorem Inv.fresh (I:Inv X pins σ H s):H s.heap.objs.size = none:=I.hok.fresh (Nat.le_refl _)
theorem Inv.lstM (I:Inv X pins σ H s) (hH:H l = some (.lst xs)):xs.length<=sizeLine/\∃ (its:List Value) (n:Nat),Vals xs its/\xs.length = its.length/\s.heap.get? l = some { cls:=.type "list",data:=.seq its.toArray n }:=by
 obtain⟨z,its,n,r,e⟩:=I.hok l _ hH
 exact⟨z,its,n,r,r.length,e⟩
theorem notLongL (h:n<=sizeLine):Builtin.List.listTooLong n = false:=by
 exact decide_eq_false (by omega)
end
def rAppend:V->List V->Hp->VK->Prop:=fun x vs H Q=>∃ l xs y,x = .ref l/\vs = [y]/\H l = some (.lst xs)/\xs.length < sizeLine/\Q .non (upd H l (.lst (xs ++ [y])))
theorem mt_append:MtM X "list.append" rAppend:=by
 intro pins s σ H x vs v us Q I rx rv h
 obtain⟨l,xs,y,rfl,rfl,hH,hz,q⟩:=h
 cases rx
 obtain⟨u,rfl,ru⟩:=rv.one
 obtain⟨z,its,n,r,hl,e⟩:=I.lstM hH
 refine call_meets F.slot_list_append ⟨_,e,rfl⟩ F.entry_list_append (F.args_list_append_2 _ _) (PySem.list_append l its.toArray n u (by grind)) ⟨e,?_⟩
 refine⟨.non,_,I.lset hH e (by simp) (r.append (.cons ru .nil)) ?_,rfl,q⟩
 grind
def rExtend:V->List V->Hp->VK->Prop:=fun x vs H Q=>∃ l b xs zs,x = .ref l/\vs = [.ref b]/\H l = some (.lst xs)/\H b = some (.lst zs)/\xs.length + zs.length<=sizeLine/\Q .non (upd H l (.lst (xs ++ zs)))
theorem mt_extend:MtM X "list.extend" rExtend:=by
 intro pins s σ H x vs v us Q I rx rv h
 obtain⟨l,b,xs,zs,rfl,rfl,hH,hB,hz,q⟩:=h
 cases rx
 obtain⟨u,rfl,ru⟩:=rv.one
 cases ru
 obtain⟨z,its,n,r,hl,e⟩:=I.lstM hH
 obtain⟨z2,its2,n2,r2,hl2,e2⟩:=I.lstM hB
 have hsz:its.toArray.size + its2.toArray.size<=sizeLine:=by grind
 have hlong:¬ (!its.toArray.isEmpty && Builtin.List.listTooLong (its.toArray.size + its2.toArray.size)) = true:=by
  rw [notLongL hsz,Bool.and_false]
  simp
 refine call_meets F.slot_list_extend ⟨_,e,rfl⟩ F.entry_list_extend (F.args_list_extend_2 _ _)
  (AutoSeq1.list_extend_list_list_0 l its.toArray n b its2.toArray n2 hlong (by omega) (by omega)) ⟨e,e2,?_⟩
 refine⟨.non,_,I.lset hH e (by simp) (r.append r2) ?_,rfl,q⟩
 grind
def rCat:R2:=fun x y H Q=>∃ l b xs zs,x = .ref l/\y = .ref b/\H l = some (.lst xs)/\H b = some (.lst zs)/\xs.length + zs.length<=sizeLine/\∀ p,H p = none->Q (.ref p) (upd H p (.lst (xs ++ zs)))
theorem op_cat:OpR X (binaryOp .Add) rCat:=by
 intro pins s σ H x y v u Q I rx ry h
 obtain⟨l,b,xs,zs,rfl,rfl,hH,hB,hz,q⟩:=h
 cases rx
 cases ry
 obtain⟨z,its,n,r,hl,e⟩:=I.lstM hH
 obtain⟨z2,its2,n2,r2,hl2,e2⟩:=I.lstM hB
 refine PySem.P.add_list e e2 ?_ (by simp_all)
 have ea:its.toArray ++ its2.toArray = (its ++ its2).toArray:=by simp
 rw [ea]
 exact⟨.ref _,_,I.lnew (r.append r2) (by simp_all),rfl,q _ I.fresh⟩
end L2
namespace Att
open PySem PySem.W PySem.Calls PyProof.Rows
theorem ints_of_wellAll:∀ (ns:List Int) (vs:List Value),WellAll P h vs (ns.map WData.int)->IntsAre vs ns:=by
 intro ns
 induction ns with
 | nil=>
  intro vs w
  cases w
  exact .nil
 | cons n ns ih=>
  intro vs w
  cases w with
  | cons a b=>
   cases a
   exact .cons _ _ (ih _ b)
theorem script_of {l:OpenLaw}{n:Nat} (hn:l.most = some n) {P:Params}{h:Heap}{args:List WData}{vals:List Value}
 (hpre:l.row.toRowW.claim.pre args = true) (hwl:WellAll P h vals args):
 ∃ a vs ns,vals = [Value.ref a]/\args = [WData.list (ns.map WData.int)]/\h.get? a = some { cls:=.type "list",data:=.seq vs.toArray }/\IntsAre vs ns/\ns.length<=n:=by
 have hsh:=(pre_splitW hpre).1
 have hc:=(pre_splitW hpre).2
 obtain⟨d,r,rfl,h1,h2⟩:=hasAllW_cons hsh
 obtain rfl:=hasAllW_nil h2
 obtain⟨xs,rfl,h3⟩:=hasW_list h1
 obtain⟨ns,rfl⟩:=items_int h3
 have hlen:ns.length<=n:=by
  have h4:=by
   have h4:=(holds_andW hc).1
   rw [hn] at h4
   exact h4
  have h5:=condW_of h4 (w_not (w_lt w_lit (w_len_list (w_arg rfl))))
  simp_all
 cases hwl with
 | cons w1 w2=>
  cases w2
  cases w1 with
  | list ho hall=>exact⟨_,_,ns,rfl,rfl,ho,ints_of_wellAll ns _ hall,hlen⟩
theorem post_true (l:OpenLaw) (args:List WData):l.row.toRowW.claim.post args (.bool true) args = true:=
 postW_of
  (by rfl)
  (w_eq_bool (w_res rfl) w_lit) rfl
end Att
namespace L2
open PySem PySem.Spec PyProof.Rows
theorem vals_ints:∀ {vs:List Value}{ns:List Int},IntsAre vs ns->Vals (ns.map V.int) vs
 | _,_,.nil=>.nil
 | _,_,.cons n t h=>.cons ⟨t,rfl⟩ (vals_ints h)
def Only (H:Hp):Prop:=∀ b,H b = none\/∃ o xs,H b = some (.frz o (.lst xs))
theorem law_call {P:Program}{w:World}{K:PySem.W.Frag}{mg mb:Str->Option Value}{CX:CXT}{k:Nat}{fa a:Addr}{fd:FuncData}{x:Str}{sp:Sp}{s₁:Shared}{vs:List Value}{ns:List Int}
 (KX:K.In s₁.heap) (hns:s₁.heap.Ns mainGlobals mg) (hb:s₁.heap.Ns builtinsNs mb) (hbb:∀ x:Str,x≠"__name__"->mb x = bootBuiltins x) (hlim:s₁.heap.NoLimit) (hg:s₁.gens = #[])
 (ha:s₁.heap.get? a = some { cls:=.type "list",data:=.seq vs.toArray }) (hi:IntsAre vs ns) (hl:ns.length<=sizeLine) (hr:Room k callerA)
 (F:∀ base:Heap,K.In base->base.Ns mainGlobals mg->FnOk P w K mg base CX k fa fd [x] sp) (hbind:∀ (s:Shared) (u:Value),BindsTo s fd ⟨[u],[]⟩ [(x,u)])
 (hsp:∀ H:Hp,Only H->SqL K H a (ns.map V.int)->sp [.ref a] H (fun v _=>v = .bl true) fun _ _ _=>False)
 (hCX:∀ H e s',CX [] H s₁ (fun _ _ _=>False) e s'->False):
 codeAny (model P w) callerA (.call (.ref fa) ⟨[.ref a],[]⟩) (fun r s'=>r = .ok (.ret (.bool true))/\OldK s₁.heap s'.heap/\s'.os = s₁.os/\AllBare s'.gens) s₁:=by
 have rv:=vals_ints hi
 have lenV:=hi.length
 -- from an abstract heap in which nothing but the script may be tracked
 have core:∀ H:Hp,Only H->SqL K H a (ns.map V.int)->HOk P w H s₁.heap->(∀ b,H b≠none->b = a)->(H a≠none->K.lookup a = none)->
  codeAny (model P w) callerA (.call (.ref fa) ⟨[.ref a],[]⟩) (fun r s'=>r = .ok (.ret (.bool true))/\OldK s₁.heap s'.heap/\s'.os = s₁.os/\AllBare s'.gens) s₁:=by
  intro H hO hS hok hA hK
  have base_of:∀ {b:Addr}{o:Obj},s₁.heap.get? b = some o->H b = none->(hidT s₁.heap H).get? b = some o:=fun e n=>hidT_get e n
  have noA:∀ {b:Addr}{o:Obj}{es:Array DictEntry}{ep:Nat},s₁.heap.get? b = some o->o.data = .dict es ep->H b = none:=fun {b o es ep} e d=>by
   cases q:H b with
   | none=>rfl
   | some u=>
    have e':b = a:=hA b (by rw [q];simp)
    subst e'
    rw [ha] at e;cases e
    have d':Data.seq vs.toArray _ = Data.dict es ep:=d
    cases d'
  have nsK:∀ {b:Addr}{m:Str->Option Value},s₁.heap.Ns b m->(hidT s₁.heap H).Ns b m:=fun {b m} ⟨o,es,ep,e,d,r⟩=>⟨o,es,ep,base_of e (noA e d),d,r⟩
  have hKb:K.In (hidT s₁.heap H):=fun b o e=>base_of (KX b o e) (by
   cases q:H b with
   | none=>rfl
   | some u=>
    have e':b = a:=hA b (by rw [q];simp)
    subst e'
    rw [hK (by rw [q];simp)] at e;cases e)
  have hM:Mod K mg (hidT s₁.heap H):=⟨hKb,nsK hns,⟨mb,nsK hb,hbb⟩,let ⟨mc,h1,h2⟩:=hlim;⟨mc,nsK h1,h2⟩⟩
  have e0:Env0 P w K mg (hidT s₁.heap H) callerA [] s₁ H:=⟨rfl,hM,fun b o e=>of_hidT e,Nat.le_of_eq (hidT_size _ _),trivial,fun b hb=>absurd (show b∈([]:List Addr) from hb) (by simp),hok,.of_eq hg⟩
  refine codeAny_mono ((F _ hKb (nsK hns)).run callerA [] s₁ H ⟨[.ref a],[]⟩ [.ref a] [.ref a] _ _ hr e0 (hbind s₁ (.ref a)) (.cons rfl .nil) (hsp H hO hS)) fun r s' h=>?_
  cases r with
  | error e=>exact (hCX H e s' h).elim
  | ok fl=>
   cases fl with
   | next=>exact False.elim h
   | brk=>exact False.elim h
   | cont=>exact False.elim h
   | ret u=>
    obtain⟨v,H',os,bare,un,hok',r',q⟩:=h
    have q':v = .bl true:=q
    subst q'
    obtain rfl:u = Value.bool true:=r'
    refine⟨rfl,OldK.of_keep fun b o e=>?_,os,bare⟩
    cases q:H b with
    | none=>exact un.keep b o e q (by intro z;exact absurd (show b∈([]:List Addr) from z) (by simp)) (by simp)
    | some u=>
     rcases hO b with z | ⟨ob,xs,z⟩
     · rw [q] at z;cases z
     · have z2:=un.frzs b ob _ z
       obtain⟨e1,_⟩:=hok b _ z
       obtain⟨e2,_⟩:=hok' b _ z2
       rw [e] at e1;cases e1
       exact e2
 cases hk:K.lookup a with
 | some o=>
  -- the script is one of the module's own objects
  have e:=KX a o hk
  rw [ha] at e
  cases e
  refine core (fun _=>none) (fun _=>.inl rfl) (.inr ⟨_,vs.toArray,_,hk,rfl,rfl,rfl,by rw [List.size_toArray,lenV];exact hl,by simpa using rv⟩) (fun b u z=>by have z':(none:Option HO) = some u:=z;cases z') (fun b z=>absurd rfl z) fun z=>absurd rfl z
 | none=>
  refine core (fun b=>if b = a then some (.frz { cls:=.type "list",data:=.seq vs.toArray } (.lst (ns.map V.int))) else none) (fun b=>?_) (.inl (.inr ⟨{ cls:=.type "list",data:=.seq vs.toArray },if_pos rfl⟩)) (fun b u z=>?_) (fun b z=>?_) fun _=>hk
  · by_cases hb:b = a
    · exact .inr ⟨_,_,if_pos hb⟩
    · exact .inl (if_neg hb)
  · by_cases hb:b = a
    · have z':=(if_pos hb).symm.trans z
      cases z'
      subst hb
      exact⟨ha,by rw [List.length_map];exact hl,vs,_,rv,ha⟩
    · have z':=(if_neg hb).symm.trans z
      cases z'
  · by_cases hb:b = a
    · exact hb
    · exact absurd (if_neg hb) z
def inClass (s:Stmt) (j:Nat):Stmt:=match s with
 | .ClassDef _ _ _ body _ _ _ _ _ _ _=>body.getD j (.Pass ⟨0,0,0,0⟩)
 | _=>.Pass ⟨0,0,0,0⟩
def defArgs (s:Stmt):Arguments:=match s with
 | .FunctionDef _ a _ _ _ _ _ _ _ _=>a
 | _=>{ posonlyargs:=[],args:=[],vararg:=none,kwonlyargs:=[],kw_defaults:=[],kwarg:=none,defaults:=[] }
def defBody (s:Stmt):List Stmt:=match s with
 | .FunctionDef _ _ b _ _ _ _ _ _ _=>b
 | _=>[]
def defScope (s:Stmt):Scope:=match s with
 | .FunctionDef _ _ _ _ _ _ sc _ _ _=>sc
 | _=>{ kind:=.function,names:=[],isGenerator:=false,isCoroutine:=false }
abbrev CX0:CXT:=fun _ _ _ _ _ _=>False
abbrev E0:XK:=fun _ _ _=>False
theorem pass0:Passes CX0 X E0:=fun _ _ _ _ _ _ _ h=>h.elim
structure Fun (K:PySem.W.Frag) (x qual:Str) (st:Stmt) (f:Addr) (fd:FuncData):Prop where
 ex:∃ (oc:Value) (od:Option Addr) (kV doc pm:Value) (an:Option Addr) (cdv ct:Value) (osl:Array (Option Value)),
  fd = PySem.W.fnOf x qual (defArgs st) (defBody st) (defScope st) .none kV doc pm an cdv ct/\K.lookup f = some ⟨oc,od,.func fd,osl⟩/\PySem.W.codeIn K cdv qual = true
 kp:PySem.W.keepIn K (.ref f) = true
section
variable {K:PySem.W.Frag}
theorem Fun.ok {x qual:Str}{st:Stmt}{f:Addr}{fd:FuncData}{N ps:List Str}{k:Nat}{sp:Sp} (F:Fun K x qual st f fd) (S:FnScope N ps (defScope st)) (len:∀ vs H Q E,sp vs H Q E->vs.length = ps.length)
 (hbody:∀ (cdv:Value) (A:Around) (outer:List Env) (s:Shared) (H:Hp) (vs:List V) (Q:VK) (E:XK),Room k (A.deeper (envOfC qual (defScope st) s.heap.objs.size f cdv))->sp vs H Q E->
  ∃ t,PSs (cxOf CX0 P w K mg base N qual (defScope st) f cdv A outer s H E).nox (defBody st) t/\t { nx:=fun _ H'=>Q .non H',rt:=Q } (start N vs) H):FnOk P w K mg base CX0 (k + 1) f fd ps sp:=by
 obtain⟨oc,od,kV,doc,pm,an,cdv,ct,osl,rfl,lk,hcd⟩:=F.ex
 refine fn_of lk hcd S len fun A outer s H vs Q E hr hsp=>?_
 obtain⟨t,h,q⟩:=hbody cdv A outer s H vs Q E hr hsp
 exact⟨t,h.nox,q⟩
theorem Fun.binds {x qual:Str}{st:Stmt}{f:Addr}{fd:FuncData}{ps:List Str} (F:Fun K x qual st f fd)
 (h:∀ (kV doc pm:Value) (an:Option Addr) (cdv ct:Value) (us:List Value),us.length = ps.length->bindArgs (PySem.W.fnOf x qual (defArgs st) (defBody st) (defScope st) .none kV doc pm an cdv ct) ⟨us,[]⟩ = pure (ps.zip us)):Binds K fd ps []:=by
 obtain⟨oc,od,kV,doc,pm,an,cdv,ct,osl,rfl,lk,hcd⟩:=F.ex
 exact .all (h kV doc pm an cdv ct)
theorem fun_mk {st:Stmt}{kV doc pm cdv ct:Value} (l:K.lookup f = some ⟨oc,od,.func (PySem.W.fnOf x qual (defArgs st) (defBody st) (defScope st) .none kV doc pm an cdv ct),osl⟩)
 (c:PySem.W.codeIn K cdv qual = true) (k:PySem.W.keepIn K (.ref f) = true):Fun K x qual st f (PySem.W.fnOf x qual (defArgs st) (defBody st) (defScope st) .none kV doc pm an cdv ct):=⟨⟨oc,od,kV,doc,pm,an,cdv,ct,osl,rfl,l,c⟩,k⟩
end
theorem iteF {A B:Prop} (h:B):if false = true then A else B:=by simp_all
theorem iteT {A B:Prop} (h:A):if true = true then A else B:=by simp_all
theorem ite2 {c A B:Prop} [Decidable c] (h1:c->A) (h2:¬ c->B):if c then A else B:=by simp_all
def Same (H H':Hp):Prop:=∀ b o,H b = some o->H' b = some o
theorem Same.refl (H:Hp):Same H H:=fun _ _ h=>h
theorem Same.trans (a:Same H H1) (b:Same H1 H2):Same H H2:=fun c o h=>b c o (a c o h)
section
variable {κ:Type} [DecidableEq κ]
def valV (kvs:List (κ×V)) (k:κ):Option V:=(kvs.find? fun kv=>decide (kv.1 = k)).map (·.2)
def putK (kvs:List (κ×V)) (k:κ) (v:V):List (κ×V):=
 if (kvs.any fun kv=>decide (kv.1 = k)) = true then kvs.map (fun kv=>if kv.1 = k then (kv.1,v) else kv) else kvs ++ [(k,v)]
theorem valV_pos {k:κ} (e:p.1 = k):valV (p :: r) k = some p.2:=by simp [valV,List.find?_cons,e]
theorem valV_neg {k:κ} (e:¬ p.1 = k):valV (p :: r) k = valV r k:=by simp [valV,List.find?_cons,e]
theorem valV_any (k:κ):∀ kvs:List (κ×V),(kvs.any fun kv=>decide (kv.1 = k)) = (valV kvs k).isSome
 | []=>rfl
 | p :: r=>by
  rw [List.any_cons]
  by_cases e:p.1 = k
  · simp only [valV_pos e,decide_eq_true e,Bool.true_or,Option.isSome_some]
  · rw [valV_neg e,decide_eq_false e,Bool.false_or];exact valV_any k r
theorem valV_map (k j:κ) (y:V):∀ kvs:List (κ×V),valV (kvs.map fun kv=>if kv.1 = k then (kv.1,y) else kv) j = (valV kvs j).map fun x=>if j = k then y else x
 | []=>rfl
 | p :: r=>by
  have ih:=valV_map k j y r
  rw [List.map_cons]
  by_cases h:p.1 = k
  · rw [if_pos h]
    by_cases e:p.1 = j
    · rw [valV_pos (p:=(p.1,y)) e,valV_pos e,Option.map_some,if_pos (e.symm.trans h)]
    · rw [valV_neg (p:=(p.1,y)) e,valV_neg e,ih]
  · rw [if_neg h]
    by_cases e:p.1 = j
    · rw [valV_pos e,valV_pos e,Option.map_some,if_neg (fun z=>h (e.trans z))]
    · rw [valV_neg e,valV_neg e,ih]
theorem valV_snoc (k j:κ) (y:V):∀ kvs:List (κ×V),valV kvs k = none->valV (kvs ++ [(k,y)]) j = if j = k then some y else valV kvs j
 | [],_=>by
  by_cases e:k = j
  · rw [if_pos e.symm];exact valV_pos e
  · rw [if_neg (fun z=>e z.symm)];exact valV_neg e
 | p :: r,hn=>by
  rw [List.cons_append]
  have hk:¬ p.1 = k:=fun z=>by rw [valV_pos z] at hn;grind
  rw [valV_neg hk] at hn
  have ih:=valV_snoc k j y r hn
  by_cases e:p.1 = j
  · rw [valV_pos e,valV_pos e,if_neg (fun z=>hk (e.trans z))]
  · rw [valV_neg e,valV_neg e,ih]
theorem valV_put (kvs:List (κ×V)) (k j:κ) (y:V):valV (putK kvs k y) j = if j = k then some y else valV kvs j:=by
 unfold putK
 by_cases a:(kvs.any fun kv=>decide (kv.1 = k)) = true
 · rw [if_pos a,valV_map]
   rw [valV_any] at a
   by_cases e:j = k
   · obtain⟨x,hx⟩:=Option.isSome_iff_exists.mp a
     grind
   simp_all
 · rw [if_neg a]
   refine valV_snoc k j y kvs ?_
   rw [valV_any] at a
   simp_all
theorem length_putK (kvs:List (κ×V)) (k:κ) (v:V):(putK kvs k v).length<=kvs.length + 1:=by
 unfold putK
 grind
theorem RelO.isSome_eq (r:RelO o u):o.isSome = u.isSome:=by
 cases o with
 | none=>cases u with
  | none=>rfl
  | some _=>exact (r).elim
 | some _=>cases u with
  | none=>exact (r).elim
  | some _=>rfl
theorem RelO.getD (r:RelO o u) (rd:RelV d d'):RelV (o.getD d) (u.getD d'):=by
 cases o with
 | none=>cases u with
  | none=>exact rd
  | some _=>exact (r).elim
 | some _=>cases u with
  | none=>exact (r).elim
  | some _=>exact r
theorem KV.val {kvs:List (κ×V)}{vs:List (κ×Value)} (r:KV kvs vs) (k:κ):RelO (valV kvs k) (valueAt vs k):=by
 unfold KV at r
 induction r with
 | nil=>exact True.intro
 | @cons p q ps qs h t ih=>
  obtain⟨h1,h2⟩:=h
  by_cases e:p.1 = k
  · have e':q.1 = k:=h1.symm.trans e
    have b:valueAt (q :: qs) k = some q.2:=by simp [valueAt,List.find?_cons,e']
    rw [valV_pos e,b];exact h2
  · have e':¬ q.1 = k:=fun z=>e (h1.trans z)
    have b:valueAt (q :: qs) k = valueAt qs k:=by simp [valueAt,List.find?_cons,e']
    rw [valV_neg e,b];exact ih
theorem KV.any (r:KV kvs vs) (k:κ):(kvs.any fun kv=>decide (kv.1 = k)) = vs.any fun kv=>decide (kv.1 = k):=by
 induction r with
 | nil=>rfl
 | cons h t ih=>simp_all
theorem KV.repl (r:KV kvs vs) (k:κ) (ry:RelV y u):
 KV (kvs.map fun kv=>if kv.1 = k then (kv.1,y) else kv) (vs.map fun kv=>if kv.1 = k then (kv.1,u) else kv):=by
 induction r with
 | nil=>exact .nil
 | @cons p q ps qs h t ih=>
  refine .cons ?_ ih
  by_cases e:p.1 = k
  · simp_all
  simp_all
theorem KV.put (r:KV kvs vs) (k:κ) (ry:RelV y u):KV (putK kvs k y) (stored vs k u):=by
 unfold putK stored
 rw [r.any k]
 by_cases e:(vs.any fun kv=>decide (kv.1 = k)) = true
 · rw [if_pos e,if_pos e];exact r.repl k ry
 · rw [if_neg e,if_neg e];exact Paired.snoc r ⟨rfl,ry⟩
theorem KV.length {kvs:List (κ×V)} (r:KV kvs vs):kvs.length = vs.length:=Paired.length r
end
theorem kV_is (r:RelV (kV k) u):(mixKind P w).is k u = true:=by
 cases k with
 | inl i=>obtain⟨t,e⟩:=(r);subst e;exact mixKind_int P w i t
 | inr x=>obtain⟨t,e⟩:=(r);subst e;exact mixKind_str P w x t
theorem items_are:∀ {ks:List Key}{us:List Value},Vals (ks.map kV) us->ItemsAre (mixKind P w) ks us
 | [],_,r=>by cases r;exact .nil
 | k :: ks,_,r=>by
  cases r with
  | cons h t=>exact .cons (kV_is h) (items_are t)
abbrev KT (H:Hp):List (List Key×V)->List (List Key×Addr×Value)->Prop:=Paired fun p q=>p.1 = q.1/\H q.2.1 = some (.tup (p.1.map kV))/\RelV p.2 q.2.2
theorem KT.val (r:KT H kvs xs) (k:List Key):RelO (valV kvs k) ((atKey xs k).map (·.2)):=by
 induction r with
 | nil=>exact True.intro
 | @cons p q ps qs h t ih=>
  obtain⟨h1,_,h2⟩:=h
  by_cases e:p.1 = k
  · have e':=h1.symm.trans e
    have b:atKey (q :: qs) k = some q.2:=by simp [atKey,List.find?_cons,e']
    rw [valV_pos e,b];exact h2
  · have e':¬ q.1 = k:=fun z=>e (h1.trans z)
    have b:atKey (q :: qs) k = atKey qs k:=by simp [atKey,List.find?_cons,e']
    rw [valV_neg e,b];omega
theorem KT.repl (r:KT H kvs xs) (k:List Key) (ry:RelV y u):
 KT H (kvs.map fun kv=>if kv.1 = k then (kv.1,y) else kv) (xs.map (putAt k u)):=by
 induction r with
 | nil=>exact .nil
 | @cons p q ps qs h t ih=>
  rw [List.map_cons,List.map_cons]
  refine .cons ?_ ih
  obtain⟨h1,h2,h3⟩:=h
  unfold putAt
  by_cases e:p.1 = k
  · rw [if_pos e,if_pos (h1.symm.trans e)];exact⟨h1,h2,ry⟩
  · rw [if_neg e,if_neg (fun z=>e (h1.trans z))];simp_all
theorem KT.put (r:KT H kvs xs) (k:List Key) (hb:H b = some (.tup (k.map kV))) (ry:RelV y u):
 KT H (putK kvs k y) (storedH xs k b u):=by
 have e:(kvs.any fun kv=>decide (kv.1 = k)) = (atKey xs k).isSome:=by
  rw [valV_any,(r.val k).isSome_eq,Option.isSome_map]
 unfold putK storedH
 rw [e]
 by_cases q:(atKey xs k).isSome = true
 · rw [if_pos q,if_pos q];exact r.repl k ry
 · rw [if_neg q,if_neg q];exact Paired.snoc r ⟨rfl,hb,ry⟩
theorem KT.keeps (r:KT H kvs xs) (ht:∀ b ys,H b = some (.tup ys)->H' b = some (.tup ys)):KT H' kvs xs:=
 Paired.mapP r fun _ _ z=>⟨z.1,ht _ _ z.2.1,z.2.2⟩
theorem rd_of (ok:HOk P w H h) (e:Rd H a u):ObjOk P w H h a u:=e.ok ok
theorem dk_rd (ok:HOk P w H h) (e:Rd H a (.dK kvs)):kvs.length<=sizeLine/\(a == sysModules) = false/\∃ vs,KV kvs vs/\h.DictOf (mixKind P w) a vs:=
 rd_of ok e
theorem dk_of (ok:HOk P w H h) (e:H a = some (.dK kvs)):kvs.length<=sizeLine/\(a == sysModules) = false/\∃ vs,KV kvs vs/\h.DictOf (mixKind P w) a vs:=dk_rd ok (.inl e)
theorem key_of {ks:List Key} (ok:HOk P w H h) (e:H a = some (.tup (ks.map kV))):(tupleKind (mixKind P w)).is h ks a:=by
 obtain⟨_,its,r,o,h1,h2,n,h3⟩:=(show ObjOk P w H h a (.tup (ks.map kV)) from ok a _ e)
 exact⟨o,its.toArray,n,h1,h2,h3,by simpa using items_are r⟩
theorem dt_rd (ok:HOk P w H h) (e:Rd H a (.dT kvs)):kvs.length<=sizeLine/\(a == sysModules) = false/\
 ∃ xs,KT H kvs xs/\h.DictOfH (tupleKind (mixKind P w)) a xs:=by
 obtain⟨z,y,xs,r,o,es,ep,h1,h2,h3,h4,h5⟩:=(rd_of ok e)
 refine⟨z,y,xs,r,o,es,ep,h1,h2,h3,h4,fun x hx=>?_,h5⟩
 have all:∀ {l:List _}{m:List _},KT H l m->∀ x∈m,(tupleKind (mixKind P w)).is h x.1 x.2.1:=by
  intro l m q
  induction q with
  | nil=>simp
  | @cons p q ps qs hq t ih=>
   intro x hx
   rcases List.mem_cons.mp hx with e | hx
   · subst e
     exact key_of ok (by grind)
   · exact ih x hx
 exact all r x hx
theorem dt_of (ok:HOk P w H h) (e:H a = some (.dT kvs)):kvs.length<=sizeLine/\(a == sysModules) = false/\
 ∃ xs,KT H kvs xs/\h.DictOfH (tupleKind (mixKind P w)) a xs:=dt_rd ok (.inl e)
def DGet (H:Hp) (a:Addr) (y:V) (r:Option V):Prop:=
 (∃ kvs k,Rd H a (.dK kvs)/\y = kV k/\r = valV kvs k)\/∃ kvs k b,Rd H a (.dT kvs)/\y = .ref b/\H b = some (.tup (k.map kV))/\r = valV kvs k
def DPut (H:Hp) (a:Addr) (y v:V) (H':Hp):Prop:=
 (∃ kvs k,H a = some (.dK kvs)/\y = kV k/\kvs.length < sizeLine/\H' = upd H a (.dK (putK kvs k v)))\/
 ∃ kvs k b,H a = some (.dT kvs)/\y = .ref b/\H b = some (.tup (k.map kV))/\kvs.length < sizeLine/\H' = upd H a (.dT (putK kvs k v))
theorem DGet.k {k:Key} (e:H a = some (.dK kvs)):DGet H a (kV k) (valV kvs k):=.inl ⟨kvs,k,.inl e,rfl,rfl⟩
theorem DGet.t {k:List Key} (e:H a = some (.dT kvs)) (eb:H b = some (.tup (k.map kV))):DGet H a (.ref b) (valV kvs k):=.inr ⟨kvs,k,b,.inl e,rfl,eb,rfl⟩
theorem DPut.k {k:Key} (e:H a = some (.dK kvs)) (hl:kvs.length < sizeLine):DPut H a (kV k) v (upd H a (.dK (putK kvs k v))):=.inl ⟨kvs,k,e,rfl,hl,rfl⟩
theorem DPut.t {k:List Key} (e:H a = some (.dT kvs)) (eb:H b = some (.tup (k.map kV))) (hl:kvs.length < sizeLine):
 DPut H a (.ref b) v (upd H a (.dT (putK kvs k v))):=.inr ⟨kvs,k,b,e,rfl,eb,hl,rfl⟩
section
variable {σ:St}
theorem Inv.big (I:Inv X pins σ H s):sysModules < s.heap.objs.size:=by
 have h:=(I.mod.glob.keeps I.bk).lt
 exact Nat.lt_trans (by decide) h
theorem d_getItem {Q:Value->Shared->Prop} (hu:A.units + 1 < cLine) (I:Inv X pins σ H s) (g:DGet H a y (some v)) (ry:RelV y u) (h:∀ w' s',Inv X pins σ H s'->RelV v w'->Q w' s'):
 wpAny (model X.prog X.w) A (getItem (.ref a) u) Q E s:=by
 rcases g with ⟨kvs,k,e,ey,l⟩ | ⟨kvs,k,b,e,ey,eb,l⟩
 · subst ey
   obtain⟨z,hd,vs,rel,dd⟩:=dk_rd I.hok e
   obtain⟨w',hw,rw'⟩:=RelO.some_of (v:=v) (o:=valueAt vs k) (by rw [l];exact rel.val k)
   exact wpAny_getItem_of (kV_is ry) dd.mapOf hw (h w' _ (I.tok _) rw')
 · subst ey
   cases (show u = Value.ref b from ry)
   obtain⟨z,hd,xs,rel,dd⟩:=dt_rd I.hok e
   obtain⟨w',hw,rw'⟩:=RelO.some_of (v:=v) (o:=(atKey xs k).map (·.2)) (by rw [l];exact rel.val k)
   obtain⟨p,hp,hp2⟩:=Option.map_eq_some_iff.mp hw
   refine wpAny_getItem_heap (tupleKind_room_in1 hu) (key_of I.hok eb) dd hp ?_
   rw [hp2]
   exact h w' _ (I.tok _) rw'
theorem d_notIn (hu:A.units + 1 < cLine) (I:Inv X pins σ H s) (g:DGet H a y o) (ry:RelV y u) (h:∀ s',Inv X pins σ H s'->Q (.bool (!o.isSome)) s'):
 wpAny (model X.prog X.w) A (compareOp .NotIn u (.ref a)) Q E s:=by
 rcases g with ⟨kvs,k,e,ey,l⟩ | ⟨kvs,k,b,e,ey,eb,l⟩
 · subst ey
   obtain⟨z,hd,vs,rel,dd⟩:=dk_rd I.hok e
   refine wpAny_notIn_of (kV_is ry) hd dd.mapOf ?_
   rw [<- (rel.val k).isSome_eq,<- l]
   exact h _ (I.tok _)
 · subst ey
   cases (ry)
   obtain⟨z,hd,xs,rel,dd⟩:=dt_rd I.hok e
   refine wpAny_notIn_heap (tupleKind_room_in1 hu) (key_of I.hok eb) hd dd ?_
   have q:=(rel.val k).isSome_eq
   rw [Option.isSome_map] at q
   rw [<- q,<- l]
   exact h _ (I.tok _)
theorem d_write {h':Heap}{t':Nat}{ob:HO} (I:Inv X pins σ H s) (mu:Mut (H a)) (hs:Heap.SameBut a s.heap h') (he:∃ q,h'.get? a = some q) (new:ObjOk X.prog X.w (upd H a ob) h' a ob):
 Inv X pins σ (upd H a ob) { s with heap:=h',toks:=t' }:=
 I.write (x:=a) (e:=a) mu (.inl rfl) (fun b q hb z=>(hs.2 b hb).trans z) he new
theorem dk_new (z:kvs.length<=sizeLine) (hd:(a == sysModules) = false) (rel:KV kvs vs) (dd:h'.DictOf (mixKind P w) a vs):
 ObjOk P w H' h' a (.dK kvs):=⟨z,hd,vs,rel,dd⟩
theorem d_setItem {H':Hp}{Q:Unit->Shared->Prop} (hu:A.units + 1 < cLine) (I:Inv X pins σ H s) (g:DPut H a y v H') (ry:RelV y u) (rv:RelV v r) (h:∀ s',Inv X pins σ H' s'->Q () s'):
 wpAny (model X.prog X.w) A (setItem (.ref a) u r) Q E s:=by
 rcases g with ⟨kvs,k,e,ey,l,eH⟩ | ⟨kvs,k,b,e,ey,eb,l,eH⟩
 · subst ey eH
   obtain⟨z,hd,vs,rel,dd⟩:=dk_of I.hok e
   have hz:vs.length<=sizeLine:=by rw [<- rel.length];exact z
   have hl:(putK kvs k v).length<=sizeLine:=by have:=length_putK kvs k v;omega
   refine wpAny_setItem_pairs (hsz:=hz) (kV_is ry) dd fun h' dd' hs=>h _ ?_
   have he:∃ q,h'.get? a = some q:=let ⟨q,_,_,hq,_⟩:=dd';⟨q,hq⟩
   exact d_write I (by rw [e];exact True.intro) hs he (dk_new hl hd (rel.put k rv) dd')
 · subst ey eH
   cases (show u = Value.ref b from ry)
   obtain⟨z,hd,xs,rel,dd⟩:=dt_of I.hok e
   have hz:xs.length<=sizeLine:=by rw [<- Paired.length rel];exact z
   have hl:(putK kvs k v).length<=sizeLine:=by have:=length_putK kvs k v;omega
   refine wpAny_setItem_heap (hsz:=hz) (tupleKind_room_in1 hu) (key_of I.hok eb) dd fun h' dd' hs=>h _ ?_
   obtain⟨q,es,ep,hq,h2,h3,h4,_,h5⟩:=dd'
   refine d_write I (by rw [e];exact True.intro) hs ⟨q,hq⟩ ⟨hl,hd,_,(rel.put k eb rv).keeps fun c ys ec=>?_,q,es,ep,hq,h2,h3,h4,h5⟩
   rw [upd_ne (ne_of ec e (fun z=>nomatch z))]
   exact ec
end
def NoSl (i:Expr):Prop:=∀ ov iv,subscripted i false ov iv = operate [ov,iv] (getItem ov iv)
theorem subD_of {w:World}{A:Around}{s:Shared}{env:Env}{pos:Pos}{T id:String}
 (hl:typeLookup (.type T) "__getitem__" = pure (some (.builtin id))) (hs:NoSl slice)
 (h:wpAny (model prog w) A (eval value env) (fun o s₁=>wpAny (model prog w) A (eval slice env) (fun i s₂=>s₂.TypeIs o T/\wpAny (model prog w) A (getItem o i) Q E s₂) E s₁) E s):
 wpAny (model prog w) A (eval (.Subscript value slice pos) env) Q E s:=by
 refine Subscript_ (wpAny_mono h (fun o s₁ h₁=>wpAny_mono h₁ (fun i s₂ h₂=>?_) fun _ _ x=>x) fun _ _ x=>x)
 obtain⟨hT,h₂⟩:=h₂
 refine wpAny_bind ?_
 refine wpAny_bind (wpAny_specialOf hT hl ?_)
 have fin:wpAny (model prog w) A (subscripted slice false o i) (fun r s₃=>wpAny (model prog w) A (letTemporaryGo value o r >>= fun _=>pure r) Q E s₃) E s₂:=by
  rw [hs o i]
  exact wpAny_operating (wpAny_mono h₂ (fun r s₃ h₃=>wpAny_bind (wpAny_letTemporaryGo (wpAny_pure h₃))) fun _ _ x=>x)
 first
  | exact wpAny_pure (wpAny_bind fin)
  | rfl
  | exact wpAny_bind fin
theorem dict_typeIs {σ:St} (I:Inv X pins σ H s) (g:DGet H a y o):s.TypeIs (.ref a) "dict":=by
 rcases g with ⟨kvs,k,e,_,_⟩ | ⟨kvs,k,b,e,_,_,_⟩
 · obtain⟨_,_,vs,_,dd⟩:=dk_rd I.hok e
   exact dd.typeIs
 · obtain⟨_,_,xs,_,dd⟩:=dt_rd I.hok e
   exact dd.typeIs
def tDGet (td ty:TE):TE:=fun σ H Q=>td σ H fun x H1=>ty σ H1 fun y H2=>∃ a v,x = .ref a/\DGet H2 a y (some v)/\Q v H2
def sDPut (td ty tv:TE):TS:=fun D σ H=>tv σ H fun v H1=>td σ H1 fun x H2=>ty σ H2 fun y H3=>∃ a H4,x = .ref a/\DPut H3 a y v H4/\D.nx σ H4
theorem pe_dget (hu:X.A.units + 1 < cLine) (ho:PE X o td) (hi:PE X i ty) (hs:NoSl i):PE X (.Subscript o i pos) (tDGet td ty):=by
 intro pins s σ H Q I h
 refine subD_of PySem.F.slot_dict_getitem.lookup hs (thn (ho pins s σ H _ I h) fun u s1 ⟨x,H1,I1,rx,q1⟩=>thn (hi pins s1 σ H1 _ I1 q1) fun iv s2 ⟨y,H2,I2,ry,a,v,ex,g,q2⟩=>?_)
 subst ex
 obtain rfl:u = Value.ref a:=rx
 exact⟨dict_typeIs I2 g,d_getItem hu I2 g ry fun w' s3 I3 rw'=>⟨v,H2,I3,rw',q2⟩⟩
theorem ps_dput (hu:X.A.units + 1 < cLine) (ho:PE X o td) (hi:PE X i ty) (hv:PE X value tv) (hs:swapsWith value (some (.Subscript o i pos')) pos.line X.env = pure false):
 PS X (.Assign [.Subscript o i pos'] value pos) (sDPut td ty tv):=by
 intro pins s σ H D I h
 refine wpAny_Assign_Subscript (thn (hv pins s σ H _ I h) fun r s1 ⟨v,H1,I1,rv,q1⟩=>thn (ho pins s1 σ H1 _ I1 q1) fun u s2 ⟨x,H2,I2,rx,q2⟩=>thn (hi pins s2 σ H2 _ I2 q2) fun iv s3 ⟨y,H3,I3,ry,a,H4,ex,g,q3⟩=>?_) hs
 subst ex
 obtain rfl:u = Value.ref a:=rx
 exact d_setItem hu I3 g ry rv fun s4 I4=>⟨σ,H4,I4,q3⟩
theorem dk_empty (h:Heap) (hb:sysModules < h.objs.size):ObjOk P w H (h.push { cls:=.type "dict",data:=.dict #[] }) h.objs.size (.dK []):=
 ⟨Nat.zero_le _,beq_eq_false_iff_ne.mpr (Ne.symm (Nat.ne_of_lt hb)),[],.nil,Heap.DictOf.new h⟩
theorem dt_empty (h:Heap) (hb:sysModules < h.objs.size):ObjOk P w H (h.push { cls:=.type "dict",data:=.dict #[] }) h.objs.size (.dT []):=
 ⟨Nat.zero_le _,beq_eq_false_iff_ne.mpr (Ne.symm (Nat.ne_of_lt hb)),[],.nil,_,#[],0,Heap.get?_push_size _ rfl,⟨rfl,rfl,rfl⟩,rfl,rfl,List.nodup_nil⟩
def tDNewK:TE:=fun _ H Q=>∀ p,H p = none->Q (.ref p) (upd H p (.dK []))
def tDNewT:TE:=fun _ H Q=>∀ p,H p = none->Q (.ref p) (upd H p (.dT []))
theorem pe_dnewK:PE X (.Dict [] [] pos) tDNewK:=fun pins s σ H Q I h=>
 wpAny_Dict_empty ⟨.ref s.heap.objs.size,_,I.laid (fun _ _ q=>Heap.get?_push_of_some _ q) (Nat.le_refl _) (dk_empty s.heap I.big),rfl,h _ (I.hok.fresh (Nat.le_refl _))⟩
theorem pe_dnewT:PE X (.Dict [] [] pos) tDNewT:=fun pins s σ H Q I h=>
 wpAny_Dict_empty ⟨.ref s.heap.objs.size,_,I.laid (fun _ _ q=>Heap.get?_push_of_some _ q) (Nat.le_refl _) (dt_empty s.heap I.big),rfl,h _ (I.hok.fresh (Nat.le_refl _))⟩
def mergeK (kvs more:List (Key×V)):List (Key×V):=more.foldl (fun acc kv=>putK acc kv.1 kv.2) kvs
theorem KV.merge:∀ {more:List (Key×V)}{rs:List (Key×Value)}{kvs:List (Key×V)}{vs:List (Key×Value)},KV more rs->KV kvs vs->KV (mergeK kvs more) (merged vs rs):=by
 intro more rs kvs vs r
 induction r generalizing kvs vs with
 | nil=>intro q;exact q
 | @cons p q ps qs h t ih=>
  intro r0
  have e:KV (putK kvs p.1 p.2) (stored vs q.1 q.2):=by
   have:=r0.put p.1 h.2
   simp_all
  exact ih e
theorem length_mergeK:∀ (more kvs:List (Key×V)),(mergeK kvs more).length<=kvs.length + more.length
 | [],kvs=>by show kvs.length<=kvs.length + 0;omega
 | p :: r,kvs=>by
  have h1:=length_mergeK r (putK kvs p.1 p.2)
  have h2:=length_putK kvs p.1 p.2
  show (mergeK _ r).length<=_
  grind
structure M2 (X:Cx) (o:Expr) (m:Str) (apos:Pos) (e f:Expr) (cpos:Pos):Prop where
 base:attributeBase o m X.env (eval o X.env) = eval o X.env
 few:((backTo cpos (starEach [e,f] X.env)).all (fun x=>!x.1) && (backToKw cpos (keywordEach [] X.env)).all (fun x=>x.1.isSome)
  && decide (([e,f]:List Expr).length + ([]:List Keyword).length + (if ([]:List Keyword).isEmpty then 0 else 1) < 30)) = true
 line:(apos.endLine == cpos.line) = true
 trees:backTo cpos (starEach [e,f] X.env) = [(false,eval e X.env),(false,eval f X.env)]
def IsD (H:Hp) (a:Addr):Prop:=(∃ kvs,Rd H a (.dK kvs))\/∃ kvs,Rd H a (.dT kvs)
theorem isD_at {σ:St} (I:Inv X pins σ H s) (d:IsD H a):
 s.TypeIs (.ref a) "dict"/\(∀ b,Value.ref a = .ref b->∃ ob,s.heap.get? b = some ob/\ob.dict = none)/\(a == sysModules) = false:=by
 rcases d with ⟨kvs,e⟩ | ⟨kvs,e⟩
 · obtain⟨_,hd,vs,_,dd⟩:=dk_rd I.hok e
   refine⟨dd.typeIs,fun b q=>?_,hd⟩
   cases q
   obtain⟨ob,_,_,h1,h2,_⟩:=dd
   exact⟨ob,h1,h2.2.1⟩
 · obtain⟨_,hd,xs,_,dd⟩:=dt_rd I.hok e
   refine⟨dd.typeIs,fun b q=>?_,hd⟩
   cases q
   obtain⟨ob,_,_,h1,h2,_⟩:=dd
   exact⟨ob,h1,h2.2.1⟩
section
variable {σ:St}
theorem d_get2 {Q:Value->Shared->Prop} (hu:A.units + 1 < cLine) (I:Inv X pins σ H s) (g:DGet H a y o) (ry:RelV y u) (rd:RelV d r) (h:∀ w' s',Inv X pins σ H s'->RelV (o.getD d) w'->Q w' s'):
 wpAny (model X.prog X.w) A (call (.builtin "dict.get") [.ref a,u,r]) Q E s:=by
 rcases g with ⟨kvs,k,e,ey,l⟩ | ⟨kvs,k,b,e,ey,eb,l⟩
 · subst ey
   obtain⟨z,hd,vs,rel,dd⟩:=dk_rd I.hok e
   refine call_meetsIn PySem.F.slot_dict_get dd.typeIs PySem.F.entry_dict_get (PySem.F.args_dict_get_3 _ _ _) (meets_dict_get_default (mixKind X.prog X.w) a (kV_is ry) hd r) ⟨_,dd.mapOf,h _ _ (I.tok _) ?_⟩
   rw [l]
   exact (rel.val k).getD rd
 · subst ey
   cases (show u = Value.ref b from ry)
   obtain⟨z,hd,xs,rel,dd⟩:=dt_rd I.hok e
   refine call_meetsIn PySem.F.slot_dict_get dd.typeIs PySem.F.entry_dict_get (PySem.F.args_dict_get_3 _ _ _) (meetsH_dict_get_default (tupleKind (mixKind X.prog X.w)) a b hd r) ⟨tupleKind_room_in1 hu,k,xs,key_of I.hok eb,dd,h _ _ (I.tok _) ?_⟩
   rw [l]
   exact (rel.val k).getD rd
end
def tDGet2 (td ty tx:TE):TE:=fun σ H Q=>td σ H fun x H1=>∃ a,x = .ref a/\IsD H1 a/\ty σ H1 fun y H2=>tx σ H2 fun z H3=>∃ o,DGet H3 a y o/\Q (o.getD z) H3
theorem pe_dget2 (hu:X.A.units + 1 < cLine) (ho:PE X o td) (he:PE X e ty) (hf:PE X f tx) (m:M2 X o "get" apos e f cpos):PE X (.Call (.Attribute o "get" apos) [e,f] [] cpos) (tDGet2 td ty tx):=by
 intro pins s σ H Q I h
 refine wpAny_Call_method m.base m.few m.line PySem.F.plainAttrs_dict PySem.F.slot_dict_get PySem.F.type_dict_get (thn (ho pins s σ H _ I h) fun u s1 ⟨x,H1,I1,rx,a,ex,d,q1⟩=>?_)
 subst ex
 obtain rfl:u = Value.ref a:=rx
 obtain⟨t1,t2,_⟩:=isD_at I1 d
 refine⟨t1,t2,?_⟩
 rw [m.trees]
 refine Calls.callWith_builtin rfl (Calls.evalArgs_plain (Calls.spliced_cons (thn (he pins s1 σ H1 _ I1 q1) fun iv s2 ⟨y,H2,I2,ry,q2⟩=>
  Calls.spliced_cons (thn (hf pins s2 σ H2 _ I2 q2) fun fv s3 ⟨z,H3,I3,rz,ov,g,q3⟩=>Calls.spliced_nil ?_))))
 exact d_get2 hu I3 g ry rz fun w' s4 I4 rw'=>⟨_,H3,I4,rw',q3⟩
end L2
set_option maxHeartbeats 4000000
open PySem PySem.Spec PySem.Calls PyProof.Rows L2
namespace Br
open PySem PySem.Spec PyProof.Rows L2
structure Callee (CX:CXT) (P:Program) (w:World) (K:PySem.W.Frag) (mg:Str->Option Value) (base:Heap) (x:Str) (k:Nat) (ps:List Str) (sp:Sp):Prop where
 ex:∃ f fd,FnOk P w K mg base CX k f fd ps sp/\mg x = some (.ref f)/\PySem.W.keepIn K (.ref f) = true/\Binds K fd ps []
section
variable {p pos:Pos}
theorem pe_callS (c:Callee CX0 X.prog X.w X.K X.mg X.base x k ps sp) (hr:Room k X.A) (hg:Gl X x) (ha:PA X (e :: es) t) (hdb:(x == ("__debug__" : Str)) = false:=by decide)
 (he:starEach (e :: es) X.env = (false,eval e X.env) :: starEach es X.env:=by rfl) (hpl:(backTo pos (starEach es X.env)).any (·.1) = false:=by rfl):
 PE X (.Call (.Name x p) (e :: es) [] pos) (tCall sp [] E0 t):=by
 obtain⟨f,fd,F,hm,hk,hb⟩:=c.ex
 exact pe_call F hr hg hm hk hb .nil pass0 ha hdb he hpl
end
def CDivB (i j:Int):Prop:=0 < j/\j < 2 ^ 8000
theorem log2_of {y:Int} (h0:0 < y) (h1:y < 2 ^ 8000):y.natAbs.log2 < 9000:=by
 have h:y.natAbs < 2 ^ 8000:=by omega
 have h2:=(Nat.log2_lt (by omega)).mpr h
 omega
theorem op_fdivB:OpR X (binaryOp .FloorDiv) (rI CDivB fun i j=>.int (i / j)):=opI fun i j _ _ _ _ _ hc q=>by
 have e:i / j = i.fdiv j:=(Int.fdiv_eq_ediv_of_nonneg _ (Int.le_of_lt hc.1)).symm
 rw [e] at q
 exact floordiv_int (Int.ne_of_gt hc.1) q (.inl (PyProof.noPylong_of_log2 (log2_of hc.1 hc.2)))
def CMulB (i j:Int):Prop:=i.natAbs < 2 ^ 8000/\j.natAbs < 2 ^ 8000
theorem bits_of (h:i.natAbs < 2 ^ 8000):Builtin.Int.intBits i<=2 ^ 20:=Nat.le_trans (intBits_le h) (by decide)
inductive At:List Str->Nat->Str->Prop where
 | here {x:Str}{l:List Str}:At (x :: l) 0 x
 | there {x y:Str}{l:List Str}{i:Nat}:At l i x->At (y :: l) (i + 1) x
theorem At.get:∀ {l:List Str}{i:Nat}{x:Str},At l i x->l[i]? = some x
 | _,_,_,.here=>rfl
 | _,_,_,.there h=>by simpa using h.get
section
variable {x:Str}
theorem r_name (h:At X.N i x) (hk:X.env.scope.names.lookup x = some .local) (hd:(x == ("__debug__" : Str)) = false) (hcd:(x == ("__classdict__" : Str)) = false):PE X (.Name x pos) (tVar i):=pe_var h.get (.inl hk) hd hcd
theorem r_bin (ho:OpR X (binaryOp op) r) (ha:PE X a ta) (hb:PE X b tb):PE X (.BinOp a op b pos) (tOp r ta tb):=pe_op ho ha hb
theorem r_cmp (h1:op≠.In) (h2:op≠.NotIn) (ho:OpR X (compareOp op) r) (ha:PE X a ta) (hb:PE X b tb):PE X (.Compare a [op] [b] pos) (tOp r ta tb):=pe_cmpR ho ha hb (nomark _ h1 h2)
theorem t_cmp (h1:op≠.In) (h2:op≠.NotIn) (ho:OpR X (compareOp op) r) (ha:PE X a ta) (hb:PE X b tb):PT X (.Compare a [op] [b] pos) (tTest (tOp r ta tb)):=pt_cmpR ho ha hb (nomark _ h1 h2)
theorem r_neg (ha:PE X a ta):PE X (.UnaryOp .USub a pos) (tUn (rU fun i=>.int (-i)) ta):=pe_un un_neg ha
theorem t_call (h:PE X (.Call f es ks pos) te):PT X (.Call f es ks pos) (tB te):=pt_val h (fun _=>rfl)
theorem t_name (h:PE X (.Name x pos) te):PT X (.Name x pos) (tB te):=pt_val h (fun _=>rfl)
theorem r_ix (hs:PlainIx b) (ha:PE X a ta) (hb:PE X b tb):PE X (.Subscript a b pos) (tOp (rIx X.K) ta tb):=pe_ix ix_seq ha hb hs
theorem r_acons (hs:starEach (e :: es) X.env = (false,eval e X.env) :: starEach es X.env) (ha:PE X e te) (hr:PA X es t):PA X (e :: es) (tCons te t):=pa_cons ha hr hs
theorem r_call (c:Callee CX0 X.prog X.w X.K X.mg X.base x k ps sp) (hr:Room k X.A) (hg:Gl X x) (hdb:(x == ("__debug__" : Str)) = false)
 (he:starEach (e :: es) X.env = (false,eval e X.env) :: starEach es X.env) (hpl:(backTo pos (starEach es X.env)).any (·.1) = false) (ha:PA X (e :: es) t):PE X (.Call (.Name x p) (e :: es) [] pos) (tCall sp [] E0 t):=pe_callS c hr hg ha hdb he hpl
def rLen (K:PySem.W.Frag):List V->Hp->VK->Prop:=fun xs H Q=>(∃ p ys,xs = [.ref p]/\(SqL K H p ys\/SqT K H p ys)/\Q (.int ys.length) H)\/∃ z,xs = [.str z]/\z.length<=sizeLine/\Q (.int z.length) H
theorem call_lenA:CallR X (.builtin "len") (rLen X.K):=by
 intro pins s σ H xs us Q I r h
 rcases h with h | h
 · exact call_len_seq pins s σ H xs us Q I r h
 · exact call_len_str pins s σ H xs us Q I r h
section
variable (hg:Gl X x) (he:starEach (e :: es) X.env = (false,eval e X.env) :: starEach es X.env) (hpl:(backTo pos (starEach es X.env)).any (·.1) = false)
include hg he hpl
theorem r_len (hx:x = "len") (hm:X.mg x = none) (ha:PA X (e :: es) t):PE X (.Call (.Name x p) (e :: es) [] pos) (tCB (rLen X.K) t):=by subst hx;exact pe_callB call_lenA hg hm PySem.boot_len ha (by decide) (by decide) he hpl
theorem r_max (hx:x = "max") (hc:X.calm = true) (hm:X.mg x = none) (ha:PA X (e :: es) t):PE X (.Call (.Name x p) (e :: es) [] pos) (tCB (fun xs H Q=>∃ i j,xs = [.int i,.int j]/\Q (.int (if j > i then j else i)) H) t):=by subst hx;exact pe_callB (call_max2 hc) hg hm boot_max ha (by decide) (by decide) he hpl
theorem r_min (hx:x = "min") (hc:X.calm = true) (hm:X.mg x = none) (ha:PA X (e :: es) t):PE X (.Call (.Name x p) (e :: es) [] pos) (tCB (fun xs H Q=>∃ i j,xs = [.int i,.int j]/\Q (.int (if j < i then j else i)) H) t):=by subst hx;exact pe_callB (call_min2 hc) hg hm boot_min ha (by decide) (by decide) he hpl
theorem r_intc (hx:x = "int") (hm:X.mg x = none) (ha:PA X (e :: es) t):PE X (.Call (.Name x p) (e :: es) [] pos) (tCB (fun xs H Q=>(∃ i,xs = [.int i]/\Q (.int i) H)\/∃ k,xs = [.bl k]/\Q (.int (if k then 1 else 0)) H) t):=by subst hx;exact pe_callTy call_int1 hg hm PyProof.Rows.boot_int ha (by decide) (by decide) he hpl
end
theorem r_ret (he:PE X e te):PS X (.Return (some e) pos) (tRet te):=ps_ret he
theorem r_set (h:At X.N i x) (hN:X.N.Nodup) (hk:X.env.scope.names.lookup x = some .local) (hs:swapsWith e (some (.Name x p)) pos.line X.env = pure false) (he:PE X e te):PS X (.Assign [.Name x p] e pos) (tAsg te (gName i)):=
 ps_set hN h.get (.inl hk) he hs (.inr hk)
theorem r_expr (hs:swapsWith e none pos.line X.env = pure false) (he:PE X e te):PS X (.Expr e pos) (tDrop te):=ps_expr he hs
theorem r_for {tb:TS} (hp:PassesOwn (model X.prog X.w) X.A X.env X.xe) (hc:X.calm = true) (hs:∀ x,foldedSetIterable iter X.env x = pure x) (hi:PI X tg iter wi) (hg:PG X tg g) (hb:PSs X body tb):PS X (.For tg iter body [] pos) (tFor wi g tb):=ps_for hp hc hi hg hb hs
theorem r_while {tb:TS} (hp:PassesOwn (model X.prog X.w) X.A X.env X.xe) (hc:PT X c tA) (hb:PSs X body tb):PS X (.While c body [] pos) (tWhile tA tb):=ps_while hp hc hb
theorem r_gname (h:At X.N i x) (hN:X.N.Nodup) (hk:X.env.scope.names.lookup x = some .local):PG X (.Name x pos) (gName i):=pg_name hN h.get (.inl hk) (.inr hk)
theorem r_irange1 (hx:x = "range") (hg:Gl X x) (hm:X.mg x = none) (hs:starEach [a] X.env = [(false,eval a X.env)]) (ha:PA X [a] t):PI X tg (.Call (.Name x p) [a] [] pos) (iRng1 t):=by subst hx;exact pi_range1 hg hm ha hs
theorem r_append (hbase:attributeBase o "append" X.env (eval o X.env) = eval o X.env) (hfew:((backTo cpos (starEach [e] X.env)).all (fun x=>!x.1) && (backToKw cpos (keywordEach [] X.env)).all (fun x=>x.1.isSome)
 && decide (([e]:List Expr).length + ([]:List Keyword).length + (if ([]:List Keyword).isEmpty then 0 else 1) < 30)) = true) (hline:(apos.endLine == cpos.line) = true) (hs:starEach [e] X.env = (false,eval e X.env) :: starEach [] X.env)
 (hpl:(backTo cpos (starEach [] X.env)).any (·.1) = false) (ho:PE X o to) (ha:PA X [e] t):PE X (.Call (.Attribute o "append" apos) [e] [] cpos) (tBM X.K "list" rAppend to t):=
 pe_bm PySem.F.plainAttrs_list PySem.F.slot_list_append PySem.F.type_list_append mt_append ho ha hbase hfew hline hs hpl
end
def tMid (t:TS):TS:=fun D σ H=>∃ M:L2.St->Hp->Prop,t { D with nx:=M } σ H/\∀ σ' H',M σ' H'->D.nx σ' H'
theorem ps_mid {st:Stmt} (h:PS X st t):PS X st (tMid t):=by
 intro pins s σ H D I hq
 obtain⟨M,h1,h2⟩:=hq
 refine thn (h pins s σ H { D with nx:=M } I h1) fun f s1 q=>?_
 cases f with
 | next=>
  obtain⟨σ',H',I',q⟩:=q
  exact⟨σ',H',I',h2 _ _ q⟩
 | ret v=>exact q
 | brk=>exact q
 | cont=>exact q
theorem r_ifM (hc:PT X c tA) (ha:PSs X aa t1) (hb:PSs X bb t2):PS X (.If c aa bb pos) (tMid (tIfS tA t1 t2)):=ps_mid (ps_if hc ha hb)
theorem atI_ints {zs:List Int}{i:Int} (h0:0<=i) (h1:i < zs.length):∃ z,z∈zs/\zs[i.toNat]? = some z/\atI (zs.map V.int) i = some (V.int z):=by
 have e1:(zs.map V.int)[i.toNat]? = some (V.int zs[i.toNat]):=by simp
 have e2:=atI_nat e1
 rw [Int.toNat_of_nonneg h0] at e2
 simp_all
theorem Same.upd (h:H p = none):L2.Same H (upd H p o):=fun b u e=>by rw [upd_ne (ne_of_none e h)];omega
theorem lenLe {xs:List V} (h:xs.length = n) (h2:n<=1000):xs.length<=sizeLine:=by rw [h];exact Nat.le_trans h2 (by decide)
theorem lt250 (h:n < 2 ^ 250):n < 2 ^ 8000:=Nat.lt_of_lt_of_le h (Nat.pow_le_pow_right (by decide) (by decide))
theorem ilt250 {n:Int} (h:n < 2 ^ 250):n < 2 ^ 8000:=by
 exact Int.lt_of_lt_of_le h (Int.ofNat_le.mpr (Nat.pow_le_pow_right (by decide) (by decide)))
theorem mulB (h1:i.natAbs < 2 ^ 250) (h2:j.natAbs < 2 ^ 250):CMulB i j:=⟨lt250 h1,lt250 h2⟩
theorem divB (h1:0 < j) (h2:j < 2 ^ 250):CDivB i j:=⟨h1,ilt250 h2⟩
theorem r_unpack2 (hi:At X.N i x) (hj:At X.N j y) (hc:X.calm = true) (hN:X.N.Nodup) (hx:X.env.scope.names.lookup x = some .local) (hy:X.env.scope.names.lookup y = some .local)
 (h1:(assignEach [.Name x px,.Name y py] X.env).map (·.2) = assign (.Name x px) X.env :: (assignEach [.Name y py] X.env).map (·.2))
 (h2:(assignEach [.Name y py] X.env).map (·.2) = assign (.Name y py) X.env :: (assignEach [] X.env).map (·.2))
 (hn:(assignEach [.Name x px,.Name y py] X.env).length = 2) (hst:(assignEach [.Name x px,.Name y py] X.env).findIdx? (·.1) = none)
 (hs:swapsWithSole [.Tuple [.Name x px,.Name y py] kt pt] e pos.line X.env = pure false) (hw:swappedStores [.Tuple [.Name x px,.Name y py] kt pt] e X.env = pure none)
 (h3:(assignEach [.Tuple [.Name x px,.Name y py] kt pt] X.env).map (·.2) = [assign (.Tuple [.Name x px,.Name y py] kt pt) X.env]) (he:PE X e te):
 PS X (.Assign [.Tuple [.Name x px,.Name y py] kt pt] e pos) (tAsg te (gTup X.K 2 (gCons (gName i) (gCons (gName j) gNil)))):=
 ps_asg he (pg_tup hc (pgs_cons (pg_name hN hi.get (.inl hx) (.inr hx)) (pgs_cons (pg_name hN hj.get (.inl hy) (.inr hy)) pgs_nil h2) h1) hn hst) hs hw h3
def tTupS (t:TA):TE:=fun σ H Q=>t σ H fun xs H1=>xs.length<=sizeLine/\∀ p H2,H1 p = none->L2.Same H1 H2->H2 p = some (.tup xs)->Q (.ref p) H2
def tLstS (t:TA):TE:=fun σ H Q=>t σ H fun xs H1=>xs.length<=sizeLine/\∀ p H2,H1 p = none->L2.Same H1 H2->H2 p = some (.lst xs)->Q (.ref p) H2
def rCatS:R2:=fun x y H Q=>∃ l b xs zs,x = .ref l/\y = .ref b/\H l = some (.lst xs)/\H b = some (.lst zs)/\xs.length + zs.length<=sizeLine/\∀ p H2,H p = none->L2.Same H H2->H2 p = some (.lst (xs ++ zs))->Q (.ref p) H2
def tDNewS:TE:=fun _ H Q=>∀ p H2,H p = none->L2.Same H H2->H2 p = some (.dK [])->Q (.ref p) H2
theorem r_tupS (h:PA X es t):PE X (.Tuple es k pos) (tTupS t):=fun pins s σ H Q I q=>wpAny_Tuple_spliced (thn (h pos pins s σ H _ I q) fun us s1 ⟨xs,H1,I1,r,z,q⟩=>⟨by rw [<- r.length];omega,by
 have hf:=I1.hok.fresh (Nat.le_refl _)
 refine⟨.ref s1.heap.objs.size,upd H1 s1.heap.objs.size _,I1.laid (fun b u e=>Heap.get?_push_of_some _ e) (Nat.le_refl _) ?_,rfl,q _ _ hf (Br.Same.upd hf) upd_same⟩
 exact⟨z,us,r,⟨_,Heap.get?_push_size _ rfl,rfl,_,rfl⟩⟩⟩)
theorem r_lstS (h:PA X es t):PE X (.List es pos) (tLstS t):=fun pins s σ H Q I q=>wpAny_List_spliced (thn (h pos pins s σ H _ I q) fun us s1 ⟨xs,H1,I1,r,z,q⟩=>⟨by rw [<- r.length];omega,by
 have hf:=I1.hok.fresh (Nat.le_refl _)
 refine⟨.ref s1.heap.objs.size,upd H1 s1.heap.objs.size _,I1.laid (fun b u e=>Heap.get?_push_of_some _ e) (Nat.le_refl _) ?_,rfl,q _ _ hf (Br.Same.upd hf) upd_same⟩
 exact⟨z,us,0,r,Heap.get?_push_size _ rfl⟩⟩)
theorem op_catS:OpR X (binaryOp .Add) rCatS:=fun pins s σ H x y v u Q I rx ry h=>by
 obtain⟨l,b,xs,zs,e1,e2,h1,h2,hz,q⟩:=h
 exact op_cat pins s σ H x y v u Q I rx ry ⟨l,b,xs,zs,e1,e2,h1,h2,hz,fun p hp=>q p _ hp (Br.Same.upd hp) upd_same⟩
theorem r_dict0S:PE X (.Dict [] [] pos) tDNewS:=fun pins s σ H Q I q=>pe_dnewK pins s σ H Q I fun p hp=>q p _ hp (Br.Same.upd hp) upd_same
end Br
namespace Br
open PySem PySem.Spec PySem.Calls PyProof.Rows L2 PySem.W PySem.Builtin.Getset_descriptor
structure ExcC (K:Frag) (C:Addr):Prop where
 ga:findIn K (.ref C) "__getattribute__" = some (some (.builtin "BaseException.__getattribute__"))
 hk:findIn K (.ref C) "__getattr__" = some none
 ha:findIn K (.ref C) "__class__" = some (some (.builtin "object.__class__"))
 hn:specialIn K (.builtin "object.__class__") "__get__" = some (some (.builtin "getset_descriptor.__get__"))
 htk:takesIn K (.builtin "object.__class__") = some true
 hm:mroIn K C (.type "object") = some true
 hb:mroIn K C (.type "BaseException") = some true
def ExcAt (e C:Addr) (h:Heap):Prop:=∃ o,h.get? e = some o/\o.cls = .ref C
theorem ExcAt.ty (x:ExcAt e C h):Looks M h (typeOf (.ref e)) (.ref C):=by
 obtain⟨o,h1,h2⟩:=x
 rw [<- h2]
 exact (Looks.ld h1).andThen .now
section
variable {K:Frag}
theorem ExcC.finds (T:ExcC K C) (X:K.In h):Looks M h (Builtin.ObjectAttr.find (.ref x) (.ref C) "__class__") (.bind (.builtin "getset_descriptor.__get__") (.builtin "object.__class__")):=by
 have d:Looks M h (Builtin.ObjectAttr.dataDescriptor? (some _) (some (.builtin "getset_descriptor.__get__"))) _:=
  (looks_takesIn X T.htk).andThen .now
 exact (looks_findIn X T.ha).andThen (Looks.andThen (looks_specialIn X T.hn) (d.andThen (Looks.tag .now)))
theorem exc_get {R:Result->Shared->Prop}{tp:Value} (X:K.In s.heap) (I:ExcAt x C s.heap) (hm:mroIn K C (.type "object") = some true) (h:R (.ok (.ret (.ref C))) s):
 codeAny (model prog w) A (.call (.builtin "getset_descriptor.__get__") ⟨[.builtin "object.__class__",.ref x,tp],[]⟩) R s:=by
 have ob:=fun {Q':Value->Shared->Prop}{E':Value->Shared->Prop}{A':Around}=>(fun q:Q' (.ref C) s=>I.ty (M:=model prog w) A' Q' E' s (fun _ _ e=>e) q)
 have mr:=fun {Q':Bool->Shared->Prop}{E':Value->Shared->Prop}{A':Around}=>(fun q:Q' true s=>looks_mroIn (M:=model prog w) X hm A' Q' E' s (fun _ _ e=>e) q)
 apply codeAny_call_builtin KF.slot_gs.plain KF.entry_gs
 refine KF.slot_gs.check _ _ _ _ _ _ _ _ KF.type_class (KF.args_gs _ _ _) ?_
 wp_walk using ob,mr
 rw [show (".".intercalate ("object.__class__".cutAt '.').dropLast) = "object" from by decide +kernel]
 wp_walk using mr
 refine⟨Code.quiet_builtin _ (by decide +kernel),codeAny_builtin KF.entry_class ?_⟩
 wp_walk using ob
 exact h
theorem exc_cls {Q:Option Value->Shared->Prop} (T:ExcC K C) (X:K.In s.heap) (I:ExcAt x C s.heap) (h:Q (some (.ref C)) { s with toks:=s.toks + 1 }):wpAny (model prog w) A (getAttr? (.ref x) "__class__") Q E s:=by
 have L0:=I.ty (M:=model prog w)
 have L1:=looks_findIn (M:=model prog w) X T.ga
 have L2:=looks_findIn (M:=model prog w) X T.hk
 have L3:=T.finds (M:=model prog w) (x:=x) X
 have L4:=looks_mroIn (M:=model prog w) X T.hb
 obtain⟨hh,g,d,t,os⟩:=s
 unfold getAttr? getAttrBy? getAttrBy
 refine wpAny_bind (wpAny_mkText (wpAny_bind (wpAny_attempt (wpAny_holding ?_))))
 refine wpAny_bind (L0.at (wpAny_bind (L1.at ?_)))
 show wpAny _ _ (getAttrByItsOwn _ _ _ _ _ _) _ _ _
 unfold getAttrByItsOwn hookBefore
 rw [if_pos (show onTheHeap (Value.ref C) = true from rfl)]
 refine wpAny_bind (L2.at (wpAny_bind (wpAny_attempt (wpAny_holding ?_))))
 show wpAny _ _ (boundAndCalled _ _ _) _ _ _
 unfold boundAndCalled
 rw [F.attr_ValueError.ga.bind]
 refine wpAny_bind (wpAny_pure ?_)
 show wpAny _ _ (call (.builtin "BaseException.__getattribute__") [.ref x,.str "__class__" t]) _ _ _
 have hsp:splitId "BaseException.__getattribute__" = some ("BaseException","__getattribute__"):=by decide +kernel
 have hkk:builtinKind "BaseException.__getattribute__" = some .slot:=by decide +kernel
 have ha:=F.args_bexc_ga (.ref x) (.str "__class__" t)
 refine wpAny_call (codeAny_call_builtin F.attr_ValueError.ga.plain F.entry_bexc_ga ?_)
 simp only [checkBuiltinCall,hkk,hsp]
 refine wpAny_bind ?_
 · unfold isInstance
   refine wpAny_bind (L0.at (L4.at ?_))
   simp only [Bool.not_true,Bool.false_eq_true,if_false]
   repeat (any_goals (first | assumption | wp_step))
   obtain⟨oe,he,hce⟩:=id I
   refine wpAny_loadPart_at he ?_
   rw [hce]
   refine wpAny_pure (wpAny_bind (L3.at ?_))
   show wpAny _ _ (do ret (<- holding [_] (call _ [_,_,_]))) _ _ _
   refine wpAny_bind (wpAny_holding (wpAny_call (exc_get X I T.hm (wpAny_pure ?_))))
   exact handed_on rfl (wpAny_pure h)
theorem ExcC.cls (T:ExcC K C) (X:K.In h):∃ (c:Value) (d:Option Addr) (cd:ClassData) (sl:Array (Option Value)),h.get? C = some ⟨c,d,.cls cd,sl⟩:=by
 obtain⟨cd,q,_⟩:=Option.bind_eq_some_iff.mp T.hm
 unfold clsIn at q
 split at q
 · rename_i ho
   exact⟨_,_,_,_,X _ _ ho⟩
 grind
theorem ExcC.isType (T:ExcC K C) (X:K.In h):Looks M h (isType (.ref C)) true:=fun A Q E s k z=>by
 obtain⟨c,d,cd,sl,ho⟩:=T.cls X
 exact wpAny_bind (wpAny_loadPart (k _ _ ho) (wpAny_pure z))
theorem kitx_exc (T:ExcC K C):KitX K (.ref x) (.ref C) (ExcAt x C) where
 ty:=fun _ _ _ p=>p.ty
 it:=fun _ _ X _=>T.isType X
 ne:=fun h tp dd its n sl X htp=>by
  obtain⟨c,d,cd,sl',hc⟩:=T.cls X
  grind
 ca:=fun X p k=>exc_cls T X p k
end
end Br
namespace Br
theorem objGot (x:ObjOk P w H h a o):∃ ob,h.get? a = some ob:=by
 cases o with
 | lst xs=>obtain⟨_,_,_,_,e⟩:=x;exact⟨_,e⟩
 | tup xs=>obtain⟨_,_,_,ob,e,_⟩:=x;grind
 | dK kvs=>obtain⟨_,_,_,_,o,_,_,e,_⟩:=x;grind
 | dT kvs=>obtain⟨_,_,_,_,o,_,_,e,_⟩:=x;exact⟨_,e⟩
 | set S n=>obtain⟨o,_,_,_,e,_⟩:=x;exact⟨_,e⟩
 | ins C dx fs=>obtain⟨_,_,_,e,_⟩:=x;exact⟨_,e⟩
 | own y=>assumption
 | xd fs=>obtain⟨_,⟨_,_,_,e,_⟩,_⟩:=x;exact⟨_,e⟩
 | rng lo hi=>obtain⟨_,_,_,e⟩:=x;exact⟨_,e⟩
 | frz ob u=>obtain⟨e,_⟩:=x;grind
 | tbl ps=>exact⟨_,(x)⟩
 | met f y=>exact⟨_,(x)⟩
 | ext φ=>obtain⟨_,⟨_,e⟩,_⟩:=x;exact⟨_,e⟩
theorem hokNone (x:HOk P w H h) (e:h.get? a = none):H a = none:=by
 cases q:H a with
 | none=>rfl
 | some o=>
  obtain⟨ob,z⟩:=objGot (x a o q)
  grind
def FrOk (l:List Env) (h:Heap):Prop:=∀ env∈l,env.scope.kind≠.module/\∃ L o,env.frame = some L/\h.get? L = some o/\∀ vs,o.data≠.fields vs
structure Fly (l:List Env) (e T:Addr) (cls:Value) (h:Heap):Prop where
 fr:FrOk l h
 ne:T≠e
 at_:∃ oe vs oT ts a0,h.get? e = some oe/\oe.cls = cls/\oe.data = .fields vs/\vs[0]? = some a0/\vs[1]? = some (.ref T)/\h.get? T = some oT/\oT.data = .fields ts/\ts[3]? = some .none
theorem funFr:FrOk l h->(∀ b∈frs l,B.get? b = none)->h.FunFrames B l:=by
 induction l with
 | nil=>intro _ _;trivial
 | cons env r ih=>
  intro f hB
  obtain⟨hk,L,o,hf,ho,hd⟩:=f env (.head _)
  refine⟨hk,⟨L,o,hf,hB L (List.mem_filterMap.mpr ⟨env,.head _,hf⟩),ho,hd⟩,ih (fun e he=>f e (.tail _ he)) fun b hb=>hB b ?_⟩
  obtain⟨e,he,h2⟩:=List.mem_filterMap.mp hb
  exact List.mem_filterMap.mpr ⟨e,.tail _ he,h2⟩
theorem frOf:h.FunFrames B l->FrOk l h:=by
 induction l with
 | nil=>intro _ _ z;cases z
 | cons env r ih=>
  rintro⟨hk,⟨L,o,hf,_,ho,hd⟩,hr⟩ e he
  rcases List.mem_cons.mp he with rfl | he
  · exact⟨hk,L,o,hf,ho,hd⟩
  · exact ih hr e he
theorem FrOk.mem (f:FrOk l h) (hb:b∈frs l):∃ o,h.get? b = some o/\∀ vs,o.data≠.fields vs:=by
 obtain⟨e,he,h2⟩:=List.mem_filterMap.mp hb
 obtain⟨_,L,o,hf,ho,hd⟩:=f e he
 simp_all
def grd (l:List Env) (e T:Addr) (h:Heap):Heap:=PySem.W.hideAll h (e :: T :: frs l)
theorem grd_of (q:(grd l e T h).get? b = some o):h.get? b = some o:=PySem.W.of_hideAll _ q
theorem grd_none (q:b = e\/b = T\/b∈frs l):(grd l e T h).get? b = none:=by
 refine PySem.W.hideAll_none _ ?_
 simp_all
theorem grd_get (q:h.get? b = some o) (h1:b≠e) (h2:b≠T) (h3:b∉frs l):(grd l e T h).get? b = some o:=by
 refine PySem.W.hideAll_get _ q fun z=>?_
 simp_all
theorem Fly.flying (f:Fly l e T cls h):∃ a0,Heap.FlyingW (grd l e T h) l e cls a0 h:=by
 obtain⟨oe,vs,oT,ts,a0,h1,h2,h3,h4,h5,h6,h7,h8⟩:=f.at_
 exact⟨a0,fun b o q=>grd_of q,grd_none (.inl rfl),funFr f.fr fun b hb=>grd_none (.inr (.inr hb)),oe,vs,T,oT,ts,h1,⟨h2,h4⟩,h3,h5,grd_none (.inr (.inl rfl)),f.ne,h6,h7,h8⟩
structure Past (l:List Env) (e T:Addr) (h h':Heap):Prop where
 keep:∀ b o,h.get? b = some o->b≠e->b≠T->b∉frs l->h'.get? b = some o
 slot:∀ b o,h.get? b = some o->b∈frs l->∃ sl,h'.get? b = some { o with slots:=sl }
 there:∀ b o,h.get? b = some o->b≠T->∃ o',h'.get? b = some o'
theorem Past.of {l l':List Env}{e T:Addr}{cls a0:Value}{h h2:Heap} (f:FrOk l h) (hf:Heap.FlyingW (grd l e T h) l' e cls a0 h2) (u:h.UpToSlots h2):
 ∃ T',Fly l' e T' cls h2/\Past l e T h h2/\(T' = T\/h.get? T' = none):=by
 obtain⟨st,ne,ff,oe,vs,T',oT,ts,h1,⟨h2',h4⟩,h3,h5,hb,hne,h6,h7,h8⟩:=hf
 have hs:∀ b o,h.get? b = some o->b∈frs l->∃ sl,h2.get? b = some { o with slots:=sl }:=fun b o q hb=>by
  obtain⟨o',q',hd⟩:=f.mem hb
  rw [q] at q';cases q'
  exact u b o q hd
 refine⟨T',⟨frOf ff,hne,oe,vs,oT,ts,a0,h1,h2',h3,h4,h5,h6,h7,h8⟩,⟨fun b o q n1 n2 n3=>st b o (grd_get q n1 n2 n3),hs,fun b o q n2=>?_⟩,?_⟩
 · by_cases n1:b = e
   · subst n1;exact⟨_,h1⟩
   · by_cases n3:b∈frs l
     · obtain⟨sl,z⟩:=hs b o q n3
       exact⟨_,z⟩
     · exact⟨o,st b o (grd_get q n1 n2 n3)⟩
 · cases q:h.get? T' with
   | none=>exact .inr rfl
   | some o=>
    by_cases n2:T' = T
    · exact .inl n2
    · by_cases n3:T'∈frs l
      · obtain⟨o',q',hd⟩:=f.mem n3
        obtain⟨sl,z⟩:=hs T' o' q' n3
        rw [h6] at z;cases z
        exact absurd h7 (hd ts)
      · rw [grd_get q hne n2 n3] at hb;cases hb
theorem fly_leave (hfr:A.frames = some (env :: outer)) (hf:env.frame.isSome = true) (f:Fly (env :: outer) e T cls s.heap)
 (k:∀ h' T',Fly outer e T' cls h'->Past (env :: outer) e T s.heap h'->(T' = T\/s.heap.get? T' = none)->Q () { s with heap:=h' }):wpAny M A (leaving env (.ref e)) Q E s:=by
 obtain⟨L,hf⟩:=Option.isSome_iff_exists.mp hf
 obtain⟨a0,F⟩:=f.flying
 refine wpAny_leaves_onW hfr hf F fun h' F' u=>?_
 obtain⟨T',x,y,z⟩:=Past.of f.fr F' u
 exact k h' T' x y z
theorem fly_note (hfr:A.frames = some (env :: outer)) (hf:env.frame.isSome = true) (f:Fly (env :: outer) e T cls s.heap)
 (k:∀ h' T',Fly (env :: outer) e T' cls h'->Past (env :: outer) e T s.heap h'->(T' = T\/s.heap.get? T' = none)->Q () { s with heap:=h' }):
 wpAny M A (noteFrame (.ref e) env) (fun _ s'=>wpAny M A (setFlight (.ref e) none) Q E s') E s:=by
 obtain⟨L,hf⟩:=Option.isSome_iff_exists.mp hf
 obtain⟨a0,F⟩:=f.flying
 refine wpAny_looks_onW hfr hf F fun h1 F1 u1=>wpAny_landsW F1 fun h2 F2 u2=>?_
 obtain⟨T',x,y,z⟩:=Past.of f.fr F2 (u1.trans u2)
 exact k h2 T' x y z
theorem fly_land (f:Fly outer e T cls s.heap) (k:∀ h' T',Fly outer e T' cls h'->Past outer e T s.heap h'->(T' = T\/s.heap.get? T' = none)->Q () { s with heap:=h' }):wpAny M A (setFlight (.ref e) none) Q E s:=by
 obtain⟨a0,F⟩:=f.flying
 refine lands_againW F fun h1 F1 u1=>?_
 obtain⟨T',x,y,z⟩:=Past.of f.fr F1 u1
 exact k h1 T' x y z
theorem fly_begin {h:Heap}{args:List Value} (hfr:A.frames = some (env :: outer)) (hf:env.frame.isSome = true) (f:FrOk (env :: outer) h) (hx:Heap.MadeExcOf h s.heap e cls args)
 (k:∀ h' T',Fly outer e T' cls h'->(∀ b o,h.get? b = some o->b∉frs (env :: outer)->h'.get? b = some o)->(∀ b o,h.get? b = some o->b∈frs (env :: outer)->∃ sl,h'.get? b = some { o with slots:=sl })->h.get? T' = none->Q () { s with heap:=h' }):
 wpAny M A (leaving env (.ref e)) Q E s:=by
 obtain⟨L,hf⟩:=Option.isSome_iff_exists.mp hf
 have hb:∀ b∈frs (env :: outer),(PySem.W.hideAll h (frs (env :: outer))).get? b = none:=fun b hb=>PySem.W.hideAll_none _ hb
 refine wpAny_leaves_madeW (base:=PySem.W.hideAll h (frs (env :: outer))) hfr hf (fun b o q=>PySem.W.of_hideAll _ q) (funFr f hb) hx fun h' t F _ _ u=>?_
 obtain⟨st,ne,ff,oe,vs,T',oT,ts,h1,⟨h2',h4⟩,h3,h5,hbT,hne,h6,h7,h8⟩:=F
 have hs:∀ b o,h.get? b = some o->b∈frs (env :: outer)->∃ sl,h'.get? b = some { o with slots:=sl }:=fun b o q hb=>by
  obtain⟨o',q',hd⟩:=f.mem hb
  rw [q] at q';cases q'
  exact u b o (hx.keeps b o q) hd
 refine k h' T' ⟨frOf ff,hne,oe,vs,oT,ts,_,h1,h2',h3,h4,h5,h6,h7,h8⟩ (fun b o q n=>st b o (PySem.W.hideAll_get _ q n)) hs ?_
 cases q:h.get? T' with
 | none=>rfl
 | some o=>
  by_cases n3:T'∈frs (env :: outer)
  · obtain⟨o',q',hd⟩:=f.mem n3
    obtain⟨sl,z⟩:=hs T' o' q' n3
    rw [h6] at z;cases z
    exact absurd h7 (hd ts)
  · rw [PySem.W.hideAll_get _ q n3] at hbT;cases hbT
def CXF (P:Program) (w:World):CXT:=fun outer H s E e s'=>∃ (ea T:Addr) (cls:Value) (H':Hp),e = .ref ea/\s'.os = s.os/\AllBare s'.gens/\Un (frs outer) [] H H' s.heap s'.heap/\HOk P w H' s'.heap/\
 s.heap.get? ea = none/\s.heap.get? T = none/\H' ea = none/\H' T = none/\Fly outer ea T cls s'.heap/\E cls none H'
theorem Past.hok (p:Past l e T h h') (ok:HOk P w H h) (he:H e = none) (hT:H T = none) (hf:∀ b∈frs l,H b = none):HOk P w H h':=fun a o q=>by
 refine (ok a o q).stay (fun b u hb z=>p.keep b u z ?_ ?_ ?_) (fun _ z=>z) fun _ _ z=>z
 · rintro rfl
   grind
 · rintro rfl
   grind
 · intro hm
   simp_all
theorem Past.un (p:Past l e T h h') (u:Un fs [] H0 H h0 h) (h1:h0.get? e = none) (h2:h0.get? T = none) (hl:∀ b∈frs l,b∈fs\/h0.get? b = none):Un fs [] H0 H h0 h':=by
 have n1:∀ {b o},h0.get? b = some o->b≠e:=fun q z=>by grind
 have n2:∀ {b o},h0.get? b = some o->b≠T:=fun q z=>by grind
 have n3:∀ {b o},h0.get? b = some o->b∈frs l->b∈fs:=fun {b o} q z=>by grind
 refine⟨fun b o q n hb _=>?_,fun b o q n hb _=>?_,u.free,fun b o q _=>?_,u.tups,u.frzs,u.tbls⟩
 · exact p.keep b o (u.keep b o q n hb (by simp)) (n1 q) (n2 q) fun z=>hb (n3 q z)
 · obtain⟨sl,q1⟩:=u.slot b o q n hb (by simp)
   by_cases z:b∈frs l
   · obtain⟨sl',q2⟩:=p.slot b _ q1 z
     exact⟨sl',q2⟩
   · exact⟨sl,p.keep b _ q1 (n1 q) (n2 q) z⟩
 · obtain⟨o',q1⟩:=u.there b o q (by simp)
   exact p.there b o' q1 (n2 q)
section
variable {K:PySem.W.Frag}
theorem passF:Passes (CXF P w) (cxOf (CXF P w) P w K mg base N qual scope f cd A outer s H E) E:=by
 intro pins σ H1 s1 e s2 I h
 obtain⟨ea,T,cls,H2,rfl,os,bare,un,hok,he,hT,he2,hT2,fly,hE⟩:=h
 have J:=I.call' os un hok bare (fun _ z=>nomatch z)
 have b0:∀ b o,s.heap.get? b = some o->∃ o',s1.heap.get? b = some o':=fun b o q=>I.base.there b o q (by show b∉([]:List Addr);simp)
 have n0:∀ b,s1.heap.get? b = none->s.heap.get? b = none:=fun b q=>by
  cases z:s.heap.get? b with
  | none=>rfl
  | some o=>obtain⟨o',y⟩:=b0 b o z;rw [q] at y;cases y
 refine fly_leave (env:=envOfC qual scope s.heap.objs.size f cd) (outer:=outer) I.ok.frames rfl fly fun h' T' f' p hT'=>?_
 have hT3:s.heap.get? T' = none:=by
  rcases hT' with rfl | z
  · exact n0 _ hT
  · cases y:s.heap.get? T' with
    | none=>rfl
    | some o=>
     obtain⟨o',x⟩:=J.base.there T' o y (by show T'∉([]:List Addr);simp)
     rw [z] at x;cases x
 have hT4:H2 T' = none:=by
  rcases hT' with rfl | z
  · exact hT2
  · exact hokNone hok z
 refine⟨ea,T',cls,H2,rfl,J.os,bare,p.un J.base (n0 _ he) (n0 _ hT) fun b hb=>?_,p.hok hok he2 hT2 J.stkFree,n0 _ he,hT3,he2,hT4,f',hE⟩
 have hb':b∈s.heap.objs.size :: frs outer:=J.stkSub b hb
 rcases List.mem_cons.mp hb' with z | z
 · exact .inr (by rw [z];exact Heap.get?_none_of_le (Nat.le_refl _))
 · exact .inl z
def Throws (X:Cx) (E:XK):Prop:=∀ (pins:List (Addr×Obj)) (σ:L2.St) (H:Hp) (s:Shared) (h':Heap) (e:Addr) (cls:Value) (args:List Value),Inv X pins σ H s->Heap.MadeExcOf s.heap h' e cls args->E cls none H->X.xe (.ref e) { s with heap:=h' }
theorem throwF:Throws (cxOf (CXF P w) P w K mg base N qual scope f cd A outer s H E) E:=by
 intro pins σ H1 s1 h1 e cls args I hx hE
 have fr:FrOk (envOfC qual scope s.heap.objs.size f cd :: outer) s1.heap:=frOf I.stack
 have hb0:∀ b,s1.heap.get? b = none->s.heap.get? b = none:=fun b q=>by
  cases z:s.heap.get? b with
  | none=>rfl
  | some o=>obtain⟨o',y⟩:=I.base.there b o z (by show b∉([]:List Addr);simp);rw [q] at y;cases y
 refine fly_begin (env:=envOfC qual scope s.heap.objs.size f cd) (outer:=outer) (h:=s1.heap) I.ok.frames rfl fr hx fun h' T' f' keep slot hT=>?_
 have hl:∀ b∈frs (envOfC qual scope s.heap.objs.size f cd :: outer),b∈frs outer\/s.heap.get? b = none:=fun b hb=>by
  have hb':b∈s.heap.objs.size :: frs outer:=I.stkSub b hb
  rcases List.mem_cons.mp hb' with z | z
  · exact .inr (by rw [z];exact Heap.get?_none_of_le (Nat.le_refl _))
  · exact .inl z
 have hfree:∀ b∈frs (envOfC qual scope s.heap.objs.size f cd :: outer),H1 b = none:=I.stkFree
 have un:Un (frs outer) [] H H1 s.heap h':=by
  have u:=I.base
  refine⟨fun b o q n hb _=>?_,fun b o q n hb _=>?_,fun b o q n _=>u.free b o q n (by show b∉([]:List Addr);simp),fun b o q _=>?_,u.tups,u.frzs,u.tbls⟩
  · refine keep b o (u.keep b o q n hb (by show b∉([]:List Addr);simp)) fun z=>?_
    rcases hl b z with y | y
    · exact hb y
    · rw [y] at q;cases q
  · obtain⟨sl,q1⟩:=u.slot b o q n hb (by show b∉([]:List Addr);simp)
    by_cases z:b∈frs (envOfC qual scope s.heap.objs.size f cd :: outer)
    · obtain⟨sl',q2⟩:=slot b _ q1 z
      exact⟨sl',q2⟩
    · exact⟨sl,keep b _ q1 z⟩
  · obtain⟨o',q1⟩:=u.there b o q (by show b∉([]:List Addr);simp)
    by_cases z:b∈frs (envOfC qual scope s.heap.objs.size f cd :: outer)
    · obtain⟨sl',q2⟩:=slot b _ q1 z
      exact⟨_,q2⟩
    · exact⟨_,keep b _ q1 z⟩
 have hok:HOk P w H1 h':=fun a o q=>by
  refine (I.hok a o q).stay (fun b u hb z=>keep b u z fun hm=>?_) (fun _ z=>z) fun _ _ z=>z
  simp_all
 exact⟨e,T',cls,H1,rfl,I.os,I.bare,un,hok,hb0 e hx.new,hb0 T' hT,hokNone I.hok hx.new,hokNone I.hok hT,f',hE⟩
end
structure OwnE (K:PySem.W.Frag) (C:Addr):Prop where
 q:PySem.W.excIn K C [.type "ValueError",.type "Exception",.type "BaseException",.type "object"] "ValueError.__new__" = true
theorem OwnE.obj {K:PySem.W.Frag}{C:Addr}{h:Heap} (O:OwnE K C) (X:K.In h):∃ bm N nm q bs hdct sn sub ab col dd k0 k1 k2 k3 k5 mN,h.get? C = some (excClassObj nm q C N bs bm hdct sn sub ab col dd k0 k1 k2 k3 k5 "ValueError.__new__")/\h.Ns N mN/\mN "__init__" = none/\
 OwnTail h [.type "ValueError",.type "Exception",.type "BaseException",.type "object"] bm:=by
 have q:=O.q
 unfold PySem.W.excIn at q
 split at q
 · rename_i dd cl sl lk
   split at q
   · rename_i C1 bm a0 a1 a2 a3 n a5 em es
     simp only [Bool.and_eq_true,beq_iff_eq,Bool.not_eq_true'] at q
     obtain⟨⟨⟨⟨⟨e1,e2⟩,e3⟩,e4⟩,e5⟩,e6⟩:=q
     subst e1;subst e2
     obtain⟨c1,c2,c3,c4,c5,c6,c7,c8,c9,c10,c11⟩:=cl
     dsimp only at em e3 e5 e6
     subst em;subst e3
     have hsl:sl = #[a0,a1,a2,a3,some (.builtin "ValueError.__new__"),a5]:=by
      cases sl with
      | mk l=>simp only at es;rw [es]
     subst hsl
     exact⟨bm,c4,c1,c5,c2,c6,c7,c8,c9,c10,dd,a0,a1,a2,a3,a5,_,X _ _ lk,.of_isNs (PySem.W.isNs_of_in X e5),PySem.W.nsMap_none_of_in X e5 e6,PySem.W.tail_of_in X e4⟩
   · cases q
 · cases q
section
variable {np cpos pos:Pos}
def tRaise (C:Addr) (E:XK) (te:TE):TS:=fun _ σ H=>te σ H fun _ H1=>E (.ref C) none H1
theorem ps_raise (O:OwnE X.K C) (hm:X.mg x = some (.ref C)) (hg:Gl X x) (hc:X.calm = true) (ht:Throws X E) (he:PE X e0 te) (hdb:(x == ("__debug__" : Str)) = false:=by decide)
 (hst:starEach [e0] X.env = [(false,eval e0 X.env)]:=by rfl):PS X (.Raise (some (.Call (.Name x np) [e0] [] cpos)) none pos) (tRaise C E te):=by
 intro pins s σ H D I h
 obtain⟨bm,N,nm,q,bs,hdct,sn,sub,ab,col,dd,k0,k1,k2,k3,k5,mN,hC,hN,hni,T⟩:=O.obj I.ok.mod.kin
 refine wpAny_Raise_call_subT (nm:=nm) (q:=q) (N:=N) (bs:=bs) (hdct:=hdct) (sn:=sn) (sub:=sub) (ab:=ab) (col:=col) (dd:=dd) (k0:=k0) (k1:=k1) (k2:=k2) (k3:=k3) (k5:=k5)
  F.excBase_ValueError (T.hasType F.excBase_ValueError.hasBase) (I.ok.hd hc) (by rw [hst];rfl) hni (ld_glob I hg hm ⟨rfl,?_⟩ hdb)
 rw [hst]
 refine Calls.evalArgs_plain (Calls.spliced_cons (thn (he pins s σ H _ I h) fun u s1 ⟨v,H1,I1,r1,q1⟩=>Calls.spliced_nil ?_))
 exact⟨rfl,by show 1<=sizeLine;decide,I1.bk _ _ hC,hN.keeps I1.bk,T.keeps I1.bk,fun h' e hx=>ht pins σ H1 s1 h' e _ _ I1 hx q1⟩
def ExcO (e C:Addr):HO:=.ext (ExcAt e C)
theorem excO_ok (x:ExcAt e C h):ObjOk P w H h e (ExcO e C):=by
 obtain⟨o,h1,h2⟩:=id x
 exact⟨x,⟨o,h1⟩,fun a b ⟨o',q1,q2⟩ k=>⟨o',k o' q1,q2⟩⟩
inductive TyX (K:PySem.W.Frag) (H:Hp):V->Value->Prop where
 | of {v:V}{t:Value} (h:TyOf K H v t):TyX K H v t
 | exc {e C:Addr} (h:H e = some (ExcO e C)) (T:ExcC K C):TyX K H (.ref e) (.ref C)
theorem isinstX {σ:L2.St} (I:Inv X pins σ H s) (rx:RelV y u) (ty:TyX X.K H y t) (hk:PySem.W.kitOne X.K t c = some b)
 (h:∀ tk,Q (.bool b) { s with toks:=tk }):wpAny (model X.prog X.w) A (call (.builtin "isinstance") [u,c]) Q Eo s:=by
 cases ty with
 | of z=>exact isinst_ok I rx z hk h
 | @exc e C z T=>
  cases (rx)
  obtain⟨p,_⟩:=(I.hok e _ z)
  exact PySem.W.kia_one (kitx_exc T) I.kIn p hk (fun z=>nomatch z) h
theorem isinstXs {σ:L2.St}{H:Hp}{u:Value} (I:Inv X pins σ H s) (z:H e = some (ExcO e C)) (T:ExcC X.K C)
 (htp:IsTup s.heap tp its.toArray) (hk:PySem.W.kitAny X.K (.ref C) its = some b) (h:∀ tk,Q (.bool b) { s with toks:=tk }):wpAny (model X.prog X.w) A (call (.builtin "isinstance") [.ref e,.ref tp]) Q Eo s:=by
 obtain⟨p,_⟩:=(I.hok e _ z)
 obtain⟨⟨oc,od,odt,osl⟩,h1,h2,n,h3⟩:=htp
 have e1:=h2
 have e2:=h3
 subst e1;subst e2
 exact PySem.W.kia_tup (kitx_exc T) I.kIn p h1 hk (fun z=>nomatch z) h
end
section
variable {σ:L2.St}
theorem nsNe {h:Heap} (n:h.Ns a m) (e:h.get? b = some o) (d:o.data = .fields vs):a≠b:=by
 obtain⟨o',es,ep,h1,h2,_⟩:=n
 grind
theorem cellNe {h:Heap} (n:h.IsCell a v) (e:h.get? b = some o) (d:o.data = .fields vs):a≠b:=by
 obtain⟨o',h1,h2⟩:=n
 grind
structure Apart (X:Cx) (pins:List (Addr×Obj)) (H:Hp) (ea T:Addr):Prop where
 pin:∀ p∈X.pn ++ pins,p.1≠ea/\p.1≠T
 s0:X.s₀.heap.get? ea = none
 t0:X.s₀.heap.get? T = none
 he:H ea = none
 hT:H T = none
theorem invPast (I:Inv X pins σ H s) (a:Apart X pins H ea T) (f:Fly X.stack ea T cls s.heap) (p:Past X.stack ea T s.heap h'):Inv X pins σ H { s with heap:=h' }:=by
 obtain⟨oe,vs,oT,ts,a0,f1,f2,f3,f4,f5,f6,f7,f8⟩:=f.at_
 obtain⟨m,hn,hl⟩:=I.loc
 have z0:∀ b o,X.s₀.heap.get? b = some o->b≠ea/\b≠T/\(b∈frs X.stack->b∈X.fs):=fun b o q=>by
  refine⟨fun z=>(by rw [z,a.s0] at q;cases q),fun z=>(by rw [z,a.t0] at q;cases q),fun z=>?_⟩
  rcases List.mem_cons.mp (I.stkSub b z) with y | y
  · exact absurd y (Nat.ne_of_lt (Nat.lt_of_lt_of_le (Heap.lt_size q) I.ok.above))
  · exact y
 have any:=fun b o q n1 n2=>by
  by_cases z:b∈frs X.stack
  · exact p.slot b o q z
  · exact⟨o.slots,p.keep b o q n1 n2 z⟩
 have hn':h'.Ns X.env.locals m:=by
  obtain⟨o,es,ep,h1,h2,r⟩:=id hn
  obtain⟨sl,q⟩:=any _ o h1 (nsNe hn f1 f3) (nsNe hn f6 f7)
  exact⟨_,es,ep,q,h2,r⟩
 have cel:∀ x c v,X.env.cells.lookup x = some c->s.heap.IsCell c v->h'.IsCell c v:=fun x c v e y=>by
  obtain⟨o,h1,h2⟩:=id y
  obtain⟨sl,q⟩:=any c o h1 (cellNe y f1 f3) (cellNe y f6 f7)
  exact⟨_,q,h2⟩
 refine⟨I.ok,I.os,I.bare,⟨fun b o q n hb hx=>?_,fun b o q n hb hx=>?_,I.base.free,fun b o q hx=>?_,I.base.tups,I.base.frzs,I.base.tbls⟩,⟨m,hn',fun i x v e1 e2 e3=>?_⟩,fun x c e=>?_,I.free,I.freeC,fun pp hp=>?_,p.hok I.hok a.he a.hT I.stkFree,I.len⟩
 · obtain⟨n1,n2,n3⟩:=z0 b o q
   exact p.keep b o (I.base.keep b o q n hb hx) n1 n2 fun z=>hb (n3 z)
 · obtain⟨n1,n2,n3⟩:=z0 b o q
   obtain⟨sl,q1⟩:=I.base.slot b o q n hb hx
   obtain⟨sl',q2⟩:=any b _ q1 n1 n2
   exact⟨sl',q2⟩
 · obtain⟨n1,n2,n3⟩:=z0 b o q
   obtain⟨o',q1⟩:=I.base.there b o q hx
   exact p.there b o' q1 n2
 · obtain⟨u,r,l⟩:=hl i x v e1 e2 e3
   refine⟨u,r,?_⟩
   rcases l with l | ⟨k,c,e,y⟩
   · exact .inl l
   · exact .inr ⟨k,c,e,cel x c _ e y⟩
 · obtain⟨v,y⟩:=I.cell x c e
   exact⟨v,cel x c v e y⟩
 · obtain⟨q,n,ne,nf,d⟩:=I.pin pp hp
   refine⟨p.keep _ _ q (a.pin pp hp).1 (a.pin pp hp).2 fun z=>?_,n,ne,nf,d⟩
   rcases List.mem_cons.mp (I.stkSub _ z) with y | y
   · exact ne y
   · exact nf y
theorem invTrack {o:HO} (I:Inv X pins σ H s) (a:Apart X pins H ea T) (f:Fly X.stack ea T cls s.heap) (new:ObjOk X.prog X.w (upd H ea o) s.heap ea o):Inv X pins σ (upd H ea o) s:=by
 obtain⟨oe,vs,oT,ts,a0,f1,f2,f3,f4,f5,f6,f7,f8⟩:=f.at_
 obtain⟨m,hn,hl⟩:=I.loc
 have nt:∀ b u,H b = some u->b≠ea:=fun b u q z=>by rw [z,a.he] at q;cases q
 refine⟨I.ok,I.os,I.bare,⟨I.base.keep,I.base.slot,fun b o' q n hx=>?_,I.base.there,fun b xs q=>?_,fun b u xs q=>?_,fun b ps q=>?_⟩,I.loc,I.cell,?_,fun x c e=>?_,fun pp hp=>?_,fun b u q=>?_,I.len⟩
 · rw [upd_ne (fun z=>by rw [z,a.s0] at q;cases q)];exact I.base.free b o' q n hx
 · have:=I.base.tups b xs q;rw [upd_ne (nt b _ this)];exact this
 · have:=I.base.frzs b u xs q;rw [upd_ne (nt b _ this)];exact this
 · obtain⟨more,q1⟩:=I.base.tbls b ps q;exact⟨more,by rw [upd_ne (nt b _ q1)];exact q1⟩
 · rw [upd_ne (nsNe hn f1 f3)];exact I.free
 · obtain⟨v,y⟩:=I.cell x c e
   rw [upd_ne (cellNe y f1 f3)];exact I.freeC x c e
 · obtain⟨q,n,ne,nf,d⟩:=I.pin pp hp
   exact⟨q,by rw [upd_ne (a.pin pp hp).1];exact n,ne,nf,d⟩
 · by_cases z:b = ea
   · subst z;rw [upd_same] at q;cases q;exact new
   · rw [upd_ne z] at q
     exact (I.hok b u q).stay (fun c v _ y=>y) (fun c y=>by rw [upd_ne (nt c _ y)];exact y) fun c xs y=>by rw [upd_ne (nt c _ y)];exact y
theorem unbindOk {M:Model}{A:Around}{E:Value->Shared->Prop}{i:Nat}{x:Str}{pos:Pos}{Q:Unit->Shared->Prop} (I:Inv X pins σ H s) (hN:X.N.Nodup) (hi:X.N[i]? = some x) (hx:X.env.scope.names.lookup x = some .local)
 (h:∀ s',Inv X pins (σ.set i none) H s'->Q () s'):wpAny M A (do bindName X.env x .none;unbindBehindTheSuite X.env x pos) Q E s:=by
 obtain⟨m,hn,hl⟩:=id I.loc
 have hiσ:i < σ.length:=by rw [I.len];exact (List.getElem?_eq_some_iff.mp hi).1
 refine wpAny_nameGoes_keeps hx hn (by rw [I.ok.kind];rfl) fun h' v hn' hs=>?_
 obtain⟨oL,_,_,hoL,_⟩:=id hn
 have lt:∀ b o,X.s₀.heap.get? b = some o->b≠X.env.locals:=fun b o e=>Nat.ne_of_lt (Nat.lt_of_lt_of_le (Heap.lt_size e) I.ok.above)
 refine h _ ⟨I.ok,I.os,I.bare,⟨fun b o e n hb hx=>?_,fun b o e n hb hx=>?_,I.base.free,fun b o e hx=>?_,I.base.tups,I.base.frzs,I.base.tbls⟩,⟨_,hn',fun j y v' e1 e2 e3=>?_⟩,fun y c e=>?_,I.free,I.freeC,fun p hp=>?_,fun b ob e=>?_,by simpa using I.len⟩
 · exact (hs.2 b (lt b o e)).trans (I.base.keep b o e n hb hx)
 · obtain⟨sl,e1⟩:=I.base.slot b o e n hb hx
   exact⟨sl,(hs.2 b (lt b o e)).trans e1⟩
 · obtain⟨o',e1⟩:=I.base.there b o e hx
   exact⟨o',(hs.2 b (lt b o e)).trans e1⟩
 · by_cases hj:j = i
   · subst hj;rw [List.getElem?_set_self hiσ] at e2;cases e2
   · rw [List.getElem?_set_ne (Ne.symm hj)] at e2
     obtain⟨u',r',q⟩:=hl j y v' e1 e2 e3
     refine⟨u',r',?_⟩
     rcases q with ⟨k,e⟩ | ⟨k,c,e,z⟩
     · refine .inl ⟨k,?_⟩
       have ne:y≠x:=fun e=>hj (nodup_ix hN e1 (e▸hi))
       simp [ne,e]
     · exact .inr ⟨k,c,e,z.sameBut hs (I.cne y c e)⟩
 · obtain⟨w',z⟩:=I.cell y c e
   exact⟨w',z.sameBut hs (I.cne y c e)⟩
 · obtain⟨e,n,ne,nf,d⟩:=I.pin p hp
   exact⟨(hs.2 p.1 ne).trans e,n,ne,nf,d⟩
 · refine (I.hok b ob e).stay (fun c w' hc q=>(hs.2 c ?_).trans q) (fun _ q=>q) fun _ _ q=>q
   rintro rfl
   rcases hc with hc | hc
   · rw [<- hc,I.free] at e;cases e
   · rw [I.free] at hc;cases hc
end
abbrev XS:=Value->L2.St->Hp->Prop
abbrev TSx:=Ends->XS->L2.St->Hp->Prop
abbrev TEx:=L2.St->Hp->VK->XS->Prop
def XP (X:Cx) (pins:List (Addr×Obj)) (E:XS) (e:Value) (s':Shared):Prop:=∃ (ea T:Addr) (cls:Value) (σ':L2.St) (H':Hp),e = .ref ea/\Inv X pins σ' H' s'/\Apart X pins H' ea T/\Fly X.stack ea T cls s'.heap/\E cls σ' H'
def PEx (X:Cx) (e:Expr) (t:TEx):Prop:=
 ∀ (pins:List (Addr×Obj)) (s:Shared) (σ:L2.St) (H:Hp) (Q:VK) (E:XS),Inv X pins σ H s->t σ H Q E->wpAny (model X.prog X.w) X.A (eval e X.env) (EP X pins σ Q) (XP X pins E) s
def PSx (X:Cx) (st:Stmt) (t:TSx):Prop:=
 ∀ (pins:List (Addr×Obj)) (s:Shared) (σ:L2.St) (H:Hp) (D:Ends) (E:XS),Inv X pins σ H s->t D E σ H->wpAny (model X.prog X.w) X.A (exec st X.env) (SP X pins D) (XP X pins E) s
def PSsx (X:Cx) (st:List Stmt) (t:TSx):Prop:=
 ∀ (pins:List (Addr×Obj)) (s:Shared) (σ:L2.St) (H:Hp) (D:Ends) (E:XS),Inv X pins σ H s->t D E σ H->wpAny (model X.prog X.w) X.A (execs st X.env) (SP X pins D) (XP X pins E) s
section
variable {st:Stmt}
def tNextx:TSx:=fun D _ σ H=>D.nx σ H
def tSeqx (t u:TSx):TSx:=fun D E σ H=>t { D with nx:=fun σ' H'=>u D E σ' H' } E σ H
theorem pssx_nil:PSsx X [] tNextx:=fun _ _ σ H _ _ I h=>wpAny_execs_nil ⟨σ,H,I,h⟩
theorem pssx_cons (h1:PSx X st t) (h2:PSsx X sts u):PSsx X (st :: sts) (tSeqx t u):=by
 intro pins s σ H D E I h
 refine wpAny_execs_cons (thn (h1 pins s σ H { D with nx:=fun σ' H'=>u D E σ' H' } E I h) fun f s1 q=>?_)
 cases f with
 | next=>
  obtain⟨σ',H',I',q⟩:=q
  exact h2 pins s1 σ' H' D E I' q
 | ret v=>exact q
 | brk=>exact q
 | cont=>exact q
def tSetx (i:Nat) (te:TEx):TSx:=fun D E σ H=>te σ H (fun v H1=>D.nx (σ.set i (some v)) H1) E
theorem psx_set (hN:X.N.Nodup) (hi:At X.N i x) (hx:X.env.scope.names.lookup x = some .local) (hs:swapsWith e (some (.Name x pos')) pos.line X.env = pure false) (he:PEx X e te):PSx X (.Assign [.Name x pos'] e pos) (tSetx i te):=by
 intro pins s σ H D E I h
 refine wpAny_Assign_Name (thn (he pins s σ H _ E I h) fun v s1 ⟨y,H1,I1,r1,q1⟩=>?_) hs
 exact store_ok I1 hN hi.get (.inl hx) r1 (fun s2 I2=>⟨_,H1,I2,q1⟩) (.inr hx)
def tCallx (sp:Sp) (t:TA):TEx:=fun σ H Q E=>t σ H fun vs H1=>sp vs H1 Q fun cls _ H2=>E cls σ H2
theorem pex_call (c:Callee (CXF X.prog X.w) X.prog X.w X.K X.mg X.base x k ps sp) (hr:Room k X.A) (hg:Gl X x) (hdb:(x == ("__debug__" : Str)) = false)
 (he:starEach (e :: es) X.env = (false,eval e X.env) :: starEach es X.env) (hpl:(backTo pos (starEach es X.env)).any (·.1) = false) (hex:X.ex = []) (ha:PA X.nox (e :: es) t):PEx X (.Call (.Name x p) (e :: es) [] pos) (tCallx sp t):=by
 intro pins s σ H Q E I h
 obtain⟨f,fd,F,hm,hk,hb⟩:=c.ex
 refine wpAny_Call_Name_kw (ld_glob I hg hm ?_ hdb)
 refine PySem.W.callWith_K (h₀:=X.base) I.ok.mod.kin hk (wpAny_mono (ha pos pins s σ H _ (I.wish _) h) (fun us s1 ⟨vs,H1,I0,r,q⟩=>?_) fun _ _ z=>False.elim z) he hpl
 have I1:=I0.unwish
 refine⟨I1.kIn,?_⟩
 have hl:(us ++ []).length = ps.length:=by rw [List.append_nil,<- r.length];exact F.len _ _ _ _ q
 have hb':=hb s1 us I1.kIn hl
 rw [List.append_nil] at hb'
 refine wpAny_call (codeAny_mono (F.run X.A X.stack s1 H1 ⟨us,[]⟩ us vs Q _ hr I1.env0 hb' r q) fun rr s' hq=>?_)
 cases rr with
 | error ev=>
  obtain⟨ea,T,cls,H2,rfl,os,bare,un,hok,he',hT,he2,hT2,fly,hE⟩:=hq
  have old:∀ b,s1.heap.get? b = none->X.s₀.heap.get? b = none:=fun b z=>by
   cases y:X.s₀.heap.get? b with
   | none=>rfl
   | some o=>
    obtain⟨o',q'⟩:=I1.base.there b o y (by rw [hex];simp)
    rw [z] at q';cases q'
  exact⟨ea,T,cls,σ,H2,rfl,I1.call' os un hok bare (fun _ z=>nomatch z),⟨fun pp hp=>⟨fun z=>(by have:=(I1.pin pp hp).1;grind),fun z=>(by have:=(I1.pin pp hp).1;rw [z,hT] at this;cases this)⟩,old _ he',old _ hT,he2,hT2⟩,fly,hE⟩
 | ok fl=>
  cases fl with
  | ret u=>exact I1.after hq
  | next=>exact False.elim hq
  | brk=>exact False.elim hq
  | cont=>exact False.elim hq
theorem Apart.next {σ:L2.St} (a:Apart X pins H ea T) (I:Inv X pins σ H s) (hex:X.ex = []) (h:T' = T\/s.heap.get? T' = none):Apart X pins H ea T':=by
 rcases h with rfl | z
 · omega
 · refine⟨fun p hp=>⟨(a.pin p hp).1,fun y=>(by have q:=(I.pin p hp).1;grind)⟩,a.s0,?_,a.he,hokNone I.hok z⟩
   cases y:X.s₀.heap.get? T' with
   | none=>rfl
   | some o=>
    obtain⟨o',q⟩:=I.base.there T' o y (by grind)
    grind
abbrev mkd (X:Cx) (ea:Addr):Cx:={ X with A:=X.A.mark (some (.ref ea)),calm:=false,xe:=fun _ _=>False }
theorem mkd_inv {σ:L2.St} (I:Inv X pins σ H s):Inv (mkd X ea) pins σ H s:=
 ⟨⟨I.ok.mod,I.ok.kind,I.ok.glob,I.ok.blt,I.ok.above,I.ok.inj,I.ok.has,I.ok.cab,fun z=>(by cases z),I.ok.frames,I.ok.stk,I.ok.exf,I.ok.bs,I.ok.bsz,I.ok.noex,I.ok.exfs,I.ok.funs,I.ok.frf⟩,I.os,I.bare,I.base,I.loc,I.cell,I.free,I.freeC,I.pin,I.hok,I.len⟩
theorem unmkd {σ σ':L2.St} (I:Inv (mkd X ea) pins σ H s) (I0:Inv X pins σ' H' s'):Inv X pins σ H s:=
 ⟨I0.ok,I.os,I.bare,I.base,I.loc,I.cell,I.free,I.freeC,I.pin,I.hok,I.len⟩
def tTryAs (K:PySem.W.Frag) (c:Value) (i:Nat) (tb:TSx) (ts:TS):TS:=fun D σ H=>tb D (fun cls σ1 H1=>PySem.W.exmOne K cls c = some true/\∃ C,cls = .ref C/\∀ ea,H1 ea = none->
 ts { nx:=fun σ2 H2=>D.nx (σ2.set i none) H2,rt:=D.rt,bk:=fun σ2 H2=>D.bk (σ2.set i none) H2,ct:=fun σ2 H2=>D.ct (σ2.set i none) H2 } (σ1.set i (some (.ref ea))) (upd H1 ea (ExcO ea C))) σ H
theorem ps_tryAs (hex:X.ex = []) (hstk:X.stack = X.env :: X.outer) (hfr:X.env.frame = some X.env.locals) (hN:X.N.Nodup) (hi:At X.N i n) (hn:X.env.scope.names.lookup n = some .local)
 (hg:Gl X x) (hm:X.mg x = some c) (hdb:(x == ("__debug__" : Str)) = false) (hb:PSsx X body tb) (hs:∀ ea,PSs (mkd X ea) (b0 :: suite) ts):
 PS X (.Try body [.ExceptHandler (some (.Name x np)) (some n) (b0 :: suite) hpos] [] [] pos) (tTryAs X.K c i tb ts):=by
 intro pins s σ H D I h
 refine wpAny_Try_except (wpAny_mono (hb pins s σ H D _ I h) (fun f s1 q=>?_) fun e s1 q=>?_)
 · cases f with
   | next=>exact wpAny_execs_nil q
   | ret v=>exact q
   | brk=>exact q
   | cont=>exact q
 · obtain⟨ea,T,cls,σ1,H1,rfl,I1,ap,fly,hx,C,rfl,hk⟩:=q
   have fr':X.A.frames = some (X.env :: X.outer):=by rw [<- hstk];exact I.ok.frames
   rw [hstk] at fly
   refine fly_note fr' (by rw [hfr];rfl) fly fun h2 T2 fly2 p2 hT2=>?_
   rw [<- hstk] at fly fly2 p2
   have I2:=invPast I1 ap fly p2
   have ap2:=ap.next I1 hex hT2
   have hty:PySem.W.Looks (model X.prog X.w) h2 (typeOf (.ref ea)) (.ref C):=by
    obtain⟨oe,vs,oT,ts',a0,f1,f2,_⟩:=fly2.at_
    exact ExcAt.ty ⟨oe,f1,f2⟩
   refine wpAny_handleBy_cons (codeAny_handlers_test ?_) (by intro q;cases q)
   refine ld_glob (mkd_inv (ea:=ea) I2) hg hm ?_ hdb
   refine (PySem.W.exm_one I2.kIn hty hx).here ?_
   show codeAny _ _ _ _ _
   refine codeAny_handlers_suite_as ?_
   refine fly_land fly2 fun h3 T3 fly3 p3 hT3=>?_
   have I3:=invPast I2 ap2 fly2 p3
   have ap3:=ap2.next I2 hex hT3
   have exc:ExcAt ea C h3:=by
    obtain⟨oe,vs,oT,ts',a0,f1,f2,_⟩:=fly3.at_
    exact⟨oe,f1,f2⟩
   have I4:=invTrack I3 ap3 fly3 (o:=ExcO ea C) (excO_ok exc)
   refine store_ok I4 hN hi.get (.inl hn) (v:=.ref ea) rfl (fun s5 I5=>?_) (.inr hn)
   refine wpAny_mono (hs ea pins s5 _ _ _ (mkd_inv (ea:=ea) I5) (hk ea ap.he)) (fun f s6 q=>?_) fun _ _ z=>False.elim z
   cases f with
   | next=>
    obtain⟨σ',H',I',q⟩:=q
    exact unbindOk (unmkd I' I) hN hi.get hn fun s7 I7=>⟨_,H',I7,q⟩
   | ret v=>
    obtain⟨v',σ',H',I',r',q⟩:=q
    exact unbindOk (unmkd I' I) hN hi.get hn fun s7 I7=>⟨v',_,H',I7,r',q⟩
   | brk=>
    obtain⟨σ',H',I',q⟩:=q
    exact unbindOk (unmkd I' I) hN hi.get hn fun s7 I7=>⟨_,H',I7,q⟩
   | cont=>
    obtain⟨σ',H',I',q⟩:=q
    exact unbindOk (unmkd I' I) hN hi.get hn fun s7 I7=>⟨_,H',I7,q⟩
end
def mroE (C B:Addr):List Value:=[.ref C,.ref B,.type "ValueError",.type "Exception",.type "BaseException",.type "object"]
def eclsIn (K:PySem.W.Frag) (C B:Addr):Bool:=
 PySem.W.excIn K C [.type "ValueError",.type "Exception",.type "BaseException",.type "object"] "ValueError.__new__" &&
 (PySem.W.findIn K (.ref C) "__getattribute__" == some (some (.builtin "BaseException.__getattribute__"))) && (PySem.W.findIn K (.ref C) "__getattr__" == some none) &&
 (PySem.W.findIn K (.ref C) "__class__" == some (some (.builtin "object.__class__"))) && (PySem.W.specialIn K (.builtin "object.__class__") "__get__" == some (some (.builtin "getset_descriptor.__get__"))) &&
 (PySem.W.takesIn K (.builtin "object.__class__") == some true) && ((PySem.W.clsIn K C).map (·.mro) == some (mroE C B)) && (PySem.W.typeIn K (.ref C) == some (.type "type"))
structure ECls (K:PySem.W.Frag) (mg:Str->Option Value) (x:Str) (C B:Addr):Prop where
 mgx:mg x = some (.ref C)
 inK:eclsIn K C B = true
section
variable {K:PySem.W.Frag}
theorem eclsIn_all (h:eclsIn K C B = true):OwnE K C/\ExcC K C/\(∃ cd,PySem.W.clsIn K C = some cd/\cd.mro = mroE C B)/\PySem.W.typeIn K (.ref C) = some (.type "type"):=by
 unfold eclsIn at h
 simp only [Bool.and_eq_true,beq_iff_eq] at h
 obtain⟨⟨⟨⟨⟨⟨⟨h1,h2⟩,h3⟩,h4⟩,h5⟩,h6⟩,h7⟩,h8⟩:=h
 obtain⟨cd,q1,q2⟩:=Option.map_eq_some_iff.mp h7
 have mro:∀ b,PySem.W.mroIn K C b = some _:=fun b=>by
  unfold PySem.W.mroIn
  rw [q1,Option.bind_some,q2]
  rfl
 refine⟨⟨h1⟩,⟨h2,h3,h4,h5,h6,?_,?_⟩,⟨cd,q1,q2⟩,h8⟩
 · rw [mro];rfl
 · rw [mro];rfl
theorem eclsMro (h:eclsIn K C B = true) (b:Value):PySem.W.mroIn K C b = some ((mroE C B).contains b):=by
 obtain⟨_,_,⟨cd,q1,q2⟩,_⟩:=eclsIn_all h
 unfold PySem.W.mroIn
 rw [q1,Option.bind_some,q2]
 rfl
theorem ECls.own (e:ECls K mg x C B):OwnE K C:=(eclsIn_all e.inK).1
theorem ECls.exc (e:ECls K mg x C B):ExcC K C:=(eclsIn_all e.inK).2.1
theorem ECls.self (e:ECls K mg x C B):PySem.W.kitOne K (.ref C) (.ref C) = some true:=by
 unfold PySem.W.kitOne
 simp
theorem ECls.other (e:ECls K mg x C B) (f:ECls K mg y D B) (h1:C≠D) (h2:B≠D):PySem.W.kitOne K (.ref C) (.ref D) = some false:=by
 obtain⟨_,_,⟨cd,q1,q2⟩,h8⟩:=eclsIn_all f.inK
 unfold PySem.W.kitOne
 rw [if_neg (by simp_all)]
 unfold PySem.W.kitCls;dsimp only
 rw [if_pos (by simp_all)]
 show PySem.W.mroIn K C _ = _
 rw [eclsMro e.inK]
 simp [mroE,Ne.symm h1,Ne.symm h2]
theorem ECls.value (e:ECls K mg x C B):PySem.W.kitOne K (.ref C) (.type "ValueError") = some true:=by
 unfold PySem.W.kitOne
 unfold PySem.W.kitCls;show PySem.W.mroIn K C _ = _
 rw [eclsMro e.inK]
 rfl
structure BCls (K:PySem.W.Frag) (mg:Str->Option Value) (x:Str) (B:Addr):Prop where
 mgx:mg x = some (.ref B)
 cls:(PySem.W.clsIn K B).isSome = true
 ty:PySem.W.typeIn K (.ref B) = some (.type "type")
 exc:PySem.W.mroIn K B (.type "BaseException") = some true
theorem ECls.caught (e:ECls K mg x C B) (b:BCls K mg y B):PySem.W.exmOne K (.ref C) (.ref B) = some true:=by
 unfold PySem.W.exmOne
 rw [if_pos (by show (PySem.W.mroIn K B _ == some true) = true;rw [b.exc];rfl)]
 unfold PySem.W.kitCls;dsimp only
 rw [if_pos (by rw [b.cls,b.ty];rfl)]
 show PySem.W.mroIn K C _ = _
 rw [eclsMro e.inK]
 simp [mroE]
theorem Fun.okX {st:Stmt} (F:Fun K x qual st f fd) (S:FnScope N ps (defScope st)) (len:∀ vs H Q E,sp vs H Q E->vs.length = ps.length)
 (hbody:∀ (cdv:Value) (A:Around) (outer:List Env) (s:Shared) (H:Hp) (vs:List V) (Q:VK) (E:XK),Room k (A.deeper (envOfC qual (defScope st) s.heap.objs.size f cdv))->sp vs H Q E->
  ∃ t,PSs (cxOf (CXF P w) P w K mg base N qual (defScope st) f cdv A outer s H E) (defBody st) t/\t { nx:=fun _ H'=>Q .non H',rt:=Q } (start N vs) H):FnOk P w K mg base (CXF P w) (k + 1) f fd ps sp:=by
 obtain⟨oc,od,kV,doc,pm,an,cdv,ct,osl,rfl,lk,hcd⟩:=F.ex
 exact fn_of lk hcd S len fun A outer s H vs Q E hr hsp=>hbody cdv A outer s H vs Q E hr hsp
end
section
variable {x n:Str}
theorem r_raise (ec:ECls X.K X.mg x C B) (hg:Gl X x) (hc:X.calm = true) (ht:Throws X E) (hdb:(x == ("__debug__" : Str)) = false) (hst:starEach [e0] X.env = [(false,eval e0 X.env)]) (he:PE X e0 te):
 PS X (.Raise (some (.Call (.Name x np) [e0] [] cpos)) none pos) (tRaise C E te):=ps_raise ec.own ec.mgx hg hc ht he hdb hst
theorem r_cls (ec:ECls X.K X.mg x C B) (hg:Gl X x) (hdb:(x == ("__debug__" : Str)) = false):PE X (.Name x pos) (tC (.ref C)):=pe_glob hg ec.mgx rfl hdb
theorem r_bty (hg:Gl X x) (hm:X.mg x = none) (hv:bootBuiltins x = some (.type T)) (hn:x≠"__name__") (hdb:(x == ("__debug__" : Str)) = false):PE X (.Name x pos) (tC (.ty T)):=pe_bltn hg hm hv rfl hn hdb
def rIsi (K:PySem.W.Frag):List V->Hp->VK->Prop:=fun xs H Q=>(∃ z ty c b,xs = [z,.ty c]/\TyX K H z ty/\PySem.W.kitOne K ty (.type c) = some b/\Q (.bl b) H)\/
 (∃ z ty C b,xs = [z,.ref C]/\TyX K H z ty/\PySem.W.kitOne K ty (.ref C) = some b/\Q (.bl b) H)\/
 ∃ (e C tp:Addr) (Cs:List Addr) (b:Bool),xs = [.ref e,.ref tp]/\H e = some (ExcO e C)/\ExcC K C/\H tp = some (.tup (Cs.map V.ref))/\PySem.W.kitAny K (.ref C) (Cs.map Value.ref) = some b/\Q (.bl b) H
theorem valsRef:∀ {Cs:List Addr}{us:List Value},Vals (Cs.map V.ref) us->us = Cs.map Value.ref
 | [],_,.nil=>rfl
 | _ :: _,_,.cons r t=>by rw [List.map_cons,<- valsRef t];cases r;rfl
theorem call_isiX:CallR X (.builtin "isinstance") (rIsi X.K):=by
 intro pins s σ H xs us Q I r h
 rcases h with ⟨z,ty,c,b,rfl,ht,hk,q⟩ | ⟨z,ty,C,b,rfl,ht,hk,q⟩ | ⟨e,C,tp,Cs,b,rfl,he,T,htp,hk,q⟩
 · obtain⟨u,w',rfl,r1,r2⟩:=vals2 r
   cases r2
   exact isinstX I r1 ht hk fun tk=>⟨.bl b,H,I.tok _,rfl,q⟩
 · obtain⟨u,w',rfl,r1,r2⟩:=vals2 r
   cases r2
   exact isinstX I r1 ht hk fun tk=>⟨.bl b,H,I.tok _,rfl,q⟩
 · obtain⟨u,w',rfl,r1,r2⟩:=vals2 r
   cases r1
   cases r2
   obtain⟨its,rv,hT,_⟩:=I.tuple (SqT.of htp)
   rw [valsRef rv] at hT
   exact isinstXs (u:=.none) I he T hT hk fun tk=>⟨.bl b,H,I.tok _,rfl,q⟩
theorem r_isiX (hx:x = "isinstance") (hg:Gl X x) (he:starEach (e :: es) X.env = (false,eval e X.env) :: starEach es X.env) (hpl:(backTo pos (starEach es X.env)).any (·.1) = false) (hm:X.mg x = none) (ha:PA X (e :: es) t):
 PE X (.Call (.Name x p) (e :: es) [] pos) (tCB (rIsi X.K) t):=by subst hx;exact pe_callB call_isiX hg hm boot_isinstance ha (by decide) (by decide) he hpl
theorem r_tryAs (bc:BCls X.K X.mg x B) (hex:X.ex = []) (hstk:X.stack = X.env :: X.outer) (hfr:X.env.frame = some X.env.locals) (hN:X.N.Nodup) (hi:At X.N i n) (hn:X.env.scope.names.lookup n = some .local)
 (hg:Gl X x) (hdb:(x == ("__debug__" : Str)) = false) (hb:PSsx X body tb) (hs:∀ ea,PSs (mkd X ea) (b0 :: suite) ts):PS X (.Try body [.ExceptHandler (some (.Name x np)) (some n) (b0 :: suite) hpos] [] [] pos) (tTryAs X.K (.ref B) i tb ts):=
 ps_tryAs hex hstk hfr hN hi hn hg bc.mgx hdb hb hs
theorem r_callX {k:Nat}{ps:List Str}{sp:Sp} (c:Callee (CXF X.prog X.w) X.prog X.w X.K X.mg X.base x k ps sp) (hx:Passes (CXF X.prog X.w) X E) (hr:Room k X.A) (hg:Gl X x) (hdb:(x == ("__debug__" : Str)) = false)
 (he:starEach (e :: es) X.env = (false,eval e X.env) :: starEach es X.env) (hpl:(backTo pos (starEach es X.env)).any (·.1) = false) (ha:PA X (e :: es) t):PE X (.Call (.Name x p) (e :: es) [] pos) (tCall sp [] E t):=by
 obtain⟨f,fd,F,hm,hk,hb⟩:=c.ex
 exact pe_call F hr hg hm hk hb .nil hx ha hdb he hpl
end
def Bd (n:Nat) (i:Int):Prop:=i.natAbs < 2 ^ n
theorem Bd.mono (h:Bd m i) (hm:m<=n):Bd n i:=Nat.lt_of_lt_of_le h (Nat.pow_le_pow_right (by decide) hm)
theorem Bd.mul (h1:Bd m i) (h2:Bd n j):Bd (m + n) (i * j):=by
 unfold Bd at *
 rw [Int.natAbs_mul,Nat.pow_add]
 exact Nat.mul_lt_mul'' h1 h2
theorem Bd.le (h:Bd n i) (hj:j.natAbs<=i.natAbs):Bd n j:=Nat.lt_of_le_of_lt hj h
structure JE (X:Cx) (e:Expr) (t:TE):Prop where h:PE X e t
structure JT (X:Cx) (e:Expr) (t:TT):Prop where h:PT X e t
structure JW (X:Cx) (e:Expr) (t:TT):Prop where h:PW X e t
structure JA (X:Cx) (es:List Expr) (t:TA):Prop where h:PA X es t
structure JO (X:Cx) (e:Option Expr) (t:TO):Prop where h:PO X e t
structure JI (X:Cx) (tg it:Expr) (t:TI):Prop where h:PI X tg it t
structure JG (X:Cx) (tg:Expr) (t:TG):Prop where h:PG X tg t
structure JS (X:Cx) (st:Stmt) (t:TS):Prop where h:PS X st t
structure JSs (X:Cx) (st:List Stmt) (t:TS):Prop where h:PSs X st t
structure JEx (X:Cx) (e:Expr) (t:TEx):Prop where h:PEx X e t
structure JSx (X:Cx) (st:Stmt) (t:TSx):Prop where h:PSx X st t
structure JSsx (X:Cx) (st:List Stmt) (t:TSx):Prop where h:PSsx X st t
structure JOp (X:Cx) (op:Operator) (r:R2):Prop where h:OpR X (binaryOp op) r
structure JCop (X:Cx) (op:CmpOp) (r:R2):Prop where h:OpR X (compareOp op) r
section
variable {es rest:List Expr}{x n:Str}
theorem j_int:JE X (.Constant (.int k) q pos) (tC (.int k)):=⟨pe_int⟩
theorem j_bl:JE X (.Constant (.bool k) q pos) (tC (.bl k)):=⟨pe_bl⟩
theorem j_non:JE X (.Constant .none q pos) (tC .non):=⟨pe_non⟩
theorem j_str:JE X (.Constant (.str k) q pos) (tC (.str k)):=⟨pe_str⟩
theorem j_name (h:At X.N i x) (hk:X.env.scope.names.lookup x = some .local) (hd:(x == ("__debug__" : Str)) = false) (hcd:(x == ("__classdict__" : Str)) = false):JE X (.Name x pos) (tVar i):=⟨r_name h hk hd hcd⟩
theorem j_bin (ho:JOp X op r) (ha:JE X a ta) (hb:JE X b tb):JE X (.BinOp a op b pos) (tOp r ta tb):=⟨r_bin ho.h ha.h hb.h⟩
theorem o_sub:JOp X .Sub (rI0 fun i j=>.int (i - j)):=⟨op_sub⟩
theorem o_mod:JOp X .Mod (rI (fun _ j=>0 < j) fun i j=>.int (i % j)):=⟨op_mod⟩
theorem o_fdiv:JOp X .FloorDiv (rI CDivB fun i j=>.int (i / j)):=⟨op_fdivB⟩
theorem o_pow:JOp X .Pow (rI CPow fun i j=>.int (i ^ j.toNat)):=⟨op_pow⟩
theorem c_eq:JCop X .Eq rEq:=⟨op_eq⟩
theorem c_ne:JCop X .NotEq rNe:=⟨op_ne⟩
theorem c_lt:JCop X .Lt (rI0 fun i j=>.bl (decide (i < j))):=⟨op_lt⟩
theorem c_le:JCop X .LtE (rI0 fun i j=>.bl (decide (i<=j))):=⟨op_le⟩
theorem c_gt:JCop X .Gt (rI0 fun i j=>.bl (decide (j < i))):=⟨op_gt⟩
theorem c_ge:JCop X .GtE (rI0 fun i j=>.bl (decide (j<=i))):=⟨op_ge⟩
theorem j_ix (hs:PlainIx b) (ha:JE X a ta) (hb:JE X b tb):JE X (.Subscript a b pos) (tOp (rIx X.K) ta tb):=⟨r_ix hs ha.h hb.h⟩
theorem j_onone:JO X none tNoPart:=⟨po_none⟩
theorem j_osome (h:JE X e te):JO X (some e) (tPart te):=⟨po_some h.h⟩
theorem j_tup (h:JA X es t):JE X (.Tuple es k pos) (tTupS t):=⟨r_tupS h.h⟩
theorem j_lst (h:JA X es t):JE X (.List es pos) (tLstS t):=⟨r_lstS h.h⟩
theorem j_dict0:JE X (.Dict [] [] pos) tDNewS:=⟨r_dict0S⟩
theorem j_cmp (h1:op≠.In) (h2:op≠.NotIn) (ho:JCop X op r) (ha:JE X a ta) (hb:JE X b tb):JE X (.Compare a [op] [b] pos) (tOp r ta tb):=⟨r_cmp h1 h2 ho.h ha.h hb.h⟩
theorem j_neg (ha:JE X a ta):JE X (.UnaryOp .USub a pos) (tUn (rU fun i=>.int (-i)) ta):=⟨r_neg ha.h⟩
theorem j_not (ha:JE X a ta):JE X (.UnaryOp .Not a pos) (tNotV ta):=⟨pe_not ha.h⟩
theorem j_and (ha:JE X a ta) (hb:JE X (.BoolOp .And (b :: rest) pos) tb):JE X (.BoolOp .And (a :: b :: rest) pos) (tAndV ta tb):=⟨pe_and ha.h hb.h⟩
theorem j_or (ha:JE X a ta) (hb:JE X (.BoolOp .Or (b :: rest) pos) tb):JE X (.BoolOp .Or (a :: b :: rest) pos) (tOrV ta tb):=⟨pe_or ha.h hb.h⟩
theorem j_one (h:JE X a ta):JE X (.BoolOp op [a] pos) ta:=⟨pe_one h.h⟩
theorem j_cls (ec:ECls X.K X.mg x C B) (hg:Gl X x) (hdb:(x == ("__debug__" : Str)) = false):JE X (.Name x pos) (tC (.ref C)):=⟨r_cls ec hg hdb⟩
theorem j_bty (hg:Gl X x) (hm:X.mg x = none) (hv:bootBuiltins x = some (.type T)) (hn:x≠"__name__") (hdb:(x == ("__debug__" : Str)) = false):JE X (.Name x pos) (tC (.ty T)):=⟨r_bty hg hm hv hn hdb⟩
theorem j_append (hbase:attributeBase o "append" X.env (eval o X.env) = eval o X.env) (hfew:((backTo cpos (starEach [e] X.env)).all (fun x=>!x.1) && (backToKw cpos (keywordEach [] X.env)).all (fun x=>x.1.isSome)
 && decide (([e]:List Expr).length + ([]:List Keyword).length + (if ([]:List Keyword).isEmpty then 0 else 1) < 30)) = true) (hline:(apos.endLine == cpos.line) = true) (hs:starEach [e] X.env = (false,eval e X.env) :: starEach [] X.env)
 (hpl:(backTo cpos (starEach [] X.env)).any (·.1) = false) (ho:JE X o to) (ha:JA X [e] t):JE X (.Call (.Attribute o "append" apos) [e] [] cpos) (tBM X.K "list" rAppend to t):=⟨r_append hbase hfew hline hs hpl ho.h ha.h⟩
theorem j_call (c:Callee CX0 X.prog X.w X.K X.mg X.base x k ps sp) (hr:Room k X.A) (hg:Gl X x) (hdb:(x == ("__debug__" : Str)) = false)
 (he:starEach (e :: es) X.env = (false,eval e X.env) :: starEach es X.env) (hpl:(backTo pos (starEach es X.env)).any (·.1) = false) (ha:JA X (e :: es) t):JE X (.Call (.Name x p) (e :: es) [] pos) (tCall sp [] E0 t):=⟨r_call c hr hg hdb he hpl ha.h⟩
theorem j_callX (c:Callee (CXF X.prog X.w) X.prog X.w X.K X.mg X.base x k ps sp) (hx:Passes (CXF X.prog X.w) X E) (hr:Room k X.A) (hg:Gl X x) (hdb:(x == ("__debug__" : Str)) = false)
 (he:starEach (e :: es) X.env = (false,eval e X.env) :: starEach es X.env) (hpl:(backTo pos (starEach es X.env)).any (·.1) = false) (ha:JA X (e :: es) t):JE X (.Call (.Name x p) (e :: es) [] pos) (tCall sp [] E t):=⟨r_callX c hx hr hg hdb he hpl ha.h⟩
section
variable (hg:Gl X x) (he:starEach (e :: es) X.env = (false,eval e X.env) :: starEach es X.env) (hpl:(backTo pos (starEach es X.env)).any (·.1) = false)
include hg he hpl
theorem j_isi (hx:x = "isinstance") (hm:X.mg x = none) (ha:JA X (e :: es) t):JE X (.Call (.Name x p) (e :: es) [] pos) (tCB (rIsi X.K) t):=⟨r_isiX hx hg he hpl hm ha.h⟩
theorem j_len (hx:x = "len") (hm:X.mg x = none) (ha:JA X (e :: es) t):JE X (.Call (.Name x p) (e :: es) [] pos) (tCB (rLen X.K) t):=⟨r_len hg he hpl hx hm ha.h⟩
theorem j_max (hx:x = "max") (hc:X.calm = true) (hm:X.mg x = none) (ha:JA X (e :: es) t):JE X (.Call (.Name x p) (e :: es) [] pos) (tCB (fun xs H Q=>∃ i j,xs = [.int i,.int j]/\Q (.int (if j > i then j else i)) H) t):=⟨r_max hg he hpl hx hc hm ha.h⟩
theorem j_min (hx:x = "min") (hc:X.calm = true) (hm:X.mg x = none) (ha:JA X (e :: es) t):JE X (.Call (.Name x p) (e :: es) [] pos) (tCB (fun xs H Q=>∃ i j,xs = [.int i,.int j]/\Q (.int (if j < i then j else i)) H) t):=⟨r_min hg he hpl hx hc hm ha.h⟩
theorem j_intc (hx:x = "int") (hm:X.mg x = none) (ha:JA X (e :: es) t):JE X (.Call (.Name x p) (e :: es) [] pos) (tCB (fun xs H Q=>(∃ i,xs = [.int i]/\Q (.int i) H)\/∃ k,xs = [.bl k]/\Q (.int (if k then 1 else 0)) H) t):=⟨r_intc hg he hpl hx hm ha.h⟩
end
theorem j_nil:JA X [] tNil:=⟨pa_nil⟩
theorem j_cons (hs:starEach (e :: es) X.env = (false,eval e X.env) :: starEach es X.env) (ha:JE X e te) (hr:JA X es t):JA X (e :: es) (tCons te t):=⟨r_acons hs ha.h hr.h⟩
theorem u_cmp (h1:op≠.In) (h2:op≠.NotIn) (ho:JCop X op r) (ha:JE X a ta) (hb:JE X b tb):JT X (.Compare a [op] [b] pos) (tTest (tOp r ta tb)):=⟨t_cmp h1 h2 ho.h ha.h hb.h⟩
theorem u_or (h:JW X (.BoolOp .Or es pos) tA):JT X (.BoolOp .Or es pos) tA:=⟨h.h.pt⟩
theorem u_and (h:JW X (.BoolOp .And es pos) tA):JT X (.BoolOp .And es pos) tA:=⟨h.h.pt⟩
theorem u_not (ha:JT X a tA):JT X (.UnaryOp .Not a pos) (tNot tA):=⟨pt_not ha.h⟩
theorem u_call (h:JE X (.Call f es ks pos) te):JT X (.Call f es ks pos) (tB te):=⟨t_call h.h⟩
theorem u_name (h:JE X (.Name x pos) te):JT X (.Name x pos) (tB te):=⟨t_name h.h⟩
theorem w_and1 (ha:JT X a tA):JW X (.BoolOp .And [a] pos) tA:=⟨pw_and1 ha.h⟩
theorem w_or1 (ha:JT X a tA):JW X (.BoolOp .Or [a] pos) tA:=⟨pw_or1 ha.h⟩
theorem w_and (ha:JT X a tA) (hb:JW X (.BoolOp .And (b :: rest) pos) tB'):JW X (.BoolOp .And (a :: b :: rest) pos) (tAnd tA tB'):=⟨pw_and ha.h hb.h⟩
theorem w_or (ha:JT X a tA) (hb:JW X (.BoolOp .Or (b :: rest) pos) tB'):JW X (.BoolOp .Or (a :: b :: rest) pos) (tOr tA tB'):=⟨pw_or ha.h hb.h⟩
theorem i_range1 (hx:x = "range") (hg:Gl X x) (hm:X.mg x = none) (hs:starEach [a] X.env = [(false,eval a X.env)]) (ha:JA X [a] t):JI X tg (.Call (.Name x p) [a] [] pos) (iRng1 t):=⟨r_irange1 hx hg hm hs ha.h⟩
theorem g_name (h:At X.N i x) (hN:X.N.Nodup) (hk:X.env.scope.names.lookup x = some .local):JG X (.Name x pos) (gName i):=⟨r_gname h hN hk⟩
variable {st:Stmt}
theorem s_ret (he:JE X e te):JS X (.Return (some e) pos) (tRet te):=⟨r_ret he.h⟩
theorem s_set (h:At X.N i x) (hN:X.N.Nodup) (hk:X.env.scope.names.lookup x = some .local) (hs:swapsWith e (some (.Name x p)) pos.line X.env = pure false) (he:JE X e te):JS X (.Assign [.Name x p] e pos) (tAsg te (gName i)):=⟨r_set h hN hk hs he.h⟩
theorem s_expr (hs:swapsWith e none pos.line X.env = pure false) (he:JE X e te):JS X (.Expr e pos) (tDrop te):=⟨r_expr hs he.h⟩
theorem s_if (hc:JT X c tA) (ha:JSs X aa t1) (hb:JSs X bb t2):JS X (.If c aa bb pos) (tMid (tIfS tA t1 t2)):=⟨r_ifM hc.h ha.h hb.h⟩
theorem s_for {tb:TS} (hp:PassesOwn (model X.prog X.w) X.A X.env X.xe) (hc:X.calm = true) (hs:∀ x,foldedSetIterable iter X.env x = pure x) (hi:JI X tg iter wi) (hg:JG X tg g) (hb:JSs X body tb):JS X (.For tg iter body [] pos) (tFor wi g tb):=⟨r_for hp hc hs hi.h hg.h hb.h⟩
theorem s_while {tb:TS} (hp:PassesOwn (model X.prog X.w) X.A X.env X.xe) (hc:JT X c tA) (hb:JSs X body tb):JS X (.While c body [] pos) (tWhile tA tb):=⟨r_while hp hc.h hb.h⟩
theorem s_unpack2 (hi:At X.N i x) (hj:At X.N j y) (hc:X.calm = true) (hN:X.N.Nodup) (hx:X.env.scope.names.lookup x = some .local) (hy:X.env.scope.names.lookup y = some .local)
 (h1:(assignEach [.Name x px,.Name y py] X.env).map (·.2) = assign (.Name x px) X.env :: (assignEach [.Name y py] X.env).map (·.2))
 (h2:(assignEach [.Name y py] X.env).map (·.2) = assign (.Name y py) X.env :: (assignEach [] X.env).map (·.2))
 (hn:(assignEach [.Name x px,.Name y py] X.env).length = 2) (hst:(assignEach [.Name x px,.Name y py] X.env).findIdx? (·.1) = none)
 (hs:swapsWithSole [.Tuple [.Name x px,.Name y py] kt pt] e pos.line X.env = pure false) (hw:swappedStores [.Tuple [.Name x px,.Name y py] kt pt] e X.env = pure none)
 (h3:(assignEach [.Tuple [.Name x px,.Name y py] kt pt] X.env).map (·.2) = [assign (.Tuple [.Name x px,.Name y py] kt pt) X.env]) (he:JE X e te):
 JS X (.Assign [.Tuple [.Name x px,.Name y py] kt pt] e pos) (tAsg te (gTup X.K 2 (gCons (gName i) (gCons (gName j) gNil)))):=⟨r_unpack2 hi hj hc hN hx hy h1 h2 hn hst hs hw h3 he.h⟩
theorem s_raise (ec:ECls X.K X.mg x C B) (hg:Gl X x) (hc:X.calm = true) (ht:Throws X E) (hdb:(x == ("__debug__" : Str)) = false) (hst:starEach [e0] X.env = [(false,eval e0 X.env)]) (he:JE X e0 te):
 JS X (.Raise (some (.Call (.Name x np) [e0] [] cpos)) none pos) (tRaise C E te):=⟨r_raise ec hg hc ht hdb hst he.h⟩
theorem s_try {tb:TSx} (bc:BCls X.K X.mg x B) (hex:X.ex = []) (hstk:X.stack = X.env :: X.outer) (hfr:X.env.frame = some X.env.locals) (hN:X.N.Nodup) (hi:At X.N i n) (hn:X.env.scope.names.lookup n = some .local)
 (hg:Gl X x) (hdb:(x == ("__debug__" : Str)) = false) (hb:JSsx X body tb) (hs:∀ ea,JSs (mkd X ea) (b0 :: suite) ts):JS X (.Try body [.ExceptHandler (some (.Name x np)) (some n) (b0 :: suite) hpos] [] [] pos) (tTryAs X.K (.ref B) i tb ts):=
 ⟨r_tryAs bc hex hstk hfr hN hi hn hg hdb hb.h fun ea=>(hs ea).h⟩
theorem ss_nil:JSs X [] tNext:=⟨pss_nil⟩
theorem ss_cons (h1:JS X st t1) (h2:JSs X sts t2):JSs X (st :: sts) (tSeq t1 t2):=⟨pss_cons h1.h h2.h⟩
theorem x_call (c:Callee (CXF X.prog X.w) X.prog X.w X.K X.mg X.base x k ps sp) (hr:Room k X.A) (hg:Gl X x) (hdb:(x == ("__debug__" : Str)) = false)
 (he:starEach (e :: es) X.env = (false,eval e X.env) :: starEach es X.env) (hpl:(backTo pos (starEach es X.env)).any (·.1) = false) (hex:X.ex = []) (ha:JA X.nox (e :: es) t):JEx X (.Call (.Name x p) (e :: es) [] pos) (tCallx sp t):=⟨pex_call c hr hg hdb he hpl hex ha.h⟩
theorem x_set (hN:X.N.Nodup) (hi:At X.N i x) (hx:X.env.scope.names.lookup x = some .local) (hs:swapsWith e (some (.Name x p)) pos.line X.env = pure false) (he:JEx X e tx):JSx X (.Assign [.Name x p] e pos) (tSetx i tx):=⟨psx_set hN hi hx hs he.h⟩
theorem xx_nil:JSsx X [] tNextx:=⟨pssx_nil⟩
theorem xx_cons (h1:JSx X st u1) (h2:JSsx X sts u2):JSsx X (st :: sts) (tSeqx u1 u2):=⟨pssx_cons h1.h h2.h⟩
end
section
variable {K:PySem.W.Frag}{st:Stmt}
theorem Fun.j (F:Fun K x qual st f fd) (S:FnScope N ps (defScope st)) (len:∀ vs H Q E,sp vs H Q E->vs.length = ps.length)
 (hbody:∀ (cdv:Value) (A:Around) (outer:List Env) (s:Shared) (H:Hp) (vs:List V) (Q:VK) (E:XK),Room k (A.deeper (envOfC qual (defScope st) s.heap.objs.size f cdv))->sp vs H Q E->
  ∃ t,JSs (cxOf CX0 P w K mg base N qual (defScope st) f cdv A outer s H E).nox (defBody st) t/\t { nx:=fun _ H'=>Q .non H',rt:=Q } (start N vs) H):FnOk P w K mg base CX0 (k + 1) f fd ps sp:=
 L2.Fun.ok F S len fun cdv A outer s H vs Q E hr h=>let ⟨t,a,b⟩:=hbody cdv A outer s H vs Q E hr h;⟨t,a.h,b⟩
theorem Fun.jX (F:Fun K x qual st f fd) (S:FnScope N ps (defScope st)) (len:∀ vs H Q E,sp vs H Q E->vs.length = ps.length)
 (hbody:∀ (cdv:Value) (A:Around) (outer:List Env) (s:Shared) (H:Hp) (vs:List V) (Q:VK) (E:XK),Room k (A.deeper (envOfC qual (defScope st) s.heap.objs.size f cdv))->sp vs H Q E->
  ∃ t,JSs (cxOf (CXF P w) P w K mg base N qual (defScope st) f cdv A outer s H E) (defBody st) t/\t { nx:=fun _ H'=>Q .non H',rt:=Q } (start N vs) H):FnOk P w K mg base (CXF P w) (k + 1) f fd ps sp:=
 Br.Fun.okX F S len fun cdv A outer s H vs Q E hr h=>let ⟨t,a,b⟩:=hbody cdv A outer s H vs Q E hr h;⟨t,a.h,b⟩
end
mutual
inductive Rep (H:Hp):V->PyData->Prop
 | non:Rep H .non .none
 | bl (b:Bool):Rep H (.bl b) (.bool b)
 | int (i:Int):Rep H (.int i) (.int i)
 | str (x:Str):Rep H (.str x) (.str x)
 | tup {a:Addr}{xs:List V}{ds:List PyData} (h:H a = some (.tup xs)) (r:Reps H xs ds):Rep H (.ref a) (.tuple ds)
 | lst {a:Addr}{xs:List V}{ds:List PyData} (h:H a = some (.lst xs)) (r:Reps H xs ds):Rep H (.ref a) (.list ds)
inductive Reps (H:Hp):List V->List PyData->Prop
 | nil:Reps H [] []
 | cons {x:V}{xs:List V}{d:PyData}{ds:List PyData} (h:Rep H x d) (r:Reps H xs ds):Reps H (x :: xs) (d :: ds)
end
theorem Reps.ints:∀ ns:List Int,Reps H (ns.map V.int) (ns.map PyData.int)
 | []=>.nil
 | n :: r=>.cons (.int n) (Reps.ints r)
mutual
theorem Rep.reads (ok:HOk P w H h):∀ {v:V}{d:PyData}{u:Value},Rep H v d->RelV v u->∃ as,Reads h u d as
 | _,_,_,.non,r=>by cases (show _ = Value.none from r);exact⟨_,.none⟩
 | _,_,_,.bl b,r=>by cases (show _ = Value.bool b from r);exact⟨_,.bool b⟩
 | _,_,_,.int i,r=>by obtain⟨t,e⟩:=(show ∃ t,_ = Value.int i t from r);subst e;exact⟨_,.int i t⟩
 | _,_,_,.str x,r=>by obtain⟨t,e⟩:=(show ∃ t,_ = Value.str x t from r);subst e;exact⟨_,.str x t⟩
 | _,_,_,.tup (a:=a) (xs:=xs) q rs,r=>by
  cases (show _ = Value.ref a from r)
  obtain⟨_,its,rv,o,h1,h2,n,h3⟩:=(show ObjOk P w H h a (.tup xs) from ok a _ q)
  obtain⟨as,z⟩:=Reps.reads ok rs rv
  exact⟨_,.tuple h1 h2 h3 (by simpa using z)⟩
 | _,_,_,.lst (a:=a) (xs:=xs) q rs,r=>by
  cases (show _ = Value.ref a from r)
  obtain⟨_,its,n,rv,h1⟩:=(show ObjOk P w H h a (.lst xs) from ok a _ q)
  obtain⟨as,z⟩:=Reps.reads ok rs rv
  exact⟨_,.list h1 rfl rfl (by simpa using z)⟩
theorem Reps.reads (ok:HOk P w H h):∀ {vs:List V}{ds:List PyData}{us:List Value},Reps H vs ds->Vals vs us->∃ as,ReadsAll h us ds as
 | _,_,_,.nil,.nil=>⟨_,.nil⟩
 | _,_,_,.cons q rs,.cons r t=>by
  obtain⟨as,z⟩:=Rep.reads ok q r
  obtain⟨bs,y⟩:=Reps.reads ok rs t
  exact⟨_,.cons z y⟩
end
def Pl (d:PyData):Prop:=d.canLay0 = true/\d.depth<=60
def rNeD:R2:=fun x y H Q=>∃ d d',Rep H x d/\Rep H y d'/\Pl d/\Pl d'/\Q (.bl (!PyData.eqv d d')) H
theorem op_neD (hr:Room k X.A):OpR X (compareOp .NotEq) rNeD:=by
 intro pins s σ H x y v u Q I rx ry h
 obtain⟨d,d',h1,h2,p1,p2,q⟩:=h
 obtain⟨as,r1⟩:=h1.reads I.hok rx
 obtain⟨bs,r2⟩:=h2.reads I.hok ry
 have hu:=hr.un
 exact SeqAt.compareNe_reads r1 r2 p1.1 p2.1 (by have:=p1.2;omega) ⟨.bl _,H,I,rfl,q⟩
theorem c_neD (hr:Room k X.A):JCop X .NotEq (fun x y H Q=>rNe x y H Q\/rNeD x y H Q):=⟨op_ne.or (op_neD hr)⟩
abbrev testsOf (ifs:List Expr) (env:Env):Sem Bool:=forIn ifs true fun c r=>if r = true then do let ok <- isTrue c env (eval c env);pure (ForInStep.yield ok) else pure (ForInStep.yield r)
theorem compLoop_go (I:Nat->Shared->Prop)
 (turn:∀ n s,I n s->wpAny (model prog w) A (pyNext it) (fun r s₁=>match r with
  | none=>R (.ok .next) s₁
  | some v=>wpAny (model prog w) A (letOwnedTupleGo target it v) (fun _ s₁=>wpAny (model prog w) A (assign target env v) (fun _ s₂=>
   wpAny (model prog w) A (testsOf ifs env) (fun ok s₃=>
    if ok = true then wpAny (model prog w) A (eval elt env) (fun x s₄=>
     wpAny (model prog w) A (call (.builtin "list.append") [acc,x]) (fun _ s₅=>∃ m,m < n/\I m s₅) (fun _ _=>False) s₄) (fun _ _=>False) s₃
    else ∃ m,m < n/\I m s₃) (fun _ _=>False) s₂) (fun _ _=>False) s₁) (fun _ _=>False) s₁) (fun _ _=>False) s)
 (n:Nat) (h:I n s):
 codeAny (model prog w) A (.compLoop (.ListComp elt [⟨target,iter,ifs,0⟩] scope pos) 0 it acc env) R s:=by
 refine codeAny_loop rfl I (fun n s hI=>?_) n h
 refine wpAny_noted (wpAny_mono (E:=fun _ _=>False) ?_ (fun _ _ q=>q) fun _ _ f=>f.elim)
 rw [compTurn_list]
 refine wpAny_bind (wpAny_standAt (wpAny_bind (thn (turn n s hI) fun r s₁ h₁=>?_)))
 cases r with
 | none=>exact wpAny_pure h₁
 | some v=>
  refine wpAny_bind (thn h₁ fun _ s₁ h₁=>wpAny_bind (thn h₁ fun _ s₂ h₂=>wpAny_bind (thn h₂ fun ok s₃ h₃=>?_)))
  cases ok with
  | false=>exact wpAny_pure ⟨rfl,h₃⟩
  | true=>exact wpAny_bind (wpAny_bind (thn h₃ fun x s₄ h₄=>wpAny_bind (thn h₄ fun _ s₅ h₅=>wpAny_pure (wpAny_pure ⟨rfl,h₅⟩))))
def clOf (scope:Scope) (env:Env):List (Str×Addr):=(scope.names.filter fun x=>x.2 == NameKind.free).reverse.map fun x=>(x.1,(env.cells.lookup x.1).getD 0)
theorem closure_go:∀ (l:List (Str×NameKind)) (cs:List (Str×Addr)),(∀ y∈l,y.2 = .free->∃ c,env.cells.lookup y.1 = some c)->
 (forIn l cs fun (x:Str×NameKind) cs=>(do
  if x.2 == .free then do let c <- cellOf env x.1;pure (ForInStep.yield ((x.1,c) :: cs)) else pure (ForInStep.yield cs):Sem _)) =
  pure (((l.filter fun x=>x.2 == NameKind.free).reverse.map fun x=>(x.1,(env.cells.lookup x.1).getD 0)) ++ cs)
 | [],cs,_=>rfl
 | (n,k) :: r,cs,h=>by
  have ih:=fun cs=>closure_go r cs fun y hy=>h y (.tail _ hy)
  by_cases hk:k = .free
  · subst hk
    obtain⟨c,hc⟩:=h (n,.free) (.head _) rfl
    have e1:cellOf env n = pure c:=by unfold cellOf;rw [hc]
    simp_all
  simp_all
theorem closure_of (h:∀ y∈scope.names,y.2 = .free->∃ c,env.cells.lookup y.1 = some c):closureFor scope env = pure (clOf scope env):=by
 have q:=closure_go scope.names [] h
 rw [List.append_nil] at q
 exact (congrArg (fun t=>t >>= fun a=>pure a) q).trans rfl
theorem clOf_sub (h:∀ y∈scope.names,y.2 = .free->∃ c,env.cells.lookup y.1 = some c) (e:(clOf scope env).lookup x = some c):env.cells.lookup x = some c/\(x,NameKind.free)∈scope.names:=by
 have hm:=PySem.mem_of_lookup e
 obtain⟨⟨n,k⟩,hy,e2⟩:=List.mem_map.mp hm
 have hf:=List.mem_filter.mp (List.mem_reverse.mp hy)
 grind
theorem lookup_some_of_mem {l:List (Str×Addr)} (h:(x,c)∈l):∃ c',l.lookup x = some c':=by
 induction l with
 | nil=>grind
 | cons a r ih=>
  obtain⟨n,d⟩:=a
  rw [List.lookup_cons]
  cases e:x == n with
  | true=>simp
  | false=>
   simp_all
theorem clOf_has (h:∀ y∈scope.names,y.2 = .free->∃ c,env.cells.lookup y.1 = some c) (hx:(x,NameKind.free)∈scope.names):∃ c,(clOf scope env).lookup x = some c:=
 lookup_some_of_mem (List.mem_map.mpr ⟨(x,.free),List.mem_reverse.mpr (List.mem_filter.mpr ⟨hx,rfl⟩),rfl⟩)
theorem relabel_mem {env:Env}:∀ {names:List (Str×NameKind)}{x:Str}{k:NameKind},(names.map fun (n,k)=>if (k == NameKind.free && env.scope.kind == .function && env.kindOf n == some .cell) then (n,NameKind.cell) else (n,k)).lookup x = some k->
 ∃ k0,names.lookup x = some k0/\(k0 = k\/(k0 = .free/\k = .cell))
 | [],_,_,h=>by simp at h
 | (n,k0) :: r,x,k,h=>by
  have ih:=@relabel_mem env r x k
  have h:List.lookup x ((if _ = true then (n,NameKind.cell) else (n,k0)) :: _) = _:=h
  rw [List.lookup_cons]
  by_cases hc:(k0 == NameKind.free && env.scope.kind == .function && env.kindOf n == some .cell) = true
  · rw [if_pos hc,List.lookup_cons] at h
    cases e:x == n with
    | true=>
     simp_all
    | false=>rw [e] at h;exact ih h
  · rw [if_neg hc,List.lookup_cons] at h
    cases e:x == n with
    | true=>grind
    | false=>rw [e] at h;exact ih h
def dotS (y:Str):Str:=⟨(33 :: y.cps.toList).toArray⟩
def hid (scope:Scope) (y:Str):Str:=match scope.names.lookup y with
 | some .local=>dotS y
 | _=>y
theorem hid_cases (scope:Scope) (y:Str):(scope.names.lookup y = some .local/\hid scope y = dotS y)\/(scope.names.lookup y≠some .local/\hid scope y = y):=by
 unfold hid
 split
 · simp_all
 simp_all
def cxC (X:Cx) (Nc:List Str) (scope:Scope) (C:Addr) (s:Shared) (H:Hp) (fp:List Addr):Cx:=
 { X with N:=Nc ++ X.N.map (hid scope),s₀:=s,H₀:=H,env:=compEnvC scope (clOf scope X.env) C X.env,outer:=X.stack,ex:=fp,fn:=fun _=>false,pn:=[],xe:=fun _ _=>False }
structure CompS (X:Cx) (scope:Scope):Prop where
 kind:scope.kind = .function
 nocell:∀ y∈scope.names,y.2≠.cell
 names:∀ y∈scope.names,y.2 = .local->scope.names.lookup y.1 = some .local
 free:∀ y∈scope.names,y.2 = .free->X.env.kindOf y.1 = some .cell\/X.env.kindOf y.1 = some .free
 dot:∀ y,scope.names.lookup (dotS y) = none
 nd:(X.N.map (hid scope)).Nodup
def PIfs (X:Cx) (ifs:List Expr) (t:TT):Prop:=
 ∀ (pins:List (Addr×Obj)) (s:Shared) (σ:L2.St) (H:Hp) (Q:Bool->Hp->Prop),Inv X pins σ H s->t σ H Q->wpAny (model X.prog X.w) X.A (testsOf ifs X.env) (TP X pins σ Q) X.xe s
def tYes:TT:=fun _ H Q=>Q true H
theorem pifs_nil:PIfs X [] tYes:=fun pins s σ H Q I h=>wpAny_tests_nil ⟨H,I,h⟩
theorem pifs_one (h:PT X c tt):PIfs X [c] tt:=fun pins s σ H Q I q=>wpAny_tests_one (h pins s σ H Q I q)
section
variable {σ:L2.St}
def Cmp (J:It) (g:TG) (tt:TT) (te:TE) (σ0:L2.St) (H0:Hp) (Z:List V->Hp->Prop):Prop:=
 ∃ W:Nat->Nat->List V->L2.St->Hp->Prop,(∃ m,W 0 m [] σ0 H0)/\∀ i m ys σ' H',W i m ys σ' H'->ys.length<=sizeLine/\
  ((J.stop i H'/\Z ys H')\/
   (J.go i H'/\∀ x H2,J.yld i H' x H2->g x σ' H2 fun σ3 H3=>tt σ3 H3 fun b H4=>if b = true then te σ3 H4 fun y H5=>∃ m',m' < m/\W (i + 1) m' (ys ++ [y]) σ3 H5 else ∃ m',m' < m/\W (i + 1) m' ys σ3 H4))
theorem inv_block {Nc:List Str}{scope:Scope}{fp:List Addr}{h1:Heap}{D C:Addr}{t':Nat} (I:Inv X pins σ H s) (S:CompS X scope) (hf:∀ b∈fp,FpOk X pins H b) (hob:∀ b∈fp,∃ o,s.heap.get? b = some o)
 (hC:s.heap.objs.size<=C) (old:∀ b o,s.heap.get? b = some o->h1.get? b = some o) (hn:h1.Ns C fun _=>none):
 Inv (cxC X Nc scope C s H fp) [] (List.replicate Nc.length none ++ σ) H { s with heap:=h1,toks:=t' }:=by
 have hcells:∀ y∈scope.names,y.2 = .free->∃ c,X.env.cells.lookup y.1 = some c:=fun y hy e=>I.ok.has y.1 (S.free y hy e)
 have hsub:∀ {x:Str}{c:Addr},(clOf scope X.env).lookup x = some c->X.env.cells.lookup x = some c:=fun e=>(clOf_sub hcells e).1
 have hlt:∀ x c,X.env.cells.lookup x = some c->c < s.heap.objs.size:=fun x c e=>let ⟨v,q⟩:=I.cell x c e;q.lt
 refine⟨⟨I.ok.mod,S.kind,I.ok.glob,I.ok.blt,hC,fun x y c e1 e2=>I.ok.inj x y c (hsub e1) (hsub e2),fun x hx=>?_,fun x c z _=>?_,I.ok.hd,I.ok.frames,.inl rfl,fun b hb=>⟨?_,fun x c e=>(hf b hb).2.2.2.2.1 x c (hsub e)⟩,I.bs,?_,?_,?_,I.stack,I.stkFree⟩,
  rfl,I.bare,Un.kept old,⟨_,hn,fun i x v e1 e2 e3=>?_⟩,fun x c e=>?_,I.hok.fresh hC,fun x c e=>I.freeC x c (hsub e),fun p hp=>absurd (show p∈([]:List (Addr×Obj)) from hp) (by simp),I.hok.kept old,?_⟩
 · have hx:(relabel scope X.env).names.lookup x = some .cell\/(relabel scope X.env).names.lookup x = some .free:=hx
   have go:∀ k,(k = .cell\/k = .free)->(relabel scope X.env).names.lookup x = some k->∃ c,(clOf scope X.env).lookup x = some c:=fun k hk e=>by
    obtain⟨k0,e0,h0⟩:=relabel_mem (env:=X.env) (names:=scope.names) e
    have hm:=PySem.mem_of_lookup e0
    have:k0 = .free:=by
     rcases h0 with h0 | h0
     · subst h0
       rcases hk with hk | hk
       · exact absurd hk (S.nocell _ hm)
       · exact hk
     · exact h0.1
    subst this
    exact clOf_has hcells hm
   rcases hx with e | e
   · exact go _ (.inl rfl) e
   · exact go _ (.inr rfl) e
 · have z:false = true:=z
   cases z
 · obtain⟨o,e⟩:=hob b hb
   exact Nat.ne_of_lt (Nat.lt_of_lt_of_le (Heap.lt_size e) hC)
 · exact Nat.le_trans I.ok.bsz I.sz
 · intro b o e hb
   rcases (hf b hb).2.2.2.1 with z | z
   · exact I.ok.noex b o e z
   · exact absurd (Nat.lt_of_lt_of_le (Heap.lt_size e) (Nat.le_trans I.ok.bsz z)) (Nat.lt_irrefl _)
 · intro b hb hm
   rcases List.mem_cons.mp (I.stkSub b hm) with z | z
   · exact (hf b hb).2.1 z
   · exact (hf b hb).2.2.1 z
 · have e1:(Nc ++ X.N.map (hid scope))[i]? = some x:=e1
   have e3:Vis (relabel scope X.env) x:=e3
   have hi:Nc.length<=i:=by
    refine Nat.not_lt.mp fun z=>?_
    rw [List.getElem?_append_left (by simpa using z),List.getElem?_replicate] at e2
    split at e2 <;> cases e2
   rw [List.getElem?_append_right hi] at e1
   rw [List.getElem?_append_right (by simpa using hi),List.length_replicate] at e2
   rw [List.getElem?_map] at e1
   obtain⟨x0,ex0,hx0⟩:=Option.map_eq_some_iff.mp e1
   have dotn:∀ y k,(relabel scope X.env).names.lookup (dotS y)≠some k:=fun y k e=>by
    obtain⟨k0,e0,_⟩:=relabel_mem (env:=X.env) (names:=scope.names) e
    rw [S.dot] at e0;cases e0
   have hxx:x0 = x/\scope.names.lookup x≠some .local:=by
    rcases hid_cases scope x0 with ⟨_,h2⟩ | ⟨h1,h2⟩
    · rw [h2] at hx0
      subst hx0
      rcases e3 with e | e | e <;> exact absurd e (dotn _ _)
    · rw [h2] at hx0
      subst hx0
      exact⟨rfl,h1⟩
   obtain⟨hx1,hnl⟩:=hxx
   rw [hx1] at ex0
   have e1:=ex0
   have hfree:(x,NameKind.free)∈scope.names/\(relabel scope X.env).names.lookup x≠some .local:=by
    have go:∀ k,(relabel scope X.env).names.lookup x = some k->(k = .local\/k = .cell\/k = .free)->(x,NameKind.free)∈scope.names/\k≠.local:=fun k e hk=>by
     obtain⟨k0,e0,h0⟩:=relabel_mem (env:=X.env) (names:=scope.names) e
     have hm:=PySem.mem_of_lookup e0
     rcases h0 with h0 | h0
     · subst h0
       rcases hk with hk | hk | hk
       · subst hk;exact absurd e0 hnl
       · exact absurd hk (S.nocell _ hm)
       · subst hk;exact⟨hm,by decide⟩
     · obtain⟨a,b⟩:=h0
       subst a;subst b
       exact⟨hm,by decide⟩
    rcases e3 with e | e | e
    · exact absurd rfl (go _ e (.inl rfl)).2
    · exact⟨(go _ e (.inr (.inl rfl))).1,by rw [e];decide⟩
    · exact⟨(go _ e (.inr (.inr rfl))).1,by rw [e];decide⟩
   have hk:=S.free _ hfree.1 rfl
   obtain⟨m,hm,hl⟩:=I.loc
   obtain⟨u,r,l⟩:=hl (i - Nc.length) x v e1 e2 (.inr hk)
   refine⟨u,r,?_⟩
   rcases l with ⟨z,_⟩ | ⟨_,c,hc,z⟩
   · have z:X.env.kindOf x = some .local:=z
     rcases hk with hk | hk
     · have hk:X.env.kindOf x = some .cell:=hk
       rw [hk] at z;cases z
     · have hk:X.env.kindOf x = some .free:=hk
       rw [hk] at z;cases z
   · obtain⟨c',hc'⟩:=clOf_has hcells hfree.1
     have q:=hsub hc'
     rw [hc] at q;cases q
     obtain⟨o,ho,hd⟩:=z
     refine .inr ⟨?_,c,hc',o,old _ _ ho,hd⟩
     rcases e3 with e | e | e
     · exact absurd e hfree.2
     · exact .inl e
     · exact .inr e
 · obtain⟨v,o,ho,hd⟩:=I.cell x c (hsub e)
   exact⟨v,o,old _ _ ho,hd⟩
 · show (List.replicate Nc.length none ++ σ).length = (Nc ++ X.N.map (hid scope)).length
   rw [List.length_append,List.length_append,List.length_replicate,List.length_map,I.len]
end
section
variable {σ:L2.St}
theorem comp_block {it:Addr}{fp:List Addr}{tn:Nat->Heap->Prop}{J:It}{Z:List V->Hp->Prop}{E:Value->Shared->Prop}{RR:Value->Addr->Result->Shared->Prop}
 (hc:X.calm = true) (S:CompS X scope) (I2:Inv X pins σ H2 s2) (T:Turn X.prog X.w X.K tg J fp it tn) (st2:tn 0 s2.heap) (f2:∀ b∈fp,FpOk X pins H2 b)
 (hg:∀ C s H fp,PG (cxC X Nc scope C s H fp) tg g) (ht:∀ C s H fp,PIfs (cxC X Nc scope C s H fp) ifs tt) (he:∀ C s H fp,PE (cxC X Nc scope C s H fp) elt te)
 (h:Cmp J g tt te (List.replicate Nc.length none ++ σ) H2 Z)
 (hRR:∀ D C s' H3 ys,Inv X pins σ (upd H3 D (.lst ys)) s'->H3 D = none->Z ys H3->(∃ m,s'.heap.Ns C m)->FpOk X pins (upd H3 D (.lst ys)) C->RR (.ref D) C (.ok .next) s'):
 wpAny (model X.prog X.w) X.A (newList []) (fun acc s₃=>wpAny (model X.prog X.w) X.A (newFunctionEnv scope X.env.globals (clOf scope X.env) [] X.env.qual none .none (some X.env)) (fun cenv s₄=>
  codeAny (model X.prog X.w) X.A (.compStart (.ListComp elt [⟨tg,iter,ifs,0⟩] scope pos) 0 (.ref it) acc { cenv with scope:=relabel scope X.env }) (RR acc cenv.locals) s₄) E s₃) E s2:=by
 refine wpAny_newObj_type (wpAny_newFunctionEnv S.nocell (by intro y hy;simp at hy) (fun h₁ hns₁ hsb₁=>?_) S.kind)
 dsimp only at hns₁ hsb₁ ⊢
 generalize hH2:s2.heap.push { cls:=.type "list",dict:=none,data:=.seq ([]:List Value).toArray } = G at hns₁ hsb₁ ⊢
 have hC:G.objs.size = s2.heap.objs.size + 1:=by rw [<- hH2,Heap.size_push]
 generalize hD0:s2.heap.objs.size = D at *
 generalize hC0:G.objs.size = C at *
 have hDC:D≠C:=by omega
 have below:∀ (b:Nat) o,s2.heap.get? b = some o->b < D:=fun b o e=>hD0▸Heap.lt_size e
 have belC:∀ (b:Nat) o,s2.heap.get? b = some o->b≠C:=fun b o e=>by have:=below b o e;omega
 have belD:∀ (b:Nat) o,s2.heap.get? b = some o->b≠D:=fun b o e=>by have:=below b o e;omega
 have old:∀ b o,s2.heap.get? b = some o->h₁.get? b = some o:=fun b o e=>hsb₁.extBut b o (belC b o e) (by
  have q:=Heap.get?_push_of_some { cls:=.type (if (some X.env).isSome then "dict" else "frame"),data:=.dict #[] } (hH2▸Heap.get?_push_of_some _ e:G.get? b = some o)
  exact q)
 have hacc:h₁.PlainList D #[]:=⟨_,hsb₁.extBut _ _ hDC (Heap.get?_push_of_some _ (by rw [<- hH2,<- hD0];exact Heap.get?_push_size _ rfl))⟩
 obtain⟨W,⟨m0,w0⟩,turn⟩:=h
 have hob:∀ b∈fp,∃ o,s2.heap.get? b = some o:=fun b hb=>let ⟨o,e,_⟩:=T.obj _ _ st2 b hb;⟨o,e⟩
 have hfpD:∀ b:Nat,b∈fp->b < D:=fun b hb=>let ⟨o,e⟩:=hob b hb;below b o e
 have hfpN:∀ b:Nat,b∈fp->b≠D:=fun b hb=>Nat.ne_of_lt (hfpD b hb)
 have hcells:∀ y∈scope.names,y.2 = .free->∃ c,X.env.cells.lookup y.1 = some c:=fun y hy e=>I2.ok.has y.1 (S.free y hy e)
 have hsub:∀ {x:Str}{c:Addr},(clOf scope X.env).lookup x = some c->X.env.cells.lookup x = some c:=fun e=>(clOf_sub hcells e).1
 have hclt:∀ x c,(clOf scope X.env).lookup x = some c->c < D:=fun x c e=>let ⟨v,q⟩:=I2.cell x c (hsub e);hD0▸q.lt
 have hn0:h₁.Ns C fun _=>none:=hns₁
 have IB:Inv (cxC X Nc scope C s2 H2 fp) [] (List.replicate Nc.length none ++ σ) H2 { s2 with heap:=h₁,toks:=s2.toks + ([]:List (Str×Value)).length }:=
  inv_block (D:=D) I2 S f2 hob (by omega) old hn0
 have hfs:∀ b:Nat,D<=b->b∉(cxC X Nc scope C s2 H2 fp).fs:=fun b hb hm=>by
  obtain⟨_,o,ho,_⟩:=IB.ok.funs.mem hm
  exact absurd (Nat.lt_of_lt_of_le (below b o ho) hb) (Nat.lt_irrefl _)
 have stat:∀ {H':Hp}{ps:List (Addr×Obj)},(∀ p∈ps,Nat.le D p.1)->(∀ b∈fp,H' b = none)->∀ b∈fp,FpOk (cxC X Nc scope C s2 H2 fp) ps H' b:=fun {H' ps} hps hn b hb=>
  ⟨hn b hb,(let ⟨o,e⟩:=hob b hb;belC b o e),IB.ok.exfs b hb,.inl hb,fun x c e=>(f2 b hb).2.2.2.2.1 x c (hsub e),fun p hp=>Nat.ne_of_gt (Nat.lt_of_lt_of_le (hfpD b hb) (hps p hp))⟩
 have loop:∀ s₃:Shared,s₃ = { s2 with heap:=h₁,toks:=s2.toks + ([]:List (Str×Value)).length }->
  codeAny (model X.prog X.w) X.A (.compLoop (.ListComp elt [⟨tg,iter,ifs,0⟩] scope pos) 0 (.ref it) (.ref D) (compEnvC scope (clOf scope X.env) C X.env)) (RR (.ref D) C) s₃:=by
  rintro s₃ rfl
  refine compLoop_go (fun n s'=>∃ i ys σ' H' us k,Inv (cxC X Nc scope C s2 H2 fp) [(D,{ cls:=.type "list",data:=.seq (us:List Value).toArray k })] σ' H' s'/\Vals ys us/\tn i s'.heap/\(∀ b∈fp,H' b = none)/\W i n ys σ' H') ?_ m0 ?_
  · rintro n s3 ⟨i,ys,σ3,H3,us,k,I3,rv,st3,fr3,w3⟩
    obtain⟨hz,tu⟩:=turn i n ys σ3 H3 w3
    have hps:∀ p∈[((D:Addr),({ cls:=.type "list",data:=.seq (us:List Value).toArray k }:Obj))],Nat.le D p.1:=fun p hp=>by
     rcases List.mem_singleton.mp hp with rfl
     exact Nat.le_refl _
    rcases tu with ⟨stop,z⟩ | ⟨go,step⟩
    · refine thn (T.done (cxC X Nc scope C s2 H2 fp) rfl rfl rfl hc i _ s3 σ3 H3 (fun _ _=>False) I3 (stat hps fr3) st3 stop) fun r s4 ⟨hr,I4⟩=>?_
      subst hr
      obtain⟨eD,nD,_,_,_⟩:=I4.pin (D,{ cls:=.type "list",data:=.seq (us:List Value).toArray k }) (List.mem_append_right _ (List.mem_singleton.mpr rfl))
      have eD:s4.heap.get? D = _:=eD
      have nD:H3 D = none:=nD
      have u4:Un (frs X.stack) fp H2 H3 s2.heap s4.heap:=I4.base
      have hH2D:H2 D = none:=I2.hok.fresh (by omega)
      have u5:Un (frs X.stack) fp H2 (upd H3 D (.lst ys)) s2.heap s4.heap:=
       ⟨u4.keep,u4.slot,fun b o e n x=>by rw [upd_ne (belD b o e)];exact u4.free b o e n x,u4.there,fun b xs e=>by rw [upd_ne (ne_of_none e hH2D)];exact u4.tups b xs e,
        fun b o u e=>by rw [upd_ne (ne_of_none e hH2D)];exact u4.frzs b o u e,fun b ps e=>by rw [upd_ne (ne_of_none e hH2D)];exact u4.tbls b ps e⟩
      have hok:HOk X.prog X.w (upd H3 D (.lst ys)) s4.heap:=fun b o e=>by
       by_cases hb:b = D
       · subst hb;rw [upd_same] at e;cases e
         exact⟨hz,us,k,rv,eD⟩
       · rw [upd_ne hb] at e
         exact (I4.hok b o e).stay (fun _ _ _ q=>q) (fun c q=>by rw [upd_ne (ne_of_none q nD)];exact q) fun c xs q=>by rw [upd_ne (ne_of_none q nD)];exact q
      have I5:Inv X pins σ (upd H3 D (.lst ys)) s4:=I2.call' (ch:=fp) I4.os u5 hok I4.bare fun b hb=>let ⟨a0,a1,a2,a3,a4,a5⟩:=f2 b hb;⟨a3,a1,a4,a5⟩
      obtain⟨m,hm,_⟩:=I4.loc
      refine hRR D C s4 H3 ys I5 nD z ⟨m,hm⟩ (I2.fpOk (by omega) ?_)
      rw [upd_ne (Ne.symm hDC)];exact I4.free
    · refine thn (T.item (cxC X Nc scope C s2 H2 fp) rfl rfl rfl hc i _ s3 σ3 H3 (fun _ _=>False) I3 (stat hps fr3) st3 go) fun r s4 ⟨u,hr,h4⟩=>?_
      subst hr
      refine thn h4 fun _ s5 ⟨x,H5,I5,r5,y5,st5,fr5⟩=>?_
      have I5':=I5.pinned (stat hps fr5) (T.obj _ _ st5)
      refine thn (hg C s2 H2 fp _ s5 σ3 H5 x u _ I5' r5 (step x H5 y5)) fun _ s6 ⟨σ6,H6,I6,q6⟩=>?_
      refine thn (ht C s2 H2 fp _ s6 σ6 H6 _ I6 q6) fun ok s7 ⟨H7,I7,q7⟩=>?_
      have tnK:∀ {σ':L2.St}{H':Hp}{s':Shared},Inv (cxC X Nc scope C s2 H2 fp) ([(D,{ cls:=.type "list",data:=.seq (us:List Value).toArray k })] ++ pinsAt fp s5.heap) σ' H' s'->tn (i + 1) s'.heap/\(∀ b∈fp,H' b = none)/\(∀ b∈fp,∀ o,s5.heap.get? b = some o->s'.heap.get? b = some o):=fun {σ' H' s'} I'=>
       ⟨T.keep _ _ _ st5 fun b hb o e=>(I'.pin (b,o) (List.mem_append_right _ (List.mem_append_right _ (mem_pinsAt hb e)))).1,fun b hb=>by
        obtain⟨o,e,d⟩:=T.obj _ _ st5 b hb
        exact (I'.pin (b,o) (List.mem_append_right _ (List.mem_append_right _ (mem_pinsAt hb e)))).2.1,fun b hb o e=>(I'.pin (b,o) (List.mem_append_right _ (List.mem_append_right _ (mem_pinsAt hb e)))).1⟩
      cases ok with
      | false=>
       have q7:∃ m',m' < n/\W (i + 1) m' ys σ6 H7:=q7
       obtain⟨m',hm,w7⟩:=q7
       obtain⟨k1,k2,_⟩:=tnK I7
       exact⟨m',hm,i + 1,ys,σ6,H7,us,k,I7.unpinned,rv,k1,k2,w7⟩
      | true=>
       have q7:te σ6 H7 fun y H5=>∃ m',m' < n/\W (i + 1) m' (ys ++ [y]) σ6 H5:=q7
       refine thn (he C s2 H2 fp _ s7 σ6 H7 _ I7 q7) fun y s8 ⟨yv,H8,I8,r8,m',hm,w8⟩=>?_
       obtain⟨k1,k2,k3⟩:=tnK I8
       obtain⟨eD,nD,_,nfD,_⟩:=I8.pin (D,{ cls:=.type "list",data:=.seq (us:List Value).toArray k }) (List.mem_append_right _ (List.mem_append_left _ (List.mem_singleton.mpr rfl)))
       have eD:s8.heap.get? D = _:=eD
       have pl:s8.heap.PlainList D us.toArray:=⟨k,eD⟩
       refine wpAny_list_append_plain (hsz:=by have:=rv.length;simp;omega) pl fun h₉ hl₉ hs₉=>?_
       obtain⟨k9,e9⟩:=hl₉
       have I9:Inv (cxC X Nc scope C s2 H2 fp) [] σ6 H8 { s8 with heap:=h₉ }:=(I8.pins_of (pins':=[]) (fun p hp=>nomatch hp)).turned (t':=s8.toks) (it:=D) (fun b o hb e=>(hs₉.2 b hb).trans e) nD hDC (.inr (by show s2.heap.objs.size<=D;omega))
        (fun x c e=>Nat.ne_of_lt (hclt x c e)) (fun p hp=>absurd (show p∈([]:List (Addr×Obj)) from hp) (by simp))
       refine⟨m',hm,i + 1,ys ++ [yv],σ6,H8,us ++ [y],k9,I9.pins_of fun p hp=>?_,rv.append (.cons r8 .nil),T.keep _ _ _ k1 fun b hb o e=>(hs₉.2 b (hfpN b hb)).trans e,k2,w8⟩
       rcases List.mem_singleton.mp hp with rfl
       refine⟨?_,nD,hDC,nfD,fun v z=>by cases z⟩
       show h₉.get? D = _
       rw [e9];simp
  · obtain⟨k,e⟩:=hacc
    refine⟨0,[],_,H2,[],k,IB.pins_of fun p hp=>?_,.nil,T.keep _ _ _ st2 fun b hb o e=>old b o e,fun b hb=>(f2 b hb).1,w0⟩
    rcases List.mem_singleton.mp hp with rfl
    exact⟨e,I2.hok.fresh (by omega),hDC,hfs D (Nat.le_refl _),fun v z=>by cases z⟩
 exact codeAny_compStart_list (loop _ rfl) (T.self _ 0 _ _ _ (T.keep _ _ _ st2 fun b hb o e=>old b o e) (loop _ rfl))
def tComp (n:Nat) (wi:TI) (g:TG) (tt:TT) (te:TE):TE:=fun σ H Q=>wi σ H fun J H1=>Cmp J g tt te (List.replicate n none ++ σ) H1 fun ys H'=>∀ p H2,H' p = none->L2.Same H' H2->H2 p = some (.lst ys)->Q (.ref p) H2
theorem pe_comp (hc:X.calm = true) (S:CompS X scope) (hs:∀ x,foldedSetIterable iter X.env x = pure x) (hi:PI X tg iter wi)
 (hg:∀ C s H fp,PG (cxC X Nc scope C s H fp) tg g) (ht:∀ C s H fp,PIfs (cxC X Nc scope C s H fp) ifs tt) (he:∀ C s H fp,PE (cxC X Nc scope C s H fp) elt te):
 PE X (.ListComp elt [⟨tg,iter,ifs,0⟩] scope pos) (tComp Nc.length wi g tt te):=by
 intro pins s σ H Q I h
 have hcells:=fun y hy e=>I.ok.has y.1 (S.free y hy e)
 refine wpAny_comprehension_free rfl hs (closure_of hcells) S.kind S.names (thn (hi pins s σ H _ I h) fun v s1 h1=>thn h1 fun itv s2 h2=>?_)
 obtain⟨it,fp,tn,J,H2,e,I2,T,st2,f2,z⟩:=h2
 subst e
 refine comp_block hc S I2 T st2 f2 hg ht he z fun D C s' H3 ys I' hD hz hm hf=>?_
 obtain⟨m,hm⟩:=hm
 exact⟨m,hm,fun h' sb=>⟨.ref D,_,I'.turned (fun b o hb e=>(sb.2 b hb).trans e) hf.1 hf.2.1 hf.2.2.2.1 hf.2.2.2.2.1 hf.2.2.2.2.2,rfl,hz D _ hD (Br.Same.upd hD) upd_same⟩⟩
end
theorem vals_bl:∀ {bs:List Bool}{its:List Value}{i:Nat}{v:Value},Vals (bs.map V.bl) its->its[i]? = some v->∃ b,bs[i]? = some b/\v = .bool b
 | [],_,i,v,r,e=>by cases r;simp_all
 | b :: bs,_,i,v,r,e=>by
  cases r with
  | cons r rr=>
   cases i with
   | zero=>simp at e;subst e;exact⟨b,rfl,r⟩
   | succ i=>
    obtain⟨b',h1,h2⟩:=vals_bl rr (by assumption)
    simp_all
theorem range_all {bs:List Bool}:((List.range bs.length).all fun i=>bs.getD i false) = bs.all id:=by
 rw [Bool.eq_iff_iff]
 simp only [List.all_eq_true,List.mem_range,id]
 constructor
 · intro h b hb
   obtain⟨i,hi,e⟩:=List.getElem_of_mem hb
   simp_all
 · intro h i hi
   rw [List.getD_eq_getElem?_getD,List.getElem?_eq_getElem hi]
   exact h _ (List.getElem_mem hi)
def rAll (K:PySem.W.Frag) (f:List Bool->Bool):List V->Hp->VK->Prop:=fun xs H Q=>∃ p bs,xs = [.ref p]/\SqL K H p (bs.map V.bl)/\Q (.bl (f bs)) H
theorem truth_bl {bs:List Bool} (r:Vals (bs.map V.bl) its):TruthOf prog w A (fun i v=>its.toArray[i]? = some v) fun i=>bs.getD i false:=by
 intro i v s Q E e q
 obtain⟨b,hb,rfl⟩:=vals_bl r (by simpa using e)
 have q:Q (bs.getD i false) s:=q
 rw [List.getD_eq_getElem?_getD,hb] at q
 exact wpAny_truthy_bool q
theorem call_all (hc:X.calm = true):CallR X (.builtin "all") (rAll X.K fun bs=>bs.all id):=by
 intro pins s σ H xs us Q I r h
 obtain⟨p,bs,rfl,hq,q⟩:=h
 obtain⟨u,rfl,rx⟩:=vals1 r
 cases rx
 obtain⟨its,r',pl,hz⟩:=I.list hq
 have hp:p < s.heap.objs.size:=by obtain⟨_,_,e,_⟩:=pl;exact Heap.lt_size e
 have hl:its.length = bs.length:=by rw [<- r'.length,List.length_map]
 refine call_all_walk (wpAny_pyIter_list pl.isList ⟨s.heap.objs.size,_,_,_,_,_,fun i=>bs.getD i false,rfl,Walks.list (A:=X.A.in1) (I.ok.hd hc) s.heap.objs.size p (Nat.ne_of_lt hp) its.toArray,⟨⟨_,Heap.get?_push_size _ rfl,rfl,rfl⟩,pl.isList.at fun o e=>Heap.get?_push_of_some _ e⟩,truth_bl r',fun h' tk hk=>?_⟩)
 rw [List.size_toArray,hl,range_all]
 exact⟨.bl _,H,I.kept fun b o e=>hk b o (fun z=>absurd (Heap.lt_size e) (by simp_all)) (Heap.get?_push_of_some _ e),rfl,q⟩
theorem boot_all:bootBuiltins "all" = some (.builtin "all"):=by decide
structure JIfs (X:Cx) (es:List Expr) (t:TT):Prop where h:PIfs X es t
def nodupB:List Str->Bool
 | []=>true
 | x :: r=>!(r.any fun y=>x == y) && nodupB r
theorem nodupB_of:∀ {l:List Str},nodupB l = true->l.Nodup
 | [],_=>List.nodup_nil
 | x :: r,h=>by
  unfold nodupB at h
  simp at h
  refine List.nodup_cons.mpr ⟨fun hm=>?_,nodupB_of h.2⟩
  grind
def compB (names0:List (Str×NameKind)) (N:List Str) (scope:Scope):Bool:=
 scope.kind == .function && scope.names.all (fun y=>y.2 != .cell) && scope.names.all (fun y=>y.2 != .local || scope.names.lookup y.1 == some .local) && scope.names.all (fun y=>y.2 != .free || names0.lookup y.1 == some .cell || names0.lookup y.1 == some .free) && scope.names.all (fun y=>y.1.cps.toList.head? != some 33) && nodupB (N.map (hid scope))
theorem kind_eq {a b:NameKind} (h:(a == b) = true):a = b:=by grind
theorem okind_eq {a b:Option NameKind} (h:(a == b) = true):a = b:=by grind
theorem CompS.of (h:compB X.env.scope.names X.N scope = true):CompS X scope:=by
 unfold compB at h
 simp only [Bool.and_eq_true,List.all_eq_true,Bool.or_eq_true] at h
 obtain⟨⟨⟨⟨⟨h1,h2⟩,h3⟩,h4⟩,h5⟩,h6⟩:=h
 refine⟨?_,fun y hy z=>?_,fun y hy z=>?_,fun y hy z=>?_,?_,nodupB_of h6⟩
 · grind
 · have q:=h2 y hy;rw [z] at q;cases q
 · rcases h3 y hy with q | q
   · rw [z] at q;cases q
   · exact okind_eq q
 · rcases h4 y hy with (q | q) | q
   · rw [z] at q;cases q
   · exact .inl (okind_eq q)
   · exact .inr (okind_eq q)
 · intro y
   cases e:scope.names.lookup (dotS y) with
   | none=>rfl
   | some k=>
    have hm:=PySem.mem_of_lookup e
    have:=h5 _ hm
    have hd:(dotS y).cps.toList.head? = some 33:=rfl
    grind
theorem f_nil:JIfs X [] tYes:=⟨pifs_nil⟩
theorem f_one (h:JT X c tt):JIfs X [c] tt:=⟨pifs_one h.h⟩
theorem j_cell (h:At X.N i x) (hk:X.env.scope.names.lookup x = some .cell) (hd:(x == ("__debug__" : Str)) = false) (hcd:(x == ("__classdict__" : Str)) = false):JE X (.Name x pos) (tVar i):=⟨pe_var h.get (.inr (.inl hk)) hd hcd⟩
theorem g_cell (h:At X.N i x) (hN:X.N.Nodup) (hk:X.env.scope.names.lookup x = some .cell) (hf:X.fn x = true):JG X (.Name x pos) (gName i):=⟨pg_name hN h.get (.inr hk) (.inl hf)⟩
theorem s_setC (h:At X.N i x) (hN:X.N.Nodup) (hk:X.env.scope.names.lookup x = some .cell) (hf:X.fn x = true) (hs:swapsWith e (some (.Name x p)) pos.line X.env = pure false) (he:JE X e te):JS X (.Assign [.Name x p] e pos) (tAsg te (gName i)):=⟨ps_set hN h.get (.inr hk) he.h hs (.inl hf)⟩
section
variable (hg:Gl X x) (he:starEach (e :: es) X.env = (false,eval e X.env) :: starEach es X.env) (hpl:(backTo pos (starEach es X.env)).any (·.1) = false)
include hg he hpl
theorem j_all (hx:x = "all") (hc:X.calm = true) (hm:X.mg x = none) (ha:JA X (e :: es) t):JE X (.Call (.Name x p) (e :: es) [] pos) (tCB (rAll X.K fun bs=>bs.all id) t):=⟨by subst hx;exact pe_callB (call_all hc) hg hm boot_all ha.h (by decide) (by decide) he hpl⟩
end
section
variable {K:PySem.W.Frag}
theorem cmp_list (Pv:Nat->List V->L2.St->Hp->Prop) (h0:Pv 0 [] σ0 H0) (hz:xs.length<=sizeLine) (hl:∀ i ys σ H,i<=xs.length->Pv i ys σ H->SqL K H a xs/\ys.length<=i)
 (hs:∀ i x ys σ H (N:List V->L2.St->Hp->Prop),xs[i]? = some x->Pv i ys σ H->(∀ ys' σ' H',Pv (i + 1) ys' σ' H'->N ys' σ' H')->
  g x σ H fun σ3 H3=>tt σ3 H3 fun b H4=>if b = true then te σ3 H4 fun y H5=>N (ys ++ [y]) σ3 H5 else N ys σ3 H4)
 (hd:∀ ys σ H,Pv xs.length ys σ H->Z ys H):Cmp (Itl K a) g tt te σ0 H0 Z:=by
 refine⟨fun i m ys σ H=>m = xs.length - i/\i<=xs.length/\Pv i ys σ H,⟨xs.length,by simp,Nat.zero_le _,h0⟩,?_⟩
 rintro i m ys σ H ⟨rfl,hi,p⟩
 obtain⟨q,hy⟩:=hl i ys σ H hi p
 refine⟨by omega,?_⟩
 by_cases hlt:i < xs.length
 · refine .inr ⟨⟨xs,xs[i],q,by simp⟩,fun x H' y=>?_⟩
   obtain⟨e,y⟩:=y
   subst e
   exact hs i x ys σ _ (fun ys' σ' H'=>∃ m',m' < xs.length - i/\m' = xs.length - (i + 1)/\i + 1<=xs.length/\Pv _ ys' σ' H') (y xs q) p fun ys' σ' H' p'=>⟨xs.length - _,by omega,rfl,hlt,p'⟩
 · have e:i = xs.length:=by omega
   subst e
   exact .inl ⟨⟨xs,q,Nat.le_refl _⟩,hd ys σ H p⟩
theorem cmp_range {lo:Int} (Pv:Nat->List V->L2.St->Hp->Prop) (h0:Pv 0 [] σ0 H0) (hz:n<=sizeLine) (hl:∀ i ys σ H,i<=n->Pv i ys σ H->ys.length<=i)
 (hs:∀ i ys σ H (N:List V->L2.St->Hp->Prop),i < n->Pv i ys σ H->(∀ ys' σ' H',Pv (i + 1) ys' σ' H'->N ys' σ' H')->
  g (.int (lo + i)) σ H fun σ3 H3=>tt σ3 H3 fun b H4=>if b = true then te σ3 H4 fun y H5=>N (ys ++ [y]) σ3 H5 else N ys σ3 H4)
 (hd:∀ ys σ H,Pv n ys σ H->Z ys H):Cmp (Itr lo n) g tt te σ0 H0 Z:=by
 refine⟨fun i m ys σ H=>m = n - i/\i<=n/\Pv i ys σ H,⟨n,by simp,Nat.zero_le _,h0⟩,?_⟩
 rintro i m ys σ H ⟨rfl,hi,p⟩
 have hy:=hl i ys σ H hi p
 refine⟨by omega,?_⟩
 by_cases hlt:i < n
 · refine .inr ⟨hlt,fun x H' y=>?_⟩
   obtain⟨e,y⟩:=y
   subst e;subst y
   exact hs i ys σ _ (fun ys' σ' H'=>∃ m',m' < n - i/\m' = n - _/\i + 1<=n/\Pv (i + 1) ys' σ' H') hlt p fun ys' σ' H' p'=>⟨n - (i + 1),by omega,rfl,hlt,p'⟩
 · have e:i = n:=by omega
   subst e
   exact .inl ⟨Nat.le_refl _,hd ys σ H p⟩
end
theorem loc_C (hk:scope.names.lookup x = some .local):(cxC X Nc scope C s H fp).env.scope.names.lookup x = some .local:=lookup_relabel_local hk
theorem not_mem_of (S:CompS X scope) (hk:scope.names.lookup x = some .local):x∉X.N.map (hid scope):=fun h=>by
 obtain⟨y,_,e⟩:=List.mem_map.mp h
 rcases hid_cases scope y with ⟨_,h2⟩ | ⟨h1,h2⟩
 · rw [h2] at e;rw [<- e,S.dot] at hk;grind
 simp_all
theorem g_C1 (S:CompS X scope) (hN:X.N.Nodup) (hk:scope.names.lookup x = some .local) (C:Addr) (s:Shared) (H:Hp) (fp:List Addr):PG (cxC X [x] scope C s H fp) (.Name x px) (gName 0):=
 pg_name (List.nodup_cons.mpr ⟨not_mem_of S hk,S.nd⟩) rfl (.inl (loc_C hk)) (.inr (loc_C hk))
theorem g_C2 (hc:X.calm = true) (S:CompS X scope) (hN:X.N.Nodup) (hxy:x≠y) (hx:scope.names.lookup x = some .local) (hy:scope.names.lookup y = some .local) (C:Addr) (s:Shared) (H:Hp) (fp:List Addr):
 PG (cxC X [x,y] scope C s H fp) (.Tuple [.Name x px,.Name y py] k pt) (gTup X.K 2 (gCons (gName 0) (gCons (gName 1) gNil))):=by
 have nd:=List.nodup_cons.mpr ⟨fun h=>by
  rcases List.mem_cons.mp h with h | h
  · exact hxy h
  · exact not_mem_of S hx h,List.nodup_cons.mpr ⟨not_mem_of S hy,S.nd⟩⟩
 exact pg_tup hc (pgs_cons (pg_name nd rfl (.inl (loc_C hx)) (.inr (loc_C hx))) (pgs_cons (pg_name nd rfl (.inl (loc_C hy)) (.inr (loc_C hy))) pgs_nil))
theorem j_comp1 (hc:X.calm = true) (S:compB X.env.scope.names X.N scope = true) (hs:∀ x,foldedSetIterable iter X.env x = pure x) (hN:X.N.Nodup) (hk:scope.names.lookup x = some .local) (hi:JI X (.Name x px) iter wi)
 (ht:∀ C s H fp,JIfs (cxC X [x] scope C s H fp) ifs tt) (he:∀ C s H fp,JE (cxC X [x] scope C s H fp) elt te):JE X (.ListComp elt [⟨.Name x px,iter,ifs,0⟩] scope pos) (tComp 1 wi (gName 0) tt te):=
 ⟨pe_comp hc (.of S) hs hi.h (g_C1 (.of S) hN hk) (fun C s H fp=>(ht C s H fp).h) fun C s H fp=>(he C s H fp).h⟩
theorem j_comp2 (hc:X.calm = true) (S:compB X.env.scope.names X.N scope = true) (hs:∀ x,foldedSetIterable iter X.env x = pure x) (hN:X.N.Nodup) (hxy:x≠y) (hx:scope.names.lookup x = some .local) (hy:scope.names.lookup y = some .local)
 (hi:JI X (.Tuple [.Name x px,.Name y py] k pt) iter wi) (ht:∀ C s H fp,JIfs (cxC X [x,y] scope C s H fp) ifs tt) (he:∀ C s H fp,JE (cxC X [x,y] scope C s H fp) elt te):
 JE X (.ListComp elt [⟨.Tuple [.Name x px,.Name y py] k pt,iter,ifs,0⟩] scope pos) (tComp 2 wi (gTup X.K 2 (gCons (gName 0) (gCons (gName 1) gNil))) tt te):=
 ⟨pe_comp hc (.of S) hs hi.h (g_C2 hc (.of S) hN hxy hx hy) (fun C s H fp=>(ht C s H fp).h) fun C s H fp=>(he C s H fp).h⟩
theorem cxC_K:(cxC X Nc scope C s H fp).K = X.K:=rfl
section
variable {X:Cx}{K:PySem.W.Frag} (hK:X.K = K)
include hK
theorem k_ix (hs:PlainIx b) (ha:JE X a ta) (hb:JE X b tb):JE X (.Subscript a b pos) (tOp (rIx K) ta tb):=hK▸j_ix hs ha hb
theorem k_append (hbase:attributeBase o "append" X.env (eval o X.env) = eval o X.env) (hfew:((backTo cpos (starEach [e] X.env)).all (fun x=>!x.1) && (backToKw cpos (keywordEach [] X.env)).all (fun x=>x.1.isSome)
 && decide (([e]:List Expr).length + ([]:List Keyword).length + (if ([]:List Keyword).isEmpty then 0 else 1) < 30)) = true) (hline:(apos.endLine == cpos.line) = true) (hs:starEach [e] X.env = (false,eval e X.env) :: starEach [] X.env)
 (hpl:(backTo cpos (starEach [] X.env)).any (·.1) = false) (ho:JE X o to) (ha:JA X [e] t):JE X (.Call (.Attribute o "append" apos) [e] [] cpos) (tBM K "list" rAppend to t):=hK▸j_append hbase hfew hline hs hpl ho ha
theorem k_comp2 (hc:X.calm = true) (S:compB X.env.scope.names X.N scope = true) (hs:∀ x,foldedSetIterable iter X.env x = pure x) (hN:X.N.Nodup) (hxy:x≠y) (hx:scope.names.lookup x = some .local) (hy:scope.names.lookup y = some .local)
 (hi:JI X (.Tuple [.Name x px,.Name y py] k pt) iter wi) (ht:∀ C s H fp,JIfs (cxC X [x,y] scope C s H fp) ifs tt) (he:∀ C s H fp,JE (cxC X [x,y] scope C s H fp) elt te):
 JE X (.ListComp elt [⟨.Tuple [.Name x px,.Name y py] k pt,iter,ifs,0⟩] scope pos) (tComp 2 wi (gTup K 2 (gCons (gName 0) (gCons (gName 1) gNil))) tt te):=hK▸j_comp2 hc S hs hN hxy hx hy hi ht he
section
variable (hg:Gl X x) (he:starEach (e :: es) X.env = (false,eval e X.env) :: starEach es X.env) (hpl:(backTo pos (starEach es X.env)).any (·.1) = false)
include hg he hpl
theorem k_isi (hx:x = "isinstance") (hm:X.mg x = none) (ha:JA X (e :: es) t):JE X (.Call (.Name x p) (e :: es) [] pos) (tCB (rIsi K) t):=hK▸j_isi hg he hpl hx hm ha
theorem k_len (hx:x = "len") (hm:X.mg x = none) (ha:JA X (e :: es) t):JE X (.Call (.Name x p) (e :: es) [] pos) (tCB (rLen K) t):=hK▸j_len hg he hpl hx hm ha
theorem k_all (hx:x = "all") (hc:X.calm = true) (hm:X.mg x = none) (ha:JA X (e :: es) t):JE X (.Call (.Name x p) (e :: es) [] pos) (tCB (rAll K fun bs=>bs.all id) t):=hK▸j_all hg he hpl hx hc hm ha
end
end
def ikv (ks:List (Int×V)):List (Key×V):=ks.map fun q=>(.inl q.1,q.2)
def rSortD:List V->Hp->VK->Prop:=fun xs H Q=>∃ (p:Addr) (ks:List (Int×V)),xs = [.ref p]/\H p = some (.dK (ikv ks))/\ks.length < 64/\
 ∀ (l:Addr) (ns:List Int) (H':Hp),H l = none->L2.Same H H'->H' l = some (.lst (ns.map V.int))->ns.Perm (ks.map (·.1))->ns.Pairwise (·<=·)->Q (.ref l) H'
theorem ints_vals:∀ {vs:List Value}{ns:List Int},IntsAre vs ns->Vals (ns.map V.int) vs
 | _,_,.nil=>.nil
 | _,_,.cons n t r=>.cons ⟨t,rfl⟩ (ints_vals r)
theorem kv_get:∀ {ks:List (Int×V)}{vs:List (Key×Value)}{i:Nat}{k:Key}{x:Value},KV (ikv ks) vs->vs[i]? = some (k,x)->∃ q,ks[i]? = some q/\k = .inl q.1
 | [],_,i,k,x,r,e=>by cases r;simp_all
 | q :: ks,_,i,k,x,r,e=>by
  cases r with
  | cons r rr=>
   cases i with
   | zero=>simp_all
   | succ i=>
    obtain⟨q',h1,h2⟩:=kv_get rr (by assumption)
    simp_all
theorem ints_of_get:∀ {vs:List Value}{ns:List Int},vs.length = ns.length->(∀ (j:Nat) (v:Value),vs[j]? = some v->∃ n t,ns[j]? = some n/\v = .int n t)->IntsAre vs ns
 | [],[],_,_=>.nil
 | [],_ :: _,h,_=>by simp_all
 | _ :: _,[],h,_=>by simp_all
 | v :: vs,n :: ns,h,g=>by
  obtain⟨n',t,e1,e2⟩:=g 0 v rfl
  simp at e1;subst e1;subst e2
  exact .cons n t (ints_of_get (by simpa using h) fun j u e=>by
   obtain⟨n',t',e1,e2⟩:=g (j + 1) u (by simp_all)
   simp_all)
theorem call_sortD (hc:X.calm = true):CallR X (.builtin "sorted") rSortD:=by
 intro pins s σ H xs us Q I r h
 obtain⟨p,ks,rfl,hq,h64,q⟩:=h
 obtain⟨u,rfl,rx⟩:=vals1 r
 cases rx
 obtain⟨hz,lo,vs,kv,dd⟩:=(show ObjOk X.prog X.w H s.heap p (.dK (ikv ks)) from I.hok p _ hq)
 obtain⟨ep,hat⟩:=dd.dictAt
 have hl:vs.length = ks.length:=by
  have:=Paired.length kv
  rw [<- this];unfold ikv;rw [List.length_map]
 have hsz:=sizeLine_eq
 refine Calls.call_function_entry kind_sorted plain_sorted entry_sorted (args_sorted1 _) ?_
 unfold Builtin.«sorted»
 refine wpAny_bind (m:=checkCount "sorted" 1 1 _) (wpAny_pure ?_)
 refine wpAny_bind (PySem.W.kdu_collect (A:=X.A.in1) (PySem.W.kdl_dict (knd:=mixKind X.prog X.w) (kvs:=vs) (ep:=ep) lo) (I.ok.hd hc) hat (by omega) fun h' tk acc hk hacc=>?_)
 have hI:IntsAre acc.toList (ks.map (·.1)):=ints_of_get (by rw [Array.length_toList,List.length_map,hacc.1,hl]) fun j v e=>by
  obtain⟨k,x,e1,e2⟩:=hacc.2 j v (by rw [<- Array.getElem?_toList];exact e)
  obtain⟨q',h1,h2⟩:=kv_get kv e1
  subst h2
  have e2:keyIs (.inl q'.1) v = true:=e2
  rcases keyIs_shape e2 with ⟨i,t,ek,e3⟩ | ⟨y,t,ek,e3⟩
  · subst e3
    injection ek with ek
    exact⟨_,t,by rw [List.getElem?_map,h1];rfl,by show Value.int i t = Value.int q'.1 t;rw [ek]⟩
  · cases ek
 have hal:acc.toList.length = ks.length:=by rw [Array.length_toList,hacc.1,hl]
 refine wpAny_bind (wpAny_newList ?_ (by rw [hal];omega))
 have hoL:(h'.push (seqObj "list" acc.toList.toArray 0)).get? h'.objs.size = some (seqObj "list" acc.toList.toArray 0):=Heap.get?_push_size _ rfl
 refine wpAny_bind (wpAny_holding (wpAny_call_entry slot_list_sort ⟨_,hoL,rfl⟩ entry_list_sort (list_sort_tree hoL hI (by omega) fun out ns' a1 a2 a3=>⟨_,rfl,?_⟩) (args_list_sort _)))
 refine wpAny_pure ⟨_,rfl,?_⟩
 obtain⟨n',e'⟩:∃ n',(sortedHeap (h'.push (seqObj "list" acc.toList.toArray 0)) h'.objs.size acc.toList out).get? h'.objs.size = some (seqObj "list" out n'):=sortedHeap_at hoL
 have I1:Inv X pins σ H { s with heap:=h',toks:=tk }:=I.kept hk
 have hfr:H h'.objs.size = none:=I1.hok.fresh (Nat.le_refl _)
 have keep:∀ b o,h'.get? b = some o->(sortedHeap (h'.push (seqObj "list" acc.toList.toArray 0)) h'.objs.size acc.toList out).get? b = some o:=fun b o e=>by
  have hb:=Heap.lt_size e
  rw [sortedHeap_old (Nat.ne_of_lt hb) (by rw [Heap.size_push];exact Nat.lt_succ_of_lt hb)]
  exact Heap.get?_push_of_some _ e
 have hlen:ns'.length<=sizeLine:=by rw [a2.length_eq,List.length_map];omega
 have I2:=
  I1.laid (t':=tk) keep (Nat.le_refl _) (show ObjOk X.prog X.w _ _ _ (.lst (ns'.map V.int)) from ⟨by rw [List.length_map];exact hlen,out.toList,n',ints_vals a1,by simpa using e'⟩)
 exact⟨.ref h'.objs.size,_,I2,rfl,q _ _ _ hfr (Br.Same.upd hfr) upd_same a2 a3⟩
theorem boot_sorted:bootBuiltins "sorted" = some (.builtin "sorted"):=by rfl
def iSeq (K:PySem.W.Frag) (tl:TE):TI:=fun σ H R=>tl σ H fun x H1=>∃ a,x = .ref a/\(((∃ xs,SqL K H1 a xs)/\R (Itl K a) H1)\/((∃ xs,SqT K H1 a xs)/\R (Itt K a) H1))
theorem pi_seq (hl:PE X l tl):PI X tg l (iSeq X.K tl):=by
 intro pins s σ H R I h
 refine thn (hl pins s σ H _ I h) fun v s1 ⟨x,H1,I1,r1,q1⟩=>?_
 obtain⟨a,e,q1⟩:=q1
 subst e
 cases r1
 rcases q1 with ⟨⟨xs,hq⟩,q⟩ | ⟨⟨xs,hq⟩,q⟩
 · obtain⟨its,rv,p,hz⟩:=I1.list hq
   refine wpAny_pyIter_list p.isList ?_
   refine⟨s1.heap.objs.size,[s1.heap.objs.size],_,_,H1,rfl,I1.kept (t':=s1.toks) fun b o e=>Heap.get?_push_of_some _ e,turn_list a _,⟨_,Heap.get?_push_size _ rfl,rfl,rfl⟩,fun b hb=>?_,q⟩
   have e:=by simpa using hb
   subst e
   exact I1.fpOk (Nat.le_refl _) (I1.hok.fresh (Nat.le_refl _))
 · obtain⟨its,rv,p,hz⟩:=I1.tuple hq
   refine wpAny_pyIter_tuple (p) ?_
   refine⟨s1.heap.objs.size,[s1.heap.objs.size],_,_,H1,rfl,I1.kept fun b o e=>Heap.get?_push_of_some _ e,turn_tuple a _,⟨_,Heap.get?_push_size _ rfl,rfl,rfl⟩,fun b hb=>?_,q⟩
   have e:=by simpa using hb
   subst e
   exact I1.fpOk (Nat.le_refl _) (I1.hok.fresh (Nat.le_refl _))
def rSlS (K:PySem.W.Frag):V->Option Int->Option Int->Hp->VK->Prop:=fun x lo hi H Q=>∃ a xs,x = .ref a/\((SqL K H a xs/\∀ p H2,H p = none->L2.Same H H2->H2 p = some (.lst (cutV xs lo hi))->Q (.ref p) H2)\/
 (SqT K H a xs/\¬ (HT.sIx xs.length 0 lo = 0/\HT.sIx xs.length xs.length hi = xs.length)/\∀ p H2,H p = none->L2.Same H H2->H2 p = some (.tup (cutV xs lo hi))->Q (.ref p) H2))
theorem sl_S:SlR X (rSlS X.K):=by
 intro pins s σ H x v vl vu lo hi sl Q I rx hs pl pu h
 obtain⟨a,xs,rfl,h⟩:=h
 rcases h with ⟨hx,q⟩ | ⟨hx,hn,q⟩
 · exact sl_list pins s σ H _ v vl vu lo hi sl Q I rx hs pl pu ⟨a,xs,rfl,hx,fun p hp=>q p _ hp (Br.Same.upd hp) upd_same⟩
 · exact sl_tup pins s σ H _ v vl vu lo hi sl Q I rx hs pl pu ⟨a,xs,rfl,hx,hn,fun p hp=>q p _ hp (Br.Same.upd hp) upd_same⟩
def rCatTS (K:PySem.W.Frag):R2:=fun x y H Q=>∃ a b xs ys,x = .ref a/\y = .ref b/\SqT K H a xs/\SqT K H b ys/\xs≠[]/\xs.length + ys.length<=sizeLine/\∀ p H2,L2.Same H H2->SqT K H2 p (xs ++ ys)->Q (.ref p) H2
theorem op_catTS:OpR X (binaryOp .Add) (rCatTS X.K):=fun pins s σ H x y v u Q I rx ry h=>by
 obtain⟨a,b,xs,ys,e1,e2,h1,h2,hx,hz,q⟩:=h
 refine op_catT pins s σ H x y v u Q I rx ry ⟨a,b,xs,ys,e1,e2,h1,h2,hx,hz,fun e=>?_,fun _ p hp=>q p _ (Br.Same.upd hp) (SqT.of upd_same)⟩
 exact q a H (L2.Same.refl _) (by simp_all)
def rTupOf (K:PySem.W.Frag):List V->Hp->VK->Prop:=fun xs H Q=>∃ p ys,xs = [.ref p]/\SqL K H p ys/\∀ l H2,H l = none->L2.Same H H2->H2 l = some (.tup ys)->Q (.ref l) H2
theorem call_tupS:CallR X (.type "tuple") (rTupOf X.K):=fun pins s σ H xs us Q I r h=>by
 obtain⟨p,ys,e,hq,q⟩:=h
 exact call_tuple_of pins s σ H xs us Q I r ⟨p,ys,e,.inl ⟨hq,fun l hl=>q l _ hl (Br.Same.upd hl) upd_same⟩⟩
def rLstOf (K:PySem.W.Frag):List V->Hp->VK->Prop:=fun xs H Q=>∃ p ys,xs = [.ref p]/\(SqL K H p ys\/SqT K H p ys)/\∀ l H2,H l = none->L2.Same H H2->H2 l = some (.lst ys)->Q (.ref l) H2
theorem call_lstS:CallR X (.type "list") (rLstOf X.K):=fun pins s σ H xs us Q I r h=>by
 obtain⟨p,ys,e,hq,q⟩:=h
 exact call_list_of pins s σ H xs us Q I r ⟨p,ys,e,hq,fun l hl=>q l _ hl (Br.Same.upd hl) upd_same⟩
theorem op_mulI:OpR X (binaryOp .Mult) (rI IntMulOk fun i j=>.int (i * j)):=opI fun _ _ _ _ _ _ _ hc q=>mul_int q hc
theorem CMulB.ok (h:CMulB i j):IntMulOk i j:=IntMulOk.of_bits (bits_of h.1) (bits_of h.2)
theorem boot_list':bootBuiltins "list" = some (.type "list"):=by decide +kernel
theorem boot_tuple':bootBuiltins "tuple" = some (.type "tuple"):=by decide
section
variable {X:Cx}{K:PySem.W.Frag} (hK:X.K = K)
theorem o_mulI:JOp X .Mult (rI IntMulOk fun i j=>.int (i * j)):=⟨op_mulI⟩
theorem k_seq (hK:X.K = K) (hl:JE X l tl):JI X tg l (iSeq K tl):=hK▸⟨pi_seq hl.h⟩
theorem k_slS (hK:X.K = K) {lo hi:Option Expr} (he:JE X e te) (hl:JO X lo tl) (hu:JO X hi th):JE X (.Subscript e (.Slice lo hi none p2) pos) (tSl (rSlS K) te tl th):=hK▸⟨pe_slice sl_S he.h hl.h hu.h⟩
theorem j_dget (hr:Room k X.A) (hs:NoSl b) (ho:JE X (.Name "counts" p) td) (hi:JE X b ty):JE X (.Subscript (.Name "counts" p) b pos) (tDGet td ty):=⟨pe_dget (by have:=hr.un;omega) ho.h hi.h hs⟩
theorem s_dput (hr:Room k X.A) (hs:swapsWith value (some (.Subscript (.Name "counts" p) b pos')) pos.line X.env = pure false) (ho:JE X (.Name "counts" p) td) (hi:JE X b ty) (hv:JE X value tv):JS X (.Assign [.Subscript (.Name "counts" p) b pos'] value pos) (sDPut td ty tv):=
 ⟨ps_dput (by have:=hr.un;omega) ho.h hi.h hv.h hs⟩
theorem s_ixset (hs:swapsWithSole [.Subscript o b pos'] value pos.line X.env = pure false) (hw:swappedStores [.Subscript o b pos'] value X.env = pure none) (h1:(assignEach [.Subscript o b pos'] X.env).map (·.2) = [assign (.Subscript o b pos') X.env])
 (ha:∀ v,assign (.Subscript o b pos') X.env v = (do
  let ov <- holding [v] (eval o X.env)
  let iv <- holding [v,ov] (eval b X.env)
  standAt pos'
  holding [v,ov,iv] (setItem ov iv v)
  release [v,ov,iv] [])) (ho:JE X o to) (hi:JE X b tb) (hv:JE X value tv):JS X (.Assign [.Subscript o b pos'] value pos) (tAsg tv (gSub to tb rSetL)):=⟨ps_asg hv.h (pg_sub ho.h hi.h set_list ha) hs hw h1⟩
section
variable (hg:Gl X x) (he:starEach (e :: es) X.env = (false,eval e X.env) :: starEach es X.env) (hpl:(backTo pos (starEach es X.env)).any (·.1) = false)
include hg he hpl
theorem k_tuple (hK:X.K = K) (hx:x = "tuple") (hm:X.mg x = none) (ha:JA X (e :: es) t):JE X (.Call (.Name x p) (e :: es) [] pos) (tCB (rTupOf K) t):=hK▸⟨by subst hx;exact pe_callTy call_tupS hg hm boot_tuple' ha.h (by decide) (by decide) he hpl⟩
theorem k_listc (hK:X.K = K) (hx:x = "list") (hm:X.mg x = none) (ha:JA X (e :: es) t):JE X (.Call (.Name x p) (e :: es) [] pos) (tCB (rLstOf K) t):=hK▸⟨by subst hx;exact pe_callTy call_lstS hg hm boot_list' ha.h (by decide) (by decide) he hpl⟩
end
end
section
variable {K:PySem.W.Frag}
theorem cmp_tup (Pv:Nat->List V->L2.St->Hp->Prop) (h0:Pv 0 [] σ0 H0) (hz:xs.length<=sizeLine) (hl:∀ i ys σ H,i<=xs.length->Pv i ys σ H->SqT K H a xs/\ys.length<=i)
 (hs:∀ i x ys σ H (N:List V->L2.St->Hp->Prop),xs[i]? = some x->Pv i ys σ H->(∀ ys' σ' H',Pv (i + 1) ys' σ' H'->N ys' σ' H')->
  g x σ H fun σ3 H3=>tt σ3 H3 fun b H4=>if b = true then te σ3 H4 fun y H5=>N (ys ++ [y]) σ3 H5 else N ys σ3 H4)
 (hd:∀ ys σ H,Pv xs.length ys σ H->Z ys H):Cmp (Itt K a) g tt te σ0 H0 Z:=by
 refine⟨fun i m ys σ H=>m = xs.length - i/\i<=xs.length/\Pv i ys σ H,⟨xs.length,by simp,Nat.zero_le _,h0⟩,?_⟩
 rintro i m ys σ H ⟨rfl,hi,p⟩
 obtain⟨q,hy⟩:=hl i ys σ H hi p
 refine⟨by omega,?_⟩
 by_cases hlt:i < xs.length
 · refine .inr ⟨⟨xs,xs[i],q,by simp⟩,fun x H' y=>?_⟩
   obtain⟨e,y⟩:=y
   subst e
   exact hs i x ys σ _ (fun ys' σ' H'=>∃ m',m' < xs.length - i/\m' = xs.length - (i + 1)/\i + 1<=xs.length/\Pv _ ys' σ' H') (y xs q) p fun ys' σ' H' p'=>⟨xs.length - _,by omega,rfl,hlt,p'⟩
 · have e:i = xs.length:=by omega
   subst e
   exact .inl ⟨⟨xs,q,Nat.le_refl _⟩,hd ys σ H p⟩
end
theorem tsetAt {c:Addr}{o:Obj}{fs:Array Value}{i:Nat}{x:Value}{Q:Unit->Shared->Prop} (e1:s.heap.get? c = some o) (e2:o.data = .fields fs) (hi:i < fs.size)
 (go:∀ g o',g.get? c = some o'->o'.cls = o.cls->o'.data = .fields (fs.set! i x)->Heap.SameBut c s.heap g->Q () { s with heap:=g }):wpAny (model prog w) A (setField (.ref c) i x) Q E s:=by
 refine wpAny_setField e1 e2 hi ?_
 have f:(o.mapFields fun a=>a.set! i x).data = .fields (fs.set! i x):=Obj.data_mapFields e2 _
 exact go _ _ (Heap.get?_update_self _ e1 (Obj.isFreed_of_fields f)) (Obj.cls_mapFields ..) f (Heap.SameBut.update ..)
theorem tstep {c d:Addr}{k:Nat}{zs:Array Value}{v:Value}{Q:Value->Shared->Prop} (hI:s.heap.IsTupleIter c d k) (hT:s.heap.IsTuple d zs) (hv:zs[k]? = some v)
 (go:∀ g,g.IsTupleIter c d (k + 1)->Heap.SameBut c s.heap g->Q v { s with heap:=g }):wpAny (model prog w) A (Builtin.«tuple_iterator.__next__» ⟨[.ref c],[]⟩) (fun fin s'=>∃ u,fin = .done (.ret u)/\Q u s') E s:=by
 have hI':=hI
 obtain⟨oc,q1,q2,q3⟩:=hI'
 have hT':=hT
 obtain⟨od,p1,_,nd,p3⟩:=hT'
 have at_:zs[((k:Nat):Int).toNat]? = some v:=by simpa using hv
 wp_walk using wpAny_field q1 q3 (x:=.ref d) rfl,wpAny_field q1 q3 (x:=.int k 0) rfl,wpAny_seqItems p1 p3
 rw [at_]
 refine wpAny_bind (tsetAt q1 q3 (by simp) fun g o' a1 a2 a3 sb=>?_)
 wp_walk
 exact⟨_,rfl,go g ⟨o',a1,a2.trans q2,by rw [a3];simp [rawInt]⟩ sb⟩
theorem tstop {c d:Addr}{k:Nat}{zs:Array Value}{Q:PySem.Fin->Shared->Prop} (hh:A.handled = none) (hI:s.heap.IsTupleIter c d k) (hT:s.heap.IsTuple d zs) (hv:zs[k]? = none)
 (go:∀ g e,Heap.ExtBut c s.heap g->(∃ o,g.get? e = some o/\o.cls = .type "StopIteration")->E (.ref e) { s with heap:=g }):wpAny (model prog w) A (Builtin.«tuple_iterator.__next__» ⟨[.ref c],[]⟩) Q E s:=by
 have hI':=hI
 obtain⟨oc,q1,q2,q3⟩:=hI'
 have hT':=hT
 obtain⟨od,p1,_,nd,p3⟩:=hT'
 have at_:zs[((k:Nat):Int).toNat]? = none:=by simpa using hv
 wp_walk using wpAny_field q1 q3 (x:=.ref d) rfl,wpAny_field q1 q3 (x:=.int k 0) rfl,wpAny_seqItems p1 p3
 rw [at_]
 refine wpAny_bind (wpAny_rule (wpAny_bind (tsetAt q1 q3 (by simp) fun g o' a1 a2 a3 sb=>?_)))
 wp_walk
 unfold raiseNew
 wp_walk using wpAny_handled
 rw [hh]
 wp_walk
 exact go _ _ ((sb.extBut.push _).push _) ⟨_,Heap.get?_push_size _ rfl,rfl⟩
theorem tnext {c d:Addr}{k:Nat}{zs:Array Value}{v:Value}{Q:Value->Shared->Prop} (hI:s.heap.IsTupleIter c d k) (hT:s.heap.IsTuple d zs) (hv:zs[k]? = some v)
 (go:∀ g,g.IsTupleIter c d (k + 1)->Heap.SameBut c s.heap g->Q v { s with heap:=g }):wpAny (model prog w) A (Builtin.SmallTypes.nextOf (.ref c)) Q E s:=by
 have sl:=F.slot_tuple_iterator_next
 unfold Builtin.SmallTypes.nextOf
 refine wpAny_bind (wpAny_callSpecial?_slot (name:=Str.ofString "__next__") hI.typeIs sl (wpAny_call_entry sl hI.typeIs F.entry_tuple_iterator_next ?_ (F.args_tuple_iterator_next_1 _)))
 exact wpAny_mono (tstep (Q:=fun u s'=>u = v/\Q v s') hI hT hv fun g a b=>⟨rfl,go g a b⟩) (fun fin s' ⟨u,e,e2,q⟩=>⟨u,e,wpAny_pure (e2▸q)⟩) fun _ _ z=>z
theorem tnone {c d:Addr}{k:Nat}{zs:Array Value}{Q:Value->Shared->Prop} (hh:A.handled = none) (hI:s.heap.IsTupleIter c d k) (hT:s.heap.IsTuple d zs) (hv:zs[k]? = none)
 (go:∀ g e,Heap.ExtBut c s.heap g->(∃ o,g.get? e = some o/\o.cls = .type "StopIteration")->E (.ref e) { s with heap:=g }):wpAny (model prog w) A (Builtin.SmallTypes.nextOf (.ref c)) Q E s:=by
 have sl:=F.slot_tuple_iterator_next
 unfold Builtin.SmallTypes.nextOf
 refine wpAny_bind (wpAny_callSpecial?_slot (name:=Str.ofString "__next__") hI.typeIs sl (wpAny_call_entry sl hI.typeIs F.entry_tuple_iterator_next ?_ (F.args_tuple_iterator_next_1 _)))
 exact tstop hh hI hT hv go
structure Zp (h:Heap) (z u o c1 c2 d e:Addr) (xs ys:Array Value) (k:Nat):Prop where
 zip:IsZip h z u o .none
 its:IsPair h u (.ref c1) (.ref c2)
 own:∃ a b,IsPair h o a b
 i1:h.IsTupleIter c1 d k
 i2:h.IsTupleIter c2 e k
 t1:h.IsTuple d xs
 t2:h.IsTuple e ys
structure Ap (z u o c1 c2 d e:Addr):Prop where
 ne:[z,u,o,c1,c2].Nodup
 nd:∀ b∈[z,u,o,c1,c2],d≠b/\e≠b
theorem Ap.all {z u o c1 c2 d e:Addr} (P:Ap z u o c1 c2 d e):z≠u/\z≠o/\z≠c1/\z≠c2/\u≠o/\u≠c1/\u≠c2/\o≠c1/\o≠c2/\c1≠c2:=by
 have h:=P.ne
 simp only [List.nodup_cons,List.mem_cons,List.mem_nil_iff,or_false,not_or] at h
 exact⟨h.1.1,h.1.2.1,h.1.2.2.1,h.1.2.2.2,h.2.1.1,h.2.1.2.1,h.2.1.2.2,h.2.2.1.1,h.2.2.1.2,h.2.2.2.1⟩
theorem zdraw {z u o c1 c2:Addr}{x y:Value}{J1 J2:Heap->Prop}{Q:Value->Shared->Prop} (ne:[z,u,o,c1,c2].Nodup) (hz:IsZip s.heap z u o .none) (hu:IsPair s.heap u (.ref c1) (.ref c2)) (ho:∃ a b,IsPair s.heap o a b)
 (s1:∀ g,Heap.SameBut z s.heap g->∀ {R:Value->Shared->Prop}{E':Value->Shared->Prop},(∀ g',J1 g'->Heap.SameBut c1 g g'->R x { s with heap:=g' })->wpAny (model prog w) A (Builtin.SmallTypes.nextOf (.ref c1)) R E' { s with heap:=g })
 (s2:∀ g,(∀ q ob,q≠z->q≠c1->q≠o->s.heap.get? q = some ob->g.get? q = some ob)->∀ {R:Value->Shared->Prop}{E':Value->Shared->Prop},(∀ g',J2 g'->Heap.SameBut c2 g g'->R y { s with heap:=g' })->wpAny (model prog w) A (Builtin.SmallTypes.nextOf (.ref c2)) R E' { s with heap:=g })
 (m1:∀ g g',J1 g->(∀ ob,g.get? c1 = some ob->g'.get? c1 = some ob)->J1 g') (m2:∀ g g',J2 g->(∀ ob,g.get? c2 = some ob->g'.get? c2 = some ob)->J2 g')
 (go:∀ g,IsZip g z u o (rawInt s.heap.objs.size)->IsPair g o x y->J1 g->J2 g->IsPair g s.heap.objs.size x y->g.objs.size = s.heap.objs.size + 1->
  (∀ b ob,b≠z->b≠o->b≠c1->b≠c2->s.heap.get? b = some ob->g.get? b = some ob)->Q (.ref s.heap.objs.size) { s with heap:=g }):
 wpAny (model prog w) A (Builtin.«zip.__next__» ⟨[.ref z],[]⟩) (fun fin s'=>∃ v,fin = .done (.ret v)/\Q v s') E s:=by
 simp only [List.nodup_cons,List.mem_cons,List.mem_nil_iff,or_false,not_or] at ne
 obtain⟨⟨n1,n2,n3,n4⟩,⟨n5,n6,n7⟩,⟨n8,n9⟩,n10,_⟩:=ne
 obtain⟨a,b,hO⟩:=ho
 have w0:=fun {R:Unit->Shared->Prop}=>wpAny_setField_rec (prog:=prog) (w:=w) (A:=A) (E:=E) (k:=0) (x:=.ellipsis) (Q:=R) hz (by simp)
 wp_walk using wpAny_field hz rfl (x:=.bool false) rfl,wpAny_field hz rfl (x:=.ref u) rfl,wpAny_field hz rfl (x:=.none) rfl,wpAny_field hz rfl (x:=.ref o) rfl,wpAny_seqItems hu rfl,w0
 intro g1 zz k1
 have z1:IsZip g1 z u o .ellipsis:=zz
 simp only [List.zipIdx_cons,List.zipIdx_nil,List.forIn_cons,List.forIn_nil]
 refine wpAny_bind (wpAny_bind (wpAny_bind (wpAny_onRaise ?_)))
 have d1:=fun {E':Value->Shared->Prop}{R:Value->Shared->Prop}=>s1 g1 k1 (R:=R) (E':=E')
 wp_walk using d1
 intro g2 j2 k2
 have b2:∀ q ob,q≠z->q≠c1->s.heap.get? q = some ob->g2.get? q = some ob:=fun q ob m1 m2 e=>k2.extBut _ _ m2 (k1.extBut _ _ m1 e)
 have o2:IsPair g2 o a b:=b2 _ _ (Ne.symm n2) n8 hO
 have up1:=fun {R:Unit->Shared->Prop}=>wpAny_updateSeq_pair (prog:=prog) (w:=w) (A:=A) (E:=E) (s:={ s with heap:=g2 }) (k:=0) (x:=x) (Q:=R) o2
 wp_walk using wpAny_seqItems o2 rfl,up1,wpAny_letGo
 intro g3 zo k3
 have o3:IsPair g3 o x b:=zo
 have b3:∀ q ob,q≠z->q≠c1->q≠o->s.heap.get? q = some ob->g3.get? q = some ob:=fun q ob m1 m2 m3 e=>k3.extBut _ _ m3 (b2 q ob m1 m2 e)
 have d2:=fun {E':Value->Shared->Prop}{R:Value->Shared->Prop}=>s2 g3 b3 (R:=R) (E':=E')
 refine wpAny_bind (wpAny_letGo (wpAny_pure (wpAny_bind (wpAny_bind (wpAny_onRaise ?_)))))
 wp_walk using d2
 intro g4 j4 k4
 have o4:IsPair g4 o x b:=k4.extBut _ _ n9 o3
 have up2:=fun {R:Unit->Shared->Prop}=>wpAny_updateSeq_pair (prog:=prog) (w:=w) (A:=A) (E:=E) (s:={ s with heap:=g4 }) (k:=1) (x:=y) (Q:=R) o4
 wp_walk using wpAny_seqItems o4 rfl,up2,wpAny_letGo
 intro g5 zo5 k5
 have o5:IsPair g5 o x y:=zo5
 have z5:IsZip g5 z u o .ellipsis:=k5.extBut _ _ n2 (k4.extBut _ _ n4 (k3.extBut _ _ n2 (k2.extBut _ _ n3 z1)))
 have len5:g5.objs.size = s.heap.objs.size:=by rw [k5.1,k4.1,k3.1,k2.1,k1.1]
 have zlt:z < g5.objs.size:=Heap.lt_size z5
 have z6:IsZip (g5.push { cls:=.type "tuple",data:=.seq #[x,y] }) z u o .ellipsis:=Heap.get?_push_of_some _ z5
 have w6:=fun {R:Unit->Shared->Prop}=>wpAny_setField_rec (prog:=prog) (w:=w) (A:=A) (E:=E) (s:={ s with heap:=g5.push { cls:=.type "tuple",data:=.seq #[x,y] } }) (k:=0) (x:=rawInt g5.objs.size) (Q:=R) z6 (by simp)
 wp_walk using wpAny_letGo,wpAny_seqItems o5 rfl,w6
 intro g7 zz7 k7
 have z7:IsZip g7 z u o (rawInt g5.objs.size):=zz7
 have w7:=fun {R:Unit->Shared->Prop}=>wpAny_setField_rec (prog:=prog) (w:=w) (A:=A) (E:=E) (s:={ s with heap:=g7 }) (k:=1) (x:=.bool false) (Q:=R) z7 (by simp)
 wp_walk using w7
 intro g8 zz8 k8
 have z8:IsZip g8 z u o (rawInt g5.objs.size):=zz8
 have on:∀ q ob,q≠z->g5.get? q = some ob->g8.get? q = some ob:=fun q ob m e=>k8.extBut _ _ m (k7.extBut _ _ m (Heap.get?_push_of_some _ e))
 have p8:IsPair g8 g5.objs.size x y:=k8.extBut _ _ (Nat.ne_of_gt zlt) (k7.extBut _ _ (Nat.ne_of_gt zlt) (Heap.get?_push_size _ rfl))
 have len8:g8.objs.size = g5.objs.size + 1:=by rw [k8.1,k7.1,Heap.size_push]
 rw [len5] at z8 p8 len8
 wp_walk
 refine⟨_,rfl,?_⟩
 rw [len5]
 exact go g8 z8 (on _ _ (Ne.symm n2) o5) (m1 _ _ j2 fun ob q=>on _ ob (Ne.symm n3) (k5.extBut _ _ (Ne.symm n8) (k4.extBut _ _ n10 (k3.extBut _ _ (Ne.symm n8) q)))) (m2 _ _ j4 fun ob q=>on _ ob (Ne.symm n4) (k5.extBut _ _ (Ne.symm n9) q))
  p8 len8 fun q ob m1 m2 m3 m4 e=>on q ob m1 (k5.extBut _ _ m2 (k4.extBut _ _ m4 (b3 q ob m1 m3 m2 e)))
theorem zdrawNo {z u o c1 c2:Addr}{Q:PySem.Fin->Shared->Prop} (ne:[z,u,o,c1,c2].Nodup) (hz:IsZip s.heap z u o .none) (hu:IsPair s.heap u (.ref c1) (.ref c2)) (ho:∃ a b,IsPair s.heap o a b)
 (src:(∀ g,Heap.SameBut z s.heap g->∀ {R:Value->Shared->Prop}{E':Value->Shared->Prop},(∀ g' f,Heap.ExtBut c1 g g'->(∃ ob,g'.get? f = some ob/\ob.cls = .type "StopIteration")->E' (.ref f) { s with heap:=g' })->wpAny (model prog w) A (Builtin.SmallTypes.nextOf (.ref c1)) R E' { s with heap:=g })\/
  ∃ x,(∀ g,Heap.SameBut z s.heap g->∀ {R:Value->Shared->Prop}{E':Value->Shared->Prop},(∀ g',Heap.SameBut c1 g g'->R x { s with heap:=g' })->wpAny (model prog w) A (Builtin.SmallTypes.nextOf (.ref c1)) R E' { s with heap:=g })/\
   ∀ g,(∀ q ob,q≠z->q≠c1->q≠o->s.heap.get? q = some ob->g.get? q = some ob)->∀ {R:Value->Shared->Prop}{E':Value->Shared->Prop},(∀ g' f,Heap.ExtBut c2 g g'->(∃ ob,g'.get? f = some ob/\ob.cls = .type "StopIteration")->E' (.ref f) { s with heap:=g' })->wpAny (model prog w) A (Builtin.SmallTypes.nextOf (.ref c2)) R E' { s with heap:=g })
 (go:∀ g x,(∀ b ob,b≠z->b≠o->b≠c1->b≠c2->s.heap.get? b = some ob->g.get? b = some ob)->(∃ ob,g.get? x = some ob/\ob.cls = .type "StopIteration")->E (.ref x) { s with heap:=g }):
 wpAny (model prog w) A (Builtin.«zip.__next__» ⟨[.ref z],[]⟩) Q E s:=by
 simp only [List.nodup_cons,List.mem_cons,List.mem_nil_iff,or_false,not_or] at ne
 obtain⟨⟨n1,n2,n3,n4⟩,⟨n5,n6,n7⟩,⟨n8,n9⟩,n10,_⟩:=ne
 obtain⟨a,b,hO⟩:=ho
 have w0:=fun {R:Unit->Shared->Prop}=>wpAny_setField_rec (prog:=prog) (w:=w) (A:=A) (E:=E) (k:=0) (x:=.ellipsis) (Q:=R) hz (by simp)
 wp_walk using wpAny_field hz rfl (x:=.bool false) rfl,wpAny_field hz rfl (x:=.ref u) rfl,wpAny_field hz rfl (x:=.none) rfl,wpAny_field hz rfl (x:=.ref o) rfl,wpAny_seqItems hu rfl,w0
 intro g1 zz k1
 have z1:IsZip g1 z u o .ellipsis:=zz
 have off:∀ (g:Heap) (f:Addr),IsZip g z u o .ellipsis->(∃ ob,g.get? f = some ob/\ob.cls = .type "StopIteration")->(∀ q ob,q≠z->q≠o->q≠c1->q≠c2->s.heap.get? q = some ob->g.get? q = some ob)->
  wpAny (model prog w) A (setField (.ref z) 0 .none) (fun _ s'=>E (.ref f) s') E { s with heap:=g }:=fun g f zg ⟨ob,e1,e2⟩ al=>by
  have fz:f≠z:=fun q=>by
   rw [q,zg] at e1;cases e1;simp at e2
  exact wpAny_setField_rec zg (by simp) fun g' _ kk=>go g' f (fun q oq m1 m2 m3 m4 e=>kk.extBut _ _ m1 (al q oq m1 m2 m3 m4 e)) ⟨ob,kk.extBut _ _ fz e1,e2⟩
 simp only [List.zipIdx_cons,List.zipIdx_nil,List.forIn_cons,List.forIn_nil]
 refine wpAny_bind (wpAny_bind (wpAny_bind (wpAny_onRaise ?_)))
 rcases src with s1 | ⟨x1,s1,s2⟩
 · have d1:=fun {E':Value->Shared->Prop}{R:Value->Shared->Prop}=>s1 g1 k1 (R:=R) (E':=E')
   wp_walk using d1
   intro g2 f kk st
   exact off g2 f (kk _ _ n3 z1) st fun q ob m1 _ m3 _ e=>kk _ _ m3 (k1.extBut _ _ m1 e)
 · have d1:=fun {E':Value->Shared->Prop}{R:Value->Shared->Prop}=>s1 g1 k1 (R:=R) (E':=E')
   wp_walk using d1
   intro g2 k2
   have o2:IsPair g2 o a b:=k2.extBut _ _ n8 (k1.extBut _ _ (Ne.symm n2) hO)
   have up1:=fun {R:Unit->Shared->Prop}=>wpAny_updateSeq_pair (prog:=prog) (w:=w) (A:=A) (E:=E) (s:={ s with heap:=g2 }) (k:=0) (x:=x1) (Q:=R) o2
   wp_walk using wpAny_seqItems o2 rfl,up1,wpAny_letGo
   intro g3 zo k3
   have b3:∀ q ob,q≠z->q≠c1->q≠o->s.heap.get? q = some ob->g3.get? q = some ob:=fun q ob m1 m2 m3 e=>k3.extBut _ _ m3 (k2.extBut _ _ m2 (k1.extBut _ _ m1 e))
   refine wpAny_bind (wpAny_letGo (wpAny_pure (wpAny_bind (wpAny_bind (wpAny_onRaise ?_)))))
   have d2:=fun {E':Value->Shared->Prop}{R:Value->Shared->Prop}=>s2 g3 b3 (R:=R) (E':=E')
   wp_walk using d2
   intro g4 f kk st
   exact off g4 f (kk _ _ n4 (k3.extBut _ _ n2 (k2.extBut _ _ n3 z1))) st fun q ob m1 m2 m3 m4 e=>kk _ _ m4 (b3 q ob m1 m3 m2 e)
theorem sqT_apart {X:Cx}{pins:List (Addr×Obj)}{σ:L2.St}{H:Hp}{s:Shared}{d b:Addr}{xs:List V} (I:Inv X pins σ H s) (h:SqT X.K H d xs) (f:FpOk X pins H b):d≠b:=fun z=>by
 subst z
 rcases h with h | ⟨o,its,n,hk,_⟩
 · rcases h with h | ⟨o,h⟩
   · rw [f.1] at h;cases h
   · rw [f.1] at h;cases h
 · have e:=I.ok.mod.kin d o hk
   rcases f.2.2.2.1 with z | z
   · exact I.ok.noex d o e z
   · exact absurd (Nat.lt_of_lt_of_le (Heap.lt_size e) (Nat.le_trans I.ok.bsz z)) (Nat.lt_irrefl _)
theorem boot_zip:bootBuiltins "zip" = some (.type "zip"):=by decide +kernel
theorem preSum_take (ns:List Int):∀ n,n<=ns.length->preSum (fun i=>ns.getD i 0) n = (ns.take n).sum
 | 0,_=>rfl
 | n + 1,h=>by
  show preSum _ n + ns.getD n 0 = _
  rw [preSum_take ns n (by omega),List.take_add_one,List.sum_append,List.getD_eq_getElem?_getD,List.getElem?_eq_getElem (by omega)]
  simp
theorem vals_int:∀ {ns:List Int}{its:List Value}{i:Nat}{v:Value},Vals (ns.map V.int) its->its[i]? = some v->∃ n t,ns[i]? = some n/\v = .int n t
 | [],_,i,v,r,e=>by cases r;simp_all
 | n :: ns,_,i,v,r,e=>by
  cases r with
  | cons r rr=>
   cases i with
   | zero=>simp at e;subst e;obtain⟨t,rfl⟩:=r;simp
   | succ i=>
    obtain⟨n',t,h1,h2⟩:=vals_int rr (by assumption)
    simp_all
theorem boot_sum':bootBuiltins "sum" = some (.builtin "sum"):=by rfl
section
variable {K:PySem.W.Frag}
theorem g_tup2 (hi:At X.N i x) (hj:At X.N j y) (hc:X.calm = true) (hN:X.N.Nodup) (hx:X.env.scope.names.lookup x = some .local) (hy:X.env.scope.names.lookup y = some .local)
 (h1:(assignEach [.Name x px,.Name y py] X.env).map (·.2) = assign (.Name x px) X.env :: (assignEach [.Name y py] X.env).map (·.2))
 (h2:(assignEach [.Name y py] X.env).map (·.2) = assign (.Name y py) X.env :: (assignEach [] X.env).map (·.2))
 (hn:(assignEach [.Name x px,.Name y py] X.env).length = 2) (hst:(assignEach [.Name x px,.Name y py] X.env).findIdx? (·.1) = none):JG X (.Tuple [.Name x px,.Name y py] kt pt) (gTup X.K 2 (gCons (gName i) (gCons (gName j) gNil))):=
 ⟨pg_tup hc (pgs_cons (pg_name hN hi.get (.inl hx) (.inr hx)) (pgs_cons (pg_name hN hj.get (.inl hy) (.inr hy)) pgs_nil h2) h1) hn hst⟩
end
section
variable {St:Nat->Heap->Prop}
structure Cq (prog:Program) (w:World) (A:Around) (T:Nat->Value->Prop) (bt:Nat->Nat->Bool) (Ok:Heap->Prop) (wr:List Addr):Prop where
 stay:∀ h h',Ok h->(∀ b o,b∉wr->h.get? b = some o->h'.get? b = some o)->Ok h'
 lt:∀ i j vi vj (s:Shared) (Q:Value->Shared->Prop) (E:Value->Shared->Prop),Ok s.heap->T i vi->T j vj->Q (.bool (bt i j)) s->wpAny (model prog w) A (richCompare .Lt vi vj) Q E s
abbrev scr (v:Value) (c:Nat):Obj:={ cls:=.type "list",dict:=none,data:=.seq #[v,v] c,slots:=#[] }
end
theorem vals_ref:∀ {as:List Addr}{its:List Value}{i:Nat}{v:Value},Vals (as.map V.ref) its->its[i]? = some v->∃ a,as[i]? = some a/\v = .ref a
 | [],_,i,v,r,e=>by cases r;simp_all
 | b :: bs,_,i,v,r,e=>by
  cases r with
  | cons r rr=>
   cases i with
   | zero=>simp at e;subst e;exact⟨b,rfl,r⟩
   | succ i=>
    obtain⟨b',h1,h2⟩:=vals_ref rr (by assumption)
    simp_all
def ltB (ns:List Int) (i j:Nat):Bool:=decide (ns.getD i 0 < ns.getD j 0)
structure GInt (mg:Str->Option Value) (x:Str) (n:Int):Prop where
 is:∃ t,mg x = some (.int n t)
section
variable {K:PySem.W.Frag}
theorem j_const (g:GInt X.mg x n) (hg:Gl X x) (hd:(x == ("__debug__" : Str)) = false):JE X (.Name x pos) (tC (.int n)):=⟨let ⟨t,h⟩:=g.is;pe_glob hg h ⟨t,rfl⟩ hd⟩
end
theorem argBest_le (bt:Nat->Nat->Bool):∀ n,argBest bt n<=n
 | 0=>Nat.le_refl _
 | n + 1=>by
  unfold argBest
  split
  · exact Nat.le_refl _
  · exact Nat.le_succ_of_le (argBest_le bt n)
theorem argBest_first (ns:List Int):∀ n,(∀ m,m<=n->ns.getD (argBest (ltB ns) n) 0<=ns.getD m 0)/\∀ m,m < argBest (ltB ns) n->ns.getD (argBest (ltB ns) n) 0 < ns.getD m 0
 | 0=>⟨fun m hm=>by have:m = 0:=by omega
                    subst this;exact Int.le_refl _,fun m hm=>by simp [argBest] at hm⟩
 | n + 1=>by
  obtain⟨h1,h2⟩:=argBest_first ns n
  unfold argBest
  by_cases hb:ltB ns (n + 1) (argBest (ltB ns) n) = true
  · have hb':=of_decide_eq_true hb
    grind
  · have hb':=fun z=>hb (decide_eq_true z)
    grind
structure CqX (prog:Program) (w:World) (A:Around) (T:Nat->Value->Prop) (bt:Nat->Nat->Bool) (Ok:Heap->Prop) (wr:List Addr):Prop where
 stay:∀ h h',Ok h->(∀ b o,b∉wr->h.get? b = some o->h'.get? b = some o)->Ok h'
 lt:∀ i j vi vj (s:Shared) (Q:Value->Shared->Prop) (E:Value->Shared->Prop),Ok s.heap->T i vi->T j vj->Q (.bool (bt i j)) s->wpAny (model prog w) A (richCompare .Gt vi vj) Q E s
section
variable {St:Nat->Heap->Prop}
theorem minGoK (W:Walks prog w A.in1 I fp wr n T St) (C:Cq prog w A.in1 T bt Ok (S :: wr)) (hSf:S∉fp):
 ∀ (d j:Nat) (s:Shared) (v:Value) (c:Nat),n - (j + 1) = d->j + 1<=n->St (j + 1) s.heap->Ok s.heap->T (argBest bt j) v->s.heap.get? S = some (scr v c)->
 (∀ v h' tk,T (argBest bt (n - 1)) v->(∀ b o,b∉S :: wr->s.heap.get? b = some o->h'.get? b = some o)->R (.ok (.ret v)) { s with heap:=h',toks:=tk })->codeAny (model prog w) A (.builtin "min.loop" ⟨[.ref I,.none,.ref S],kw⟩) R s:=by
 have apart:S∉wr:=fun h=>hSf (W.sub _ h)
 have out:∀ {q:Addr},q∉S :: wr->S≠q/\q∉wr:=fun h=>by
  simp only [List.mem_cons,not_or] at h
  exact⟨Ne.symm h.1,h.2⟩
 intro d
 induction d with
 | zero=>
  intro j s v c hd hj st ok hv hS go
  have last:j + 1 = n:=by omega
  have quiet:=Around.under_plainId (A:=A) F.plain_min_loop
  apply codeAny_builtin F.entry_min_loop
  rw [quiet]
  have dn:=fun {Q':Option Value->Shared->Prop}{E':Value->Shared->Prop}=>W.done s Q' E' (last▸st)
  refine wpAny_bind (wpAny_seqItems hS rfl (wpAny_bind (wpAny_tryCatch (dn fun h1 tk1 k1=>?_))))
  have hS1:=k1 S _ apart hS
  wp_walk using wpAny_updateSeq hS1 rfl,wpAny_letGo
  exact go v _ tk1 (last▸hv) fun q o hq e=>(Heap.get?_update_other _ _ (out hq).1).trans (k1 q o (out hq).2 e)
 | succ d ih=>
  intro j s v c hd hj st ok hv hS go
  have more:j + 1 < n:=by omega
  have quiet:=Around.under_plainId (A:=A) F.plain_min_loop
  apply codeAny_builtin F.entry_min_loop
  rw [quiet]
  have it:=fun {Q':Option Value->Shared->Prop}{E':Value->Shared->Prop}=>W.item (j + 1) s Q' E' more st
  refine wpAny_bind (wpAny_seqItems hS rfl (wpAny_bind (wpAny_tryCatch (it fun u h1 tk1 hu st1 k1=>?_))))
  have hS1:=k1 S _ apart hS
  have ok1:Ok h1:=C.stay _ _ ok fun q o hq e=>k1 q o (out hq).2 e
  have cm:=fun {Q':Value->Shared->Prop}{E':Value->Shared->Prop}=>C.lt (j + 1) (argBest bt j) u v { s with heap:=h1,toks:=tk1 } Q' E' ok1 hu hv
  wp_walk using cm,wpAny_letGo
  refine wpAny_tryCatch (wpAny_holding (wpAny_bind (cm ?_)))
  wp_walk using wpAny_truthy_bool,wpAny_letGo
  have same:(toString "min" ++ toString ".loop" : String) = "min.loop":=by decide
  by_cases won:bt (j + 1) (argBest bt j) = true
  · have best:argBest bt (j + 1) = j + 1:=by simp [argBest,won]
    have kept:∀ q o,q∉S :: wr->s.heap.get? q = some o->(h1.update S (Obj.mapSeq fun _=>#[u,u])).get? q = some o:=fun q o hq e=>(Heap.get?_update_other _ _ (out hq).1).trans (k1 q o (out hq).2 e)
    have st2:St (j + 1 + 1) (h1.update S (Obj.mapSeq fun _=>#[u,u])):=W.frame _ h1 _ st1 fun q hq o e=>(Heap.get?_update_other _ _ fun z:S = q=>hSf (z▸hq)).trans e
    rw [if_pos won]
    refine wpAny_bind (wpAny_updateSeq hS1 rfl (wpAny_bind (wpAny_letGo ?_)))
    rw [same]
    refine wpAny_pure ⟨plainId_quiet F.plain_min_loop _,?_⟩
    exact ih (j + 1) _ u _ (by omega) more st2 (C.stay _ _ ok kept) (by rw [best];exact hu) (Heap.get?_update_self _ hS1 rfl) fun v' h' tk' a1 a2=>go v' h' tk' a1 fun q o hq e=>a2 q o hq (kept q o hq e)
  · have best:argBest bt (j + 1) = argBest bt j:=by simp [argBest,won]
    rw [if_neg won]
    refine wpAny_bind (wpAny_letGo ?_)
    rw [same]
    refine wpAny_pure ⟨plainId_quiet F.plain_min_loop _,?_⟩
    exact ih (j + 1) _ v c (by omega) more st1 ok1 (by rw [best];exact hv) hS1 fun v' h' tk' a1 a2=>go v' h' tk' a1 fun q o hq e=>a2 q o hq (k1 q o (out hq).2 e)
theorem minStartK (W:Walks prog w A.in1 I fp wr n T St) (C:Cq prog w A.in1 T bt Ok (S :: wr)) (hSf:S∉fp) (hn:0 < n) (st:St 0 s.heap) (ok:Ok s.heap)
 (hS:s.heap.get? S = some { cls:=.type "list",dict:=none,data:=.seq #[] c,slots:=#[] })
 (go:∀ v h' tk,T (argBest bt (n - 1)) v->(∀ b o,b∉S :: wr->s.heap.get? b = some o->h'.get? b = some o)->R (.ok (.ret v)) { s with heap:=h',toks:=tk }):codeAny (model prog w) A (.builtin "min.loop" ⟨[.ref I,.none,.ref S],kw⟩) R s:=by
 have apart:S∉wr:=fun h=>hSf (W.sub _ h)
 have out:∀ {q:Addr},q∉S :: wr->S≠q/\q∉wr:=fun h=>by grind
 have quiet:=Around.under_plainId (A:=A) F.plain_min_loop
 have same:(toString "min" ++ toString ".loop" : String) = "min.loop":=by decide
 have it:=fun {Q':Option Value->Shared->Prop}{E':Value->Shared->Prop}=>W.item 0 s Q' E' hn st
 have sq:=fun {Q':Option (Array Value)->Shared->Prop}=>wpAny_seqItems (M:=model prog w) (A:=A.in1) (E:=fun x s'=>R (.error x) s') (Q:=Q') hS rfl
 apply codeAny_builtin F.entry_min_loop
 rw [quiet]
 apply wpAny_bind
 apply sq
 apply wpAny_bind
 apply wpAny_tryCatch
 apply it
 intro u h1 tk1 hu st1 k1
 have hS1:=k1 S _ apart hS
 wp_walk using wpAny_updateSeq hS1 rfl,wpAny_letGo
 rw [same]
 have kept:∀ q o,q∉S :: wr->s.heap.get? q = some o->(h1.update S (Obj.mapSeq fun _=>#[u,u])).get? q = some o:=fun q o hq e=>(Heap.get?_update_other _ _ (out hq).1).trans (k1 q o (out hq).2 e)
 have st2:St (0 + 1) (h1.update S (Obj.mapSeq fun _=>#[u,u])):=W.frame _ h1 _ st1 fun q hq o e=>(Heap.get?_update_other _ _ fun z:S = q=>hSf (z▸hq)).trans e
 exact⟨plainId_quiet F.plain_min_loop _,minGoK W C hSf _ 0 _ u _ rfl hn st2 (C.stay _ _ ok kept) hu (Heap.get?_update_self _ hS1 rfl) fun v' h' tk' a1 a2=>go v' h' tk' a1 fun q o hq e=>a2 q o hq (kept q o hq e)⟩
theorem minNoneK {s:Shared}{c:Nat}{dn:Str}{dv:Value} (W:Walks prog w A.in1 I fp wr 0 T St) (hSf:S∉fp) (st:St 0 s.heap)
 (hS:s.heap.get? S = some { cls:=.type "list",dict:=none,data:=.seq #[] c,slots:=#[] })
 (go:∀ h' tk,(∀ b o,b∉S :: wr->s.heap.get? b = some o->h'.get? b = some o)->R (.ok (.ret dv)) { s with heap:=h',toks:=tk }):codeAny (model prog w) A (.builtin "min.loop" ⟨[.ref I,.none,.ref S],[(dn,dv)]⟩) R s:=by
 have quiet:=Around.under_plainId (A:=A) F.plain_min_loop
 have dn:=fun {Q':Option Value->Shared->Prop}{E':Value->Shared->Prop}=>W.done s Q' E' st
 have sq:=fun {Q':Option (Array Value)->Shared->Prop}=>wpAny_seqItems (M:=model prog w) (A:=A.in1) (E:=fun x s'=>R (.error x) s') (Q:=Q') hS rfl
 apply codeAny_builtin F.entry_min_loop
 rw [quiet]
 apply wpAny_bind
 apply sq
 apply wpAny_bind
 apply wpAny_tryCatch
 apply dn
 intro h1 tk1 k1
 wp_walk
 exact go h1 tk1 fun q o hq e=>k1 q o (fun z=>hq (List.mem_cons_of_mem _ z)) e
theorem args_minD (a v:Value):argsOk "min" ⟨[a],[(Str.ofString "default",v)]⟩:=by rfl
theorem minCallD
 (h:wpAny (model prog w) A.in1 (pyIter x) (fun it s2=>∃ I fp wr n T St,it = .ref I/\Walks prog w A.in1 I fp wr n T St/\St 0 s2.heap/\(∀ b∈fp,b < s2.heap.objs.size)/\
  (0 < n->∃ bt Ok,Ok (s2.heap.push { cls:=.type "list",data:=.seq #[] })/\Cq prog w A.in1 T bt Ok (s2.heap.objs.size :: wr)/\∀ v h' tk,T (argBest bt (n - 1)) v->(∀ b o,b∉wr->s2.heap.get? b = some o->h'.get? b = some o)->Q v { s2 with heap:=h',toks:=tk })/\
  (n = 0->∀ h' tk,(∀ b o,b∉wr->s2.heap.get? b = some o->h'.get? b = some o)->Q dv { s2 with heap:=h',toks:=tk })) E s):wpAny (model prog w) A (call (.builtin "min") [x] [(Str.ofString "default",dv)]) Q E s:=by
 have nam:(toString "min" ++ toString ".loop" : String) = "min.loop":=by decide
 refine kmk_tree F.kind_min F.plain_min F.entry_min (args_minD _ _) ?_
 show wpAny _ A.in1 (Builtin.Builtins.bindParams "min" ["key","default"] 0 ⟨[],[(Str.ofString "default",dv)]⟩ >>= _) _ _ s
 refine wpAny_bind (wpAny_of_eq (show Builtin.Builtins.bindParams "min" ["key","default"] 0 ⟨[],[(Str.ofString "default",dv)]⟩ = pure [none,some dv] from rfl) (wpAny_bind (wpAny_pure (wpAny_bind (wpAny_mono h (fun it s2 h2=>?_) fun _ _ e=>e)))))
 obtain⟨I,fp,wr,n,T,St,rfl,W,st,hfp,go1,go0⟩:=h2
 refine wpAny_bind (wpAny_newObj_type ?_)
 have nS:s2.heap.objs.size∉fp:=fun hm=>Nat.lt_irrefl _ (hfp _ hm)
 rw [nam]
 have off:∀ {h':Heap},(∀ b o,b∉s2.heap.objs.size :: wr->(s2.heap.push { cls:=.type "list",data:=.seq #[] }).get? b = some o->h'.get? b = some o)->∀ b o,b∉wr->s2.heap.get? b = some o->h'.get? b = some o:=fun k b o hb e=>k b o (fun z=>(List.mem_cons.mp z).elim (fun z=>absurd (Heap.lt_size e) (by rw [z];exact Nat.lt_irrefl _)) hb) (Heap.get?_push_of_some _ e)
 by_cases hn:0 < n
 · obtain⟨bt,Ok,ok,C,go⟩:=go1 hn
   refine wpAny_pure ⟨plainId_quiet F.plain_min_loop _,minStartK W C nS hn (W.frame 0 _ _ st fun b _ o e=>Heap.get?_push_of_some _ e) ok (Heap.get?_push_size _ rfl) fun v h' tk hv k=>?_⟩
   exact go v h' tk hv (off k)
 · have hn0:n = 0:=by omega
   subst hn0
   refine wpAny_pure ⟨plainId_quiet F.plain_min_loop _,minNoneK W nS (W.frame 0 _ _ st fun b _ o e=>Heap.get?_push_of_some _ e) (Heap.get?_push_size _ rfl) fun h' tk k=>?_⟩
   exact go0 rfl h' tk (off k)
theorem maxGoK (W:Walks prog w A.in1 I fp wr n T St) (C:CqX prog w A.in1 T bt Ok (S :: wr)) (hSf:S∉fp):
 ∀ (d j:Nat) (s:Shared) (v:Value) (c:Nat),n - (j + 1) = d->j + 1<=n->St (j + 1) s.heap->Ok s.heap->T (argBest bt j) v->s.heap.get? S = some (scr v c)->
 (∀ v h' tk,T (argBest bt (n - 1)) v->(∀ b o,b∉S :: wr->s.heap.get? b = some o->h'.get? b = some o)->R (.ok (.ret v)) { s with heap:=h',toks:=tk })->codeAny (model prog w) A (.builtin "max.loop" ⟨[.ref I,.none,.ref S],kw⟩) R s:=by
 have apart:S∉wr:=fun h=>hSf (W.sub _ h)
 have out:∀ {q:Addr},q∉S :: wr->S≠q/\q∉wr:=fun h=>by
  simp only [List.mem_cons,not_or] at h
  exact⟨Ne.symm h.1,h.2⟩
 intro d
 induction d with
 | zero=>
  intro j s v c hd hj st ok hv hS go
  have last:j + 1 = n:=by omega
  have quiet:=Around.under_plainId (A:=A) F.plain_max_loop
  apply codeAny_builtin F.entry_max_loop
  rw [quiet]
  have dn:=fun {Q':Option Value->Shared->Prop}{E':Value->Shared->Prop}=>W.done s Q' E' (last▸st)
  refine wpAny_bind (wpAny_seqItems hS rfl (wpAny_bind (wpAny_tryCatch (dn fun h1 tk1 k1=>?_))))
  have hS1:=k1 S _ apart hS
  wp_walk using wpAny_updateSeq hS1 rfl,wpAny_letGo
  exact go v _ tk1 (last▸hv) fun q o hq e=>(Heap.get?_update_other _ _ (out hq).1).trans (k1 q o (out hq).2 e)
 | succ d ih=>
  intro j s v c hd hj st ok hv hS go
  have more:j + 1 < n:=by omega
  have quiet:=Around.under_plainId (A:=A) F.plain_max_loop
  apply codeAny_builtin F.entry_max_loop
  rw [quiet]
  have it:=fun {Q':Option Value->Shared->Prop}{E':Value->Shared->Prop}=>W.item (j + 1) s Q' E' more st
  refine wpAny_bind (wpAny_seqItems hS rfl (wpAny_bind (wpAny_tryCatch (it fun u h1 tk1 hu st1 k1=>?_))))
  have hS1:=k1 S _ apart hS
  have ok1:Ok h1:=C.stay _ _ ok fun q o hq e=>k1 q o (out hq).2 e
  have cm:=fun {Q':Value->Shared->Prop}{E':Value->Shared->Prop}=>C.lt (j + 1) (argBest bt j) u v { s with heap:=h1,toks:=tk1 } Q' E' ok1 hu hv
  wp_walk using cm,wpAny_letGo
  refine wpAny_tryCatch (wpAny_holding (wpAny_bind (cm ?_)))
  wp_walk using wpAny_truthy_bool,wpAny_letGo
  have same:(toString "max" ++ toString ".loop" : String) = "max.loop":=by decide
  by_cases won:bt (j + 1) (argBest bt j) = true
  · have best:argBest bt (j + 1) = j + 1:=by simp [argBest,won]
    have kept:∀ q o,q∉S :: wr->s.heap.get? q = some o->(h1.update S (Obj.mapSeq fun _=>#[u,u])).get? q = some o:=fun q o hq e=>(Heap.get?_update_other _ _ (out hq).1).trans (k1 q o (out hq).2 e)
    have st2:St (j + 1 + 1) (h1.update S (Obj.mapSeq fun _=>#[u,u])):=W.frame _ h1 _ st1 fun q hq o e=>(Heap.get?_update_other _ _ fun z:S = q=>hSf (z▸hq)).trans e
    rw [if_pos won]
    refine wpAny_bind (wpAny_updateSeq hS1 rfl (wpAny_bind (wpAny_letGo ?_)))
    rw [same]
    refine wpAny_pure ⟨plainId_quiet F.plain_max_loop _,?_⟩
    exact ih (j + 1) _ u _ (by omega) more st2 (C.stay _ _ ok kept) (by rw [best];exact hu) (Heap.get?_update_self _ hS1 rfl) fun v' h' tk' a1 a2=>go v' h' tk' a1 fun q o hq e=>a2 q o hq (kept q o hq e)
  · have best:argBest bt (j + 1) = argBest bt j:=by simp [argBest,won]
    rw [if_neg won]
    refine wpAny_bind (wpAny_letGo ?_)
    rw [same]
    refine wpAny_pure ⟨plainId_quiet F.plain_max_loop _,?_⟩
    exact ih (j + 1) _ v c (by omega) more st1 ok1 (by rw [best];exact hv) hS1 fun v' h' tk' a1 a2=>go v' h' tk' a1 fun q o hq e=>a2 q o hq (k1 q o (out hq).2 e)
theorem maxStartK (W:Walks prog w A.in1 I fp wr n T St) (C:CqX prog w A.in1 T bt Ok (S :: wr)) (hSf:S∉fp) (hn:0 < n) (st:St 0 s.heap) (ok:Ok s.heap)
 (hS:s.heap.get? S = some { cls:=.type "list",dict:=none,data:=.seq #[] c,slots:=#[] })
 (go:∀ v h' tk,T (argBest bt (n - 1)) v->(∀ b o,b∉S :: wr->s.heap.get? b = some o->h'.get? b = some o)->R (.ok (.ret v)) { s with heap:=h',toks:=tk }):codeAny (model prog w) A (.builtin "max.loop" ⟨[.ref I,.none,.ref S],kw⟩) R s:=by
 have apart:S∉wr:=fun h=>hSf (W.sub _ h)
 have out:∀ {q:Addr},q∉S :: wr->S≠q/\q∉wr:=fun h=>by grind
 have quiet:=Around.under_plainId (A:=A) F.plain_max_loop
 have same:(toString "max" ++ toString ".loop" : String) = "max.loop":=by decide
 have it:=fun {Q':Option Value->Shared->Prop}{E':Value->Shared->Prop}=>W.item 0 s Q' E' hn st
 have sq:=fun {Q':Option (Array Value)->Shared->Prop}=>wpAny_seqItems (M:=model prog w) (A:=A.in1) (E:=fun x s'=>R (.error x) s') (Q:=Q') hS rfl
 apply codeAny_builtin F.entry_max_loop
 rw [quiet]
 apply wpAny_bind
 apply sq
 apply wpAny_bind
 apply wpAny_tryCatch
 apply it
 intro u h1 tk1 hu st1 k1
 have hS1:=k1 S _ apart hS
 wp_walk using wpAny_updateSeq hS1 rfl,wpAny_letGo
 rw [same]
 have kept:∀ q o,q∉S :: wr->s.heap.get? q = some o->(h1.update S (Obj.mapSeq fun _=>#[u,u])).get? q = some o:=fun q o hq e=>(Heap.get?_update_other _ _ (out hq).1).trans (k1 q o (out hq).2 e)
 have st2:St (0 + 1) (h1.update S (Obj.mapSeq fun _=>#[u,u])):=W.frame _ h1 _ st1 fun q hq o e=>(Heap.get?_update_other _ _ fun z:S = q=>hSf (z▸hq)).trans e
 exact⟨plainId_quiet F.plain_max_loop _,maxGoK W C hSf _ 0 _ u _ rfl hn st2 (C.stay _ _ ok kept) hu (Heap.get?_update_self _ hS1 rfl) fun v' h' tk' a1 a2=>go v' h' tk' a1 fun q o hq e=>a2 q o hq (kept q o hq e)⟩
theorem maxNoneK {s:Shared}{c:Nat}{dn:Str}{dv:Value} (W:Walks prog w A.in1 I fp wr 0 T St) (hSf:S∉fp) (st:St 0 s.heap)
 (hS:s.heap.get? S = some { cls:=.type "list",dict:=none,data:=.seq #[] c,slots:=#[] })
 (go:∀ h' tk,(∀ b o,b∉S :: wr->s.heap.get? b = some o->h'.get? b = some o)->R (.ok (.ret dv)) { s with heap:=h',toks:=tk }):codeAny (model prog w) A (.builtin "max.loop" ⟨[.ref I,.none,.ref S],[(dn,dv)]⟩) R s:=by
 have quiet:=Around.under_plainId (A:=A) F.plain_max_loop
 have dn:=fun {Q':Option Value->Shared->Prop}{E':Value->Shared->Prop}=>W.done s Q' E' st
 have sq:=fun {Q':Option (Array Value)->Shared->Prop}=>wpAny_seqItems (M:=model prog w) (A:=A.in1) (E:=fun x s'=>R (.error x) s') (Q:=Q') hS rfl
 apply codeAny_builtin F.entry_max_loop
 rw [quiet]
 apply wpAny_bind
 apply sq
 apply wpAny_bind
 apply wpAny_tryCatch
 apply dn
 intro h1 tk1 k1
 wp_walk
 exact go h1 tk1 fun q o hq e=>k1 q o (fun z=>hq (List.mem_cons_of_mem _ z)) e
theorem args_maxD (a v:Value):argsOk "max" ⟨[a],[(Str.ofString "default",v)]⟩:=by rfl
theorem maxCallD
 (h:wpAny (model prog w) A.in1 (pyIter x) (fun it s2=>∃ I fp wr n T St,it = .ref I/\Walks prog w A.in1 I fp wr n T St/\St 0 s2.heap/\(∀ b∈fp,b < s2.heap.objs.size)/\
  (0 < n->∃ bt Ok,Ok (s2.heap.push { cls:=.type "list",data:=.seq #[] })/\CqX prog w A.in1 T bt Ok (s2.heap.objs.size :: wr)/\∀ v h' tk,T (argBest bt (n - 1)) v->(∀ b o,b∉wr->s2.heap.get? b = some o->h'.get? b = some o)->Q v { s2 with heap:=h',toks:=tk })/\
  (n = 0->∀ h' tk,(∀ b o,b∉wr->s2.heap.get? b = some o->h'.get? b = some o)->Q dv { s2 with heap:=h',toks:=tk })) E s):wpAny (model prog w) A (call (.builtin "max") [x] [(Str.ofString "default",dv)]) Q E s:=by
 have nam:(toString "max" ++ toString ".loop" : String) = "max.loop":=by decide
 refine kmk_tree F.kind_max F.plain_max F.entry_max (args_maxD _ _) ?_
 show wpAny _ A.in1 (Builtin.Builtins.bindParams "max" ["key","default"] 0 ⟨[],[(Str.ofString "default",dv)]⟩ >>= _) _ _ s
 refine wpAny_bind (wpAny_of_eq (show Builtin.Builtins.bindParams "max" ["key","default"] 0 ⟨[],[(Str.ofString "default",dv)]⟩ = pure [none,some dv] from rfl) (wpAny_bind (wpAny_pure (wpAny_bind (wpAny_mono h (fun it s2 h2=>?_) fun _ _ e=>e)))))
 obtain⟨I,fp,wr,n,T,St,rfl,W,st,hfp,go1,go0⟩:=h2
 refine wpAny_bind (wpAny_newObj_type ?_)
 have nS:s2.heap.objs.size∉fp:=fun hm=>Nat.lt_irrefl _ (hfp _ hm)
 rw [nam]
 have off:∀ {h':Heap},(∀ b o,b∉s2.heap.objs.size :: wr->(s2.heap.push { cls:=.type "list",data:=.seq #[] }).get? b = some o->h'.get? b = some o)->∀ b o,b∉wr->s2.heap.get? b = some o->h'.get? b = some o:=fun k b o hb e=>k b o (fun z=>(List.mem_cons.mp z).elim (fun z=>absurd (Heap.lt_size e) (by rw [z];exact Nat.lt_irrefl _)) hb) (Heap.get?_push_of_some _ e)
 by_cases hn:0 < n
 · obtain⟨bt,Ok,ok,C,go⟩:=go1 hn
   refine wpAny_pure ⟨plainId_quiet F.plain_max_loop _,maxStartK W C nS hn (W.frame 0 _ _ st fun b _ o e=>Heap.get?_push_of_some _ e) ok (Heap.get?_push_size _ rfl) fun v h' tk hv k=>?_⟩
   exact go v h' tk hv (off k)
 · have hn0:n = 0:=by omega
   subst hn0
   refine wpAny_pure ⟨plainId_quiet F.plain_max_loop _,maxNoneK W nS (W.frame 0 _ _ st fun b _ o e=>Heap.get?_push_of_some _ e) (Heap.get?_push_size _ rfl) fun h' tk k=>?_⟩
   exact go0 rfl h' tk (off k)
end
def CallRD (X:Cx) (f:Value) (nm:Str) (r:List V->V->Hp->VK->Prop):Prop:=
 ∀ (pins:List (Addr×Obj)) (s:Shared) (σ:L2.St) (H:Hp) (xs:List V) (us:List Value) (d:V) (dv:Value) (Q:VK),Inv X pins σ H s->Vals xs us->RelV d dv->r xs d H Q->wpAny (model X.prog X.w) X.A (call f us [(nm,dv)]) (EP X pins σ Q) X.xe s
def tCBd (r:List V->V->Hp->VK->Prop) (t:TA) (td:TE):TE:=fun σ H Q=>t σ H fun vs H1=>td σ H1 fun d H2=>r vs d H2 Q
section
variable {K:PySem.W.Frag}{pos p kp:Pos}{x nm:Str}{id:String}
theorem pe_callBD (hc:CallRD X (.builtin id) nm r) (hg:Gl X x) (hm:X.mg x = none) (hv:bootBuiltins x = some (.builtin id)) (ha:PA X (e :: es) t) (hd:PE X dv td) (hn:x≠"__name__":=by decide) (hdb:(x == ("__debug__" : Str)) = false:=by decide)
 (he:backTo pos (starEach (e :: es) X.env) = (false,eval e X.env) :: backTo pos (starEach es X.env):=by rfl) (hpl:(backTo pos (starEach (e :: es) X.env)).any (·.1) = false:=by rfl):
 PE X (.Call (.Name x p) (e :: es) [⟨some nm,dv,kp⟩] pos) (tCBd r t td):=by
 intro pins s σ H Q I h
 refine wpAny_Call_Name_kw (ld_blt I hg hm hv ?_ hn hdb)
 refine callWith_kw (thn (ha pos pins s σ H _ I h) fun us s1 ⟨vs,H1,I1,r1,q1⟩=>kws_cons (thn (hd pins s1 σ H1 _ I1 q1) fun v s2 ⟨d,H2,I2,r2,q2⟩=>kws_nil ?_)) he hpl rfl rfl
 exact hc pins s2 σ H2 vs us d v Q I2 r1 r2 q2
def rSortS (K:PySem.W.Frag):List V->Hp->VK->Prop:=fun xs H Q=>∃ (p:Addr) (ns:List Int),xs = [.ref p]/\(SqL K H p (ns.map V.int)\/SqT K H p (ns.map V.int))/\ns.length < 64/\
 ∀ (l:Addr) (ms:List Int) (H':Hp),H l = none->L2.Same H H'->H' l = some (.lst (ms.map V.int))->ms.Perm ns->ms.Pairwise (·<=·)->Q (.ref l) H'
theorem vals_ints:∀ {ns:List Int}{vs:List Value},Vals (ns.map V.int) vs->IntsAre vs ns
 | [],_,r=>by cases r;exact .nil
 | n :: ns,_,r=>by
  cases r with
  | cons r rr=>
   obtain⟨t,rfl⟩:=r
   exact .cons n t (vals_ints rr)
theorem call_sortS:CallR X (.builtin "sorted") (rSortS X.K):=by
 intro pins s σ H xs us Q I r h
 obtain⟨p,ns,rfl,hq,h64,q⟩:=h
 obtain⟨u,rfl,rx⟩:=vals1 r
 cases rx
 have hsz:=sizeLine_eq
 obtain⟨its,o,T,cn,r',hT,ho,hcl,hdt⟩:∃ (its:List Value) (o:Obj) (T:String) (cn:Nat),Vals (ns.map V.int) its/\(T = "list"\/T = "tuple")/\s.heap.get? p = some o/\o.cls = .type T/\o.data = .seq its.toArray cn:=by
  rcases hq with hq | hq
  · obtain⟨its,r',pl,hz⟩:=I.list hq
    obtain⟨o,ho,hc,n,hd⟩:=pl.isList
    exact⟨its,o,"list",n,r',.inl rfl,ho,hc,hd⟩
  · obtain⟨its,r',⟨o,ho,hc,n,hd⟩,hz⟩:=I.tuple hq
    exact⟨its,o,"tuple",n,r',.inr rfl,ho,hc,hd⟩
 have hl:its.length = ns.length:=by rw [<- r'.length,List.length_map]
 refine Calls.call_function_entry kind_sorted plain_sorted entry_sorted (args_sorted1 _) ?_
 unfold Builtin.«sorted»
 refine wpAny_bind (m:=checkCount "sorted" 1 1 _) (wpAny_pure ?_)
 refine wpAny_bind (wpAny_collect_seq p hT ho hcl hdt (fun h' hk=>?_) (by rw [List.size_toArray];omega))
 have hI:IntsAre its ns:=vals_ints r'
 have eI:its.toArray.toList = its:=by simp
 rw [eI]
 refine wpAny_bind (wpAny_newList ?_ (by rw [hl];omega))
 have hoL:(h'.push (seqObj "list" its.toArray 0)).get? h'.objs.size = some (seqObj "list" its.toArray 0):=Heap.get?_push_size _ rfl
 refine wpAny_bind (wpAny_holding (wpAny_call_entry slot_list_sort ⟨_,hoL,rfl⟩ entry_list_sort (list_sort_tree hoL hI (by omega) fun out ns' a1 a2 a3=>⟨_,rfl,?_⟩) (args_list_sort _)))
 refine wpAny_pure ⟨_,rfl,?_⟩
 obtain⟨n',e'⟩:∃ n',(sortedHeap (h'.push (seqObj "list" its.toArray 0)) h'.objs.size its out).get? h'.objs.size = some (seqObj "list" out n'):=sortedHeap_at hoL
 have I1:Inv X pins σ H { s with heap:=h' }:=I.kept (t':=s.toks) hk
 have hfr:H h'.objs.size = none:=I1.hok.fresh (Nat.le_refl _)
 have keep:∀ b o,h'.get? b = some o->(sortedHeap (h'.push (seqObj "list" its.toArray 0)) h'.objs.size its out).get? b = some o:=fun b o e=>by
  have hb:=Heap.lt_size e
  rw [sortedHeap_old (Nat.ne_of_lt hb) (by rw [Heap.size_push];exact Nat.lt_succ_of_lt hb)]
  exact Heap.get?_push_of_some _ e
 have hlen:ns'.length<=sizeLine:=by rw [a2.length_eq];omega
 have I2:=
  I1.laid (t':=s.toks) keep (Nat.le_refl _) (show ObjOk X.prog X.w _ _ _ (.lst (ns'.map V.int)) from ⟨by rw [List.length_map];exact hlen,out.toList,n',ints_vals a1,by simpa using e'⟩)
 exact⟨.ref h'.objs.size,_,I2,rfl,q _ _ _ hfr (Br.Same.upd hfr) upd_same a2 a3⟩
end
end Br
namespace Br
open PySem PySem.Spec PyProof.Rows L2
end Br
namespace Br
theorem iter_seq {pins:List (Addr×Obj)}{s:Shared}{σ:L2.St}{H:Hp}{p:Addr}{ns:List Int} (hc:X.calm = true) (I:Inv X pins σ H s) (hq:SqL X.K H p (ns.map V.int)\/SqT X.K H p (ns.map V.int)) {Q:Value->Shared->Prop}{E:Value->Shared->Prop}
 (h:∀ (T:String) (its:List Value) (St:Nat->Heap->Prop),its.length = ns.length->(∀ (i:Nat) (v:Value),its.toArray[i]? = some v->∃ t,v = Value.int (ns.getD i 0) t)->
  Walks X.prog X.w X.A.in1 s.heap.objs.size [s.heap.objs.size,p] [s.heap.objs.size] its.toArray.size (fun i v=>its.toArray[i]? = some v) St->St 0 (s.heap.push { cls:=.type T,data:=.fields #[.ref p,.int 0 0] })->p < s.heap.objs.size->
  Q (.ref s.heap.objs.size) { s with heap:=s.heap.push { cls:=.type T,data:=.fields #[.ref p,.int 0 0] } }):wpAny (model X.prog X.w) X.A.in1 (pyIter (.ref p)) Q E s:=by
 rcases hq with hq | hq
 · obtain⟨its,r',pl,hz⟩:=I.list hq
   have hp:p < s.heap.objs.size:=by obtain⟨_,_,e,_⟩:=pl;exact Heap.lt_size e
   have hl:its.length = ns.length:=by rw [<- r'.length,List.length_map]
   exact wpAny_pyIter_list pl.isList (h "list_iterator" its _ hl (fun i v e=>by
    obtain⟨n,t,h1,h2⟩:=vals_int r' (by simpa using e)
    exact⟨t,by rw [h2,List.getD_eq_getElem?_getD,h1];rfl⟩) (Walks.list (A:=X.A.in1) (I.ok.hd hc) s.heap.objs.size p (Nat.ne_of_lt hp) its.toArray) ⟨⟨_,Heap.get?_push_size _ rfl,rfl,rfl⟩,pl.isList.at fun o e=>Heap.get?_push_of_some _ e⟩ hp)
 · obtain⟨its,r',pl,hz⟩:=I.tuple hq
   have pl':s.heap.IsTuple p its.toArray:=pl
   have hp:p < s.heap.objs.size:=by obtain⟨_,e,_⟩:=pl;exact Heap.lt_size e
   have hl:its.length = ns.length:=by rw [<- r'.length,List.length_map]
   exact wpAny_pyIter_tuple pl' (h "tuple_iterator" its _ hl (fun i v e=>by
    obtain⟨n,t,h1,h2⟩:=vals_int r' (by simpa using e)
    exact⟨t,by rw [h2,List.getD_eq_getElem?_getD,h1];rfl⟩) (Walks.tuple (A:=X.A.in1) (I.ok.hd hc) s.heap.objs.size p (Nat.ne_of_lt hp) its.toArray) ⟨⟨_,Heap.get?_push_size _ rfl,rfl,rfl⟩,pl'.at fun o e=>Heap.get?_push_of_some _ e⟩ hp)
theorem fp_lt {s:Shared}{p:Addr} (hp:p < s.heap.objs.size):∀ b∈[s.heap.objs.size,p],b < (s.heap.push o).objs.size:=fun b hb=>by
 rw [Heap.size_push]
 rcases List.mem_cons.mp hb with e | hb
 · simp_all
 · rw [List.mem_singleton.mp hb];exact Nat.lt_succ_of_lt hp
theorem kp_of {s:Shared}{h':Heap} (kp:∀ b o',b∉[s.heap.objs.size]->(s.heap.push o).get? b = some o'->h'.get? b = some o'):∀ b o',s.heap.get? b = some o'->h'.get? b = some o':=fun b o' q=>kp b o' (fun z=>absurd (Heap.lt_size q) (by simp_all)) (Heap.get?_push_of_some _ q)
def rSumS (K:PySem.W.Frag):List V->Hp->VK->Prop:=fun xs H Q=>∃ (p:Addr) (ns:List Int),xs = [.ref p]/\(SqL K H p (ns.map V.int)\/SqT K H p (ns.map V.int))/\Q (.int ns.sum) H
theorem call_sumS (hc:X.calm = true):CallR X (.builtin "sum") (rSumS X.K):=by
 intro pins s σ H xs us Q I r h
 obtain⟨p,ns,rfl,hq,q⟩:=h
 obtain⟨u,rfl,rx⟩:=vals1 r
 cases rx
 refine call_sum_walkAnyS (iter_seq hc I hq fun T its St hl hval W st hp=>⟨s.heap.objs.size,_,_,_,_,_,_,fun i=>ns.getD i 0,rfl,W.toS,st,fp_lt hp,fun i v e=>hval i v e,fun s' t' hm=>?_⟩)
 rw [List.size_toArray,hl,preSum_take ns _ (Nat.le_refl _),List.take_length]
 have hk:=fun b o e=>hm.heap b o (fun hI=>absurd (Heap.lt_size e) (by simp_all)) (Heap.get?_push_of_some _ e)
 rw [Moved.eq_with hm]
 exact⟨.int ns.sum,H,I.kept hk,⟨t',rfl⟩,q⟩
def rCatTA (K:PySem.W.Frag):R2:=fun x y H Q=>∃ a b xs ys,x = .ref a/\y = .ref b/\SqT K H a xs/\SqT K H b ys/\xs.length + ys.length<=sizeLine/\∀ p H2,L2.Same H H2->SqT K H2 p (xs ++ ys)->Q (.ref p) H2
theorem op_catTA:OpR X (binaryOp .Add) (rCatTA X.K):=fun pins s σ H x y v u Q I rx ry h=>by
 obtain⟨a,b,xs,ys,e1,e2,h1,h2,hz,q⟩:=h
 by_cases hx:xs = []
 · subst e1;subst e2;subst hx
   cases rx;cases ry
   obtain⟨its,r1,p1,_⟩:=I.tuple h1
   obtain⟨its2,r2,p2,_⟩:=I.tuple h2
   have hv:=r1.nil_iff.mpr rfl
   obtain⟨⟨cls,dd,data,sl⟩,ho,hc,n,hd⟩:=id p1
   obtain⟨⟨cls2,dd2,data2,sl2⟩,ho2,hc2,n2,hd2⟩:=id p2
   subst hc hd hc2 hd2
   exact concat_meets ⟨_,ho,rfl⟩ ⟨_,ho2,rfl⟩ noFill_tuple_add seq_tuple_add PySem.F.slot_tuple_add PySem.F.entry_tuple_add (PySem.F.args_tuple_add_2 _ _)
    (tuple_addW0 a b its.toArray its2.toArray n n2 dd dd2 sl sl2 (by grind)) ⟨ho,ho2,⟨.ref b,H,I,rfl,q b H (L2.Same.refl _) h2⟩⟩
 · exact op_catTS pins s σ H x y v u Q I rx ry ⟨a,b,xs,ys,e1,e2,h1,h2,hx,hz,q⟩
section
variable {K:PySem.W.Frag}
theorem k_addA (hK:X.K = K):JOp X .Add (fun x y H Q=>rI0 (fun i j=>.int (i + j)) x y H Q\/rCatS x y H Q\/rCatTA K x y H Q):=hK▸⟨op_add.or (op_catS.or op_catTA)⟩
section
variable (hg:Gl X x) (he:starEach (e :: es) X.env = (false,eval e X.env) :: starEach es X.env) (hpl:(backTo pos (starEach es X.env)).any (·.1) = false)
include hg he hpl
theorem k_sumS (hK:X.K = K) (hx:x = "sum") (hc:X.calm = true) (hm:X.mg x = none) (ha:JA X (e :: es) t):JE X (.Call (.Name x p) (e :: es) [] pos) (tCB (rSumS K) t):=hK▸⟨by subst hx;exact pe_callB (call_sumS hc) hg hm boot_sum' ha.h (by decide) (by decide) he hpl⟩
end
theorem k_notin (hK:X.K = K):JCop X .NotIn (rIn K true):=hK▸⟨op_notIn_seq⟩
theorem u_cmpM (hm:lastMarks [op] [b] = false) (ho:JCop X op r) (ha:JE X a ta) (hb:JE X b tb):JT X (.Compare a [op] [b] pos) (tTest (tOp r ta tb)):=⟨pt_cmpR ho.h ha.h hb.h hm⟩
theorem k_extend (hK:X.K = K) (hbase:attributeBase o "extend" X.env (eval o X.env) = eval o X.env) (hfew:((backTo cpos (starEach [e] X.env)).all (fun x=>!x.1) && (backToKw cpos (keywordEach [] X.env)).all (fun x=>x.1.isSome)
 && decide (([e]:List Expr).length + ([]:List Keyword).length + (if ([]:List Keyword).isEmpty then 0 else 1) < 30)) = true) (hline:(apos.endLine == cpos.line) = true) (hs:starEach [e] X.env = (false,eval e X.env) :: starEach [] X.env)
 (hpl:(backTo cpos (starEach [] X.env)).any (·.1) = false) (ho:JE X o to) (ha:JA X [e] t):JE X (.Call (.Attribute o "extend" apos) [e] [] cpos) (tBM K "list" rExtend to t):=
 hK▸⟨pe_bm PySem.F.plainAttrs_list PySem.F.slot_list_extend PySem.F.type_list_extend mt_extend ho.h ha.h hbase hfew hline hs hpl⟩
end
structure RoomH (k:Nat) (A:Around):Prop where
 dp:A.depth + 3 * k + 5 < recursionLimit
 un:A.units + 16 * k + 200 < cLine
theorem RoomH.depth (r:RoomH k A):A.depth < recursionLimit:=by have:=r.dp;omega
theorem RoomH.deeper (r:RoomH (k + 1) A) (env:Env):RoomH k (A.deeper env):=
 ⟨by have:=r.dp;show A.depth + 1 + 3 * k + 5 < _;omega,by have:=r.un;simp;omega⟩
theorem RoomH.mark (r:Room k A) (h:j<=k):RoomH j (A.mark v):=⟨by have:=r.dp;show A.depth + 3 * j + 5 < _;omega,by have:=r.un;simp;omega⟩
structure FnOkH (P:Program) (w:World) (K:PySem.W.Frag) (mg:Str->Option Value) (base:Heap) (CX:CXT) (k:Nat) (f:Addr) (fd:FuncData) (ps:List Str) (sp:Sp):Prop where
 len:∀ vs H Q E,sp vs H Q E->vs.length = ps.length
 run:∀ (A:Around) (outer:List Env) (s:Shared) (H:Hp) (args:Args) (us:List Value) (vs:List V) (Q:VK) (E:XK),RoomH k A->Env0 P w K mg base A outer s H->BindsTo s fd args (ps.zip us)->Vals vs us->sp vs H Q E->
  codeAny (model P w) A (.call (.ref f) args) (CR CX outer P w H s Q E) s
def cxOfH (CX:CXT) (P:Program) (w:World) (K:PySem.W.Frag) (mg:Str->Option Value) (base:Heap) (N:List Str) (qual:Str) (scope:Scope) (f:Addr) (cd:Value) (A:Around) (outer:List Env) (s:Shared) (H:Hp) (E:XK):Cx where
 prog:=P
 w:=w
 K:=K
 mg:=mg
 base:=base
 A:=A.deeper (envOfC qual scope s.heap.objs.size f cd)
 N:=N
 s₀:=s
 H₀:=H
 env:=envOfC qual scope s.heap.objs.size f cd
 outer:=outer
 stack:=envOfC qual scope s.heap.objs.size f cd :: outer
 ex:=[]
 calm:=false
 fn:=fun _=>true
 pn:=[]
 xe:=fun e s'=>wpAny (model P w) (A.deeper (envOfC qual scope s.heap.objs.size f cd)) (leaving (envOfC qual scope s.heap.objs.size f cd) e) (fun _ s''=>CX outer H s E e s'') (fun e' s''=>CX outer H s E e' s'') s'
theorem inv_startH {CX:CXT}{P:Program}{w:World}{K:PySem.W.Frag}{mg:Str->Option Value}{base:Heap}{N ps:List Str}{qual:Str}{scope:Scope}{f:Addr}{cd:Value}{A:Around}{outer:List Env}{s s1:Shared}{H:Hp}{E:XK}{us:List Value}{vs:List V}
 (S:FnScope N ps scope) (e0:Env0 P w K mg base A outer s H) (hl:vs.length = ps.length) (r:Vals vs us)
 (x:InCallC s s.heap.objs.size (bindL (envOfC qual scope s.heap.objs.size f cd).kindOf (ps.zip us) fun _=>none) (cellsFrom (s.heap.objs.size + 1) scope.names []) (bindC (envOfC qual scope s.heap.objs.size f cd).kindOf (ps.zip us) fun _=>none) s1):
 Inv (cxOfH CX P w K mg base N qual scope f cd A outer s H E) [] (L2.start N vs) H s1:=by
 have hpl:ps.length<=N.length:=by have:=congrArg List.length S.pre;rw [List.length_take] at this;omega
 obtain⟨h1,tk,rfl,hk⟩:=x.done
 have noA:∀ b:Addr,b∉(cxOfH CX P w K mg base N qual scope f cd A outer s H E).ex:=fun b z=>absurd (show b∈([]:List Addr) from z) (by simp)
 refine⟨⟨e0.mod,S.kind,rfl,rfl,Nat.le_refl _,fun y z c h1 h2=>?_,fun y hy=>?_,fun y c _ h=>?_,fun z=>absurd (show false = true from z) Bool.false_ne_true,Around.frames_deeper e0.frames,.inr ⟨rfl,rfl⟩,fun b z=>absurd z (noA b),e0.bs,e0.bsz,fun b _ _=>noA b,fun b z=>absurd z (noA b),e0.funs,e0.frf⟩,
  rfl,e0.bare,Un.kept hk,⟨_,x.toInCall.ns,fun i y v h1 h2 h3=>?_⟩,fun y c h=>⟨_,x.cell y c h⟩,e0.hok.fresh (Nat.le_refl _),fun y c h=>?_,fun p hp=>absurd (show p∈([]:List (Addr×Obj)) from hp) (by simp),e0.hok.kept hk,?_⟩
 · exact name_of_addr x.apart (PySem.mem_of_lookup h1) (PySem.mem_of_lookup h2)
 · have hy:scope.names.lookup y = some .cell\/scope.names.lookup y = some .free:=hy
   rcases hy with hy | hy
   · exact cell_has hy
   · exact absurd rfl (S.nofree _ (PySem.mem_of_lookup hy))
 · exact Nat.le_of_lt (x.above y c (PySem.mem_of_lookup h))
 · have hi:i < vs.length:=by
    unfold L2.start at h2
    by_cases hi:i < vs.length
    · exact hi
    · rw [List.getElem?_append_right (by simpa using hi)] at h2
      rw [List.getElem?_replicate] at h2
      split at h2 <;> cases h2
   have ha:vs[i]? = some v:=by
    unfold L2.start at h2
    rw [List.getElem?_append_left (by simpa using hi),List.getElem?_map] at h2
    cases e:vs[i]? with
    | none=>rw [e] at h2;cases h2
    | some a=>rw [e] at h2;cases h2;rfl
   obtain⟨u,hu,rv⟩:=r.get ha
   have hp:ps[i]? = some y:=by
    rw [<- S.pre,List.getElem?_take_of_lt (by omega)];exact h1
   have ndP:ps.Nodup:=by rw [<- S.pre];exact S.nd.sublist (List.take_sublist _ _)
   refine⟨u,rv,?_⟩
   rcases S.par y (List.mem_of_getElem? hp) with k | k
   · exact .inl ⟨k,bindL_get ndP hp hu k⟩
   · obtain⟨c,e⟩:=cell_has (n:=s.heap.objs.size + 1) k
     refine .inr ⟨.inl k,c,e,?_⟩
     have q:=x.cell y c e
     rw [bindC_get ndP hp hu (by show scope.names.lookup y≠_;rw [k];decide)] at q
     exact q
 · exact e0.hok.fresh (Nat.le_of_lt (x.above y c (PySem.mem_of_lookup h)))
 · unfold L2.start
   show _ = N.length
   rw [List.length_append,List.length_map,List.length_replicate]
   omega
theorem fn_ofH {CX:CXT}{P:Program}{w:World}{K:PySem.W.Frag}{mg:Str->Option Value}{base:Heap}{k:Nat}{f:Addr}{name qual:Str}{params:Arguments}{body:List Stmt}{scope:Scope}{dV kV doc pm cdv ct oc:Value}{an od:Option Addr}
 {N ps:List Str}{sp:Sp} (lk:K.lookup f = some ⟨oc,od,.func (PySem.W.fnOf name qual params body scope dV kV doc pm an cdv ct),osl⟩) (hcd:PySem.W.codeIn K cdv qual = true) (S:FnScope N ps scope)
 (len:∀ vs H Q E,sp vs H Q E->vs.length = ps.length)
 (hbody:∀ (A:Around) (outer:List Env) (s:Shared) (H:Hp) (vs:List V) (Q:VK) (E:XK),RoomH k (A.deeper (envOfC qual scope s.heap.objs.size f cdv))->sp vs H Q E->
  ∃ t,PSs (cxOfH CX P w K mg base N qual scope f cdv A outer s H E) body t/\t { nx:=fun _ H'=>Q .non H',rt:=Q } (L2.start N vs) H):
 FnOkH P w K mg base CX (k + 1) f (PySem.W.fnOf name qual params body scope dV kV doc pm an cdv ct) ps sp:=by
 refine⟨len,fun A outer s H args us vs Q E hr e0 hb r hsp=>?_⟩
 have hl:=len _ _ _ _ hsp
 have KX:K.In s.heap:=e0.mod.kin.keeps fun b o e=>(e0.bs b o e).1
 have lim:s.heap.NoLimit:=e0.mod.nolimit.keeps fun b o e=>(e0.bs b o e).1
 have hkind:∀ y∈ps.zip us,scope.names.lookup y.1 = some .local\/(scope.names.lookup y.1 = some .cell/\((cellsFrom (s.heap.objs.size + 1) scope.names []).lookup y.1).isSome = true):=fun⟨n,v⟩ hy=>by
  rcases S.par n (List.of_mem_zip hy).1 with q | q
  · exact .inl q
  · exact .inr ⟨q,PySem.W.cellsFrom_some _ _ _ (.inl q)⟩
 refine codeAny_call_function hr.depth (KX _ _ lk) rfl S.co S.gen rfl (PySem.W.codeRec_of KX hcd) (hb _ _ _ _ ?_)
 refine wpAny_newFunctionEnv_cells S.kind hkind fun env he s1 x=>?_
 subst he
 refine⟨lim.keeps x.toInCall.keep,codeAny_func ?_⟩
 obtain⟨t,ht,hq⟩:=hbody A outer s H vs Q E (hr.deeper _) hsp
 have I:Inv (cxOfH CX P w K mg base N qual scope f cdv A outer s H E) [] (L2.start N vs) H s1:=inv_startH S e0 hl r x
 refine wpAny_mono (ht [] s1 (L2.start N vs) H _ I hq) (fun fl s' hs=>?_) fun e s' hs=>hs
 have fin:∀ {σ':L2.St}{H':Hp}{v:V}{u:Value},Inv (cxOfH CX P w K mg base N qual scope f cdv A outer s H E) [] σ' H' s'->RelV v u->Q v H'->CE outer P w H s Q u s':=
  fun {σ' H' v u} J rv q=>⟨v,H',J.os,J.bare,J.base,J.hok,rv,q⟩
 cases fl with
 | ret u=>
  obtain⟨v,σ',H',J,rv,q⟩:=hs
  exact fin J rv q
 | next=>
  obtain⟨σ',H',J,q⟩:=hs
  exact fin (v:=V.non) (u:=Value.none) J rfl q
 | brk=>
  obtain⟨_,_,_,q⟩:=hs
  exact False.elim q
 | cont=>
  obtain⟨_,_,_,q⟩:=hs
  exact False.elim q
section
variable {K:PySem.W.Frag}{st:Stmt}
theorem Fun.jH (F:Fun K x qual st f fd) (S:FnScope N ps (defScope st)) (len:∀ vs H Q E,sp vs H Q E->vs.length = ps.length)
 (hbody:∀ (cdv:Value) (A:Around) (outer:List Env) (s:Shared) (H:Hp) (vs:List V) (Q:VK) (E:XK),RoomH k (A.deeper (envOfC qual (defScope st) s.heap.objs.size f cdv))->sp vs H Q E->
  ∃ t,JSs (cxOfH CX0 P w K mg base N qual (defScope st) f cdv A outer s H E).nox (defBody st) t/\t { nx:=fun _ H'=>Q .non H',rt:=Q } (start N vs) H):FnOkH P w K mg base CX0 (k + 1) f fd ps sp:=by
 obtain⟨oc,od,kV,doc,pm,an,cdv,ct,osl,rfl,lk,hcd⟩:=F.ex
 refine fn_ofH lk hcd S len fun A outer s H vs Q E hr hsp=>?_
 obtain⟨t,h,q⟩:=hbody cdv A outer s H vs Q E hr hsp
 exact⟨t,h.h.nox,q⟩
end
structure CalleeH (CX:CXT) (P:Program) (w:World) (K:PySem.W.Frag) (mg:Str->Option Value) (base:Heap) (x:Str) (k:Nat) (ps:List Str) (sp:Sp):Prop where
 ex:∃ f fd,FnOkH P w K mg base CX k f fd ps sp/\mg x = some (.ref f)/\PySem.W.keepIn K (.ref f) = true/\Binds K fd ps []
theorem run_fnH {σ:L2.St}{Q:VK} (F:FnOkH X.prog X.w X.K X.mg X.base CX k f fd ps sp) (hr:RoomH k X.A) (hb:Binds X.K fd ps []) (hx:Passes CX X E)
 (I:Inv X pins σ H s) (r:Vals vs us) (h:sp vs H Q E):wpAny (model X.prog X.w) X.A (call (.ref f) us) (EP X pins σ Q) X.xe s:=by
 have hl:us.length = ps.length:=by rw [<- r.length];exact F.len _ _ _ _ h
 have hb':=hb s us I.kIn (by simpa using hl)
 rw [List.append_nil] at hb'
 refine wpAny_call (codeAny_mono (F.run X.A X.stack s H _ us vs Q E hr I.env0 hb' r h) fun r s' hq=>?_)
 cases r with
 | error e=>exact hx pins σ H s e s' I hq
 | ok fl=>
  cases fl with
  | ret u=>exact I.after hq
  | next=>exact False.elim hq
  | brk=>exact False.elim hq
  | cont=>exact False.elim hq
theorem j_callH (c:CalleeH CX0 X.prog X.w X.K X.mg X.base x k ps sp) (hr:RoomH k X.A) (hg:Gl X x) (hdb:(x == ("__debug__" : Str)) = false)
 (he:starEach (e :: es) X.env = (false,eval e X.env) :: starEach es X.env) (hpl:(backTo pos (starEach es X.env)).any (·.1) = false) (ha:JA X (e :: es) t):JE X (.Call (.Name x p) (e :: es) [] pos) (tCall sp [] E0 t):=⟨by
 obtain⟨f,fd,F,hm,hk,hb⟩:=c.ex
 intro pins s σ H Q I h
 refine wpAny_Call_Name_kw (ld_glob I hg hm ?_ hdb)
 refine PySem.W.callWith_K I.ok.mod.kin hk (thn (ha.h pos pins s σ H _ I h) fun us s1 ⟨vs,H1,I1,r,q⟩=>⟨I1.kIn,?_⟩) he hpl
 have q:sp _ H1 Q E0:=q
 rw [List.append_nil] at q
 exact run_fnH F hr hb pass0 I1 r q⟩
structure CalleeM (P:Program) (w:World) (K:PySem.W.Frag) (mg:Str->Option Value) (base:Heap) (C:Addr) (m:Str) (k:Nat) (ps:List Str) (sp:Sp):Prop where
 ex:∃ f fd,FnOk P w K mg base CX0 k f fd ps sp/\Meth K C m f/\Binds K fd ps []/\Cls K C
structure CalleeC (P:Program) (w:World) (K:PySem.W.Frag) (mg:Str->Option Value) (base:Heap) (x:Str) (C:Addr) (k:Nat) (ps:List Str) (sp:Sp):Prop where
 ex:∃ f fd,FnOk P w K mg base CX0 k f fd ps sp/\Mk K C f/\mg x = some (.ref C)/\Binds K fd ps []
section
variable {K:PySem.W.Frag}
theorem k_fld (hK:X.K = K) (hb:attributeBase e f X.env (eval e X.env) = eval e X.env) (he:JE X e ta):JE X (.Attribute e f pos) (tFld K ta f):=hK▸⟨pe_fld he.h hb⟩
theorem k_setFld (hK:X.K = K) (hs:swapsWith value (some (.Attribute o f pos')) pos.line X.env = pure false) (ho:JE X o ta) (hv:JE X value tv):JS X (.Assign [.Attribute o f pos'] value pos) (sFld K ta tv f):=hK▸⟨ps_fld ho.h hv.h hs⟩
theorem j_meth (c:CalleeM X.prog X.w X.K X.mg X.base C m k ps sp) (hr:Room k X.A) (hst:starEach (e :: es) X.env = (false,eval e X.env) :: starEach es X.env) (hpl:(backTo pos (starEach es X.env)).any (·.1) = false)
 (ht:eval (.Call (.Attribute o m apos) (e :: es) [] pos) X.env = (do
  let ov <- eval o X.env
  standAt apos.atName
  let (f,first) <- holding [ov] (getMethod ov m pl)
  callWith pos f first (backTo pos (starEach (e :: es) X.env)) (backToKw pos (keywordEach [] X.env)))) (ho:JE X o ta) (ha:JA X (e :: es) t):
 JE X (.Call (.Attribute o m apos) (e :: es) [] pos) (tMeth C m sp [] E0 ta t):=⟨by
 obtain⟨f,fd,F,hm,hb,hc⟩:=c.ex
 exact pe_meth ho.h hc hm F hr hb .nil pass0 ha.h hst hpl ht⟩
theorem j_meth0 (c:CalleeM X.prog X.w X.K X.mg X.base C m k ps sp) (hr:Room k X.A)
 (ht:eval (.Call (.Attribute o m apos) [] [] pos) X.env = (do
  let ov <- eval o X.env
  standAt apos.atName
  let (f,first) <- holding [ov] (getMethod ov m pl)
  callWith pos f first (backTo pos (starEach [] X.env)) (backToKw pos (keywordEach [] X.env)))) (ho:JE X o ta):
 JE X (.Call (.Attribute o m apos) [] [] pos) (tMeth C m sp [] E0 ta tNil):=⟨by
 obtain⟨f,fd,F,hm,hb,hc⟩:=c.ex
 exact pe_meth0 ho.h hc hm F hr hb .nil pass0 ht⟩
theorem j_make (c:CalleeC X.prog X.w X.K X.mg X.base x C k ps sp) (hr:Room (k + 1) X.A) (hg:Gl X x) (hdb:(x == ("__debug__" : Str)) = false)
 (he:starEach (e :: es) X.env = (false,eval e X.env) :: starEach es X.env) (hpl:(backTo pos (starEach es X.env)).any (·.1) = false) (ha:JA X (e :: es) t):JE X (.Call (.Name x p) (e :: es) [] pos) (tMake C sp [] E0 t):=⟨by
 obtain⟨f,fd,F,M,hm,hb⟩:=c.ex
 exact pe_make M F hr hg hm hb .nil pass0 ha.h hdb he hpl⟩
end
section
variable {X:Cx}
def rSortM (K:PySem.W.Frag):List V->Hp->VK->Prop:=fun xs H Q=>∃ (p:Addr) (ns:List Int),xs = [.ref p]/\(SqL K H p (ns.map V.int)\/SqT K H p (ns.map V.int))/\(ns.length < 64\/False)/\
 ∀ (l:Addr) (ms:List Int) (H':Hp),H l = none->L2.Same H H'->H' l = some (.lst (ms.map V.int))->ms.Perm ns->ms.Pairwise (·<=·)->Q (.ref l) H'
theorem call_sortM:CallR X (.builtin "sorted") (rSortM X.K):=by
 intro pins s σ H xs us Q I r ⟨p,ns,e1,hq,h64,q⟩
 exact call_sortS pins s σ H xs us Q I r ⟨p,ns,e1,hq,h64.resolve_right id,q⟩
end
section
variable {X:Cx}{K:PySem.W.Frag}{e:Expr}{es:List Expr}{t:TA}{pos p:Pos}{x:Str} (hg:Gl X x) (he:starEach (e :: es) X.env = (false,eval e X.env) :: starEach es X.env) (hpl:(backTo pos (starEach es X.env)).any (·.1) = false)
include hg he hpl
theorem k_sortedM (hK:X.K = K) (hx:x = "sorted") (hc:X.calm = true) (hm:X.mg x = none) (ha:JA X (e :: es) t):JE X (.Call (.Name x p) (e :: es) [] pos) (tCB (fun xs H Q=>rSortD xs H Q\/rSortM K xs H Q) t):=hK▸⟨by subst hx;exact pe_callB ((call_sortD hc).or call_sortM) hg hm boot_sorted ha.h (by decide) (by decide) he hpl⟩
end
section
open PySem PyProof.Rows HT
theorem rcGt_int (A:Around) (s:Shared) (a:Int) (t:Tok) (c:Int) (u:Tok) (prog:Program) (w:World) (E:Value->Shared->Prop) (Q:Value->Shared->Prop) (h:Q (.bool (decide (c < a))) s):
 wpAny (model prog w) A (richCompare .Gt (.int a t) (.int c u)) Q E s:=
 (PyProof.Rows.gt_int h:wpAny _ A _ Q E s)
section
open PySem.SeqAt
open PySem.AutoSeq1 (wpAny_loadPart')
open PySem.MeetsSeq PySem.MeetsSeq2 PySem.MeetsSeq3
theorem tuple_gt_ints (l b:Addr) (items items2:Array Value) (n n2:Nat) (dd dd2:Option Addr) (sl sl2:Array (Option Value)) (ns ms:List Int) (hi:IntsAre items.toList ns) (hj:IntsAre items2.toList ms):
 Meets (Builtin.«tuple.__gt__» ⟨[.ref l,.ref b],[]⟩)
  (fun _ R s=>s.heap.get? l = some { cls:=.type "tuple",dict:=dd,data:=.seq items n,slots:=sl }/\s.heap.get? b = some { cls:=.type "tuple",dict:=dd2,data:=.seq items2 n2,slots:=sl2 }/\
   R (.ok (.ret (.bool (lexLt ms ns)))) s):=
 .of_wp fun prog w A R s h=>by
  obtain⟨hp,g,d,tk,os⟩:=s;obtain⟨hl,hb,h⟩:=h
  have f2:=AutoSeq1.sub_tuple_tuple
  have z1:items.size = ns.length:=by rw [<- hi.length];simp
  have z2:items2.size = ms.length:=by rw [<- hj.length];simp
  wp_walk using wpAny_loadPart' hl,wpAny_loadPart' hb,wpAny_forIn_list _ (fun rest b s'=>b.1 = none/\s' = ⟨hp,g,d,tk,os⟩/\∃ (vs ws:List Value) (ns' ms':List Int),rest = vs.zip ws/\
   IntsAre vs ns'/\IntsAre ws ms'/\ns'.length + items2.size = ms'.length + items.size/\R (.ok (.ret (.bool (lexLt ms' ns')))) ⟨hp,g,d,tk,os⟩) _
  case turn=>
   rintro⟨y,x⟩ rest b s' ⟨hb',rfl,vs,ws,ns',ms',hz,hvi,hwi,hlen,hR⟩
   cases hvi with
   | nil=>rw [List.zip_nil_left] at hz;cases hz
   | cons a t hvi'=>
    cases hwi with
    | nil=>rw [List.zip_nil_right] at hz;cases hz
    | cons c u hwi'=>
     rw [List.zip_cons_cons] at hz
     injection hz with hyx hrest
     injection hyx with hy hx
     subst hy hx
     rw [lexLt_cons] at hR
     simp only [List.length_cons] at hlen
     obtain⟨e,he,hiff⟩:=eqAt_int A.in1 ⟨hp,g,d,tk,os⟩ a t c u
     refine wpAny_bind (he prog w _ _ ?_)
     cases e with
     | true=>
      rw [if_pos (hiff.mp rfl).symm] at hR
      wp_walk
      exact⟨rfl,rfl,_,_,_,_,hrest,hvi',hwi',by omega,hR⟩
     | false=>
      rw [if_neg (fun q=>absurd (hiff.mpr q.symm) Bool.false_ne_true)] at hR
      have hri:=rcGt_int A.in1 ⟨hp,g,d,tk,os⟩ a t c u prog w
      wp_walk using hri
      exact⟨_,rfl,by simpa using hR⟩
  case fin=>
   rintro⟨b1,b2⟩ s' ⟨hb',rfl,vs,ws,ns',ms',hz,hvi,hwi,hlen,hR⟩
   simp only at hb'
   subst hb'
   have hv:lexLt ms' ns' = decide (items2.size < items.size):=by
    cases hvi with
    | nil=>
     cases hwi with
     | nil=>
      simp only [List.length_nil] at hlen
      rw [lexLt_nil_nil]
      exact (decide_eq_false (by omega)).symm
     | cons c u hw=>
      simp only [List.length_nil,List.length_cons] at hlen
      rw [lexLt_cons_nil]
      exact (decide_eq_false (by omega)).symm
    | cons a t hv=>
     cases hwi with
     | nil=>
      simp only [List.length_nil,List.length_cons] at hlen
      rw [lexLt_nil_cons]
      exact (decide_eq_true (by omega)).symm
     | cons c u hw=>
      rw [List.zip_cons_cons] at hz
      cases hz
   rw [hv] at hR
   wp_walk
   exact⟨_,rfl,by simpa [Builtin.Tuple.tupleCompareSizes] using hR⟩
  case h=>
   exact⟨rfl,rfl,items.toList,items2.toList,ns,ms,rfl,hi,hj,by omega,h⟩
end
theorem gt_tupInts (hl:IsTup s.heap l items) (hb:IsTup s.heap b items2) (hi:IntsAre items.toList ns) (hj:IntsAre items2.toList ms)
 (hu:A.units < cLine) (h:Q (.bool (lexLt ms ns)) s):wpAny (model prog w) A (compareOp .Gt (.ref l) (.ref b)) Q E s:=by
 obtain⟨⟨cls,dd,data,sl⟩,ho,hc,n,hd⟩:=id hl
 obtain⟨⟨cls2,dd2,data2,sl2⟩,ho2,hc2,n2,hd2⟩:=id hb
 subst hc hd hc2 hd2
 exact richCompare_meets_room (op:=.Gt) ⟨_,ho,rfl⟩ ⟨_,ho2,rfl⟩ PySem.F.slot_tuple_gt PySem.F.entry_tuple_gt (PySem.F.args_tuple_gt_2 _ _) (tuple_gt_ints l b items items2 n n2 dd dd2 sl sl2 ns ms hi hj)
  ⟨ho,ho2,⟨(fun x=>nomatch x),h⟩⟩ hu
end
section
variable {St:Nat->Heap->Prop}
structure Cg (prog:Program) (w:World) (A:Around) (T:Nat->Value->Prop) (bt:Nat->Nat->Bool) (Ok:Heap->Prop) (wr:List Addr):Prop where
 stay:∀ h h',Ok h->(∀ b o,b∉wr->h.get? b = some o->h'.get? b = some o)->Ok h'
 lt:∀ i j vi vj (s:Shared) (Q:Value->Shared->Prop) (E:Value->Shared->Prop),Ok s.heap->T i vi->T j vj->Q (.bool (bt i j)) s->wpAny (model prog w) A (richCompare .Gt vi vj) Q E s
abbrev scr3 (v:Value) (c:Nat):Obj:={ cls:=.type "list",dict:=none,data:=.seq #[v,v] c,slots:=#[] }
theorem maxGo (W:Walks prog w A.in1 I fp wr n T St) (C:Cg prog w A.in1 T bt Ok (S :: wr)) (hSf:S∉fp):
 ∀ (d j:Nat) (s:Shared) (v:Value) (c:Nat),n - (j + 1) = d->j + 1<=n->St (j + 1) s.heap->Ok s.heap->T (argBest bt j) v->s.heap.get? S = some (scr3 v c)->
 (∀ v h' tk,T (argBest bt (n - 1)) v->(∀ b o,b∉S :: wr->s.heap.get? b = some o->h'.get? b = some o)->R (.ok (.ret v)) { s with heap:=h',toks:=tk })->codeAny (model prog w) A (.builtin "max.loop" ⟨[.ref I,.none,.ref S],[]⟩) R s:=by
 have apart:S∉wr:=fun h=>hSf (W.sub _ h)
 have out:∀ {q:Addr},q∉S :: wr->S≠q/\q∉wr:=fun h=>by
  simp only [List.mem_cons,not_or] at h
  exact⟨Ne.symm h.1,h.2⟩
 intro d
 induction d with
 | zero=>
  intro j s v c hd hj st ok hv hS go
  have last:j + 1 = n:=by omega
  have quiet:=Around.under_plainId (A:=A) F.plain_max_loop
  apply codeAny_builtin F.entry_max_loop
  rw [quiet]
  have dn:=fun {Q':Option Value->Shared->Prop}{E':Value->Shared->Prop}=>W.done s Q' E' (last▸st)
  refine wpAny_bind (wpAny_seqItems hS rfl (wpAny_bind (wpAny_tryCatch (dn fun h1 tk1 k1=>?_))))
  have hS1:=k1 S _ apart hS
  wp_walk using wpAny_updateSeq hS1 rfl,wpAny_letGo
  exact go v _ tk1 (last▸hv) fun q o hq e=>(Heap.get?_update_other _ _ (out hq).1).trans (k1 q o (out hq).2 e)
 | succ d ih=>
  intro j s v c hd hj st ok hv hS go
  have more:j + 1 < n:=by omega
  have quiet:=Around.under_plainId (A:=A) F.plain_max_loop
  apply codeAny_builtin F.entry_max_loop
  rw [quiet]
  have it:=fun {Q':Option Value->Shared->Prop}{E':Value->Shared->Prop}=>W.item (j + 1) s Q' E' more st
  refine wpAny_bind (wpAny_seqItems hS rfl (wpAny_bind (wpAny_tryCatch (it fun u h1 tk1 hu st1 k1=>?_))))
  have hS1:=k1 S _ apart hS
  have ok1:Ok h1:=C.stay _ _ ok fun q o hq e=>k1 q o (out hq).2 e
  have cm:=fun {Q':Value->Shared->Prop}{E':Value->Shared->Prop}=>C.lt (j + 1) (argBest bt j) u v { s with heap:=h1,toks:=tk1 } Q' E' ok1 hu hv
  wp_walk using cm,wpAny_letGo
  refine wpAny_tryCatch (wpAny_holding (wpAny_bind (cm ?_)))
  wp_walk using wpAny_truthy_bool,wpAny_letGo
  have same:(toString "max" ++ toString ".loop" : String) = "max.loop":=by decide
  by_cases won:bt (j + 1) (argBest bt j) = true
  · have best:argBest bt (j + 1) = j + 1:=by simp [argBest,won]
    have kept:∀ q o,q∉S :: wr->s.heap.get? q = some o->(h1.update S (Obj.mapSeq fun _=>#[u,u])).get? q = some o:=fun q o hq e=>(Heap.get?_update_other _ _ (out hq).1).trans (k1 q o (out hq).2 e)
    have st2:St (j + 1 + 1) (h1.update S (Obj.mapSeq fun _=>#[u,u])):=W.frame _ h1 _ st1 fun q hq o e=>(Heap.get?_update_other _ _ fun z:S = q=>hSf (z▸hq)).trans e
    rw [if_pos won]
    refine wpAny_bind (wpAny_updateSeq hS1 rfl (wpAny_bind (wpAny_letGo ?_)))
    rw [same]
    refine wpAny_pure ⟨plainId_quiet F.plain_max_loop _,?_⟩
    exact ih (j + 1) _ u _ (by omega) more st2 (C.stay _ _ ok kept) (by rw [best];exact hu) (Heap.get?_update_self _ hS1 rfl) fun v' h' tk' a1 a2=>go v' h' tk' a1 fun q o hq e=>a2 q o hq (kept q o hq e)
  · have best:argBest bt (j + 1) = argBest bt j:=by simp [argBest,won]
    rw [if_neg won]
    refine wpAny_bind (wpAny_letGo ?_)
    rw [same]
    refine wpAny_pure ⟨plainId_quiet F.plain_max_loop _,?_⟩
    exact ih (j + 1) _ v c (by omega) more st1 ok1 (by rw [best];exact hv) hS1 fun v' h' tk' a1 a2=>go v' h' tk' a1 fun q o hq e=>a2 q o hq (k1 q o (out hq).2 e)
theorem maxStart (W:Walks prog w A.in1 I fp wr n T St) (C:Cg prog w A.in1 T bt Ok (S :: wr)) (hSf:S∉fp) (hn:0 < n) (st:St 0 s.heap) (ok:Ok s.heap)
 (hS:s.heap.get? S = some { cls:=.type "list",dict:=none,data:=.seq #[] c,slots:=#[] })
 (go:∀ v h' tk,T (argBest bt (n - 1)) v->(∀ b o,b∉S :: wr->s.heap.get? b = some o->h'.get? b = some o)->R (.ok (.ret v)) { s with heap:=h',toks:=tk }):codeAny (model prog w) A (.builtin "max.loop" ⟨[.ref I,.none,.ref S],[]⟩) R s:=by
 have apart:S∉wr:=fun h=>hSf (W.sub _ h)
 have out:∀ {q:Addr},q∉S :: wr->S≠q/\q∉wr:=fun h=>by grind
 have quiet:=Around.under_plainId (A:=A) F.plain_max_loop
 have same:(toString "max" ++ toString ".loop" : String) = "max.loop":=by decide
 have it:=fun {Q':Option Value->Shared->Prop}{E':Value->Shared->Prop}=>W.item 0 s Q' E' hn st
 have sq:=fun {Q':Option (Array Value)->Shared->Prop}=>wpAny_seqItems (M:=model prog w) (A:=A.in1) (E:=fun x s'=>R (.error x) s') (Q:=Q') hS rfl
 apply codeAny_builtin F.entry_max_loop
 rw [quiet]
 apply wpAny_bind
 apply sq
 apply wpAny_bind
 apply wpAny_tryCatch
 apply it
 intro u h1 tk1 hu st1 k1
 have hS1:=k1 S _ apart hS
 wp_walk using wpAny_updateSeq hS1 rfl,wpAny_letGo
 rw [same]
 have kept:∀ q o,q∉S :: wr->s.heap.get? q = some o->(h1.update S (Obj.mapSeq fun _=>#[u,u])).get? q = some o:=fun q o hq e=>(Heap.get?_update_other _ _ (out hq).1).trans (k1 q o (out hq).2 e)
 have st2:St (0 + 1) (h1.update S (Obj.mapSeq fun _=>#[u,u])):=W.frame _ h1 _ st1 fun q hq o e=>(Heap.get?_update_other _ _ fun z:S = q=>hSf (z▸hq)).trans e
 exact⟨plainId_quiet F.plain_max_loop _,maxGo W C hSf _ 0 _ u _ rfl hn st2 (C.stay _ _ ok kept) hu (Heap.get?_update_self _ hS1 rfl) fun v' h' tk' a1 a2=>go v' h' tk' a1 fun q o hq e=>a2 q o hq (kept q o hq e)⟩
theorem maxCall
 (h:wpAny (model prog w) A.in1 (pyIter x) (fun it s2=>∃ I fp wr n T St bt Ok,it = .ref I/\Walks prog w A.in1 I fp wr n T St/\St 0 s2.heap/\Ok (s2.heap.push { cls:=.type "list",data:=.seq #[] })/\(∀ b∈fp,b < s2.heap.objs.size)/\0 < n/\Cg prog w A.in1 T bt Ok (s2.heap.objs.size :: wr)/\
  ∀ v h' tk,T (argBest bt (n - 1)) v->(∀ b o,b∉wr->s2.heap.get? b = some o->h'.get? b = some o)->Q v { s2 with heap:=h',toks:=tk }) E s):wpAny (model prog w) A (call (.builtin "max") [x]) Q E s:=by
 have nam:(toString "max" ++ toString ".loop" : String) = "max.loop":=by decide
 refine call_function_tree F.kind_max F.plain_max F.entry_max (F.args_max1 _) ?_
 refine wpAny_bind (wpAny_of_eq (rfl) (wpAny_bind (wpAny_pure (wpAny_bind (wpAny_mono h (fun it s2 h2=>?_) fun _ _ e=>e)))))
 obtain⟨I,fp,wr,n,T,St,bt,Ok,rfl,W,st,ok,hfp,hn,C,go⟩:=h2
 refine wpAny_bind (wpAny_newObj_type ?_)
 have nS:s2.heap.objs.size∉fp:=fun hm=>Nat.lt_irrefl _ (hfp _ hm)
 rw [nam]
 refine wpAny_pure ⟨plainId_quiet F.plain_max_loop _,maxStart W C nS hn (W.frame 0 _ _ st fun b _ o e=>Heap.get?_push_of_some _ e) ok (Heap.get?_push_size _ rfl) fun v h' tk hv k=>?_⟩
 exact go v h' tk hv fun b o hb e=>k b o (fun z=>(List.mem_cons.mp z).elim (fun z=>absurd (Heap.lt_size e) (by rw [z];exact Nat.lt_irrefl _)) hb) (Heap.get?_push_of_some _ e)
end
def lexG (nss:List (List Int)) (i j:Nat):Bool:=HT.lexLt (nss.getD j []) (nss.getD i [])
def PureLt (prog:Program) (w:World) (A:Around) (s:Shared) (κ:SortKind) (kz:Array Keyed) (lt:Keyed->Keyed->Bool):Prop:=
 ∀ x y:Keyed,x∈kz.toList->y∈kz.toList->∀ (Q:Bool->Shared->Prop) (E:Value->Shared->Prop),Q (lt x y) s->wpAny (model prog w) A (keyLt' κ x.1 y.1) Q E s
theorem sort_any {a:Addr}{vs:List Value}{c:Nat}{R:Array Value->Prop}{P:Fin->Shared->Prop} (at_:s.heap.get? a = some (seqObj "list" vs.toArray c)) (hz:vs.length<=sizeLine) (h1:vs.length < 2->R vs.toArray)
 (hr:2<=vs.length->∀ h6:Heap,(∀ b o,b≠a->s.heap.get? b = some o->h6.get? b = some o)->wpAny (model prog w) A (keyKind' vs.toArray) (fun κ s7=>s7 = { s with heap:=h6 }/\
  wpS (model prog w) A E { s with heap:=h6 } sortRuns' (fun _ v=>failedOf v = none/\(arrOf v).size = vs.length/\R ((arrOf v).map (·.2))) (SortSt.mk' κ (pairsOf vs) #[] 7 none)) E { s with heap:=h6 })
 (q:∀ out:Array Value,out.size = vs.length->R out->P (.done (.ret .none)) { s with heap:=sortedHeap s.heap a vs out }):wpAny (model prog w) A (Builtin.«list.sort» ⟨[.ref a],[]⟩) P E s:=by
 rw [list_sort_plain]
 have la:a < s.heap.objs.size:=Heap.lt_size at_
 refine wpAny_bind (listItems_at at_ rfl (wpAny_bind (listUpdate_at at_ rfl ?_)))
 obtain⟨c1,at1⟩:∃ c1,(s.heap.update a (Obj.mapSeq fun _=>#[])).get? a = some (seqObj "list" #[] c1):=⟨_,get?_update_seq at_ (fun _=>#[])⟩
 refine wpAny_bind (seqEpoch_at at1 rfl (wpAny_bind (wpAny_newTuple (wpAny_bind (wpAny_newList (wpAny_holding ?_))) (by show vs.toArray.toList.length<=_;simpa using hz))))
 have at2:(((s.heap.update a (Obj.mapSeq fun _=>#[])).push (seqObj "tuple" vs.toArray 0)).push (seqObj "list" #[] 0)).get? a = some (seqObj "list" #[] c1):=by
  rw [Heap.get?_push_ne,Heap.get?_push_ne]
  · exact at1
  · rw [Heap.size_update];exact Nat.ne_of_lt la
  · rw [size_push',Heap.size_update];exact Nat.ne_of_lt (Nat.lt_succ_of_lt la)
 have old:∀ b o,b≠a->s.heap.get? b = some o->(((s.heap.update a (Obj.mapSeq fun _=>#[])).push (seqObj "tuple" vs.toArray 0)).push (seqObj "list" #[] 0)).get? b = some o:=fun b o hb e=>
  Heap.get?_push_of_some _ (Heap.get?_push_of_some _ ((Heap.get?_update_other _ _ (Ne.symm hb)).trans e))
 show wpAny (model prog w) A _ P E { s with heap:=((s.heap.update a (Obj.mapSeq fun _=>#[])).push (seqObj "tuple" vs.toArray 0)).push (seqObj "list" #[] 0) }
 dsimp only
 by_cases few:vs.toArray.size < 2
 · rw [if_pos few,if_pos few]
   refine wpAny_bind (wpAny_pure ?_)
   rw [StateT.run_pure]
   refine wpAny_bind (wpAny_pure ?_)
   dsimp only
   refine wpAny_bind (seqEpoch_at at2 rfl (wpAny_bind (listUpdate_at at2 rfl ?_ (hsz2:=by rw [Array.size_map];show (pairsOf vs).size<=_;rw [pairsOf_size];omega))))
   simp only [bne_self_eq_false,Bool.false_eq_true,if_false]
   have e2:(vs.toArray.zip vs.toArray).map (·.2) = vs.toArray:=by
    have:((vs.zip vs).map (·.2)) = vs:=List.map_snd_zip (Nat.le_refl _)
    apply Array.toList_inj.mp
    simpa using this
   refine wpAny_pure ?_
   have:=q vs.toArray (by simp) (h1 (by simpa using few))
   rw [<- e2] at this
   exact this
 · rw [if_neg few,if_neg few]
   refine wpAny_bind (wpAny_mono (hr (by simp at few;omega) _ old) ?_ fun _ _ e=>e)
   rintro κ s' ⟨rfl,hw⟩
   refine wpAny_bind (wpAny_mono hw ?_ fun _ _ e=>e)
   rintro⟨⟨⟩,v⟩ s' ⟨rfl,y1,y2,y3⟩
   dsimp only
   refine wpAny_bind (seqEpoch_at at2 rfl (wpAny_bind (listUpdate_at at2 rfl ?_ (hsz2:=Nat.le_trans (Nat.le_of_eq ((Array.size_map ..).trans y2)) (by omega)))))
   rw [y1]
   simp only [bne_self_eq_false,Bool.false_eq_true,if_false]
   exact wpAny_pure (q _ ((Array.size_map ..).trans y2) y3)
def tkey (H:Hp):Value->List Int
 | .ref a=>match H a with
  | some (.tup xs)=>xs.map fun v=>match v with | .int i=>i | _=>0
  | _=>[]
 | _=>[]
theorem tkey_of (h:H a = some (.tup (w.map V.int))):tkey H (.ref a) = w:=by
 show (match H a with | some (.tup xs)=>xs.map _ | _=>[]) = w
 rw [h]
 show ((w.map V.int).map _) = w
 rw [List.map_map]
 exact (List.map_congr_left fun x _=>rfl).trans (List.map_id _)
namespace Tim
structure Ord (lt:Keyed->Keyed->Bool):Prop where
 irr:∀ a,lt a a = false
 asy:∀ a b,lt a b = true->lt b a = false
 tr:∀ a b c,lt b a = false->lt c b = false->lt c a = false
section
variable {lt:Keyed->Keyed->Bool}{a b o:List Keyed}{p q:Nat}
abbrev Le (lt:Keyed->Keyed->Bool) (x y:Keyed):Prop:=lt y x = false
end
def Sm (u v:SortSt):Prop:=kindOf v = kindOf u/\arrOf v = arrOf u/\pendingOf v = pendingOf u/\failedOf v = failedOf u
def PO:Nat->List (Nat×Nat×Nat)->List (List Keyed)->Prop
 | _,[],[]=>True
 | s,e :: P,C :: RS=>e.1 = s/\e.2.1 = C.length/\PO (s + C.length) P RS
 | _,_,_=>False
end Tim
theorem perm_lift {α β:Type} (f:α->β) {l m:List β} (h:l.Perm m):∀ {zs:List α},zs.map f = m->∃ zs':List α,zs'.Perm zs/\zs'.map f = l:=by
 induction h with
 | nil=>simp
 | cons x _ ih=>
  intro zs e
  cases zs with
  | nil=>cases e
  | cons z zs=>
   injection e with e1 e2
   obtain⟨zs',h1,h2⟩:=ih e2
   exact⟨z :: zs',h1.cons z,by simp_all⟩
 | swap x y l=>
  intro zs e
  cases zs with
  | nil=>cases e
  | cons a zs=>
   cases zs with
   | nil=>cases e
   | cons b zs=>
    exact⟨b :: a :: zs,List.Perm.swap a b zs,by simp_all⟩
 | trans _ _ i1 i2=>
  intro zs e
  obtain⟨z1,h1,h2⟩:=i2 e
  obtain⟨z2,h3,h4⟩:=i1 h2
  exact⟨z2,h3.trans h1,h4⟩
theorem lexLt_total:∀ a b:List Int,HT.lexLt a b = true\/a = b\/HT.lexLt b a = true
 | [],[]=>.inr (.inl rfl)
 | [],_ :: _=>.inl rfl
 | _ :: _,[]=>.inr (.inr rfl)
 | x :: a,y :: b=>by
  rw [HT.lexLt_cons,HT.lexLt_cons]
  by_cases e:x = y
  · subst e
    rw [if_pos rfl,if_pos rfl]
    rcases lexLt_total a b with h | h | h
    · exact .inl h
    · exact .inr (.inl (by rw [h]))
    · exact .inr (.inr h)
  · rw [if_neg e,if_neg (fun z=>e z.symm)]
    rcases Int.lt_or_lt_of_ne e with h | h
    · exact .inl (decide_eq_true h)
    simp_all
theorem lexLt_tr:∀ {a b c:List Int},HT.lexLt a b = true->HT.lexLt b c = true->HT.lexLt a c = true
 | [],[],_,h,_=>by omega
 | [],_ :: _,[],_,h=>by cases h
 | [],_ :: _,_ :: _,_,_=>rfl
 | _ :: _,[],_,h,_=>by cases h
 | _ :: _,_ :: _,[],_,h=>by cases h
 | x :: a,y :: b,z :: c,h1,h2=>by
  rw [HT.lexLt_cons] at h1 h2 ⊢
  by_cases e1:x = y
  · rw [if_pos e1] at h1
    by_cases e2:y = z
    · rw [if_pos e2] at h2
      rw [if_pos (e1.trans e2)];exact lexLt_tr h1 h2
    grind
  grind
theorem lexLt_irr:∀ a:List Int,HT.lexLt a a = false
 | []=>rfl
 | x :: a=>by rw [HT.lexLt_cons,if_pos rfl];exact lexLt_irr a
theorem lexLt_asy (h:HT.lexLt a b = true):HT.lexLt b a = false:=by
 cases e:HT.lexLt b a with
 | false=>rfl
 | true=>have:=lexLt_tr h e;rw [lexLt_irr] at this;grind
theorem pairs_map {α:Type} (g:α->Value):∀ l:List α,(pairsOf (l.map g)).toList = l.map fun z=>((g z,g z):Keyed)
 | []=>by rw [pairsOf_toList];rfl
 | z :: l=>by
  have ih:=pairs_map g l
  rw [pairsOf_toList] at ih ⊢
  grind
section
variable {s:Shared}
theorem compTurn_two0 (elt t1 i1 t2 i2:Expr) (f1 f2:List Expr) (scope:Scope) (pos:Pos) (it acc:Value) (env:Env):
 compTurn (.ListComp elt [⟨t1,i1,f1,0⟩,⟨t2,i2,f2,0⟩] scope pos) 0 it acc env = (do
  standAt i1.pos
  match <- pyNext it with
  | none=>pure (.done .next)
  | some v=>
   letOwnedTupleGo t1 it v
   assign t1 env v
   let mut ok:=true
   for c in f1 do
    if ok then ok <- isTrue c env (eval c env)
   if ok then
    let x <- eval i2 env
    standAt i2.pos
    let x <- foldedSetIterable i2 env x
    let _ <- runOwn (.compStart (.ListComp elt [⟨t1,i1,f1,0⟩,⟨t2,i2,f2,0⟩] scope pos) 1 (<- holding [x] (pyIter x)) acc env) env
   again (.compLoop (.ListComp elt [⟨t1,i1,f1,0⟩,⟨t2,i2,f2,0⟩] scope pos) 0 it acc env)):=by rfl
theorem compTurn_two1 (elt t1 i1 t2 i2:Expr) (f1 f2:List Expr) (scope:Scope) (pos:Pos) (it acc:Value) (env:Env):
 compTurn (.ListComp elt [⟨t1,i1,f1,0⟩,⟨t2,i2,f2,0⟩] scope pos) 1 it acc env = (do
  standAt i2.pos
  match <- pyNext it with
  | none=>pure (.done .next)
  | some v=>
   letOwnedTupleGo t2 it v
   assign t2 env v
   let mut ok:=true
   for c in f2 do
    if ok then ok <- isTrue c env (eval c env)
   if ok then
    (do let _ <- call (.builtin "list.append") [acc,<- eval elt env])
   again (.compLoop (.ListComp elt [⟨t1,i1,f1,0⟩,⟨t2,i2,f2,0⟩] scope pos) 1 it acc env)):=by rfl
theorem compLoop_in (I:Nat->Shared->Prop)
 (turn:∀ n s,I n s->wpAny (model prog w) A (pyNext it) (fun r s₁=>match r with
  | none=>R (.ok .next) s₁
  | some v=>wpAny (model prog w) A (letOwnedTupleGo t2 it v) (fun _ s₁=>wpAny (model prog w) A (assign t2 env v) (fun _ s₂=>
   wpAny (model prog w) A (testsOf f2 env) (fun ok s₃=>
    if ok = true then wpAny (model prog w) A (eval elt env) (fun x s₄=>
     wpAny (model prog w) A (call (.builtin "list.append") [acc,x]) (fun _ s₅=>∃ m,m < n/\I m s₅) (fun _ _=>False) s₄) (fun _ _=>False) s₃
    else ∃ m,m < n/\I m s₃) (fun _ _=>False) s₂) (fun _ _=>False) s₁) (fun _ _=>False) s₁) (fun _ _=>False) s)
 (n:Nat) (h:I n s):
 codeAny (model prog w) A (.compLoop (.ListComp elt [⟨t1,i1,f1,0⟩,⟨t2,i2,f2,0⟩] scope pos) 1 it acc env) R s:=by
 refine codeAny_loop rfl I (fun n s hI=>?_) n h
 refine wpAny_noted (wpAny_mono (E:=fun _ _=>False) ?_ (fun _ _ q=>q) fun _ _ f=>f.elim)
 rw [compTurn_two1]
 refine wpAny_bind (wpAny_standAt (wpAny_bind (thn (turn n s hI) fun r s₁ h₁=>?_)))
 cases r with
 | none=>exact wpAny_pure h₁
 | some v=>
  refine wpAny_bind (thn h₁ fun _ s₁ h₁=>wpAny_bind (thn h₁ fun _ s₂ h₂=>wpAny_bind (thn h₂ fun ok s₃ h₃=>?_)))
  cases ok with
  | false=>exact wpAny_pure ⟨rfl,h₃⟩
  | true=>exact wpAny_bind (wpAny_bind (thn h₃ fun x s₄ h₄=>wpAny_bind (thn h₄ fun _ s₅ h₅=>wpAny_pure (wpAny_pure ⟨rfl,h₅⟩))))
theorem compLoop_out (I:Nat->Shared->Prop) (hs:∀ x,foldedSetIterable i2 env x = pure x)
 (turn:∀ n s,I n s->wpAny (model prog w) A (pyNext it) (fun r s₁=>match r with
  | none=>R (.ok .next) s₁
  | some v=>wpAny (model prog w) A (letOwnedTupleGo t1 it v) (fun _ s₁=>wpAny (model prog w) A (assign t1 env v) (fun _ s₂=>
   wpAny (model prog w) A (testsOf f1 env) (fun ok s₃=>
    if ok = true then wpAny (model prog w) A (eval i2 env) (fun x s₄=>
     wpAny (model prog w) A (pyIter x) (fun itv s₅=>codeAny (model prog w) A (.compStart (.ListComp elt [⟨t1,i1,f1,0⟩,⟨t2,i2,f2,0⟩] scope pos) 1 itv acc env) (fun r s₆=>match r with
      | .ok _=>∃ m,m < n/\I m s₆
      | .error _=>False) s₅) (fun _ _=>False) s₄) (fun _ _=>False) s₃
    else ∃ m,m < n/\I m s₃) (fun _ _=>False) s₂) (fun _ _=>False) s₁) (fun _ _=>False) s₁) (fun _ _=>False) s)
 (n:Nat) (h:I n s):
 codeAny (model prog w) A (.compLoop (.ListComp elt [⟨t1,i1,f1,0⟩,⟨t2,i2,f2,0⟩] scope pos) 0 it acc env) R s:=by
 refine codeAny_loop rfl I (fun n s hI=>?_) n h
 refine wpAny_noted (wpAny_mono (E:=fun _ _=>False) ?_ (fun _ _ q=>q) fun _ _ f=>f.elim)
 rw [compTurn_two0]
 refine wpAny_bind (wpAny_standAt (wpAny_bind (thn (turn n s hI) fun r s₁ h₁=>?_)))
 cases r with
 | none=>exact wpAny_pure h₁
 | some v=>
  refine wpAny_bind (thn h₁ fun _ s₁ h₁=>wpAny_bind (thn h₁ fun _ s₂ h₂=>wpAny_bind (thn h₂ fun ok s₃ h₃=>?_)))
  cases ok with
  | false=>exact wpAny_pure ⟨rfl,h₃⟩
  | true=>
   refine wpAny_bind (thn h₃ fun x s₄ h₄=>wpAny_bind (wpAny_standAt (wpAny_bind ?_)))
   rw [hs]
   refine wpAny_pure (wpAny_bind (wpAny_holding (thn h₄ fun itv s₅ h₅=>wpAny_bind (wpAny_runOwn (codeAny_mono h₅ fun r s₆ h₆=>?_)))))
   cases r with
   | ok f=>exact wpAny_pure ⟨rfl,h₆⟩
   | error e=>exact h₆.elim
theorem compStart_in
 (h0:codeAny (model prog w) A (.compLoop (.ListComp elt [⟨t1,i1,f1,0⟩,⟨t2,i2,f2,0⟩] scope pos) 1 it acc env) R s)
 (h:wpAny (model prog w) A (pyIter it) (fun it' s'=>codeAny (model prog w) A (.compLoop (.ListComp elt [⟨t1,i1,f1,0⟩,⟨t2,i2,f2,0⟩] scope pos) 1 it' acc env) R s')
  (notedBy (model prog w) A env fun x s'=>R (.error x) s') s):
 codeAny (model prog w) A (.compStart (.ListComp elt [⟨t1,i1,f1,0⟩,⟨t2,i2,f2,0⟩] scope pos) 1 it acc env) R s:=by
 refine codeAny_of_tree ?_
 refine wpAny_notedAt ?_
 refine wpAny_bind (wpAny_askSetting (wpAny_ite ?_))
 split
 · first
    | rfl
    | exact wpAny_pure (And.intro rfl h0)
 · first
    | exact wpAny_bind (wpAny_rule (wpAny_bind (wpAny_standAt (wpAny_bind (wpAny_mono h (fun it' s' h'=>wpAny_pure (And.intro rfl h')) fun _ _ x=>x)))))
    | rfl
end
def lobj (us:List Value) (k:Nat):Obj:={ cls:=.type "list",data:=.seq us.toArray k }
def CmpIn (J:It) (g:TG) (tt:TT) (te:TE) (ys0:List V) (σ0:L2.St) (H0:Hp) (Z:List V->L2.St->Hp->Prop):Prop:=
 ∃ W:Nat->Nat->List V->L2.St->Hp->Prop,(∃ m,W 0 m ys0 σ0 H0)/\∀ i m ys σ' H',W i m ys σ' H'->ys.length<=sizeLine/\
  ((J.stop i H'/\Z ys σ' H')\/
   (J.go i H'/\∀ x H2,J.yld i H' x H2->g x σ' H2 fun σ3 H3=>tt σ3 H3 fun b H4=>if b = true then te σ3 H4 fun y H5=>∃ m',m' < m/\W (i + 1) m' (ys ++ [y]) σ3 H5 else ∃ m',m' < m/\W (i + 1) m' ys σ3 H4))
def Cmp2 (J:It) (g:TG) (tt:TT) (wi2:TI) (g2:TG) (tt2:TT) (te:TE) (σ0:L2.St) (H0:Hp) (Z:List V->Hp->Prop):Prop:=
 ∃ W:Nat->Nat->List V->L2.St->Hp->Prop,(∃ m,W 0 m [] σ0 H0)/\∀ i m ys σ' H',W i m ys σ' H'->ys.length<=sizeLine/\
  ((J.stop i H'/\Z ys H')\/
   (J.go i H'/\∀ x H2,J.yld i H' x H2->g x σ' H2 fun σ3 H3=>tt σ3 H3 fun b H4=>
    if b = true then wi2 σ3 H4 fun J2 H5=>CmpIn J2 g2 tt2 te ys σ3 H5 fun ys' σ5 H6=>∃ m',m' < m/\W (i + 1) m' ys' σ5 H6 else ∃ m',m' < m/\W (i + 1) m' ys σ3 H4))
section
variable {Y:Cx}{σ:L2.St}
theorem comp_in
 (hc:Y.calm = true) (hxe:Y.xe = fun _ _=>False) (hpn:Y.pn = []) (hDl:D≠Y.env.locals) (hDn:Y.s₀.heap.objs.size<=D) (hDc:∀ x c,Y.env.cells.lookup x = some c->c≠D) (hpl:∀ p∈pl,p.1≠D)
 (T:Turn Y.prog Y.w Y.K t2 J fp it tn) (hg:PG Y t2 g) (ht:PIfs Y f2 tt) (he:PE Y elt te)
 (I:Inv Y ((D,lobj us k) :: pl) σ H s) (rv:Vals ys us) (st:tn 0 s.heap) (f:∀ b∈fp,FpOk Y ((D,lobj us k) :: pl) H b) (h:CmpIn J g tt te ys σ H Z)
 (hR:∀ s' σ' H' ys us k,Inv Y ((D,lobj us k) :: pl) σ' H' s'->Vals ys us->Z ys σ' H'->R (.ok .next) s'):
 codeAny (model Y.prog Y.w) Y.A (.compLoop (.ListComp elt [⟨t1,i1,f1,0⟩,⟨t2,i2,f2,0⟩] scope pos) 1 (.ref it) (.ref D) Y.env) R s:=by
 obtain⟨W,⟨m0,w0⟩,turn⟩:=h
 have stat:∀ {H':Hp}{us':List Value}{k':Nat},(∀ b∈fp,H' b = none)->∀ b∈fp,FpOk Y ((D,lobj us' k') :: pl) H' b:=fun {H' us' k'} hn b hb=>by
  obtain⟨a0,a1,a2,a3,a4,a5⟩:=f b hb
  refine⟨hn b hb,a1,a2,a3,a4,fun p hp=>?_⟩
  rw [hpn] at hp a5
  rcases List.mem_cons.mp (show p∈(D,lobj us' k') :: pl from hp) with z | z
  · subst z;exact a5 (D,lobj us k) (List.mem_cons_self ..)
  · exact a5 p (List.mem_cons_of_mem _ z)
 have hfpD:∀ b∈fp,b≠D:=fun b hb z=>(f b hb).2.2.2.2.2 (D,lobj us k) (by rw [hpn];exact List.mem_cons_self ..) z.symm
 refine compLoop_in (fun n s'=>∃ i ys σ' H' us k,Inv Y ((D,lobj us k) :: pl) σ' H' s'/\Vals ys us/\tn i s'.heap/\(∀ b∈fp,H' b = none)/\W i n ys σ' H') ?_ m0 ⟨0,ys,σ,H,us,k,I,rv,st,fun b hb=>(f b hb).1,w0⟩
 rintro n s3 ⟨i,ys,σ3,H3,us,k,I3,rv,st3,fr3,w3⟩
 obtain⟨hz,tu⟩:=turn i n ys σ3 H3 w3
 rcases tu with ⟨stop,z⟩ | ⟨go,step⟩
 · refine thn (T.done Y rfl rfl rfl hc i _ s3 σ3 H3 (fun _ _=>False) I3 (stat fr3) st3 stop) fun r s4 ⟨hr,I4⟩=>?_
   subst hr
   exact hR s4 σ3 H3 ys us k I4 rv z
 · refine thn (T.item Y rfl rfl rfl hc i _ s3 σ3 H3 (fun _ _=>False) I3 (stat fr3) st3 go) fun r s4 ⟨u,hr,h4⟩=>?_
   subst hr
   refine thn h4 fun _ s5 ⟨x,H5,I5,r5,y5,st5,fr5⟩=>?_
   have I5':=I5.pinned (stat fr5) (T.obj _ _ st5)
   have e1:=hg _ s5 σ3 H5 x u _ I5' r5 (step x H5 y5)
   rw [hxe] at e1
   refine thn e1 fun _ s6 ⟨σ6,H6,I6,q6⟩=>?_
   have e2:=ht _ s6 σ6 H6 _ I6 q6
   rw [hxe] at e2
   refine thn e2 fun ok s7 ⟨H7,I7,q7⟩=>?_
   have tnK:∀ {σ':L2.St}{H':Hp}{s':Shared},Inv Y (((D,lobj us k) :: pl) ++ pinsAt fp s5.heap) σ' H' s'->tn (i + 1) s'.heap/\(∀ b∈fp,H' b = none)/\(∀ b∈fp,∀ o,s5.heap.get? b = some o->s'.heap.get? b = some o):=fun {σ' H' s'} I'=>
    ⟨T.keep _ _ _ st5 fun b hb o e=>(I'.pin (b,o) (List.mem_append_right _ (List.mem_append_right _ (mem_pinsAt hb e)))).1,fun b hb=>by
     obtain⟨o,e,d⟩:=T.obj _ _ st5 b hb
     exact (I'.pin (b,o) (List.mem_append_right _ (List.mem_append_right _ (mem_pinsAt hb e)))).2.1,fun b hb o e=>(I'.pin (b,o) (List.mem_append_right _ (List.mem_append_right _ (mem_pinsAt hb e)))).1⟩
   cases ok with
   | false=>
    have q7:∃ m',m' < n/\W (i + 1) m' ys σ6 H7:=q7
    obtain⟨m',hm,w7⟩:=q7
    obtain⟨k1,k2,_⟩:=tnK I7
    exact⟨m',hm,i + 1,ys,σ6,H7,us,k,I7.unpinned,rv,k1,k2,w7⟩
   | true=>
    have q7:te σ6 H7 fun y H5=>∃ m',m' < n/\W (i + 1) m' (ys ++ [y]) σ6 H5:=q7
    have e3:=he _ s7 σ6 H7 _ I7 q7
    rw [hxe] at e3
    refine thn e3 fun y s8 ⟨yv,H8,I8,r8,m',hm,w8⟩=>?_
    obtain⟨k1,k2,k3⟩:=tnK I8
    obtain⟨eD,nD,_,nfD,_⟩:=I8.pin (D,lobj us k) (List.mem_append_right _ (List.mem_append_left _ (List.mem_cons_self ..)))
    have eD:s8.heap.get? D = _:=eD
    have pl8:s8.heap.PlainList D us.toArray:=⟨k,eD⟩
    refine wpAny_list_append_plain (hsz:=by have:=rv.length;simp;omega) pl8 fun h₉ hl₉ hs₉=>?_
    obtain⟨k9,e9⟩:=hl₉
    have Ip:Inv Y pl σ6 H8 s8:=I8.pins_of fun p hp=>I8.pin p (List.mem_append_right _ (List.mem_append_left _ (List.mem_cons_of_mem _ hp)))
    have I9:Inv Y pl σ6 H8 { s8 with heap:=h₉ }:=Ip.turned (t':=s8.toks) (it:=D) (fun b o hb e=>(hs₉.2 b hb).trans e) nD hDl (.inr hDn) hDc (fun p hp=>by rw [hpn] at hp;exact hpl p hp)
    refine⟨m',hm,i + 1,ys ++ [yv],σ6,H8,us ++ [y],k9,I9.pins_of fun p hp=>?_,rv.append (.cons r8 .nil),T.keep _ _ _ k1 fun b hb o e=>(hs₉.2 b (hfpD b hb)).trans e,k2,w8⟩
    rcases List.mem_cons.mp hp with z | z
    · subst z
      refine⟨?_,nD,hDl,nfD,fun v z=>by cases z⟩
      show h₉.get? D = _
      rw [e9];simp [lobj]
    · exact I9.pin p (List.mem_append_right _ z)
end
section
variable {σ:L2.St}
theorem comp_block2 {it:Addr}{fp:List Addr}{tn:Nat->Heap->Prop}{J:It}{Z:List V->Hp->Prop}{E:Value->Shared->Prop}{RR:Value->Addr->Result->Shared->Prop}
 (hc:X.calm = true) (S:CompS X scope) (I2:Inv X pins σ H2 s2) (T:Turn X.prog X.w X.K t1 J fp it tn) (st2:tn 0 s2.heap) (f2':∀ b∈fp,FpOk X pins H2 b)
 (hg:∀ C s H fp,PG (cxC X Nc scope C s H fp) t1 g) (ht:∀ C s H fp,PIfs (cxC X Nc scope C s H fp) f1 tt) (hi2:∀ C s H fp,PI (cxC X Nc scope C s H fp) t2 i2 wi2) (hs2:∀ C x,foldedSetIterable i2 (compEnvC scope (clOf scope X.env) C X.env) x = pure x)
 (hg2:∀ C s H fp,PG (cxC X Nc scope C s H fp) t2 g2) (ht2:∀ C s H fp,PIfs (cxC X Nc scope C s H fp) f2 tt2) (he:∀ C s H fp,PE (cxC X Nc scope C s H fp) elt te)
 (h:Cmp2 J g tt wi2 g2 tt2 te (List.replicate Nc.length none ++ σ) H2 Z)
 (hRR:∀ D C s' H3 ys,Inv X pins σ (upd H3 D (.lst ys)) s'->H3 D = none->Z ys H3->(∃ m,s'.heap.Ns C m)->FpOk X pins (upd H3 D (.lst ys)) C->RR (.ref D) C (.ok .next) s'):
 wpAny (model X.prog X.w) X.A (newList []) (fun acc s₃=>wpAny (model X.prog X.w) X.A (newFunctionEnv scope X.env.globals (clOf scope X.env) [] X.env.qual none .none (some X.env)) (fun cenv s₄=>
  codeAny (model X.prog X.w) X.A (.compStart (.ListComp elt [⟨t1,i1,f1,0⟩,⟨t2,i2,f2,0⟩] scope pos) 0 (.ref it) acc { cenv with scope:=relabel scope X.env }) (RR acc cenv.locals) s₄) E s₃) E s2:=by
 refine wpAny_newObj_type (wpAny_newFunctionEnv S.nocell (by intro y hy;simp at hy) (fun h₁ hns₁ hsb₁=>?_) S.kind)
 dsimp only at hns₁ hsb₁ ⊢
 generalize hH2:s2.heap.push { cls:=.type "list",dict:=none,data:=.seq ([]:List Value).toArray } = G at hns₁ hsb₁ ⊢
 have hC:G.objs.size = s2.heap.objs.size + 1:=by rw [<- hH2,Heap.size_push]
 generalize hD0:s2.heap.objs.size = D at *
 generalize hC0:G.objs.size = C at *
 have hDC:D≠C:=by omega
 have below:∀ (b:Nat) o,s2.heap.get? b = some o->b < D:=fun b o e=>hD0▸Heap.lt_size e
 have belC:∀ (b:Nat) o,s2.heap.get? b = some o->b≠C:=fun b o e=>by have:=below b o e;omega
 have belD:∀ (b:Nat) o,s2.heap.get? b = some o->b≠D:=fun b o e=>by have:=below b o e;omega
 have old:∀ b o,s2.heap.get? b = some o->h₁.get? b = some o:=fun b o e=>hsb₁.extBut b o (belC b o e) (by
  have q:=Heap.get?_push_of_some { cls:=.type (if (some X.env).isSome then "dict" else "frame"),data:=.dict #[] } (hH2▸Heap.get?_push_of_some _ e:G.get? b = some o)
  exact q)
 have hacc:h₁.PlainList D #[]:=⟨_,hsb₁.extBut _ _ hDC (Heap.get?_push_of_some _ (by rw [<- hH2,<- hD0];exact Heap.get?_push_size _ rfl))⟩
 obtain⟨W,⟨m0,w0⟩,turn⟩:=h
 have hob:∀ b∈fp,∃ o,s2.heap.get? b = some o:=fun b hb=>let ⟨o,e,_⟩:=T.obj _ _ st2 b hb;⟨o,e⟩
 have hfpD:∀ b:Nat,b∈fp->b < D:=fun b hb=>let ⟨o,e⟩:=hob b hb;below b o e
 have hfpN:∀ b:Nat,b∈fp->b≠D:=fun b hb=>Nat.ne_of_lt (hfpD b hb)
 have hcells:∀ y∈scope.names,y.2 = .free->∃ c,X.env.cells.lookup y.1 = some c:=fun y hy e=>I2.ok.has y.1 (S.free y hy e)
 have hsub:∀ {x:Str}{c:Addr},(clOf scope X.env).lookup x = some c->X.env.cells.lookup x = some c:=fun e=>(clOf_sub hcells e).1
 have hclt:∀ x c,(clOf scope X.env).lookup x = some c->c < D:=fun x c e=>let ⟨v,q⟩:=I2.cell x c (hsub e);hD0▸q.lt
 have hn0:h₁.Ns C fun _=>none:=hns₁
 have IB:Inv (cxC X Nc scope C s2 H2 fp) [] (List.replicate Nc.length none ++ σ) H2 { s2 with heap:=h₁,toks:=s2.toks + ([]:List (Str×Value)).length }:=
  inv_block (D:=D) I2 S f2' hob (by omega) old hn0
 have hfs:∀ b:Nat,D<=b->b∉(cxC X Nc scope C s2 H2 fp).fs:=fun b hb hm=>by
  obtain⟨_,o,ho,_⟩:=IB.ok.funs.mem hm
  exact absurd (Nat.lt_of_lt_of_le (below b o ho) hb) (Nat.lt_irrefl _)
 have stat:∀ {H':Hp}{ps:List (Addr×Obj)},(∀ p∈ps,Nat.le D p.1)->(∀ b∈fp,H' b = none)->∀ b∈fp,FpOk (cxC X Nc scope C s2 H2 fp) ps H' b:=fun {H' ps} hps hn b hb=>
  ⟨hn b hb,(let ⟨o,e⟩:=hob b hb;belC b o e),IB.ok.exfs b hb,.inl hb,fun x c e=>(f2' b hb).2.2.2.2.1 x c (hsub e),fun p hp=>Nat.ne_of_gt (Nat.lt_of_lt_of_le (hfpD b hb) (hps p hp))⟩
 have loop:∀ s₃:Shared,s₃ = { s2 with heap:=h₁,toks:=s2.toks + ([]:List (Str×Value)).length }->
  codeAny (model X.prog X.w) X.A (.compLoop (.ListComp elt [⟨t1,i1,f1,0⟩,⟨t2,i2,f2,0⟩] scope pos) 0 (.ref it) (.ref D) (compEnvC scope (clOf scope X.env) C X.env)) (RR (.ref D) C) s₃:=by
  rintro s₃ rfl
  refine compLoop_out (fun n s'=>∃ i ys σ' H' us k,Inv (cxC X Nc scope C s2 H2 fp) [(D,lobj us k)] σ' H' s'/\Vals ys us/\tn i s'.heap/\(∀ b∈fp,H' b = none)/\W i n ys σ' H') (hs2 C) ?_ m0 ?_
  · rintro n s3 ⟨i,ys,σ3,H3,us,k,I3,rv,st3,fr3,w3⟩
    obtain⟨hz,tu⟩:=turn i n ys σ3 H3 w3
    have hps:∀ p∈[((D:Addr),lobj us k)],Nat.le D p.1:=fun p hp=>by
     rcases List.mem_singleton.mp hp with rfl
     exact Nat.le_refl _
    rcases tu with ⟨stop,z⟩ | ⟨go,step⟩
    · refine thn (T.done (cxC X Nc scope C s2 H2 fp) rfl rfl rfl hc i _ s3 σ3 H3 (fun _ _=>False) I3 (stat hps fr3) st3 stop) fun r s4 ⟨hr,I4⟩=>?_
      subst hr
      obtain⟨eD,nD,_,_,_⟩:=I4.pin (D,lobj us k) (List.mem_append_right _ (List.mem_singleton.mpr rfl))
      have eD:s4.heap.get? D = _:=eD
      have nD:H3 D = none:=nD
      have u4:Un (frs X.stack) fp H2 H3 s2.heap s4.heap:=I4.base
      have hH2D:H2 D = none:=I2.hok.fresh (by omega)
      have u5:Un (frs X.stack) fp H2 (upd H3 D (.lst ys)) s2.heap s4.heap:=
       ⟨u4.keep,u4.slot,fun b o e n x=>by rw [upd_ne (belD b o e)];exact u4.free b o e n x,u4.there,fun b xs e=>by rw [upd_ne (ne_of_none e hH2D)];exact u4.tups b xs e,
        fun b o u e=>by rw [upd_ne (ne_of_none e hH2D)];exact u4.frzs b o u e,fun b ps e=>by rw [upd_ne (ne_of_none e hH2D)];exact u4.tbls b ps e⟩
      have hok:HOk X.prog X.w (upd H3 D (.lst ys)) s4.heap:=fun b o e=>by
       by_cases hb:b = D
       · subst hb;rw [upd_same] at e;cases e
         exact⟨hz,us,k,rv,eD⟩
       · rw [upd_ne hb] at e
         exact (I4.hok b o e).stay (fun _ _ _ q=>q) (fun c q=>by rw [upd_ne (ne_of_none q nD)];exact q) fun c xs q=>by rw [upd_ne (ne_of_none q nD)];exact q
      have I5:Inv X pins σ (upd H3 D (.lst ys)) s4:=I2.call' (ch:=fp) I4.os u5 hok I4.bare fun b hb=>let ⟨a0,a1,a2,a3,a4,a5⟩:=f2' b hb;⟨a3,a1,a4,a5⟩
      obtain⟨m,hm,_⟩:=I4.loc
      refine hRR D C s4 H3 ys I5 nD z ⟨m,hm⟩ (I2.fpOk (by omega) ?_)
      rw [upd_ne (Ne.symm hDC)];exact I4.free
    · refine thn (T.item (cxC X Nc scope C s2 H2 fp) rfl rfl rfl hc i _ s3 σ3 H3 (fun _ _=>False) I3 (stat hps fr3) st3 go) fun r s4 ⟨u,hr,h4⟩=>?_
      subst hr
      refine thn h4 fun _ s5 ⟨x,H5,I5,r5,y5,st5,fr5⟩=>?_
      have I5':=I5.pinned (stat hps fr5) (T.obj _ _ st5)
      refine thn (hg C s2 H2 fp _ s5 σ3 H5 x u _ I5' r5 (step x H5 y5)) fun _ s6 ⟨σ6,H6,I6,q6⟩=>?_
      refine thn (ht C s2 H2 fp _ s6 σ6 H6 _ I6 q6) fun ok s7 ⟨H7,I7,q7⟩=>?_
      have tnK:∀ {σ':L2.St}{H':Hp}{s':Shared}{us':List Value}{k':Nat},Inv (cxC X Nc scope C s2 H2 fp) ((D,lobj us' k') :: pinsAt fp s5.heap) σ' H' s'->tn (i + 1) s'.heap/\(∀ b∈fp,H' b = none):=fun {σ' H' s' us' k'} I'=>
       ⟨T.keep _ _ _ st5 fun b hb o e=>(I'.pin (b,o) (List.mem_append_right _ (List.mem_cons_of_mem _ (mem_pinsAt hb e)))).1,fun b hb=>by
        obtain⟨o,e,d⟩:=T.obj _ _ st5 b hb
        exact (I'.pin (b,o) (List.mem_append_right _ (List.mem_cons_of_mem _ (mem_pinsAt hb e)))).2.1⟩
      cases ok with
      | false=>
       have q7:∃ m',m' < n/\W (i + 1) m' ys σ6 H7:=q7
       obtain⟨m',hm,w7⟩:=q7
       obtain⟨k1,k2⟩:=tnK (us':=us) (k':=k) I7
       exact⟨m',hm,i + 1,ys,σ6,H7,us,k,I7.unpinned,rv,k1,k2,w7⟩
      | true=>
       have q7:wi2 σ6 H7 fun J2 H5=>CmpIn J2 g2 tt2 te ys σ6 H5 fun ys' σ5 H6=>∃ m',m' < n/\W (i + 1) m' ys' σ5 H6:=q7
       refine thn (hi2 C s2 H2 fp _ s7 σ6 H7 _ I7 q7) fun v s8 h8=>thn h8 fun itv s9 h9=>?_
       obtain⟨it2,fp2,tn2,J2,H9,e,I9,T2,st9,f9,z9⟩:=h9
       subst e
       have loop2:codeAny (model X.prog X.w) X.A (.compLoop (.ListComp elt [⟨t1,i1,f1,0⟩,⟨t2,i2,f2,0⟩] scope pos) 1 (.ref it2) (.ref D) (compEnvC scope (clOf scope X.env) C X.env)) (fun r s₆=>match r with
        | .ok _=>∃ m,m < n/\∃ i ys σ' H' us k,Inv (cxC X Nc scope C s2 H2 fp) [(D,lobj us k)] σ' H' s₆/\Vals ys us/\tn i s₆.heap/\(∀ b∈fp,H' b = none)/\W i m ys σ' H'
        | .error _=>False) s9:=
        comp_in (Y:=cxC X Nc scope C s2 H2 fp) (pl:=pinsAt fp s5.heap) hc rfl rfl hDC (by show s2.heap.objs.size<=D;omega) (fun x c e=>Nat.ne_of_lt (hclt x c e)) (fun p hp=>hfpN _ (of_pinsAt hp).1)
         T2 (hg2 C s2 H2 fp) (ht2 C s2 H2 fp) (he C s2 H2 fp) I9 rv st9 f9 z9 fun s' σ' H' ys' us' k' I' rv' ⟨m',hm,w'⟩=>by
          obtain⟨k1,k2⟩:=tnK I'
          exact⟨m',hm,i + 1,ys',σ',H',us',k',I'.pins_of (fun p hp=>by
           rcases List.mem_singleton.mp hp with rfl
           exact I'.pin _ (List.mem_append_right _ (List.mem_cons_self ..))),rv',k1,k2,w'⟩
       exact compStart_in loop2 (T2.self _ 0 _ _ _ st9 loop2)
  · obtain⟨k,e⟩:=hacc
    refine⟨0,[],_,H2,[],k,IB.pins_of fun p hp=>?_,.nil,T.keep _ _ _ st2 fun b hb o e=>old b o e,fun b hb=>(f2' b hb).1,w0⟩
    rcases List.mem_singleton.mp hp with rfl
    exact⟨e,I2.hok.fresh (by omega),hDC,hfs D (Nat.le_refl _),fun v z=>by cases z⟩
 exact codeAny_compStart_list (loop _ rfl) (T.self _ 0 _ _ _ (T.keep _ _ _ st2 fun b hb o e=>old b o e) (loop _ rfl))
def tCompT (n:Nat) (wi:TI) (g:TG) (tt:TT) (wi2:TI) (g2:TG) (tt2:TT) (te:TE):TE:=fun σ H Q=>wi σ H fun J H1=>Cmp2 J g tt wi2 g2 tt2 te (List.replicate n none ++ σ) H1 fun ys H'=>∀ p H2,H' p = none->L2.Same H' H2->H2 p = some (.lst ys)->Q (.ref p) H2
theorem ps_setCompT (hc:X.calm = true) (S:CompS X scope) (hs:∀ x,foldedSetIterable i1 X.env x = pure x) (hN:X.N.Nodup) (hy:X.N[i]? = some y) (hl:Loc X.env.scope y) (hf:X.fn y = true\/X.env.scope.names.lookup y = some .local)
 (hsw:swapsWith (.ListComp elt [⟨t1,i1,f1,0⟩,⟨t2,i2,f2,0⟩] scope pos) (some (.Name y py)) spos.line X.env = pure true) (hi:PI X t1 i1 wi)
 (hg:∀ C s H fp,PG (cxC X Nc scope C s H fp) t1 g) (ht:∀ C s H fp,PIfs (cxC X Nc scope C s H fp) f1 tt) (hi2:∀ C s H fp,PI (cxC X Nc scope C s H fp) t2 i2 wi2) (hs2:∀ C x,foldedSetIterable i2 (compEnvC scope (clOf scope X.env) C X.env) x = pure x)
 (hg2:∀ C s H fp,PG (cxC X Nc scope C s H fp) t2 g2) (ht2:∀ C s H fp,PIfs (cxC X Nc scope C s H fp) f2 tt2) (he:∀ C s H fp,PE (cxC X Nc scope C s H fp) elt te):
 PS X (.Assign [.Name y py] (.ListComp elt [⟨t1,i1,f1,0⟩,⟨t2,i2,f2,0⟩] scope pos) spos) (tAsg (tCompT Nc.length wi g tt wi2 g2 tt2 te) (gName i)):=by
 intro pins s σ H D I h
 have hcells:∀ y∈scope.names,y.2 = .free->∃ c,X.env.cells.lookup y.1 = some c:=fun y hy e=>I.ok.has y.1 (S.free y hy e)
 rw [exec_Assign_Name_used _ _ _ _ hsw]
 refine wpAny_bind (wpAny_standAt (wpAny_bind ?_))
 refine wpAny_bind (wpAny_mono (wpAny_comprehension_free (use:=some (assign (.Name y py) X.env)) (Q:=fun _ s'=>SP X pins D .next s') rfl hs (closure_of hcells) S.kind S.names
  (thn (hi pins s σ H _ I h) fun v s1 h1=>thn h1 fun itv s2 h2=>?_)) (fun _ s' hq=>wpAny_pure (wpAny_pure hq)) fun _ _ e=>e)
 obtain⟨it,fp,tn,J,H2,e,I2,T,st2,f2,z⟩:=h2
 subst e
 refine comp_block2 (RR:=fun acc C=>compPost (model X.prog X.w) X.A X.xe (some (assign (.Name y py) X.env)) (fun _ s'=>SP X pins D .next s') acc C) hc S I2 T st2 f2 hg ht hi2 hs2 hg2 ht2 he z fun Dd C s' H3 ys I' hD hz hm hf'=>?_
 obtain⟨m,hm⟩:=hm
 show wpAny _ X.A (assign (.Name y py) X.env (.ref Dd)) _ _ _
 refine wpAny_assign_Name (store_ok2 (v:=.ref Dd) I' hN hy hl rfl (fun s'' I'' ch=>?_) hf)
 obtain⟨a,sb,ha⟩:=ch
 have hCa:C≠a:=by
  rcases ha with rfl | ha
  · exact hf'.2.1
  · exact fun z=>hf'.2.2.2.2.1 _ _ ha z.symm
 refine⟨m,hm.sameBut sb hCa,fun h' sb'=>?_⟩
 exact⟨_,_,I''.turned (t':=s''.toks) (it:=C) (fun b o hb e=>(sb'.2 b hb).trans e) hf'.1 hf'.2.1 hf'.2.2.2.1 hf'.2.2.2.2.1 hf'.2.2.2.2.2,hz Dd _ hD (Br.Same.upd hD) upd_same⟩
end
namespace ZL
theorem entry_li:entryFor table "list_iterator.__next__" = some Builtin.«list_iterator.__next__»:=by rfl
theorem args_li (a:Value):argsOk "list_iterator.__next__" { pos:=[a] }:=by first | rfl | decide +kernel | exact⟨rfl⟩ | (constructor <;> rfl)
theorem slot_li:Slot "list_iterator" (Str.ofString "__next__") "list_iterator.__next__":=Slot.of (by rw [typeLookup_type,builtinLookup_eq_fast];rfl) (by rfl) (by rfl) (by rfl) (.inl (by rfl)) (by rw [isSubtype_type];rfl)
theorem tstep {c d:Addr}{k:Nat}{zs:Array Value}{v:Value}{Q:Value->Shared->Prop} (hI:s.heap.IsListIter c d k) (hT:s.heap.IsList d zs) (hv:zs[k]? = some v)
 (go:∀ g,g.IsListIter c d (k + 1)->Heap.SameBut c s.heap g->Q v { s with heap:=g }):wpAny (model prog w) A (Builtin.«list_iterator.__next__» ⟨[.ref c],[]⟩) (fun fin s'=>∃ u,fin = .done (.ret u)/\Q u s') E s:=by
 have hI':=hI
 obtain⟨oc,q1,q2,q3⟩:=hI'
 have hT':=hT
 obtain⟨od,p1,_,nd,p3⟩:=hT'
 have at_:zs[((k:Nat):Int).toNat]? = some v:=by simpa using hv
 wp_walk using wpAny_field q1 q3 (x:=.ref d) rfl,wpAny_field q1 q3 (x:=.int k 0) rfl,wpAny_seqItems p1 p3
 rw [at_]
 refine wpAny_bind (tsetAt q1 q3 (by simp) fun g o' a1 a2 a3 sb=>?_)
 wp_walk
 exact⟨_,rfl,go g ⟨o',a1,a2.trans q2,by rw [a3];simp [rawInt]⟩ sb⟩
theorem tstop {c d:Addr}{k:Nat}{zs:Array Value}{Q:PySem.Fin->Shared->Prop} (hh:A.handled = none) (hI:s.heap.IsListIter c d k) (hT:s.heap.IsList d zs) (hv:zs[k]? = none)
 (go:∀ g e,Heap.ExtBut c s.heap g->(∃ o,g.get? e = some o/\o.cls = .type "StopIteration")->E (.ref e) { s with heap:=g }):wpAny (model prog w) A (Builtin.«list_iterator.__next__» ⟨[.ref c],[]⟩) Q E s:=by
 have hI':=hI
 obtain⟨oc,q1,q2,q3⟩:=hI'
 have hT':=hT
 obtain⟨od,p1,_,nd,p3⟩:=hT'
 have at_:zs[((k:Nat):Int).toNat]? = none:=by simpa using hv
 wp_walk using wpAny_field q1 q3 (x:=.ref d) rfl,wpAny_field q1 q3 (x:=.int k 0) rfl,wpAny_seqItems p1 p3
 rw [at_]
 refine wpAny_bind (wpAny_rule (wpAny_bind (tsetAt q1 q3 (by simp) fun g o' a1 a2 a3 sb=>?_)))
 wp_walk
 unfold raiseNew
 wp_walk using wpAny_handled
 rw [hh]
 wp_walk
 exact go _ _ ((sb.extBut.push _).push _) ⟨_,Heap.get?_push_size _ rfl,rfl⟩
theorem tnext {c d:Addr}{k:Nat}{zs:Array Value}{v:Value}{Q:Value->Shared->Prop} (hI:s.heap.IsListIter c d k) (hT:s.heap.IsList d zs) (hv:zs[k]? = some v)
 (go:∀ g,g.IsListIter c d (k + 1)->Heap.SameBut c s.heap g->Q v { s with heap:=g }):wpAny (model prog w) A (Builtin.SmallTypes.nextOf (.ref c)) Q E s:=by
 have sl:=slot_li
 unfold Builtin.SmallTypes.nextOf
 refine wpAny_bind (wpAny_callSpecial?_slot (name:=Str.ofString "__next__") hI.typeIs sl (wpAny_call_entry sl hI.typeIs entry_li ?_ (args_li _)))
 exact wpAny_mono (tstep (Q:=fun u s'=>u = v/\Q v s') hI hT hv fun g a b=>⟨rfl,go g a b⟩) (fun fin s' ⟨u,e,e2,q⟩=>⟨u,e,wpAny_pure (e2▸q)⟩) fun _ _ z=>z
theorem tnone {c d:Addr}{k:Nat}{zs:Array Value}{Q:Value->Shared->Prop} (hh:A.handled = none) (hI:s.heap.IsListIter c d k) (hT:s.heap.IsList d zs) (hv:zs[k]? = none)
 (go:∀ g e,Heap.ExtBut c s.heap g->(∃ o,g.get? e = some o/\o.cls = .type "StopIteration")->E (.ref e) { s with heap:=g }):wpAny (model prog w) A (Builtin.SmallTypes.nextOf (.ref c)) Q E s:=by
 have sl:=slot_li
 unfold Builtin.SmallTypes.nextOf
 refine wpAny_bind (wpAny_callSpecial?_slot (name:=Str.ofString "__next__") hI.typeIs sl (wpAny_call_entry sl hI.typeIs entry_li ?_ (args_li _)))
 exact tstop hh hI hT hv go
structure Zp (h:Heap) (z u o c1 c2 d e:Addr) (xs ys:Array Value) (k:Nat):Prop where
 zip:IsZip h z u o .none
 its:IsPair h u (.ref c1) (.ref c2)
 own:∃ a b,IsPair h o a b
 i1:h.IsListIter c1 d k
 i2:h.IsListIter c2 e k
 t1:h.IsList d xs
 t2:h.IsList e ys
structure Ap (z u o c1 c2 d e:Addr):Prop where
 ne:[z,u,o,c1,c2].Nodup
 nd:∀ b∈[z,u,o,c1,c2],d≠b/\e≠b
theorem sqL_apart {X:Cx}{pins:List (Addr×Obj)}{σ:L2.St}{H:Hp}{s:Shared}{d b:Addr}{xs:List V} (I:Inv X pins σ H s) (h:SqL X.K H d xs) (f:FpOk X pins H b):d≠b:=fun z=>by
 subst z
 rcases h with h | ⟨o,its,n,hk,_⟩
 · rcases h with h | ⟨o,h⟩
   · rw [f.1] at h;cases h
   · rw [f.1] at h;cases h
 · have e:=I.ok.mod.kin d o hk
   rcases f.2.2.2.1 with z | z
   · exact I.ok.noex d o e z
   · exact absurd (Nat.lt_of_lt_of_le (Heap.lt_size e) (Nat.le_trans I.ok.bsz z)) (Nat.lt_irrefl _)
end ZL
def rDNotIn:R2:=fun y x H Q=>∃ a o,x = .ref a/\DGet H a y o/\Q (.bl (!o.isSome)) H
theorem c_dnotin (hr:Room k X.A):JCop X .NotIn rDNotIn:=⟨fun pins s σ H x y v u Q I rx ry h=>by
 obtain⟨a,o,rfl,g,q⟩:=h
 obtain rfl:u = Value.ref a:=ry
 exact d_notIn (by have:=hr.un;omega) I g rx fun s3 I3=>⟨.bl _,H,I3,rfl,q⟩⟩
def tDNewTS:TE:=fun _ H Q=>∀ p H2,H p = none->L2.Same H H2->H2 p = some (.dT [])->Q (.ref p) H2
theorem j_dictT:JE X (.Dict [] [] pos) tDNewTS:=⟨fun pins s σ H Q I q=>pe_dnewT pins s σ H Q I fun p hp=>q p _ hp (Br.Same.upd hp) upd_same⟩
theorem tl_keys:typeLookup (.type "tuple") (Str.ofString "keys") = pure none:=by rw [typeLookup_type,builtinLookup_eq_fast];rfl
theorem ti_ga {s:Shared}:s.TypeIs (.builtin "tuple.__getattribute__") "wrapper_descriptor":=by rfl
theorem noKeys {prog:Program}{w:World}{A:Around}{E:Value->Shared->Prop}{s:Shared}{t:Addr}{xs:Array Value}{n:Nat}{Q:Option Value->Shared->Prop} (hh:A.handled = none) (ho:s.heap.get? t = some { cls:=.type "tuple",data:=.seq xs n })
 (go:∀ h' tk,(∀ b o,s.heap.get? b = some o->h'.get? b = some o)->Q none { s with heap:=h',toks:=tk }):wpAny (model prog w) A (getAttr? (.ref t) (Str.ofString "keys")) Q E s:=by
 obtain⟨hp,g,dr,tk,os⟩:=s
 have ho:hp.get? t = some { cls:=.type "tuple",data:=.seq xs n }:=ho
 unfold getAttr?
 refine wpAny_bind (wpAny_mkText ?_)
 unfold getAttrBy?
 refine wpAny_bind (wpAny_attempt ?_)
 unfold getAttrBy
 refine wpAny_holding ?_
 refine wpAny_bind (wpAny_typeOf (T:="tuple") ⟨_,ho,rfl⟩ ?_)
 rw [F.slot_tuple_getattribute.lookup]
 refine wpAny_bind (wpAny_pure ?_)
 show wpAny _ _ (if _ then _ else _) _ _ _
 rw [if_neg (by decide)]
 unfold getAttrByItsOwn
 wp_walk
 unfold bindSpecial
 refine wpAny_bind (wpAny_typeOf (T:="wrapper_descriptor") ti_ga ?_)
 show wpAny _ _ (if _ then _ else _) _ _ _
 rw [if_pos (by decide)]
 refine wpAny_pure ?_
 show wpAny _ _ (call (.builtin "tuple.__getattribute__") [.ref t,_]) _ _ _
 refine wpAny_call_entry F.slot_tuple_getattribute ⟨_,ho,rfl⟩ am_entry_tuple_getattribute ?_ (F.args_tuple_getattribute_2 _ _)
 show wpAny _ _ (Builtin.ObjectAttr.attrName _ >>= _) _ _ _
 refine wpAny_bind ?_
 wp_walk
 rw [tl_keys]
 wp_walk
 refine wpAny_raiseAttrError (A:=A.in1) hh fun h' tk' e ne=>?_
 have hT:∃ ob,h'.get? e = some ob/\ob.cls = .type "AttributeError":=let ⟨_,_,a⟩:=ne.there;⟨_,a,rfl⟩
 show wpAny _ _ (getattributeRaised _ _ _ _ _ _ _) _ _ _
 unfold getattributeRaised
 refine wpAny_bind (wpAny_isInstance (T:="AttributeError") (b:=true) hT (by rw [isSubtype_type];rfl) ?_)
 rw [if_pos rfl]
 unfold hookBehind
 rw [if_neg (by decide),F.plainAttrs_tuple.noGetattr]
 refine wpAny_bind (wpAny_pure ?_)
 unfold hookOrError
 unfold attributeErrorLeaves
 show wpAny _ _ (if (!false) = true then throw _ >>= _ else _) _ _ _
 rw [if_pos (show (!false) = true from rfl)]
 refine wpAny_bind (wpAny_throw ?_)
 refine wpAny_bind (wpAny_isInstance (T:="AttributeError") (b:=true) hT (by rw [isSubtype_type];rfl) ?_)
 rw [if_pos rfl]
 exact wpAny_pure (go h' tk' ne.keeps)
theorem entry_dul:entryFor table "dict.update.loop" = some Builtin.«dict.update.loop»:=by rfl
theorem plain_dul:plainId "dict.update.loop" = true:=by decide +kernel
structure Prs (h:Heap) (t:Addr) (ps:List (Addr×Value×Key×Value)):Prop where
 tup:h.IsTuple t (ps.map fun p=>Value.ref p.1).toArray
 each:∀ p∈ps,h.IsTuple p.1 #[p.2.1,p.2.2.2]
theorem Prs.stay (P:Prs h t ps) (ntd:t≠d) (ntc:t≠c) (hpn:∀ p∈ps,p.1≠d/\p.1≠c) (k:∀ b o,b≠d->b≠c->h.get? b = some o->h'.get? b = some o):Prs h' t ps:=
 ⟨let ⟨o,a,b⟩:=P.tup;⟨o,k _ _ ntd ntc a,b⟩,fun p hp=>let ⟨o,a,b⟩:=P.each p hp;⟨o,k _ _ (hpn p hp).1 (hpn p hp).2 a,b⟩⟩
theorem dulGo (hh:A.handled = none) (ndc:d≠c) (ntd:t≠d) (ntc:t≠c) (hpn:∀ p∈ps,p.1≠d/\p.1≠c) (hk:∀ p∈ps,(mixKind prog w).is p.2.2.1 p.2.1 = true) (result:Value):
 ∀ (m i:Nat) (s:Shared) (vs:List (Key×Value)),ps.length - i = m->i<=ps.length->s.heap.IsTupleIter c t i->Prs s.heap t ps->s.heap.DictOf (mixKind prog w) d vs->vs.length + (ps.length - i)<=sizeLine->
 (∀ h' tk,h'.DictOf (mixKind prog w) d ((ps.drop i).foldl (fun a p=>stored a p.2.2.1 p.2.2.2) vs)->(∀ b o,b≠d->b≠c->s.heap.get? b = some o->h'.get? b = some o)->R (.ok (.ret result)) { s with heap:=h',toks:=tk })->
 codeAny (model prog w) A (.builtin "dict.update.loop" ⟨[.ref d,.ref c,rawInt i,result],[]⟩) R s:=by
 intro m
 induction m with
 | zero=>
  intro i s vs hm hi st P D hl go
  have e:i = ps.length:=by omega
  subst e
  refine codeAny_builtin entry_dul ?_
  rw [Around.under_plainId plain_dul _]
  show wpAny _ A.in1 (pyNext (.ref c) >>= _) _ _ s
  refine wpAny_bind (wpAny_pyNext_tuple_end (A:=A.in1) hh st P.tup (by simp) fun h' eb=>?_)
  show wpAny _ _ (Builtin.Dict.addKeywords d [] >>= _) _ _ _
  refine wpAny_bind (wpAny_pure (a:=()) (wpAny_pure ?_))
  have k:∀ b o,b≠d->b≠c->s.heap.get? b = some o->h'.get? b = some o:=fun b o _ hb q=>eb b o hb q
  refine go h' _ ?_ k
  rw [List.drop_length]
  obtain⟨o,es,ep,q,r⟩:=D
  exact⟨o,es,ep,eb _ _ ndc q,r⟩
 | succ m ih=>
  intro i s vs hm hi st P D hl go
  have hlt:i < ps.length:=by omega
  obtain⟨p,hp⟩:∃ p,ps[i]? = some p:=⟨_,List.getElem?_eq_getElem hlt⟩
  have hpm:=List.mem_of_getElem? hp
  refine codeAny_builtin entry_dul ?_
  rw [Around.under_plainId plain_dul _]
  show wpAny _ A.in1 (pyNext (.ref c) >>= _) _ _ s
  refine wpAny_bind (wpAny_pyNext_tuple_item st P.tup (x:=.ref p.1) (by simp [hp]) fun h1 st1 sb1=>?_)
  have k1:∀ b o,b≠d->b≠c->s.heap.get? b = some o->h1.get? b = some o:=fun b o _ hb q=>(sb1.2 b hb).trans q
  have P1:=P.stay ntd ntc hpn k1
  have D1:h1.DictOf (mixKind prog w) d vs:=let ⟨o,es,ep,q,r⟩:=D;⟨o,es,ep,(sb1.2 d ndc).trans q,r⟩
  obtain⟨op,hop,hcp,np,hdp⟩:=P1.each p hpm
  refine wpAny_bind (wpAny_holding (wpAny_bind (wpAny_tryCatch ?_)))
  unfold Builtin.Dict.pairItems
  refine wpAny_bind (wpAny_typeOf (T:="tuple") ⟨op,hop,hcp⟩ ?_)
  show wpAny _ _ (if _ then _ else _) _ _ _
  rw [if_pos (by decide)]
  refine wpAny_bind (wpAny_seqItems hop hdp (wpAny_pure ?_))
  show wpAny _ _ (holding [p.2.1,p.2.2.2] (dictSet d p.2.1 p.2.2.2)) _ _ _
  refine wpAny_holding (wpAny_dictSet_pairs (knd:=mixKind prog w) (k:=p.2.2.1) (hk p hpm) D1 (fun h2 D2 sb2=>?_) (by omega))
  have k2:∀ b o,b≠d->b≠c->s.heap.get? b = some o->h2.get? b = some o:=fun b o hd hc q=>(sb2.2 b hd).trans (k1 b o hd hc q)
  have ei:((i:Int) + 1) = ((i + 1:Nat):Int):=by omega
  show wpAny _ _ (again (.builtin "dict.update.loop" ⟨[.ref d,.ref c,rawInt ((i:Int) + 1),result],[]⟩)) _ _ _
  rw [ei]
  have hsl:(stored vs p.2.2.1 p.2.2.2).length<=vs.length + 1:=by
   unfold stored;split
   · rw [List.length_map];omega
   · rw [List.length_append];simp
  refine wpAny_pure ⟨plainId_quiet plain_dul _,ih (i + 1) _ _ (by omega) (by omega) ?_ (P.stay ntd ntc hpn k2) D2 (by omega) fun h' tk D' k'=>?_⟩
  · obtain⟨o,q,r⟩:=st1
    exact⟨o,(sb2.2 c (Ne.symm ndc)).trans q,r⟩
  · refine go h' tk ?_ fun b o hd hc q=>k' b o hd hc (k2 b o hd hc q)
    have:ps.drop i = p :: ps.drop (i + 1):=by
     rw [List.drop_eq_getElem_cons hlt]
     congr 1
     exact Option.some.inj ((List.getElem?_eq_getElem hlt).symm.trans hp)
    rw [this,List.foldl_cons]
    exact D'
theorem dict_of (hh:A.handled = none) (ho:s.heap.get? t = some { cls:=.type "tuple",data:=.seq (ps.map fun p=>Value.ref p.1).toArray n }) (P:Prs s.heap t ps)
 (hk:∀ p∈ps,(mixKind prog w).is p.2.2.1 p.2.1 = true) (hl:ps.length<=sizeLine)
 (go:∀ h' tk,h'.DictOf (mixKind prog w) s.heap.objs.size (ps.foldl (fun a p=>stored a p.2.2.1 p.2.2.2) [])->(∀ b o,s.heap.get? b = some o->h'.get? b = some o)->Q (.ref s.heap.objs.size) { s with heap:=h',toks:=tk }):
 wpAny (model prog w) A (call (.type "dict") [.ref t]) Q E s:=by
 refine callType_codes F.kt_called_dict (F.kt_typeCall_dict_1 _) F.entry_dict_init (kt_code_dict_new (.ref t) (Q₁:=fun obj s1=>obj = .ref s.heap.objs.size/\s1 = { s with heap:=s.heap.push { cls:=.type "dict",data:=.dict #[] } }) ⟨rfl,rfl⟩) fun obj s1 e=>?_
 obtain⟨rfl,rfl⟩:=e
 have hd0:(s.heap.push { cls:=.type "dict",data:=.dict #[] }).get? s.heap.objs.size = some _:=Heap.get?_push_size _ rfl
 refine⟨⟨_,hd0,rfl⟩,F.args_dict_init_2 _ _,?_⟩
 have k0:∀ b o,s.heap.get? b = some o->(s.heap.push { cls:=.type "dict",data:=.dict #[] }).get? b = some o:=fun b o q=>Heap.get?_push_of_some _ q
 show wpAny _ _ (Builtin.Dict.selfAndRest "__init__" _ >>= _) _ _ _
 unfold Builtin.Dict.selfAndRest
 refine wpAny_bind (wpAny_bind ?_)
 unfold Builtin.Dict.notOrdered
 rw [if_pos (by decide)]
 refine wpAny_bind (wpAny_typeOf (T:="dict") ⟨_,hd0,rfl⟩ ?_)
 rw [if_neg (by decide)]
 refine wpAny_pure ?_
 show wpAny _ _ (Builtin.Dict.addrOf (.ref s.heap.objs.size) >>= _) _ _ _
 refine wpAny_bind (wpAny_pure (wpAny_pure ?_))
 show wpAny _ _ (Builtin.Dict.updateFrom "dict.__init__" s.heap.objs.size (.ref t) [] .none) _ _ _
 unfold Builtin.Dict.updateFrom
 refine wpAny_bind (wpAny_typeOf (T:="tuple") ⟨_,k0 _ _ ho,rfl⟩ ?_)
 rw [if_pos (by decide)]
 refine wpAny_bind (noKeys hh (k0 _ _ ho) fun h1 tk1 k1=>?_)
 rw [if_pos (show (none:Option Value).isNone = true from rfl)]
 have hit:h1.IsTuple t (ps.map fun p=>Value.ref p.1).toArray:=⟨_,k1 _ _ (k0 _ _ ho),rfl,n,rfl⟩
 refine wpAny_bind (wpAny_rule (wpAny_bind (wpAny_pyIter_tuple hit ?_)))
 have lt0:s.heap.objs.size < h1.objs.size:=Heap.lt_size (k1 _ _ hd0)
 have ht:t < s.heap.objs.size:=Heap.lt_size ho
 have hpa:∀ p∈ps,p.1 < s.heap.objs.size:=fun p hp=>let ⟨o,q,_⟩:=P.each p hp;Heap.lt_size q
 have kk:∀ b o,s.heap.get? b = some o->(h1.push { cls:=.type "tuple_iterator",data:=.fields #[.ref t,.int 0 0] }).get? b = some o:=fun b o q=>Heap.get?_push_of_some _ (k1 _ _ (k0 _ _ q))
 refine wpAny_pure ⟨plainId_quiet plain_dul _,dulGo (A:=A.in1) (c:=h1.objs.size) (t:=t) (ps:=ps) (show A.in1.handled = none from hh) (Nat.ne_of_lt lt0) (Nat.ne_of_lt ht) (Nat.ne_of_lt (Nat.lt_trans ht lt0)) (fun p hp=>⟨Nat.ne_of_lt (hpa p hp),Nat.ne_of_lt (Nat.lt_trans (hpa p hp) lt0)⟩) hk .none ps.length 0 _ [] (by omega) (by omega)
  ⟨_,Heap.get?_push_size _ rfl,rfl,rfl⟩ ⟨let ⟨o,a,b⟩:=P.tup;⟨o,kk _ _ a,b⟩,fun p hp=>let ⟨o,a,b⟩:=P.each p hp;⟨o,kk _ _ a,b⟩⟩ ?_ (by simpa using hl) fun h' tk D' k'=>⟨rfl,go h' tk D' fun b o q=>k' b o (Nat.ne_of_lt (Heap.lt_size q)) (Nat.ne_of_lt (Nat.lt_trans (Heap.lt_size q) lt0)) (kk b o q)⟩⟩
 obtain⟨o,es,ep,q,r⟩:=Heap.DictOf.new (knd:=mixKind prog w) s.heap
 exact⟨o,es,ep,Heap.get?_push_of_some _ (k1 _ _ q),r⟩
def bareT (o:Obj):Prop:=∃ its n,o = { cls:=.type "tuple",data:=.seq its n }
def tTupF (t:TA):TE:=fun σ H Q=>t σ H fun xs H1=>xs.length<=sizeLine/\∀ p o H2,H1 p = none->bareT o->L2.Same H1 H2->H2 p = some (.frz o (.tup xs))->Q (.ref p) H2
section
variable {σ:L2.St}
def PairsF (H:Hp) (t:Addr) (kvs:List (Key×V)):Prop:=∃ (o:Obj) (as:List Addr),bareT o/\H t = some (.frz o (.tup (as.map V.ref)))/\as.length = kvs.length/\kvs.length<=1000/\∀ (i:Nat) a kv,as[i]? = some a->kvs[i]? = some kv->Rd H a (.tup [kV kv.1,kv.2])
def rDictP:List V->Hp->VK->Prop:=fun xs H Q=>∃ t kvs,xs = [.ref t]/\PairsF H t kvs/\∀ p H2,H p = none->L2.Same H H2->H2 p = some (.dK (mergeK [] kvs))->Q (.ref p) H2
theorem raw_pairs (I:Inv X pins σ H s):∀ (as:List Addr) (kvs:List (Key×V)),as.length = kvs.length->(∀ (i:Nat) a kv,as[i]? = some a->kvs[i]? = some kv->Rd H a (.tup [kV kv.1,kv.2]))->
 ∃ ps:List (Addr×Value×Key×Value),ps.map (fun p=>Value.ref p.1) = as.map Value.ref/\(∀ p∈ps,s.heap.IsTuple p.1 #[p.2.1,p.2.2.2])/\(∀ p∈ps,(mixKind X.prog X.w).is p.2.2.1 p.2.1 = true)/\KV kvs (ps.map fun p=>(p.2.2.1,p.2.2.2))
 | [],[],_,_=>⟨[],rfl,fun p hp=>(nomatch hp),fun p hp=>(nomatch hp),.nil⟩
 | a :: as,kv :: kvs,hl,h=>by
  obtain⟨ps,e1,e2,e3,e4⟩:=raw_pairs I as kvs (by simpa using hl) fun i a kv q1 q2=>h (i + 1) a kv (by simpa using q1) (by simpa using q2)
  have ha:=h 0 a kv rfl rfl
  obtain⟨its,rv,p,_⟩:=I.tuple (show SqT X.K H a _ from .inl ha)
  cases rv with
  | @cons _ ku _ _ rk rr=>
   cases rr with
   | @cons _ vu _ _ rv rr=>
    cases rr
    refine⟨(a,ku,kv.1,vu) :: ps,by grind,fun q hq=>?_,fun q hq=>?_,?_⟩
    · rcases List.mem_cons.mp hq with rfl | hq
      · exact p
      · exact e2 q hq
    · rcases List.mem_cons.mp hq with rfl | hq
      · exact kV_is rk
      · exact e3 q hq
    · exact .cons ⟨rfl,rv⟩ e4
theorem fold_merge:∀ (ps:List (Addr×Value×Key×Value)) (vs:List (Key×Value)),ps.foldl (fun a p=>stored a p.2.2.1 p.2.2.2) vs = merged vs (ps.map fun p=>(p.2.2.1,p.2.2.2))
 | [],vs=>rfl
 | p :: ps,vs=>by rw [List.foldl_cons,fold_merge ps];rfl
theorem call_dictP (hc:X.calm = true):CallR X (.type "dict") rDictP:=fun pins s σ H xs us Q I r h=>by
 obtain⟨t,kvs,rfl,⟨o,as,⟨its,n,rfl⟩,ht,hl,hk,hp⟩,q⟩:=h
 obtain⟨u,rfl,rx⟩:=vals1 r
 cases rx
 obtain⟨ps,e1,e2,e3,e4⟩:=raw_pairs I as kvs hl hp
 have hsz:=sizeLine_eq
 obtain⟨g0,hz,its',rv,pt⟩:=(I.hok t _ ht)
 have hits:its = its'.toArray:=by
  obtain⟨o2,h1,_,n2,h3⟩:=pt
  rw [g0] at h1;cases h1
  injection h3 with h3
 have hvr:its' = as.map Value.ref:=by
  have go:∀ (as:List Addr) (l:List Value),Vals (as.map V.ref) l->l = as.map Value.ref:=by
   intro as
   induction as with
   | nil=>intro l r;cases r;rfl
   | cons a as ih=>
    intro l r
    cases r with
    | cons h t=>rw [ih _ t,List.map_cons];cases h;rfl
  exact go as its' rv
 have hpl:ps.length = kvs.length:=by have:=congrArg List.length e1;rw [List.length_map,List.length_map] at this;omega
 have g1:s.heap.get? t = some { cls:=.type "tuple",data:=.seq (ps.map fun p=>Value.ref p.1).toArray n }:=by rw [e1,<- hvr,<- hits];exact g0
 refine dict_of (I.ok.hd hc) g1 ⟨⟨_,g1,rfl,_,rfl⟩,e2⟩ e3 (by omega) fun h' tk D k=>?_
 rw [fold_merge] at D
 have lm:=length_mergeK kvs []
 rw [List.length_nil] at lm
 exact⟨.ref s.heap.objs.size,_,I.laid (a:=s.heap.objs.size) (o:=.dK (mergeK [] kvs)) (t':=tk) k (Nat.le_refl _) (dk_new (by omega) (beq_eq_false_iff_ne.mpr (Ne.symm (Nat.ne_of_lt I.big))) (e4.merge .nil) D),rfl,q _ _ (I.hok.fresh (Nat.le_refl _)) (Br.Same.upd (I.hok.fresh (Nat.le_refl _))) upd_same⟩
theorem boot_dict':bootBuiltins "dict" = some (.type "dict"):=by rfl
end
theorem j_tupF (h:JA X es t):JE X (.Tuple es k pos) (tTupF t):=⟨fun pins s σ H Q I q=>wpAny_Tuple_spliced (thn (h.h pos pins s σ H _ I q) fun us s1 ⟨xs,H1,I1,r,z,q⟩=>⟨by rw [<- r.length];omega,by
 have hf:=I1.hok.fresh (Nat.le_refl _)
 refine⟨.ref s1.heap.objs.size,upd H1 s1.heap.objs.size (.frz { cls:=.type "tuple",data:=.seq us.toArray 0 } _),I1.laid (fun b u e=>Heap.get?_push_of_some _ e) (Nat.le_refl _) ?_,rfl,q _ _ _ hf ⟨_,_,rfl⟩ (Br.Same.upd hf) upd_same⟩
 exact⟨Heap.get?_push_size _ rfl,z,us,r,⟨_,Heap.get?_push_size _ rfl,rfl,_,rfl⟩⟩⟩)⟩
theorem j_dictP (hg:Gl X x) (he:starEach (e :: es) X.env = (false,eval e X.env) :: starEach es X.env) (hpl:(backTo pos (starEach es X.env)).any (·.1) = false) (hx:x = "dict") (hc:X.calm = true) (hm:X.mg x = none) (ha:JA X (e :: es) t):
 JE X (.Call (.Name x p) (e :: es) [] pos) (tCB rDictP t):=⟨by subst hx;exact pe_callTy (call_dictP hc) hg hm boot_dict' ha.h (by decide) (by decide) he hpl⟩
theorem kvGet (r:KV kvs vs):∀ {i:Nat}{kv:Key×V},kvs[i]? = some kv->∃ v,vs[i]? = some (kv.1,v)/\RelV kv.2 v:=by
 induction r with
 | nil=>intro i kv h;simp_all
 | @cons p q ps qs h t ih=>
  intro i kv e
  cases i with
  | zero=>
   simp at e;subst e
   obtain⟨q1,q2⟩:=q
   simp_all
  | succ i=>
   simp_all
structure M0 (X:Cx) (o:Expr) (m:Str) (apos:Pos) (cpos:Pos):Prop where
 base:attributeBase o m X.env (eval o X.env) = eval o X.env
 few:((backTo cpos (starEach [] X.env)).all (fun x=>!x.1) && (backToKw cpos (keywordEach [] X.env)).all (fun x=>x.1.isSome)
  && decide (([]:List Expr).length + ([]:List Keyword).length + (if ([]:List Keyword).isEmpty then 0 else 1) < 30)) = true
 line:(apos.endLine == cpos.line) = true
 trees:backTo cpos (starEach [] X.env) = []
theorem j_dget2 {X:Cx}{o e f:Expr}{td ty tx:TE}{apos cpos:Pos}{k:Nat} (hr:Room k X.A) (h1:attributeBase o "get" X.env (eval o X.env) = eval o X.env)
 (h2:((backTo cpos (starEach [e,f] X.env)).all (fun x=>!x.1) && (backToKw cpos (keywordEach [] X.env)).all (fun x=>x.1.isSome)
  && decide (([e,f]:List Expr).length + ([]:List Keyword).length + (if ([]:List Keyword).isEmpty then 0 else 1) < 30)) = true) (h3:(apos.endLine == cpos.line) = true) (h4:backTo cpos (starEach [e,f] X.env) = [(false,eval e X.env),(false,eval f X.env)])
 (ho:JE X o td) (he:JE X e ty) (hf:JE X f tx):JE X (.Call (.Attribute o "get" apos) [e,f] [] cpos) (tDGet2 td ty tx):=⟨pe_dget2 (by have:=hr.un;omega) ho.h he.h hf.h ⟨h1,h2,h3,h4⟩⟩
namespace ZM
structure Zp (h:Heap) (z u o c1 c2 d e:Addr) (xs ys:Array Value) (k:Nat):Prop where
 zip:IsZip h z u o .none
 its:IsPair h u (.ref c1) (.ref c2)
 own:∃ a b,IsPair h o a b
 i1:h.IsListIter c1 d k
 i2:h.IsTupleIter c2 e k
 t1:h.IsList d xs
 t2:h.IsTuple e ys
structure Ap (z u o c1 c2 d e:Addr):Prop where
 ne:[z,u,o,c1,c2].Nodup
 nd:∀ b∈[z,u,o,c1,c2],d≠b/\e≠b
end ZM
theorem maxCall2
 (h:wpAny (model prog w) A.in1 (pyIter (.ref s.heap.objs.size)) (fun it s2=>∃ I fp wr n T St bt Ok,it = .ref I/\Walks prog w A.in1 I fp wr n T St/\St 0 s2.heap/\Ok (s2.heap.push { cls:=.type "list",data:=.seq #[] })/\(∀ b∈fp,b < s2.heap.objs.size)/\0 < n/\Cg prog w A.in1 T bt Ok (s2.heap.objs.size :: wr)/\
  ∀ v h' tk,T (argBest bt (n - 1)) v->(∀ b o,b∉wr->s2.heap.get? b = some o->h'.get? b = some o)->Q v { s2 with heap:=h',toks:=tk }) E { s with heap:=s.heap.push { cls:=.type "tuple",data:=.seq #[x,y] } }):wpAny (model prog w) A (call (.builtin "max") [x,y]) Q E s:=by
 have nam:(toString "max" ++ toString ".loop" : String) = "max.loop":=by decide
 refine call_function_tree F.kind_max F.plain_max F.entry_max (F.args_max2 _ _) ?_
 show wpAny _ A.in1 (Builtin.Builtins.bindParams "max" ["key","default"] 0 ⟨[],[]⟩ >>= _) _ _ s
 show wpAny _ A.in1 (newTuple [x,y] >>= _) _ _ s
 refine wpAny_bind (wpAny_newObj_type (wpAny_bind (wpAny_mono h (fun it s2 h2=>?_) fun _ _ e=>e)))
 obtain⟨I,fp,wr,n,T,St,bt,Ok,rfl,W,st,ok,hfp,hn,C,go⟩:=h2
 refine wpAny_bind (wpAny_newObj_type ?_)
 have nS:s2.heap.objs.size∉fp:=fun hm=>Nat.lt_irrefl _ (hfp _ hm)
 rw [nam]
 refine wpAny_pure ⟨plainId_quiet F.plain_max_loop _,maxStart W C nS hn (W.frame 0 _ _ st fun b _ o e=>Heap.get?_push_of_some _ e) ok (Heap.get?_push_size _ rfl) fun v h' tk hv k=>?_⟩
 exact go v h' tk hv fun b o hb e=>k b o (fun z=>(List.mem_cons.mp z).elim (fun z=>absurd (Heap.lt_size e) (by rw [z];exact Nat.lt_irrefl _)) hb) (Heap.get?_push_of_some _ e)
def rMax2T (K:PySem.W.Frag):List V->Hp->VK->Prop:=fun xs H Q=>∃ (a b:Addr) (ns ms:List Int),xs = [.ref a,.ref b]/\SqT K H a (ns.map V.int)/\SqT K H b (ms.map V.int)/\Q (.ref (if HT.lexLt ns ms = true then b else a)) H
theorem call_max2T (hr:Room k X.A) (hc:X.calm = true):CallR X (.builtin "max") (rMax2T X.K):=by
 intro pins s σ H xs us Q I r h
 obtain⟨a,b,ns,ms,rfl,ha,hb,q⟩:=h
 obtain⟨u,w',rfl,ru,rw'⟩:=vals2 r
 cases ru
 cases rw'
 have ht:∀ (i:Nat) (c:Addr) (ls:List Int),[a,b][i]? = some c->[ns,ms][i]? = some ls->SqT X.K H c (ls.map V.int):=fun i c ls h1 h2=>by
  match i,h1,h2 with
  | 0,h1,h2=>cases h1;cases h2;exact ha
  | 1,h1,h2=>cases h1;cases h2;exact hb
 have r':Vals ([a,b].map V.ref) [Value.ref a,Value.ref b]:=r
 have hu:X.A.in1.units < cLine:=by have:=hr.un;show X.A.units + _ < _;omega
 have hT:(s.heap.push { cls:=.type "tuple",data:=.seq #[.ref a,.ref b] }).IsTuple s.heap.objs.size #[.ref a,.ref b]:=⟨_,Heap.get?_push_size _ rfl,rfl,0,rfl⟩
 have hsz:(s.heap.push { cls:=.type "tuple",data:=.seq #[.ref a,.ref b] }).objs.size = s.heap.objs.size + 1:=Heap.size_push ..
 refine maxCall2 (wpAny_pyIter_tuple hT ⟨_,[_,s.heap.objs.size],[_],_,_,_,lexG [ns,ms],fun h=>∀ (i:Nat) (c:Addr) (ls:List Int),[a,b][i]? = some c->[ns,ms][i]? = some ls->∃ ts,IsTup h c ts/\IntsAre ts.toList ls/\c < s.heap.objs.size,rfl,
  Walks.tuple (A:=X.A.in1) (I.ok.hd hc) _ s.heap.objs.size (by rw [hsz];exact Nat.ne_of_lt (Nat.lt_succ_self _)) #[.ref a,.ref b],⟨⟨_,Heap.get?_push_size _ rfl,rfl,rfl⟩,hT.push _⟩,fun i c ls e1 e2=>?_,fun c hc=>?_,by simp,⟨fun h h' ok k i c ls e1 e2=>?_,fun i j vi vj s' Q' E' ok e1 e2 hQ=>?_⟩,fun v h' tk e kp=>?_⟩)
 · obtain⟨ts,rv,pt,_⟩:=I.tuple (ht i c ls e1 e2)
   obtain⟨o,ho,hcl,hd⟩:=pt
   exact⟨ts.toArray,⟨o,Heap.get?_push_of_some _ (Heap.get?_push_of_some _ (Heap.get?_push_of_some _ ho)),hcl,hd⟩,intsAre_of rv,Heap.lt_size ho⟩
 · show c < ((s.heap.push _).push _).objs.size
   rw [Heap.size_push,hsz]
   rcases List.mem_cons.mp hc with rfl | hc
   · rw [hsz];exact Nat.lt_succ_self _
   · rcases List.mem_cons.mp hc with rfl | hc
     · exact Nat.lt_succ_of_lt (Nat.lt_succ_self _)
     · cases hc
 · obtain⟨ts,⟨o,ho,hcl,hd⟩,hi,hlt⟩:=ok i c ls e1 e2
   refine⟨ts,⟨o,k _ _ (fun z=>?_) ho,hcl,hd⟩,hi,hlt⟩
   rcases List.mem_cons.mp z with z | z
   · rw [z,Heap.size_push,hsz] at hlt;exact absurd hlt (Nat.not_lt.mpr (Nat.le_add_right _ 2))
   · rw [List.mem_singleton.mp z,hsz] at hlt;exact absurd hlt (Nat.not_lt.mpr (Nat.le_succ _))
 · obtain⟨a1,f1,rfl⟩:=vals_ref r' (by simpa using e1)
   obtain⟨a2,f2,rfl⟩:=vals_ref r' (by simpa using e2)
   have hi1:i < [ns,ms].length:=(List.getElem?_eq_some_iff.mp f1).1
   have hi2:j < [ns,ms].length:=(List.getElem?_eq_some_iff.mp f2).1
   have g1:[ns,ms][i]? = some [ns,ms][i]:=List.getElem?_eq_getElem hi1
   have g2:[ns,ms][j]? = some [ns,ms][j]:=List.getElem?_eq_getElem hi2
   obtain⟨t1,p1,n1,_⟩:=ok i a1 _ f1 g1
   obtain⟨t2,p2,n2,_⟩:=ok j a2 _ f2 g2
   have hb:lexG [ns,ms] i j = HT.lexLt [ns,ms][j] [ns,ms][i]:=by
    unfold lexG
    rw [List.getD_eq_getElem?_getD,List.getD_eq_getElem?_getD,g1,g2];rfl
   rw [hb] at hQ
   exact gt_tupInts p1 p2 n1 n2 hu hQ
 · have hv:v = .ref (if HT.lexLt ns ms = true then b else a):=by
    have e:(#[Value.ref a,Value.ref b])[argBest (lexG [ns,ms]) 1]? = some v:=e
    have hl:lexG [ns,ms] 1 0 = HT.lexLt ns ms:=rfl
    by_cases hx:HT.lexLt ns ms = true
    · have e1:argBest (lexG [ns,ms]) 1 = 1:=by simp [argBest,hl,hx]
      rw [e1] at e
      rw [if_pos hx]
      simpa using e.symm
    · have e1:argBest (lexG [ns,ms]) 1 = 0:=by simp [argBest,hl,hx]
      rw [e1] at e
      rw [if_neg hx]
      simpa using e.symm
   rw [hv]
   refine⟨.ref _,H,I.kept fun c o q=>kp c o (fun z=>?_) (Heap.get?_push_of_some _ (Heap.get?_push_of_some _ q)),rfl,q⟩
   have:=Heap.lt_size q
   rw [List.mem_singleton.mp z,hsz] at this;exact absurd this (Nat.not_lt.mpr (Nat.le_succ _))
section
variable {K:PySem.W.Frag}
theorem k_max2T (hK:X.K = K) (hr:Room k X.A) (hg:Gl X x) (he:starEach [e,f] X.env = (false,eval e X.env) :: starEach [f] X.env) (hpl:(backTo pos (starEach [f] X.env)).any (·.1) = false) (hx:x = "max") (hc:X.calm = true) (hm:X.mg x = none) (ha:JA X [e,f] t):
 JE X (.Call (.Name x p) [e,f] [] pos) (tCB (rMax2T K) t):=hK▸⟨by subst hx;exact pe_callB (call_max2T hr hc) hg hm boot_max ha.h (by decide) (by decide) he hpl⟩
end
def rCatTB:R2:=fun x y H Q=>∃ a b xs ys,x = .ref a/\y = .ref b/\H a = some (.tup xs)/\H b = some (.tup ys)/\xs.length + ys.length<=sizeLine/\∀ p H2,L2.Same H H2->H2 p = some (.tup (xs ++ ys))->Q (.ref p) H2
theorem op_catTB:OpR X (binaryOp .Add) rCatTB:=fun pins s σ H x y v u Q I rx ry h=>by
 obtain⟨a,b,xs,ys,e1,e2,t1,t2,hz,q⟩:=h
 have h1:SqT X.K H a xs:=SqT.of t1
 have h2:SqT X.K H b ys:=SqT.of t2
 by_cases hx:xs = []
 · subst e1;subst e2;subst hx
   cases rx;cases ry
   obtain⟨its,r1,p1,_⟩:=I.tuple h1
   obtain⟨its2,r2,p2,_⟩:=I.tuple h2
   have hv:=r1.nil_iff.mpr rfl
   obtain⟨⟨cls,dd,data,sl⟩,ho,hc,n,hd⟩:=id p1
   obtain⟨⟨cls2,dd2,data2,sl2⟩,ho2,hc2,n2,hd2⟩:=id p2
   subst hc hd hc2 hd2
   exact concat_meets ⟨_,ho,rfl⟩ ⟨_,ho2,rfl⟩ noFill_tuple_add seq_tuple_add PySem.F.slot_tuple_add PySem.F.entry_tuple_add (PySem.F.args_tuple_add_2 _ _)
    (tuple_addW0 a b its.toArray its2.toArray n n2 dd dd2 sl sl2 (by simp [hv])) ⟨ho,ho2,⟨.ref b,H,I,rfl,q b H (L2.Same.refl _) t2⟩⟩
 · refine op_catT pins s σ H x y v u Q I rx ry ⟨a,b,xs,ys,e1,e2,h1,h2,hx,hz,fun e=>?_,fun _ p hp=>q p _ (Br.Same.upd hp) upd_same⟩
   exact q a H (L2.Same.refl _) (by simp_all)
theorem o_addB:JOp X .Add (fun x y H Q=>rI0 (fun i j=>.int (i + j)) x y H Q\/rCatTB x y H Q):=⟨op_add.or op_catTB⟩
theorem s_dead {X:Cx}{st:Stmt}:JS X st (fun _ _ _=>False):=⟨fun pins s σ H D I h=>h.elim⟩
def ipM:TIp:=fun x y H Q=>∃ i j,x = .int i/\y = .int j/\IntMulOk i j/\Q (.int (i * j)) H
theorem ip_mul {X:Cx}:PIp X .Mult ipM:=by
 intro pins s σ H x y v u Q I r1 r2 h
 obtain⟨i,j,e1,e2,hm,q⟩:=h
 subst e1;subst e2
 obtain⟨t,rfl⟩:=r1
 obtain⟨t',rfl⟩:=r2
 exact imul_int ⟨.int _,H,I.tok _,⟨_,rfl⟩,q⟩ hm
theorem s_augM {X:Cx}{i:Nat}{x:Str}{e:Expr}{te:TE}{pos pos':Pos} (hi:At X.N i x) (hN:X.N.Nodup) (hx:Loc X.env.scope x) (hf:X.fn x = true) (he:JE X e te):JS X (.AugAssign (.Name x pos') .Mult e pos) (tAug i te ipM):=
 ⟨ps_aug hN hi.get hx he.h ip_mul (.inl hf)⟩
theorem g_CT (S:CompS X scope) (hxy:x≠y) (hx:scope.names.lookup x = some .local) (hy:scope.names.lookup y = some .local) (C:Addr) (s:Shared) (H:Hp) (fp:List Addr):
 PG (cxC X [x,y] scope C s H fp) (.Name x px) (gName 0)/\PG (cxC X [x,y] scope C s H fp) (.Name y py) (gName 1):=by
 have nd:=List.nodup_cons.mpr ⟨fun h=>by
  rcases List.mem_cons.mp h with h | h
  · exact hxy h
  · exact not_mem_of S hx h,List.nodup_cons.mpr ⟨not_mem_of S hy,S.nd⟩⟩
 exact⟨pg_name nd rfl (.inl (loc_C hx)) (.inr (loc_C hx)),pg_name nd rfl (.inl (loc_C hy)) (.inr (loc_C hy))⟩
theorem s_compT (hc:X.calm = true) (S:compB X.env.scope.names X.N scope = true) (hs:∀ x,foldedSetIterable i1 X.env x = pure x) (hN:X.N.Nodup) (hxy:x≠y) (hx:scope.names.lookup x = some .local) (hy:scope.names.lookup y = some .local)
 (hs2:∀ C x,foldedSetIterable i2 (compEnvC scope (clOf scope X.env) C X.env) x = pure x) (h:At X.N i z) (hz:X.env.scope.names.lookup z = some .local)
 (hsw:swapsWith (.ListComp elt [⟨.Name x px,i1,f1,0⟩,⟨.Name y py,i2,f2,0⟩] scope pos) (some (.Name z p)) spos.line X.env = pure true)
 (hi:JI X (.Name x px) i1 wi) (ht:∀ C s H fp,JIfs (cxC X [x,y] scope C s H fp) f1 tt) (hi2:∀ C s H fp,JI (cxC X [x,y] scope C s H fp) (.Name y py) i2 wi2)
 (ht2:∀ C s H fp,JIfs (cxC X [x,y] scope C s H fp) f2 tt2) (he:∀ C s H fp,JE (cxC X [x,y] scope C s H fp) elt te):
 JS X (.Assign [.Name z p] (.ListComp elt [⟨.Name x px,i1,f1,0⟩,⟨.Name y py,i2,f2,0⟩] scope pos) spos) (tAsg (tCompT 2 wi (gName 0) tt wi2 (gName 1) tt2 te) (gName i)):=
 ⟨ps_setCompT (Nc:=[x,y]) hc (.of S) hs hN h.get (.inl hz) (.inr hz) hsw hi.h (fun C s H fp=>(g_CT (py:=py) (.of S) hxy hx hy C s H fp).1) (fun C s H fp=>(ht C s H fp).h) (fun C s H fp=>(hi2 C s H fp).h) hs2 (fun C s H fp=>(g_CT (px:=px) (.of S) hxy hx hy C s H fp).2) (fun C s H fp=>(ht2 C s H fp).h) fun C s H fp=>(he C s H fp).h⟩
theorem g_tup2C (hi:At X.N i x) (hj:At X.N j y) (hc:X.calm = true) (hN:X.N.Nodup) (hx:Loc X.env.scope x) (hy:Loc X.env.scope y) (hfx:X.fn x = true) (hfy:X.fn y = true)
 (h1:(assignEach [.Name x px,.Name y py] X.env).map (·.2) = assign (.Name x px) X.env :: (assignEach [.Name y py] X.env).map (·.2))
 (h2:(assignEach [.Name y py] X.env).map (·.2) = assign (.Name y py) X.env :: (assignEach [] X.env).map (·.2))
 (hn:(assignEach [.Name x px,.Name y py] X.env).length = 2) (hst:(assignEach [.Name x px,.Name y py] X.env).findIdx? (·.1) = none):JG X (.Tuple [.Name x px,.Name y py] kt pt) (gTup X.K 2 (gCons (gName i) (gCons (gName j) gNil))):=
 ⟨pg_tup hc (pgs_cons (pg_name hN hi.get hx (.inl hfx)) (pgs_cons (pg_name hN hj.get hy (.inl hfy)) pgs_nil h2) h1) hn hst⟩
section
variable {K:PySem.W.Frag}
theorem cmpIn_range {lo:Int} (Pv:Nat->List V->L2.St->Hp->Prop) (h0:Pv 0 ys0 σ0 H0) (hl:∀ i ys σ H,i<=n->Pv i ys σ H->ys.length<=sizeLine)
 (hs:∀ i ys σ H (N:List V->L2.St->Hp->Prop),i < n->Pv i ys σ H->(∀ ys' σ' H',Pv (i + 1) ys' σ' H'->N ys' σ' H')->
  g (.int (lo + i)) σ H fun σ3 H3=>tt σ3 H3 fun b H4=>if b = true then te σ3 H4 fun y H5=>N (ys ++ [y]) σ3 H5 else N ys σ3 H4)
 (hd:∀ ys σ H,Pv n ys σ H->Z ys σ H):CmpIn (Itr lo n) g tt te ys0 σ0 H0 Z:=by
 refine⟨fun i m ys σ H=>m = n - i/\i<=n/\Pv i ys σ H,⟨n,by simp,Nat.zero_le _,h0⟩,?_⟩
 rintro i m ys σ H ⟨rfl,hi,p⟩
 have hy:=hl i ys σ H hi p
 refine⟨hy,?_⟩
 by_cases hlt:i < n
 · refine .inr ⟨hlt,fun x H' y=>?_⟩
   obtain⟨e,y⟩:=y
   subst e;subst y
   exact hs i ys σ _ (fun ys' σ' H'=>∃ m',m' < n - i/\m' = n - (i + 1)/\i + 1<=n/\Pv (i + 1) ys' σ' H') hlt p fun ys' σ' H' p'=>⟨n - (i + 1),by omega,rfl,hlt,p'⟩
 · have e:i = n:=by omega
   subst e
   exact .inl ⟨Nat.le_refl _,hd ys σ H p⟩
theorem cmp2_list (Pv:Nat->List V->L2.St->Hp->Prop) (h0:Pv 0 [] σ0 H0) (hl:∀ i ys σ H,i<=xs.length->Pv i ys σ H->SqL K H a xs/\ys.length<=sizeLine)
 (hs:∀ i x ys σ H (N:List V->L2.St->Hp->Prop),xs[i]? = some x->Pv i ys σ H->(∀ ys' σ' H',Pv (i + 1) ys' σ' H'->N ys' σ' H')->
  g x σ H fun σ3 H3=>tt σ3 H3 fun b H4=>if b = true then wi2 σ3 H4 fun J2 H5=>CmpIn J2 g2 tt2 te ys σ3 H5 N else N ys σ3 H4)
 (hd:∀ ys σ H,Pv xs.length ys σ H->Z ys H):Cmp2 (Itl K a) g tt wi2 g2 tt2 te σ0 H0 Z:=by
 refine⟨fun i m ys σ H=>m = xs.length - i/\i<=xs.length/\Pv i ys σ H,⟨xs.length,by simp,Nat.zero_le _,h0⟩,?_⟩
 rintro i m ys σ H ⟨rfl,hi,p⟩
 obtain⟨q,hy⟩:=hl i ys σ H hi p
 refine⟨hy,?_⟩
 by_cases hlt:i < xs.length
 · refine .inr ⟨⟨xs,xs[i],q,by simp⟩,fun x H' y=>?_⟩
   obtain⟨e,y⟩:=y
   subst e
   exact hs i x ys σ _ _ (y xs q) p fun ys' σ' H' p'=>⟨xs.length - (i + 1),by omega,rfl,hlt,p'⟩
 · have e:i = xs.length:=by omega
   subst e
   exact .inl ⟨⟨xs,q,Nat.le_refl _⟩,hd ys σ H p⟩
end
namespace ZT
structure Zp (h:Heap) (z u o c1 c2 d e:Addr) (xs ys:Array Value) (k:Nat):Prop where
 zip:IsZip h z u o .none
 its:IsPair h u (.ref c1) (.ref c2)
 own:∃ a b,IsPair h o a b
 i1:h.IsTupleIter c1 d k
 i2:h.IsListIter c2 e k
 t1:h.IsTuple d xs
 t2:h.IsList e ys
structure Ap (z u o c1 c2 d e:Addr):Prop where
 ne:[z,u,o,c1,c2].Nodup
 nd:∀ b∈[z,u,o,c1,c2],d≠b/\e≠b
end ZT
namespace EL
end EL
def rMaxTD (K:PySem.W.Frag):List V->V->Hp->VK->Prop:=fun xs d H Q=>∃ (p:Addr) (as:List Addr) (nss:List (List Int)),xs = [.ref p]/\SqL K H p (as.map V.ref)/\as.length = nss.length/\
 (∀ (i:Nat) (a:Addr) (ns:List Int),as[i]? = some a->nss[i]? = some ns->SqT K H a (ns.map V.int))/\(0 < as.length->∀ a:Addr,as[argBest (lexG nss) (as.length - 1)]? = some a->Q (.ref a) H)/\(as.length = 0->Q d H)
theorem call_maxTD (hr:Room k X.A) (hc:X.calm = true):CallRD X (.builtin "max") (Str.ofString "default") (rMaxTD X.K):=by
 intro pins s σ H xs us d dv Q I r rd h
 obtain⟨p,as,nss,rfl,hq,hlen,ht,q,q0⟩:=h
 obtain⟨u,rfl,rx⟩:=vals1 r
 cases rx
 obtain⟨its,r',pl,hz⟩:=I.list hq
 have hp:p < s.heap.objs.size:=by obtain⟨_,_,e,_⟩:=pl;exact Heap.lt_size e
 have hl:its.length = as.length:=by rw [<- r'.length,List.length_map]
 have hu:X.A.in1.units < cLine:=by have:=hr.un;show X.A.units + _ < _;omega
 refine maxCallD (wpAny_pyIter_list pl.isList ⟨s.heap.objs.size,_,_,_,_,_,rfl,Walks.list (A:=X.A.in1) (I.ok.hd hc) s.heap.objs.size p (Nat.ne_of_lt hp) its.toArray,⟨⟨_,Heap.get?_push_size _ rfl,rfl,rfl⟩,pl.isList.at fun o e=>Heap.get?_push_of_some _ e⟩,fun b hb=>?_,
  fun hn=>⟨lexG nss,fun h=>∀ (i:Nat) (a:Addr) (ns:List Int),as[i]? = some a->nss[i]? = some ns->∃ ts,IsTup h a ts/\IntsAre ts.toList ns/\a < s.heap.objs.size,fun i a ns e1 e2=>?_,⟨fun h h' ok k i a ns e1 e2=>?_,fun i j vi vj s' Q' E' ok e1 e2 hQ=>?_⟩,fun v h' tk e kp=>?_⟩,fun hn h' tk kp=>?_⟩)
 · show b < (s.heap.push _).objs.size
   rw [Heap.size_push]
   rcases List.mem_cons.mp hb with e | hb
   · rw [e];exact Nat.lt_succ_self _
   · rw [List.mem_singleton.mp hb];exact Nat.lt_succ_of_lt hp
 · obtain⟨ts,rv,pt,_⟩:=I.tuple (ht i a ns e1 e2)
   obtain⟨o,ho,hcl,hd⟩:=pt
   exact⟨ts.toArray,⟨o,Heap.get?_push_of_some _ (Heap.get?_push_of_some _ ho),hcl,hd⟩,intsAre_of rv,Heap.lt_size ho⟩
 · obtain⟨ts,⟨o,ho,hcl,hd⟩,hi,hlt⟩:=ok i a ns e1 e2
   refine⟨ts,⟨o,k _ _ (fun z=>?_) ho,hcl,hd⟩,hi,hlt⟩
   rcases List.mem_cons.mp z with z | z
   · rw [z] at hlt
     rw [Heap.size_push] at hlt
     exact absurd hlt (Nat.not_lt.mpr (Nat.le_succ _))
   · rw [List.mem_singleton.mp z] at hlt;exact absurd hlt (Nat.lt_irrefl _)
 · obtain⟨a1,f1,rfl⟩:=vals_ref r' (by simpa using e1)
   obtain⟨a2,f2,rfl⟩:=vals_ref r' (by simpa using e2)
   have hi1:i < nss.length:=by have:=(List.getElem?_eq_some_iff.mp f1).1;omega
   have hi2:j < nss.length:=by have:=(List.getElem?_eq_some_iff.mp f2).1;omega
   have g1:nss[i]? = some nss[i]:=List.getElem?_eq_getElem hi1
   have g2:nss[j]? = some nss[j]:=List.getElem?_eq_getElem hi2
   obtain⟨t1,p1,n1,_⟩:=ok i a1 _ f1 g1
   obtain⟨t2,p2,n2,_⟩:=ok j a2 _ f2 g2
   have hb:lexG nss i j = HT.lexLt nss[j] nss[i]:=by
    unfold lexG
    rw [List.getD_eq_getElem?_getD,List.getD_eq_getElem?_getD,g1,g2];rfl
   rw [hb] at hQ
   exact gt_tupInts p1 p2 n1 n2 hu hQ
 · rw [List.size_toArray] at hn
   rw [List.size_toArray,hl] at e
   obtain⟨a,f,rfl⟩:=vals_ref r' (by simpa using e)
   exact⟨.ref a,H,I.kept fun b o q=>kp b o (fun z=>absurd (Heap.lt_size q) (by rw [List.mem_singleton.mp z];exact Nat.lt_irrefl _)) (Heap.get?_push_of_some _ q),rfl,q (by omega) a f⟩
 · rw [List.size_toArray,hl] at hn
   exact⟨d,H,I.kept fun b o q=>kp b o (fun z=>absurd (Heap.lt_size q) (by rw [List.mem_singleton.mp z];exact Nat.lt_irrefl _)) (Heap.get?_push_of_some _ q),rd,q0 hn⟩
section
variable {K:PySem.W.Frag}{x nm:Str}
theorem k_maxTD (hK:X.K = K) (hr:Room k X.A) (hg:Gl X x) (he:backTo pos (starEach (e :: es) X.env) = (false,eval e X.env) :: backTo pos (starEach es X.env)) (hpl:(backTo pos (starEach (e :: es) X.env)).any (·.1) = false) (hx:x = "max") (hn:nm = "default") (hc:X.calm = true) (hm:X.mg x = none) (ha:JA X (e :: es) t) (hd:JE X dv td):
 JE X (.Call (.Name x p) (e :: es) [⟨some nm,dv,kp⟩] pos) (tCBd (rMaxTD K) t td):=hK▸⟨by subst hx;subst hn;exact pe_callBD (call_maxTD hr hc) hg hm boot_max ha.h hd.h (by decide) (by decide) he hpl⟩
theorem j_dgetA (x:Str) (hr:Room k X.A) (hs:NoSl b) (ho:JE X (.Name x p) td) (hi:JE X b ty):JE X (.Subscript (.Name x p) b pos) (tDGet td ty):=⟨pe_dget (by have:=hr.un;omega) ho.h hi.h hs⟩
theorem s_dputA (x:Str) (hr:Room k X.A) (hs:swapsWith value (some (.Subscript (.Name x p) b pos')) pos.line X.env = pure false) (ho:JE X (.Name x p) td) (hi:JE X b ty) (hv:JE X value tv):JS X (.Assign [.Subscript (.Name x p) b pos'] value pos) (sDPut td ty tv):=
 ⟨ps_dput (by have:=hr.un;omega) ho.h hi.h hv.h hs⟩
end
section
variable {K:PySem.W.Frag}
theorem k_comp12 (hK:X.K = K) (hc:X.calm = true) (S:compB X.env.scope.names X.N scope = true) (hs:∀ x,foldedSetIterable iter X.env x = pure x) (hxy:[x,y,z].Nodup) (hx:scope.names.lookup x = some .local) (hy:scope.names.lookup y = some .local) (hz:scope.names.lookup z = some .local)
 (hi:JI X (.Tuple [.Name x px,.Tuple [.Name y py,.Name z pz] kt2 pt2] kt pt) iter wi) (ht:∀ C s H fp,JIfs (cxC X [x,y,z] scope C s H fp) ifs tt) (he:∀ C s H fp,JE (cxC X [x,y,z] scope C s H fp) elt te):
 JE X (.ListComp elt [⟨.Tuple [.Name x px,.Tuple [.Name y py,.Name z pz] kt2 pt2] kt pt,iter,ifs,0⟩] scope pos) (tComp 3 wi (gTup K 2 (gCons (gName 0) (gCons (gTup K 2 (gCons (gName 1) (gCons (gName 2) gNil))) gNil))) tt te):=by
 subst hK
 refine⟨pe_comp (Nc:=[x,y,z]) hc (.of S) hs hi.h (fun C s H fp=>?_) (fun C s H fp=>(ht C s H fp).h) fun C s H fp=>(he C s H fp).h⟩
 have nd:(cxC X [x,y,z] scope C s H fp).N.Nodup:=by
  show ([x,y,z] ++ X.N.map (hid scope)).Nodup
  refine List.nodup_append.mpr ⟨hxy,(CompS.of S).nd,fun a ha b hb e=>?_⟩
  subst e
  simp only [List.mem_cons,List.mem_nil_iff,or_false] at ha
  rcases ha with rfl | rfl | rfl
  · exact not_mem_of (CompS.of S) hx hb
  · exact not_mem_of (CompS.of S) hy hb
  · exact not_mem_of (CompS.of S) hz hb
 exact pg_tup (X:=cxC X [x,y,z] scope C s H fp) hc (pgs_cons (pg_name nd rfl (.inl (loc_C hx)) (.inr (loc_C hx))) (pgs_cons (pg_tup (X:=cxC X [x,y,z] scope C s H fp) hc (pgs_cons (pg_name nd rfl (.inl (loc_C hy)) (.inr (loc_C hy))) (pgs_cons (pg_name nd rfl (.inl (loc_C hz)) (.inr (loc_C hz))) pgs_nil))) pgs_nil))
end
section
open PySem PyProof.Rows HT
theorem notlt (a c:Int):(!decide (c < a)) = decide (a<=c):=by grind
theorem rcLe_int (A:Around) (s:Shared) (a:Int) (t:Tok) (c:Int) (u:Tok) (prog:Program) (w:World) (E:Value->Shared->Prop) (Q:Value->Shared->Prop) (h:Q (.bool (decide (a<=c))) s):
 wpAny (model prog w) A (richCompare .LtE (.int a t) (.int c u)) Q E s:=
 (PyProof.Rows.le_int h:wpAny _ A _ Q E s)
section
open PySem.SeqAt
open PySem.AutoSeq1 (wpAny_loadPart')
open PySem.MeetsSeq PySem.MeetsSeq2 PySem.MeetsSeq3
theorem tuple_le_ints (l b:Addr) (items items2:Array Value) (n n2:Nat) (dd dd2:Option Addr) (sl sl2:Array (Option Value)) (ns ms:List Int) (hi:IntsAre items.toList ns) (hj:IntsAre items2.toList ms):
 Meets (Builtin.«tuple.__le__» ⟨[.ref l,.ref b],[]⟩)
  (fun _ R s=>s.heap.get? l = some { cls:=.type "tuple",dict:=dd,data:=.seq items n,slots:=sl }/\s.heap.get? b = some { cls:=.type "tuple",dict:=dd2,data:=.seq items2 n2,slots:=sl2 }/\
   R (.ok (.ret (.bool (!lexLt ms ns)))) s):=
 .of_wp fun prog w A R s h=>by
  obtain⟨hp,g,d,tk,os⟩:=s;obtain⟨hl,hb,h⟩:=h
  have f2:=AutoSeq1.sub_tuple_tuple
  have z1:items.size = ns.length:=by rw [<- hi.length];simp
  have z2:items2.size = ms.length:=by rw [<- hj.length];simp
  wp_walk using wpAny_loadPart' hl,wpAny_loadPart' hb,wpAny_forIn_list _ (fun rest b s'=>b.1 = none/\s' = ⟨hp,g,d,tk,os⟩/\∃ (vs ws:List Value) (ns' ms':List Int),rest = vs.zip ws/\
   IntsAre vs ns'/\IntsAre ws ms'/\ns'.length + items2.size = ms'.length + items.size/\R (.ok (.ret (.bool (!lexLt ms' ns')))) ⟨hp,g,d,tk,os⟩) _
  case turn=>
   rintro⟨y,x⟩ rest b s' ⟨hb',rfl,vs,ws,ns',ms',hz,hvi,hwi,hlen,hR⟩
   cases hvi with
   | nil=>rw [List.zip_nil_left] at hz;cases hz
   | cons a t hvi'=>
    cases hwi with
    | nil=>rw [List.zip_nil_right] at hz;cases hz
    | cons c u hwi'=>
     rw [List.zip_cons_cons] at hz
     injection hz with hyx hrest
     injection hyx with hy hx
     subst hy hx
     rw [lexLt_cons] at hR
     simp only [List.length_cons] at hlen
     obtain⟨e,he,hiff⟩:=eqAt_int A.in1 ⟨hp,g,d,tk,os⟩ a t c u
     refine wpAny_bind (he prog w _ _ ?_)
     cases e with
     | true=>
      rw [if_pos (hiff.mp rfl).symm] at hR
      wp_walk
      exact⟨rfl,rfl,_,_,_,_,hrest,hvi',hwi',by omega,hR⟩
     | false=>
      rw [if_neg (fun q=>absurd (hiff.mpr q.symm) Bool.false_ne_true),notlt] at hR
      have hri:=rcLe_int A.in1 ⟨hp,g,d,tk,os⟩ a t c u prog w
      wp_walk using hri
      exact⟨_,rfl,by simpa using hR⟩
  case fin=>
   rintro⟨b1,b2⟩ s' ⟨hb',rfl,vs,ws,ns',ms',hz,hvi,hwi,hlen,hR⟩
   simp only at hb'
   subst hb'
   have hv:(!lexLt ms' ns') = decide (items.size<=items2.size):=by
    cases hvi with
    | nil=>
     cases hwi with
     | nil=>
      simp only [List.length_nil] at hlen
      rw [lexLt_nil_nil]
      exact (decide_eq_true (by omega)).symm
     | cons c u hw=>
      simp only [List.length_nil,List.length_cons] at hlen
      rw [lexLt_cons_nil]
      exact (decide_eq_true (by omega)).symm
    | cons a t hv=>
     cases hwi with
     | nil=>
      simp only [List.length_nil,List.length_cons] at hlen
      rw [lexLt_nil_cons]
      exact (decide_eq_false (by omega)).symm
     | cons c u hw=>
      rw [List.zip_cons_cons] at hz
      cases hz
   rw [hv] at hR
   wp_walk
   exact⟨_,rfl,by simpa [Builtin.Tuple.tupleCompareSizes] using hR⟩
  case h=>
   exact⟨rfl,rfl,items.toList,items2.toList,ns,ms,rfl,hi,hj,by omega,h⟩
end
theorem le_tupInts (hl:IsTup s.heap l items) (hb:IsTup s.heap b items2) (hi:IntsAre items.toList ns) (hj:IntsAre items2.toList ms)
 (hu:A.units < cLine) (h:Q (.bool (!lexLt ms ns)) s):wpAny (model prog w) A (compareOp .LtE (.ref l) (.ref b)) Q E s:=by
 obtain⟨⟨cls,dd,data,sl⟩,ho,hc,n,hd⟩:=id hl
 obtain⟨⟨cls2,dd2,data2,sl2⟩,ho2,hc2,n2,hd2⟩:=id hb
 subst hc hd hc2 hd2
 exact richCompare_meets_room (op:=.LtE) ⟨_,ho,rfl⟩ ⟨_,ho2,rfl⟩ PySem.F.slot_tuple_le PySem.F.entry_tuple_le (PySem.F.args_tuple_le_2 _ _) (tuple_le_ints l b items items2 n n2 dd dd2 sl sl2 ns ms hi hj)
  ⟨ho,ho2,⟨(fun x=>nomatch x),h⟩⟩ hu
end
def rLeT (K:PySem.W.Frag):R2:=fun x y H Q=>∃ a b ns ms,x = .ref a/\y = .ref b/\SqT K H a (ns.map V.int)/\SqT K H b (ms.map V.int)/\Q (.bl (!HT.lexLt ms ns)) H
section
variable {K:PySem.W.Frag}
theorem op_leT (hr:Room k X.A):OpR X (compareOp .LtE) (rLeT X.K):=fun pins s σ H x y v u Q I rx ry h=>by
 obtain⟨a,b,ns,ms,rfl,rfl,h1,h2,q⟩:=h
 cases rx;cases ry
 obtain⟨its,r1,p1,_⟩:=I.tuple h1
 obtain⟨its2,r2,p2,_⟩:=I.tuple h2
 have hu:X.A.units < cLine:=by have:=hr.un;omega
 exact le_tupInts p1 p2 (intsAre_of r1) (intsAre_of r2) hu ⟨.bl _,H,I,rfl,q⟩
theorem c_leT (hK:X.K = K) (hr:Room k X.A):JCop X .LtE (fun x y H Q=>rI0 (fun i j=>.bl (decide (i<=j))) x y H Q\/rLeT K x y H Q):=hK▸⟨op_le.or (op_leT hr)⟩
end
def tFs3 (a c:Str) (te:TE):TE:=fun σ H Q=>te σ H fun v H1=>∃ i:Int,v = .int i/\i.natAbs.log2 < 1920/\(Str.empty ++ a).length<=sizeLine/\(Str.empty ++ a ++ toString i).length<=sizeLine/\(Str.empty ++ a ++ toString i ++ c).length<=sizeLine/\Q (.str (Str.empty ++ a ++ toString i ++ c)) H1
theorem pe_fs3 (he:PE X e te) (hz:(Str.empty ++ a).length<=sizeLine):PE X (.JoinedStr [.Constant (.str a) q1 p1,.FormattedValue e (-1) none p2,.Constant (.str c) q3 p3] pos) (tFs3 a c te):=fun pins s σ H Q I h=>by
 refine joinParts_cons (Calls.Constant_str ⟨hz,?_⟩)
 refine joinParts_cons ?_
 refine FormattedValue_plain (thn (he pins _ σ H _ (I.tok _) h) fun v s1 ⟨x,H1,I1,r1,qq⟩=>?_)
 obtain⟨i,rfl,hd,_,z1,z2,qq⟩:=qq
 obtain⟨t,rfl⟩:=r1
 exact formatField_int_small hd ⟨z1,joinParts_cons (Calls.Constant_str ⟨z2,joinParts_nil ⟨.str _,H1,((I1.tok _).tok _).tok _,⟨_,rfl⟩,qq⟩ z2⟩)⟩
theorem j_fs3 (hz:(Str.empty ++ a).length<=sizeLine) (he:JE X e te):JE X (.JoinedStr [.Constant (.str a) q1 p1,.FormattedValue e (-1) none p2,.Constant (.str c) q3 p3] pos) (tFs3 a c te):=⟨pe_fs3 he.h hz⟩
def rCountI (K:PySem.W.Frag):V->List V->Hp->VK->Prop:=fun x xs H Q=>∃ (l:Addr) (ns:List Int) (k:Int),x = .ref l/\xs = [.int k]/\SqL K H l (ns.map V.int)/\Q (.int ((ns.count k:Nat):Int)) H
def rCountB (K:PySem.W.Frag):V->List V->Hp->VK->Prop:=fun x xs H Q=>∃ (l:Addr) (bs:List Bool) (k:Bool),x = .ref l/\xs = [.bl k]/\SqL K H l (bs.map V.bl)/\Q (.int ((bs.count k:Nat):Int)) H
theorem count_bl (k:Bool):∀ {bs:List Bool}{its:List Value},Vals (bs.map V.bl) its->its.countP (isBoolOf k) = bs.count k
 | [],_,r=>by cases r;rfl
 | b :: bs,_,r=>by
  cases r with
  | cons r rr=>
   obtain rfl:_ = Value.bool b:=r
   rw [List.countP_cons,List.count_cons,count_bl k rr]
   rfl
section
variable {K:PySem.W.Frag}
theorem mt_countI:MtR X "list.count" (rCountI X.K):=by
 intro pins s σ H x vs v us Q I rx rv h
 obtain⟨l,ns,k,rfl,rfl,hq,q⟩:=h
 cases rx
 obtain⟨u,rfl,ru⟩:=rv.one
 obtain⟨tk,rfl⟩:=ru
 obtain⟨its,r',pl,hz⟩:=I.list hq
 exact count_list_ints pl.isList (intsAre_of r') ⟨.int _,H,I.tok _,⟨_,rfl⟩,q⟩
theorem mt_countB:MtR X "list.count" (rCountB X.K):=by
 intro pins s σ H x vs v us Q I rx rv h
 obtain⟨l,bs,k,rfl,rfl,hq,q⟩:=h
 cases rx
 obtain⟨u,rfl,ru⟩:=rv.one
 obtain rfl:u = Value.bool k:=ru
 obtain⟨its,r',pl,hz⟩:=I.list hq
 obtain⟨⟨cls,dd,data,sl⟩,ho,hc,n,hd⟩:=id pl.isList
 subst hc hd
 refine call_meets PySem.F.slot_list_count ⟨_,ho,rfl⟩ PySem.F.entry_list_count (PySem.F.args_list_count_2 _ _) (PySem.SeqAt.list_countAt l its.toArray n dd sl _ (isBoolOf k)) ⟨ho,fun y hy=>?_,?_⟩
 · have hy':=by simpa using hy
   obtain⟨i,hi,rfl⟩:=List.getElem_of_mem hy'
   obtain⟨b,hb,e⟩:=vals_bl r' (List.getElem?_eq_getElem hi)
   rw [e]
   exact PySem.SeqAt.EqAt.bool_bool b k
 · rw [show its.toArray.toList = its from rfl,count_bl k r']
   exact⟨.int _,H,I.tok _,⟨_,rfl⟩,q⟩
theorem k_count (hK:X.K = K) (hbase:attributeBase o "count" X.env (eval o X.env) = eval o X.env) (hfew:((backTo cpos (starEach [e] X.env)).all (fun x=>!x.1) && (backToKw cpos (keywordEach [] X.env)).all (fun x=>x.1.isSome)
 && decide (([e]:List Expr).length + ([]:List Keyword).length + (if ([]:List Keyword).isEmpty then 0 else 1) < 30)) = true) (hline:(apos.endLine == cpos.line) = true) (hs:starEach [e] X.env = (false,eval e X.env) :: starEach [] X.env)
 (hpl:(backTo cpos (starEach [] X.env)).any (·.1) = false) (ho:JE X o to) (ha:JA X [e] t):JE X (.Call (.Attribute o "count" apos) [e] [] cpos) (tBM K "list" (fun x xs H Q=>rCountI K x xs H Q\/rCountB K x xs H Q) to t):=
 hK▸⟨pe_bm PySem.F.plainAttrs_list PySem.F.slot_list_count PySem.F.type_list_count (mt_countI.or mt_countB) ho.h ha.h hbase hfew hline hs hpl⟩
end
def vv2 (ks:List (Int×Int)):List (Key×V):=ks.map fun q=>(.inl q.1,.int q.2)
def dlook:List (Int×Int)->Int->Option Int
 | [],_=>none
 | q :: ks,n=>if q.1 = n then some q.2 else dlook ks n
theorem dlook_cons (q:Int×Int) (ks:List (Int×Int)) (n:Int):dlook (q :: ks) n = if q.1 = n then some q.2 else dlook ks n:=rfl
theorem val_vv2:∀ (ks:List (Int×Int)) (n:Int),valV (vv2 ks) (.inl n) = (dlook ks n).map V.int
 | [],_=>rfl
 | q :: ks,n=>by
  by_cases e:q.1 = n
  · rw [show vv2 _ = ((Sum.inl q.1:Key),V.int q.2) :: vv2 ks from rfl,valV_pos (by grind)]
    rw [dlook_cons,if_pos e];rfl
  · rw [show vv2 _ = ((Sum.inl q.1:Key),V.int q.2) :: vv2 ks from rfl,valV_neg (fun z=>e (by simp_all)),val_vv2 ks n]
    rw [dlook_cons,if_neg e]
theorem dlook_none:∀ {ks:List (Int×Int)}{n:Int},n∉ks.map (·.1)->dlook ks n = none
 | [],_,_=>rfl
 | q :: ks,n,h=>by
  rw [dlook_cons,if_neg (fun e=>h (by rw [<- e];exact .head _)),dlook_none fun z=>h (.tail _ z)]
theorem dlook_some:∀ {ks:List (Int×Int)}{n c:Int},dlook ks n = some c->(n,c)∈ks
 | q :: ks,n,c,h=>by
  rw [dlook_cons] at h
  by_cases e:q.1 = n
  · grind
  · rw [if_neg e] at h;exact .tail _ (dlook_some h)
theorem dlook_key (h:n∈ks.map (·.1)):∃ c,dlook ks n = some c:=by
 induction ks with
 | nil=>simp_all
 | cons q ks ih=>
  rw [dlook_cons]
  by_cases e:q.1 = n
  · simp_all
  · rw [if_neg e]
    rcases List.mem_cons.mp h with z | z
    · simp_all
    · exact ih z
theorem dlook_mem (nd:(ks.map (·.1)).Nodup) (q:Int×Int):q∈ks↔dlook ks q.1 = some q.2:=by
 refine⟨fun h=>?_,fun h=>dlook_some h⟩
 induction ks with
 | nil=>cases h
 | cons r ks ih=>
  rw [List.map_cons,List.nodup_cons] at nd
  rw [dlook_cons]
  rcases List.mem_cons.mp h with z | z
  · simp_all
  · rw [if_neg (fun e=>nd.1 (by rw [e];exact List.mem_map.mpr ⟨q,z,rfl⟩))]
    simp_all
def dput (ks:List (Int×Int)) (n m:Int):List (Int×Int):=if n∈ks.map (·.1) then ks.map (fun q=>if q.1 = n then (q.1,m) else q) else ks ++ [(n,m)]
theorem vv2_keys (ks:List (Int×Int)) (n:Int):((vv2 ks).any fun p=>decide (p.1 = (Sum.inl n:Key))) = decide (n∈ks.map (·.1)):=by
 induction ks with
 | nil=>rfl
 | cons q ks ih=>
  show (decide ((Sum.inl q.1:Key) = Sum.inl n) || (vv2 ks).any fun p=>decide _) = _
  rw [ih]
  by_cases e:q.1 = n
  · rw [decide_eq_true (by rw [e]),decide_eq_true (show n∈(q :: ks).map _ by rw [<- e];exact .head _)];rfl
  · rw [decide_eq_false (fun z=>e (by injection z))]
    show decide _ = decide _
    by_cases h:n∈ks.map (·.1)
    · rw [decide_eq_true h,decide_eq_true (.tail _ h)]
    · rw [decide_eq_false h,decide_eq_false (fun z=>by
       rcases List.mem_cons.mp z with z | z
       · grind
       · exact h z)]
theorem put_vv2 (ks:List (Int×Int)) (n m:Int):putK (vv2 ks) (.inl n) (.int m) = vv2 (dput ks n m):=by
 unfold putK dput
 rw [vv2_keys]
 by_cases h:n∈ks.map (·.1)
 · rw [if_pos (decide_eq_true h),if_pos h]
   unfold vv2
   rw [List.map_map,List.map_map]
   refine List.map_congr_left fun q _=>?_
   by_cases e:q.1 = n
   · simp [e]
   simp_all
 · rw [if_neg (fun z=>h (of_decide_eq_true z)),if_neg h]
   unfold vv2
   simp
theorem dput_keys (ks:List (Int×Int)) (n m:Int):(dput ks n m).map (·.1) = if n∈ks.map (·.1) then ks.map (·.1) else ks.map (·.1) ++ [n]:=by
 unfold dput
 split
 · rw [List.map_map]
   refine List.map_congr_left fun q _=>?_
   show (if q.1 = n then (q.1,m) else q).1 = q.1
   split <;> rfl
 simp
theorem dput_nodup (n m:Int) (nd:(ks.map (·.1)).Nodup):((dput ks n m).map (·.1)).Nodup:=by
 rw [dput_keys]
 split
 · omega
 · rename_i h
   refine List.nodup_append.mpr ⟨nd,List.nodup_cons.mpr ⟨fun h=>(nomatch h),List.nodup_nil⟩,fun a ha b hb=>?_⟩
   rw [List.mem_singleton.mp hb]
   exact fun e=>h (by rw [<- e];omega)
theorem dput_len (ks:List (Int×Int)) (n m:Int):(dput ks n m).length<=ks.length + 1:=by
 unfold dput
 split
 · simp
 simp
theorem dlook_app:∀ (ks:List (Int×Int)) (q:Int×Int) (j:Int),dlook (ks ++ [q]) j = match dlook ks j with | some c=>some c | none=>if q.1 = j then some q.2 else none
 | [],q,j=>rfl
 | r :: ks,q,j=>by
  rw [List.cons_append,dlook_cons,dlook_cons]
  by_cases e:r.1 = j
  · simp_all
  · rw [if_neg e,if_neg e];exact dlook_app ks q j
theorem dput_look (ks:List (Int×Int)) (n m j:Int):dlook (dput ks n m) j = if n = j then some m else dlook ks j:=by
 unfold dput
 split
 · rename_i h
   induction ks with
   | nil=>simp at h
   | cons q ks ih=>
    rw [List.map_cons,dlook_cons,dlook_cons]
    by_cases e:q.1 = n
    · rw [if_pos e]
      by_cases e2:n = j
      · rw [if_pos (e.trans e2),if_pos e2]
      · rw [if_neg (fun z=>e2 (e.symm.trans z)),if_neg e2,if_neg (fun z=>e2 (e.symm.trans z))]
        by_cases h':n∈ks.map (·.1)
        · rw [ih h',if_neg e2]
        · have:(ks.map fun q=>if q.1 = n then (q.1,m) else q) = ks:=by
           clear ih h
           induction ks with
           | nil=>rfl
           | cons r ks ih2=>
            rw [List.map_cons,if_neg (fun e=>h' (by rw [<- e];exact .head _)),ih2 fun z=>h' (.tail _ z)]
          rw [this]
    · rw [if_neg e]
      have h':n∈ks.map (·.1):=by
       rcases List.mem_cons.mp h with z | z
       · exact absurd z.symm e
       · exact z
      by_cases e2:q.1 = j
      · rw [if_pos e2,if_neg (fun z=>e (e2.trans z.symm)),if_pos e2]
      · rw [if_neg e2,if_neg e2,ih h']
 · rename_i h
   rw [dlook_app]
   by_cases e:n = j
   · subst e
     rw [dlook_none h,if_pos rfl]
   · rw [if_neg e]
     cases dlook ks j <;> simp [e]
def Ris (qs:List (Int×Int)):Prop:=qs.Pairwise fun a b=>a.1 < b.1
theorem Ris.nodup (h:Ris qs):(qs.map (·.1)).Nodup:=by
 unfold List.Nodup
 rw [List.pairwise_map]
 exact h.imp fun z e=>by omega
theorem sort_keys {ks:List (Int×Int)}{ns:List Int} (nd:(ks.map (·.1)).Nodup) (hp:ns.Perm (ks.map (·.1))) (hs:ns.Pairwise (·<=·)):
 Ris (ns.map fun n=>(n,(dlook ks n).getD 0))/\∀ q,q∈(ns.map fun n=>(n,(dlook ks n).getD 0))↔q∈ks:=by
 have nd':ns.Nodup:=hp.nodup_iff.mpr nd
 refine⟨?_,fun q=>?_⟩
 · unfold Ris
   rw [List.pairwise_map]
   exact (hs.and nd').imp fun {a b} ⟨h1,h2⟩=>by show a < b;omega
 · constructor
   · intro h
     obtain⟨n,hn,rfl⟩:=List.mem_map.mp h
     obtain⟨c,hc⟩:=dlook_key (hp.mem_iff.mp hn)
     have:=dlook_some hc
     rw [hc];exact this
   · intro h
     refine List.mem_map.mpr ⟨q.1,hp.mem_iff.mpr (List.mem_map.mpr ⟨q,h,rfl⟩),?_⟩
     rw [(dlook_mem nd q).mp h];rfl
def rTupF (K:PySem.W.Frag):List V->Hp->VK->Prop:=fun xs H Q=>∃ p ys,xs = [.ref p]/\SqL K H p ys/\∀ l o H2,H l = none->bareT o->L2.Same H H2->H2 l = some (.frz o (.tup ys))->Q (.ref l) H2
section
variable {K:PySem.W.Frag}
theorem call_tupF:CallR X (.type "tuple") (rTupF X.K):=by
 intro pins s σ H xs us Q I r h
 obtain⟨p,ys,rfl,hq,q⟩:=h
 obtain⟨u,rfl,rx⟩:=vals1 r
 cases rx
 obtain⟨its,r',pl,hz⟩:=I.list hq
 have hlen:=r'.length
 refine call_tuple_list pl.isList (fun h' kp=>?_) (by grind)
 have I1:=I.kept (t':=s.toks) kp
 have hf:=I1.hok.fresh (Nat.le_refl h'.objs.size)
 have I2:Inv X pins σ (upd H h'.objs.size (.frz { cls:=.type "tuple",data:=.seq its.toArray } (.tup ys))) { s with heap:=h'.push { cls:=.type "tuple",data:=.seq its.toArray } }:=
  I1.laid (fun b o e=>Heap.get?_push_of_some _ e) (Nat.le_refl _) ⟨Heap.get?_push_size _ rfl,hz,its,r',IsTup.new _ _⟩
 exact⟨.ref h'.objs.size,_,I2,rfl,q _ _ _ hf ⟨_,_,rfl⟩ (Br.Same.upd hf) upd_same⟩
theorem k_tupleF (hg:Gl X x) (he:starEach (e :: es) X.env = (false,eval e X.env) :: starEach es X.env) (hpl:(backTo pos (starEach es X.env)).any (·.1) = false) (hK:X.K = K) (hx:x = "tuple") (hm:X.mg x = none) (ha:JA X (e :: es) t):
 JE X (.Call (.Name x p) (e :: es) [] pos) (tCB (rTupF K) t):=hK▸⟨by subst hx;exact pe_callTy call_tupF hg hm boot_tuple' ha.h (by decide) (by decide) he hpl⟩
end
mutual
inductive RepF (H:Hp):V->PyData->Prop
 | non:RepF H .non .none
 | bl (b:Bool):RepF H (.bl b) (.bool b)
 | int (i:Int):RepF H (.int i) (.int i)
 | str (x:Str):RepF H (.str x) (.str x)
 | tup {a:Addr}{xs:List V}{ds:List PyData} (h:Rd H a (.tup xs)) (r:RepsF H xs ds):RepF H (.ref a) (.tuple ds)
 | lst {a:Addr}{xs:List V}{ds:List PyData} (h:H a = some (.lst xs)) (r:RepsF H xs ds):RepF H (.ref a) (.list ds)
inductive RepsF (H:Hp):List V->List PyData->Prop
 | nil:RepsF H [] []
 | cons {x:V}{xs:List V}{d:PyData}{ds:List PyData} (h:RepF H x d) (r:RepsF H xs ds):RepsF H (x :: xs) (d :: ds)
end
structure Txt (d:PyData):Prop where
 show':d.showable = true
 lay:d.canLay0 = true
 dep:d.depth<=60
 len:d.shown.length<=sizeLine
structure Sm (dp wt:Nat) (d:PyData):Prop where
 sh:d.showable = true
 lay:d.canLay0 = true
 lv:d.leavesShort 60 = true
 dep:d.depth<=dp
 wgt:d.weight<=wt
section
variable {K:PySem.W.Frag}{e st:Expr}
theorem vals_rev:∀ {xs:List V}{us:List Value},Vals xs us->Vals xs.reverse us.reverse:=fun {xs us} r=>by
 induction r with
 | nil=>exact .nil
 | cons h t ih=>rw [List.reverse_cons,List.reverse_cons];exact ih.append (.cons h .nil)
end
end Br
namespace Br
open PySem PySem.Spec PySem.Calls PyProof.Rows L2 HT
end Br
namespace Br
namespace DZ
open PySem PySem.Spec PySem.Calls PyProof.Rows L2 Br.ZM
end DZ
namespace DZ
end DZ
namespace ZL
end ZL
end Br
namespace Br
open PySem PySem.Spec PyProof.Rows L2
section
variable {K:PySem.W.Frag}{e st:Expr}
def tRevL (K:PySem.W.Frag) (te ts:TE):TE:=fun σ H Q=>te σ H fun x H1=>ts σ H1 fun y H2=>∃ a xs,x = .ref a/\y = .int (-1)/\SqL K H2 a xs/\∀ p H3,H2 p = none->L2.Same H2 H3->H3 p = some (.lst xs.reverse)->Q (.ref p) H3
theorem pe_revL (he:PE X e te) (hst:PE X st ts):PE X (.Subscript e (.Slice none none (some st) p2) pos) (tRevL X.K te ts):=by
 intro pins s σ H Q I h
 refine Subscript_ (thn (he pins s σ H _ I h) fun v s1 ⟨x,H1,I1,r1,q1⟩=>?_)
 refine wpAny_Slice ?_
 rw [evalPart_none]
 refine wpAny_pure ?_
 refine wpAny_pure ?_
 rw [evalPart_some]
 refine thn (hst pins s1 σ H1 _ I1 q1) fun vk s3 ⟨y,H3,I3,ry,q3⟩=>?_
 obtain⟨a,xs,rfl,rfl,hx,q⟩:=q3
 obtain⟨t,rfl⟩:=ry
 cases r1
 have I4:Inv X pins σ H3 { s3 with heap:=s3.heap.push { cls:=.type "slice",data:=.fields #[.none,.none,.int (-1) t] } }:=I3.kept (t':=s3.toks) fun b ob q=>Heap.get?_push_of_some _ q
 obtain⟨its,r,ht,hz⟩:=I4.list hx
 have hlen:its.toArray.size = xs.length:=by rw [List.size_toArray];exact r.length.symm
 refine tail_any ht.isList.typeIs slot_list_getitem.lookup ?_ (by with_unfolding_all rfl)
 refine wpAny_getItem_list_slice ht.isList (Heap.IsSliceOf.new ..) .none .none (.int (-1) t) (by decide) ?_ (by rw [hlen];exact hz)
 rw [PySem.W.krv_pick]
 generalize hs4:({ s3 with heap:=s3.heap.push { cls:=.type "slice",data:=.fields #[.none,.none,.int (-1) t] } }:Shared) = s4 at I4 ht
 have hf:=I4.hok.fresh (Nat.le_refl _)
 refine⟨.ref s4.heap.objs.size,upd H3 s4.heap.objs.size (.lst xs.reverse),I4.laid (t':=s4.toks) (o:=.lst xs.reverse) (fun b ob q=>Heap.get?_push_of_some _ q) (Nat.le_refl _) ?_,rfl,q _ _ hf (Br.Same.upd hf) upd_same⟩
 exact⟨by rw [List.length_reverse];exact hz,_,0,vals_rev r,Heap.get?_push_size _ rfl⟩
theorem k_revL (hK:X.K = K) (he:JE X e te) (hst:JE X st ts):JE X (.Subscript e (.Slice none none (some st) p2) pos) (tRevL K te ts):=hK▸⟨pe_revL he.h hst.h⟩
end
end Br
namespace Br
def rIndexB:V->List V->Hp->VK->Prop:=fun x xs H Q=>∃ (p:Addr) (ns:List Bool) (v:Bool) (j:Nat),x = .ref p/\xs = [.bl v]/\H p = some (.lst (ns.map V.bl))/\ns[j]? = some v/\(∀ m,m < j->ns[m]?≠some v)/\Q (.int j) H
theorem eqGives_bool (a b:Bool):PySem.MeetsSeq.EqGives (.bool a) (.bool b) (a == b):=fun prog w A E s Q h=>PySem.SeqAt.EqAt.bool_bool a b prog w E Q h
theorem mt_indexB {X:Cx}:MtR X "list.index" rIndexB:=by
 intro pins s σ H x xs v us Q I rx r h
 obtain⟨p,ns,n,j,rfl,rfl,hp,hj,hno,q⟩:=h
 cases rx
 obtain⟨u,rfl,ru⟩:=vals1 r
 obtain rfl:u = Value.bool n:=ru
 obtain⟨hz,its,c,rv,e⟩:=(I.hok p _ hp)
 have hl:its.length = ns.length:=by rw [<- rv.length,List.length_map]
 have hjl:j < ns.length:=(List.getElem?_eq_some_iff.mp hj).1
 have hsz:=sizeLine_eq
 rw [List.length_map] at hz
 have at':∀ (m:Nat) (hm:m < its.toArray.size),∃ a,its.toArray[m] = .bool a/\ns[m]? = some a:=fun m hm=>by
  have e1:its[m]? = some its.toArray[m]:=by rw [<- List.getElem?_toArray,Array.getElem?_eq_getElem hm]
  obtain⟨a,h1,h2⟩:=vals_bl rv e1
  exact⟨a,h2,h1⟩
 refine call_meets PySem.F.slot_list_index ⟨_,e,rfl⟩ PySem.F.entry_list_index (PySem.F.args_list_index_2 _ _) (PySem.MeetsSeq.list_index p its.toArray c (.bool n) (isBoolOf n) (fun y hy=>?_) j (by rw [List.size_toArray];omega) (by omega) ?_ fun m hm hmj=>?_) ⟨e,⟨.int j,H,I.tok _,⟨_,rfl⟩,q⟩⟩
 · obtain⟨m,hm,rfl⟩:=Array.getElem_of_mem hy
   obtain⟨a,h1,_⟩:=at' m hm
   rw [h1]
   exact eqGives_bool a n
 · obtain⟨a,h1,h2⟩:=at' j (by rw [List.size_toArray];omega)
   rw [h1]
   rw [hj] at h2
   injection h2 with h2
   show (a == n) = true
   rw [h2];simp
 · obtain⟨a,h1,h2⟩:=at' m hm
   rw [h1]
   show (a == n) = false
   have:=hno m hmj
   rw [h2] at this
   simpa using this
section
variable {K:PySem.W.Frag}
theorem k_indexB (hK:X.K = K) (hbase:attributeBase o "index" X.env (eval o X.env) = eval o X.env) (hfew:((backTo cpos (starEach [e] X.env)).all (fun x=>!x.1) && (backToKw cpos (keywordEach [] X.env)).all (fun x=>x.1.isSome)
 && decide (([e]:List Expr).length + ([]:List Keyword).length + (if ([]:List Keyword).isEmpty then 0 else 1) < 30)) = true) (hline:(apos.endLine == cpos.line) = true) (hs:starEach [e] X.env = (false,eval e X.env) :: starEach [] X.env)
 (hpl:(backTo cpos (starEach [] X.env)).any (·.1) = false) (ho:JE X o to) (ha:JA X [e] t):JE X (.Call (.Attribute o "index" apos) [e] [] cpos) (tBM K "list" rIndexB to t):=
 hK▸⟨pe_bm PySem.F.plainAttrs_list PySem.F.slot_list_index PySem.F.type_list_index mt_indexB ho.h ha.h hbase hfew hline hs hpl⟩
end
def EntAt (h:Heap) (d:Addr) (es:Array DictEntry) (ep:Nat):Prop:=∃ o,h.get? d = some o/\o.ExactDict/\o.data = .dict es ep
theorem EntAt.at' (x:EntAt h d es ep) (e:∀ o,h.get? d = some o->h'.get? d = some o):EntAt h' d es ep:=let ⟨o,ho,r⟩:=x;⟨o,e _ ho,r⟩
theorem EntAt.lt (x:EntAt h d es ep):d < h.objs.size:=let ⟨_,ho,_⟩:=x;Heap.lt_size ho
theorem EntAt.ty {s:Shared} (x:EntAt s.heap d es ep):s.TypeIs (.ref d) "dict":=let ⟨o,ho,hc,_⟩:=x;⟨o,ho,hc.1⟩
theorem paired_get:∀ {l₁:List α}{l₂:List β},Paired F l₁ l₂->∀ {i:Nat}{a:α},l₁[i]? = some a->∃ b,l₂[i]? = some b/\F a b
 | _,_,.nil,i,a,e=>by simp_all
 | _,_,.cons r t,i,a,e=>by
  cases i with
  | zero=>simp_all
  | succ i=>
   obtain⟨b,h1,h2⟩:=paired_get t (by assumption)
   simp_all
def ItAt (h:Heap) (it d:Addr) (x0 x1:Value) (i n ep:Nat) (k v:Value):Prop:=
 h.get? it = some { cls:=.type "dict_itemiterator",dict:=none,data:=.fields #[x0,x1,.ref d,.int i 0,.int n 0,.int ep 0,k,v],slots:=#[] }
section
variable {prog:Program}{w:World}{A:Around}{E:Value->Shared->Prop}{s:Shared}{d it:Addr}{es:Array DictEntry}{ep i:Nat}
theorem it_next0 {k v:Value}{Q:Option Value->Shared->Prop} (hit:ItAt s.heap it d .none (.bool false) i es.size ep k v) (hm:EntAt s.heap d es ep) (hlt:i < es.size)
 (hQ:∀ h' k' v',ItAt h' it d (rawInt s.heap.objs.size) (.bool false) (i + 1) es.size ep k' v'->h'.get? s.heap.objs.size = some { cls:=.type "tuple",data:=.seq #[es[i].key,es[i].val] }->
  h'.objs.size = s.heap.objs.size + 1->(∀ b o,b≠it->s.heap.get? b = some o->h'.get? b = some o)->Q (some (.ref s.heap.objs.size)) { s with heap:=h' }):wpAny (model prog w) A (pyNext (.ref it)) Q E s:=by
 obtain⟨od,g1,g2,g3⟩:=id hm
 have hty:s.TypeIs (.ref it) "dict_itemiterator":=⟨_,hit,rfl⟩
 refine wpAny_bind (wpAny_attempt (wpAny_callSpecial?_slot hty F.slot_dict_itemiterator_next (wpAny_call_entry F.slot_dict_itemiterator_next hty F.entry_dict_itemiterator_next ?_ (F.args_dict_itemiterator_next_1 _))))
 wp_walk using wpAny_typeNameOfWhole_itemiter hty,wpAny_fieldsOf hit rfl,wpAny_dictEntries g1 g3,wpAny_dictEpoch g1 g3,wpAny_isOneOf_itemiter hty
 rw [show (if (i:Int) < 0 then none else es[(i:Int).toNat]?) = some es[i] by rw [if_neg (by omega)];simpa using hlt]
 wp_walk using wpAny_typeNameOfWhole_itemiter hty,wpAny_isOneOf_itemiter hty
 refine⟨_,rfl,wpAny_pure ?_⟩
 have hne:it≠s.heap.objs.size:=Nat.ne_of_lt (Heap.lt_size hit)
 rw [Heap.size_update]
 refine hQ _ es[i].key es[i].val ?_ ?_ ?_ fun b o hb e=>?_
 · exact Heap.get?_update_self _ (Heap.get?_update_self _ (Heap.get?_update_self _ (Heap.get?_update_self _ (Heap.get?_push_of_some _ (Heap.get?_update_self _ hit rfl)) rfl) rfl) rfl) rfl
 · rw [Heap.get?_update_other _ _ hne,Heap.get?_update_other _ _ hne,Heap.get?_update_other _ _ hne,Heap.get?_update_other _ _ hne]
   have z:∀ g:Obj->Obj,((s.heap.update it g).push { cls:=.type "tuple",data:=.seq #[es[i].key,es[i].val] }).get? s.heap.objs.size = some { cls:=.type "tuple",data:=.seq #[es[i].key,es[i].val] }:=fun g=>by
    rw [<- Heap.size_update s.heap it g];exact Heap.get?_push_size _ rfl
   exact z _
 · simp only [Heap.size_update,Heap.size_push]
 · rw [Heap.get?_update_other _ _ hb.symm,Heap.get?_update_other _ _ hb.symm,Heap.get?_update_other _ _ hb.symm,Heap.get?_update_other _ _ hb.symm]
   exact Heap.get?_push_of_some _ (by rw [Heap.get?_update_other _ _ hb.symm];exact e)
theorem it_next1 {a:Addr}{f:Bool}{oa:Obj}{k v:Value}{Q:Option Value->Shared->Prop} (hit:ItAt s.heap it d (rawInt a) (.bool f) i es.size ep k v) (ha:s.heap.get? a = some oa) (hai:a≠it) (hm:EntAt s.heap d es ep) (hlt:i < es.size)
 (hQ:∀ h' f',ItAt h' it d (rawInt a) (.bool f') (i + 1) es.size ep k v->h'.get? s.heap.objs.size = some { cls:=.type "tuple",data:=.seq #[es[i].key,es[i].val] }->
  h'.objs.size = s.heap.objs.size + 1->(∀ b o,b≠it->s.heap.get? b = some o->h'.get? b = some o)->Q (some (.ref s.heap.objs.size)) { s with heap:=h' }):wpAny (model prog w) A (pyNext (.ref it)) Q E s:=by
 obtain⟨od,g1,g2,g3⟩:=id hm
 have hty:s.TypeIs (.ref it) "dict_itemiterator":=⟨_,hit,rfl⟩
 refine wpAny_bind (wpAny_attempt (wpAny_callSpecial?_slot hty F.slot_dict_itemiterator_next (wpAny_call_entry F.slot_dict_itemiterator_next hty F.entry_dict_itemiterator_next ?_ (F.args_dict_itemiterator_next_1 _))))
 wp_walk using wpAny_typeNameOfWhole_itemiter hty,wpAny_fieldsOf hit rfl,wpAny_dictEntries g1 g3,wpAny_dictEpoch g1 g3,wpAny_isOneOf_itemiter hty
 rw [show (if (i:Int) < 0 then none else es[(i:Int).toNat]?) = some es[i] by rw [if_neg (by omega)];simpa using hlt]
 wp_walk using wpAny_typeNameOfWhole_itemiter hty,wpAny_isOneOf_itemiter hty
 have hne:it≠s.heap.objs.size:=Nat.ne_of_lt (Heap.lt_size hit)
 rw [Int.toNat_natCast]
 refine PySem.W.kdx_alive (o:=oa) (Heap.get?_push_of_some _ (by rw [Heap.get?_update_other _ _ hai.symm];exact ha)) ?_
 have z:∀ g:Obj->Obj,((s.heap.update it g).push { cls:=.type "tuple",data:=.seq #[es[i].key,es[i].val] }).get? s.heap.objs.size = some { cls:=.type "tuple",data:=.seq #[es[i].key,es[i].val] }:=fun g=>by
  rw [<- Heap.size_update s.heap it g];exact Heap.get?_push_size _ rfl
 cases f <;> wp_walk <;> refine⟨_,rfl,wpAny_pure ?_⟩ <;> rw [Heap.size_update]
 · refine hQ _ true (Heap.get?_update_self _ (Heap.get?_push_of_some _ (Heap.get?_update_self _ hit rfl)) rfl) (by rw [Heap.get?_update_other _ _ hne];exact z _) (by simp only [Heap.size_update,Heap.size_push]) fun b o hb e=>?_
   rw [Heap.get?_update_other _ _ hb.symm]
   exact Heap.get?_push_of_some _ (by rw [Heap.get?_update_other _ _ hb.symm];exact e)
 · refine hQ _ true (Heap.get?_push_of_some _ (Heap.get?_update_self _ hit rfl)) (z _) (by simp only [Heap.size_update,Heap.size_push]) fun b o hb e=>?_
   exact Heap.get?_push_of_some _ (by rw [Heap.get?_update_other _ _ hb.symm];exact e)
theorem it_end {x0 x1 k v:Value}{Q:Option Value->Shared->Prop} (hh:A.handled = none) (hit:ItAt s.heap it d x0 x1 i es.size ep k v) (hm:EntAt s.heap d es ep) (hge:es.size<=i) (hQ:∀ h',Heap.ExtBut it s.heap h'->Q none { s with heap:=h' }):wpAny (model prog w) A (pyNext (.ref it)) Q E s:=by
 obtain⟨od,g1,g2,g3⟩:=id hm
 have hty:s.TypeIs (.ref it) "dict_itemiterator":=⟨_,hit,rfl⟩
 refine wpAny_bind (wpAny_attempt (wpAny_callSpecial?_slot hty F.slot_dict_itemiterator_next (wpAny_call_entry F.slot_dict_itemiterator_next hty F.entry_dict_itemiterator_next ?_ (F.args_dict_itemiterator_next_1 _))))
 wp_walk using wpAny_typeNameOfWhole_itemiter hty,wpAny_fieldsOf hit rfl,wpAny_dictEntries g1 g3,wpAny_dictEpoch g1 g3,wpAny_isOneOf_itemiter hty
 rw [show (if (i:Int) < 0 then none else es[(i:Int).toNat]?) = none by rw [if_neg (by omega)];simpa using hge]
 wp_walk using wpAny_typeNameOfWhole_itemiter hty,wpAny_isOneOf_itemiter hty
 refine wpAny_raiseNew_none hh ?_
 refine wpAny_bind (wpAny_isInstance (b:=true) ⟨_,Heap.get?_push_size _ rfl,rfl⟩ isSubtype_stop (wpAny_pure (hQ _ fun b o hb e=>?_)))
 exact Heap.get?_push_of_some _ (Heap.get?_push_of_some _ (by rw [Heap.get?_update_other _ _ hb.symm];exact e))
end
def ItSt (h:Heap) (it d S:Addr) (i n ep:Nat):Prop:=∃ x0 x1 k v,ItAt h it d x0 x1 i n ep k v/\((x0 = .none/\x1 = .bool false)\/∃ (a:Addr) (oa:Obj) (f:Bool),x0 = rawInt a/\x1 = .bool f/\h.get? a = some oa/\a≠it/\a≠S)
theorem ItSt.keep (x:ItSt h it d S i n ep) (hi:it≠S) (k:∀ b o,b≠S->h.get? b = some o->h'.get? b = some o):ItSt h' it d S i n ep:=by
 obtain⟨x0,x1,kk,v,h1,h2⟩:=x
 refine⟨x0,x1,kk,v,k _ _ hi h1,h2.imp id fun⟨a,oa,f,e1,e2,e3,e4,e5⟩=>⟨a,oa,f,e1,e2,k _ _ e5 e3,e4,e5⟩⟩
theorem it_next (hst:ItSt s.heap it d S i es.size ep) (hm:EntAt s.heap d es ep) (hlt:i < es.size) (hS:S < s.heap.objs.size)
 (hQ:∀ h',ItSt h' it d S (i + 1) es.size ep->h'.get? s.heap.objs.size = some { cls:=.type "tuple",data:=.seq #[es[i].key,es[i].val] }->
  h'.objs.size = s.heap.objs.size + 1->(∀ b o,b≠it->s.heap.get? b = some o->h'.get? b = some o)->Q (some (.ref s.heap.objs.size)) { s with heap:=h' }):wpAny (model prog w) A (pyNext (.ref it)) Q E s:=by
 obtain⟨x0,x1,k,v,hit,⟨rfl,rfl⟩ | ⟨a,oa,f,rfl,rfl,ha,h1,h2⟩⟩:=hst
 · have hil:=Heap.lt_size hit
   exact it_next0 hit hm hlt fun h' k' v' hi t z kp=>hQ h' ⟨_,_,_,_,hi,.inr ⟨_,_,_,rfl,rfl,t,Nat.ne_of_gt hil,Nat.ne_of_gt hS⟩⟩ t z kp
 · exact it_next1 hit ha h1 hm hlt fun h' f' hi t z kp=>hQ h' ⟨_,_,_,_,hi,.inr ⟨_,_,_,rfl,rfl,kp a oa h1 ha,h1,h2⟩⟩ t z kp
theorem ent_items (d:Addr) (hd:(d == sysModules) = false):MeetsIn prog w (Builtin.«dict.items» ⟨[.ref d],[]⟩) (fun _ R s=>(∃ es ep,EntAt s.heap d es ep)/\R (.ok (.ret (.ref s.heap.objs.size))) { s with heap:=s.heap.push { cls:=.type "dict_items",data:=.fields #[.ref d] } }):=
 .of_wp fun A R s ⟨⟨es,ep,hm⟩,h⟩=>by
  have hty:=hm.ty
  wp_walk using wpAny_notOrdered_dict hty
  simp_all
theorem view_iter (hv:s.heap.IsItemsView r d) (hm:EntAt s.heap d es ep)
 (hQ:Q (.ref s.heap.objs.size) { s with heap:=s.heap.push { cls:=.type "dict_itemiterator",data:=.fields #[.none,.bool false,.ref d,.int 0 0,.int es.size 0,.int ep 0,.none,.none] } }):wpAny (model prog w) A (pyIter (.ref r)) Q E s:=by
 obtain⟨ov,v1,v2,v3⟩:=id hv
 obtain⟨od,g1,g2,g3⟩:=id hm
 have hvt:=hv.typeIs
 refine wpAny_pyIter_slot hvt F.slot_dict_items_iter (wpAny_call_entry F.slot_dict_items_iter hvt F.entry_dict_items_iter ?_ (F.args_dict_items_iter_1 _))
 wp_walk using wpAny_dictEntries g1 g3,wpAny_dictEpoch g1 g3,wpAny_field v1 v3 rfl
 exact⟨_,rfl,"dict_itemiterator",_,⟨_,Heap.get?_push_size _ rfl,rfl⟩,F.slot_dict_itemiterator_next.lookup,hQ⟩
structure Got (es:Array DictEntry) (lo:Addr) (h:Heap) (as:List Addr):Prop where
 rise:as.Pairwise (· < ·)
 above:∀ a∈as,lo < a
 pairs:∀ (j:Nat) (a:Addr),as[j]? = some a->∃ e,es[j]? = some e/\h.get? a = some { cls:=.type "tuple",data:=.seq #[e.key,e.val] }
theorem Got.keep {lo:Addr} (g:Got es lo h as) (k:∀ a o,lo < a->h.get? a = some o->h'.get? a = some o):Got es lo h' as:=
 ⟨g.rise,g.above,fun j a e=>let ⟨e',h1,h2⟩:=g.pairs j a e;⟨e',h1,k _ _ (g.above a (List.mem_of_getElem? e)) h2⟩⟩
theorem it_loop (hh:A.handled = none) (hSI:S < I) (hd:d < S) (hn:es.size<=sizeLine):∀ (k i:Nat) (s:Shared) (acc:Array Value) (c:Nat) (as:List Addr),es.size - i = k->i<=es.size->
 ItSt s.heap I d S i es.size ep->EntAt s.heap d es ep->s.heap.get? S = some { cls:=.type "list",dict:=none,data:=.seq acc c,slots:=#[] }->acc.toList = as.map Value.ref->as.length = i->Got es I s.heap as->
 (∀ h' acc' c' as',(∀ b o,b≠S->b≠I->s.heap.get? b = some o->h'.get? b = some o)->h'.get? S = some { cls:=.type "list",dict:=none,data:=.seq acc' c',slots:=#[] }->acc'.toList = as'.map Value.ref->as'.length = es.size->Got es I h' as'->R (.ok (.ret res)) { s with heap:=h' })->codeAny (model prog w) A (.builtin "list.extend.loop" ⟨[.ref S,.ref I,res],[]⟩) R s:=by
 intro k
 induction k with
 | zero=>
  intro i s acc c as hk hi hst hm hS hacc hl hG hR
  obtain⟨x0,x1,k0,v0,hit,_⟩:=hst
  refine codeAny_builtin F.entry_extend_loop (by
   rw [Around.under_plainId F.plain_extend_loop _];exact wpAny_bind (it_end hh hit hm (by omega) fun h' hx=>wpAny_pure (hR h' acc c as (fun b o _ hb e=>hx b o hb e) (hx S _ (Nat.ne_of_lt hSI) hS) hacc (by omega) (hG.keep fun a o hlo e=>hx a o (Nat.ne_of_gt hlo) e))))
 | succ k ih=>
  intro i s acc c as hk hi hst hm hS hacc hl hG hR
  have hlt:i < es.size:=by omega
  have hIl:I < s.heap.objs.size:=by
   obtain⟨_,_,_,_,hit,_⟩:=hst
   exact Heap.lt_size hit
  refine codeAny_builtin F.entry_extend_loop (by
   rw [Around.under_plainId F.plain_extend_loop _];refine wpAny_bind (it_next hst hm hlt (Heap.lt_size hS) fun h' st' t z kp=>?_)
   have hS':=kp S _ (Nat.ne_of_lt hSI) hS
   have haz:acc.size = i:=by rw [<- Array.length_toList,hacc,List.length_map,hl]
   have oth:∀ (g:Obj->Obj) b o,b≠S->h'.get? b = some o->(h'.update S g).get? b = some o:=fun g b o hb e=>(Heap.get?_update_other _ _ hb.symm).trans e
   have lt_all:∀ a∈as,a < s.heap.objs.size:=fun a ha=>by
    obtain⟨j,hj,e⟩:=List.getElem_of_mem ha
    obtain⟨_,_,q⟩:=hG.pairs j a (by rw [List.getElem?_eq_getElem hj,e])
    exact Heap.lt_size q
   have hG':Got es I (h'.update S (Obj.mapSeq fun x=>x.push (.ref s.heap.objs.size))) (as ++ [s.heap.objs.size]):=by
    refine⟨List.pairwise_append.mpr ⟨hG.rise,List.pairwise_singleton _ _,fun a ha b hb=>by rw [List.mem_singleton.mp hb];exact lt_all a ha⟩,fun a ha=>?_,fun j a e=>?_⟩
    · rcases List.mem_append.mp ha with z | z
      · exact hG.above a z
      · rw [List.mem_singleton.mp z];exact hIl
    · by_cases hj:j < as.length
      · rw [List.getElem?_append_left hj] at e
        obtain⟨e',q1,q2⟩:=hG.pairs j a e
        have hlo:=hG.above a (List.mem_of_getElem? e)
        exact⟨e',q1,oth _ _ _ (Nat.ne_of_gt (Nat.lt_trans hSI hlo)) (kp _ _ (Nat.ne_of_gt hlo) q2)⟩
      · have hj2:j = as.length:=by have:=(List.getElem?_eq_some_iff.mp e).1;rw [List.length_append] at this;simp at this;omega
        subst hj2
        rw [List.getElem?_append_right (Nat.le_refl _),Nat.sub_self] at e
        have e:some s.heap.objs.size = some a:=e
        cases e
        exact⟨es[i],by rw [hl];exact Array.getElem?_eq_getElem hlt,oth _ _ _ (Nat.ne_of_gt (Heap.lt_size hS)) t⟩
   refine wpAny_bind (wpAny_updateSeq hS' rfl (wpAny_pure ⟨plainId_quiet F.plain_extend_loop _,ih (i + 1) _ (acc.push (.ref s.heap.objs.size)) _ (as ++ [s.heap.objs.size]) (by omega) hlt (st'.keep (Nat.ne_of_gt hSI) (oth _))
    ((hm.at' fun o e=>kp d o (Nat.ne_of_lt (Nat.lt_trans hd hSI)) e).at' fun o e=>oth _ d o (Nat.ne_of_lt hd) e) (Heap.get?_update_self _ hS' rfl) (by rw [Array.toList_push,hacc,List.map_append];rfl) (by rw [List.length_append,hl];rfl) hG'
    fun h2 acc' c' as' kp' q1 q2 q3 q4=>hR h2 acc' c' as' (fun b o hb1 hb2 e=>kp' b o hb1 hb2 (oth _ b o hb1 (kp b o hb2 e))) q1 q2 q3 q4⟩) (by omega) (by rw [Array.size_push];omega)))
theorem ent_collect {R:List Value->Shared->Prop} (hh:A.handled = none) (hv:s.heap.IsItemsView r d) (hm:EntAt s.heap d es ep) (hn:es.size<=sizeLine)
 (h:∀ (h':Heap) (tk:Nat) (as:List Addr),(∀ b o,s.heap.get? b = some o->h'.get? b = some o)->as.length = es.size->Got es s.heap.objs.size h' as->R (as.map Value.ref) { s with heap:=h',toks:=tk }):wpAny (model prog w) A (collect (.ref r)) R E s:=by
 unfold collect
 refine wpAny_bind (wpAny_runValue (codeAny_builtin entry_proto_collect' ?_));wp_walk
 have pk:∀ b o,s.heap.get? b = some o->(s.heap.push { cls:=.type "list",data:=.seq #[] }).get? b = some o:=fun b o e=>Heap.get?_push_of_some _ e
 have hS1:(s.heap.push { cls:=.type "list",data:=.seq #[] }).get? s.heap.objs.size = some { cls:=.type "list",data:=.seq #[] }:=Heap.get?_push_size _ rfl
 have z1:=Heap.size_push s.heap { cls:=.type "list",data:=.seq #[] }
 have hrl:r < s.heap.objs.size:=let ⟨_,ho,_⟩:=hv;Heap.lt_size ho
 have hdl:=hm.lt
 refine⟨plainId_quiet PySem.F.plain_list_iadd _,codeAny_builtin entry_list_iadd' ?_⟩
 rw [Around.under_plainId PySem.F.plain_list_iadd _];generalize hh1:s.heap.push { cls:=.type "list",data:=.seq #[] } = h1 at pk hS1 z1
 have hv1:Heap.IsItemsView h1 r d:=let ⟨o,ho,x⟩:=hv;⟨o,pk _ _ ho,x⟩
 have hm1:EntAt h1 d es ep:=hm.at' fun o e=>pk _ _ e
 have hT1:Shared.TypeIs { s with heap:=h1 } (.ref r) "dict_items":=Heap.IsItemsView.typeIs (s:={ s with heap:=h1 }) hv1
 wp_walk using wpAny_typeOf hT1
 have nr:Builtin.List.listSameRef (.ref s.heap.objs.size) (.ref r) = false:=by simp [Builtin.List.listSameRef,Nat.ne_of_gt hrl]
 rw [nr]
 refine wpAny_ite_split (fun c=>absurd c (by decide)) fun _=>wpAny_bind (view_iter (s:={ s with heap:=h1 }) hv1 hm1 ?_)
 have hI:(h1.push { cls:=.type "dict_itemiterator",data:=.fields #[.none,.bool false,.ref d,.int 0 0,.int es.size 0,.int ep 0,.none,.none] }).get? h1.objs.size = some { cls:=.type "dict_itemiterator",data:=.fields #[.none,.bool false,.ref d,.int 0 0,.int es.size 0,.int ep 0,.none,.none] }:=Heap.get?_push_size _ rfl
 have pk2:∀ b o,h1.get? b = some o->(h1.push { cls:=.type "dict_itemiterator",data:=.fields #[.none,.bool false,.ref d,.int 0 0,.int es.size 0,.int ep 0,.none,.none] }).get? b = some o:=fun b o e=>Heap.get?_push_of_some _ e
 show wpAny _ _ _ _ _ { s with heap:=h1.push { cls:=.type "dict_itemiterator",data:=.fields #[.none,.bool false,.ref d,.int 0 0,.int es.size 0,.int ep 0,.none,.none] } }
 generalize h1.push { cls:=.type "dict_itemiterator",data:=.fields #[.none,.bool false,.ref d,.int 0 0,.int es.size 0,.int ep 0,.none,.none] } = h2 at hI pk2
 have hv2:Heap.IsItemsView h2 r d:=let ⟨o,ho,x⟩:=hv1;⟨o,pk2 _ _ ho,x⟩
 have hT2:Shared.TypeIs { s with heap:=h2 } (.ref r) "dict_items":=Heap.IsItemsView.typeIs (s:={ s with heap:=h2 }) hv2
 have hm2:EntAt h2 d es ep:=hm1.at' fun o e=>pk2 _ _ e
 have hS2:=pk2 _ _ hS1
 have hSI:s.heap.objs.size < h1.objs.size:=by omega
 have key:∀ (h:Heap) (c:Nat) (R':Result->Shared->Prop),(∀ b o,b≠s.heap.objs.size->h2.get? b = some o->h.get? b = some o)->h.get? s.heap.objs.size = some { cls:=.type "list",data:=.seq #[] c }->
  (∀ (h':Heap) (acc:Array Value) (c':Nat) (as:List Addr),(∀ b o,s.heap.get? b = some o->h'.get? b = some o)->h'.get? s.heap.objs.size = some { cls:=.type "list",dict:=none,data:=.seq acc c',slots:=#[] }->as.length = es.size->Got es s.heap.objs.size h' as->acc.toList = as.map Value.ref->R' (.ok (.ret (.ref s.heap.objs.size))) { s with heap:=h' })->
  codeAny (model prog w) A (.builtin "list.extend.loop" ⟨[.ref s.heap.objs.size,.ref h1.objs.size,.ref s.heap.objs.size],[]⟩) R' { s with heap:=h }:=fun h c R' k hS fin=>by
  refine it_loop (d:=d) (es:=es) (ep:=ep) hh hSI hdl hn es.size 0 { s with heap:=h } #[] c [] (Nat.sub_zero _) (Nat.zero_le _) ⟨_,_,_,_,k _ _ (Nat.ne_of_gt hSI) hI,.inl ⟨rfl,rfl⟩⟩ (hm2.at' fun o e=>k d o (Nat.ne_of_lt hdl) e) hS rfl rfl ⟨List.Pairwise.nil,(fun _ ha=>nomatch ha),fun j a e=>by simp at e⟩ fun h' acc c' as kp q1 q2 q3 q4=>?_
  exact fin h' acc c' as (fun b o e=>kp b o (Nat.ne_of_lt (Heap.lt_size e)) (Nat.ne_of_lt (Nat.lt_trans (Heap.lt_size e) hSI)) (k b o (Nat.ne_of_lt (Heap.lt_size e)) (pk2 _ _ (pk _ _ e)))) q1 q3 ⟨q4.rise,fun a ha=>Nat.lt_trans hSI (q4.above a ha),q4.pairs⟩ q2
 refine wpAny_bind (wpAny_holding (PySem.W.kdx_hint hT2 ?_))
 refine wpAny_ite_split (fun _=>?_) fun _=>?_
 · have u1:=Heap.get?_update_self (Obj.mapSeq (·.push Value.none)) hS2 rfl
   refine wpAny_bind (wpAny_rule (wpAny_bind (wpAny_bind (wpAny_updateSeq hS2 rfl (wpAny_updateSeq (hz:=by seq_fits) u1 rfl (wpAny_pure ⟨plainId_quiet PySem.F.plain_extend_loop _,key _ _ _ (fun b o hb e=>?_) (Heap.get?_update_self (Obj.mapSeq (·.pop)) u1 rfl) fun h' acc c' as k q1 q2 q3 q4=>?_⟩))))))
   · exact (Heap.get?_update_other _ _ hb.symm).trans ((Heap.get?_update_other _ _ hb.symm).trans e)
   · refine wpAny_bind (wpAny_load q1 (wpAny_pure ?_))
     rw [q4];exact h h' _ as k q2 q3
 · refine wpAny_pure ⟨plainId_quiet PySem.F.plain_extend_loop _,key _ _ _ (fun b o _ e=>e) hS2 fun h' acc c' as k q1 q2 q3 q4=>?_⟩
   refine wpAny_bind (wpAny_load q1 (wpAny_pure ?_))
   rw [q4];exact h h' _ as k q2 q3
def pLt (x y:List Int×Int):Bool:=if x.1 = y.1 then decide (x.2 < y.2) else HT.lexLt x.1 y.1
theorem pLt_irr (x:List Int×Int):pLt x x = false:=by unfold pLt;simp
theorem pLt_asy (h:pLt x y = true):pLt y x = false:=by
 unfold pLt at h ⊢
 by_cases e:x.1 = y.1
 · rw [if_pos e] at h;rw [if_pos e.symm];grind
 · rw [if_neg e] at h;rw [if_neg (Ne.symm e)];exact lexLt_asy h
theorem lexLt_ntr (h1:HT.lexLt b a = false) (h2:HT.lexLt c b = false):HT.lexLt c a = false:=by
 cases e:HT.lexLt c a with
 | false=>rfl
 | true=>
  rcases lexLt_total a b with h | h | h
  · have:=lexLt_tr e h;simp_all
  · grind
  grind
theorem pLt_ntr (h1:pLt b a = false) (h2:pLt c b = false):pLt c a = false:=by
 unfold pLt at h1 h2 ⊢
 by_cases e1:b.1 = a.1
 · rw [if_pos e1] at h1
   have h1:=of_decide_eq_false h1
   by_cases e2:c.1 = b.1
   · rw [if_pos e2] at h2
     have h2:=of_decide_eq_false h2
     rw [if_pos (e2.trans e1)]
     exact decide_eq_false (by omega)
   simp_all
 · rw [if_neg e1] at h1
   by_cases e2:c.1 = b.1
   · simp_all
   · rw [if_neg e2] at h2
     by_cases e3:c.1 = a.1
     · rcases lexLt_total a.1 b.1 with h | h | h
       · rw [<- e3,h2] at h;cases h
       · exact absurd h.symm e1
       · rw [h1] at h;cases h
     · rw [if_neg e3];exact lexLt_ntr h1 h2
def pkey (H:Hp):Value->List Int×Int
 | .ref a=>match H a with
  | some (.tup [.ref b,.int n])=>(tkey H (.ref b),n)
  | _=>([],0)
 | _=>([],0)
theorem pkey_of (h:H a = some (.tup [.ref b,.int n])) (hb:H b = some (.tup (w.map V.int))):pkey H (.ref a) = (w,n):=by
 show (match H a with | some (.tup [.ref b,.int n])=>(tkey H _,n) | _=>([],0)) = _
 rw [h]
 show (tkey H _,n) = _
 rw [tkey_of hb]
theorem ord_pair (key:Keyed->List Int×Int):Tim.Ord fun x y=>pLt (key x) (key y):=⟨fun a=>pLt_irr _,fun a b h=>pLt_asy h,fun a b c h1 h2=>pLt_ntr h1 h2⟩
open Classical in
theorem lay_tups {pins:List (Addr×Obj)}{σ:L2.St}{H:Hp}{s:Shared}{h':Heap}{tk:Nat}{as:List Addr}{qs:List (List V)} (I:Inv X pins σ H s) (keep:∀ b o,s.heap.get? b = some o->h'.get? b = some o) (rise:as.Pairwise (· < ·))
 (above:∀ a∈as,s.heap.objs.size<=a) (pairs:∀ (j:Nat) (a:Addr),as[j]? = some a->∃ (q:List V) (its:List Value),qs[j]? = some q/\q.length<=sizeLine/\Vals q its/\h'.get? a = some { cls:=.type "tuple",data:=.seq its.toArray }):
 ∃ H1,Inv X pins σ H1 { s with heap:=h',toks:=tk }/\L2.Same H H1/\∀ (j:Nat) (a:Addr),as[j]? = some a->∃ q:List V,qs[j]? = some q/\H1 a = some (.tup q):=by
 have ndp:∀ {i j:Nat}{a:Addr},as[i]? = some a->as[j]? = some a->i = j:=fun {i j a} h1 h2=>by
  obtain⟨l1,e1⟩:=List.getElem?_eq_some_iff.mp h1
  obtain⟨l2,e2⟩:=List.getElem?_eq_some_iff.mp h2
  rcases Nat.lt_trichotomy i j with z | z | z
  · have:=List.pairwise_iff_getElem.mp rise i j l1 l2 z;rw [e1,e2] at this;exact absurd this (Nat.lt_irrefl _)
  · exact z
  · have:=List.pairwise_iff_getElem.mp rise j i l2 l1 z;rw [e1,e2] at this;exact absurd this (Nat.lt_irrefl _)
 let H1:Hp:=fun b=>if h:∃ q:List V,∃ j:Nat,as[j]? = some b/\qs[j]? = some q then some (.tup h.choose) else H b
 have at1:∀ {j:Nat}{a:Addr}{q:List V},as[j]? = some a->qs[j]? = some q->H1 a = some (.tup q):=fun {j a q} h1 h2=>by
  have h:∃ q:List V,∃ j:Nat,as[j]? = some a/\qs[j]? = some q:=⟨q,j,h1,h2⟩
  show (if h:∃ q:List V,∃ j:Nat,as[j]? = some a/\qs[j]? = some q then some (HO.tup h.choose) else H a) = _
  rw [dif_pos h]
  obtain⟨i,h3,h4⟩:=h.choose_spec
  have e:=ndp h1 h3
  subst e
  rw [h2] at h4
  rw [<- Option.some.inj h4]
 have off:∀ {b:Addr},b < s.heap.objs.size->H1 b = H b:=fun {b} hb=>by
  show (if h:∃ q:List V,∃ j:Nat,as[j]? = some b/\qs[j]? = some q then some (HO.tup h.choose) else H b) = _
  rw [dif_neg]
  rintro⟨q,j,h1,_⟩
  exact absurd hb (Nat.not_lt.mpr (above b (List.mem_of_getElem? h1)))
 have old:∀ {b:Addr}{v:HO},H b = some v->b < s.heap.objs.size:=fun {b v} e=>by
  by_cases hb:b < s.heap.objs.size
  · exact hb
  · rw [I.hok.fresh (Nat.le_of_not_lt hb)] at e;cases e
 refine⟨H1,?_,fun b v e=>(off (old e)).trans e,fun j a h=>?_⟩
 · refine I.step (g':=s.gens) (d':=s.drawn) (t':=tk) (ch:=[]) (fun b hb=>nomatch hb) (fun b ob _ _ _ q _=>keep b ob q) (fun b ob _ _ _ q _=>⟨ob.slots,keep b ob q⟩) (fun b ob _ q n=>(off (Heap.lt_size q)).trans n) (fun b ob _ q=>⟨ob,keep b ob q⟩)
    (fun b v q=>(off (old q)).trans q) (fun b v v' q=>(off (old q)).trans q) (fun b v q=>⟨#[],by rw [off (old q),q];simp⟩) (fun m hm=>?_) (fun b v q=>?_) I.bare
   · obtain⟨ob,es,ep,ho,r⟩:=hm
     exact⟨ob,es,ep,keep _ ob ho,r⟩
   · by_cases hb:b < s.heap.objs.size
     · rw [off hb] at q
       exact (I.hok b v q).stay (fun c' ob hc' q'=>keep c' ob q') (fun c' q'=>(off (old q')).trans q') fun c' vs q'=>(off (old q')).trans q'
     · have q':(if h:∃ q:List V,∃ j:Nat,as[j]? = some b/\qs[j]? = some q then some (HO.tup h.choose) else H b) = some v:=q
       by_cases hx:∃ q:List V,∃ j:Nat,as[j]? = some b/\qs[j]? = some q
       · obtain⟨p,j,h1,h2⟩:=hx
         rw [at1 h1 h2] at q
         cases q
         obtain⟨p',its,h3,hz,hv,h4⟩:=pairs j b h1
         rw [h2] at h3
         cases h3
         exact⟨hz,its,hv,⟨_,h4,rfl,_,rfl⟩⟩
       · rw [dif_neg hx] at q'
         exact absurd (old q') hb
 · obtain⟨q,_,h2,_⟩:=pairs j a h
   exact⟨q,h2,at1 h h2⟩
def upD (t b:Int):Int:=-(-t / b)
def mostN (need s m:Int) (zs:List Int):Int:=min m (upD (need - zs.sum) s)
def tooLong (need s m more:Int) (rows:List (List Int)):Prop:=∃ r∈rows,r.sum < need/\need<=r.sum + more/\60 < (r.length:Int) + mostN need s m r
instance (need s m more:Int) (rows:List (List Int)):Decidable (tooLong need s m more rows):=by unfold tooLong;exact inferInstance
theorem s_augSub {i:Nat}{x:Str}{e:Expr}{te:TE}{pos pos':Pos} (hi:At X.N i x) (hN:X.N.Nodup) (hx:Loc X.env.scope x) (hf:X.fn x = true) (he:JE X e te):JS X (.AugAssign (.Name x pos') .Sub e pos) (tAug i te (ipI fun i j=>i - j)):=
 ⟨ps_aug hN hi.get hx he.h ip_sub (.inl hf)⟩
def ValsO (v a:Addr):HO:=.ext fun h=>h.get? v = some { cls:=.type "dict_values",data:=.fields #[.ref a] }
def tVals (td:TE):TE:=fun σ H Q=>td σ H fun x H1=>∃ a kvs,x = .ref a/\H1 a = some (.dK kvs)/\∀ v H2,H1 v = none->L2.Same H1 H2->H2 v = some (ValsO v a)->Q (.ref v) H2
theorem pe_values (ho:PE X o td) (m:M0 X o "values" apos cpos):PE X (.Call (.Attribute o "values" apos) [] [] cpos) (tVals td):=by
 intro pins s σ H R I h
 refine wpAny_Call_method m.base m.few m.line PySem.F.plainAttrs_dict PySem.F.slot_dict_values PySem.F.type_dict_values (thn (ho pins s σ H _ I h) fun u s1 ⟨x,H1,I1,rx,a,kvs,ex,e,q1⟩=>?_)
 subst ex
 obtain rfl:u = Value.ref a:=rx
 obtain⟨t1,t2,t3⟩:=isD_at I1 (.inl ⟨kvs,.inl e⟩)
 refine⟨t1,t2,?_⟩
 rw [m.trees]
 obtain⟨z,hd,vs,rel,dd⟩:=dk_of I1.hok e
 refine Calls.callWith_builtin rfl (PySem.evalArgs_none ?_)
 refine call_meetsIn PySem.F.slot_dict_values t1 PySem.F.entry_dict_values (PySem.F.args_dict_values_1 _) (meets_dict_values _ a t3) ⟨⟨vs,dd⟩,?_⟩
 have hn:=I1.hok.fresh (Nat.le_refl _)
 refine⟨.ref s1.heap.objs.size,_,I1.laid (t':=s1.toks) (fun b ob e=>Heap.get?_push_of_some _ e) (Nat.le_refl _) ?_,rfl,q1 _ _ hn (Br.Same.upd hn) upd_same⟩
 exact⟨Heap.get?_push_size _ rfl,⟨_,Heap.get?_push_size _ rfl⟩,fun h1 h2 q k=>k _ q⟩
theorem k_values (h1:attributeBase o "values" X.env (eval o X.env) = eval o X.env)
 (h2:((backTo cpos (starEach [] X.env)).all (fun x=>!x.1) && (backToKw cpos (keywordEach [] X.env)).all (fun x=>x.1.isSome)
  && decide (([]:List Expr).length + ([]:List Keyword).length + (if ([]:List Keyword).isEmpty then 0 else 1) < 30)) = true) (h3:(apos.endLine == cpos.line) = true) (h4:backTo cpos (starEach [] X.env) = []) (ho:JE X o td):
 JE X (.Call (.Attribute o "values" apos) [] [] cpos) (tVals td):=⟨pe_values ho.h ⟨h1,h2,h3,h4⟩⟩
def rSumV:List V->Hp->VK->Prop:=fun xs H Q=>∃ (v a:Addr) (kvs:List (Key×V)) (ns:List Int),xs = [.ref v]/\H v = some (ValsO v a)/\H a = some (.dK kvs)/\kvs.map (·.2) = ns.map V.int/\Q (.int ns.sum) H
theorem call_sumV {X:Cx} (hc:X.calm = true):CallR X (.builtin "sum") rSumV:=by
 intro pins s σ H xs us Q I r h
 obtain⟨v,a,kvs,ns,rfl,hv,ha,hns,q⟩:=h
 obtain⟨u,rfl,rx⟩:=vals1 r
 cases rx
 have ev:s.heap.get? v = some { cls:=.type "dict_values",data:=.fields #[.ref a] }:=(I.hok v _ hv).1
 obtain⟨z,hd,vs,rel,dd⟩:=dk_of I.hok ha
 obtain⟨ob,ds,ep,g,ex,dt,rest⟩:=dd
 have al:=Heap.lt_size g
 have hkl:vs.length = ns.length:=by rw [<- rel.length,<- List.length_map (f:=(·.2)),hns,List.length_map]
 refine call_sum_walkAnyS (wpAny_pyIter_values (knd:=mixKind X.prog X.w) (kvs:=vs) (ep:=ep) ⟨_,ev,rfl,rfl⟩ ⟨ob,ds,g,ex,dt,rest⟩ ?_)
 have gp:∀ b o',s.heap.get? b = some o'->∀ n,(s.heap.push n).get? b = some o':=fun b o' q n=>Heap.get?_push_of_some _ q
 refine⟨s.heap.objs.size,_,_,_,_,_,_,fun i=>ns.getD i 0,rfl,(Walks.dictValues (knd:=mixKind X.prog X.w) (A:=X.A.in1) (I.ok.hd hc) s.heap.objs.size a (Nat.ne_of_lt al) vs ep).toS,⟨⟨_,Heap.get?_push_size _ rfl,rfl,rfl⟩,⟨ob,ds,gp _ _ g _,ex,dt,rest⟩⟩,fun b hb=>?_,fun i v e=>?_,fun s' t' hm=>?_⟩
 · show b < (s.heap.push _).objs.size
   rw [Heap.size_push]
   rcases List.mem_cons.mp hb with e | hb
   · rw [e];exact Nat.lt_succ_self _
   · rw [List.mem_singleton.mp hb];exact Nat.lt_succ_of_lt al
 · obtain⟨k,hk⟩:=e
   have hi:i < vs.length:=(List.getElem?_eq_some_iff.mp hk).1
   have hkv:kvs[i]? = some (kvs[i]'(by rw [rel.length];exact hi)):=List.getElem?_eq_getElem _
   obtain⟨v',h1,h2⟩:=kvGet rel hkv
   rw [hk] at h1
   have e2:v = v':=(Prod.mk.inj (Option.some.inj h1)).2
   subst e2
   have hn:ns[i]? = some (ns[i]'(by rw [<- hkl];exact hi)):=List.getElem?_eq_getElem _
   have h3:=congrArg (fun l:List V=>l[i]?) hns
   simp only [List.getElem?_map,hkv,hn,Option.map_some] at h3
   rw [Option.some.inj h3] at h2
   obtain⟨t,rfl⟩:=h2
   exact⟨t,by show Value.int _ t = Value.int (ns.getD i 0) t;rw [List.getD_eq_getElem?_getD,hn];rfl⟩
 · rw [hkl,preSum_take ns _ (Nat.le_refl _),List.take_length]
   have hk:∀ b o,s.heap.get? b = some o->s'.heap.get? b = some o:=fun b o e=>hm.heap b o (fun hI=>absurd (Heap.lt_size e) (by rw [List.mem_singleton.mp hI];exact Nat.lt_irrefl _)) (Heap.get?_push_of_some _ e)
   rw [Moved.eq_with hm]
   exact⟨.int ns.sum,H,I.kept hk,⟨t',rfl⟩,q⟩
theorem k_sumV (hg:Gl X x) (he:starEach (e :: es) X.env = (false,eval e X.env) :: starEach es X.env) (hpl:(backTo pos (starEach es X.env)).any (·.1) = false) (hx:x = "sum") (hc:X.calm = true) (hm:X.mg x = none) (ha:JA X (e :: es) t):JE X (.Call (.Name x p) (e :: es) [] pos) (tCB rSumV t):=⟨by subst hx;exact pe_callB (call_sumV hc) hg hm boot_sum' ha.h (by decide) (by decide) he hpl⟩
end Br
namespace Br
open PySem PySem.Spec PyProof.Rows L2
end Br
namespace Br
def vT (ks:List (List Int×Int)):List (List Key×V):=ks.map fun q=>(q.1.map Sum.inl,V.int q.2)
theorem inl_inj {a b:List Int} (h:(a.map Sum.inl:List Key) = b.map Sum.inl):a = b:=(List.map_inj_right fun _ _ h=>Sum.inl.inj h).mp h
theorem kV_inl (u:List Int):((u.map Sum.inl:List Key).map kV) = u.map V.int:=by rw [List.map_map];rfl
def tlook:List (List Int×Int)->List Int->Option Int
 | [],_=>none
 | q :: ks,n=>if q.1 = n then some q.2 else tlook ks n
def tput:List (List Int×Int)->List Int->Int->List (List Int×Int)
 | [],n,m=>[(n,m)]
 | q :: ks,n,m=>if q.1 = n then (n,m) :: ks else q :: tput ks n m
theorem val_vT:∀ (ks:List (List Int×Int)) (n:List Int),valV (vT ks) (n.map Sum.inl) = (tlook ks n).map V.int
 | [],_=>rfl
 | q :: ks,n=>by
  have e0:vT (q :: ks) = ((q.1.map Sum.inl:List Key),V.int q.2) :: vT ks:=rfl
  by_cases e:q.1 = n
  · rw [e0,valV_pos (by rw [e])]
    show _ = Option.map V.int (if q.1 = n then some q.2 else tlook ks n)
    simp_all
  · rw [e0,valV_neg (fun z=>e (inl_inj z)),val_vT ks n]
    show _ = Option.map V.int (if q.1 = n then some q.2 else tlook ks n)
    simp_all
theorem vT_keys (ks:List (List Int×Int)) (n:List Int):((vT ks).any fun p=>decide (p.1 = (n.map Sum.inl:List Key))) = decide (n∈ks.map (·.1)):=by
 induction ks with
 | nil=>rfl
 | cons q ks ih=>
  show (decide ((q.1.map Sum.inl:List Key) = n.map Sum.inl) || (vT ks).any fun p=>decide _) = _
  rw [ih]
  by_cases e:q.1 = n
  · rw [decide_eq_true (by rw [e]),decide_eq_true (show n∈(q :: ks).map _ by rw [<- e];exact .head _)];rfl
  · rw [decide_eq_false (fun z=>e (inl_inj z))]
    show decide _ = decide _
    by_cases h:n∈ks.map (·.1)
    · rw [decide_eq_true h,decide_eq_true (.tail _ h)]
    · rw [decide_eq_false h,decide_eq_false (fun z=>by
       rcases List.mem_cons.mp z with z | z
       · grind
       · exact h z)]
theorem tput_in:∀ {ks:List (List Int×Int)}{n:List Int} (m:Int),(ks.map (·.1)).Nodup->n∈ks.map (·.1)->tput ks n m = ks.map fun q=>if q.1 = n then (q.1,m) else q
 | q :: ks,n,m,nd,h=>by
  rw [List.map_cons,List.nodup_cons] at nd
  show (if q.1 = n then (n,m) :: ks else q :: tput ks n m) = _
  by_cases e:q.1 = n
  · rw [if_pos e,List.map_cons,if_pos e,e]
    congr 1
    have hn:n∉ks.map (·.1):=by rw [<- e];exact nd.1
    clear nd h
    induction ks with
    | nil=>rfl
    | cons r ks ih=>rw [List.map_cons,if_neg (fun z=>hn (by grind)),<- ih fun z=>hn (.tail _ z)]
  · rw [if_neg e,List.map_cons,if_neg e]
    rcases List.mem_cons.mp h with z | z
    · simp_all
    · rw [tput_in m nd.2 z]
theorem tput_out:∀ {ks:List (List Int×Int)}{n:List Int} (m:Int),n∉ks.map (·.1)->tput ks n m = ks ++ [(n,m)]
 | [],_,_,_=>rfl
 | q :: ks,n,m,h=>by
  show (if q.1 = n then (n,m) :: ks else q :: tput ks n m) = _
  rw [if_neg (fun z=>h (by rw [<- z];exact .head _)),tput_out m fun z=>h (.tail _ z)];rfl
theorem put_vT (n:List Int) (m:Int) (nd:(ks.map (·.1)).Nodup):putK (vT ks) (n.map Sum.inl) (.int m) = vT (tput ks n m):=by
 unfold putK
 rw [vT_keys]
 by_cases h:n∈ks.map (·.1)
 · rw [if_pos (decide_eq_true h),tput_in m nd h]
   unfold vT
   rw [List.map_map,List.map_map]
   refine List.map_congr_left fun q _=>?_
   by_cases e:q.1 = n
   · simp [e]
   · have h2:=fun z=>e (inl_inj z)
     simp_all
 · rw [if_neg (fun z=>h (of_decide_eq_true z)),tput_out m h]
   unfold vT
   simp
theorem tput_keys:∀ (ks:List (List Int×Int)) (n:List Int) (m:Int),(tput ks n m).map (·.1) = if n∈ks.map (·.1) then ks.map (·.1) else ks.map (·.1) ++ [n]
 | [],n,m=>by rfl
 | q :: ks,n,m=>by
  show (if q.1 = n then (n,m) :: ks else q :: tput ks n m).map _ = _
  by_cases e:q.1 = n
  · rw [if_pos e,if_pos (by rw [<- e];exact .head _),List.map_cons,List.map_cons,e]
  · rw [if_neg e,List.map_cons,List.map_cons,tput_keys ks n m]
    grind
theorem tput_nodup (n:List Int) (m:Int) (nd:(ks.map (·.1)).Nodup):((tput ks n m).map (·.1)).Nodup:=by
 rw [tput_keys]
 split
 · omega
 · rename_i h
   refine List.nodup_append.mpr ⟨nd,List.nodup_cons.mpr ⟨fun h=>(nomatch h),List.nodup_nil⟩,fun a ha b hb=>?_⟩
   rw [List.mem_singleton.mp hb]
   exact fun e=>h (by rw [<- e];omega)
theorem tput_len:∀ (ks:List (List Int×Int)) (n:List Int) (m:Int),(tput ks n m).length<=ks.length + 1
 | [],n,m=>by show 1<=_;omega
 | q :: ks,n,m=>by
  show (if q.1 = n then (n,m) :: ks else q :: tput ks n m).length<=_
  have:=tput_len ks n m
  grind
theorem tput_mem:∀ {ks:List (List Int×Int)}{n:List Int}{m:Int}{q:List Int×Int},q∈tput ks n m->q∈ks\/q = (n,m)
 | [],n,m,q,h=>.inr (List.mem_singleton.mp h)
 | r :: ks,n,m,q,h=>by
  have h:q∈(if r.1 = n then (n,m) :: ks else r :: tput ks n m):=h
  by_cases e:r.1 = n
  · rw [if_pos e] at h
    rcases List.mem_cons.mp h with z | z
    · exact .inr z
    simp_all
  · rw [if_neg e] at h
    rcases List.mem_cons.mp h with z | z
    · simp_all
    · rcases tput_mem z with y | y
      · exact .inl (.tail _ y)
      · exact .inr y
theorem tlook_some:∀ {ks:List (List Int×Int)}{n:List Int}{c:Int},tlook ks n = some c->(n,c)∈ks
 | q :: ks,n,c,h=>by
  have h:(if q.1 = n then some q.2 else tlook ks n) = some c:=h
  by_cases e:q.1 = n
  · grind
  · rw [if_neg e] at h;exact .tail _ (tlook_some h)
def wsum (g:List Int->Int) (ks:List (List Int×Int)):Int:=(ks.map fun q=>q.2 * g q.1).sum
theorem wsum_nil (g:List Int->Int):wsum g [] = 0:=rfl
theorem wsum_cons (g:List Int->Int) (q:List Int×Int) (ks:List (List Int×Int)):wsum g (q :: ks) = q.2 * g q.1 + wsum g ks:=rfl
theorem wsum_append (g:List Int->Int):∀ (a b:List (List Int×Int)),wsum g (a ++ b) = wsum g a + wsum g b
 | [],b=>by rw [List.nil_append,wsum_nil,Int.zero_add]
 | q :: a,b=>by rw [List.cons_append,wsum_cons,wsum_cons,wsum_append g a b,Int.add_assoc]
theorem wsum_tput (g:List Int->Int):∀ (ks:List (List Int×Int)) (n:List Int) (m:Int),wsum g (tput ks n ((tlook ks n).getD 0 + m)) = wsum g ks + m * g n
 | [],n,m=>by
  show wsum g [(n,0 + m)] = _
  rw [wsum_cons,wsum_nil];simp
 | q :: ks,n,m=>by
  show wsum g (if q.1 = n then (n,(if q.1 = n then some q.2 else tlook ks n).getD 0 + m) :: ks else q :: tput ks n ((if q.1 = n then some q.2 else tlook ks n).getD 0 + m)) = _
  by_cases e:q.1 = n
  · rw [if_pos e,if_pos e,wsum_cons,wsum_cons,e]
    grind
  · rw [if_neg e,if_neg e,wsum_cons,wsum_cons,wsum_tput g ks n m];omega
theorem perm_sum {a b:List Int} (h:a.Perm b):a.sum = b.sum:=by
 induction h with
 | nil=>rfl
 | cons x _ ih=>simp_all
 | swap x y l=>simp;omega
 | trans _ _ h1 h2=>grind
theorem wsum_perm (g:List Int->Int) (h:a.Perm b):wsum g a = wsum g b:=by
 exact perm_sum (h.map _)
def RisT (fs:List (List Int×Int)):Prop:=fs.Pairwise fun a b=>HT.lexLt a.1 b.1 = true
theorem risT_uniq:∀ {a b:List (List Int×Int)},RisT a->RisT b->a.Perm b->a = b
 | [],b,_,_,h=>by simp_all
 | q :: a,[],_,_,h=>by simp_all
 | q :: a,r :: b,h1,h2,h=>by
  have h1':=List.pairwise_cons.mp h1
  have h2':=List.pairwise_cons.mp h2
  have e:q = r:=by
   rcases List.mem_cons.mp (h.mem_iff.mp (.head _)) with z | z
   · grind
   · rcases List.mem_cons.mp (h.mem_iff.mpr (.head _)) with y | y
     · grind
     · have u:=h2'.1 q z
       have v:=h1'.1 r y
       rw [lexLt_asy u] at v;grind
  subst e
  rw [risT_uniq h1'.2 h2'.2 h.cons_inv]
theorem risT_of {us:List (List Int)} (nd:us.Nodup) (h:us.Pairwise fun u v=>HT.lexLt v u = false):us.Pairwise fun u v=>HT.lexLt u v = true:=by
 refine (h.and nd).imp fun {a b} ⟨h1,h2⟩=>?_
 rcases lexLt_total a b with z | z | z
 · omega
 · exact absurd z h2
 grind
theorem sort_itemsT (nd:(ks.map (·.1)).Nodup) (hp:qs.Perm ks) (hs:qs.Pairwise fun u v=>pLt v u = false):RisT qs:=by
 have nd':=(hp.map _).nodup_iff.mpr nd
 have h:=risT_of nd' (by
  rw [List.pairwise_map]
  refine hs.imp fun {a b} h=>?_
  unfold pLt at h
  by_cases e:b.1 = a.1
  · rw [e];exact lexLt_irr _
  simp_all)
 rw [List.pairwise_map] at h
 exact h
def leanL (need:Int):List Int->List Int
 | []=>[]
 | z :: zs=>if need<=zs.sum then leanL need zs else z :: zs
theorem leanL_suf (need:Int):∀ zs:List Int,leanL need zs <:+ zs
 | []=>List.suffix_refl _
 | z :: zs=>by
  show (if need<=zs.sum then leanL need zs else z :: zs) <:+ _
  split
  · exact (leanL_suf need zs).trans (List.suffix_cons z zs)
  simp
theorem leanL_full:∀ {zs:List Int},need<=zs.sum->need<=(leanL need zs).sum
 | [],h=>h
 | z :: zs,h=>by
  show need<=(if need<=zs.sum then leanL need zs else z :: zs).sum
  by_cases e:need<=zs.sum
  · rw [if_pos e];exact leanL_full e
  · rw [if_neg e];omega
theorem leanL_ne (hn:1<=need) (h:need<=zs.sum):leanL need zs≠[]:=fun e=>by
 have:=leanL_full h
 grind
def leanK (need:Int) (fs:List (List Int×Int)):List (List Int×Int):=fs.foldl (fun ks f=>tput ks (leanL need f.1) ((tlook ks (leanL need f.1)).getD 0 + f.2)) []
theorem leanK_snoc (need:Int) (fs:List (List Int×Int)) (f:List Int×Int):leanK need (fs ++ [f]) = tput (leanK need fs) (leanL need f.1) ((tlook (leanK need fs) (leanL need f.1)).getD 0 + f.2):=by
 unfold leanK;simp
theorem leanK_take {fs:List (List Int×Int)} (e:fs[i]? = some f):leanK need (fs.take (i + 1)) = tput (leanK need (fs.take i)) (leanL need f.1) ((tlook (leanK need (fs.take i)) (leanL need f.1)).getD 0 + f.2):=by
 rw [List.take_add_one,e];exact leanK_snoc need _ f
theorem snoc_ind {α:Type}{p:List α->Prop} (h0:p []) (h1:∀ l a,p l->p (l ++ [a])):∀ l,p l:=fun l=>by
 rw [<- List.reverse_reverse l]
 induction l.reverse with
 | nil=>exact h0
 | cons a r ih=>simp_all
theorem leanK_nodup (need:Int) (fs:List (List Int×Int)):((leanK need fs).map (·.1)).Nodup:=
 snoc_ind (p:=fun fs=>((leanK need fs).map _).Nodup) List.nodup_nil (fun l a ih=>by rw [leanK_snoc];exact tput_nodup _ _ ih) fs
theorem leanK_len (need:Int) (fs:List (List Int×Int)):(leanK need fs).length<=fs.length:=
 snoc_ind (p:=fun fs=>(leanK need fs).length<=fs.length) (Nat.le_refl _) (fun l a ih=>by rw [leanK_snoc,List.length_append];have:=tput_len (leanK need l) (leanL need a.1) ((tlook (leanK need l) (leanL need a.1)).getD 0 + a.2);grind) fs
theorem leanK_mem (hp:∀ f∈fs,1<=f.2):∀ q∈leanK need fs,1<=q.2/\∃ f∈fs,q.1 = leanL need f.1:=
 snoc_ind (p:=fun fs=>(∀ f∈fs,1<=f.2)->∀ q∈leanK need fs,1<=q.2/\∃ f∈fs,q.1 = leanL need f.1) (fun _ q hq=>(nomatch hq)) (fun l a ih hp q hq=>by
  have ih:=ih fun f hf=>hp f (List.mem_append_left _ hf)
  have ha:=hp a (List.mem_append_right _ (.head _))
  rw [leanK_snoc] at hq
  rcases tput_mem hq with z | z
  · obtain⟨h1,f,h2,h3⟩:=ih q z
    exact⟨h1,f,List.mem_append_left _ h2,h3⟩
  · refine⟨?_,a,List.mem_append_right _ (.head _),by rw [z]⟩
    rw [z]
    cases e:tlook _ _ with
    | none=>grind
    | some c=>have h1:=(ih _ (tlook_some e)).1;grind) fs hp
theorem leanK_sum (need:Int) (fs:List (List Int×Int)):((leanK need fs).map (·.2)).sum = (fs.map (·.2)).sum:=by
 have w:∀ ks,wsum (fun _=>1) ks = (ks.map (·.2)).sum:=fun ks=>by unfold wsum;simp
 rw [<- w,<- w]
 exact snoc_ind (p:=fun fs=>wsum _ (leanK need fs) = wsum _ fs) rfl (fun l a ih=>by rw [leanK_snoc,wsum_tput,ih,wsum_append,wsum_cons,wsum_nil,Int.add_zero]) fs
def IsLean (need:Int) (fs gs:List (List Int×Int)):Prop:=RisT gs/\gs.Perm (leanK need fs)
theorem IsLean.uniq (h1:IsLean need fs a) (h2:IsLean need fs b):a = b:=risT_uniq h1.1 h2.1 (h1.2.trans h2.2.symm)
def cntF (fs:List (List Int×Int)) (n:Int):Int:=wsum (fun l=>((l.count n:Nat):Int)) fs
theorem cntF_append (a b:List (List Int×Int)) (n:Int):cntF (a ++ b) n = cntF a n + cntF b n:=wsum_append _ a b
theorem cntF_one (f:List Int×Int) (n:Int):cntF [f] n = f.2 * ((f.1.count n:Nat):Int):=by unfold cntF;rw [wsum_cons,wsum_nil,Int.add_zero]
theorem tail_cut {zs:List Int}:cutV (zs.map V.int) (some 1) none = zs.tail.map V.int:=by
 unfold cutV
 rw [show (some (1:Int)) = some ((1:Nat):Int) from rfl,HT.sIx_nat,HT.sIx_none]
 cases zs with
 | nil=>rfl
 | cons a r=>simp;rw [List.take_of_length_le (by simp)]
theorem tail_no (h:zs≠[]):¬ (HT.sIx (zs.map V.int).length 0 (some 1) = 0/\HT.sIx (zs.map V.int).length (zs.map V.int).length none = (zs.map V.int).length):=by
 rintro⟨z,_⟩
 have:=List.length_pos_iff.mpr h
 rw [show (some (1:Int)) = some ((1:Nat):Int) from rfl,HT.sIx_nat,List.length_map] at z
 omega
theorem leanL_step (h:n<=r.sum):leanL n (z :: r) = leanL n r:=if_pos h
theorem leanL_end (h:¬ n<=r.sum):leanL n (z :: r) = z :: r:=if_neg h
namespace DK
theorem vals_refs:∀ (as:List Addr) (l:List Value),Vals (as.map V.ref) l->l = as.map Value.ref
 | [],l,r=>by cases r;rfl
 | a :: as,l,r=>by
  cases r with
  | cons h t=>rw [vals_refs as _ t,List.map_cons];cases h;rfl
end DK
namespace Kas
open PySem.W
structure Rel (rel:Nat->Nat->Bool):Prop where
 irr:∀ a,rel a a = false
 asy:∀ a b,rel a b = true->rel b a = false
 tr:∀ a b c,rel b a = false->rel c b = false->rel c a = false
abbrev g (p:Array Nat) (k:Nat):Nat:=p.getD k 0
def Up (rel:Nat->Nat->Bool) (p:Array Nat) (m:Nat):Prop:=∀ i j,i<=j->j < m->rel (g p j) (g p i) = false
def Dn (rel:Nat->Nat->Bool) (p:Array Nat) (m:Nat):Prop:=∀ i j,i<=j->j < m->rel (g p i) (g p j) = false
theorem Up.one (R:Rel rel):Up rel p 1:=fun i j a b=>by
 obtain rfl:i = 0:=by omega
 obtain rfl:j = 0:=by omega
 exact R.irr _
theorem Up.more (R:Rel rel) (h:Up rel p m) (m1:1<=m) (e:rel (g p m) (g p (m - 1)) = false):Up rel p (m + 1):=fun i j a b=>by
 by_cases z:j < m
 · exact h i j a z
 obtain rfl:j = m:=by omega
 by_cases y:i = j
 · rw [y];exact R.irr _
 · exact R.tr _ _ _ (h i _ (by omega) (by omega)) e
theorem Dn.more (R:Rel rel) (h:Dn rel p m) (m1:1<=m) (e:rel (g p (m - 1)) (g p m) = false):Dn rel p (m + 1):=fun i j a b=>by
 by_cases z:j < m
 · exact h i j a z
 obtain rfl:j = m:=by omega
 by_cases y:i = j
 · rw [y];exact R.irr _
 · exact R.tr _ _ _ e (h i _ (by omega) (by omega))
theorem g_rev (hj:j<=p.size) (k:Nat):g (kas_rev p i j) k = if i<=k/\k < j then g p (i + j - 1 - k) else g p k:=by
 have h:=getElem?_mirror_all (i:=i) hj k
 unfold g kas_rev
 rw [Array.getD_eq_getD_getElem?,h]
 split <;> rw [Array.getD_eq_getD_getElem?]
theorem Dn.up (h:Dn rel p m) (hm:m<=p.size):Up rel (kas_rev p 0 m) m:=fun i j a b=>by
 rw [g_rev hm,g_rev hm,if_pos (by omega),if_pos (by omega)]
 exact h _ _ (by omega) (by omega)
theorem Up.dn (h:Up rel p m) (hm:m<=p.size):Dn rel (kas_rev p 0 m) m:=fun i j a b=>by
 rw [g_rev hm,g_rev hm,if_pos (by omega),if_pos (by omega)]
 exact h _ _ (by omega) (by omega)
theorem Dn.rev (h:Dn rel p m) (hm:m<=p.size) (he:∀ i j,a<=i->i < m->a<=j->j < m->rel (g p i) (g p j) = false):Dn rel (kas_rev p a m) m:=fun i j x y=>by
 rw [g_rev hm,g_rev hm]
 split <;> split
 · exact he _ _ (by omega) (by omega) (by omega) (by omega)
 · omega
 · exact h _ _ (by omega) (by omega)
 · exact h _ _ x y
structure Z where
 prog:Program
 w:World
 A:Around
 s:Shared
 κ:SortKind
 it:Array Keyed
abbrev Z.cmp (z:Z):Nat->Nat->(Bool->Shared->Prop)->Shared->Prop:=kas_cmp z.prog z.w z.A z.κ z.it
structure T (z:Z) (t:KasT α) (G:α->Prop):Prop where
 h:KasT.kasWp z.cmp t (fun a s'=>s' = z.s/\G a) z.s
theorem T.ret {a:α} (h:G a):T z (.ret a) G:=⟨⟨rfl,h⟩⟩
theorem T.bind {t:KasT α}{R:β->Prop} (h:T z t G) (k:∀ a,G a->T z (f a) R):T z (t.bind f) R:=⟨by
 rw [KasT.kasWp_bind]
 exact kas_wp_mono h.h fun a s' ⟨e,g⟩=>e▸(k a g).h⟩
structure Ok (z:Z) (rel:Nat->Nat->Bool) (n:Nat):Prop where
 R:Rel rel
 n2:0 < n
 ask:∀ i j (C:Bool->Shared->Prop),i < n->j < n->C (rel i j) z.s->z.cmp i j C z.s
def Ar (n:Nat) (p:Array Nat):Prop:=p.size = n/\p.toList.Perm (List.range n)
theorem Ar.lt (a:Ar n p) (h:0 < n) (k:Nat):g p k < n:=by
 unfold g
 rw [Array.getD_eq_getD_getElem?]
 cases e:p[k]? with
 | none=>exact h
 | some x=>
  have h1:=by
   have e1:p.toList[k]? = some x:=by simp_all
   exact List.mem_of_getElem? e1
  exact List.mem_range.mp (a.2.mem_iff.mp h1)
theorem Ar.rev (a:Ar n p) (i j:Nat):Ar n (kas_rev p i j):=⟨(kas_rev_size i j).trans a.1,(Array.perm_iff_toList_perm.mp (mirror_perm _ _ _ _)).trans a.2⟩
theorem T.ask (O:Ok z rel n) (a:Ar n p) {G:α->Prop} (h:T z (k (rel (g p x) (g p y))) G):T z (.ask (p.getD x 0) (p.getD y 0) k) G:=
 ⟨by exact O.ask _ _ _ (a.lt O.n2 x) (a.lt O.n2 y) h.h⟩
theorem asc_ok (O:Ok z rel n) (a:Ar n p):∀ f m,1<=m->Up rel p m->T z (kas_asc p f m) fun r=>m<=r/\r<=m + f/\Up rel p r/\(r < m + f->rel (g p r) (g p (r - 1)) = true)
 | 0,m,_,u=>by exact T.ret ⟨Nat.le_refl _,Nat.le_refl _,u,fun h=>absurd h (Nat.lt_irrefl _)⟩
 | f + 1,m,m1,u=>by
  refine T.ask O a ?_
  cases e:rel _ _ with
  | true=>exact T.ret ⟨Nat.le_refl _,by omega,u,fun _=>e⟩
  | false=>
   have:=asc_ok O a f _ (by omega) (u.more O.R m1 e)
   exact⟨kas_wp_mono this.h fun r s' ⟨e,h1,h2,h3,h4⟩=>⟨e,by omega,by omega,h3,fun h=>h4 (by omega)⟩⟩
structure Fl (rel:Nat->Nat->Bool) (n:Nat) (p:Array Nat) (m q:Nat):Prop where
 a:Ar n p
 d:Dn rel p m
 l:q + 1<=m
 e:∀ i j,m - (q + 1)<=i->i < m->m - (q + 1)<=j->j < m->rel (g p i) (g p j) = false
theorem Fl.turn (h:Fl rel n p m q) (hm:m<=n):Ar n (kas_rev p (m - (q + 1)) m)/\Dn rel (kas_rev p (m - (q + 1)) m) m:=⟨h.a.rev _ _,h.d.rev (by rw [h.a.1];omega) h.e⟩
theorem desc_ok (O:Ok z rel n):∀ f (p:Array Nat) m q,m + f<=n->Fl rel n p m q->T z (kas_desc f p m q) fun r=>m<=r.2.1/\r.2.1<=m + f/\Fl rel n r.1 r.2.1 r.2.2
 | 0,p,m,q,hm,h=>by rw [kas_desc];exact T.ret ⟨Nat.le_refl _,Nat.le_refl _,h⟩
 | f + 1,p,m,q,hm,h=>by
  rw [kas_desc]
  have m1:1<=m:=by have:=h.l;omega
  have go:∀ (p':Array Nat) q',Fl rel n p' (m + 1) q'->T z (kas_desc f p' (m + 1) q') fun r=>m<=r.2.1/\r.2.1<=m + (f + 1)/\Fl rel n r.1 r.2.1 r.2.2:=fun p' q' h'=>
   ⟨kas_wp_mono (desc_ok O f p' (m + 1) q' (by omega) h').h fun r s' ⟨e,h1,h2,h3⟩=>⟨e,by omega,by omega,h3⟩⟩
  have one:∀ (p':Array Nat),Ar n p'->Dn rel p' (m + 1)->Fl rel n p' (m + 1) 0:=fun p' a d=>⟨a,d,by omega,fun i j h1 h2 h3 h4=>by
   obtain rfl:i = j:=by omega
   exact O.R.irr _⟩
  refine T.ask O h.a ?_
  cases e:rel (g p m) (g p (m - 1)) with
  | true=>
   have ea:=O.R.asy _ _ e
   show T z (if q > 0 then _ else _) _
   split
   · obtain⟨a1,d1⟩:=h.turn (by omega)
     refine go _ 0 (one _ a1 (d1.more O.R m1 ?_))
     have hs:m<=p.size:=by rw [h.a.1];omega
     rw [g_rev hs,g_rev hs,if_pos (by have:=h.l;omega),if_neg (by omega)]
     exact O.R.tr _ _ _ ea (h.d _ _ (by omega) (by have:=h.l;omega))
   · exact go _ 0 (one _ h.a (h.d.more O.R m1 ea))
  | false=>
   refine T.ask O h.a ?_
   cases e2:rel (g p (m - 1)) (g p m) with
   | true=>exact T.ret ⟨Nat.le_refl _,by show m<=_;omega,h⟩
   | false=>
    have d2:=h.d.more O.R m1 e2
    refine go _ (q + 1) ⟨h.a,d2,by have:=h.l;omega,fun i j h1 h2 h3 h4=>?_⟩
    by_cases x:i<=j
    · exact d2 i j x h4
    by_cases y:i < m
    · exact h.e _ _ (by omega) (by omega) (by omega) (by omega)
    obtain rfl:i = m:=by omega
    exact O.R.tr _ _ _ (h.e _ _ (by omega) (by omega) (by have:=h.l;omega) (by omega)) e
theorem tail_ok (O:Ok z rel n) (a:Ar n p) (d:Dn rel p m) (m1:1<=m) (hm:m<=n):T z (kas_tail3 m n p) fun r=>1<=r.1/\r.1<=n/\Ar n r.2/\Up rel r.2 r.1:=by
 exact (asc_ok O (a.rev 0 m) _ m m1 (d.up (by rw [a.1];omega))).bind fun r ⟨h1,h2,h3,_⟩=>T.ret ⟨by grind,by grind,a.rev _ _,h3⟩
theorem part_ok (O:Ok z rel n) (a:Ar n p) (d:Dn rel p (m + 1)) (hm:m + 1<=n):T z (kas_descPart m n p) fun r=>1<=r.1/\r.1<=n/\Ar n r.2/\Up rel r.2 r.1:=by
 refine (desc_ok O _ p (m + 1) 0 (by omega) ⟨a,d,by omega,fun i j h1 h2 h3 h4=>?_⟩).bind fun r ⟨h1,h2,h3⟩=>?_
 · obtain rfl:i = j:=by omega
   exact O.R.irr _
 · split
   · obtain⟨a1,d1⟩:=h3.turn (by omega)
     exact tail_ok O a1 d1 (by omega) (by omega)
   · exact tail_ok O h3.a h3.d (by omega) (by omega)
theorem count_ok (O:Ok z rel n) (a:Ar n p):T z (kas_count n p) fun r=>1<=r.1/\r.1<=n/\Ar n r.2/\Up rel r.2 r.1:=by
 have n2:=O.n2
 refine (asc_ok O a (n - 1) 1 (Nat.le_refl _) (Up.one O.R)).bind fun m ⟨h1,h2,h3,h4⟩=>?_
 split
 · exact T.ret ⟨h1,by omega,a,h3⟩
 · next hn=>
   have hn:m≠n:=by simpa using hn
   have e:=h4 (by omega)
   have ea:=O.R.asy _ _ e
   split
   · refine T.ask O a ?_
     cases e2:rel (g p 0) (g p (m - 1)) with
     | true=>exact T.ret ⟨h1,by omega,a,h3⟩
     | false=>
      have hs:m<=p.size:=by rw [a.1];omega
      refine part_ok O (a.rev 0 m) ((h3.dn hs).more O.R h1 ?_) (by omega)
      rw [g_rev hs,g_rev hs,if_pos (by omega),if_neg (by omega)]
      rw [show 0 + m - 1 - (m - 1) = 0 by omega]
      exact O.R.tr _ _ _ ea e2
   · refine part_ok O a (Dn.more O.R (fun i j x y=>?_) h1 ea) (by omega)
     obtain rfl:i = j:=by omega
     exact O.R.irr _
theorem place_ok (O:Ok z rel n) (a:Ar n p) {k:Nat} (u:Up rel p k):∀ f l r,l<=r->r<=k->r - l<=f->(∀ i,i < l->rel (g p k) (g p i) = false)->(∀ i,r<=i->i < k->rel (g p i) (g p k) = false)->
 T z (kas_place p k f l r) fun x=>x<=k/\(∀ i,i < x->rel (g p k) (g p i) = false)/\∀ i,x<=i->i < k->rel (g p i) (g p k) = false
 | 0,l,r,h1,h2,h3,h4,h5=>by rw [kas_place];exact T.ret ⟨by omega,h4,fun i x y=>h5 i (by omega) y⟩
 | f + 1,l,r,h1,h2,h3,h4,h5=>by
  rw [kas_place]
  split
  · exact T.ret ⟨by omega,h4,fun i x y=>h5 i (by omega) y⟩
  · refine T.ask O a ?_
    cases e:rel (g p k) _ with
    | true=>
     refine place_ok O a u f l ((l + r) / 2) (by omega) (by omega) (by omega) h4 fun i x y=>?_
     exact O.R.tr _ _ _ (O.R.asy _ _ e) (u ((l + r) / 2) i x y)
    | false=>exact place_ok O a u f _ r (by omega) (by omega) (by omega) (fun i x=>O.R.tr _ _ _ (u i ((l + r) / 2) (by omega) (by omega)) e) h5
theorem g_bub (hk:k < p.size) (hd:d<=k) (i:Nat):g (bubble p k d) i = if i = k - d then g p k else if k - d < i/\i<=k then g p (i - 1) else g p i:=by
 have h:=getElem?_bubble hk d hd i
 simp only [g,Array.getD_eq_getD_getElem?,h]
 split <;> (try split) <;> rfl
theorem bin_ok (O:Ok z rel n):∀ f (p:Array Nat) k,k + f = n->Ar n p->Up rel p k->T z (kas_bin f p k) fun p'=>Ar n p'/\Up rel p' n
 | 0,p,k,h,a,u=>by
  rw [kas_bin]
  obtain rfl:k = n:=by omega
  exact T.ret ⟨a,u⟩
 | f + 1,p,k,h,a,u=>by
  rw [kas_bin]
  refine (place_ok O a u k 0 k (Nat.zero_le _) (Nat.le_refl _) (Nat.le_refl _) (fun i h=>nomatch h) fun i x y=>by omega).bind fun l ⟨h1,h2,h3⟩=>?_
  refine bin_ok O f _ (k + 1) (by omega) ⟨(bubble_size _ _ _).trans a.1,(Array.perm_iff_toList_perm.mp (bubble_perm _ _ _)).trans a.2⟩ fun i j x y=>?_
  have hk:k < p.size:=by rw [a.1];omega
  rw [g_bub hk (by omega),g_bub hk (by omega)]
  have e:k - (k - l) = l:=by omega
  rw [e]
  by_cases i1:i = l
  · rw [if_pos i1]
    by_cases j1:j = l
    · rw [if_pos j1];exact O.R.irr _
    grind
  · rw [if_neg i1]
    by_cases j1:j = l
    · rw [if_pos j1,if_neg (by omega)];exact h2 _ (by omega)
    · rw [if_neg j1]
      by_cases i2:l < i
      · rw [if_pos (by omega),if_pos (by omega)];exact u _ _ (by omega) (by omega)
      · rw [if_neg (show ¬(l < i/\i<=k) by omega)]
        by_cases j2:l < j
        · rw [if_pos (by omega)];exact u _ _ (by omega) (by omega)
        · rw [if_neg (by omega)];exact u _ _ x (by omega)
theorem sort_ok (O:Ok z rel n):T z (kas_sort n) fun p=>Ar n p/\Up rel p n:=by
 refine (count_ok O (p:=(List.range n).toArray) ⟨by simp,List.Perm.refl _⟩).bind fun r ⟨h1,h2,h3,h4⟩=>?_
 split
 · rw [show max r.1 1 = r.1 by omega];exact bin_ok O _ _ _ (by omega) h3 h4
 · rw [show r.1 = n by omega] at h4;exact T.ret ⟨h3,h4⟩
end Kas
namespace Tim
open PySem PySem.Spec PySem.Calls PyProof.Rows L2 PySem.W
theorem sortShortK {prog:Program}{w:World}{A:Around}{E:Value->Shared->Prop}{s:Shared}{κ:SortKind}{kz:Array Keyed}{lt:Keyed->Keyed->Bool}{Q:Unit->SortSt->Prop} (O:Ord lt) (c:PureLt prog w A s κ kz lt) (k2:2<=kz.size) (k64:kz.size < 64)
 (q:∀ v,failedOf v = none->(arrOf v).toList.Perm kz.toList->(arrOf v).toList.Pairwise (Le lt)->Q () v):wpS (model prog w) A E s sortRuns' Q (SortSt.mk' κ kz #[] 7 none):=by
 have hit:∀ {i:Nat} (h:i < kz.size),kas_item kz i = kz[i]:=fun {i} h=>by
  unfold kas_item
  rw [Array.getD_eq_getD_getElem?,Array.getElem?_eq_getElem h];rfl
 have hkz:(List.range kz.size).map (kas_item kz) = kz.toList:=by
  refine List.ext_getElem (by simp) fun i h1 h2=>?_
  simp at h1
  rw [List.getElem_map,List.getElem_range,hit h1];rfl
 have ok:Kas.Ok ⟨prog,w,A,s,κ,kz⟩ (fun i j=>lt (kas_item kz i) (kas_item kz j)) kz.size:=⟨⟨fun a=>O.irr _,fun a b h=>O.asy _ _ h,fun a b c h1 h2=>O.tr _ _ _ h1 h2⟩,by omega,fun i j C hi hj h=>by
  have mem:∀ {i:Nat} (h:i < kz.size),kas_item kz i∈kz.toList:=fun h=>by rw [hit h];simp
  exact c _ _ (mem hi) (mem hj) _ _ h⟩
 have st:SortSt.mk' κ kz #[] 7 none = kas_st κ kz (List.range kz.size).toArray:=by
  unfold kas_st
  have:Array.map (kas_item kz) (List.range kz.size).toArray = kz:=by
   apply Array.toList_inj.mp
   rw [Array.toList_map];exact hkz
  rw [this]
 rw [st]
 refine kas_runs (Q:=fun r v s'=>s' = s/\Q r v) k2 k64 (fun p st' s' hp ha hf ⟨e,h1,h2⟩=>⟨e,q st' hf ?_ ?_⟩) (Kas.sort_ok ok).h
 · rw [ha,Array.toList_map,<- hkz];exact h1.2.map _
 · rw [ha,Array.toList_map,List.pairwise_map]
   refine List.pairwise_iff_getElem.mpr fun i j hi hj hij=>?_
   have hj':j < p.size:=by simpa using hj
   have:=h2 i j (by omega) (by rw [<- h1.1];exact hj')
   unfold Kas.g at this
   rw [Array.getD_eq_getD_getElem?,Array.getD_eq_getD_getElem?,Array.getElem?_eq_getElem hj',Array.getElem?_eq_getElem (show i < p.size by omega)] at this
   exact this
end Tim
namespace Tim
end Tim
theorem sorted_gen2S {α:Type}{p:Addr}{f:α->V}{g:α->Value}{pins:List (Addr×Obj)}{s:Shared}{σ:L2.St}{Q:VK} (F:Shared->Hp->List α->Prop) (lt:Hp->Keyed->Keyed->Bool) (O:∀ H,Tim.Ord (lt H))
 (col:∀ (R:List Value->Shared->Prop) (E:Value->Shared->Prop),(∀ (s1:Shared) (H1:Hp) (zs:List α),Inv X pins σ H1 s1->F s1 H1 zs->R (zs.map g) s1)->wpAny (model X.prog X.w) X.A.in1 (collect (.ref p)) R E s)
 (each:∀ s1 H1 zs,F s1 H1 zs->(∀ z∈zs,RelV (f z) (g z))/\zs.length < 64)
 (hk:∀ s1 H1 zs,Inv X pins σ H1 s1->F s1 H1 zs->2<=zs.length->∀ h6:Heap,(∀ b o,H1 b≠none->s1.heap.get? b = some o->h6.get? b = some o)->
  ∃ κ,(∀ Q:SortKind->Shared->Prop,∀ E,Q κ { s1 with heap:=h6 }->wpAny (model X.prog X.w) X.A.in1.in1 (keyKind' (zs.map g).toArray) Q E { s1 with heap:=h6 })/\PureLt X.prog X.w X.A.in1.in1 { s1 with heap:=h6 } κ (pairsOf (zs.map g)) (lt H1))
 (q:∀ s1 H1 zs,F s1 H1 zs->∀ (l:Addr) (ys:List α) (H':Hp),H1 l = none->L2.Same H1 H'->H' l = some (.lst (ys.map f))->ys.Perm zs->(ys.map fun z=>((g z,g z):Keyed)).Pairwise (Tim.Le (lt H1))->Q (.ref l) H'):
 wpAny (model X.prog X.w) X.A (call (.builtin "sorted") [.ref p]) (EP X pins σ Q) X.xe s:=by
 have hsz:=sizeLine_eq
 refine Calls.call_function_entry kind_sorted plain_sorted entry_sorted (args_sorted1 _) ?_
 unfold Builtin.«sorted»
 refine wpAny_bind (m:=checkCount "sorted" 1 1 _) (wpAny_pure ?_)
 refine wpAny_bind (col _ _ fun s1 H zs I1 hF=>?_)
 obtain⟨each,hzz⟩:=each s1 H zs hF
 have hk:=hk s1 H zs I1 hF
 have q:=q s1 H zs hF
 clear hF
 obtain⟨h',gs,dr,tk,os⟩:=s1
 refine wpAny_bind (wpAny_newList ?_ (by rw [List.length_map];omega))
 have hoL:(h'.push (seqObj "list" (zs.map g).toArray 0)).get? h'.objs.size = some (seqObj "list" (zs.map g).toArray 0):=Heap.get?_push_size _ rfl
 have hfr:H h'.objs.size = none:=I1.hok.fresh (Nat.le_refl _)
 refine wpAny_bind (wpAny_holding (wpAny_call_entry slot_list_sort ⟨_,hoL,rfl⟩ entry_list_sort (sort_any (R:=fun out=>∃ ys:List α,out = (ys.map g).toArray/\ys.Perm zs/\(ys.map fun z=>((g z,g z):Keyed)).Pairwise (Tim.Le (lt H))) hoL (by rw [List.length_map];omega) (fun h1=>⟨zs,rfl,List.Perm.refl _,?_⟩) (fun h2 h6 old=>?_) fun out ho ⟨ys,hR,hp,hs⟩=>⟨_,rfl,?_⟩) (args_list_sort _)))
 · rw [List.length_map] at h1
   match zs,h1 with
   | [],_=>exact List.Pairwise.nil
   | [_],_=>exact List.pairwise_singleton _ _
   | _ :: _ :: _,h=>simp at h;omega
 · rw [List.length_map] at h2
   obtain⟨κ,k1,k2⟩:=hk h2 h6 fun b o hb e=>old b o (fun z=>hb (by rw [z];exact hfr)) (Heap.get?_push_of_some _ e)
   refine k1 _ _ ⟨rfl,?_⟩
   refine Tim.sortShortK (O H) k2 (by rw [<- Array.length_toList,pairs_map,List.length_map];omega) (by rw [<- Array.length_toList,pairs_map,List.length_map];omega) fun v e1 e2 e3=>⟨e1,?_,?_⟩
   · have:=e2.length_eq
     rw [Array.length_toList,pairsOf_toList,List.length_zip] at this
     omega
   · have e:=pairs_map g zs
     rw [e] at e2
     obtain⟨ys,h3,h4⟩:=perm_lift (fun z=>((g z,g z):Keyed)) e2 rfl
     refine⟨ys,?_,h3,by rw [h4];exact e3⟩
     apply Array.toList_inj.mp
     rw [Array.toList_map,<- h4,List.map_map];simp
 · refine wpAny_pure ⟨_,rfl,?_⟩
   subst hR
   obtain⟨n',e'⟩:∃ n',(sortedHeap (h'.push (seqObj "list" (zs.map g).toArray 0)) h'.objs.size (zs.map g) (ys.map g).toArray).get? h'.objs.size = some (seqObj "list" (ys.map g).toArray n'):=sortedHeap_at hoL
   have keep:∀ b o,h'.get? b = some o->(sortedHeap (h'.push (seqObj "list" (zs.map g).toArray 0)) h'.objs.size (zs.map g) (ys.map g).toArray).get? b = some o:=fun b o e=>by
    have hb:=Heap.lt_size e
    rw [sortedHeap_old (Nat.ne_of_lt hb) (by rw [Heap.size_push];exact Nat.lt_succ_of_lt hb)]
    exact Heap.get?_push_of_some _ e
   have vals:∀ {l:List α},(∀ z∈l,RelV (f z) (g z))->Vals (l.map f) (l.map g):=fun {l}=>by
    induction l with
    | nil=>exact fun _=>.nil
    | cons a l ih=>exact fun h=>.cons (h a (.head _)) (ih fun z hz=>h z (.tail _ hz))
   have I2:Inv X pins σ (upd H h'.objs.size (.lst (ys.map f))) ⟨sortedHeap (h'.push (seqObj "list" (zs.map g).toArray 0)) h'.objs.size (zs.map g) (ys.map g).toArray,gs,dr,tk,os⟩:=
    I1.laid (t':=tk) keep (Nat.le_refl _) (show ObjOk X.prog X.w _ _ _ (.lst (ys.map f)) from ⟨by rw [List.length_map,hp.length_eq];omega,ys.map g,n',vals fun z hz=>each z (hp.mem_iff.mp hz),e'⟩)
   exact⟨.ref h'.objs.size,_,I2,rfl,q _ ys _ hfr (Br.Same.upd hfr) upd_same hp hs⟩
namespace ZG
def SI:Bool->Heap->Addr->Addr->Nat->Prop
 | true,h,c,d,k=>h.IsTupleIter c d k
 | false,h,c,d,k=>h.IsListIter c d k
def SS:Bool->Heap->Addr->Array Value->Prop
 | true,h,d,xs=>h.IsTuple d xs
 | false,h,d,xs=>h.IsList d xs
def SqS:Bool->PySem.W.Frag->Hp->Addr->List V->Prop
 | true,K,H,a,xs=>SqT K H a xs
 | false,K,H,a,xs=>SqL K H a xs
abbrev itn (f:Bool):String:=if f = true then "tuple_iterator" else "list_iterator"
theorem SI.at (i:SI f h c d k) (q:∀ ob,h.get? c = some ob->h'.get? c = some ob):SI f h' c d k:=by
 cases f with
 | true=>exact Heap.IsTupleIter.at i q
 | false=>exact Heap.IsListIter.at i q
theorem SS.at (i:SS f h d xs) (q:∀ ob,h.get? d = some ob->h'.get? d = some ob):SS f h' d xs:=by
 cases f with
 | true=>obtain⟨ob,a,b⟩:=i;exact⟨ob,q _ a,b⟩
 | false=>obtain⟨ob,a,b⟩:=i;exact⟨ob,q _ a,b⟩
theorem SI.ob (i:SI f h c d k):∃ ob,h.get? c = some ob/\ob.data = .fields #[.ref d,rawInt k]:=by
 cases f with
 | true=>obtain⟨ob,a,_,b⟩:=i;exact⟨ob,a,b⟩
 | false=>obtain⟨ob,a,_,b⟩:=i;exact⟨ob,a,b⟩
theorem SI.new (e:h.get? c = some { cls:=.type (itn f),data:=.fields #[.ref d,.int 0 0] }):SI f h c d 0:=by
 cases f with
 | true=>exact⟨_,e,rfl,rfl⟩
 | false=>exact⟨_,e,rfl,rfl⟩
section
variable {s:Shared}
theorem gnext (hI:SI f s.heap c d k) (hT:SS f s.heap d zs) (hv:zs[k]? = some v)
 (go:∀ g,SI f g c d (k + 1)->Heap.SameBut c s.heap g->Q v { s with heap:=g }):wpAny (model prog w) A (Builtin.SmallTypes.nextOf (.ref c)) Q E s:=by
 cases f with
 | true=>exact Br.tnext hI hT hv go
 | false=>exact ZL.tnext hI hT hv go
theorem gnone (hh:A.handled = none) (hI:SI f s.heap c d k) (hT:SS f s.heap d zs) (hv:zs[k]? = none)
 (go:∀ g e,Heap.ExtBut c s.heap g->(∃ o,g.get? e = some o/\o.cls = .type "StopIteration")->E (.ref e) { s with heap:=g }):wpAny (model prog w) A (Builtin.SmallTypes.nextOf (.ref c)) Q E s:=by
 cases f with
 | true=>exact Br.tnone hh hI hT hv go
 | false=>exact ZL.tnone hh hI hT hv go
theorem giter (hT:SS f s.heap d zs) (h:Q (.ref s.heap.objs.size) { s with heap:=s.heap.push { cls:=.type (itn f),data:=.fields #[.ref d,.int 0 0] } }):wpAny (model prog w) A (pyIter (.ref d)) Q E s:=by
 cases f with
 | true=>exact wpAny_pyIter_tuple hT h
 | false=>exact wpAny_pyIter_list hT h
structure Zp (f1 f2:Bool) (h:Heap) (z u o c1 c2 d e:Addr) (xs ys:Array Value) (k:Nat):Prop where
 zip:IsZip h z u o .none
 its:IsPair h u (.ref c1) (.ref c2)
 own:∃ a b,IsPair h o a b
 i1:SI f1 h c1 d k
 i2:SI f2 h c2 e k
 t1:SS f1 h d xs
 t2:SS f2 h e ys
theorem zitem {Q:Value->Shared->Prop} (P:Ap z u o c1 c2 d e) (Z:Zp f1 f2 s.heap z u o c1 c2 d e xs ys k) (hx:xs[k]? = some x) (hy:ys[k]? = some y)
 (go:∀ g,IsZip g z u o (rawInt s.heap.objs.size)->IsPair g o x y->SI f1 g c1 d (k + 1)->SI f2 g c2 e (k + 1)->IsPair g s.heap.objs.size x y->g.objs.size = s.heap.objs.size + 1->
  (∀ b ob,b≠z->b≠o->b≠c1->b≠c2->s.heap.get? b = some ob->g.get? b = some ob)->Q (.ref s.heap.objs.size) { s with heap:=g }):
 wpAny (model prog w) A (Builtin.«zip.__next__» ⟨[.ref z],[]⟩) (fun fin s'=>∃ v,fin = .done (.ret v)/\Q v s') E s:=by
 obtain⟨n1,n2,n3,n4,n5,n6,n7,n8,n9,n10⟩:=P.all
 obtain⟨dz,ez⟩:=P.nd z (by simp)
 obtain⟨do',eo⟩:=P.nd o (by simp)
 obtain⟨dc1,ec1⟩:=P.nd c1 (by simp)
 exact zdraw P.ne Z.zip Z.its Z.own
  (fun g q _ _ r=>gnext (Z.i1.at fun ob a=>q.extBut _ ob (Ne.symm n3) a) (Z.t1.at fun ob a=>q.extBut _ _ dz a) hx r)
  (fun g q _ _ r=>gnext (Z.i2.at fun ob a=>q _ ob (Ne.symm n4) (Ne.symm n10) (Ne.symm n9) a) (Z.t2.at fun ob a=>q _ _ ez ec1 eo a) hy r)
  (fun _ _ j q=>j.at q) (fun _ _ j q=>j.at q) go
theorem znone (hh:A.handled = none) (P:Ap z u o c1 c2 d e) (Z:Zp f1 f2 s.heap z u o c1 c2 d e xs ys k) (hv:xs[k]? = none\/ys[k]? = none)
 (go:∀ g x,(∀ b ob,b≠z->b≠o->b≠c1->b≠c2->s.heap.get? b = some ob->g.get? b = some ob)->(∃ ob,g.get? x = some ob/\ob.cls = .type "StopIteration")->E (.ref x) { s with heap:=g }):
 wpAny (model prog w) A (Builtin.«zip.__next__» ⟨[.ref z],[]⟩) Q E s:=by
 obtain⟨n1,n2,n3,n4,n5,n6,n7,n8,n9,n10⟩:=P.all
 obtain⟨dz,ez⟩:=P.nd z (by simp)
 obtain⟨do',eo⟩:=P.nd o (by simp)
 obtain⟨dc1,ec1⟩:=P.nd c1 (by simp)
 cases hx:xs[k]? with
 | none=>
  exact zdrawNo P.ne Z.zip Z.its Z.own (.inl fun g q _ _ r=>gnone hh (Z.i1.at fun ob a=>q.extBut _ ob (Ne.symm n3) a) (Z.t1.at fun ob a=>q.extBut _ _ dz a) hx r) go
 | some x1=>
  have hy:=hv.resolve_left (by grind)
  exact zdrawNo P.ne Z.zip Z.its Z.own (.inr ⟨x1,fun g q _ _ r=>gnext (Z.i1.at fun ob a=>q.extBut _ ob (Ne.symm n3) a) (Z.t1.at fun ob a=>q.extBut _ _ dz a) hx fun g' _ e=>r g' e,
   fun g q _ _ r=>gnone hh (Z.i2.at fun ob a=>q _ ob (Ne.symm n4) (Ne.symm n10) (Ne.symm n9) a) (Z.t2.at fun ob a=>q _ _ ez ec1 eo a) hy r⟩) go
theorem znext (P:Ap z u o c1 c2 d e) (Z:Zp f1 f2 s.heap z u o c1 c2 d e xs ys k) (hx:xs[k]? = some x) (hy:ys[k]? = some y)
 (go:∀ g,IsZip g z u o (rawInt s.heap.objs.size)->IsPair g o x y->SI f1 g c1 d (k + 1)->SI f2 g c2 e (k + 1)->IsPair g s.heap.objs.size x y->g.objs.size = s.heap.objs.size + 1->
  (∀ b ob,b≠z->b≠o->b≠c1->b≠c2->s.heap.get? b = some ob->g.get? b = some ob)->Q (some (.ref s.heap.objs.size)) { s with heap:=g }):wpAny (model prog w) A (pyNext (.ref z)) Q E s:=by
 have hT:s.TypeIs (.ref z) "zip":=⟨_,Z.zip,rfl⟩
 exact wpAny_bind (wpAny_attempt (wpAny_callSpecial?_slot hT F.slot_zip_next (wpAny_call_entry F.slot_zip_next hT F.entry_zip_next (zitem P Z hx hy fun g a1 a2 a3 a4 a5 a6 a7=>wpAny_pure (go g a1 a2 a3 a4 a5 a6 a7)) (F.args_zip_next_1 _))))
theorem zstop (hh:A.handled = none) (P:Ap z u o c1 c2 d e) (Z:Zp f1 f2 s.heap z u o c1 c2 d e xs ys k) (hv:xs[k]? = none\/ys[k]? = none)
 (go:∀ g,(∀ b ob,b≠z->b≠o->b≠c1->b≠c2->s.heap.get? b = some ob->g.get? b = some ob)->Q none { s with heap:=g }):wpAny (model prog w) A (pyNext (.ref z)) Q E s:=by
 have hT:s.TypeIs (.ref z) "zip":=⟨_,Z.zip,rfl⟩
 refine wpAny_bind (wpAny_attempt (wpAny_callSpecial?_slot hT F.slot_zip_next (wpAny_call_entry F.slot_zip_next hT F.entry_zip_next (znone hh P Z hv fun g x hk he=>?_) (F.args_zip_next_1 _))))
 obtain⟨ob,hob,hcb⟩:=he
 exact wpAny_bind (wpAny_isInstance ⟨ob,hob,hcb⟩ isSubtype_stop (wpAny_pure (go _ hk)))
abbrev zh1 (f1:Bool) (h:Heap) (d:Addr):Heap:=h.push { cls:=.type (itn f1),data:=.fields #[.ref d,.int 0 0] }
abbrev zh2 (f1 f2:Bool) (h:Heap) (d e:Addr):Heap:=(zh1 f1 h d).push { cls:=.type (itn f2),data:=.fields #[.ref e,.int 0 0] }
abbrev zh3 (f1 f2:Bool) (h:Heap) (d e:Addr):Heap:=(zh2 f1 f2 h d e).push { cls:=.type "tuple",data:=.seq #[.ref h.objs.size,.ref (zh1 f1 h d).objs.size] }
abbrev zh4 (f1 f2:Bool) (h:Heap) (d e:Addr):Heap:=(zh3 f1 f2 h d e).push { cls:=.type "tuple",data:=.seq #[.none,.none] }
abbrev zh5 (f1 f2:Bool) (h:Heap) (d e:Addr):Heap:=(zh4 f1 f2 h d e).push { cls:=.type "zip",data:=.fields #[.none,.bool false,.bool false,.ref (zh2 f1 f2 h d e).objs.size,.ref (zh3 f1 f2 h d e).objs.size] }
theorem zmeets (f1 f2:Bool) (d e:Addr) (xs ys:Array Value):Meets (Builtin.«zip.__new__» ⟨[.type "zip",.ref d,.ref e],[]⟩) (fun _ R s=>SS f1 s.heap d xs/\SS f2 s.heap e ys/\R (.ok (.ret (.ref (zh4 f1 f2 s.heap d e).objs.size))) { s with heap:=zh5 f1 f2 s.heap d e }):=
 .of_wp fun prog w A R s h=>by
  obtain⟨hp,g,dr,tk,os⟩:=s
  obtain⟨h1,h2,h⟩:=h
  have hsub:=sub_zip
  have q1:SS f1 (Shared.heap ⟨hp,g,dr,tk,os⟩) d xs:=h1
  have q2:SS f2 (Shared.heap ⟨hp.push { cls:=.type (itn f1),data:=.fields #[.ref d,.int 0 0] },g,dr,tk,os⟩) e ys:=h2.at fun ob q=>Heap.get?_push_of_some _ q
  wp_walk using giter q1,giter q2
  exact⟨_,rfl,h⟩
theorem zmake (h1:SS f1 s.heap d xs) (h2:SS f2 s.heap e ys)
 (go:∀ g,Zp f1 f2 g (s.heap.objs.size + 4) (s.heap.objs.size + 2) (s.heap.objs.size + 3) s.heap.objs.size (s.heap.objs.size + 1) d e xs ys 0->(∀ b ob,s.heap.get? b = some ob->g.get? b = some ob)->Q (.ref (s.heap.objs.size + 4)) { s with heap:=g }):
 wpAny (model prog w) A (call (.type "zip") [.ref d,.ref e]) Q E s:=by
 refine callType_new F.called_zip (by decide) (F.typeCall_zip_2 _ _) (F.newCall_zip_2 _ _) (fun obj=>F.args_object_init_3 obj _ _) F.entry_zip_new (zmeets f1 f2 d e xs ys) ⟨h1,h2,?_⟩
 have s1:(zh1 f1 s.heap d).objs.size = s.heap.objs.size + 1:=Heap.size_push ..
 have s2:(zh2 f1 f2 s.heap d e).objs.size = s.heap.objs.size + 2:=by rw [Heap.size_push,s1]
 have s3:(zh3 f1 f2 s.heap d e).objs.size = s.heap.objs.size + 3:=by rw [Heap.size_push,s2]
 have s4:(zh4 f1 f2 s.heap d e).objs.size = s.heap.objs.size + 4:=by rw [Heap.size_push,s3]
 have g5:(zh5 f1 f2 s.heap d e).get? (zh4 f1 f2 s.heap d e).objs.size = some _:=Heap.get?_push_size _ rfl
 have g4:(zh5 f1 f2 s.heap d e).get? (zh3 f1 f2 s.heap d e).objs.size = some _:=Heap.get?_push_of_some _ (Heap.get?_push_size _ rfl)
 have g3:(zh5 f1 f2 s.heap d e).get? (zh2 f1 f2 s.heap d e).objs.size = some _:=Heap.get?_push_of_some _ (Heap.get?_push_of_some _ (Heap.get?_push_size _ rfl))
 have g2:(zh5 f1 f2 s.heap d e).get? (zh1 f1 s.heap d).objs.size = some _:=Heap.get?_push_of_some _ (Heap.get?_push_of_some _ (Heap.get?_push_of_some _ (Heap.get?_push_size _ rfl)))
 have g1:(zh5 f1 f2 s.heap d e).get? s.heap.objs.size = some _:=Heap.get?_push_of_some _ (Heap.get?_push_of_some _ (Heap.get?_push_of_some _ (Heap.get?_push_of_some _ (Heap.get?_push_size _ rfl))))
 have old:∀ b ob,s.heap.get? b = some ob->(zh5 f1 f2 s.heap d e).get? b = some ob:=fun b ob q=>Heap.get?_push_of_some _ (Heap.get?_push_of_some _ (Heap.get?_push_of_some _ (Heap.get?_push_of_some _ (Heap.get?_push_of_some _ q))))
 rw [s4] at g5
 rw [s3] at g4
 rw [s2] at g3
 rw [s1] at g2
 rw [s1] at g3
 rw [s2,s3] at g5
 have gz:=go (zh5 f1 f2 s.heap d e) ⟨g5,g3,⟨_,_,g4⟩,SI.new g1,SI.new g2,h1.at fun ob q=>old _ _ q,h2.at fun ob q=>old _ _ q⟩ old
 rw [s4]
 exact⟨⟨_,g5,rfl⟩,gz⟩
end
section
variable {σ:L2.St}
theorem inv_seq (I:Inv X pins σ H s) (h:SqS f X.K H a xs):∃ its:List Value,Vals xs its/\SS f s.heap a its.toArray:=by
 cases f with
 | true=>obtain⟨t,r,p,_⟩:=I.tuple h;exact⟨t,r,p⟩
 | false=>obtain⟨t,r,p,_⟩:=I.list h;exact⟨t,r,p.isList⟩
theorem sqS_apart (I:Inv X pins σ H s) (h:SqS f X.K H d xs) (q:FpOk X pins H b):d≠b:=by
 cases f with
 | true=>exact sqT_apart I h q
 | false=>exact ZL.sqL_apart I h q
theorem sqS_inj (I:Inv X pins σ H s) (h:SqS f X.K H a xs) (q:SqS f X.K H a ys):xs = ys:=by
 cases f with
 | true=>exact I.tuple_inj h q
 | false=>exact I.list_inj h q
end
def Itz (f1 f2:Bool) (K:PySem.W.Frag) (a b:Addr):It:=
 ⟨fun i H=>∃ xs ys x y,SqS f1 K H a xs/\SqS f2 K H b ys/\xs[i]? = some x/\ys[i]? = some y,
  fun i H v H'=>∃ (x y:V) (T:Addr),v = .ref T/\H T = none/\H' = upd H T (.tup [x,y])/\∀ xs ys,SqS f1 K H a xs->SqS f2 K H b ys->xs[i]? = some x/\ys[i]? = some y,
  fun i H=>∃ xs ys,SqS f1 K H a xs/\SqS f2 K H b ys/\(xs.length<=i\/ys.length<=i)⟩
theorem turn_zip {f1 f2:Bool}{P:Program}{w:World}{K:PySem.W.Frag}{es:List Expr}{kt:Nat}{pt:Pos}{z u o c1 c2 a b:Addr} (ne:[z,u,o,c1,c2].Nodup):
 Turn P w K (.Tuple es kt pt) (Itz f1 f2 K a b) [z,u,o,c1,c2] z (fun i h=>IsZip h z u o .none/\IsPair h u (.ref c1) (.ref c2)/\(∃ x y,IsPair h o x y)/\SI f1 h c1 a i/\SI f2 h c2 b i) where
 mem:=by simp
 obj:=fun i h st c hc=>by
  obtain⟨h1,h2,⟨x,y,h3⟩,h4,h5⟩:=st
  obtain⟨o4,h4,d4⟩:=h4.ob
  obtain⟨o5,h5,d5⟩:=h5.ob
  simp only [List.mem_cons,List.mem_nil_iff,or_false] at hc
  rcases hc with rfl | rfl | rfl | rfl | rfl
  · exact⟨_,h1,fun v q=>by cases q⟩
  · exact⟨_,h2,fun v q=>by cases q⟩
  · exact⟨_,h3,fun v q=>by cases q⟩
  · exact⟨_,h4,fun v q=>by rw [d4] at q;cases q⟩
  · exact⟨_,h5,fun v q=>by rw [d5] at q;cases q⟩
 keep:=fun i h h' st k=>by
  obtain⟨h1,h2,⟨x,y,h3⟩,h4,h5⟩:=st
  exact⟨k _ (by simp) _ h1,k _ (by simp) _ h2,⟨x,y,k _ (by simp) _ h3⟩,h4.at fun ob q=>k _ (by simp) ob q,h5.at fun ob q=>k _ (by simp) ob q⟩
 item:=by
  intro X hP hw hK hc i pins s σ H E I hf st hg
  subst hP hw hK
  obtain⟨h1,h2,h3,h4,h5⟩:=st
  obtain⟨xs,ys,x,y,q1,q2,hx,hy⟩:=hg
  obtain⟨t1,r1,p1⟩:=inv_seq I q1
  obtain⟨t2,r2,p2⟩:=inv_seq I q2
  obtain⟨x',hx',rx⟩:=r1.get hx
  obtain⟨y',hy',ry⟩:=r2.get hy
  have ap:Ap z u o c1 c2 a b:=⟨ne,fun c hc=>⟨sqS_apart I q1 (hf c hc),sqS_apart I q2 (hf c hc)⟩⟩
  obtain⟨n1,n2,n3,n4,n5,n6,n7,n8,n9,n10⟩:=ap.all
  refine znext ap ⟨h1,h2,h3,h4,h5,p1,p2⟩ (x:=x') (y:=y') (by simpa using hx') (by simpa using hy') fun g z1 o1 i1 i2 T1 sz kp=>?_
  refine⟨_,rfl,wpAny_letOwnedTupleGo_zip z1 fun g' z2 k2=>?_⟩
  have hfr:H s.heap.objs.size = none:=I.hok.fresh (Nat.le_refl _)
  have lt:∀ c∈[z,u,o,c1,c2],c < s.heap.objs.size:=fun c hc=>by
   simp only [List.mem_cons,List.mem_nil_iff,or_false] at hc
   rcases hc with rfl | rfl | rfl | rfl | rfl
   · exact Heap.lt_size h1
   · exact Heap.lt_size h2
   · obtain⟨_,_,h3⟩:=h3;exact Heap.lt_size h3
   · obtain⟨_,h4,_⟩:=h4.ob;exact Heap.lt_size h4
   · obtain⟨_,h5,_⟩:=h5.ob;exact Heap.lt_size h5
  have all:∀ c ob,c∉[z,u,o,c1,c2]->s.heap.get? c = some ob->g'.get? c = some ob:=fun c ob hc q=>by
   simp only [List.mem_cons,List.mem_nil_iff,or_false,not_or] at hc
   exact k2.extBut _ _ hc.1 (kp c ob hc.1 hc.2.2.1 hc.2.2.2.1 hc.2.2.2.2 q)
  have zl:z < s.heap.objs.size:=lt z (by simp)
  have u':IsPair g' u (.ref c1) (.ref c2):=k2.extBut _ _ (Ne.symm n1) (kp _ _ (Ne.symm n1) n5 n6 n7 h2)
  have o':IsPair g' o x' y':=k2.extBut _ _ (Ne.symm n2) o1
  have i1':=i1.at fun ob q=>k2.extBut _ ob (Ne.symm n3) q
  have i2':=i2.at fun ob q=>k2.extBut _ ob (Ne.symm n4) q
  have T':IsPair g' s.heap.objs.size x' y':=k2.extBut _ _ (Nat.ne_of_gt zl) T1
  have trk:∀ c v,H c = some v->c∉[z,u,o,c1,c2]:=fun c v q hc=>by rw [(hf c hc).1] at q;cases q
  have I1:Inv X pins σ (upd H s.heap.objs.size (.tup [x,y])) { s with heap:=g' }:=by
   refine I.step (g':=s.gens) (d':=s.drawn) (t':=s.toks) (ch:=[z,u,o,c1,c2]) (fun c hc=>?_) (fun c ob _ _ hc q _=>all c ob hc q) (fun c ob _ _ hc q _=>⟨ob.slots,all c ob hc q⟩) (fun c ob hc q n=>?_) (fun c ob hc q=>⟨ob,all c ob hc q⟩)
    (fun c v q=>?_) (fun c v v' q=>?_) (fun c v q=>⟨#[],?_⟩) (fun m hm=>?_) (fun c v q=>?_) I.bare
   · obtain⟨f0,f1,f2,f3,f4,f5⟩:=hf c hc
     exact⟨f3,f1,f4,f5⟩
   · rw [upd_ne (Nat.ne_of_lt (Heap.lt_size q))];exact n
   · rw [upd_ne (ne_of_none q hfr)];exact q
   · rw [upd_ne (ne_of_none q hfr)];exact q
   · rw [upd_ne (ne_of_none q hfr),q];simp
   · obtain⟨ob,es,ep,ho,r⟩:=hm
     exact⟨ob,es,ep,all _ ob (fun hc=>(hf _ hc).2.1 rfl) ho,r⟩
   · by_cases hcT:c = s.heap.objs.size
     · subst hcT
       rw [upd_same] at q;cases q
       exact⟨by show 2<=sizeLine;decide,[x',y'],.cons rx (.cons ry .nil),⟨_,T',rfl,_,rfl⟩⟩
     · rw [upd_ne hcT] at q
       refine (I.hok c v q).stay (fun c' ob hc' q'=>all c' ob ?_ q') (fun c' q'=>by rw [upd_ne (ne_of_none q' hfr)];exact q') fun c' vs q'=>by rw [upd_ne (ne_of_none q' hfr)];exact q'
       rcases hc' with e | e
       · rw [e];exact trk c v q
       · exact trk c' _ e
  refine⟨.ref s.heap.objs.size,_,I1,rfl,⟨x,y,_,rfl,hfr,rfl,fun xs' ys' e1 e2=>?_⟩,⟨z2,u',⟨_,_,o'⟩,i1',i2'⟩,fun c hc=>?_⟩
  · rw [sqS_inj I e1 q1,sqS_inj I e2 q2];exact⟨hx,hy⟩
  · rw [upd_ne (Nat.ne_of_lt (lt c hc))];exact (hf c hc).1
 done:=by
  intro X hP hw hK hc i pins s σ H E I hf st hg
  subst hP hw hK
  obtain⟨h1,h2,h3,h4,h5⟩:=st
  obtain⟨xs,ys,q1,q2,hend⟩:=hg
  obtain⟨t1,r1,p1⟩:=inv_seq I q1
  obtain⟨t2,r2,p2⟩:=inv_seq I q2
  have ap:Ap z u o c1 c2 a b:=⟨ne,fun c hc=>⟨sqS_apart I q1 (hf c hc),sqS_apart I q2 (hf c hc)⟩⟩
  have e1:=r1.length
  have e2:=r2.length
  refine zstop (I.ok.hd hc) ap ⟨h1,h2,h3,h4,h5,p1,p2⟩ (by
   rcases hend with q | q
   · exact .inl (by simp;omega)
   · exact .inr (by simp;omega)) fun g kp=>⟨rfl,?_⟩
  have all:∀ c ob,c∉[z,u,o,c1,c2]->s.heap.get? c = some ob->g.get? c = some ob:=fun c ob hc q=>by
   simp only [List.mem_cons,List.mem_nil_iff,or_false,not_or] at hc
   exact kp c ob hc.1 hc.2.2.1 hc.2.2.2.1 hc.2.2.2.2 q
  have trk:∀ c v,H c = some v->c∉[z,u,o,c1,c2]:=fun c v q hc=>by rw [(hf c hc).1] at q;cases q
  refine I.step (g':=s.gens) (d':=s.drawn) (t':=s.toks) (ch:=[z,u,o,c1,c2]) (fun c hc=>?_) (fun c ob _ _ hc q _=>all c ob hc q) (fun c ob _ _ hc q _=>⟨ob.slots,all c ob hc q⟩) (fun c ob hc q n=>n) (fun c ob hc q=>⟨ob,all c ob hc q⟩)
   (fun c v q=>q) (fun c v v' q=>q) (fun c v q=>⟨#[],by rw [q];simp⟩) (fun m hm=>?_) (fun c v q=>?_) I.bare
  · obtain⟨f0,f1,f2,f3,f4,f5⟩:=hf c hc
    exact⟨f3,f1,f4,f5⟩
  · obtain⟨ob,es,ep,ho,r⟩:=hm
    exact⟨ob,es,ep,all _ ob (fun hc=>(hf _ hc).2.1 rfl) ho,r⟩
  · refine (I.hok c v q).stay (fun c' ob hc' q'=>all c' ob ?_ q') (fun c' q'=>q') fun c' vs q'=>q'
    rcases hc' with e | e
    · rw [e];exact trk c v q
    · exact trk c' _ e
 self:=fun _ _ _ _ _ st h=>wpAny_pyIter_zip st.1 h
def iZip (K:PySem.W.Frag) (ta:TA):TI:=fun σ H R=>ta σ H fun vs H1=>∃ (f1 f2:Bool) (a b:Addr) (xs ys:List V),vs = [.ref a,.ref b]/\SqS f1 K H1 a xs/\SqS f2 K H1 b ys/\R (Itz f1 f2 K a b) H1
theorem pi_zip (hg:Gl X "zip") (hm:X.mg "zip" = none) (ha:PA X [a,b] ta) (hs:starEach [a,b] X.env = [(false,eval a X.env),(false,eval b X.env)]) (hs2:starEach [b] X.env = [(false,eval b X.env)]):
 PI X (.Tuple es kt pt) (.Call (.Name "zip" p) [a,b] [] pos) (iZip X.K ta):=by
 intro pins s σ H R I h
 refine Call_ (ld_blt I hg hm boot_zip (PyProof.Rows.callWith_type1 (thn (ha pos pins s σ H _ I h) fun us s1 ⟨vs,H1,I1,r1,q1⟩=>?_) (by rw [hs,hs2]) (by rw [hs2];rfl)))
 obtain⟨f1,f2,a,b,xs,ys,e,q1,q2,q⟩:=q1
 subst e
 cases r1 with
 | cons r rr=>
  cases rr with
  | cons r' rr=>
   cases rr
   cases r
   cases r'
   obtain⟨t1,rv1,p1⟩:=inv_seq I1 q1
   obtain⟨t2,rv2,p2⟩:=inv_seq I1 q2
   refine zmake p1 p2 fun g Z old=>?_
   have I2:Inv X pins σ H1 { s1 with heap:=g }:=I1.kept (t':=s1.toks) old
   refine wpAny_pyIter_zip Z.zip ?_
   refine⟨s1.heap.objs.size + 4,[s1.heap.objs.size + 4,s1.heap.objs.size + 2,s1.heap.objs.size + 3,s1.heap.objs.size,s1.heap.objs.size + 1],_,_,H1,rfl,I2,turn_zip ?_,⟨Z.zip,Z.its,Z.own,Z.i1,Z.i2⟩,fun c hc=>?_,q⟩
   · simp
   · have hb:s1.heap.objs.size<=c:=by grind
     exact I1.fpOk hb (I1.hok.fresh hb)
theorem k_zip {K:PySem.W.Frag} (hK:X.K = K) {x:Str} (hx:x = "zip") (hg:Gl X x) (hm:X.mg x = none) (hs:starEach [a,b] X.env = [(false,eval a X.env),(false,eval b X.env)]) (hs2:starEach [b] X.env = [(false,eval b X.env)]) (ha:JA X [a,b] ta):
 JI X (.Tuple es kt pt) (.Call (.Name x p) [a,b] [] pos) (iZip K ta):=hK▸⟨by subst hx;exact pi_zip hg hm ha.h hs hs2⟩
section
variable {K:PySem.W.Frag}
theorem cmp_zip (hx:n<=xs.length) (hy:ys.length = n) (hn:n<=1000) (Pv:Nat->List V->L2.St->Hp->Prop) (h0:Pv 0 [] σ0 H0) (hl:∀ i zs σ H,i<=n->Pv i zs σ H->SqS f1 K H a xs/\SqS f2 K H b ys/\zs.length<=i)
 (hs:∀ i x y zs σ H (T:Addr) (N:List V->L2.St->Hp->Prop),xs[i]? = some x->ys[i]? = some y->Pv i zs σ H->H T = none->(∀ zs' σ' H',Pv (i + 1) zs' σ' H'->N zs' σ' H')->
  g (.ref T) σ (upd H T (.tup [x,y])) fun σ3 H3=>tt σ3 H3 fun b H4=>if b = true then te σ3 H4 fun y H5=>N (zs ++ [y]) σ3 H5 else N zs σ3 H4)
 (hd:∀ zs σ H,Pv n zs σ H->Z zs H):Cmp (Itz f1 f2 K a b) g tt te σ0 H0 Z:=by
 have hsz:=sizeLine_eq
 refine⟨fun i m zs σ H=>m = n - i/\i<=n/\Pv i zs σ H,⟨n,by simp,Nat.zero_le _,h0⟩,?_⟩
 rintro i m zs σ H ⟨rfl,hi,p⟩
 obtain⟨q1,q2,hy'⟩:=hl i zs σ H hi p
 refine⟨by omega,?_⟩
 by_cases hlt:i < n
 · have e1:xs[i]? = some xs[i]:=List.getElem?_eq_getElem (by omega)
   have e2:ys[i]? = some ys[i]:=List.getElem?_eq_getElem (by omega)
   refine .inr ⟨⟨xs,ys,_,_,q1,q2,e1,e2⟩,fun v H' yl=>?_⟩
   obtain⟨x,y,T,rfl,hT,rfl,hxz⟩:=yl
   obtain⟨e3,e4⟩:=hxz xs ys q1 q2
   exact hs i x y zs σ _ T (fun ys' σ' H'=>∃ m',m' < n - i/\m' = n - (i + 1)/\i + 1<=n/\Pv (i + 1) ys' σ' H') e3 e4 p hT fun ys' σ' H' p'=>⟨n - (i + 1),by omega,rfl,hlt,p'⟩
 · have e:i = n:=by omega
   subst e
   exact .inl ⟨⟨xs,ys,q1,q2,.inr (by omega)⟩,hd zs σ H p⟩
end
end ZG
namespace EG
section
variable {s:Shared}
theorem drawsT (hh:A.handled = none) (c d:Addr) (hdc:d≠c) (f:Bool) (xs:Array Value):
 Draws prog w A c [c,d] xs.size (fun i x=>xs[i]? = some x) (fun i h=>ZG.SI f h c d i/\ZG.SS f h d xs) where
 live:=fun i h st=>let ⟨o,e,_⟩:=ZG.SI.ob st.1;⟨o,e⟩
 frame:=fun i h h' st k=>⟨ZG.SI.at st.1 fun ob q=>k _ (by simp) ob q,ZG.SS.at st.2 fun ob q=>k _ (by simp) ob q⟩
 item:=fun i s Q E hi st go=>by
  have hx:xs[i]? = some xs[i]:=by simp
  exact ZG.gnext st.1 st.2 hx fun g j k=>go _ g s.toks hx ⟨j,ZG.SS.at st.2 fun ob q=>k.extBut _ _ hdc q⟩ k
 done:=fun s Q E st go=>ZG.gnone hh st.1 st.2 (by simp) fun g e k he=>go g e k he
theorem enone {k:Nat} (hh:A.handled = none) (h1:IsEnum s.heap e c k old) (h2:ZG.SI f s.heap c d k) (h3:ZG.SS f s.heap d xs) (hv:xs[k]? = none)
 (go:∀ g x,Heap.ExtBut c s.heap g->(∃ ob,g.get? x = some ob/\ob.cls = .type "StopIteration")->E (.ref x) { s with heap:=g }):
 wpAny (model prog w) A (Builtin.«enumerate.__next__» ⟨[.ref e],[]⟩) Q E s:=by
 show wpAny _ _ (field _ 2 >>= _) _ _ _
 refine wpAny_bind (wpAny_field h1 rfl rfl ?_)
 exact wpAny_bind (ZG.gnone hh h2 h3 hv go)
theorem enext {f:Bool}{e c d:Addr}{xs:Array Value}{k:Nat}{x old:Value} (hh:A.handled = none) (n1:e≠c) (n2:d≠e) (n3:d≠c) (h1:IsEnum s.heap e c k old) (h2:ZG.SI f s.heap c d k) (h3:ZG.SS f s.heap d xs) (hx:xs[k]? = some x)
 (go:∀ g tk,IsEnumOut g e c (k + 1) x s.heap.objs.size->ZG.SI f g c d (k + 1)->IsPair g s.heap.objs.size (.int k tk) x->g.objs.size = s.heap.objs.size + 1->
  (∀ b ob,b≠e->b≠c->s.heap.get? b = some ob->g.get? b = some ob)->Q (some (.ref s.heap.objs.size)) { s with heap:=g,toks:=tk + 1 }):wpAny (model prog w) A (pyNext (.ref e)) Q E s:=by
 have hT:s.TypeIs (.ref e) "enumerate":=⟨_,h1,rfl⟩
 have hk:k < xs.size:=by
  rcases Nat.lt_or_ge k xs.size with h | h
  · exact h
  simp_all
 unfold pyNext
 refine wpAny_bind (wpAny_attempt (wpAny_callSpecial?_slot hT F.slot_enumerate_next (wpAny_call_entry F.slot_enumerate_next hT F.entry_enumerate_next ?_ (F.args_enumerate_next_1 _))))
 refine enumerate_next_itemD (drawsT (A:=A.in1) (show A.in1.handled = none from hh) c d n3 f xs) h1 ⟨h2,h3⟩ hk n1 (by simp [n1,Ne.symm n2]) fun x' g tk px a1 a2 a3 a4 a5=>wpAny_pure ?_
 have:x' = x:=by grind
 subst this
 exact go g tk a1 a2.1 a3 a4 a5
theorem estop {k:Nat} (hh:A.handled = none) (h1:IsEnum s.heap e c k old) (h2:ZG.SI f s.heap c d k) (h3:ZG.SS f s.heap d xs) (hv:xs[k]? = none)
 (go:∀ g,Heap.ExtBut c s.heap g->Q none { s with heap:=g }):wpAny (model prog w) A (pyNext (.ref e)) Q E s:=by
 have hT:s.TypeIs (.ref e) "enumerate":=⟨_,h1,rfl⟩
 refine wpAny_bind (wpAny_attempt (wpAny_callSpecial?_slot hT F.slot_enumerate_next (wpAny_call_entry F.slot_enumerate_next hT F.entry_enumerate_next (enone hh h1 h2 h3 hv fun g x hk he=>?_) (F.args_enumerate_next_1 _))))
 obtain⟨ob,hob,hcb⟩:=he
 exact wpAny_bind (wpAny_isInstance ⟨ob,hob,hcb⟩ isSubtype_stop (wpAny_pure (go _ hk)))
theorem wpAny_pureB {b:Bool} (h:∀ b,Q b s):wpAny M A (pure b) Q E s:=wpAny_pure (h b)
theorem emeets (f:Bool) (d:Addr) (xs:Array Value):Meets (Builtin.«enumerate.__new__» ⟨[.type "enumerate",.ref d],[]⟩) (fun _ R s=>ZG.SS f s.heap d xs/\
 R (.ok (.ret (.ref (ZG.zh1 f s.heap d).objs.size))) { s with heap:=(ZG.zh1 f s.heap d).push { cls:=.type "enumerate",data:=.fields #[.none,.bool false,.ref s.heap.objs.size,rawInt 0,.none,.none] } }):=
 .of_wp fun prog w A R s h=>by
  obtain⟨hp,g,dr,tk,os⟩:=s
  obtain⟨h1,h⟩:=h
  have hsub:=sub_enumerate
  have q1:ZG.SS f (Shared.heap ⟨hp,g,dr,tk,os⟩) d xs:=h1
  wp_walk using ZG.giter q1
  refine wpAny_stack_any fun st=>wpAny_pureB fun bb=>?_
  cases bb
  · wp_walk using ZG.giter q1
    exact⟨_,rfl,h⟩
  · wp_walk using ZG.giter q1
    exact⟨_,rfl,h⟩
theorem emake (h1:ZG.SS f s.heap d xs)
 (go:∀ g,IsEnum g (s.heap.objs.size + 1) s.heap.objs.size 0 .none->ZG.SI f g s.heap.objs.size d 0->(∀ b ob,s.heap.get? b = some ob->g.get? b = some ob)->Q (.ref (s.heap.objs.size + 1)) { s with heap:=g }):
 wpAny (model prog w) A (call (.type "enumerate") [.ref d]) Q E s:=by
 refine callType_new F.called_enumerate (by decide) (F.typeCall_enumerate_1 _) (F.newCall_enumerate_1 _) (fun obj=>F.args_object_init_2 obj _) F.entry_enumerate_new (emeets f d xs) ⟨h1,?_⟩
 have s1:(ZG.zh1 f s.heap d).objs.size = s.heap.objs.size + 1:=Heap.size_push ..
 have g2:((ZG.zh1 f s.heap d).push { cls:=.type "enumerate",data:=.fields #[.none,.bool false,.ref s.heap.objs.size,rawInt 0,.none,.none] }).get? (ZG.zh1 f s.heap d).objs.size = some _:=Heap.get?_push_size _ rfl
 have g1:((ZG.zh1 f s.heap d).push { cls:=.type "enumerate",data:=.fields #[.none,.bool false,.ref s.heap.objs.size,rawInt 0,.none,.none] }).get? s.heap.objs.size = some _:=Heap.get?_push_of_some _ (Heap.get?_push_size _ rfl)
 have old:∀ b ob,s.heap.get? b = some ob->((ZG.zh1 f s.heap d).push { cls:=.type "enumerate",data:=.fields #[.none,.bool false,.ref s.heap.objs.size,rawInt 0,.none,.none] }).get? b = some ob:=fun b ob q=>Heap.get?_push_of_some _ (Heap.get?_push_of_some _ q)
 rw [s1] at g2
 have gz:=go _ g2 (ZG.SI.new g1) old
 rw [s1]
 exact⟨⟨_,g2,rfl⟩,gz⟩
end
def Ite (f:Bool) (K:PySem.W.Frag) (a:Addr):It:=
 ⟨fun i H=>∃ xs x,ZG.SqS f K H a xs/\xs[i]? = some x,
  fun i H v H'=>∃ (x:V) (T:Addr),v = .ref T/\H T = none/\H' = upd H T (.tup [.int i,x])/\∀ xs,ZG.SqS f K H a xs->xs[i]? = some x,
  fun i H=>∃ xs,ZG.SqS f K H a xs/\xs.length<=i⟩
theorem turn_enum {f:Bool}{P:Program}{w:World}{K:PySem.W.Frag}{es:List Expr}{kt:Nat}{pt:Pos}{e c a:Addr} (ne:e≠c):
 Turn P w K (.Tuple es kt pt) (Ite f K a) [e,c] e (fun i h=>(∃ old,IsEnum h e c i old)/\ZG.SI f h c a i) where
 mem:=by simp
 obj:=fun i h st b hb=>by
  obtain⟨⟨old,h1⟩,h40⟩:=st
  obtain⟨o4,h4,d4⟩:=ZG.SI.ob h40
  simp only [List.mem_cons,List.mem_nil_iff,or_false] at hb
  rcases hb with rfl | rfl
  · exact⟨_,h1,fun v q=>by cases q⟩
  · exact⟨_,h4,fun v q=>by rw [d4] at q;cases q⟩
 keep:=fun i h h' st k=>by
  obtain⟨⟨old,h1⟩,h4⟩:=st
  exact⟨⟨old,k _ (by simp) _ h1⟩,ZG.SI.at h4 fun ob q=>k _ (by simp) ob q⟩
 item:=by
  intro X hP hw hK hc i pins s σ H E I hf st hg
  subst hP hw hK
  obtain⟨⟨old,h1⟩,h4⟩:=st
  obtain⟨xs,x,q1,hx⟩:=hg
  obtain⟨t1,r1,p1⟩:=ZG.inv_seq I q1
  obtain⟨x',hx',rx⟩:=r1.get hx
  have ae:a≠e:=ZG.sqS_apart I q1 (hf e (by simp))
  have ac:a≠c:=ZG.sqS_apart I q1 (hf c (by simp))
  refine enext (I.ok.hd hc) ne ae ac h1 h4 p1 (x:=x') (by simpa using hx') fun g tk z1 i1 T1 sz kp=>?_
  refine⟨_,rfl,wpAny_letOwnedTupleGo_enum z1 fun g' z2 k2=>?_⟩
  have hfr:H s.heap.objs.size = none:=I.hok.fresh (Nat.le_refl _)
  have lt:∀ b∈[e,c],b < s.heap.objs.size:=fun b hb=>by
   simp only [List.mem_cons,List.mem_nil_iff,or_false] at hb
   rcases hb with rfl | rfl
   · exact Heap.lt_size h1
   · obtain⟨_,h4,_⟩:=ZG.SI.ob h4;exact Heap.lt_size h4
  have all:∀ b ob,b∉[e,c]->s.heap.get? b = some ob->g'.get? b = some ob:=fun b ob hb q=>by
   simp only [List.mem_cons,List.mem_nil_iff,or_false,not_or] at hb
   exact k2.extBut _ _ hb.1 (kp b ob hb.1 hb.2 q)
  have zl:e < s.heap.objs.size:=lt e (by simp)
  have i1':=ZG.SI.at i1 fun ob q=>k2.extBut _ _ (Ne.symm ne) q
  have T':IsPair g' s.heap.objs.size (.int i tk) x':=k2.extBut _ _ (Nat.ne_of_gt zl) T1
  have trk:∀ b v,H b = some v->b∉[e,c]:=fun b v q hb=>by rw [(hf b hb).1] at q;cases q
  have I1:Inv X pins σ (upd H s.heap.objs.size (.tup [.int i,x])) { s with heap:=g',toks:=tk + 1 }:=by
   refine I.step (g':=s.gens) (d':=s.drawn) (t':=tk + 1) (ch:=[e,c]) (fun b hb=>?_) (fun b ob _ _ hb q _=>all b ob hb q) (fun b ob _ _ hb q _=>⟨ob.slots,all b ob hb q⟩) (fun b ob hb q n=>?_) (fun b ob hb q=>⟨ob,all b ob hb q⟩)
    (fun b v q=>?_) (fun b v v' q=>?_) (fun b v q=>⟨#[],?_⟩) (fun m hm=>?_) (fun b v q=>?_) I.bare
   · obtain⟨f0,f1,f2,f3,f4,f5⟩:=hf b hb
     exact⟨f3,f1,f4,f5⟩
   · rw [upd_ne (Nat.ne_of_lt (Heap.lt_size q))];exact n
   · rw [upd_ne (ne_of_none q hfr)];exact q
   · rw [upd_ne (ne_of_none q hfr)];exact q
   · rw [upd_ne (ne_of_none q hfr),q];simp
   · obtain⟨ob,es,ep,ho,r⟩:=hm
     exact⟨ob,es,ep,all _ ob (fun hb=>(hf _ hb).2.1 rfl) ho,r⟩
   · by_cases hcT:b = s.heap.objs.size
     · subst hcT
       rw [upd_same] at q;cases q
       exact⟨by show 2<=sizeLine;decide,[.int i tk,x'],.cons ⟨tk,rfl⟩ (.cons rx .nil),⟨_,T',rfl,_,rfl⟩⟩
     · rw [upd_ne hcT] at q
       refine (I.hok b v q).stay (fun c' ob hc' q'=>all c' ob ?_ q') (fun c' q'=>by rw [upd_ne (ne_of_none q' hfr)];exact q') fun c' vs q'=>by rw [upd_ne (ne_of_none q' hfr)];exact q'
       rcases hc' with z | z
       · rw [z];exact trk b v q
       · exact trk c' _ z
  refine⟨.ref s.heap.objs.size,_,I1,rfl,⟨x,_,rfl,hfr,rfl,fun xs' e1=>?_⟩,⟨⟨_,z2⟩,i1'⟩,fun b hb=>?_⟩
  · rw [ZG.sqS_inj I e1 q1];exact hx
  · rw [upd_ne (Nat.ne_of_lt (lt b hb))];exact (hf b hb).1
 done:=by
  intro X hP hw hK hc i pins s σ H E I hf st hg
  subst hP hw hK
  obtain⟨⟨old,h1⟩,h4⟩:=st
  obtain⟨xs,q1,hend⟩:=hg
  obtain⟨t1,r1,p1⟩:=ZG.inv_seq I q1
  have e1:=r1.length
  refine estop (I.ok.hd hc) h1 h4 p1 (by simp;omega) fun g kp=>⟨rfl,?_⟩
  have all:∀ b ob,b∉[e,c]->s.heap.get? b = some ob->g.get? b = some ob:=fun b ob hb q=>by
   simp only [List.mem_cons,List.mem_nil_iff,or_false,not_or] at hb
   exact kp b ob hb.2 q
  have trk:∀ b v,H b = some v->b∉[e,c]:=fun b v q hb=>by rw [(hf b hb).1] at q;cases q
  refine I.step (g':=s.gens) (d':=s.drawn) (t':=s.toks) (ch:=[e,c]) (fun b hb=>?_) (fun b ob _ _ hb q _=>all b ob hb q) (fun b ob _ _ hb q _=>⟨ob.slots,all b ob hb q⟩) (fun b ob hb q n=>n) (fun b ob hb q=>⟨ob,all b ob hb q⟩)
   (fun b v q=>q) (fun b v v' q=>q) (fun b v q=>⟨#[],by rw [q];simp⟩) (fun m hm=>?_) (fun b v q=>?_) I.bare
  · obtain⟨f0,f1,f2,f3,f4,f5⟩:=hf b hb
    exact⟨f3,f1,f4,f5⟩
  · obtain⟨ob,es,ep,ho,r⟩:=hm
    exact⟨ob,es,ep,all _ ob (fun hb=>(hf _ hb).2.1 rfl) ho,r⟩
  · refine (I.hok b v q).stay (fun c' ob hc' q'=>all c' ob ?_ q') (fun c' q'=>q') fun c' vs q'=>q'
    rcases hc' with z | z
    · rw [z];exact trk b v q
    · exact trk c' _ z
 self:=fun _ _ _ _ _ st h=>by obtain⟨⟨old,h1⟩,_⟩:=st;exact wpAny_pyIter_enum h1 h
theorem boot_enum:bootBuiltins "enumerate" = some (.type "enumerate"):=by rfl
def iEnum (K:PySem.W.Frag) (ta:TA):TI:=fun σ H R=>ta σ H fun vs H1=>∃ (f:Bool) (a:Addr) (xs:List V),vs = [.ref a]/\ZG.SqS f K H1 a xs/\R (Ite f K a) H1
theorem pi_enum (hg:Gl X "enumerate") (hm:X.mg "enumerate" = none) (ha:PA X [a] ta) (hs:starEach [a] X.env = [(false,eval a X.env)]):
 PI X (.Tuple es kt pt) (.Call (.Name "enumerate" p) [a] [] pos) (iEnum X.K ta):=by
 intro pins s σ H R I h
 refine Call_ (ld_blt I hg hm boot_enum (PyProof.Rows.callWith_type1 (thn (ha pos pins s σ H _ I h) fun us s1 ⟨vs,H1,I1,r1,q1⟩=>?_) (by rw [hs];rfl) rfl))
 obtain⟨f,a,xs,e,q1,q⟩:=q1
 subst e
 cases r1 with
 | cons r rr=>
  cases rr
  cases r
  obtain⟨t1,rv1,p1⟩:=ZG.inv_seq I1 q1
  refine emake p1 fun g h1 h2 old=>?_
  have I2:=I1.kept (t':=s1.toks) old
  refine wpAny_pyIter_enum h1 ?_
  refine⟨s1.heap.objs.size + 1,[s1.heap.objs.size + 1,s1.heap.objs.size],_,_,H1,rfl,I2,turn_enum ?_,⟨⟨_,h1⟩,h2⟩,fun c hc=>?_,q⟩
  · intro z;have z:(_:Nat) = _:=z;omega
  · have hb:s1.heap.objs.size<=c:=by
     simp at hc
     rcases hc with rfl | rfl
     simp;omega
    exact I1.fpOk hb (I1.hok.fresh hb)
theorem k_enum {K:PySem.W.Frag} (hK:X.K = K) {x:Str} (hx:x = "enumerate") (hg:Gl X x) (hm:X.mg x = none) (hs:starEach [a] X.env = [(false,eval a X.env)]) (ha:JA X [a] ta):
 JI X (.Tuple es kt pt) (.Call (.Name x p) [a] [] pos) (iEnum K ta):=hK▸⟨by subst hx;exact pi_enum hg hm ha.h hs⟩
section
variable {K:PySem.W.Frag}
theorem cmp_enum (hx:xs.length = n) (hn:n<=10000) (Pv:Nat->List V->L2.St->Hp->Prop) (h0:Pv 0 [] σ0 H0) (hl:∀ i ys σ H,i<=n->Pv i ys σ H->ZG.SqS f K H a xs/\ys.length<=i)
 (hs:∀ i x ys σ H (T:Addr) (N:List V->L2.St->Hp->Prop),xs[i]? = some x->Pv i ys σ H->H T = none->(∀ ys' σ' H',Pv (i + 1) ys' σ' H'->N ys' σ' H')->
  g (.ref T) σ (upd H T (.tup [.int i,x])) fun σ3 H3=>tt σ3 H3 fun b H4=>if b = true then te σ3 H4 fun y H5=>N (ys ++ [y]) σ3 H5 else N ys σ3 H4)
 (hd:∀ ys σ H,Pv n ys σ H->Z ys H):Cmp (Ite f K a) g tt te σ0 H0 Z:=by
 have hsz:=sizeLine_eq
 refine⟨fun i m ys σ H=>m = n - i/\i<=n/\Pv i ys σ H,⟨n,by simp,Nat.zero_le _,h0⟩,?_⟩
 rintro i m ys σ H ⟨rfl,hi,p⟩
 obtain⟨q1,hy⟩:=hl i ys σ H hi p
 refine⟨by omega,?_⟩
 by_cases hlt:i < n
 · have e1:xs[i]? = some xs[i]:=List.getElem?_eq_getElem (by omega)
   refine .inr ⟨⟨xs,_,q1,e1⟩,fun v H' yl=>?_⟩
   obtain⟨x,T,rfl,hT,rfl,hxz⟩:=yl
   have e3:=hxz xs q1
   exact hs i x ys σ _ T (fun ys' σ' H'=>∃ m',m' < n - i/\m' = n - (i + 1)/\i + 1<=n/\Pv (i + 1) ys' σ' H') e3 p hT fun ys' σ' H' p'=>⟨n - (i + 1),by omega,rfl,hlt,p'⟩
 · have e:i = n:=by omega
   subst e
   exact .inl ⟨⟨xs,q1,by omega⟩,hd ys σ H p⟩
end
section
variable {K:PySem.W.Frag}{g:TG}{tb:TS}{D:Ends}
theorem for_enum (Pv:Nat->L2.St->Hp->Prop) (h0:Pv 0 σ0 H0) (hl:∀ i σ H,i<=xs.length->Pv i σ H->ZG.SqS f K H a xs)
 (hs:∀ i x σ H (T:Addr),xs[i]? = some x->Pv i σ H->H T = none->g (.ref T) σ (upd H T (.tup [.int i,x])) fun σ2 H2=>tb { D with nx:=Pv (i + 1),ct:=Pv (i + 1),bk:=D.nx } σ2 H2)
 (hd:∀ σ H,Pv xs.length σ H->D.nx σ H):
 ∃ W:Nat->Nat->L2.St->Hp->Prop,(∃ m,W 0 m σ0 H0)/\∀ i m σ H,W i m σ H->
  ((Ite f K a).stop i H/\D.nx σ H)\/((Ite f K a).go i H/\∃ N:L2.St->Hp->Prop,(∀ σ' H',N σ' H'->∃ m',m' < m/\W (i + 1) m' σ' H')/\∀ x H',(Ite f K a).yld i H x H'->g x σ H' fun σ2 H2=>tb { D with nx:=N,ct:=N,bk:=D.nx } σ2 H2):=by
 refine⟨fun i m σ H=>m = xs.length - i/\i<=xs.length/\Pv i σ H,⟨xs.length,by simp,Nat.zero_le _,h0⟩,?_⟩
 rintro i m σ H ⟨rfl,hi,p⟩
 have q:=hl i σ H hi p
 by_cases hlt:i < xs.length
 · refine .inr ⟨⟨xs,xs[i],q,by simp⟩,Pv (i + 1),fun σ' H' p'=>⟨xs.length - _,by omega,rfl,hlt,p'⟩,fun x H' y=>?_⟩
   obtain⟨x,T,rfl,hT,rfl,hxz⟩:=y
   exact hs i x σ _ T (hxz xs q) p hT
 · have e:i = xs.length:=by omega
   subst e
   exact .inl ⟨⟨xs,q,Nat.le_refl _⟩,hd σ H p⟩
end
end EG
end Br
namespace Br
open PySem.W (OpenLaw Ground WalkO WData)
theorem weight_mem:∀ {ns:List Int}{n:Int},n∈ns->n≠0->n.natAbs.log2 + 1<=WData.weightAll (ns.map WData.int)
 | m :: ns,n,h,h0=>by
  rw [List.map_cons]
  rcases List.mem_cons.mp h with e | e
  · simp only [WData.weightAll,WData.weight]
    grind
  · have:=weight_mem e h0
    simp only [WData.weightAll]
    omega
theorem lay_bits {ns:List Int} (h:WData.layableAll [.list (ns.map WData.int)] = true):∀ n∈ns,Bd 1048576 n:=fun n hn=>by
 have h1:WData.layable (.list (ns.map WData.int)) = true:=by
  unfold WData.layableAll at h
  simpa using h
 unfold WData.layable at h1
 rw [Bool.and_eq_true] at h1
 have h2:=of_decide_eq_true h1.2
 have h3:WData.weightAll (ns.map WData.int)<=2 ^ 20:=by
  simpa only [WData.weight] using h2
 by_cases h0:n = 0
 · subst h0
   show (0:Int).natAbs < 2 ^ 1048576
   exact Nat.pow_pos (by decide)
 · have h4:=weight_mem hn h0
   have h5:n.natAbs < 2 ^ (n.natAbs.log2 + 1):=Nat.lt_log2_self
   exact Nat.lt_of_lt_of_le h5 (Nat.pow_le_pow_right (by decide) (by omega))
theorem walkB_of {l:PySem.W.OpenLaw}{n k:Nat}{q:Program}{loose:List Str}{XP:(Str->Option Value)->Heap->Prop}{d:DefRec}{K:Params->PySem.W.Frag}{CX:World->CXT}{sp:World->Sp}{x:Str}
 (hn:l.most = some n) (hn2:n<=sizeLine) (hdf:d.params.defaults = []) (hr:Room k callerA)
 (hY:∀ (w:World) (h:Heap),YP w h->(K w.params).In h)
 (F:∀ (w:World) (mg:Str->Option Value) (fa:Addr) (h:Heap),(K w.params).In h->h.Ns mainGlobals mg->mg d.name = some (.ref fa)->
  ∃ fd:FuncData,(∀ (s:Shared) (u:Value),BindsTo s fd ⟨[u],[]⟩ [(x,u)])/\
   ∀ base:Heap,(K w.params).In base->base.Ns mainGlobals mg->FnOk l.prog w (K w.params) mg base (CX w) k fa fd [x] (sp w))
 (hsp:∀ (w:World) (H:Hp) (a:Addr) (ns:List Int),ns.length<=n->(∀ n∈ns,Bd 1048576 n)->SqL (K w.params) H a (ns.map V.int)->sp w [.ref a] H (fun v _=>v = .bl true) fun _ _ _=>False)
 (hCX:∀ (w:World) (H:Hp) (s:Shared) (e:Value) (s':Shared),CX w [] H s (fun _ _ _=>False) e s'->False):
 PySem.W.WalkO q loose XP YP l.row.toRowW d [] (fun f vs=>PySem.call f vs):=by
 intro w s₀ s₁ mg mb G Y fa o pm cd doc dV kV ho hd hcd hD hmg hg args vals as hpre hlay hrd hwl hlo
 obtain⟨a,vs,ns,rfl,rfl,hobj,hints,hlen⟩:=Att.script_of hn hpre hwl
 have KX:=hY w _ Y
 obtain⟨fd,hb,hF⟩:=F w mg fa _ KX G.T.g hmg
 have lc:=law_call KX G.T.g G.T.b G.T.builtins G.T.nolimit hg hobj hints (Nat.le_trans hlen hn2) hr hF hb (fun H hO hS=>hsp w H a ns hlen (lay_bits hlay) hS) fun H e s'=>hCX w H s₁ e s'
 refine PySem.W.enter_call (codeAny_mono lc fun r s' ⟨hr,h2,h3,h4⟩=>?_)
 subst hr
 refine⟨.inl ⟨.bool true,.bool true,[],rfl,fun _=>rfl,.bool true,Att.post_true l _,fun _=>?_⟩,h2,h3,h4⟩
 simp
end Br
namespace Br
def rCatF (K:PySem.W.Frag):R2:=fun x y H Q=>∃ a b xs ys,x = .ref a/\y = .ref b/\SqT K H a xs/\SqT K H b ys/\xs≠[]/\ys≠[]/\xs.length + ys.length<=sizeLine/\
 ∀ p o H2,H p = none->bareT o->L2.Same H H2->H2 p = some (.frz o (.tup (xs ++ ys)))->Q (.ref p) H2
section
variable {K:PySem.W.Frag}
theorem op_catF:OpR X (binaryOp .Add) (rCatF X.K):=by
 intro pins s σ H x y v u Q I rx ry h
 obtain⟨a,b,xs,ys,rfl,rfl,ha,hb,hx,hy,hz,q⟩:=h
 cases rx
 cases ry
 obtain⟨its,r1,p1,_⟩:=I.tuple ha
 obtain⟨its2,r2,p2,_⟩:=I.tuple hb
 refine HT.cat_tup p1 p2 (fun z=>hx (r1.nil_iff.mp z)) (fun z=>absurd (r2.nil_iff.mp z) hy) (fun _=>?_) (by rw [<- r1.length,<- r2.length];omega)
 have hf:=I.hok.fresh (Nat.le_refl s.heap.objs.size)
 refine⟨.ref s.heap.objs.size,_,I.laid (o:=.frz { cls:=.type "tuple",data:=.seq (its ++ its2).toArray } _) (fun b ob q=>Heap.get?_push_of_some _ q) (Nat.le_refl _) ?_,rfl,q _ _ _ hf ⟨_,_,rfl⟩ (Br.Same.upd hf) upd_same⟩
 exact⟨Heap.get?_push_size _ rfl,by simp_all,_,r1.append r2,IsTup.new _ _⟩
theorem o_addF (hK:X.K = K):JOp X .Add (fun x y H Q=>rI0 (fun i j=>.int (i + j)) x y H Q\/rCatF K x y H Q):=hK▸⟨op_add.or op_catF⟩
end
section
open PySem PyProof.Rows HT
open PySem.SeqAt
open PySem.AutoSeq1 (wpAny_loadPart')
open PySem.MeetsSeq PySem.MeetsSeq2 PySem.MeetsSeq3
def nLt (p q:List Int×List Int):Bool:=if p.1 = q.1 then lexLt p.2 q.2 else lexLt p.1 q.1
theorem tupKey (hi:IntsAre its.toList ns) (p:IsTup h c its):IsTupleKey (mixKind prog w) h (ns.map Sum.inl) c:=
 let ⟨o,h1,h2,n,h3⟩:=p
 ⟨o,its,n,h1,h2,h3,by
  have:Vals ((ns.map Sum.inl).map kV) its.toList:=by
   have:=ints_vals hi
   rw [List.map_map];exact this
  simpa using items_are this⟩
theorem tuple_gt_nest (l b:Addr) (items items2:Array Value) (n n2:Nat) (dd dd2:Option Addr) (sl sl2:Array (Option Value)) (c c2:Addr) (its its2:Array Value) (xs ys:List Value) (ms ms2 ns ns2:List Int) (e1:items.toList = .ref c :: xs) (e2:items2.toList = .ref c2 :: ys)
 (hm:IntsAre its.toList ms) (hm2:IntsAre its2.toList ms2) (hi:IntsAre xs ns) (hj:IntsAre ys ns2):
 Meets (Builtin.«tuple.__gt__» ⟨[.ref l,.ref b],[]⟩)
  (fun A R s=>A.in1.units < cLine/\IsTup s.heap c its/\IsTup s.heap c2 its2/\s.heap.get? l = some { cls:=.type "tuple",dict:=dd,data:=.seq items n,slots:=sl }/\s.heap.get? b = some { cls:=.type "tuple",dict:=dd2,data:=.seq items2 n2,slots:=sl2 }/\
   R (.ok (.ret (.bool (nLt (ms2,ns2) (ms,ns))))) s):=
 .of_wp fun prog w A R s h=>by
  obtain⟨hp,g,d,tk,os⟩:=s;obtain⟨hu,hc,hc2,hl,hb,h⟩:=h
  have f2:=AutoSeq1.sub_tuple_tuple
  have z1:items.size = ns.length + 1:=by rw [<- hi.length,<- Array.length_toList,e1];simp
  have z2:items2.size = ns2.length + 1:=by rw [<- hj.length,<- Array.length_toList,e2];simp
  wp_walk using wpAny_loadPart' hl,wpAny_loadPart' hb,wpAny_forIn_list _ (fun rest b s'=>b.1 = none/\s' = ⟨hp,g,d,tk,os⟩/\((rest = (Value.ref c,Value.ref c2) :: xs.zip ys)\/∃ (vs ws:List Value) (ns' ms':List Int),rest = vs.zip ws/\
   IntsAre vs ns'/\IntsAre ws ms'/\ns'.length + items2.size = ms'.length + items.size/\R (.ok (.ret (.bool (lexLt ms' ns')))) ⟨hp,g,d,tk,os⟩)) _
  case turn=>
   rintro⟨y,x⟩ rest b s' ⟨hb',rfl,hz | ⟨vs,ws,ns',ms',hz,hvi,hwi,hlen,hR⟩⟩
   · injection hz with hyx hrest
     injection hyx with hy hx
     subst hy hx
     refine wpAny_bind (wpAny_eqBool_tuple hu (tupKey hm hc) (tupKey hm2 hc2) ?_)
     unfold nLt at h
     by_cases e:ms2 = ms
     · rw [if_pos e] at h
       rw [show decide (ms.map Sum.inl = (ms2.map Sum.inl:List Key)) = true from decide_eq_true (by rw [e])]
       wp_walk
       exact⟨rfl,rfl,.inr ⟨_,_,_,_,hrest,hi,hj,by omega,h⟩⟩
     · rw [if_neg e] at h
       rw [show decide (ms.map Sum.inl = (ms2.map Sum.inl:List Key)) = false from decide_eq_false (fun z=>e ((List.map_inj_right fun _ _ h=>Sum.inl.inj h).mp z).symm)]
       have hri:∀ (E:Value->Shared->Prop) (Q:Value->Shared->Prop),Q (.bool (lexLt ms2 ms)) ⟨hp,g,d,tk,os⟩->wpAny (model prog w) A.in1 (richCompare .Gt (.ref c) (.ref c2)) Q E ⟨hp,g,d,tk,os⟩:=fun E Q q=>gt_tupInts (s:=⟨hp,g,d,tk,os⟩) hc hc2 hm hm2 hu q
       wp_walk using hri
       exact⟨_,rfl,by simpa using h⟩
   cases hvi with
   | nil=>rw [List.zip_nil_left] at hz;cases hz
   | cons a t hvi'=>
    cases hwi with
    | nil=>rw [List.zip_nil_right] at hz;cases hz
    | cons c u hwi'=>
     rw [List.zip_cons_cons] at hz
     injection hz with hyx hrest
     injection hyx with hy hx
     subst hy hx
     rw [lexLt_cons] at hR
     simp only [List.length_cons] at hlen
     obtain⟨e,he,hiff⟩:=eqAt_int A.in1 ⟨hp,g,d,tk,os⟩ a t c u
     refine wpAny_bind (he prog w _ _ ?_)
     cases e with
     | true=>
      rw [if_pos (hiff.mp rfl).symm] at hR
      wp_walk
      exact⟨rfl,rfl,.inr ⟨_,_,_,_,hrest,hvi',hwi',by omega,hR⟩⟩
     | false=>
      rw [if_neg (fun q=>absurd (hiff.mpr q.symm) Bool.false_ne_true)] at hR
      have hri:=rcGt_int A.in1 ⟨hp,g,d,tk,os⟩ a t c u prog w
      wp_walk using hri
      exact⟨_,rfl,by simpa using hR⟩
  case fin=>
   rintro⟨b1,b2⟩ s' ⟨hb',rfl,hz | ⟨vs,ws,ns',ms',hz,hvi,hwi,hlen,hR⟩⟩
   · cases hz
   simp only at hb'
   subst hb'
   have hv:lexLt ms' ns' = decide (items2.size < items.size):=by
    cases hvi with
    | nil=>
     cases hwi with
     | nil=>
      simp only [List.length_nil] at hlen
      rw [lexLt_nil_nil]
      exact (decide_eq_false (by omega)).symm
     | cons c u hw=>
      simp only [List.length_nil,List.length_cons] at hlen
      rw [lexLt_cons_nil]
      exact (decide_eq_false (by omega)).symm
    | cons a t hv=>
     cases hwi with
     | nil=>
      simp only [List.length_nil,List.length_cons] at hlen
      rw [lexLt_nil_cons]
      exact (decide_eq_true (by omega)).symm
     | cons c u hw=>
      rw [List.zip_cons_cons] at hz
      cases hz
   rw [hv] at hR
   wp_walk
   exact⟨_,rfl,by simpa [Builtin.Tuple.tupleCompareSizes] using hR⟩
  case h=>
   exact⟨rfl,rfl,.inl (by rw [e1,e2];rfl)⟩
end
theorem gt_nest (hl:IsTup s.heap l items) (hb:IsTup s.heap b items2) (e1:items.toList = .ref c :: xs) (e2:items2.toList = .ref c2 :: ys) (hc:IsTup s.heap c its) (hc2:IsTup s.heap c2 its2)
 (hm:IntsAre its.toList ms) (hm2:IntsAre its2.toList ms2) (hi:IntsAre xs ns) (hj:IntsAre ys ns2)
 (hu:A.units < cLine) (hu1:A.in1.units < cLine) (h:Q (.bool (nLt (ms2,ns2) (ms,ns))) s):wpAny (model prog w) A (compareOp .Gt (.ref l) (.ref b)) Q E s:=by
 obtain⟨⟨cls,dd,data,sl⟩,ho,hcl,n,hd⟩:=id hl
 obtain⟨⟨cls2,dd2,data2,sl2⟩,ho2,hcl2,n2,hd2⟩:=id hb
 subst hcl hd hcl2 hd2
 exact richCompare_meets_room (op:=.Gt) ⟨_,ho,rfl⟩ ⟨_,ho2,rfl⟩ PySem.F.slot_tuple_gt PySem.F.entry_tuple_gt (PySem.F.args_tuple_gt_2 _ _) (tuple_gt_nest l b items items2 n n2 dd dd2 sl sl2 c c2 its its2 xs ys ms ms2 ns ns2 e1 e2 hm hm2 hi hj)
  ⟨hu1,hc,hc2,ho,ho2,⟨(fun x=>nomatch x),h⟩⟩ hu
def NstAt (H:Hp) (as:List Addr) (ps:List (List Int×List Int)):Prop:=as.length = ps.length/\∀ (i:Nat) (a:Addr) (q:List Int×List Int),as[i]? = some a->ps[i]? = some q->∃ c:Addr,H a = some (.tup (.ref c :: q.2.map V.int))/\H c = some (.tup (q.1.map V.int))
def nG (ps:List (List Int×List Int)) (i j:Nat):Bool:=nLt (ps.getD j ([],[])) (ps.getD i ([],[]))
def rMaxN (K:PySem.W.Frag):List V->Hp->VK->Prop:=fun xs H Q=>∃ (p:Addr) (as:List Addr) (ps:List (List Int×List Int)),xs = [.ref p]/\SqL K H p (as.map V.ref)/\0 < as.length/\NstAt H as ps/\∀ a:Addr,as[argBest (nG ps) (as.length - 1)]? = some a->Q (.ref a) H
theorem call_maxN (hr:Room k X.A) (hc:X.calm = true):CallR X (.builtin "max") (rMaxN X.K):=by
 intro pins s σ H xs us Q I r h
 obtain⟨p,as,ps,rfl,hq,hpos,⟨hlen,ht⟩,q⟩:=h
 obtain⟨u,rfl,rx⟩:=vals1 r
 cases rx
 obtain⟨its,r',pl,hz⟩:=I.list hq
 have hp:p < s.heap.objs.size:=by obtain⟨_,_,e,_⟩:=pl;exact Heap.lt_size e
 have hl:its.length = as.length:=by rw [<- r'.length,List.length_map]
 have hu:X.A.in1.units < cLine:=by have:=hr.un;show X.A.units + _ < _;omega
 have hu1:X.A.in1.in1.units < cLine:=by have:=hr.un;show X.A.units + 1 + 1 < cLine;omega
 refine maxCall (wpAny_pyIter_list pl.isList ⟨s.heap.objs.size,_,_,_,_,_,nG ps,fun h=>∀ (i:Nat) (a:Addr) (q:List Int×List Int),as[i]? = some a->ps[i]? = some q->∃ (c:Addr) (ts it:Array Value) (vs:List Value),IsTup h a ts/\ts.toList = .ref c :: vs/\IntsAre vs q.2/\IsTup h c it/\IntsAre it.toList q.1/\a < s.heap.objs.size/\c < s.heap.objs.size,rfl,
  Walks.list (A:=X.A.in1) (I.ok.hd hc) s.heap.objs.size p (Nat.ne_of_lt hp) its.toArray,⟨⟨_,Heap.get?_push_size _ rfl,rfl,rfl⟩,pl.isList.at fun o e=>Heap.get?_push_of_some _ e⟩,fun i a ns e1 e2=>?_,fun b hb=>?_,by rw [List.size_toArray];omega,⟨fun h h' ok k i a ns e1 e2=>?_,fun i j vi vj s' Q' E' ok e1 e2 hQ=>?_⟩,fun v h' tk e kp=>?_⟩)
 · obtain⟨c,g1,g2⟩:=ht i a ns e1 e2
   obtain⟨ts,rv,⟨o,ho,hcl,hd⟩,_⟩:=I.tuple (SqT.of g1)
   obtain⟨ts2,rv2,⟨o2,ho2,hcl2,hd2⟩,_⟩:=I.tuple (SqT.of g2)
   cases rv with
   | cons r1 rr=>
    cases r1
    exact⟨c,_,ts2.toArray,_,⟨o,Heap.get?_push_of_some _ (Heap.get?_push_of_some _ ho),hcl,hd⟩,rfl,vals_ints rr,⟨o2,Heap.get?_push_of_some _ (Heap.get?_push_of_some _ ho2),hcl2,hd2⟩,by simpa using vals_ints rv2,Heap.lt_size ho,Heap.lt_size ho2⟩
 · show b < (s.heap.push _).objs.size
   rw [Heap.size_push]
   rcases List.mem_cons.mp hb with e | hb
   · rw [e];exact Nat.lt_succ_self _
   · rw [List.mem_singleton.mp hb];exact Nat.lt_succ_of_lt hp
 · obtain⟨c,ts,it,vs,⟨o,ho,hcl,hd⟩,t1,t2,⟨o2,ho2,hcl2,hd2⟩,t3,l1,l2⟩:=ok i a ns e1 e2
   refine⟨c,ts,it,vs,⟨o,k _ _ (fun z=>?_) ho,hcl,hd⟩,t1,t2,⟨o2,k _ _ (fun z=>?_) ho2,hcl2,hd2⟩,t3,l1,l2⟩
   · rcases List.mem_cons.mp z with z | z
     · rw [z,Heap.size_push] at l1;exact absurd l1 (Nat.not_lt.mpr (Nat.le_succ _))
     · rw [List.mem_singleton.mp z] at l1;exact absurd l1 (Nat.lt_irrefl _)
   · rcases List.mem_cons.mp z with z | z
     · rw [z,Heap.size_push] at l2;exact absurd l2 (Nat.not_lt.mpr (Nat.le_succ _))
     · rw [List.mem_singleton.mp z] at l2;exact absurd l2 (Nat.lt_irrefl _)
 · obtain⟨a1,f1,rfl⟩:=vals_ref r' (by simpa using e1)
   obtain⟨a2,f2,rfl⟩:=vals_ref r' (by simpa using e2)
   have hi1:i < ps.length:=by have:=(List.getElem?_eq_some_iff.mp f1).1;omega
   have hi2:j < ps.length:=by have:=(List.getElem?_eq_some_iff.mp f2).1;omega
   have g1:ps[i]? = some ps[i]:=List.getElem?_eq_getElem hi1
   have g2:ps[j]? = some ps[j]:=List.getElem?_eq_getElem hi2
   obtain⟨c1,t1,i1,v1,p1,q1,n1,p1',n1',_⟩:=ok i a1 _ f1 g1
   obtain⟨c2,t2,i2,v2,p2,q2,n2,p2',n2',_⟩:=ok j a2 _ f2 g2
   have hb:nG ps i j = nLt ps[j] ps[i]:=by
    unfold nG
    rw [List.getD_eq_getElem?_getD,List.getD_eq_getElem?_getD,g1,g2];rfl
   rw [hb] at hQ
   exact gt_nest p1 p2 q1 q2 p1' p2' n1' n2' n1 n2 hu hu1 hQ
 · rw [List.size_toArray,hl] at e
   obtain⟨a,f,rfl⟩:=vals_ref r' (by simpa using e)
   exact⟨.ref a,H,I.kept fun b o q=>kp b o (fun z=>absurd (Heap.lt_size q) (by rw [List.mem_singleton.mp z];exact Nat.lt_irrefl _)) (Heap.get?_push_of_some _ q),rfl,q a f⟩
section
variable {K:PySem.W.Frag}
theorem k_maxN (hK:X.K = K) (hr:Room k X.A) (hg:Gl X x) (he:starEach [e] X.env = (false,eval e X.env) :: starEach [] X.env) (hpl:(backTo pos (starEach [] X.env)).any (·.1) = false) (hx:x = "max") (hc:X.calm = true) (hm:X.mg x = none) (ha:JA X [e] t):
 JE X (.Call (.Name x p) [e] [] pos) (tCB (rMaxN K) t):=hK▸⟨by subst hx;exact pe_callB (call_maxN hr hc) hg hm boot_max ha.h (by decide) (by decide) he hpl⟩
end
def tSortIt2S (td:TE):TE:=fun σ H Q=>td σ H fun x H1=>∃ (a:Addr) (ks:List (List Int×Int)),x = .ref a/\H1 a = some (.dT (ks.map fun q=>(q.1.map Sum.inl,V.int q.2)))/\ks.length < 64/\
 ∀ (l:Addr) (bs:List Addr) (qs:List (List Int×Int)) (H2:Hp),H1 l = none->L2.Same H1 H2->H2 l = some (.lst (bs.map V.ref))->bs.length = qs.length->
  (∀ (i:Nat) b,bs[i]? = some b->∃ (q:List Int×Int) (c:Addr),qs[i]? = some q/\H2 b = some (.tup [.ref c,.int q.2])/\H2 c = some (.tup (q.1.map V.int)))->
  qs.Perm ks->qs.Pairwise (fun u v=>pLt v u = false)->Q (.ref l) H2
theorem pe_sortIt2S (hr:Room k X.A) (ho:PE X o td) (m:M0 X o "items" apos cpos) (hg:Gl X "sorted") (hm:X.mg "sorted" = none) (hc:X.calm = true)
 (he:starEach [.Call (.Attribute o "items" apos) [] [] cpos] X.env = (false,eval (.Call (.Attribute o "items" apos) [] [] cpos) X.env) :: starEach [] X.env) (hpl:(backTo pos (starEach [] X.env)).any (·.1) = false):
 PE X (.Call (.Name "sorted" p) [.Call (.Attribute o "items" apos) [] [] cpos] [] pos) (tSortIt2S td):=by
 intro pins s σ H Q I h
 refine wpAny_Call_Name_kw (ld_blt I hg hm boot_sorted ?_ (by decide) (by decide))
 refine PyProof.Rows.callWith_builtin1 ?_ he hpl
 rw [he]
 show wpAny _ _ (spliced ((false,eval (.Call (.Attribute o "items" apos) [] [] cpos) X.env) :: backTo pos (starEach [] X.env))) _ _ s
 refine Calls.spliced_cons ?_
 refine wpAny_Call_method m.base m.few m.line PySem.F.plainAttrs_dict PySem.F.slot_dict_items PySem.F.type_dict_items (thn (ho pins s σ H _ I h) fun u s1 ⟨x,H1,I1,rx,a,ks,ex,e,h64,q1⟩=>?_)
 subst ex
 obtain rfl:u = Value.ref a:=rx
 obtain⟨t1,t2,t3⟩:=isD_at I1 (.inr ⟨_,.inl e⟩)
 refine⟨t1,t2,?_⟩
 rw [m.trees]
 obtain⟨z,lo,xs,pr,ob,es,ep,g1,g2,g3,g4,nd⟩:=(show ObjOk X.prog X.w H1 s1.heap a (.dT _) from I1.hok a _ e)
 have dd:EntAt s1.heap a es ep:=⟨ob,g1,g2,g3⟩
 generalize hvs:(es.toList.map fun e=>(e.key,e.val)) = vs
 refine Calls.callWith_builtin rfl (PySem.evalArgs_none ?_)
 refine call_meetsIn PySem.F.slot_dict_items t1 PySem.F.entry_dict_items (PySem.F.args_dict_items_1 _) (ent_items a t3) ⟨⟨es,ep,dd⟩,?_⟩
 have gp:∀ b o',s1.heap.get? b = some o'->∀ n,(s1.heap.push n).get? b = some o':=fun b o' q n=>Heap.get?_push_of_some _ q
 have I2:=I1.kept (t':=s1.toks) (h':=s1.heap.push { cls:=.type "dict_items",data:=.fields #[.ref a] }) fun b o' q=>gp _ _ q _
 have hv:(s1.heap.push { cls:=.type "dict_items",data:=.fields #[.ref a] }).IsItemsView s1.heap.objs.size a:=⟨_,Heap.get?_push_size _ rfl,rfl,rfl⟩
 have hm2:=dd.at' fun o e=>Heap.get?_push_of_some { cls:=.type "dict_items",data:=.fields #[.ref a] } e
 refine Calls.spliced_nil ?_
 have hlk:ks.length = xs.length:=by have:=Paired.length pr;rwa [List.length_map] at this
 have hev:es.size = vs.length:=by rw [<- hvs,List.length_map,Array.length_toList]
 have hvk:vs.length = ks.length:=by rw [<- hvs,List.length_map,g4,List.length_map,hlk]
 have hvl:vs.length<=sizeLine:=by rw [hvk];rwa [List.length_map] at z
 have key:∀ (j:Nat) (kx vx:Value),vs[j]? = some (kx,vx)->∃ (c:Addr) (q:List Int×Int) (t:Tok),ks[j]? = some q/\kx = .ref c/\vx = .int q.2 t/\H1 c = some (.tup (q.1.map V.int)):=fun j kx vx hj=>by
  rw [<- hvs,g4,List.map_map,List.getElem?_map] at hj
  obtain⟨xx,hx,ex⟩:=Option.map_eq_some_iff.mp hj
  have hi:j < xs.length:=(List.getElem?_eq_some_iff.mp hx).1
  have hk:ks[j]? = some ks[j]:=List.getElem?_eq_getElem (by omega)
  obtain⟨x',h1,h2,h3,h4⟩:=paired_get pr (i:=j) (a:=(ks[j].1.map Sum.inl,V.int ks[j].2)) (by rw [List.getElem?_map,hk];rfl)
  rw [hx] at h1;cases h1
  obtain⟨t,h4⟩:=h4
  have e1:(Value.ref xx.2.1,xx.2.2) = (kx,vx):=ex
  obtain⟨e2,e3⟩:=Prod.mk.inj e1
  refine⟨xx.2.1,ks[j],t,hk,e2.symm,e3.symm.trans h4,?_⟩
  rw [h3,List.map_map];rfl
 refine sorted_gen2S (α:=Addr×(Addr×List Int×Int)) (f:=fun z=>.ref z.1) (g:=fun z=>.ref z.1) (fun _ H' zs=>L2.Same H1 H'/\(∀ z∈zs,H' z.1 = some (.tup [.ref z.2.1,.int z.2.2.2])/\H' z.2.1 = some (.tup (z.2.2.1.map V.int)))/\zs.map (·.2.2) = ks/\zs.length < 64)
  (fun H' x y=>pLt (pkey H' x.1) (pkey H' y.1)) (fun H'=>ord_pair fun x=>pkey H' x.1) (fun R E hR=>?_) (fun s3 H3 zs hF=>⟨fun z _=>rfl,hF.2.2.2⟩) (fun s3 H3 zs I3 hF h2 h6 old=>?_) (fun s3 H3 zs hF l ys H' n1 q3 e1 hp hs=>?_)
 · refine ent_collect (A:=X.A.in1) (I.ok.hd hc) hv hm2 (by omega) fun h' tk as keep len G=>?_
   rw [hev] at len
   have hkl:as.length = ks.length:=by rw [len,hvk]
   have kk:∃ cs:List Addr,cs.length = ks.length/\∀ (j:Nat) (c:Addr),cs[j]? = some c->∃ (q:List Int×Int) (vx:Value) (t:Tok),ks[j]? = some q/\vs[j]? = some (.ref c,vx)/\vx = .int q.2 t/\H1 c = some (.tup (q.1.map V.int)):=by
    have pick:∀ j:Nat,j < vs.length->∃ c:Addr,∃ (q:List Int×Int) (vx:Value) (t:Tok),ks[j]? = some q/\vs[j]? = some (.ref c,vx)/\vx = .int q.2 t/\H1 c = some (.tup (q.1.map V.int)):=fun j hj=>by
     obtain⟨c,q,t,h1,h2,h3,h4⟩:=key j vs[j].1 vs[j].2 (List.getElem?_eq_getElem hj)
     refine⟨c,q,vs[j].2,t,h1,?_,h3,h4⟩
     rw [<- h2];exact List.getElem?_eq_getElem hj
    refine⟨List.ofFn fun j:_root_.Fin vs.length=>(pick j.1 j.2).choose,by rw [List.length_ofFn,hvk],fun j c hj=>?_⟩
    have hj':j < vs.length:=by have:=(List.getElem?_eq_some_iff.mp hj).1;rwa [List.length_ofFn] at this
    have e:(pick j hj').choose = c:=by
     rw [List.getElem?_ofFn,dif_pos hj'] at hj
     exact Option.some.inj hj
    rw [<- e];exact (pick j hj').choose_spec
   obtain⟨cs,hcl,hcs⟩:=kk
   obtain⟨H3,I3,s3,at3⟩:=lay_tups (tk:=tk) (qs:=(cs.zip ks).map fun z=>[.ref z.1,.int z.2.2]) I2 keep G.rise (fun a ha=>Nat.le_of_lt (G.above a ha)) fun j b hj=>by
    obtain⟨en,hen,h3⟩:=G.pairs j b hj
    have h1:vs[j]? = some (en.key,en.val):=by rw [<- hvs,List.getElem?_map,Array.getElem?_toList,hen];rfl
    generalize en.key = kx at h1 h3
    generalize en.val = vx at h1 h3
    have hj':j < cs.length:=by have:=(List.getElem?_eq_some_iff.mp hj).1;omega
    obtain⟨q,vx',t,e1,e2,e3,e4⟩:=hcs j cs[j] (List.getElem?_eq_getElem hj')
    rw [h1] at e2;cases e2
    subst e3
    refine⟨[.ref cs[j],.int q.2],[.ref cs[j],.int q.2 t],?_,by show 2<=sizeLine;decide,.cons rfl (.cons ⟨t,rfl⟩ .nil),h3⟩
    rw [List.getElem?_map,show (cs.zip ks)[j]? = some (cs[j],q) from List.getElem?_zip_eq_some.mpr ⟨List.getElem?_eq_getElem hj',e1⟩];rfl
   have hzl:(cs.zip ks).length = ks.length:=by rw [List.length_zip];omega
   have:=hR _ H3 (as.zip (cs.zip ks)) I3 ⟨s3,fun z hz=>?_,?_,by rw [List.length_zip,hzl,hkl,Nat.min_self];exact h64⟩
   · have e:(as.zip (cs.zip ks)).map (fun z=>Value.ref z.1) = as.map Value.ref:=by
      have:(as.zip (cs.zip ks)).map (·.1) = as:=List.map_fst_zip (by omega)
      calc (as.zip (cs.zip ks)).map (fun z=>Value.ref z.1) = ((as.zip (cs.zip ks)).map (·.1)).map Value.ref:=by rw [List.map_map];rfl
       _ = _:=by rw [this]
     rw [e] at this
     exact this
   · obtain⟨i,hi,e⟩:=List.getElem_of_mem hz
     have e':(as.zip (cs.zip ks))[i]? = some z:=by rw [List.getElem?_eq_getElem hi,e]
     rw [List.getElem?_zip_eq_some] at e'
     obtain⟨q,h1,h2⟩:=at3 i z.1 e'.1
     rw [List.getElem?_map,e'.2] at h1;cases h1
     have e2:=e'.2
     rw [show z.2 = (z.2.1,z.2.2) from rfl,List.getElem?_zip_eq_some] at e2
     obtain⟨q,vx,t,f1,f2,f3,f4⟩:=hcs i z.2.1 e2.1
     rw [e2.2] at f1;cases f1
     exact⟨h2,s3 _ _ f4⟩
   · have e1:(as.zip (cs.zip ks)).map (·.2) = cs.zip ks:=List.map_snd_zip (by omega)
     have e2:(cs.zip ks).map (·.2) = ks:=List.map_snd_zip (by omega)
     calc (as.zip (cs.zip ks)).map (·.2.2) = ((as.zip (cs.zip ks)).map (·.2)).map (·.2):=by rw [List.map_map];rfl
      _ = _:=by rw [e1,e2]
 · obtain⟨_,each,_,_⟩:=hF
   have hu:X.A.in1.in1.units < cLine:=by have:=hr.un;show X.A.units + 1 + 1 < cLine;omega
   have tup:∀ z∈zs,∃ (t:Tok) (its:List Value),IsTup h6 z.1 #[.ref z.2.1,.int z.2.2.2 t]/\IntsAre its z.2.2.1/\IsTup h6 z.2.1 its.toArray:=fun z hz=>by
    obtain⟨e1,e2⟩:=each z hz
    obtain⟨its,rt,⟨o,ho,hc,n,hd⟩,_⟩:=I3.tuple (SqT.of e1)
    obtain⟨its2,rt2,⟨o2,ho2,hc2,n2,hd2⟩,_⟩:=I3.tuple (SqT.of e2)
    cases rt with
    | cons r1 rr=>
     cases rr with
     | cons r2 rr=>
      cases rr
      cases r1
      obtain⟨t,rfl⟩:=r2
      exact⟨t,its2,⟨o,old z.1 o (by rw [e1];exact fun z=>nomatch z) ho,hc,n,hd⟩,vals_ints rt2,⟨o2,old z.2.1 o2 (by rw [e2];exact fun z=>nomatch z) ho2,hc2,n2,hd2⟩⟩
   have kt:∀ l:List (Addr×(Addr×List Int×Int)),(∀ z∈l,z∈zs)->∃ fs:List Value,PySem.W.KatTups h6 (l.map fun z=>Value.ref z.1) fs/\fs.length = l.length/\∀ v∈fs,∃ c o,v = Value.ref c/\h6.get? c = some o/\o.cls = .type "tuple":=fun l=>by
    induction l with
    | nil=>exact fun _=>⟨[],trivial,rfl,fun v hv=>nomatch hv⟩
    | cons a l ih=>
     intro hl
     obtain⟨fs,f1,f2,f3⟩:=ih fun b hb=>hl b (.tail _ hb)
     obtain⟨t,its,⟨o,ho,hc,n,hd⟩,_,⟨o2,ho2,hc2,_⟩⟩:=tup a (hl a (.head _))
     exact⟨.ref a.2.1 :: fs,PySem.W.KatTups.cons ho hc hd rfl f1,by rw [List.length_cons,List.length_cons,f2],fun v hv=>by
      rcases List.mem_cons.mp hv with z | z
      · exact⟨_,o2,z,ho2,hc2⟩
      · exact f3 v z⟩
   obtain⟨fs,f1,f2,f3⟩:=kt zs fun _ h=>h
   refine⟨tuples' false,fun Q E hQ=>PySem.W.kat_kind (T:=.type "tuple") f1 (by omega) (fun v hv=>by obtain⟨c,o,rfl,hc,ht⟩:=f3 v hv;rw [<- ht];exact (PySem.W.Looks.ld hc).andThen .now) (by decide) hQ,fun x y hx hy Q E hQ=>?_⟩
   rw [pairs_map] at hx hy
   obtain⟨z1,m1,e1⟩:=List.mem_map.mp hx
   obtain⟨z2,m2,e2⟩:=List.mem_map.mp hy
   obtain⟨t1,it1,⟨o1,ho1,_,n1,hd1⟩,i1,p1⟩:=tup z1 m1
   obtain⟨t2,it2,⟨o2,ho2,_,n2,hd2⟩,i2,p2⟩:=tup z2 m2
   rw [<- e1,<- e2] at hQ ⊢
   have hQ:Q (pLt (pkey H3 (.ref z1.1)) (pkey H3 (.ref z2.1))) _:=hQ
   rw [pkey_of (each z1 m1).1 (each z1 m1).2,pkey_of (each z2 m2).1 (each z2 m2).2] at hQ
   have tk:∀ {c:Addr}{its:List Value}{w:List Int},IntsAre its w->IsTup h6 c its.toArray->IsTupleKey (mixKind X.prog X.w) h6 (w.map Sum.inl) c:=fun {c its w} hi ⟨o,h1,h2,n,h3⟩=>⟨o,its.toArray,n,h1,h2,h3,by
    have:Vals ((w.map Sum.inl).map kV) its:=by
     have:=ints_vals hi
     rw [List.map_map];exact this
    simpa using items_are this⟩
   refine PySem.W.kat_lt ho1 hd1 ho2 hd2 (PySem.W.kat_cons (wpAny_eqBool_tuple hu (tk i1 p1) (tk i2 p2) ?_))
   unfold pLt at hQ
   by_cases ek:z1.2.2.1 = z2.2.2.1
   · rw [if_pos ek] at hQ
     rw [show decide (z1.2.2.1.map Sum.inl = (z2.2.2.1.map Sum.inl:List Key)) = true from decide_eq_true (by rw [ek])]
     refine PySem.W.kat_yes (PySem.W.kat_cons (wpAny_eqBool_int ?_))
     by_cases en:z1.2.2.2 = z2.2.2.2
     · rw [show (z1.2.2.2 == z2.2.2.2) = true by simpa using en]
       rw [decide_eq_false (by omega)] at hQ
       exact PySem.W.kat_yes (PySem.W.kat_nil hQ)
     · rw [show (z1.2.2.2 == z2.2.2.2) = false by simpa using en]
       exact PySem.W.kat_no (PySem.W.kat_one _ _ (HT.rcLt_int _ _ _ _ _ _ _ _ _ _ hQ))
   · rw [if_neg ek] at hQ
     rw [show decide (z1.2.2.1.map Sum.inl = (z2.2.2.1.map Sum.inl:List Key)) = false from decide_eq_false (fun z=>ek ((List.map_inj_right fun _ _ h=>Sum.inl.inj h).mp z))]
     exact PySem.W.kat_no (PySem.W.kat_one _ _ (HT.lt_tupInts p1 p2 (by simpa using i1) (by simpa using i2) hu hQ))
 · obtain⟨s13,each,hks,_⟩:=hF
   have nl:H1 l = none:=by
    cases hq:H1 l with
    | none=>rfl
    | some v=>have:=s13 _ _ hq;rw [n1] at this;cases this
   refine q1 l (ys.map (·.1)) (ys.map (·.2.2)) H' nl (s13.trans q3) ?_ (by rw [List.length_map,List.length_map]) (fun i b hb=>?_) (by rw [<- hks];exact hp.map _) ?_
   · rw [e1,List.map_map];rfl
   · rw [List.getElem?_map] at hb
     obtain⟨z,hz,rfl⟩:=Option.map_eq_some_iff.mp hb
     obtain⟨e1,e2⟩:=each z (hp.mem_iff.mp (List.mem_of_getElem? hz))
     exact⟨z.2.2,z.2.1,by rw [List.getElem?_map,hz];rfl,q3 _ _ e1,q3 _ _ e2⟩
   · rw [List.pairwise_map] at hs ⊢
     refine List.Pairwise.imp_of_mem (fun {a b} ha hb h=>?_) hs
     have h:pLt (pkey H3 (.ref b.1)) (pkey H3 (.ref a.1)) = false:=h
     obtain⟨f1,f2⟩:=each b (hp.mem_iff.mp hb)
     obtain⟨f3,f4⟩:=each a (hp.mem_iff.mp ha)
     rw [pkey_of f1 f2,pkey_of f3 f4] at h
     exact h
theorem k_sortIt2S (hr:Room k X.A) (h1:attributeBase o "items" X.env (eval o X.env) = eval o X.env)
 (h2:((backTo cpos (starEach [] X.env)).all (fun x=>!x.1) && (backToKw cpos (keywordEach [] X.env)).all (fun x=>x.1.isSome)
  && decide (([]:List Expr).length + ([]:List Keyword).length + (if ([]:List Keyword).isEmpty then 0 else 1) < 30)) = true) (h3:(apos.endLine == cpos.line) = true) (h4:backTo cpos (starEach [] X.env) = [])
 (hg:Gl X "sorted") (hm:X.mg "sorted" = none) (hc:X.calm = true)
 (he:starEach [.Call (.Attribute o "items" apos) [] [] cpos] X.env = (false,eval (.Call (.Attribute o "items" apos) [] [] cpos) X.env) :: starEach [] X.env) (hpl:(backTo pos (starEach [] X.env)).any (·.1) = false) (ho:JE X o td):
 JE X (.Call (.Name "sorted" p) [.Call (.Attribute o "items" apos) [] [] cpos] [] pos) (tSortIt2S td):=⟨pe_sortIt2S hr ho.h ⟨h1,h2,h3,h4⟩ hg hm hc he hpl⟩
section
variable {x nm:Str}
def rMinV:List V->V->Hp->VK->Prop:=fun xs d H Q=>∃ (v a:Addr) (kvs:List (Key×V)) (ns:List Int),xs = [.ref v]/\H v = some (ValsO v a)/\H a = some (.dK kvs)/\kvs.map (·.2) = ns.map V.int/\(∀ v:Int,v∈ns->(∀ y∈ns,v<=y)->Q (.int v) H)/\(ns = []->Q d H)
theorem call_minV (hc:X.calm = true):CallRD X (.builtin "min") (Str.ofString "default") rMinV:=by
 intro pins s σ H xs us d dv Q I r rd h
 obtain⟨v,a,kvs,ns,rfl,hv,ha,hns,q1,q0⟩:=h
 obtain⟨u,rfl,rx⟩:=vals1 r
 cases rx
 have ev:s.heap.get? v = some { cls:=.type "dict_values",data:=.fields #[.ref a] }:=(I.hok v _ hv).1
 obtain⟨z,hd,vs,rel,dd⟩:=dk_of I.hok ha
 obtain⟨ob,ds,ep,g,ex,dt,rest⟩:=dd
 have al:=Heap.lt_size g
 have hkl:vs.length = ns.length:=by rw [<- rel.length,<- List.length_map (f:=(·.2)),hns,List.length_map]
 have gp:∀ b o',s.heap.get? b = some o'->∀ n,(s.heap.push n).get? b = some o':=fun b o' q n=>Heap.get?_push_of_some _ q
 have hval:∀ (i:Nat) (v:Value),(∃ k,vs[i]? = some (k,v))->∃ t,v = Value.int (ns.getD i 0) t:=fun i v ⟨k,hk⟩=>by
  have hi:i < vs.length:=(List.getElem?_eq_some_iff.mp hk).1
  have hkv:kvs[i]? = some (kvs[i]'(by rw [rel.length];exact hi)):=List.getElem?_eq_getElem _
  obtain⟨v',h1,h2⟩:=kvGet rel hkv
  rw [hk] at h1
  have e2:v = v':=(Prod.mk.inj (Option.some.inj h1)).2
  subst e2
  have hn:ns[i]? = some (ns[i]'(by rw [<- hkl];exact hi)):=List.getElem?_eq_getElem _
  have h3:=congrArg (fun l:List V=>l[i]?) hns
  simp only [List.getElem?_map,hkv,hn,Option.map_some] at h3
  rw [Option.some.inj h3] at h2
  obtain⟨t,rfl⟩:=h2
  exact⟨t,by show Value.int _ t = Value.int (ns.getD i 0) t;rw [List.getD_eq_getElem?_getD,hn];rfl⟩
 refine minCallD (wpAny_pyIter_values (knd:=mixKind X.prog X.w) (kvs:=vs) (ep:=ep) ⟨_,ev,rfl,rfl⟩ ⟨ob,ds,g,ex,dt,rest⟩ ⟨s.heap.objs.size,_,_,_,_,_,rfl,Walks.dictValues (knd:=mixKind X.prog X.w) (A:=X.A.in1) (I.ok.hd hc) s.heap.objs.size a (Nat.ne_of_lt al) vs ep,⟨⟨_,Heap.get?_push_size _ rfl,rfl,rfl⟩,⟨ob,ds,gp _ _ g _,ex,dt,rest⟩⟩,fp_lt al,
  fun hn=>⟨ltB ns,fun _=>True,trivial,⟨fun _ _ _ _=>trivial,fun i j vi vj s' Q' E' _ e1 e2 hQ=>CmpOf.ints_lt (fun i=>ns.getD i 0) hval i j vi vj s' Q' E' e1 e2 hQ⟩,fun v h' tk e kp=>?_⟩,fun hn h' tk kp=>?_⟩)
 · rw [hkl] at e hn
   obtain⟨t,rfl⟩:=hval _ _ e
   have hle:argBest (ltB ns) (ns.length - 1) < ns.length:=by have:=argBest_le (ltB ns) (ns.length - 1);omega
   refine⟨.int (ns.getD (argBest (ltB ns) (ns.length - 1)) 0),H,I.kept (kp_of kp),⟨t,rfl⟩,q1 _ ?_ fun y hy=>?_⟩
   · rw [List.getD_eq_getElem?_getD,List.getElem?_eq_getElem hle];exact List.getElem_mem hle
   · obtain⟨i,hi,rfl⟩:=List.getElem_of_mem hy
     have:=(argBest_first ns (ns.length - 1)).1 i (by omega)
     have e2:ns.getD i 0 = ns[i]:=by rw [List.getD_eq_getElem?_getD,List.getElem?_eq_getElem hi];rfl
     rw [e2] at this
     exact this
 · rw [hkl] at hn
   exact⟨d,H,I.kept (kp_of kp),rd,q0 (List.length_eq_zero_iff.mp hn)⟩
theorem k_minV (hg:Gl X x) (he:backTo pos (starEach (e :: es) X.env) = (false,eval e X.env) :: backTo pos (starEach es X.env)) (hpl:(backTo pos (starEach (e :: es) X.env)).any (·.1) = false) (hx:x = "min") (hn:nm = "default") (hc:X.calm = true) (hm:X.mg x = none) (ha:JA X (e :: es) t) (hd:JE X dv td):
 JE X (.Call (.Name x p) (e :: es) [⟨some nm,dv,kp⟩] pos) (tCBd rMinV t td):=⟨by subst hx;subst hn;exact pe_callBD (call_minV hc) hg hm boot_min ha.h hd.h (by decide) (by decide) he hpl⟩
end
theorem tl_keysL:typeLookup (.type "list") (Str.ofString "keys") = pure none:=by rw [typeLookup_type,builtinLookup_eq_fast];rfl
theorem ti_gaL {s:Shared}:s.TypeIs (.builtin "list.__getattribute__") "wrapper_descriptor":=by rfl
theorem noKeysL {prog:Program}{w:World}{A:Around}{E:Value->Shared->Prop}{s:Shared}{t:Addr}{xs:Array Value}{n:Nat}{Q:Option Value->Shared->Prop} (hh:A.handled = none) (ho:s.heap.get? t = some { cls:=.type "list",data:=.seq xs n })
 (go:∀ h' tk,(∀ b o,s.heap.get? b = some o->h'.get? b = some o)->Q none { s with heap:=h',toks:=tk }):wpAny (model prog w) A (getAttr? (.ref t) (Str.ofString "keys")) Q E s:=by
 obtain⟨hp,g,dr,tk,os⟩:=s
 have ho:hp.get? t = some { cls:=.type "list",data:=.seq xs n }:=ho
 unfold getAttr?
 refine wpAny_bind (wpAny_mkText ?_)
 unfold getAttrBy?
 refine wpAny_bind (wpAny_attempt ?_)
 unfold getAttrBy
 refine wpAny_holding ?_
 refine wpAny_bind (wpAny_typeOf (T:="list") ⟨_,ho,rfl⟩ ?_)
 rw [F.slot_list_getattribute.lookup]
 refine wpAny_bind (wpAny_pure ?_)
 show wpAny _ _ (if _ then _ else _) _ _ _
 rw [if_neg (by decide)]
 unfold getAttrByItsOwn
 wp_walk
 unfold bindSpecial
 refine wpAny_bind (wpAny_typeOf (T:="wrapper_descriptor") ti_gaL ?_)
 show wpAny _ _ (if _ then _ else _) _ _ _
 rw [if_pos (by decide)]
 refine wpAny_pure ?_
 show wpAny _ _ (call (.builtin "list.__getattribute__") [.ref t,_]) _ _ _
 refine wpAny_call_entry F.slot_list_getattribute ⟨_,ho,rfl⟩ am_entry_list_getattribute ?_ (F.args_list_getattribute_2 _ _)
 show wpAny _ _ (Builtin.ObjectAttr.attrName _ >>= _) _ _ _
 refine wpAny_bind ?_
 wp_walk
 rw [tl_keysL]
 wp_walk
 refine wpAny_raiseAttrError (A:=A.in1) hh fun h' tk' e ne=>?_
 have hT:∃ ob,h'.get? e = some ob/\ob.cls = .type "AttributeError":=let ⟨_,_,a⟩:=ne.there;⟨_,a,rfl⟩
 show wpAny _ _ (getattributeRaised _ _ _ _ _ _ _) _ _ _
 unfold getattributeRaised
 refine wpAny_bind (wpAny_isInstance (T:="AttributeError") (b:=true) hT (by rw [isSubtype_type];rfl) ?_)
 rw [if_pos rfl]
 unfold hookBehind
 rw [if_neg (by decide),F.plainAttrs_list.noGetattr]
 refine wpAny_bind (wpAny_pure ?_)
 unfold hookOrError
 unfold attributeErrorLeaves
 show wpAny _ _ (if (!false) = true then throw _ >>= _ else _) _ _ _
 rw [if_pos (show (!false) = true from rfl)]
 refine wpAny_bind (wpAny_throw ?_)
 refine wpAny_bind (wpAny_isInstance (T:="AttributeError") (b:=true) hT (by rw [isSubtype_type];rfl) ?_)
 rw [if_pos rfl]
 exact wpAny_pure (go h' tk' ne.keeps)
namespace DG
abbrev sqn (f:Bool):String:=if f = true then "tuple" else "list"
abbrev itn (f:Bool):String:=if f = true then "tuple_iterator" else "list_iterator"
abbrev Sq (f:Bool) (h:Heap) (t:Addr) (xs:Array Value):Prop:=if f = true then h.IsTuple t xs else h.IsList t xs
abbrev It (f:Bool) (h:Heap) (c t:Addr) (i:Nat):Prop:=if f = true then h.IsTupleIter c t i else h.IsListIter c t i
theorem Sq.at (q:Sq f h t xs) (k:∀ o,h.get? t = some o->h'.get? t = some o):Sq f h' t xs:=by
 cases f <;> exact let ⟨o,a,b⟩:=q;⟨o,k o a,b⟩
theorem It.at (q:It f h c t i) (k:∀ o,h.get? c = some o->h'.get? c = some o):It f h' c t i:=by
 cases f <;> exact let ⟨o,a,b⟩:=q;⟨o,k o a,b⟩
theorem item (hi:It f s.heap c t i) (ht:Sq f s.heap t xs) (hx:xs[i]? = some x) (go:∀ h',It f h' c t (i + 1)->Heap.SameBut c s.heap h'->Q (some x) { s with heap:=h' }):wpAny (model prog w) A (pyNext (.ref c)) Q E s:=by
 cases f
 · exact wpAny_pyNext_list_item hi ht hx go
 · exact wpAny_pyNext_tuple_item hi ht hx go
theorem stop (hh:A.handled = none) (hi:It f s.heap c t i) (ht:Sq f s.heap t xs) (hx:xs[i]? = none) (go:∀ h',Heap.ExtBut c s.heap h'->Q none { s with heap:=h' }):wpAny (model prog w) A (pyNext (.ref c)) Q E s:=by
 cases f
 · exact wpAny_pyNext_list_end hh hi ht hx go
 · exact wpAny_pyNext_tuple_end hh hi ht hx go
theorem nokeys (hh:A.handled = none) (ho:s.heap.get? t = some { cls:=.type (sqn f),data:=.seq xs n })
 (go:∀ h' tk,(∀ b o,s.heap.get? b = some o->h'.get? b = some o)->Q none { s with heap:=h',toks:=tk }):wpAny (model prog w) A (getAttr? (.ref t) (Str.ofString "keys")) Q E s:=by
 cases f
 · exact noKeysL hh ho go
 · exact noKeys hh ho go
theorem iter (ht:Sq f s.heap t xs) (h:Q (.ref s.heap.objs.size) { s with heap:=s.heap.push { cls:=.type (itn f),data:=.fields #[.ref t,.int 0 0] } }):wpAny (model prog w) A (pyIter (.ref t)) Q E s:=by
 cases f
 · exact wpAny_pyIter_list ht h
 · exact wpAny_pyIter_tuple ht h
abbrev Pr:=Addr×Value×Value
theorem dul {f:Bool}{d c t:Addr}{ps:List Pr} (hh:A.handled = none) (ndc:d≠c) (nt:t≠d/\t≠c) (hpn:∀ p∈ps,p.1≠d/\p.1≠c) (D:Nat->Heap->Prop)
 (stay:∀ i h h',D i h->(∀ b o,b≠c->h.get? b = some o->h'.get? b = some o)->D i h')
 (step:∀ (i:Nat) (p:Pr) (s:Shared) (Q:Unit->Shared->Prop) (E:Value->Shared->Prop),ps[i]? = some p->D i s.heap->(∀ h2 tk,D (i + 1) h2->Heap.SameBut d s.heap h2->Q () { s with heap:=h2,toks:=tk })->wpAny (model prog w) A.in1 (dictSet d p.2.1 p.2.2) Q E s) (result:Value):
 ∀ (m i:Nat) (s:Shared),ps.length - i = m->i<=ps.length->It f s.heap c t i->Sq f s.heap t (ps.map fun p=>Value.ref p.1).toArray->(∀ p∈ps,s.heap.IsTuple p.1 #[p.2.1,p.2.2])->D i s.heap->
 (∀ h' tk,D ps.length h'->(∀ b o,b≠d->b≠c->s.heap.get? b = some o->h'.get? b = some o)->R (.ok (.ret result)) { s with heap:=h',toks:=tk })->
 codeAny (model prog w) A (.builtin "dict.update.loop" ⟨[.ref d,.ref c,rawInt i,result],[]⟩) R s:=by
 intro m
 induction m with
 | zero=>
  intro i s hm hi st T P D0 go
  obtain rfl:i = ps.length:=by omega
  refine codeAny_builtin entry_dul ?_
  rw [Around.under_plainId plain_dul _]
  exact wpAny_bind (stop (A:=A.in1) hh st T (by simp) fun h' eb=>wpAny_bind (wpAny_pure (a:=()) (wpAny_pure (go h' _ (stay _ _ _ D0 fun b o hb q=>eb b o hb q) fun b o _ hb q=>eb b o hb q))))
 | succ m ih=>
  intro i s hm hi st T P D0 go
  have hlt:i < ps.length:=by omega
  obtain⟨p,hp⟩:∃ p,ps[i]? = some p:=⟨_,List.getElem?_eq_getElem hlt⟩
  have hpm:=List.mem_of_getElem? hp
  refine codeAny_builtin entry_dul ?_
  rw [Around.under_plainId plain_dul _]
  refine wpAny_bind (item st T (x:=.ref p.1) (by simp [hp]) fun h1 st1 sb1=>?_)
  have k1:∀ b o,b≠c->s.heap.get? b = some o->h1.get? b = some o:=fun b o hb q=>(sb1.2 b hb).trans q
  obtain⟨op,hop0,hcp,np,hdp⟩:=P p hpm
  have hop:=k1 _ _ (hpn p hpm).2 hop0
  refine wpAny_bind (wpAny_holding (wpAny_bind (wpAny_tryCatch ?_)))
  unfold Builtin.Dict.pairItems
  refine wpAny_bind (wpAny_typeOf (T:="tuple") ⟨op,hop,hcp⟩ ?_)
  rw [if_pos (by decide)]
  refine wpAny_bind (wpAny_seqItems hop hdp (wpAny_pure ?_))
  show wpAny _ _ (holding [p.2.1,p.2.2] (dictSet d p.2.1 p.2.2)) _ _ _
  refine wpAny_holding (step i p { s with heap:=h1 } _ _ hp (stay _ _ _ D0 k1) fun h2 tk2 D2 sb2=>?_)
  have k2:∀ b o,b≠d->b≠c->s.heap.get? b = some o->h2.get? b = some o:=fun b o hd hc q=>(sb2.2 b hd).trans (k1 b o hc q)
  have ei:((i:Int) + 1) = ((i + 1:Nat):Int):=by omega
  show wpAny _ _ (again (.builtin "dict.update.loop" ⟨[.ref d,.ref c,rawInt ((i:Int) + 1),result],[]⟩)) _ _ _
  rw [ei]
  exact wpAny_pure ⟨plainId_quiet plain_dul _,ih (i + 1) _ (by omega) (by omega) (st1.at fun o q=>(sb2.2 c (Ne.symm ndc)).trans q) (T.at fun o q=>k2 _ _ nt.1 nt.2 q) (fun q hq=>let ⟨o,a,b⟩:=P q hq;⟨o,k2 _ _ (hpn q hq).1 (hpn q hq).2 a,b⟩) D2 fun h' tk D' k'=>go h' tk D' fun b o hd hc q=>k' b o hd hc (k2 b o hd hc q)⟩
theorem dict_any {f:Bool}{s:Shared}{t:Addr}{ps:List Pr}{n:Nat}{Q:Value->Shared->Prop} (hh:A.handled = none) (ho:s.heap.get? t = some { cls:=.type (sqn f),data:=.seq (ps.map fun p=>Value.ref p.1).toArray n }) (P:∀ p∈ps,s.heap.IsTuple p.1 #[p.2.1,p.2.2]) (D:Nat->Heap->Prop)
 (start:∀ h1,(∀ b o,(s.heap.push { cls:=.type "dict",data:=.dict #[] }).get? b = some o->h1.get? b = some o)->D 0 h1)
 (stay:∀ c i h h',s.heap.objs.size < c->D i h->(∀ b o,b≠c->h.get? b = some o->h'.get? b = some o)->D i h')
 (step:∀ (i:Nat) (p:Pr) (A':Around) (s':Shared) (Q:Unit->Shared->Prop) (E:Value->Shared->Prop),A'.units = A.units + 2->ps[i]? = some p->D i s'.heap->(∀ h2 tk,D (i + 1) h2->Heap.SameBut s.heap.objs.size s'.heap h2->Q () { s' with heap:=h2,toks:=tk })->wpAny (model prog w) A' (dictSet s.heap.objs.size p.2.1 p.2.2) Q E s')
 (go:∀ h' tk,D ps.length h'->(∀ b o,s.heap.get? b = some o->h'.get? b = some o)->Q (.ref s.heap.objs.size) { s with heap:=h',toks:=tk }):
 wpAny (model prog w) A (call (.type "dict") [.ref t]) Q E s:=by
 refine callType_codes F.kt_called_dict (F.kt_typeCall_dict_1 _) F.entry_dict_init (kt_code_dict_new (.ref t) (Q₁:=fun obj s1=>obj = .ref s.heap.objs.size/\s1 = { s with heap:=s.heap.push { cls:=.type "dict",data:=.dict #[] } }) ⟨rfl,rfl⟩) fun obj s1 e=>?_
 obtain⟨rfl,rfl⟩:=e
 have hd0:(s.heap.push { cls:=.type "dict",data:=.dict #[] }).get? s.heap.objs.size = some _:=Heap.get?_push_size _ rfl
 refine⟨⟨_,hd0,rfl⟩,F.args_dict_init_2 _ _,?_⟩
 have k0:∀ b o,s.heap.get? b = some o->(s.heap.push { cls:=.type "dict",data:=.dict #[] }).get? b = some o:=fun b o q=>Heap.get?_push_of_some _ q
 show wpAny _ _ (Builtin.Dict.selfAndRest "__init__" _ >>= _) _ _ _
 unfold Builtin.Dict.selfAndRest Builtin.Dict.notOrdered
 refine wpAny_bind (wpAny_bind ?_)
 rw [if_pos (by decide)]
 refine wpAny_bind (wpAny_typeOf (T:="dict") ⟨_,hd0,rfl⟩ ?_)
 rw [if_neg (by decide)]
 refine wpAny_pure (wpAny_bind (wpAny_pure (wpAny_pure ?_)))
 show wpAny _ _ (Builtin.Dict.updateFrom "dict.__init__" s.heap.objs.size (.ref t) [] .none) _ _ _
 unfold Builtin.Dict.updateFrom
 refine wpAny_bind (wpAny_typeOf (T:=sqn f) ⟨_,k0 _ _ ho,rfl⟩ ?_)
 rw [if_pos (by cases f <;> decide)]
 refine wpAny_bind (nokeys hh (k0 _ _ ho) fun h1 tk1 k1=>?_)
 have hit:Sq f h1 t (ps.map fun p=>Value.ref p.1).toArray:=by cases f <;> exact⟨_,k1 _ _ (k0 _ _ ho),rfl,n,rfl⟩
 refine wpAny_bind (wpAny_rule (wpAny_bind (iter (s:={ s with heap:=h1,toks:=tk1 }) hit ?_)))
 have lt0:s.heap.objs.size < h1.objs.size:=Heap.lt_size (k1 _ _ hd0)
 have ht:t < s.heap.objs.size:=Heap.lt_size ho
 have hpa:∀ p∈ps,p.1 < s.heap.objs.size:=fun p hp=>let ⟨o,q,_⟩:=P p hp;Heap.lt_size q
 have kk:∀ b o,(s.heap.push { cls:=.type "dict",data:=.dict #[] }).get? b = some o->(h1.push { cls:=.type (itn f),data:=.fields #[.ref t,.int 0 0] }).get? b = some o:=fun b o q=>Heap.get?_push_of_some _ (k1 _ _ q)
 exact wpAny_pure ⟨plainId_quiet plain_dul _,dul (A:=A.in1) (c:=h1.objs.size) (t:=t) (ps:=ps) (f:=f) (show A.in1.handled = none from hh) (Nat.ne_of_lt lt0) ⟨Nat.ne_of_lt ht,Nat.ne_of_lt (Nat.lt_trans ht lt0)⟩ (fun p hp=>⟨Nat.ne_of_lt (hpa p hp),Nat.ne_of_lt (Nat.lt_trans (hpa p hp) lt0)⟩) D (fun i h h'=>stay _ i h h' lt0) (fun i p s' Q E=>step i p _ s' Q E rfl) .none ps.length 0 _ (by omega) (by omega)
  (by cases f <;> exact⟨_,Heap.get?_push_size _ rfl,rfl,rfl⟩) (by cases f <;> exact⟨_,kk _ _ (k0 _ _ ho),rfl,n,rfl⟩) (fun p hp=>let ⟨o,a,b⟩:=P p hp;⟨o,kk _ _ (k0 _ _ a),b⟩) (start _ kk) fun h' tk D' k'=>⟨rfl,go h' tk D' fun b o q=>k' b o (Nat.ne_of_lt (Heap.lt_size q)) (Nat.ne_of_lt (Nat.lt_trans (Heap.lt_size q) lt0)) (kk b o (k0 _ _ q))⟩⟩
end DG
def rDictL:List V->Hp->VK->Prop:=fun xs H Q=>∃ (t:Addr) (as:List Addr) (kvs:List (Key×V)),xs = [.ref t]/\H t = some (.lst (as.map V.ref))/\as.length = kvs.length/\kvs.length<=1000/\(∀ (i:Nat) a kv,as[i]? = some a->kvs[i]? = some kv->Rd H a (.tup [kV kv.1,kv.2]))/\
 ∀ p H2,H p = none->L2.Same H H2->H2 p = some (.dK (mergeK [] kvs))->Q (.ref p) H2
theorem stored_len (vs:List (Key×Value)) (k:Key) (v:Value):(stored vs k v).length<=vs.length + 1:=by
 unfold stored;split
 · simp
 simp
theorem fold_len:∀ (ps:List (Addr×Value×Key×Value)) (vs:List (Key×Value)),(ps.foldl (fun a p=>stored a p.2.2.1 p.2.2.2) vs).length<=vs.length + ps.length
 | [],vs=>Nat.le_refl _
 | p :: ps,vs=>by
  have h1:=fold_len ps (stored vs p.2.2.1 p.2.2.2)
  have h2:=stored_len vs p.2.2.1 p.2.2.2
  grind
theorem call_dictL (hc:X.calm = true):CallR X (.type "dict") rDictL:=fun pins s σ H xs us Q I r h=>by
 obtain⟨t,as,kvs,rfl,ht,hl,hk,hp,q⟩:=h
 obtain⟨u,rfl,rx⟩:=vals1 r
 cases rx
 obtain⟨ps,e1,e2,e3,e4⟩:=raw_pairs I as kvs hl hp
 have hsz:=sizeLine_eq
 obtain⟨hz,its',n,rv,g0⟩:=(show ObjOk X.prog X.w H s.heap t (.lst (as.map V.ref)) from I.hok t _ ht)
 have hvr:=DK.vals_refs as its' rv
 have hpl:ps.length = kvs.length:=by have:=congrArg List.length e1;rw [List.length_map,List.length_map] at this;omega
 have g1:s.heap.get? t = some { cls:=.type (DG.sqn false),data:=.seq ((ps.map fun p=>((p.1,p.2.1,p.2.2.2):DG.Pr)).map fun p=>Value.ref p.1).toArray n }:=by
  rw [List.map_map]
  have e:(ps.map ((fun p:DG.Pr=>Value.ref p.1) ∘ fun p=>(p.1,p.2.1,p.2.2.2))) = as.map Value.ref:=e1
  rw [e,<- hvr];exact g0
 refine DG.dict_any (f:=false) (I.ok.hd hc) g1 (fun p hp=>?_) (fun i h=>h.DictOf (mixKind X.prog X.w) s.heap.objs.size ((ps.take i).foldl (fun a p=>stored a p.2.2.1 p.2.2.2) [])) ?_ ?_ ?_ fun h' tk D k=>?_
 · obtain⟨p0,h0,rfl⟩:=List.mem_map.mp hp;exact e2 p0 h0
 · intro h1 k1
   obtain⟨o,es,ep,q,r⟩:=Heap.DictOf.new (knd:=mixKind X.prog X.w) s.heap
   exact⟨o,es,ep,k1 _ _ q,r⟩
 · rintro c i h h' hc ⟨o,es,ep,q,r⟩ k
   exact⟨o,es,ep,k _ _ (Nat.ne_of_lt hc) q,r⟩
 · intro i p A' s' Q E _ hp D go
   rw [List.getElem?_map] at hp
   obtain⟨p0,hp0,rfl⟩:=Option.map_eq_some_iff.mp hp
   have hlen:=fold_len (ps.take i) []
   rw [List.length_take,List.length_nil] at hlen
   refine wpAny_dictSet_pairs (knd:=mixKind X.prog X.w) (k:=p0.2.2.1) (e3 p0 (List.mem_of_getElem? hp0)) D (fun h2 D2 sb2=>go h2 _ ?_ sb2) (by omega)
   rw [List.take_add_one,hp0,List.foldl_append];exact D2
 · rw [List.length_map,List.take_length,fold_merge] at D
   have lm:=length_mergeK kvs []
   rw [List.length_nil] at lm
   exact⟨.ref s.heap.objs.size,_,I.laid (a:=s.heap.objs.size) (o:=.dK (mergeK [] kvs)) (t':=tk) k (Nat.le_refl _) (dk_new (by omega) (beq_eq_false_iff_ne.mpr (Ne.symm (Nat.ne_of_lt I.big))) (e4.merge .nil) D),rfl,q _ _ (I.hok.fresh (Nat.le_refl _)) (Br.Same.upd (I.hok.fresh (Nat.le_refl _))) upd_same⟩
theorem j_dictL (hg:Gl X x) (he:starEach (e :: es) X.env = (false,eval e X.env) :: starEach es X.env) (hpl:(backTo pos (starEach es X.env)).any (·.1) = false) (hx:x = "dict") (hc:X.calm = true) (hm:X.mg x = none) (ha:JA X (e :: es) t):
 JE X (.Call (.Name x p) (e :: es) [] pos) (tCB (fun xs H Q=>rDictP xs H Q\/rDictL xs H Q) t):=⟨by subst hx;exact pe_callTy ((call_dictP hc).or (call_dictL hc)) hg hm boot_dict' ha.h (by decide) (by decide) he hpl⟩
end Br
open PySem PySem.Spec PyProof.Rows L2 Br
local macro_rules | `(tactic| wtm_at "at")=>`(tactic| first | exact At.here | (apply At.there;wtm_at "at") | fail)
local macro_rules | `(tactic| wtm_at "K")=>`(tactic| first | exact cxC_K | exact cxC_K.trans cxC_K | rfl | fail)
local macro_rules | `(tactic| wtm_at "op")=>`(tactic| first | (apply k_addA;wtm_at "K") | apply o_sub | apply o_mulI | apply o_mod | apply o_fdiv | apply o_pow | fail)
local macro_rules | `(tactic| wtm_at "cop")=>`(tactic| first | apply c_eq | apply c_ne | apply c_lt | apply c_le | apply c_gt | apply c_ge | apply c_isnotN | apply c_is | (apply k_in;wtm_at "K") | (apply k_notin;wtm_at "K") | fail)
local macro_rules | `(tactic| wtm_at "pe")=>`(tactic| first
 | apply j_int
 | (apply j_name;(wtm_at "at");(rfl);(decide +kernel);(decide +kernel))
 | (apply j_cell;(wtm_at "at");(rfl);(decide +kernel);(decide +kernel))
 | (apply j_bin;(wtm_at "op");(wtm_at "pe");(wtm_at "pe"))
 | (apply k_ix;(wtm_at "K");(exact fun _ _=>rfl);(wtm_at "pe");(wtm_at "pe"))
 | (apply k_fld;(wtm_at "K");(rfl);(wtm_at "pe"))
 | wtm_at "call"
 | (apply j_tup;(wtm_at "pa"))
 | (apply j_lst;(wtm_at "pa"))
 | (apply j_cmp;(decide);(decide);(wtm_at "cop");(wtm_at "pe");(wtm_at "pe"))
 | apply j_bl | apply j_non | apply j_str
 | (apply j_neg;(wtm_at "pe"))
 | (apply k_slS;(wtm_at "K");(wtm_at "pe");(wtm_at "po");(wtm_at "po"))
 | (apply j_not;(wtm_at "pe"))
 | (apply j_one;(wtm_at "pe"))
 | (apply j_and;(wtm_at "pe");(wtm_at "pe"))
 | (apply j_or;(wtm_at "pe");(wtm_at "pe"))
 | apply j_dict0
 | (apply j_comp1;(rfl);(rfl);(intro _;rfl);(wtm_at "nd");(rfl);(wtm_at "pi");(intro cC cs cH cfp;wtm_at "pf");(intro cC cs cH cfp;wtm_at "pe"))
 | (apply k_comp2;(wtm_at "K");(rfl);(rfl);(intro _;rfl);(wtm_at "nd");(decide +kernel);(rfl);(rfl);(wtm_at "pi");(intro cC cs cH cfp;wtm_at "pf");(intro cC cs cH cfp;wtm_at "pe"))
 | (apply j_const;(assumption);(rfl);(decide +kernel))
 | (apply j_cls;(assumption);(rfl);(decide +kernel))
 | (apply j_bty (T:="int");(rfl);(assumption);(decide +kernel);(decide +kernel);(decide +kernel))
 | (apply j_bty (T:="bool");(rfl);(assumption);(decide +kernel);(decide +kernel);(decide +kernel))
 | (apply j_bty (T:="tuple");(rfl);(assumption);(decide +kernel);(decide +kernel);(decide +kernel))
 | (apply j_bty (T:="list");(rfl);(assumption);(decide +kernel);(decide +kernel);(decide +kernel))
 | (apply j_bty (T:="ValueError");(rfl);(assumption);(decide +kernel);(decide +kernel);(decide +kernel))
 | fail)
local macro_rules | `(tactic| wtm_at "call")=>`(tactic| first
 | (apply k_extend;(wtm_at "K");(rfl);(rfl);(rfl);(rfl);(rfl);(wtm_at "pe");(wtm_at "pa"))
 | (apply k_append;(wtm_at "K");(rfl);(rfl);(rfl);(rfl);(rfl);(wtm_at "pe");(wtm_at "pa"))
 | (apply j_call;(assumption);(wtm_at "room");(rfl);(decide +kernel);(rfl);(rfl);(wtm_at "pa"))
 | (apply k_isi;(wtm_at "K");(rfl);(rfl);(rfl);(with_reducible rfl);(assumption);(wtm_at "pa"))
 | (apply k_len;(wtm_at "K");(rfl);(rfl);(rfl);(with_reducible rfl);(assumption);(wtm_at "pa"))
 | (apply j_max;(rfl);(rfl);(rfl);(with_reducible rfl);(rfl);(assumption);(wtm_at "pa"))
 | (apply j_min;(rfl);(rfl);(rfl);(with_reducible rfl);(rfl);(assumption);(wtm_at "pa"))
 | (apply j_intc;(rfl);(rfl);(rfl);(with_reducible rfl);(assumption);(wtm_at "pa"))
 | (apply k_sortedM;(rfl);(rfl);(rfl);(wtm_at "K");(with_reducible rfl);(rfl);(assumption);(wtm_at "pa"))
 | (apply k_tuple;(rfl);(rfl);(rfl);(wtm_at "K");(with_reducible rfl);(assumption);(wtm_at "pa"))
 | (apply k_listc;(rfl);(rfl);(rfl);(wtm_at "K");(with_reducible rfl);(assumption);(wtm_at "pa"))
 | (apply k_sumS;(rfl);(rfl);(rfl);(wtm_at "K");(with_reducible rfl);(rfl);(assumption);(wtm_at "pa"))
 | (apply k_all;(wtm_at "K");(rfl);(rfl);(rfl);(with_reducible rfl);(rfl);(assumption);(wtm_at "pa"))
 | (apply j_callH;(assumption);(wtm_at "roomH");(rfl);(decide +kernel);(rfl);(rfl);(wtm_at "pa"))
 | (apply j_callX;(assumption);(first | exact passF | exact passF0);(wtm_at "room");(rfl);(decide +kernel);(rfl);(rfl);(wtm_at "pa"))
 | (apply j_meth;(assumption);(wtm_at "room");(rfl);(rfl);(rfl);(wtm_at "pe");(wtm_at "pa"))
 | (apply j_meth0;(assumption);(wtm_at "room");(rfl);(wtm_at "pe"))
 | (apply j_make;(assumption);(wtm_at "room");(rfl);(decide +kernel);(rfl);(rfl);(wtm_at "pa"))
 | fail)
local macro_rules | `(tactic| wtm_at "roomH")=>`(tactic| first | assumption | exact RoomH.mark (by assumption) (by decide) | exact RoomH.of (by assumption) (by decide) | exact RoomH.mono (by assumption) (by decide) | fail)
local macro_rules | `(tactic| wtm_at "room")=>`(tactic| first | assumption | exact Room.mono (by assumption) (by decide) | fail)
local macro_rules | `(tactic| wtm_at "pa")=>`(tactic| first | apply j_nil | (apply j_cons;(rfl);(wtm_at "pe");(wtm_at "pa")) | fail)
local macro_rules | `(tactic| wtm_at "po")=>`(tactic| first | apply j_onone | (apply j_osome;(wtm_at "pe")) | fail)
local macro_rules | `(tactic| wtm_at "pt")=>`(tactic| first
 | (apply u_cmp;(decide);(decide);(wtm_at "cop");(wtm_at "pe");(wtm_at "pe"))
 | (apply u_cmpM;(with_unfolding_all rfl);(wtm_at "cop");(wtm_at "pe");(wtm_at "pe"))
 | (apply u_or;(wtm_at "pw"))
 | (apply u_and;(wtm_at "pw"))
 | (apply u_not;(wtm_at "pt"))
 | (apply u_call;(wtm_at "pe"))
 | (apply u_name;(wtm_at "pe"))
 | fail)
local macro_rules | `(tactic| wtm_at "pw")=>`(tactic| first
 | (apply w_and1;(wtm_at "pt"))
 | (apply w_or1;(wtm_at "pt"))
 | (apply w_and;(wtm_at "pt");(wtm_at "pw"))
 | (apply w_or;(wtm_at "pt");(wtm_at "pw"))
 | fail)
local macro_rules | `(tactic| wtm_at "pi")=>`(tactic| first
 | (apply i_range1;(with_reducible rfl);(rfl);(assumption);(rfl);(wtm_at "pa"))
 | (apply k_zip;(wtm_at "K");(with_reducible rfl);(rfl);(assumption);(rfl);(rfl);(wtm_at "pa"))
 | (apply k_seq;(wtm_at "K");(wtm_at "pe"))
 | fail)
local macro_rules | `(tactic| wtm_at "pg")=>`(tactic| first
 | (apply g_name;(wtm_at "at");(assumption);(rfl))
 | (apply g_tup2;(wtm_at "at");(wtm_at "at");(rfl);(assumption);(rfl);(rfl);(rfl);(rfl);(rfl);(rfl))
 | (apply g_cell;(wtm_at "at");(assumption);(rfl);(rfl))
 | (apply g_tup2C;(wtm_at "at");(wtm_at "at");(rfl);(assumption);(first | exact .inl rfl | exact .inr rfl);(first | exact .inl rfl | exact .inr rfl);(rfl);(rfl);(rfl);(rfl);(rfl);(rfl))
 | fail)
local macro_rules | `(tactic| wtm_at "ps")=>`(tactic| first
 | (apply s_set;(wtm_at "at");(assumption);(rfl);(rfl);(wtm_at "pe"))
 | (apply s_setC;(wtm_at "at");(assumption);(rfl);(rfl);(rfl);(wtm_at "pe"))
 | (apply k_setFld;(wtm_at "K");(rfl);(wtm_at "pe");(wtm_at "pe"))
 | (apply s_if;(wtm_at "pt");(wtm_at "pss");(wtm_at "pss"))
 | (apply s_ret;(wtm_at "pe"))
 | (apply s_for;(exact PassesOwn.never);(rfl);(intro _;rfl);(wtm_at "pi");(wtm_at "pg");(wtm_at "pss"))
 | (apply s_while;(exact PassesOwn.never);(wtm_at "pt");(wtm_at "pss"))
 | (apply s_expr;(rfl);(wtm_at "pe"))
 | (apply s_compT;(rfl);(rfl);(intro _;rfl);(assumption);(decide +kernel);(rfl);(rfl);(intro _ _;rfl);(wtm_at "at");(rfl);(rfl);(wtm_at "pi");(intro cC cs cH cfp;wtm_at "pf");(intro cC cs cH cfp;wtm_at "pi");(intro cC cs cH cfp;wtm_at "pf");(intro cC cs cH cfp;wtm_at "pe"))
 | (apply s_unpack2;(wtm_at "at");(wtm_at "at");(rfl);(assumption);(rfl);(rfl);(rfl);(rfl);(rfl);(rfl);(rfl);(rfl);(rfl);(wtm_at "pe"))
 | (apply s_ixset;(rfl);(rfl);(rfl);(intro _;rfl);(wtm_at "pe");(wtm_at "pe");(wtm_at "pe"))
 | (apply s_raise;(assumption);(rfl);(rfl);(exact throwF);(decide +kernel);(rfl);(wtm_at "pe"))
 | (apply s_try;(assumption);(rfl);(rfl);(rfl);(assumption);(wtm_at "at");(rfl);(rfl);(decide +kernel);(wtm_at "pssx");(intro ea;wtm_at "pss"))
 | fail)
local macro_rules | `(tactic| wtm_at "nd")=>`(tactic| first | assumption | decide +kernel | fail)
local macro_rules | `(tactic| wtm_at "pf")=>`(tactic| first | apply f_nil | (apply f_one;(wtm_at "pt")) | fail)
local macro_rules | `(tactic| wtm_at "pss")=>`(tactic| first
 | (apply ss_cons;(wtm_at "ps");(wtm_at "pss"))
 | apply ss_nil
 | fail)
local macro_rules | `(tactic| wtm_at "pex")=>`(tactic| first
 | (apply x_call;(assumption);(wtm_at "room");(rfl);(decide +kernel);(rfl);(rfl);(rfl);(wtm_at "pa"))
 | fail)
local macro_rules | `(tactic| wtm_at "psx")=>`(tactic| first
 | (apply x_set;(assumption);(wtm_at "at");(rfl);(rfl);(wtm_at "pex"))
 | fail)
local macro_rules | `(tactic| wtm_at "pssx")=>`(tactic| first
 | (apply xx_cons;(wtm_at "psx");(wtm_at "pssx"))
 | apply xx_nil
 | fail)
local macro_rules | `(tactic| wtm_at "body")=>`(tactic| (refine' ss_cons ?a ?b;(case a=>wtm_at "ps");(case b=>wtm_at "pss")))
local macro_rules | `(tactic| wtm_at "side")=>`(tactic| first
 | (with_reducible exact IntMulOk.of_right (by decide))
 | (with_reducible exact IntMulOk.of_left (by decide))
 | (with_reducible refine CMulB.ok (mulB ?_ ?_) <;> omega)
 | (with_reducible refine mulB ?_ ?_ <;> omega)
 | (with_reducible refine divB ?_ ?_ <;> omega)
 | (show (0:Int) < _;omega)
 | (show (0:Int) < _;decide)
 | (exact⟨by omega,by omega,by omega⟩)
 | fail)
local macro_rules | `(tactic| wtm_at "rd1")=>`(tactic| first
 | refine⟨_,rfl,?_⟩
 | (refine⟨_,_,rfl,rfl,?c,?_⟩;(case c=>wtm_at "side"))
 | refine⟨_,_,rfl,rfl,?_⟩
 | refine .inl ⟨_,_,rfl,rfl,?_⟩
 | refine⟨_,_,rfl,?_⟩
 | fail)
local macro_rules | `(tactic| wtm_at "rd")=>`(tactic| repeat wtm_at "rd1")
local macro_rules | `(tactic| wtm_at "sc")=>`(tactic| exact⟨rfl,rfl,rfl,by decide +kernel,rfl,by decide +kernel,by decide +kernel⟩)
variable {P:Program}{W:World}{K:PySem.W.Frag}{mg:Str->Option Value}{base:Heap}
variable {Z:Addr}{fd:FuncData}
abbrev Qs:=List (Int×Int)
abbrev Fs:=List (List Int×Int)
namespace K44
def top (i:Nat):Stmt:=PySem.Challenge.pw_brimyard_k44_sizes_left.main.body.getD i (.Pass ⟨0,0,0,0⟩)
abbrev sDeal:Stmt:=top 41
abbrev sTake:Stmt:=top 42
def Mo (ps:List Addr) (H H':Hp):Prop:=∀ b o,b∉ps->H b = some o->H' b = some o
theorem Mo.refl:Mo ps H H:=fun _ _ _ e=>e
theorem Mo.trans (a:Mo ps H H') (b:Mo ps H' H''):Mo ps H H'':=fun c o n e=>b c o n (a c o n e)
theorem Mo.of (s:L2.Same H H'):Mo ps H H':=fun b o _ e=>s b o e
theorem Mo.put (hp:p∈ps):Mo ps H (L2.upd H p o):=fun b u n e=>by rw [upd_ne (fun z=>n (by simp_all))];omega
theorem Mo.more (h:Mo ps H H') (s:∀ b∈ps,b∈qs):Mo qs H H':=fun b o n e=>h b o (fun z=>n (s b z)) e
def Pool (H:Hp) (p:Addr):Prop:=∃ x:Int,H p = some (.lst [.int x])/\0<=x
theorem Pool.same (h:Pool H p) (s:L2.Same H H'):Pool H' p:=let ⟨x,e,a⟩:=h;⟨x,s _ _ e,a⟩
theorem mulBits (h1:Bd m i) (h2:Bd n j) (hm:m + n<=2 ^ 21):IntMulOk i j:=by
 have e1:=intBits_le h1
 have e2:=intBits_le h2
 unfold IntMulOk Builtin.Int.intTooBig
 rw [decide_eq_false (p:=(Builtin.Int.intBits i:Int) + (Builtin.Int.intBits j:Int) > (bitsLine:Int)) (by
  have:(bitsLine:Nat) = 134217728:=by decide
  omega),Bool.and_false]
 simp
theorem bd_num (h0:0<=n) (h:Bd (16 * i) n) (d0:0<=d) (d1:d < 65536):Bd (16 * (i + 1)) (n * 65536 + d):=by
 unfold Bd at *
 grind
theorem bd_room (hc:Bd 1048576 c) (r0:0 < r) (h:r<=c):Bd 1048776 (r * 10 ^ 60):=by
 have h1:Bd 1048576 r:=hc.le (by omega)
 have h2:Bd 200 (10 ^ 60):=by unfold Bd;simp
 exact (h1.mul h2).mono (by decide)
theorem scDeal:FnScope ["cell","many","number","one","k","two","room"] ["cell","many"] (defScope sDeal):=by wtm_at "sc"
def spDeal:Sp:=fun vs H Q _=>∃ c m:Int,vs = [.int c,.int m]/\Bd 1048576 c/\0<=m/\m<=100/\∀ r:Int,0<=r->Q (.int r) H
theorem ok_deal (F:Fun K "_law_deal" "_law_deal" sDeal Z fd) (mR:mg "range" = none):FnOk P W K mg base CX0 1 Z fd ["cell","many"] spDeal:=by
 refine Br.Fun.j F scDeal (fun vs H Q E h=>?_) (fun _ A _ s H vs Q E hr h=>?_)
 · obtain⟨_,_,rfl,_⟩:=h;rfl
 · obtain⟨c,m,rfl,hc,hm0,hm1,h⟩:=h
   have nd:=scDeal.nd
   refine' ⟨_,?d,?r⟩
   case d=>wtm_at "body"
   case r=>
    wtm_at "rd"
    refine⟨by omega,by omega,for_range (fun i σ H2=>H2 = H/\∃ (n one:Int) (x y:Option V),0<=n/\Bd (16 * i) n/\0<=one/\one < 4294967296/\σ = [some (.int c),some (.int m),some (.int n),some (.int one),x,y,none]) ⟨rfl,0,_,none,none,by decide,(by unfold Bd;decide),by omega,by omega,rfl⟩ ?_ ?_⟩
    · rintro i σ H2 hi ⟨rfl,n,one,x,y,hn,hb,h1,h2,rfl⟩
      wtm_at "rd"
      generalize hz:(one * 48271 + 7919 * (0 + (i:Int)) * (0 + (i:Int)) + 104729) % 2147483647 = z
      have hz0:0<=z/\z < 2147483647:=by omega
      refine⟨rfl,_,_,_,_,?_,bd_num hn hb ?_ ?_,?_,?_,rfl⟩ <;> omega
    · rintro σ H2 ⟨rfl,n,one,x,y,hn,hb,h1,h2,rfl⟩
      have e60:(10:Int) ^ Int.toNat 60 = 10 ^ 60:=rfl
      have e18:(10:Int) ^ Int.toNat 18 = 10 ^ 18:=rfl
      have hb:Bd 2000 n:=hb.mono (by omega)
      wtm_at "rd"
      refine⟨fun k σ G=>G = H2/\∃ room:Int,k = (c + 1 - room).toNat/\1<=room/\Bd 1048776 room/\σ = [some (.int c),some (.int m),some (.int n),some (.int one),x,y,some (.int room)],⟨_,rfl,_,rfl,by decide,(by unfold Bd;exact Nat.lt_of_lt_of_le (show (10 ^ 60:Int).natAbs < 2 ^ 200 by decide +kernel) (Nat.pow_le_pow_right (by decide) (by decide))),rfl⟩,?_⟩
      rintro k σ G ⟨rfl,room,rfl,hr0,hrb,rfl⟩
      wtm_at "rd"
      refine ite2 (fun hc2=>?_) (fun hc2=>?_)
      · have hc2:=of_decide_eq_true hc2
        have b60:Bd 200 (10 ^ 60):=by unfold Bd;decide +kernel
        have nb:=bd_room hc (by omega) hc2
        refine⟨_,fun _ _ hN=>hN,?_⟩
        wtm_at "rd"
        have big:room * 2<=room * 10 ^ 60:=Int.mul_le_mul_of_nonneg_left (by decide) (by omega)
        refine⟨mulBits hrb b60 (by decide),_,?_,rfl,_,rfl,?_,nb,rfl⟩
        · show (c + 1 - room * 10 ^ 60).toNat < _
          generalize room * 10 ^ 60 = z at big
          omega
        · show 1<=room * 10 ^ 60
          generalize room * 10 ^ 60 = z at big
          omega
      · wtm_at "rd"
        refine⟨fun σ' G'=>G' = G/\∃ r:Int,0<=r/\σ' = [some (.int c),some (.int m),some (.int r),some (.int one),x,y,some (.int room)],?_,?_⟩
        · wtm_at "rd"
          refine ite2 (fun hc3=>?_) (fun _=>⟨rfl,n,hn,rfl⟩)
          have hc3:=of_decide_eq_true hc3
          wtm_at "rd"
          refine⟨mulBits hb hrb (by decide),_,rfl,.inl ⟨_,_,rfl,rfl,?_⟩⟩
          wtm_at "rd"
          refine⟨rfl,_,?_,rfl⟩
          have:=Int.mul_nonneg hn (show 0<=room by omega)
          omega
        · rintro σ' G' ⟨rfl,r,hr0,rfl⟩
          exact⟨_,rfl,h r hr0⟩
theorem scTake:FnScope ["pot","many","digit"] ["pot","many"] (defScope sTake):=by wtm_at "sc"
def spTake:Sp:=fun vs H Q _=>∃ (p:Addr) (m:Int),vs = [.ref p,.int m]/\Pool H p/\0 < m/\m<=10 ^ 13/\∀ (r:Int) (H':Hp),Mo [p] H H'->Pool H' p->0<=r->r < m->Q (.int r) H'
theorem ok_take (F:Fun K "_law_take" "_law_take" sTake Z fd):FnOk P W K mg base CX0 1 Z fd ["pot","many"] spTake:=by
 refine Br.Fun.j F scTake (fun vs H Q E h=>?_) (fun _ A _ s H vs Q E hr h=>?_)
 · obtain⟨_,_,rfl,_⟩:=h;rfl
 · obtain⟨p,m,rfl,⟨x,hp,hx⟩,hm,hm2,h⟩:=h
   have nd:=scTake.nd
   refine' ⟨_,?d,?r⟩
   case d=>wtm_at "body"
   case r=>
    refine⟨_,rfl,.inl ⟨p,_,0,_,rfl,rfl,SqL.of hp,(rfl),?_⟩⟩
    wtm_at "rd"
    refine .inl ⟨p,_,0,_,rfl,rfl,SqL.of hp,(show atI [V.int x] 0 = some (.int x) from rfl),?_⟩
    refine⟨_,rfl,_,_,rfl,rfl,divB hm (by omega),?_⟩
    refine⟨_,rfl,p,_,_,0,rfl,rfl,hp,rfl,?_⟩
    exact⟨_,rfl,h _ _ (Mo.put (by simp)) ⟨x / m,upd_same,Int.ediv_nonneg hx (by omega)⟩ (Int.emod_nonneg _ (by omega)) (Int.emod_lt_of_pos _ hm)⟩
abbrev sSize:Stmt:=top 43
theorem scSize:FnScope ["pot","need","way","part","size"] ["pot","need"] (defScope sSize):=by wtm_at "sc"
def spSize:Sp:=fun vs H Q _=>∃ (p:Addr) (n:Int),vs = [.ref p,.int n]/\Pool H p/\1<=n/\n<=10 ^ 12/\∀ (r:Int) (H':Hp),Mo [p] H H'->Pool H' p->1<=r->r<=10 ^ 12->Q (.int r) H'
theorem ok_size (F:Fun K "_law_size" "_law_size" sSize Z fd) (cT:Callee CX0 P W K mg base "_law_take" 1 ["pot","many"] spTake) (mX:mg "max" = none) (mN:mg "min" = none):FnOk P W K mg base CX0 2 Z fd ["pot","need"] spSize:=by
 refine Br.Fun.j F scSize (fun vs H Q E h=>?_) (fun _ A _ s H vs Q E hr h=>?_)
 · obtain⟨_,_,rfl,_⟩:=h;rfl
 · obtain⟨p,n,rfl,hp,hn1,hn2,h⟩:=h
   have nd:=scSize.nd
   have e12:(10:Int) ^ Int.toNat 12 = 1000000000000:=by decide
   refine' ⟨_,?d,?r⟩
   case d=>wtm_at "body"
   case r=>
    refine⟨_,rfl,p,6,rfl,hp,by decide,by decide,fun way H1 m1 p1 w0 w1=>?_⟩
    refine⟨_,rfl,_,rfl,p,4,rfl,p1,by decide,by decide,fun r4 H2 m2 p2 a0 a1=>.inl ⟨_,_,rfl,rfl,?_⟩⟩
    refine⟨_,_,rfl,rfl,divB (by omega) (by omega),?_⟩
    refine⟨_,rfl,p,3,rfl,p2,by decide,by decide,fun r3 H3 m3 p3 b0 b1=>.inl ⟨_,_,rfl,rfl,?_⟩⟩
    wtm_at "rd"
    refine⟨p3,by omega,by omega,fun r5 H4 m4 p4 c0 c1=>.inl ⟨_,_,rfl,rfl,?_⟩⟩
    refine⟨_,rfl,_,rfl,p,5,rfl,p4,by decide,by decide,fun r6 H5 m5 p5 d0 d1=>.inl ⟨_,_,rfl,rfl,?_⟩⟩
    refine⟨_,rfl,_,rfl,p,3,rfl,p5,by decide,by decide,fun r7 H6 m6 p6 f0 f1=>⟨_,_,rfl,rfl,?_⟩⟩
    refine⟨_,rfl,_,rfl,p,9,rfl,p6,by decide,by decide,fun r8 H7 m7 p7 g0 g1=>.inl ⟨_,_,rfl,rfl,?_⟩⟩
    wtm_at "rd"
    refine⟨lenLe (n:=6) rfl (by decide),fun l H8 hl s8 e8=>?_⟩
    obtain⟨z,hz,_,ez⟩:=atI_ints (zs:=[1 + r5,n / (2 + r4) + r3 - 1,1 + r6,n - r7,n + r8,n / (2 + r4) + r3 - 1]) (i:=way) (by omega) (by simp;omega)
    refine⟨_,rfl,.inl ⟨l,_,_,_,rfl,rfl,SqL.of e8,ez,?_⟩⟩
    wtm_at "rd"
    refine h _ _ (m1.trans (m2.trans (m3.trans (m4.trans (m5.trans (m6.trans (m7.trans (Mo.of s8)))))))) (p7.same s8) ?_ ?_ <;> (split <;> first | omega | (split <;> omega))
section
local macro_rules | `(tactic| wtm_at "pe")=>`(tactic| (apply k_values;(rfl);(rfl);(rfl);(rfl);(wtm_at "pe")))
local macro_rules | `(tactic| wtm_at "call")=>`(tactic| (apply k_sumV;(rfl);(rfl);(rfl);(with_reducible rfl);(rfl);(assumption);(wtm_at "pa")))
local macro_rules | `(tactic| wtm_at "cop")=>`(tactic| (apply c_dnotin;(assumption)))
local macro_rules | `(tactic| wtm_at "pe")=>`(tactic| (apply j_dget;(assumption);(exact fun _ _=>rfl);(wtm_at "pe");(wtm_at "pe")))
local macro_rules | `(tactic| wtm_at "ps")=>`(tactic| (apply s_dput;(assumption);(rfl);(wtm_at "pe");(wtm_at "pe");(wtm_at "pe")))
abbrev sHeap:Stmt:=top 44
def vv (ks:Qs):List (Key×V):=ks.map fun q=>(.inl q.1,.int q.2)
def look:Qs->Int->Option Int
 | [],_=>none
 | q :: ks,n=>if q.1 = n then some q.2 else look ks n
theorem look_cons (q:Int×Int) (ks:Qs) (n:Int):look (q :: ks) n = if q.1 = n then some q.2 else look ks n:=rfl
theorem look_d:∀ (ks:Qs) (n:Int),look ks n = dlook ks n
 | [],_=>rfl
 | q :: ks,n=>by rw [look_cons,dlook_cons,look_d ks n]
theorem val_vv:∀ (ks:Qs) (n:Int),valV (vv ks) (.inl n) = (look ks n).map V.int
 | [],_=>rfl
 | q :: ks,n=>by
  by_cases e:q.1 = n
  · rw [show vv _ = ((Sum.inl q.1:Key),V.int q.2) :: vv ks from rfl,valV_pos (by grind)]
    rw [look_cons,if_pos e];rfl
  · rw [show vv _ = ((Sum.inl q.1:Key),V.int q.2) :: vv ks from rfl,valV_neg (fun z=>e (by injection z)),val_vv ks n]
    rw [look_cons,if_neg e]
def total (ks:Qs):Int:=(ks.map (·.2)).sum
theorem look_mem:∀ {ks:Qs}{n:Int},n∈ks.map (·.1)->∃ c,look ks n = some c
 | q :: ks,n,h=>by
  rw [look_cons]
  by_cases e:q.1 = n
  · exact⟨_,if_pos e⟩
  · rw [if_neg e]
    rcases List.mem_cons.mp h with z | z
    · grind
    · exact look_mem z
theorem perm_sum {l m:List Int} (h:l.Perm m):l.sum = m.sum:=by
 induction h with
 | nil=>rfl
 | cons x _ ih=>simp_all
 | swap x y l=>simp;omega
 | trans _ _ a b=>grind
def Kind (H:Hp) (v:V) (q:Int×Int):Prop:=∃ r:Addr,v = .ref r/\H r = some (.tup [.int q.1,.int q.2])
def Kinds (H:Hp) (vs:List V) (qs:Qs):Prop:=vs.length = qs.length/\∀ (i:Nat) (v:V),vs[i]? = some v->∃ q,qs[i]? = some q/\Kind H v q
def FrT (H:Hp) (t:Addr) (vs:List V):Prop:=∃ o:Obj,bareT o/\H t = some (.frz o (.tup vs))
theorem FrT.sq (h:FrT H t vs):SqT K H t vs:=let ⟨o,_,e⟩:=h;.inl (.inr ⟨o,e⟩)
theorem FrT.same (h:FrT H t vs) (s:L2.Same H H'):FrT H' t vs:=let ⟨o,b,e⟩:=h;⟨o,b,s _ _ e⟩
def HeapAt (H:Hp) (h:Addr) (need:Int) (qs:Qs):Prop:=∃ (t:Addr) (vs:List V),H h = some (.tup [.int need,.ref t])/\FrT H t vs/\Kinds H vs qs/\qs.length<=9/\1<=need/\need<=10 ^ 12/\∀ q∈qs,1<=q.1/\q.1<=10 ^ 12/\1<=q.2/\q.2<=10 ^ 12
theorem Kinds.mo {ps:List Addr} (k:Kinds H vs qs) (m:∀ b o,H b = some o->(∃ xs,o = .tup xs)->H' b = some o):Kinds H' vs qs:=
 ⟨k.1,fun i v e=>let ⟨q,h1,r,h2,h3⟩:=k.2 i v e;⟨q,h1,r,h2,m _ _ h3 ⟨_,rfl⟩⟩⟩
def Tu (H H':Hp):Prop:=∀ b o,H b = some o->(∃ xs,o = .tup xs)->H' b = some o
theorem Tu.of (s:L2.Same H H'):Tu H H':=fun b o e _=>s b o e
theorem Tu.mo (hp:Pool H p) (m:Mo [p] H H'):Tu H H':=fun b o e x=>by
 refine m b o (fun z=>?_) e
 rw [List.mem_singleton.mp z] at e
 obtain⟨_,e2,_⟩:=hp
 obtain⟨xs,rfl⟩:=x
 grind
theorem HeapAt.same (x:HeapAt H h need qs) (s:L2.Same H H'):HeapAt H' h need qs:=
 let ⟨t,vs,a,b,k,d⟩:=x;⟨t,vs,s _ _ a,b.same s,k.mo (ps:=[]) (fun b o e _=>s b o e),d⟩
def prodc:Qs->Int
 | []=>1
 | q :: ks=>(q.2 + 1) * prodc ks
theorem prodc_app:∀ (ks:Qs) (q:Int×Int),prodc (ks ++ [q]) = prodc ks * (q.2 + 1)
 | [],q=>by show _ * 1 = 1 * _;omega
 | r :: ks,q=>by
  show _ * prodc (ks ++ [q]) = _ * prodc ks * _
  rw [prodc_app ks q,Int.mul_assoc]
theorem prodc_big:∀ {qs:Qs},(∀ q∈qs,1<=q.2/\q.2<=10 ^ 12)->1<=prodc qs/\prodc qs<=(10 ^ 12 + 1) ^ qs.length
 | [],_=>⟨by decide,by decide⟩
 | q :: qs,h=>by
  have ih:=prodc_big fun x hx=>h x (.tail _ hx)
  have hq:=h q (.head _)
  refine⟨?_,?_⟩
  · show 1<=_ * prodc qs
    have:=Int.mul_le_mul (show (1:Int)<=q.2 + 1 by omega) ih.1 (by decide) (by omega)
    omega
  · show _ * prodc qs<=_
    rw [List.length_cons,Int.pow_succ,Int.mul_comm]
    exact Int.mul_le_mul ih.2 (by omega) (by omega) (Int.pow_nonneg (by decide))
theorem prodc_hundred (h:∀ q∈qs,1<=q.2/\q.2<=10 ^ 12) (h8:qs.length<=9):prodc qs<=10 ^ 110:=by
 have h1:=(prodc_big h).2
 have h3:∀ n,n < 10->((10:Int) ^ 12 + 1) ^ n<=10 ^ 110:=by decide +kernel
 grind
theorem mulH (h0:0<=i) (h1:i<=10 ^ 110) (h2:0<=j) (h3:j<=10 ^ 110):CMulB i j:=by
 have e:(10:Nat) ^ 110 < 2 ^ 8000:=by grind
 exact⟨Nat.lt_of_le_of_lt (by omega) e,Nat.lt_of_le_of_lt (by omega) e⟩
theorem look_at:∀ {ks:Qs}{j:Nat}{q:Int×Int},(ks.map (·.1)).Nodup->ks[j]? = some q->look ks q.1 = some q.2
 | r :: ks,0,q,_,h=>by simp at h;subst h;rw [look_cons,if_pos rfl]
 | r :: ks,j + 1,q,nd,h=>by
  rw [List.map_cons,List.nodup_cons] at nd
  rw [look_cons,if_neg (fun e=>nd.1 (by rw [e];exact List.mem_map.mpr ⟨q,List.mem_of_getElem? h,rfl⟩))]
  exact look_at nd.2 h
structure Tab (ks:Qs) (wy:Int):Prop where
 nd:(ks.map (·.1)).Nodup
 bd:∀ q∈ks,1<=q.1/\q.1<=10 ^ 12/\1<=q.2/\q.2<=60
 sum:total ks<=60
 prod:prodc ks = wy
 w1:1<=wy
 w2:wy<=2000
theorem Tab.add (t:Tab ks wy) (hn:look ks n = none) (n0:1<=n) (n1:n<=10 ^ 12) (m0:1<=m) (m1:m<=60) (hs:total ks + m<=60) (hw:wy * (m + 1)<=2000):Tab (ks ++ [(n,m)]) (wy * (m + 1)):=by
 obtain⟨nd,bd,sm,pr,w1,w2⟩:=t
 have hn:n∉ks.map (·.1):=fun z=>by obtain⟨c,e⟩:=look_mem z;rw [hn] at e;cases e
 refine⟨?_,fun q hq=>?_,?_,by rw [prodc_app,pr],?_,hw⟩
 · rw [List.map_append,List.nodup_append]
   refine⟨nd,by simp,fun a ha b hb e=>hn ?_⟩
   grind
 · rcases List.mem_append.mp hq with z | z
   · exact bd q z
   · rw [List.mem_singleton.mp z];exact⟨n0,n1,m0,m1⟩
 · unfold total at hs ⊢
   rw [List.map_append,List.sum_append]
   simp
   omega
 · have:1 * 1<=wy * (m + 1):=Int.mul_le_mul w1 (by omega) (by decide) (by omega)
   omega
theorem put_new (h:look ks n = none):putK (vv ks) (.inl n) (.int m) = vv (ks ++ [(n,m)]):=by
 unfold putK
 rw [valV_any,val_vv,h]
 unfold vv;simp
theorem prodc_perm (h:l.Perm m):prodc l = prodc m:=by
 induction h with
 | nil=>rfl
 | cons x _ ih=>show _ * _ = _ * _;rw [ih]
 | swap x y l=>show _ * (_ * prodc l) = _ * (_ * prodc l);rw [<- Int.mul_assoc,<- Int.mul_assoc,Int.mul_comm (y.2 + 1)]
 | trans _ _ a b=>simp_all
theorem look_pairs {ks:Qs} (nd:(ks.map (·.1)).Nodup):ks.map (fun q=>(q.1,(look ks q.1).getD 0)) = ks:=by
 have:ks.map (fun q=>(q.1,(look ks q.1).getD 0)) = ks.map id:=List.map_congr_left fun q hq=>by
  obtain⟨i,hi,e⟩:=List.getElem_of_mem hq
  have:ks[i]? = some q:=by simp_all
  rw [look_at nd this];rfl
 simp_all
theorem scHeap:FnScope ["pot","most_ways","need","counts","ways","turn","size","many"] ["pot","most_ways"] (defScope sHeap):=by wtm_at "sc"
def spHeap:Sp:=fun vs H Q _=>∃ (p:Addr) (mw:Int),vs = [.ref p,.int mw]/\mw<=2000/\Pool H p/\∀ (h:Addr) (need:Int) (qs:Qs) (H':Hp),Mo [p] H H'->Pool H' p->HeapAt H' h need qs->(qs.map (·.2)).sum<=60->prodc qs<=2000->Ris qs->qs.length<=8->Q (.ref h) H'
local macro_rules | `(tactic| wtm_at "call")=>`(tactic| (apply k_tupleF;(rfl);(rfl);(rfl);(wtm_at "K");(with_reducible rfl);(assumption);(wtm_at "pa")))
theorem ok_heap (F:Fun K "_law_heap" "_law_heap" sHeap Z fd) (cT:Callee CX0 P W K mg base "_law_take" 1 ["pot","many"] spTake) (cS:Callee CX0 P W K mg base "_law_size" 2 ["pot","need"] spSize)
 (mR:mg "range" = none) (mS:mg "sorted" = none) (mT:mg "tuple" = none) (mU:mg "sum" = none):FnOk P W K mg base CX0 3 Z fd ["pot","most_ways"] spHeap:=by
 refine Br.Fun.j F scHeap (fun vs H Q E h=>?_) (fun _ A _ s H vs Q E hr h=>?_)
 · obtain⟨_,_,rfl,_⟩:=h;rfl
 · obtain⟨p,mw,rfl,hmw,hp,h⟩:=h
   have nd:=scHeap.nd
   have hsz:=sizeLine_eq
   refine' ⟨_,?d,?r⟩
   case d=>wtm_at "body"
   case r=>
    have e12:(10:Int) ^ Int.toNat 12 = 1000000000000:=by decide
    wtm_at "rd"
    refine⟨hp,by decide,by decide,fun r1 G1 q1 o1 a0 a1=>.inl ⟨_,_,rfl,rfl,?_⟩⟩
    refine⟨_,rfl,p,60,rfl,o1,by decide,by decide,fun r2 G2 q2 o2 b0 b1=>.inl ⟨_,_,rfl,rfl,?_⟩⟩
    wtm_at "rd"
    refine⟨o2,by decide,by decide,fun r3 G3 q3 o3 c0 c1=>⟨_,_,rfl,rfl,?_⟩⟩
    wtm_at "rd"
    refine⟨o3,by decide,by decide,fun r4 G4 q4 o4 d0 d1=>.inl ⟨_,_,rfl,rfl,?_⟩⟩
    refine⟨lenLe (n:=4) rfl (by decide),fun l0 G5 hl0 q5 e5=>?_⟩
    have o5:=o4.same q5
    have l0p:l0≠p:=fun z=>by obtain⟨_,e,_⟩:=o4;rw [z,e] at hl0;cases hl0
    refine⟨_,rfl,_,rfl,p,4,rfl,o5,by decide,by decide,fun r5 G6 q6 o6 f0 f1=>?_⟩
    have e6:=q6 l0 _ (by simpa using l0p) e5
    obtain⟨need,hz,_,ez⟩:=atI_ints (zs:=[1 + r1,1 + r2,10 ^ 12 - r3,1 + r4]) (i:=r5) (by omega) (by simp;omega)
    have hneed:1<=need/\need<=10 ^ 12:=by simp at hz;omega
    obtain⟨n0,n1⟩:=hneed
    refine .inl ⟨l0,_,_,_,rfl,rfl,SqL.of e6,ez,?_⟩
    have m1:Mo [p] H G6:=q1.trans (q2.trans (q3.trans (q4.trans ((Mo.of q5).trans q6))))
    refine fun d H2 hd s2 e2=>?_
    have hdp:d≠p:=fun z=>by obtain⟨_,e,_⟩:=o6;rw [z,e] at hd;cases hd
    have p2:=o6.same s2
    refine⟨_,rfl,p,9,rfl,p2,by decide,by decide,fun cnt H3 m3 p3 c0 c1=>?_⟩
    have e3:H3 d = some (.dK (vv [])):=m3 d _ (by simpa using hdp) e2
    refine⟨cnt,rfl,by omega,by omega,for_range (fun i σ G=>∃ (ks:Qs) (wy:Int) (x5 x6 x7:Option V),Tab ks wy/\ks.length<=i/\G d = some (.dK (vv ks))/\Pool G p/\Mo [p,d] H3 G/\
     σ = [some (.ref p),some (.int mw),some (.int need),some (.ref d),some (.int wy),x5,x6,x7]) ⟨[],1,none,none,none,⟨by simp,fun q hq=>(nomatch hq),by decide,rfl,by decide,by decide⟩,Nat.le_refl _,e3,p3,Mo.refl,rfl⟩ ?_ ?_⟩
    · rintro i σ G hi ⟨ks,wy,x5,x6,x7,tab,hkl,eG,pG,mG,rfl⟩
      have hi9:i < 9:=by omega
      refine⟨_,rfl,_,rfl,p,need,rfl,pG,n0,n1,fun sz G1 n1' o1 z0 z1=>?_⟩
      refine⟨_,rfl,p,3,rfl,o1,by decide,by decide,fun r1 G2 n2 o2 a0 a1=>?_⟩
      refine⟨_,rfl,p,8,rfl,o2,by decide,by decide,fun r2 G3 n3 o3 b0 b1=>?_⟩
      refine⟨_,rfl,p,60,rfl,o3,by decide,by decide,fun r3 G4 n4 o4 c0 c1=>?_⟩
      refine⟨lenLe (n:=3) rfl (by decide),fun l1 G5 hl1 n5 e5=>?_⟩
      have o5:=o4.same n5
      have l1p:l1≠p:=fun z=>by obtain⟨_,e,_⟩:=o4;rw [z,e] at hl1;cases hl1
      refine⟨_,rfl,p,6,rfl,o5,by decide,by decide,fun r5 G6 n6 o6 f0 f1=>?_⟩
      refine⟨_,_,rfl,rfl,divB (by decide) (by decide),?_⟩
      refine⟨_,_,rfl,rfl,(show (0:Int) < 3 by decide),?_⟩
      have e6:=n6 l1 _ (by simpa using l1p) e5
      obtain⟨z,hz,_,ez⟩:=atI_ints (zs:=[r1,r2,r3]) (i:=r5 / 2 % 3) (by omega) (by simp;omega)
      have hz':0<=z/\z < 60:=by simp at hz;omega
      refine .inl ⟨l1,_,_,_,rfl,rfl,SqL.of e6,ez,.inl ⟨_,_,rfl,rfl,?_⟩⟩
      have mG':Mo [p] G G6:=n1'.trans (n2.trans (n3.trans (n4.trans ((Mo.of n5).trans n6))))
      have eD:=mG' d _ (by simpa using hdp) eG
      have hvl:(vv ks).length = ks.length:=by unfold vv;rw [List.length_map]
      have m5:Mo [p,d] H3 G6:=mG.trans (mG'.more (by simp))
      have tw1:=tab.w1
      have tw2:=tab.w2
      have skip:∀ G7,L2.Same G6 G7->∃ (ks':Qs) (wy':Int) (x5 x6 x7:Option V),Tab ks' wy'/\ks'.length<=i + 1/\G7 d = some (.dK (vv ks'))/\Pool G7 p/\Mo [p,d] H3 G7/\[some (V.ref p),some (.int mw),some (.int need),some (.ref d),some (.int wy),some (.int (0 + (i:Int))),some (.int sz),some (.int (1 + z))] = [some (.ref p),some (.int mw),some (.int need),some (.ref d),some (.int wy'),x5,x6,x7]:=fun G7 s7=>⟨ks,wy,_,_,_,tab,by omega,s7 _ _ eD,o6.same s7,m5.trans (Mo.of s7),rfl⟩
      refine⟨_,?_,fun _ _ h=>h⟩
      refine⟨_,rfl,_,rfl,d,_,rfl,DGet.k (k:=.inl sz) eD,_,rfl,ite2 (fun hc=>?_) (fun _=>skip _ (L2.Same.refl _))⟩
      have hln:look ks sz = none:=by
       rw [val_vv] at hc
       cases hq:look ks sz with
       | none=>rfl
       | some c=>rw [hq] at hc;cases hc
      refine⟨_,rfl,_,rfl,.inl ⟨_,_,rfl,rfl,_,_,rfl,rfl,CMulB.ok (mulB (by omega) (by omega)),_,rfl,_,_,rfl,rfl,_,rfl,ite2 (fun hw=>?_) (fun _=>skip _ (L2.Same.refl _))⟩⟩
      have hw:=of_decide_eq_true hw
      refine⟨_,rfl,d,_,rfl,eD,fun v G7 nv s7 ev=>?_⟩
      refine⟨v,d,vv ks,ks.map (·.2),rfl,ev,s7 _ _ eD,by unfold vv;rw [List.map_map,List.map_map];rfl,?_⟩
      have hsk:(ks.map (·.2)).sum = total ks:=rfl
      refine⟨_,rfl,.inl ⟨_,_,rfl,rfl,_,_,rfl,rfl,_,rfl,ite2 (fun hs=>?_) (fun _=>skip _ s7)⟩⟩
      have hs:=of_decide_eq_true hs
      have eD7:=s7 _ _ eD
      refine⟨_,rfl,_,rfl,_,rfl,d,_,rfl,DPut.k (k:=.inl sz) eD7 (by rw [hvl,hsz];omega),?_⟩
      refine⟨_,rfl,_,rfl,.inl ⟨_,_,rfl,rfl,_,_,rfl,rfl,CMulB.ok (mulB (by omega) (by omega)),?_⟩⟩
      rw [put_new hln]
      refine⟨ks ++ [(sz,1 + z)],_,_,_,_,tab.add hln z0 z1 (by omega) (by omega) (by omega) (by omega),by rw [List.length_append];simp;omega,upd_same,?_,(m5.trans (Mo.of s7)).trans (Mo.put (by simp)),rfl⟩
      obtain⟨x,e,q⟩:=o6
      exact⟨x,by rw [upd_ne (Ne.symm hdp)];exact s7 _ _ e,q⟩
    · rintro σ G ⟨ks,wy,x5,x6,x7,tab,hkl,eG,pG,mG,rfl⟩
      have hk8:ks.length<=8:=by omega
      have eI:vv ks = ikv (ks.map fun q=>(q.1,V.int q.2)):=by unfold vv ikv;rw [List.map_map];rfl
      refine⟨_,rfl,_,rfl,.inl ⟨d,ks.map fun q=>(q.1,V.int q.2),rfl,by rw [eG,eI],by rw [List.length_map];omega,fun l ns H9 hl s9 e9 perm pw=>?_⟩⟩
      have perm:ns.Perm (ks.map (·.1)):=by rw [List.map_map] at perm;exact perm
      have hnl:ns.length = ks.length:=by rw [perm.length_eq,List.length_map]
      have e9d:=s9 _ _ eG
      refine⟨l,rfl,.inl ⟨⟨_,SqL.of e9⟩,?_⟩⟩
      refine cmp_list (K:=K) (a:=l) (xs:=ns.map V.int) (fun i ys σ H2=>L2.Same H9 H2/\∃ (x:Option V),ys.length = i/\Kinds H2 ys ((ns.take i).map fun n=>(n,(look ks n).getD 0))/\
       σ = [x,some (.ref p),some (.int mw),some (.int need),some (.ref d),some (.int wy),x5,x6,x7])
       ⟨L2.Same.refl _,none,rfl,⟨rfl,fun i v e=>by simp at e⟩,rfl⟩ (by rw [List.length_map];omega) (fun i ys σ H2 _ ⟨sh,x,hy,_⟩=>⟨SqL.of (sh _ _ e9),by omega⟩) ?_ ?_
      · rintro i x ys σ H2 N hx ⟨sh,x0,hy,hk,rfl⟩ hN
        rw [List.getElem?_map] at hx
        obtain⟨n,hn,rfl⟩:=Option.map_eq_some_iff.mp hx
        obtain⟨c,hc⟩:=look_mem (perm.mem_iff.mp (List.mem_of_getElem? hn))
        have dg:DGet H2 d (.int n) (some (.int c)):=by
         have:=DGet.k (k:=.inl n) (sh _ _ e9d)
         rw [val_vv,hc] at this;exact this
        refine⟨_,rfl,_,rfl,_,rfl,d,.int c,rfl,dg,?_⟩
        refine⟨lenLe (n:=2) rfl (by decide),fun r H3' hr s3' e3'=>hN _ _ _ ⟨sh.trans s3',_,by rw [List.length_append,hy];rfl,?_,rfl⟩⟩
        rw [List.take_add_one,hn,List.map_append]
        have hk1:=hk.1
        refine⟨by rw [List.length_append,List.length_append,hk1];rfl,fun j u e=>?_⟩
        by_cases hj:j < ys.length
        · rw [List.getElem?_append_left hj] at e
          obtain⟨q,h1,r',h2,h3⟩:=hk.2 j u e
          exact⟨q,by rw [List.getElem?_append_left (by rw [<- hk1];exact hj)];exact h1,r',h2,s3' _ _ h3⟩
        · rw [List.getElem?_append_right (by omega)] at e
          have hj0:j - ys.length = 0:=by
           by_cases z:j - ys.length = 0
           · exact z
           · rw [List.getElem?_eq_none (by simp;omega)] at e;cases e
          rw [hj0] at e
          simp at e
          subst e
          refine⟨(n,c),?_,r,rfl,e3'⟩
          rw [List.getElem?_append_right (by rw [<- hk1];omega),<- hk1,hj0]
          show some (n,(look ks n).getD 0) = _
          rw [hc];rfl
      · rintro ys σ H2 ⟨sh,x0,hy,hk,rfl⟩ pl H11 hpl s11 e11
        rw [List.length_map,List.take_length] at hk
        refine⟨pl,_,rfl,SqL.of e11,fun t ob2 H12 ht hb2 s12 e12=>?_⟩
        refine⟨lenLe (n:=2) rfl (by decide),fun hq' H13 hh s13 e13=>?_⟩
        have sA:L2.Same G H13:=s9.trans (sh.trans (s11.trans (s12.trans s13)))
        have pq:(ns.map fun n=>(n,(look ks n).getD 0)).Perm ks:=by
         have:=perm.map fun n=>(n,(look ks n).getD 0)
         rw [List.map_map] at this
         have e:ks.map ((fun n=>(n,(look ks n).getD 0)) ∘ fun q:Int×Int=>q.1) = ks:=look_pairs tab.nd
         rw [e] at this;exact this
        refine h hq' need (ns.map fun n=>(n,(look ks n).getD 0)) H13 (fun b o n e=>?_) (pG.same sA) ⟨t,ys,e13,⟨ob2,hb2,s13 _ _ e12⟩,hk.mo (ps:=[]) (fun b o e _=>s13 _ _ (s12 _ _ (s11 _ _ e))),by rw [List.length_map,hnl];omega,n0,n1,fun q hq=>?_⟩ ?_ ?_ (by have:=(sort_keys tab.nd perm pw).1;simp only [<- look_d] at this;exact this) (by rw [List.length_map,hnl];exact hk8)
        · have e1:=m1 b o n e
          have hbd:b≠d:=ne_of_none e1 hd
          refine sA _ _ (mG b o (fun z=>?_) (m3 b o n (s2 _ _ e1)))
          simp only [List.mem_cons,List.mem_nil_iff,or_false] at z
          rcases z with z | z
          · exact n (by simp [z])
          · exact hbd z
        · obtain⟨b1,b2,b3,b4⟩:=tab.bd q (pq.mem_iff.mp hq)
          exact⟨b1,b2,b3,by omega⟩
        · rw [perm_sum (pq.map (·.2))];exact tab.sum
        · rw [prodc_perm pq,tab.prod];exact tab.w2
end
def ext (m:Nat) (w:List Int):List (List Int):=(List.range (m + 1)).map fun t:Nat=>w ++ [(t:Int)]
theorem ext_len (m:Nat) (w:List Int):(ext m w).length = m + 1:=by unfold ext;simp
theorem ext_at (w:List Int) (h:t<=m):(ext m w)[t]? = some (w ++ [(t:Int)]):=by
 unfold ext;rw [List.getElem?_map,List.getElem?_range (by omega)];rfl
def step (acc:List (List Int)) (m:Nat):List (List Int):=acc.flatMap (ext m)
def waysL (ms:List Nat):List (List Int):=ms.foldl step [[]]
theorem waysL_take {ms:List Nat} (h:ms[n]? = some m):waysL (ms.take (n + 1)) = (waysL (ms.take n)).flatMap (ext m):=by
 unfold waysL
 rw [List.take_add_one,h,List.foldl_append];rfl
theorem step_len (m:Nat):∀ acc:List (List Int),(step acc m).length = acc.length * (m + 1)
 | []=>by simp [step]
 | a :: acc=>by
  have ih:=step_len m acc
  unfold step at ih ⊢
  rw [List.flatMap_cons,List.length_append,ih,ext_len,List.length_cons,Nat.succ_mul,Nat.add_comm]
def prodN:List Nat->Nat
 | []=>1
 | m :: ms=>(m + 1) * prodN ms
theorem ways_len:∀ (ms:List Nat) (acc:List (List Int)),(ms.foldl step acc).length = acc.length * prodN ms
 | [],acc=>by simp [prodN]
 | m :: ms,acc=>by
  rw [List.foldl_cons,ways_len ms _,step_len,Nat.mul_assoc];rfl
theorem prodN_pos:∀ ms:List Nat,1<=prodN ms
 | []=>Nat.le_refl _
 | m :: ms=>Nat.mul_le_mul (Nat.succ_le_succ (Nat.zero_le m)) (prodN_pos ms)
theorem prodN_take:∀ (ms:List Nat) (n:Nat),prodN (ms.take n)<=prodN ms
 | [],n=>by simp
 | m :: ms,0=>prodN_pos _
 | m :: ms,n + 1=>Nat.mul_le_mul_left _ (prodN_take ms n)
theorem le_prodN:∀ {ms:List Nat}{m:Nat},m∈ms->m + 1<=prodN ms
 | a :: ms,m,h=>by
  rcases List.mem_cons.mp h with e | e
  · subst e;exact Nat.le_mul_of_pos_right _ (prodN_pos ms)
  · exact Nat.le_trans (le_prodN e) (Nat.le_mul_of_pos_left _ (Nat.succ_pos a))
theorem fm_get (ht:t<=m):∀ {acc:List (List Int)}{i:Nat}{w:List Int},acc[i]? = some w->(acc.flatMap (ext m))[i * (m + 1) + t]? = some (w ++ [(t:Int)])
 | a :: acc,0,w,h=>by
  simp at h;subst h
  rw [List.flatMap_cons,List.getElem?_append_left (by rw [ext_len];omega),Nat.zero_mul,Nat.zero_add]
  exact ext_at a ht
 | a :: acc,i + 1,w,h=>by
  have ih:=fm_get ht (i:=i) (by simpa using h)
  rw [List.flatMap_cons,List.getElem?_append_right (by rw [ext_len,Nat.succ_mul];omega),ext_len,Nat.succ_mul,show i * (m + 1) + (m + 1) + t - (m + 1) = i * (m + 1) + t by omega]
  exact ih
theorem fm_inv:∀ {acc:List (List Int)}{k:Nat}{u:List Int},(acc.flatMap (ext m))[k]? = some u->∃ i t w,t<=m/\acc[i]? = some w/\u = w ++ [(t:Int)]/\k = i * (m + 1) + t
 | [],k,u,h=>by simp at h
 | a :: acc,k,u,h=>by
  rw [List.flatMap_cons] at h
  by_cases hk:k < m + 1
  · rw [List.getElem?_append_left (by rw [ext_len];exact hk),ext_at a (by omega)] at h
    cases h
    exact⟨0,k,a,by omega,rfl,rfl,by omega⟩
  · rw [List.getElem?_append_right (by rw [ext_len];omega),ext_len] at h
    obtain⟨i,t,w,h1,h2,h3,h4⟩:=fm_inv h
    exact⟨i + 1,t,w,h1,by simpa using h2,h3,by grind⟩
structure WOk (ms:List Nat) (n:Nat):Prop where
 len:∀ (i:Nat) w,(waysL (ms.take n))[i]? = some w->w.length = n
 bd:∀ (i:Nat) w (j:Nat) (x:Int),(waysL (ms.take n))[i]? = some w->w[j]? = some x->0<=x/\∃ m,ms[j]? = some m/\x<=m
 prev:∀ (i:Nat) w (j:Nat) (x:Int),(waysL (ms.take n))[i]? = some w->w[j]? = some x->0 < x->∃ i':Nat,i' < i/\(waysL (ms.take n))[i']? = some (w.set j (x - 1))
 all:∀ w:List Int,w.length = n->(∀ (j:Nat) (x:Int),w[j]? = some x->0<=x/\∃ m,ms[j]? = some m/\x<=m)->∃ i:Nat,(waysL (ms.take n))[i]? = some w
theorem ways_ok (ms:List Nat):∀ n,n<=ms.length->WOk ms n
 | 0,_=>by
  have e:waysL (ms.take 0) = [[]]:=rfl
  refine⟨fun i w h=>?_,fun i w j x h h2=>?_,fun i w j x h h2=>?_,fun w h _=>⟨0,?_⟩⟩
  · rw [e] at h;cases i with
    | zero=>simp at h;rw [h];rfl
    | succ i=>simp at h
  · rw [e] at h;cases i with
    | zero=>simp at h;rw [h] at h2;simp at h2
    | succ i=>simp at h
  · rw [e] at h;cases i with
    | zero=>simp at h;rw [h] at h2;simp at h2
    | succ i=>simp at h
  · rw [e,List.length_eq_zero_iff.mp h];rfl
 | n + 1,hn=>by
  obtain⟨m,hm⟩:∃ m,ms[n]? = some m:=⟨_,List.getElem?_eq_getElem (by omega)⟩
  have ih:=ways_ok ms n (by omega)
  have e:=waysL_take hm
  refine⟨fun k u h=>?_,fun k u j x h h2=>?_,fun k u j x h h2 h0=>?_,fun u hu hb=>?_⟩
  · rw [e] at h
    obtain⟨i,t,w,h1,h2,rfl,rfl⟩:=fm_inv h
    rw [List.length_append,ih.len i w h2];rfl
  · rw [e] at h
    obtain⟨i,t,w,h1,hw,rfl,rfl⟩:=fm_inv h
    have hl:=ih.len i w hw
    by_cases hj:j < n
    · rw [List.getElem?_append_left (by omega)] at h2
      exact ih.bd i w j x hw h2
    · have hj:j = n:=by have:=(List.getElem?_eq_some_iff.mp h2).1;rw [List.length_append,hl] at this;simp at this;omega
      subst hj
      rw [List.getElem?_append_right (by omega),hl,Nat.sub_self] at h2
      simp at h2
      exact⟨by omega,m,hm,by omega⟩
  · rw [e] at h ⊢
    obtain⟨i,t,w,h1,hw,rfl,rfl⟩:=fm_inv h
    have hl:=ih.len i w hw
    by_cases hj:j < n
    · rw [List.getElem?_append_left (by omega)] at h2
      obtain⟨i',hi',hw'⟩:=ih.prev i w j x hw h2 h0
      refine⟨i' * (m + 1) + t,?_,?_⟩
      · have:(i' + 1) * (m + 1)<=i * (m + 1):=Nat.mul_le_mul_right _ hi'
        rw [Nat.succ_mul] at this;omega
      · rw [fm_get h1 hw',List.set_append_left _ _ (by omega)]
    · have hj:j = n:=by have:=(List.getElem?_eq_some_iff.mp h2).1;rw [List.length_append,hl] at this;simp at this;omega
      subst hj
      rw [List.getElem?_append_right (by omega),hl,Nat.sub_self] at h2
      simp at h2
      refine⟨i * (m + 1) + (t - 1),by omega,?_⟩
      rw [fm_get (by omega) hw,List.set_append_right _ _ (by omega),hl,Nat.sub_self]
      simp
      omega
  · have hlt:n < u.length:=by omega
    obtain⟨x,hx⟩:∃ x,u[n]? = some x:=⟨_,List.getElem?_eq_getElem hlt⟩
    obtain⟨x0,m',hm',x1⟩:=hb n x hx
    rw [hm] at hm';cases hm'
    obtain⟨i,hi⟩:=ih.all (u.take n) (by rw [List.length_take];omega) fun j y hy=>by
     have hjn:j < n:=by have:=(List.getElem?_eq_some_iff.mp hy).1;rw [List.length_take] at this;omega
     rw [List.getElem?_take_of_lt hjn] at hy
     exact hb j y hy
    refine⟨i * (m + 1) + x.toNat,?_⟩
    rw [e,fm_get (by omega) hi,Int.toNat_of_nonneg x0]
    have:u.take (n + 1) = u:=List.take_of_length_le (by omega)
    rw [List.take_add_one,hx] at this
    exact congrArg some this
inductive Al (H:Hp):List Addr->List (List Int)->Prop
 | nil:Al H [] []
 | cons {a:Addr}{w:List Int}{as:List Addr}{ws:List (List Int)}:H a = some (.tup (w.map V.int))->Al H as ws->Al H (a :: as) (w :: ws)
theorem Al.tu (m:Tu H H') (h:Al H as ws):Al H' as ws:=by
 induction h with
 | nil=>exact .nil
 | cons e _ ih=>exact .cons (m _ _ e ⟨_,rfl⟩) ih
theorem Al.app (h:Al H as ws) (k:Al H bs zs):Al H (as ++ bs) (ws ++ zs):=by
 induction h with
 | nil=>exact k
 | cons e _ ih=>exact .cons e ih
theorem Al.len (h:Al H as ws):as.length = ws.length:=by
 induction h with
 | nil=>rfl
 | cons _ _ ih=>simp_all
theorem Al.get (h:Al H as ws):∀ {i:Nat}{a:Addr},as[i]? = some a->∃ w,ws[i]? = some w/\H a = some (.tup (w.map V.int)):=by
 induction h with
 | nil=>intro i a e;simp_all
 | cons e _ ih=>
  intro i a h
  cases i with
  | zero=>simp_all
  | succ i=>exact ih (by assumption)
section
local macro_rules | `(tactic| wtm_at "op")=>`(tactic| apply o_addB)
abbrev sWays:Stmt:=top 46
def cnts (qs:Qs):List Nat:=qs.map fun q=>q.2.toNat
theorem scWays:FnScope ["heap","found","size","many","longer","way"] ["heap"] (defScope sWays):=by wtm_at "sc"
def spWays:Sp:=fun vs H Q _=>∃ (hh:Addr) (need:Int) (qs:Qs),vs = [.ref hh]/\HeapAt H hh need qs/\prodN (cnts qs)<=2000/\
 ∀ (l:Addr) (as:List Addr) (H':Hp),H l = none->L2.Same H H'->H' l = some (.lst (as.map V.ref))->Al H' as (waysL (cnts qs))->as.length<=2000->Q (.ref l) H'
theorem ways_few (h:prodN ms<=2000):(waysL (ms.take n)).length<=2000:=by
 unfold waysL
 rw [ways_len,List.length_singleton,Nat.one_mul]
 exact Nat.le_trans (prodN_take ms n) h
theorem ok_ways (F:Fun K "_law_ways" "_law_ways" sWays Z fd) (mR:mg "range" = none):FnOk P W K mg base CX0 1 Z fd ["heap"] spWays:=by
 refine Br.Fun.j F scWays (fun vs H Q E h=>?_) (fun _ A _ s H vs Q E hr h=>?_)
 · obtain⟨_,_,_,rfl,_⟩:=h;rfl
 · obtain⟨hh,need,qs,rfl,hhp,hsum,h⟩:=h
   obtain⟨t,us,hh1,ht,hk,hl8,-,-,hq⟩:=hhp
   have nd:=scWays.nd
   have hsz:=sizeLine_eq
   have hkl:=hk.1
   refine' ⟨_,?d,?r⟩
   case d=>wtm_at "body"
   case r=>
    refine⟨by simp,fun u0 H1 n0 s1 e1=>?_⟩
    refine⟨lenLe (n:=1) rfl (by decide),fun l0 H2 n2 s2 e2=>?_⟩
    refine⟨_,rfl,.inr (.inl ⟨hh,_,1,_,rfl,rfl,SqT.of ((s1.trans s2) _ _ hh1),(show atI [V.int need,V.ref t] 1 = some (.ref t) from rfl),?_⟩)⟩
    refine⟨t,rfl,.inr ⟨⟨_,(ht.same (s1.trans s2)).sq⟩,?_⟩⟩
    refine for_tup (K:=K) (a:=t) (xs:=us) (fun i σ G=>L2.Same H G/\∃ (l:Addr) (as:List Addr) (x2 x3 x4 x5:Option V),H l = none/\G l = some (.lst (as.map V.ref))/\Al G as (waysL ((cnts qs).take i))/\σ = [some (.ref hh),some (.ref l),x2,x3,x4,x5])
     ⟨s1.trans s2,l0,[u0],none,none,none,none,?_,e2,.cons (s2 _ _ e1) .nil,rfl⟩ (fun i σ G _ ⟨sh,_⟩=>(ht.same sh).sq) ?_ ?_
    · cases hq:H l0 with
      | none=>rfl
      | some o=>have:=s1 _ _ hq;rw [n2] at this;cases this
    · rintro i x σ G hx ⟨sh,l,as,x2,x3,x4,x5,nl,eG,al,rfl⟩
      obtain⟨q,hqi,r,rfl,hrr⟩:=hk.2 i x hx
      have hci:(cnts qs)[i]? = some q.2.toNat:=by unfold cnts;rw [List.getElem?_map,hqi];rfl
      have hq1:=(hq q (List.mem_of_getElem? hqi)).2.2.1
      have hq14:q.2<=2000:=by
       have:=le_prodN (List.mem_of_getElem? hci)
       omega
      have hfew:=ways_few (n:=i) hsum
      have hfew1:=ways_few (n:=i + 1) hsum
      have hlen:=al.len
      refine⟨r,_,rfl,SqT.of (sh _ _ hrr),rfl,_,_,rfl,_,_,rfl,rfl,?_⟩
      refine⟨by simp,fun lg G1 nlg s1 e1=>?_⟩
      have nlgH:H lg = none:=by
       cases hq:H lg with
       | none=>rfl
       | some o=>have:=sh _ _ hq;rw [nlg] at this;cases this
      have lne:lg≠l:=fun z=>by rw [z,eG] at nlg;cases nlg
      refine⟨_,rfl,l,rfl,.inl ⟨⟨_,SqL.of (s1 _ _ eG)⟩,?_⟩⟩
      refine for_list (K:=K) (a:=l) (xs:=as.map V.ref) (fun j σ G=>L2.Same H G/\G l = some (.lst (as.map V.ref))/\Al G as (waysL ((cnts qs).take i))/\∃ (bs:List Addr) (x5:Option V),G lg = some (.lst (bs.map V.ref))/\Al G bs (((waysL ((cnts qs).take i)).take j).flatMap (ext q.2.toNat))/\
       σ = [some (.ref hh),some (.ref l),some (.int q.1),some (.int q.2),some (.ref lg),x5])
       ⟨sh.trans s1,s1 _ _ eG,al.tu (Tu.of s1),[],_,e1,.nil,rfl⟩ (fun j σ G _ ⟨_,e,_⟩=>SqL.of e) ?_ ?_
      · rintro j x σ G hx ⟨sh,eG,al,bs,x5,eB,ab,rfl⟩
        rw [List.getElem?_map] at hx
        obtain⟨a,ha,rfl⟩:=Option.map_eq_some_iff.mp hx
        obtain⟨w,hw,hwa⟩:=al.get ha
        have hbl:=ab.len
        refine⟨_,rfl,.inl ⟨rfl,_,SqL.of eB⟩,?_⟩
        refine⟨_,rfl,.inl ⟨_,_,rfl,rfl,q.2 + 1,rfl,by omega,by omega,?_⟩⟩
        refine cmp_range (lo:=0) (n:=(q.2 + 1).toNat) (fun k ys σ G'=>L2.Same G G'/\∃ (cs:List Addr) (x:Option V),ys = cs.map V.ref/\cs.length = k/\Al G' cs ((ext q.2.toNat w).take k)/\σ = [x,some (.ref hh),some (.ref l),some (.int q.1),some (.int q.2),some (.ref lg),some (.ref a)])
         ⟨L2.Same.refl _,[],none,rfl,rfl,.nil,rfl⟩ (by omega) (fun k ys σ G' _ ⟨_,cs,_,e1,e2,_⟩=>by rw [e1,List.length_map,e2];exact Nat.le_refl _) ?_ ?_
        · rintro k ys σ G' N hk' ⟨s',cs,x0,rfl,hcl,ac,rfl⟩ hN
          have hil:i < qs.length:=(List.getElem?_eq_some_iff.mp hqi).1
          have hwi:=(ways_ok (cnts qs) i (by unfold cnts;rw [List.length_map];omega)).len j w hw
          refine⟨_,rfl,_,rfl,lenLe (n:=1) rfl (by decide),fun u G2 nu s2 e2=>.inr ⟨a,u,_,_,rfl,rfl,s2 _ _ (s' _ _ hwa),e2,by rw [List.length_map,hwi,hsz];simp only [List.length_cons,List.length_nil];omega,fun pz G3 s3 e3=>hN _ _ _ ⟨s'.trans (s2.trans s3),cs ++ [pz],_,by rw [List.map_append];rfl,by rw [List.length_append,hcl];rfl,?_,rfl⟩⟩⟩
          rw [List.take_add_one,ext_at w (by omega)]
          refine (ac.tu (Tu.of (s2.trans s3))).app (.cons ?_ .nil)
          rw [e3,List.map_append,Int.zero_add];rfl
        rintro ys σ G' ⟨s',cs,x0,rfl,hcl,ac,rfl⟩ pc G2 npc s2 e2
        have hcl2:cs.length = q.2.toNat + 1:=by omega
        rw [List.take_of_length_le (by rw [ext_len];omega)] at ac
        have lgc:pc≠lg:=fun z=>by rw [z,s' _ _ eB] at npc;cases npc
        have eB2:=s2 _ _ (s' _ _ eB)
        have hb1:bs.length<=2000:=by
         have e1:=step_len q.2.toNat ((waysL ((cnts qs).take i)).take j)
         have e2:=step_len q.2.toNat (waysL ((cnts qs).take i))
         unfold step at e1 e2
         rw [waysL_take hci,e2] at hfew1
         rw [hbl,e1,List.length_take]
         exact Nat.le_trans (Nat.mul_le_mul_right _ (Nat.min_le_right _ _)) hfew1
        refine⟨lg,pc,_,_,rfl,rfl,eB2,e2,by rw [List.length_map,List.length_map,hsz];omega,?_⟩
        have tu:Tu G2 (upd G2 lg (.lst (bs.map V.ref ++ cs.map V.ref))):=fun c o e ⟨xs,ho⟩=>by
         rw [upd_ne (fun z=>by rw [z,eB2] at e;cases e;cases ho)];exact e
        refine⟨fun c o e=>?_,?_,((al.tu (Tu.of (s'.trans s2))).tu tu),bs ++ cs,_,by rw [upd_same,List.map_append],?_,rfl⟩
        · rw [upd_ne (ne_of_none e nlgH)];exact s2 _ _ (s' _ _ (sh _ _ e))
        · rw [upd_ne (Ne.symm lne)];exact s2 _ _ (s' _ _ eG)
        · rw [List.take_add_one,hw,List.flatMap_append]
          refine ((ab.tu (Tu.of (s'.trans s2))).tu tu).app ?_
          show Al _ cs (List.flatMap (ext q.2.toNat) [w])
          rw [List.flatMap_cons,List.flatMap_nil,List.append_nil]
          exact (ac.tu (Tu.of s2)).tu tu
      · rintro σ G ⟨sh,eG,al,bs,x5,eB,ab,rfl⟩
        rw [List.length_map,hlen,List.take_length,<- waysL_take hci] at ab
        exact⟨_,rfl,sh,lg,bs,_,_,_,_,nlgH,eB,ab,rfl⟩
    · rintro σ G ⟨sh,l,as,x2,x3,x4,x5,nl,eG,al,rfl⟩
      rw [hkl,List.take_of_length_le (by unfold cnts;rw [List.length_map];exact Nat.le_refl _)] at al
      have:=ways_few (ms:=cnts qs) (n:=(cnts qs).length) hsum
      rw [List.take_length] at this
      exact⟨_,rfl,h l as G nl sh eG al (by rw [al.len];exact this)⟩
end
section
local macro_rules | `(tactic| wtm_at "ps")=>`(tactic| first | (apply s_augM;(wtm_at "at");(assumption);(first | exact .inl rfl | exact .inr rfl | rfl);(rfl);(wtm_at "pe")))
abbrev sNWays:Stmt:=top 25
theorem prodc_pos:∀ {ks:Qs},(∀ q∈ks,1<=q.2)->1<=prodc ks
 | [],_=>by decide
 | q :: ks,h=>by
  have ih:=prodc_pos fun x hx=>h x (.tail _ hx)
  have:=h q (.head _)
  have:1 * 1<=(q.2 + 1) * prodc ks:=Int.mul_le_mul (by omega) ih (by decide) (by omega)
  assumption
theorem prodc_le:∀ (qs:Qs) (n:Nat),(∀ q∈qs,1<=q.2)->prodc (qs.take n)<=prodc qs:=fun qs n h=>by
 have app:∀ l r,prodc (l ++ r) = prodc l * prodc r:=fun l r=>by
  induction l with
  | nil=>show prodc r = 1 * prodc r;omega
  | cons q l ih=>show _ * prodc (l ++ r) = _ * prodc l * prodc r;rw [ih,Int.mul_assoc]
 have e:=app (qs.take n) (qs.drop n)
 rw [List.take_append_drop] at e
 have p1:=prodc_pos (ks:=qs.take n) fun q hq=>h q (List.mem_of_mem_take hq)
 have p2:=prodc_pos (ks:=qs.drop n) fun q hq=>h q (List.mem_of_mem_drop hq)
 have:=Int.mul_le_mul_of_nonneg_left p2 (show 0<=prodc (qs.take n) by omega)
 omega
theorem scNWays:FnScope ["kinds","ways","size","many"] ["kinds"] (defScope sNWays):=by wtm_at "sc"
def spNWays (K:PySem.W.Frag):Sp:=fun vs H Q _=>∃ (t:Addr) (us:List V) (qs:Qs),vs = [.ref t]/\SqT K H t us/\Kinds H us qs/\(∀ q∈qs,1<=q.2/\q.2<=10 ^ 12)/\prodc qs<=10 ^ 110/\Q (.int (prodc qs)) H
theorem ok_nways (F:Fun K "number_of_ways" "number_of_ways" sNWays Z fd):FnOk P W K mg base CX0 1 Z fd ["kinds"] (spNWays K):=by
 refine Br.Fun.j F scNWays (fun vs H Q E h=>?_) (fun _ A _ s H vs Q E hr h=>?_)
 · obtain⟨_,_,_,rfl,_⟩:=h;rfl
 · obtain⟨t,us,qs,rfl,ht,hk,hq,hp,h⟩:=h
   have nd:=scNWays.nd
   have hkl:=hk.1
   refine' ⟨_,?d,?r⟩
   case d=>wtm_at "body"
   case r=>
    refine⟨_,rfl,t,rfl,.inr ⟨⟨_,ht⟩,?_⟩⟩
    refine for_tup (K:=K) (a:=t) (xs:=us) (fun i σ G=>G = H/\∃ x2 x3:Option V,σ = [some (.ref t),some (.int (prodc (qs.take i))),x2,x3]) ⟨rfl,none,none,rfl⟩ (fun i σ G _ ⟨e,_⟩=>by rw [e];exact ht) ?_ ?_
    · rintro i x σ G hx ⟨rfl,x2,x3,rfl⟩
      obtain⟨q,hqi,r,rfl,hrr⟩:=hk.2 i x hx
      obtain⟨q1,q2⟩:=hq q (List.mem_of_getElem? hqi)
      have b1:=prodc_pos (ks:=qs.take i) fun x hx=>(hq x (List.mem_of_mem_take hx)).1
      have b2:=prodc_le qs i fun x hx=>(hq x hx).1
      refine⟨r,_,rfl,SqT.of hrr,rfl,_,_,rfl,_,_,rfl,rfl,?_⟩
      refine⟨_,rfl,_,rfl,.inl ⟨_,_,rfl,rfl,_,_,rfl,rfl,CMulB.ok (mulH (by omega) (by omega) (by omega) (by omega)),rfl,some (.int q.1),some (.int q.2),?_⟩⟩
      rw [List.take_add_one,hqi,show (some q).toList = [q] from rfl,prodc_app];rfl
    · rintro σ G ⟨rfl,x2,x3,rfl⟩
      rw [hkl,List.take_length]
      exact⟨_,rfl,h⟩
end
section
local macro_rules | `(tactic| wtm_at "ps")=>`(tactic| fail)
abbrev sNThings:Stmt:=top 13
abbrev sRefuse:Stmt:=top 14
theorem scNThings:FnScope ["heap"] ["heap"] (defScope sNThings):=⟨rfl,rfl,rfl,by simp,rfl,by decide +kernel,by decide +kernel⟩
def spNThings:Sp:=fun vs H Q _=>∃ (h:Addr) (need:Int) (qs:Qs),vs = [.ref h]/\HeapAt H h need qs/\∀ H',L2.Same H H'->Q (.int (qs.map (·.2)).sum) H'
theorem ok_nthings (F:Fun K "number_of_things" "number_of_things" sNThings Z fd) (mU:mg "sum" = none):FnOk P W K mg base CX0 1 Z fd ["heap"] spNThings:=by
 refine Br.Fun.j F scNThings (fun vs H Q E h=>?_) (fun _ A _ s H vs Q E hr h=>?_)
 · obtain⟨_,_,_,rfl,_⟩:=h;rfl
 · obtain⟨hp,need,qs,rfl,⟨t,us,h1,h2,h3,h4,h5,h6,h7⟩,h⟩:=h
   have nd:=scNThings.nd
   have hul:=h3.1
   have hsz:=sizeLine_eq
   refine' ⟨_,?d,?r⟩
   case d=>wtm_at "body"
   case r=>
    refine⟨_,rfl,.inr (.inl ⟨hp,_,_,_,rfl,rfl,SqT.of h1,(rfl),?_⟩)⟩
    refine⟨t,rfl,.inr ⟨⟨_,h2.sq⟩,?_⟩⟩
    refine cmp_tup (K:=K) (a:=t) (xs:=us) (fun j ys σ G=>G = H/\ys = (qs.take j).map (fun q=>V.int q.2)/\∃ x y:Option V,σ = [x,y,some (.ref hp)])
     ⟨rfl,rfl,none,none,rfl⟩ (by rw [hul];omega) (fun j ys σ G _ ⟨e1,e2,_⟩=>⟨by rw [e1];exact h2.sq,by rw [e2,List.length_map,List.length_take];omega⟩) ?_ ?_
    · rintro j x ys σ G N hx ⟨rfl,rfl,x0,y0,rfl⟩ hN
      obtain⟨q,hq,r,rfl,hrr⟩:=h3.2 j x hx
      refine⟨r,_,rfl,SqT.of hrr,rfl,_,_,rfl,_,_,rfl,rfl,?_⟩
      refine⟨_,rfl,hN _ _ _ ⟨rfl,?_,_,_,rfl⟩⟩
      rw [List.take_add_one,hq,List.map_append];rfl
    rintro ys σ G ⟨eG,rfl,x0,y0,rfl⟩ pl G1 hpl s1 e1
    rw [eG] at s1
    rw [hul,List.take_length,show qs.map (fun q=>V.int q.2) = (qs.map (·.2)).map V.int by rw [List.map_map];rfl] at e1
    exact⟨pl,_,rfl,.inl (SqL.of e1),h G1 s1⟩
end
section
local macro_rules | `(tactic| wtm_at "ps")=>`(tactic| (apply s_if;(wtm_at "pt");(apply ss_cons;(apply s_dead);(apply ss_nil));(wtm_at "pss")))
theorem scRefuse:FnScope ["heap","most"] ["heap","most"] (defScope sRefuse):=by wtm_at "sc"
def spRefuse:Sp:=fun vs H Q _=>∃ (h:Addr) (need:Int) (qs:Qs),vs = [.ref h,.int 60]/\HeapAt H h need qs/\(qs.map (·.2)).sum<=60/\∀ H',L2.Same H H'->Q .non H'
theorem ok_refuse (F:Fun K "refuse_above" "refuse_above" sRefuse Z fd) (cN:Callee CX0 P W K mg base "number_of_things" 1 ["heap"] spNThings):FnOk P W K mg base CX0 2 Z fd ["heap","most"] spRefuse:=by
 refine Br.Fun.j F scRefuse (fun vs H Q E h=>?_) (fun _ A _ s H vs Q E hr h=>?_)
 · obtain⟨_,_,_,rfl,_⟩:=h;rfl
 · obtain⟨hp,need,qs,rfl,hh,hs,h⟩:=h
   refine' ⟨_,?d,?r⟩
   case d=>wtm_at "body"
   case r=>
    refine⟨_,?_,fun _ _ h=>h⟩
    refine⟨_,rfl,hp,need,qs,rfl,hh,fun H1 s1=>?_⟩
    refine⟨_,rfl,_,_,rfl,rfl,_,rfl,ite2 (fun hc=>absurd (of_decide_eq_true hc) (by omega)) (fun _=>?_)⟩
    exact h H1 s1
end
theorem ss_dead:JSs X sts (fun _ _ _=>False):=⟨fun _ _ _ _ _ _ h=>False.elim h⟩
section
local macro_rules | `(tactic| wtm_at "ps")=>`(tactic| fail)
local macro_rules | `(tactic| wtm_at "pe")=>`(tactic| (apply j_fs3;(decide +kernel);(wtm_at "pe")))
def spRefuseX (C:Addr):Sp:=fun vs H Q E=>∃ (h:Addr) (need:Int) (qs:Qs),vs = [.ref h,.int 60]/\HeapAt H h need qs/\(60 < (qs.map (·.2)).sum->∀ H',L2.Same H H'->E (.ref C) none H')/\((qs.map (·.2)).sum<=60->∀ H',L2.Same H H'->Q .non H')
theorem ok_refuseX (F:Fun K "refuse_above" "refuse_above" sRefuse Z fd) (eR:ECls K mg "TooMany" C B) (cN:Callee CX0 P W K mg base "number_of_things" 1 ["heap"] spNThings):FnOk P W K mg base (CXF P W) 2 Z fd ["heap","most"] (spRefuseX C):=by
 refine Br.Fun.jX F scRefuse (fun vs H Q E h=>?_) (fun _ A _ s H vs Q E hr h=>?_)
 · obtain⟨_,_,_,rfl,_⟩:=h;rfl
 · obtain⟨hp,need,qs,rfl,hh,hX,h⟩:=h
   refine' ⟨_,?d,?r⟩
   case d=>wtm_at "body"
   case r=>
    refine⟨_,?_,fun _ _ h=>h⟩
    refine⟨_,rfl,hp,need,qs,rfl,hh,fun H1 s1=>?_⟩
    refine⟨_,rfl,_,_,rfl,rfl,_,rfl,ite2 (fun hc=>?_) (fun hc=>?_)⟩
    · refine⟨_,rfl,60,rfl,by decide +kernel,by decide +kernel,by decide +kernel,by decide +kernel,?_⟩
      simp_all
    · by_cases z:(qs.map (·.2)).sum<=60
      · exact h z H1 s1
      grind
end
section
local macro_rules | `(tactic| wtm_at "op")=>`(tactic| apply o_addB)
local macro_rules | `(tactic| wtm_at "ps")=>`(tactic| first
 | (apply s_if;(wtm_at "pt");(apply ss_cons;(apply s_dead);(apply ss_nil));(wtm_at "pss")))
abbrev sWaysOf:Stmt:=top 26
theorem prodc_N:∀ {qs:Qs},(∀ q∈qs,1<=q.2)->(prodN (cnts qs):Int) = prodc qs
 | [],_=>rfl
 | q :: qs,h=>by
  have ih:=prodc_N fun x hx=>h x (.tail _ hx)
  show ((_ * prodN (cnts qs):Nat):Int) = _ * prodc qs
  grind
theorem scWaysOf:FnScope ["heap","ways","size","many"] ["heap"] (defScope sWaysOf):=by wtm_at "sc"
def spWaysOf:Sp:=fun vs H Q _=>∃ (h:Addr) (need:Int) (qs:Qs),vs = [.ref h]/\HeapAt H h need qs/\(qs.map (·.2)).sum<=60/\prodc qs<=2000/\
 ∀ (l:Addr) (as:List Addr) (H':Hp),H l = none->L2.Same H H'->H' l = some (.lst (as.map V.ref))->Al H' as (waysL (cnts qs))->as.length<=2000->Q (.ref l) H'
theorem ok_waysOf (F:Fun K "ways_of" "ways_of" sWaysOf Z fd) (cR:Callee CX0 P W K mg base "refuse_above" 2 ["heap","most"] spRefuse) (cN:Callee CX0 P W K mg base "number_of_ways" 1 ["kinds"] (spNWays K))
 (g1:GInt mg "MOST_TABLED" 60) (g2:GInt mg "MOST_WAYS" 2000) (mR:mg "range" = none):FnOk P W K mg base CX0 3 Z fd ["heap"] spWaysOf:=by
 refine Br.Fun.j F scWaysOf (fun vs H Q E h=>?_) (fun _ A _ s H vs Q E hr h=>?_)
 · obtain⟨_,_,_,rfl,_⟩:=h;rfl
 · obtain⟨hp,need,qs,rfl,hh,hs60,hp2,h⟩:=h
   have nd:=scWaysOf.nd
   have hsz:=sizeLine_eq
   refine' ⟨_,?d,?r⟩
   case d=>wtm_at "body"
   case r=>
    refine⟨_,rfl,?_⟩
    obtain⟨t,us,h1,h2,h3,h4,h5,h6,h7⟩:=id hh
    have hul:=h3.1
    refine⟨hp,need,qs,rfl,hh,hs60,fun H1 s1=>?_⟩
    refine⟨_,?_,fun _ _ h=>h⟩
    refine⟨_,rfl,.inr (.inl ⟨hp,_,_,_,rfl,rfl,SqT.of (s1 _ _ h1),(show atI [V.int need,V.ref t] 1 = some (.ref t) from rfl),?_⟩)⟩
    refine⟨t,us,qs,rfl,(h2.same s1).sq,h3.mo (ps:=[]) (fun b o e _=>s1 _ _ e),fun q hq=>(h7 q hq).2.2,by omega,?_⟩
    refine⟨_,_,rfl,rfl,_,rfl,ite2 (fun hc=>absurd (of_decide_eq_true hc) (by omega)) (fun _=>?_)⟩
    have hN:=prodc_N (qs:=qs) fun q hq=>(h7 q hq).2.2.1
    have hsum:prodN (cnts qs)<=2000:=by omega
    refine⟨by simp,fun u0 H2 n0 s2 e2=>?_⟩
    refine⟨lenLe (n:=1) rfl (by decide),fun l0 H3 n3 s3 e3=>?_⟩
    have s13:=s1.trans (s2.trans s3)
    refine⟨_,rfl,.inr (.inl ⟨hp,_,_,_,rfl,rfl,SqT.of (s13 _ _ h1),(show atI [V.int need,V.ref t] 1 = some (.ref t) from rfl),?_⟩)⟩
    refine⟨t,rfl,.inr ⟨⟨_,(h2.same s13).sq⟩,?_⟩⟩
    have fresh:∀ {G G':Hp}{l:Addr},L2.Same G G'->G' l = none->G l = none:=fun {G G' l} s n=>by
     cases hq:G l with
     | none=>rfl
     | some o=>have:=s _ _ hq;rw [n] at this;cases this
    refine for_tup (K:=K) (a:=t) (xs:=us) (fun i σ G=>L2.Same H G/\∃ (l:Addr) (as:List Addr) (x2 x3:Option V),H l = none/\G l = some (.lst (as.map V.ref))/\Al G as (waysL ((cnts qs).take i))/\σ = [some (.ref hp),some (.ref l),x2,x3])
     ⟨s13,l0,[u0],none,none,fresh (s1.trans s2) n3,e3,.cons (s3 _ _ e2) .nil,rfl⟩ (fun i σ G _ ⟨sh,_⟩=>(h2.same sh).sq) ?_ ?_
    · rintro i x σ G hx ⟨sh,l,as,x2,x3,nl,eG,al,rfl⟩
      obtain⟨q,hqi,r,rfl,hrr⟩:=h3.2 i x hx
      have hci:(cnts qs)[i]? = some q.2.toNat:=by unfold cnts;rw [List.getElem?_map,hqi];rfl
      have hq1:=(h7 q (List.mem_of_getElem? hqi)).2.2.1
      have hq14:q.2<=2000:=by
       have:=le_prodN (List.mem_of_getElem? hci)
       omega
      have hfew:=ways_few (n:=i) hsum
      have hfew1:=ways_few (n:=i + 1) hsum
      have hlen:=al.len
      have hil:i < qs.length:=(List.getElem?_eq_some_iff.mp hqi).1
      refine⟨r,_,rfl,SqT.of (sh _ _ hrr),rfl,_,_,rfl,_,_,rfl,rfl,?_⟩
      refine⟨_,rfl,l,rfl,.inl ⟨⟨_,SqL.of eG⟩,?_⟩⟩
      have hb1:∀ j,(((waysL ((cnts qs).take i)).take j).flatMap (ext q.2.toNat)).length<=2000:=fun j=>by
       have e1:=step_len q.2.toNat ((waysL ((cnts qs).take i)).take j)
       have e2:=step_len q.2.toNat (waysL ((cnts qs).take i))
       unfold step at e1 e2
       rw [waysL_take hci,e2] at hfew1
       rw [e1,List.length_take]
       exact Nat.le_trans (Nat.mul_le_mul_right _ (Nat.min_le_right _ _)) hfew1
      refine cmp2_list (K:=K) (a:=l) (xs:=as.map V.ref) (fun j ys σ G'=>L2.Same G G'/\∃ (bs:List Addr) (x0 x1:Option V),ys = bs.map V.ref/\Al G' bs (((waysL ((cnts qs).take i)).take j).flatMap (ext q.2.toNat))/\
       σ = [x0,x1,some (.ref hp),some (.ref l),some (.int q.1),some (.int q.2)]) ⟨L2.Same.refl _,[],none,none,rfl,.nil,rfl⟩ (fun j ys σ G' _ ⟨s',bs,_,_,e1,e2,_⟩=>⟨SqL.of (s' _ _ eG),by have:=hb1 j;rw [e1,List.length_map,e2.len];omega⟩) ?_ ?_
      · rintro j x ys σ G1 N hx ⟨sG,bs,x0,x1,rfl,ab,rfl⟩ hNx
        rw [List.getElem?_map] at hx
        obtain⟨a,ha,rfl⟩:=Option.map_eq_some_iff.mp hx
        obtain⟨w,hw,hwa⟩:=al.get ha
        refine⟨_,rfl,.inl ⟨_,_,rfl,rfl,q.2 + 1,rfl,by omega,by omega,?_⟩⟩
        refine cmpIn_range (lo:=0) (n:=(q.2 + 1).toNat) (fun k ys σ G'=>L2.Same G1 G'/\∃ (cs:List Addr) (x:Option V),ys = bs.map V.ref ++ cs.map V.ref/\cs.length = k/\Al G' cs ((ext q.2.toNat w).take k)/\σ = [some (.ref a),x,some (.ref hp),some (.ref l),some (.int q.1),some (.int q.2)])
         ⟨L2.Same.refl _,[],x1,by simp,rfl,.nil,rfl⟩ (fun k ys σ G' _ ⟨_,cs,_,e1,e2,_⟩=>by have:=hb1 j;rw [e1,List.length_append,List.length_map,List.length_map,ab.len];omega) ?_ ?_
        · rintro k ys σ G' N' hk' ⟨s',cs,x5,rfl,hcl,ac,rfl⟩ hN'
          have hwi:=(ways_ok (cnts qs) i (by unfold cnts;rw [List.length_map];omega)).len j w hw
          refine⟨_,rfl,_,rfl,lenLe (n:=1) rfl (by decide),fun u G2 nu s2 e2=>.inr ⟨a,u,_,_,rfl,rfl,s2 _ _ (s' _ _ (sG _ _ hwa)),e2,by rw [List.length_map,hwi,hsz];simp only [List.length_cons,List.length_nil];omega,fun pz G3 s3 e3=>hN' _ _ _ ⟨s'.trans (s2.trans s3),cs ++ [pz],_,by rw [List.map_append,List.append_assoc];rfl,by rw [List.length_append,hcl];rfl,?_,rfl⟩⟩⟩
          rw [List.take_add_one,ext_at w (by omega)]
          refine (ac.tu (Tu.of (s2.trans s3))).app (.cons ?_ .nil)
          rw [e3,List.map_append,Int.zero_add];rfl
        · rintro ys σ G' ⟨s',cs,x5,rfl,hcl,ac,rfl⟩
          refine hNx _ _ _ ⟨sG.trans s',bs ++ cs,_,_,by rw [List.map_append],?_,rfl⟩
          rw [List.take_of_length_le (by rw [ext_len];omega)] at ac
          rw [List.take_add_one,hw,List.flatMap_append]
          refine (ab.tu (Tu.of s')).app ?_
          show Al _ cs (List.flatMap (ext q.2.toNat) [w])
          rw [List.flatMap_cons,List.flatMap_nil,List.append_nil]
          exact ac
      · rintro ys σ G1 ⟨sG,bs,x0,x1,rfl,ab,rfl⟩ pc G2 npc s2 e2
        rw [List.length_map,hlen,List.take_length,<- waysL_take hci] at ab
        exact⟨sh.trans (sG.trans s2),pc,bs,_,_,fresh (sh.trans sG) npc,e2,ab.tu (Tu.of s2),rfl⟩
    · rintro σ G ⟨sh,l,as,x2,x3,nl,eG,al,rfl⟩
      rw [hul,List.take_of_length_le (by unfold cnts;rw [List.length_map];exact Nat.le_refl _)] at al
      have:=ways_few (ms:=cnts qs) (n:=(cnts qs).length) hsum
      rw [List.take_length] at this
      exact⟨_,rfl,h l as G nl sh eG al (by rw [al.len];exact this)⟩
end
section
local macro_rules | `(tactic| wtm_at "ps")=>`(tactic| fail)
local macro_rules | `(tactic| wtm_at "pss")=>`(tactic| (apply ss_cons;(wtm_at "ps");apply ss_cons;(apply s_dead);apply ss_dead))
def Bad (qs:Qs):Prop:=60 < (qs.map (·.2)).sum\/2000 < prodc qs
def spX (C:Addr):Sp:=fun vs H _ E=>∃ (h:Addr) (need:Int) (qs:Qs),vs = [.ref h]/\HeapAt H h need qs/\Bad qs/\∀ H',L2.Same H H'->E (.ref C) none H'
theorem ok_waysOfX (F:Fun K "ways_of" "ways_of" sWaysOf Z fd) (eR:ECls K mg "TooMany" C B) (cR:Callee (CXF P W) P W K mg base "refuse_above" 2 ["heap","most"] (spRefuseX C)) (cN:Callee CX0 P W K mg base "number_of_ways" 1 ["kinds"] (spNWays K))
 (g1:GInt mg "MOST_TABLED" 60) (g2:GInt mg "MOST_WAYS" 2000):FnOk P W K mg base (CXF P W) 3 Z fd ["heap"] (spX C):=by
 refine Br.Fun.jX F scWaysOf (fun vs H Q E h=>?_) (fun _ A _ s H vs Q E hr h=>?_)
 · obtain⟨_,_,_,rfl,_⟩:=h;rfl
 · obtain⟨hp,need,qs,rfl,hh,hb,h⟩:=h
   have nd:=scWaysOf.nd
   refine' ⟨_,?d,?r⟩
   case d=>wtm_at "body"
   case r=>
    refine⟨_,rfl,?_⟩
    obtain⟨t,us,h1,h2,h3,h4,h5,h6,h7⟩:=id hh
    refine⟨hp,need,qs,rfl,hh,fun _ H1 s1=>h H1 s1,fun h60 H1 s1=>?_⟩
    refine⟨fun _ _=>False,?_,fun _ _ h=>h.elim⟩
    refine⟨_,rfl,.inr (.inl ⟨hp,_,_,_,rfl,rfl,SqT.of (s1 _ _ h1),(show atI [V.int need,V.ref t] 1 = some (.ref t) from rfl),?_⟩)⟩
    have h7':∀ q∈qs,1<=q.2/\q.2<=10 ^ 12:=fun q hq=>(h7 q hq).2.2
    refine⟨t,us,qs,rfl,(h2.same s1).sq,h3.mo (ps:=[]) (fun b o e _=>s1 _ _ e),h7',prodc_hundred h7' h4,?_⟩
    have hb2:2000 < prodc qs:=by rcases hb with z | z <;> omega
    refine⟨_,_,rfl,rfl,_,rfl,ite2 (fun hc=>?_) (fun hc=>absurd (decide_eq_true hb2) hc)⟩
    exact h H1 s1
end
theorem prodN_app:∀ (l:List Nat) (m:Nat),prodN (l ++ [m]) = prodN l * (m + 1)
 | [],m=>by show _ * 1 = 1 * _;omega
 | a :: l,m=>by
  show _ * prodN (l ++ [m]) = _ * prodN l * _
  rw [prodN_app l m,Nat.mul_assoc]
theorem prev_at (ms:List Nat):∀ n,n<=ms.length->∀ (k:Nat) (u:List Int) (j:Nat) (x:Int),(waysL (ms.take n))[k]? = some u->u[j]? = some x->0 < x->
 prodN ((ms.take n).drop (j + 1))<=k/\(waysL (ms.take n))[k - prodN ((ms.take n).drop (j + 1))]? = some (u.set j (x - 1))
 | 0,_,k,u,j,x,h,h2,_=>by
  have e:waysL (ms.take 0) = [[]]:=rfl
  rw [e] at h
  cases k with
  | zero=>simp at h;rw [h] at h2;simp at h2
  | succ k=>simp at h
 | n + 1,hn,k,u,j,x,h,h2,h0=>by
  obtain⟨m,hm⟩:∃ m,ms[n]? = some m:=⟨_,List.getElem?_eq_getElem (by omega)⟩
  have e:=waysL_take hm
  rw [e] at h ⊢
  obtain⟨i,t,w,h1,hw,rfl,rfl⟩:=fm_inv h
  have hl:=(ways_ok ms n (by omega)).len i w hw
  have etk:ms.take (n + 1) = ms.take n ++ [m]:=by rw [List.take_add_one,hm];rfl
  have htl:(ms.take n).length = n:=by rw [List.length_take];omega
  by_cases hj:j < n
  · rw [List.getElem?_append_left (by omega)] at h2
    obtain⟨p1,p2⟩:=prev_at ms n (by omega) i w j x hw h2 h0
    have ed:(ms.take (n + 1)).drop (j + 1) = (ms.take n).drop (j + 1) ++ [m]:=by
     rw [etk,List.drop_append_of_le_length (by omega)]
    rw [ed,prodN_app]
    generalize prodN ((ms.take n).drop (j + 1)) = P at p1 p2
    have q1:P * (m + 1)<=i * (m + 1):=Nat.mul_le_mul_right _ p1
    refine⟨by omega,?_⟩
    rw [show i * (m + 1) + t - P * (m + 1) = (i - P) * (m + 1) + t by rw [Nat.sub_mul];omega,fm_get h1 p2,List.set_append_left _ _ (by omega)]
  · have hj:j = n:=by have:=(List.getElem?_eq_some_iff.mp h2).1;rw [List.length_append,hl] at this;simp at this;omega
    subst hj
    have ed:(ms.take (j + 1)).drop (j + 1) = []:=List.drop_eq_nil_of_le (by rw [List.length_take];omega)
    rw [ed]
    rw [List.getElem?_append_right (by omega),hl,Nat.sub_self] at h2
    simp at h2
    show 1<=_/\(_:List (List Int))[i * (m + 1) + t - 1]? = _
    refine⟨by omega,?_⟩
    rw [show i * (m + 1) + t - 1 = i * (m + 1) + (t - 1) by omega,fm_get (by omega) hw,List.set_append_right _ _ (by omega),hl,Nat.sub_self]
    simp
    omega
def paces:Qs->Qs
 | []=>[]
 | q :: qs=>(q.1,prodc qs) :: paces qs
theorem paces_len:∀ qs:Qs,(paces qs).length = qs.length
 | []=>rfl
 | q :: qs=>by show (paces qs).length + 1 = qs.length + 1;rw [paces_len qs]
theorem paces_at:∀ {qs:Qs}{j:Nat}{q:Int×Int},qs[j]? = some q->(paces qs)[j]? = some (q.1,prodc (qs.drop (j + 1)))
 | r :: qs,0,q,h=>by simp at h;subst h;rfl
 | r :: qs,j + 1,q,h=>by
  show (paces qs)[j]? = _
  exact paces_at (by simp_all)
theorem cnts_drop (qs:Qs) (n:Nat):(cnts qs).drop n = cnts (qs.drop n):=by unfold cnts;simp
theorem pace_back {qs:Qs} (hq:∀ q∈qs,1<=q.2) {k j:Nat}{w:List Int}{x:Int} (hw:(waysL (cnts qs))[k]? = some w) (hx:w[j]? = some x) (h0:0 < x):
 prodc (qs.drop (j + 1))<=k/\1<=prodc (qs.drop (j + 1))/\(waysL (cnts qs))[k - (prodc (qs.drop (j + 1))).toNat]? = some (w.set j (x - 1)):=by
 have h:=prev_at (cnts qs) (cnts qs).length (Nat.le_refl _) k w j x (by rw [List.take_length];exact hw) hx h0
 rw [List.take_length,cnts_drop] at h
 have hd:∀ q∈qs.drop (j + 1),1<=q.2:=fun q h=>hq q (List.mem_of_mem_drop h)
 have e:=prodc_N hd
 have e1:=prodc_pos hd
 refine⟨by omega,e1,?_⟩
 rw [show (prodc (qs.drop (j + 1))).toNat = prodN (cnts (qs.drop (j + 1))) by omega]
 exact h.2
def putP (need:Int) (p:Int×Int) (s:Int):Int×Int:=if need<=p.2 + s then (p.1 + 1,0) else (p.1,p.2 + s)
def lastsOf (w:List Int) (ps:Qs):Qs:=((w.zip ps).filter fun x=>decide (0 < x.1)).map (·.2)
def made (need:Int) (T:Qs) (k:Nat) (steps:Qs):Qs:=steps.map fun st=>putP need (T.getD (k - st.2.toNat) (0,0)) st.1
def StepsOk (k:Nat) (steps:Qs):Prop:=∀ st∈steps,1<=st.2/\st.2<=k/\1<=st.1
def pl2 (p:Int×Int):List Int:=[p.1,p.2]
def IsBest (l:Qs) (v:Int×Int):Prop:=(l = []/\v = (0,0))\/(v∈l/\∀ x∈l,HT.lexLt (pl2 v) (pl2 x) = false)
def IsTab (need:Int) (LL:List (Qs)) (T:Qs):Prop:=T.length = LL.length/\∀ (k:Nat) steps v,LL[k]? = some steps->T[k]? = some v->IsBest (made need T k steps) v
def Nng (T:Qs):Prop:=∀ v∈T,0<=v.1/\0<=v.2
theorem lex2_anti (h1:HT.lexLt (pl2 u) (pl2 v) = false) (h2:HT.lexLt (pl2 v) (pl2 u) = false):u = v:=by
 obtain⟨a,b⟩:=u
 obtain⟨c,d⟩:=v
 unfold pl2 at h1 h2
 simp only [HT.lexLt_cons,HT.lexLt_nil_nil] at h1 h2
 by_cases e:a = c
 · subst e
   simp only [if_true] at h1 h2
   by_cases e2:b = d
   · grind
   · rw [if_neg e2] at h1
     rw [if_neg (fun z=>e2 z.symm)] at h2
     have:=of_decide_eq_false h1
     have:=of_decide_eq_false h2
     omega
 · rw [if_neg e] at h1
   rw [if_neg (fun z=>e z.symm)] at h2
   have:=of_decide_eq_false h1
   have:=of_decide_eq_false h2
   omega
theorem best_uniq (h:IsBest l u) (h':IsBest l v):u = v:=by
 rcases h with ⟨a,b⟩ | ⟨a,b⟩ <;> rcases h' with ⟨c,d⟩ | ⟨c,d⟩
 · grind
 · simp_all
 · grind
 · exact lex2_anti (b _ c) (d _ a)
theorem made_congr (ok:StepsOk k steps) (h:∀ i,i < k->T.getD i (0,0) = T'.getD i (0,0)):made need T k steps = made need T' k steps:=by
 refine List.map_congr_left fun st hst=>?_
 obtain⟨h1,h2,_⟩:=ok st hst
 grind
theorem tab_uniq (ok:∀ k steps,LL[k]? = some steps->StepsOk k steps) (h:IsTab need LL T) (h':IsTab need LL T'):T = T':=by
 have hk:∀ n,∀ k,k < n->k < LL.length->T.getD k (0,0) = T'.getD k (0,0):=by
  intro n
  induction n with
  | zero=>intro k hk;omega
  | succ n ih=>
   intro k hk hl
   have e1:T[k]? = some (T[k]'(by rw [h.1];exact hl)):=List.getElem?_eq_getElem _
   have e2:T'[k]? = some (T'[k]'(by rw [h'.1];exact hl)):=List.getElem?_eq_getElem _
   have e3:LL[k]? = some LL[k]:=List.getElem?_eq_getElem hl
   have b1:=h.2 k _ _ e3 e1
   have b2:=h'.2 k _ _ e3 e2
   rw [made_congr (T':=T') (ok k _ e3) fun i hi=>ih i (by omega) (by omega)] at b1
   rw [List.getD_eq_getElem?_getD,List.getD_eq_getElem?_getD,e1,e2,best_uniq b1 b2]
 apply List.ext_getElem?
 intro k
 by_cases hl:k < LL.length
 · have:=hk (k + 1) k (by omega) hl
   have e1:T[k]? = some (T[k]'(by rw [h.1];exact hl)):=List.getElem?_eq_getElem _
   have e2:T'[k]? = some (T'[k]'(by rw [h'.1];exact hl)):=List.getElem?_eq_getElem _
   simp_all
 · rw [List.getElem?_eq_none (by rw [h.1];omega),List.getElem?_eq_none (by rw [h'.1];omega)]
theorem put_nn (h1:0<=p.1) (h2:0<=p.2) (hs:1<=s):0<=(putP need p s).1/\0<=(putP need p s).2:=by
 unfold putP
 grind
theorem getD_nn (h:Nng T) (i:Nat):0<=(T.getD i (0,0)).1/\0<=(T.getD i (0,0)).2:=by
 rw [List.getD_eq_getElem?_getD]
 cases e:T[i]? with
 | none=>simp
 | some v=>exact h v (List.mem_of_getElem? e)
theorem made_nn (ok:StepsOk k steps) (h:Nng T):Nng (made need T k steps):=fun v hv=>by
 obtain⟨st,hst,rfl⟩:=List.mem_map.mp hv
 obtain⟨a,b⟩:=getD_nn h _
 exact put_nn a b (ok st hst).2.2
theorem best_nn (h:IsBest l v) (hn:Nng l):0<=v.1/\0<=v.2:=by
 rcases h with ⟨_,rfl⟩ | ⟨h,_⟩
 · simp
 · exact hn v h
theorem best_zero {l:Qs}{v:Int×Int} (hn:Nng l) (hv:v∈(0,0) :: l) (hm:∀ x∈(0,0) :: l,HT.lexLt (pl2 v) (pl2 x) = false):IsBest l v:=by
 cases hl:l with
 | nil=>rw [hl] at hv;left;exact⟨rfl,List.mem_singleton.mp hv⟩
 | cons x r=>
  right
  rw [<- hl]
  refine⟨?_,fun y hy=>hm y (.tail _ hy)⟩
  rcases List.mem_cons.mp hv with e | e
  · have hx:x∈l:=by rw [hl];exact .head _
    obtain⟨a,b⟩:=hn x hx
    have h1:=hm x (.tail _ hx)
    rw [e] at h1
    have h2:HT.lexLt (pl2 x) (pl2 (0,0)) = false:=by
     obtain⟨c,d⟩:=x
     unfold pl2
     simp only [HT.lexLt_cons,HT.lexLt_nil_nil]
     have a:0<=c:=a
     have b:0<=d:=b
     by_cases e1:c = 0
     · rw [if_pos e1]
       by_cases e2:d = 0
       · rw [if_pos e2]
       · rw [if_neg e2];exact decide_eq_false (by omega)
     · rw [if_neg e1];exact decide_eq_false (by omega)
    rw [e,lex2_anti h1 h2]
    exact hx
  · exact e
theorem isTab_snoc {need:Int}{LL:List (Qs)}{T:Qs}{v:Int×Int}{steps:Qs} (ok:∀ k steps,LL[k]? = some steps->StepsOk k steps) {n:Nat} (h:IsTab need (LL.take n) T) (hs:LL[n]? = some steps) (hv:IsBest (made need T n steps) v):IsTab need (LL.take (n + 1)) (T ++ [v]):=by
 have hnl:=(List.getElem?_eq_some_iff.mp hs).1
 have hT:T.length = n:=by rw [h.1,List.length_take];omega
 have cg:∀ k st,StepsOk k st->k<=n->made need (T ++ [v]) k st = made need T k st:=fun k st o hk=>made_congr o fun i hi=>by
  rw [List.getD_eq_getElem?_getD,List.getD_eq_getElem?_getD,List.getElem?_append_left (by omega)]
 refine⟨by rw [List.length_append,hT,List.length_take];simp;omega,fun k st u h1 h2=>?_⟩
 by_cases hk:k < n
 · have h1':LL[k]? = some st:=by rw [List.getElem?_take_of_lt (by omega)] at h1;exact h1
   rw [List.getElem?_append_left (by omega)] at h2
   rw [cg k st (ok k st h1') (by omega)]
   exact h.2 k st u (by rw [List.getElem?_take_of_lt hk];exact h1') h2
 · have hk:k = n:=by
    have:=(List.getElem?_eq_some_iff.mp h2).1
    rw [List.length_append,hT] at this
    simp at this;omega
   subst hk
   rw [List.getElem?_take_of_lt (by omega),hs] at h1
   cases h1
   rw [List.getElem?_append_right (by omega),hT,Nat.sub_self] at h2
   simp at h2
   subst h2
   rw [cg k steps (ok k steps hs) (Nat.le_refl _)]
   exact hv
def LS (qs:Qs):List (Qs):=(waysL (cnts qs)).map fun w=>lastsOf w (paces qs)
theorem lasts_mem {st:Int×Int} (h:st∈lastsOf w ps):∃ (j:Nat) (x:Int),w[j]? = some x/\0 < x/\ps[j]? = some st:=by
 obtain⟨y,hy,rfl⟩:=List.mem_map.mp h
 obtain⟨h1,h2⟩:=List.mem_filter.mp hy
 obtain⟨j,hj,e⟩:=List.getElem_of_mem h1
 have e':(w.zip ps)[j]? = some y:=by rw [List.getElem?_eq_getElem hj,e]
 rw [List.getElem?_zip_eq_some] at e'
 exact⟨j,y.1,e'.1,of_decide_eq_true h2,e'.2⟩
theorem LS_ok (hq:∀ q∈qs,1<=q.1/\1<=q.2):∀ k steps,(LS qs)[k]? = some steps->StepsOk k steps:=fun k steps h st hst=>by
 unfold LS at h
 rw [List.getElem?_map] at h
 obtain⟨w,hw,rfl⟩:=Option.map_eq_some_iff.mp h
 obtain⟨j,x,h1,h2,h3⟩:=lasts_mem hst
 have hj:=by have:=(List.getElem?_eq_some_iff.mp h3).1;rw [paces_len] at this;omega
 obtain⟨q,hqj⟩:∃ q,qs[j]? = some q:=⟨_,List.getElem?_eq_getElem hj⟩
 rw [paces_at hqj] at h3
 cases h3
 obtain⟨a,b,_⟩:=pace_back (fun q h=>(hq q h).2) hw h1 h2
 exact⟨b,a,(hq q (List.mem_of_getElem? hqj)).1⟩
theorem none_of (s:L2.Same H H') (h:H' a = none):H a = none:=by
 cases q:H a with
 | none=>rfl
 | some o=>have:=s _ _ q;grind
theorem Kinds.same (k:Kinds H vs qs) (s:L2.Same H H'):Kinds H' vs qs:=k.mo (ps:=[]) fun b o e _=>s _ _ e
theorem Kinds.tu (k:Kinds H vs qs) (s:Tu H H'):Kinds H' vs qs:=k.mo (ps:=[]) s
theorem Kinds.nil:Kinds H [] []:=⟨rfl,fun i v e=>by simp_all⟩
theorem Kinds.snoc (k:Kinds H vs qs) (e:H r = some (.tup [.int q.1,.int q.2])):Kinds H (vs ++ [.ref r]) (qs ++ [q]):=by
 have k1:=k.1
 refine⟨by rw [List.length_append,List.length_append,k1];rfl,fun i v h=>?_⟩
 by_cases hi:i < vs.length
 · rw [List.getElem?_append_left hi] at h
   obtain⟨q',h1,h2⟩:=k.2 i v h
   exact⟨q',by rw [List.getElem?_append_left (by omega)];exact h1,h2⟩
 · have hi2:i = vs.length:=by have:=(List.getElem?_eq_some_iff.mp h).1;rw [List.length_append] at this;simp at this;omega
   subst hi2
   simp at h
   exact⟨q,by rw [k1,List.getElem?_append_right (Nat.le_refl _),Nat.sub_self];rfl,r,h.symm,e⟩
theorem Kinds.drop (k:Kinds H vs qs) (n:Nat):Kinds H (vs.drop n) (qs.drop n):=
 ⟨by rw [List.length_drop,List.length_drop,k.1],fun i v h=>by rw [List.getElem?_drop] at h ⊢;exact k.2 _ v h⟩
theorem prodc_drop (h:∀ q∈qs,1<=q.2) (n:Nat):prodc (qs.drop n)<=prodc qs:=by
 induction n generalizing qs with
 | zero=>simp
 | succ n ih=>
  cases qs with
  | nil=>simp
  | cons q qs=>
   have h1:=ih fun x hx=>h x (.tail _ hx)
   have h2:=h q (.head _)
   have h3:=prodc_pos fun x hx=>h x (.tail _ hx)
   rw [List.drop_succ_cons]
   show _<=_ * prodc qs
   have:1 * prodc qs<=(q.2 + 1) * prodc qs:=Int.mul_le_mul_of_nonneg_right (by omega) (by omega)
   omega
theorem cut_dropV (us:List V) (n:Nat):cutV us (some (n:Int)) none = us.drop n:=by
 unfold cutV
 rw [HT.sIx_nat,HT.sIx_none]
 rcases Nat.le_total n us.length with h | h
 · rw [Nat.min_eq_left h,List.take_of_length_le (by simp)]
 simp_all
section
local macro_rules | `(tactic| wtm_at "pi")=>`(tactic| (apply EG.k_enum;(wtm_at "K");(with_reducible rfl);(rfl);(assumption);(rfl);(wtm_at "pa")))
local macro_rules | `(tactic| wtm_at "pe")=>`(tactic| (apply k_comp12;(wtm_at "K");(rfl);(rfl);(intro _;rfl);(decide +kernel);(rfl);(rfl);(rfl);(wtm_at "pi");(intro cC cs cH cfp;wtm_at "pf");(intro cC cs cH cfp;wtm_at "pe")))
abbrev sPaces:Stmt:=top 27
theorem scPaces:FnScope ["heap","kinds"] ["heap"] (defScope sPaces):=by wtm_at "sc"
def spPaces:Sp:=fun vs H Q _=>∃ (h:Addr) (need:Int) (qs:Qs),vs = [.ref h]/\HeapAt H h need qs/\prodc qs<=10 ^ 110/\
 ∀ (l:Addr) (us:List V) (H':Hp),H l = none->L2.Same H H'->H' l = some (.lst us)->Kinds H' us (paces qs)->Q (.ref l) H'
theorem ok_paces (F:Fun K "paces_of" "paces_of" sPaces Z fd) (cN:Callee CX0 P W K mg base "number_of_ways" 1 ["kinds"] (spNWays K)) (mE:mg "enumerate" = none):FnOk P W K mg base CX0 2 Z fd ["heap"] spPaces:=by
 refine Br.Fun.j F scPaces (fun vs H Q E h=>?_) (fun _ A _ s H vs Q E hr h=>?_)
 · obtain⟨_,_,_,rfl,_⟩:=h;rfl
 · obtain⟨hp,need,qs,rfl,hh,hp2,h⟩:=h
   have nd:=scPaces.nd
   have hsz:=sizeLine_eq
   refine' ⟨_,?d,?r⟩
   case d=>wtm_at "body"
   case r=>
    obtain⟨t,us,h1,h2,h3,h4,h5,h6,h7⟩:=id hh
    have hul:=h3.1
    have hq1:∀ q∈qs,1<=q.2:=fun q h=>(h7 q h).2.2.1
    refine⟨_,rfl,.inr (.inl ⟨hp,_,_,_,rfl,rfl,SqT.of h1,(show atI [V.int need,V.ref t] 1 = some (.ref t) from rfl),?_⟩)⟩
    refine⟨_,rfl,true,t,us,rfl,h2.sq,?_⟩
    refine EG.cmp_enum (f:=true) (K:=K) (a:=t) (xs:=us) rfl (by omega) (fun j ys σ G=>L2.Same H G/\ys.length = j/\Kinds G ys ((paces qs).take j)/\∃ x y z:Option V,σ = [x,y,z,some (.ref hp),some (.ref t)])
     ⟨L2.Same.refl _,rfl,Kinds.nil,none,none,none,rfl⟩ (fun j ys σ G _ ⟨sG,e2,_⟩=>⟨(h2.same sG).sq,by omega⟩) ?_ ?_
    · rintro j x ys σ G T N hx ⟨sG,hyl,hk,x0,y0,z0,rfl⟩ nT hN
      obtain⟨q,hqi,r,rfl,hrr⟩:=h3.2 j x hx
      have sT:L2.Same G (upd G T (.tup [.int j,.ref r])):=Br.Same.upd nT
      generalize hG1:upd G T (.tup [.int (j:Int),.ref r]) = G1 at sT
      have eT:G1 T = some (.tup [.int (j:Int),.ref r]):=by rw [<- hG1];exact upd_same
      refine⟨T,_,rfl,SqT.of eT,rfl,_,_,rfl,_,_,rfl,?_⟩
      refine⟨r,_,rfl,SqT.of (sT _ _ (sG _ _ hrr)),rfl,_,_,rfl,_,_,rfl,rfl,rfl,?_⟩
      have sHG:=sG.trans sT
      have hjl:j < us.length:=(List.getElem?_eq_some_iff.mp hx).1
      refine⟨_,rfl,_,rfl,_,rfl,.inl ⟨_,_,rfl,rfl,_,rfl,t,_,rfl,.inr ⟨(h2.same sHG).sq,fun⟨z,_⟩=>?_,fun p2 G2 n2 s2 e2=>?_⟩⟩⟩
      · rw [show ((j:Int) + 1) = ((j + 1:Nat):Int) by omega,HT.sIx_nat] at z;omega
      rw [show ((j:Int) + 1) = ((j + 1:Nat):Int) by omega,cut_dropV] at e2
      have hpd:=prodc_drop hq1 (j + 1)
      refine⟨p2,_,qs.drop (j + 1),rfl,SqT.of e2,((h3.same sHG).same s2).drop (j + 1),fun q hq=>(h7 q (List.mem_of_mem_drop hq)).2.2,by omega,?_⟩
      refine⟨lenLe (n:=2) rfl (by decide),fun r2 G3 n3 s3 e3=>hN _ _ _ ⟨sHG.trans (s2.trans s3),by rw [List.length_append,hyl];rfl,?_,_,_,_,rfl⟩⟩
      rw [List.take_add_one,paces_at hqi]
      exact (hk.same (sT.trans (s2.trans s3))).snoc e3
    rintro ys σ G ⟨sG,hyl,hk,x0,y0,z0,rfl⟩ pl G1 npl s1 e1
    rw [hul,<- paces_len,List.take_length] at hk
    exact h pl ys G1 (none_of sG npl) (sG.trans s1) e1 (hk.same s1)
end
abbrev sPut:Stmt:=top 28
theorem scPut:FnScope ["need","pair","size","bins","lying"] ["need","pair","size"] (defScope sPut):=by wtm_at "sc"
def spPut:Sp:=fun vs H Q _=>∃ (need:Int) (a:Addr) (p:Int×Int) (s:Int),vs = [.int need,.ref a,.int s]/\H a = some (.tup [.int p.1,.int p.2])/\
 ∀ (r:Addr) (H':Hp),H r = none->L2.Same H H'->H' r = some (.tup [.int (putP need p s).1,.int (putP need p s).2])->Q (.ref r) H'
theorem ok_put (F:Fun K "put_to" "put_to" sPut Z fd):FnOk P W K mg base CX0 1 Z fd ["need","pair","size"] spPut:=by
 refine Br.Fun.j F scPut (fun vs H Q E h=>?_) (fun _ A _ s H vs Q E hr h=>?_)
 · obtain⟨_,_,_,_,rfl,_⟩:=h;rfl
 · obtain⟨need,a,p,sz,rfl,ha,h⟩:=h
   have nd:=scPut.nd
   refine' ⟨_,?d,?r⟩
   case d=>wtm_at "body"
   case r=>
    refine⟨_,rfl,a,_,rfl,SqT.of ha,rfl,_,_,rfl,_,_,rfl,rfl,?_⟩
    refine⟨_,?_,fun _ _ h=>h⟩
    refine⟨_,rfl,_,rfl,.inl ⟨_,_,rfl,rfl,_,rfl,_,_,rfl,rfl,_,rfl,ite2 (fun hc=>?_) (fun hc=>?_)⟩⟩
    · have hc:=of_decide_eq_true hc
      refine⟨_,rfl,.inl ⟨_,_,rfl,rfl,lenLe (n:=2) rfl (by decide),fun r H1 n1 s1 e1=>h r H1 n1 s1 ?_⟩⟩
      unfold putP
      rw [if_pos hc];exact e1
    · have hc:¬ need<=p.2 + sz:=fun z=>hc (decide_eq_true z)
      refine⟨_,rfl,_,rfl,_,rfl,.inl ⟨_,_,rfl,rfl,lenLe (n:=2) rfl (by decide),fun r H1 n1 s1 e1=>h r H1 n1 s1 ?_⟩⟩
      unfold putP
      rw [if_neg hc];exact e1
def LsAt (H:Hp) (ls:List Addr) (LL:List (Qs)):Prop:=ls.length = LL.length/\∀ (i:Nat) a,ls[i]? = some a->∃ steps ss,LL[i]? = some steps/\H a = some (.lst ss)/\Kinds H ss steps
theorem LsAt.same (h:LsAt H ls LL) (s:L2.Same H H'):LsAt H' ls LL:=
 ⟨h.1,fun i a e=>let ⟨st,ss,h1,h2,h3⟩:=h.2 i a e;⟨st,ss,h1,s _ _ h2,h3.same s⟩⟩
theorem LsAt.snoc (h:LsAt H ls LL) (e:H a = some (.lst ss)) (k:Kinds H ss steps):LsAt H (ls ++ [a]) (LL ++ [steps]):=by
 have h1:=h.1
 refine⟨by simp_all,fun i b hb=>?_⟩
 by_cases hi:i < ls.length
 · rw [List.getElem?_append_left hi] at hb
   obtain⟨st,ss,p1,p2⟩:=h.2 i b hb
   exact⟨st,ss,by rw [List.getElem?_append_left (by omega)];exact p1,p2⟩
 · have hi2:i = ls.length:=by have:=(List.getElem?_eq_some_iff.mp hb).1;simp at this;omega
   simp_all
theorem LS_len (qs:Qs):(LS qs).length = (waysL (cnts qs)).length:=by unfold LS;simp
theorem LS_at {j:Nat} (h:(waysL (cnts qs))[j]? = some w):(LS qs)[j]? = some (lastsOf w (paces qs)):=by unfold LS;simp_all
section
local macro_rules | `(tactic| wtm_at "nd")=>`(tactic| exact nodupB_of (by rfl))
local macro_rules | `(tactic| wtm_at "pi")=>`(tactic| (apply ZG.k_zip;(wtm_at "K");(with_reducible rfl);(rfl);(assumption);(rfl);(rfl);(wtm_at "pa")))
abbrev sLasts:Stmt:=top 29
theorem scLasts:FnScope ["heap","paces"] ["heap"] (defScope sLasts):=by wtm_at "sc"
def spLasts:Sp:=fun vs H Q _=>∃ (h:Addr) (need:Int) (qs:Qs),vs = [.ref h]/\HeapAt H h need qs/\(qs.map (·.2)).sum<=60/\prodc qs<=2000/\
 ∀ (l:Addr) (ls:List Addr) (H':Hp),H l = none->L2.Same H H'->H' l = some (.lst (ls.map V.ref))->LsAt H' ls (LS qs)->ls.length<=2000->Q (.ref l) H'
theorem ok_lasts (F:Fun K "lasts_of" "lasts_of" sLasts Z fd) (cP:Callee CX0 P W K mg base "paces_of" 2 ["heap"] spPaces) (cW:Callee CX0 P W K mg base "ways_of" 3 ["heap"] spWaysOf) (mZ:mg "zip" = none):FnOk P W K mg base CX0 4 Z fd ["heap"] spLasts:=by
 refine Br.Fun.j F scLasts (fun vs H Q E h=>?_) (fun _ A _ s H vs Q E hr h=>?_)
 · obtain⟨_,_,_,rfl,_⟩:=h;rfl
 · obtain⟨hp,need,qs,rfl,hh,hs60,hp2,h⟩:=h
   have nd:=scLasts.nd
   have hsz:=sizeLine_eq
   refine' ⟨_,?d,?r⟩
   case d=>wtm_at "body"
   case r=>
    obtain⟨t,us0,h1,h2,h3,h4,h5,h6,h7⟩:=id hh
    refine⟨_,rfl,hp,need,qs,rfl,hh,by omega,fun l us H1 nl s1 e1 hk=>?_⟩
    refine⟨_,rfl,hp,need,qs,rfl,hh.same s1,hs60,hp2,fun lw as H2 nlw s2 e2 al hal=>?_⟩
    refine⟨lw,rfl,.inl ⟨⟨_,SqL.of e2⟩,?_⟩⟩
    have hlen:=al.len
    have hk2:=hk.same s2
    have hul:us.length = qs.length:=by rw [hk.1,paces_len]
    refine cmp_list (K:=K) (a:=lw) (xs:=as.map V.ref) (fun j ys σ G=>L2.Same H2 G/\∃ (ls:List Addr) (x:Option V),ys = ls.map V.ref/\ls.length = j/\LsAt G ls ((LS qs).take j)/\σ = [x,some (.ref hp),some (.ref l)])
     ⟨L2.Same.refl _,[],none,rfl,rfl,⟨rfl,fun i a e=>by simp at e⟩,rfl⟩ (by rw [List.length_map];omega) (fun j ys σ G _ ⟨sG,ls,_,e3,e4,_⟩=>⟨SqL.of (sG _ _ e2),by rw [e3,List.length_map];omega⟩) ?_ ?_
    · rintro j x ys σ G N hx ⟨sG,ls,x0,rfl,hll,hL,rfl⟩ hN
      rw [List.getElem?_map] at hx
      obtain⟨a,ha,rfl⟩:=Option.map_eq_some_iff.mp hx
      obtain⟨w,hw,hwa⟩:=al.get ha
      have hwl:w.length = qs.length:=by
       have:=(ways_ok (cnts qs) (cnts qs).length (Nat.le_refl _)).len j w (by rw [List.take_length];exact hw)
       rw [this];unfold cnts;rw [List.length_map]
      refine⟨_,rfl,_,rfl,true,false,a,l,_,us,rfl,SqT.of (sG _ _ hwa),SqL.of (sG _ _ (s2 _ _ e1)),?_⟩
      refine ZG.cmp_zip (f1:=true) (f2:=false) (K:=K) (a:=a) (b:=l) (xs:=w.map V.int) (ys:=us) (n:=qs.length) (by rw [List.length_map,hwl];exact Nat.le_refl _) hul (by omega)
       (fun k zs σ G'=>L2.Same G G'/\zs.length<=k/\Kinds G' zs ((((w.zip (paces qs)).take k).filter fun x:Int×(Int×Int)=>decide (0 < x.1)).map (·.2))/\∃ x y:Option V,σ = [x,y,some (.ref a),some (.ref hp),some (.ref l)])
       ⟨L2.Same.refl _,Nat.le_refl _,Kinds.nil,none,none,rfl⟩ (fun k zs σ G' _ ⟨s',e',_⟩=>⟨SqT.of (s' _ _ (sG _ _ hwa)),SqL.of (s' _ _ (sG _ _ (s2 _ _ e1))),e'⟩) ?_ ?_
      · rintro k x y zs σ G' T N' hxk hyk ⟨s',hzl,hkz,x1,y1,rfl⟩ nT hN'
        rw [List.getElem?_map] at hxk
        obtain⟨n,hn,rfl⟩:=Option.map_eq_some_iff.mp hxk
        obtain⟨q,hq,r,rfl,hrr⟩:=(hk2.same (sG.trans s')).2 k y hyk
        have sT:L2.Same G' (upd G' T (.tup [.int n,.ref r])):=Br.Same.upd nT
        generalize hG1:upd G' T (.tup [.int n,.ref r]) = G1 at sT
        have eT:G1 T = some (.tup [.int n,.ref r]):=by rw [<- hG1];exact upd_same
        have hz:(w.zip (paces qs))[k]? = some (n,q):=by rw [List.getElem?_zip_eq_some];exact⟨hn,hq⟩
        refine⟨T,_,rfl,SqT.of eT,rfl,_,_,rfl,_,_,rfl,rfl,?_⟩
        refine⟨_,rfl,_,_,rfl,rfl,_,rfl,ite2 (fun hc=>?_) (fun hc=>?_)⟩
        · refine⟨_,rfl,hN' _ _ _ ⟨s'.trans sT,by rw [List.length_append];simp;omega,?_,_,_,rfl⟩⟩
          rw [List.take_add_one,hz,List.filter_append,List.map_append]
          have:(List.filter (fun x:Int×(Int×Int)=>decide (0 < x.1)) (some (n,q)).toList).map (·.2) = [q]:=by
           show (List.filter _ [(n,q)]).map _ = _
           rw [List.filter_cons_of_pos (by exact hc)];rfl
          rw [this]
          exact (hkz.same sT).snoc (sT _ _ hrr)
        · refine hN' _ _ _ ⟨s'.trans sT,by omega,?_,_,_,rfl⟩
          rw [List.take_add_one,hz,List.filter_append,List.map_append]
          have:(List.filter (fun x:Int×(Int×Int)=>decide (0 < x.1)) (some (n,q)).toList).map (·.2) = []:=by
           show (List.filter _ [(n,q)]).map _ = _
           rw [List.filter_cons_of_neg (by exact hc)];rfl
          rw [this,List.append_nil]
          exact hkz.same sT
      · rintro zs σ G' ⟨s',hzl,hkz,x1,y1,rfl⟩ pz G2 npz s3 e3
        rw [List.take_of_length_le (by rw [List.length_zip,paces_len];omega)] at hkz
        refine hN _ _ _ ⟨sG.trans (s'.trans s3),ls ++ [pz],_,by rw [List.map_append];rfl,by rw [List.length_append,hll];rfl,?_,rfl⟩
        rw [List.take_add_one,LS_at hw]
        exact (hL.same (s'.trans s3)).snoc e3 (hkz.same s3)
    rintro ys σ G ⟨sG,ls,x0,rfl,hll,hL,rfl⟩ pl G1 npl s3 e3
    rw [List.length_map] at hll hL
    rw [List.take_of_length_le (by rw [LS_len];omega)] at hL
    exact h pl ls G1 (none_of (s1.trans (s2.trans sG)) npl) (s1.trans (s2.trans (sG.trans s3))) e3 (hL.same s3) (by omega)
end
section
local macro_rules | `(tactic| wtm_at "nd")=>`(tactic| exact nodupB_of (by rfl))
local macro_rules | `(tactic| wtm_at "pi")=>`(tactic| (apply ZG.k_zip;(wtm_at "K");(with_reducible rfl);(rfl);(assumption);(rfl);(rfl);(wtm_at "pa")))
theorem ok_lastsX (F:Fun K "lasts_of" "lasts_of" sLasts Z fd) (cP:Callee CX0 P W K mg base "paces_of" 2 ["heap"] spPaces) (cW:Callee (CXF P W) P W K mg base "ways_of" 3 ["heap"] (spX C)) (mZ:mg "zip" = none):FnOk P W K mg base (CXF P W) 4 Z fd ["heap"] (spX C):=by
 refine Br.Fun.jX F scLasts (fun vs H Q E h=>?_) (fun _ A _ s H vs Q E hr h=>?_)
 · obtain⟨_,_,_,rfl,_⟩:=h;rfl
 · obtain⟨hp,need,qs,rfl,hh,hb,h⟩:=h
   have nd:=scLasts.nd
   refine' ⟨_,?d,?r⟩
   case d=>wtm_at "body"
   case r=>
    obtain⟨t,us0,h1,h2,h3,h4,h5,h6,h7⟩:=id hh
    refine⟨_,rfl,hp,need,qs,rfl,hh,prodc_hundred (fun q hq=>(h7 q hq).2.2) h4,fun l us H1 nl s1 e1 hk=>?_⟩
    exact⟨_,rfl,hp,need,qs,rfl,hh.same s1,hb,fun H2 s2=>h H2 (s1.trans s2)⟩
end
theorem lex_trans:∀ {a b c:List Int},HT.lexLt a b = true->HT.lexLt b c = true->HT.lexLt a c = true
 | [],[],_,h,_=>by omega
 | [],_ :: _,[],_,h=>by cases h
 | [],_ :: _,_ :: _,_,_=>rfl
 | _ :: _,[],_,h,_=>by cases h
 | _ :: _,_ :: _,[],_,h=>by cases h
 | x :: a,y :: b,z :: c,h1,h2=>by
  rw [HT.lexLt_cons] at h1 h2 ⊢
  by_cases e1:x = y
  · rw [if_pos e1] at h1
    by_cases e2:y = z
    · rw [if_pos e2] at h2
      rw [if_pos (e1.trans e2)];exact lex_trans h1 h2
    grind
  grind
theorem lex_irrefl:∀ a:List Int,HT.lexLt a a = false
 | []=>rfl
 | x :: a=>by rw [HT.lexLt_cons,if_pos rfl];exact lex_irrefl a
theorem arg_max (nss:List (List Int)):∀ j,argBest (lexG nss) j<=j/\∀ i,i<=j->HT.lexLt (nss.getD (argBest (lexG nss) j) []) (nss.getD i []) = false
 | 0=>⟨Nat.le_refl _,fun i hi=>by rw [show i = 0 by omega];exact lex_irrefl _⟩
 | j + 1=>by
  obtain⟨h1,h2⟩:=arg_max nss j
  simp only [argBest]
  by_cases hb:lexG nss (j + 1) (argBest (lexG nss) j) = true
  · rw [if_pos hb]
    refine⟨Nat.le_refl _,fun i hi=>?_⟩
    by_cases e:i = j + 1
    · rw [e];exact lex_irrefl _
    · cases q:HT.lexLt (nss.getD (j + 1) []) (nss.getD i []) with
      | false=>rfl
      | true=>
       have:=lex_trans (show HT.lexLt (nss.getD (argBest (lexG nss) j) []) (nss.getD (j + 1) []) = true from hb) q
       rw [h2 i (by omega)] at this
       cases this
  · rw [if_neg hb]
    refine⟨by omega,fun i hi=>?_⟩
    by_cases e:i = j + 1
    · rw [e]
      cases q:HT.lexLt (nss.getD (argBest (lexG nss) j) []) (nss.getD (j + 1) []) with
      | false=>rfl
      | true=>exact absurd q hb
    · exact h2 i (by omega)
theorem best_of {H:Hp}{as:List Addr}{ps:Qs} (hk:Kinds H (as.map V.ref) ps) (h0:0 < as.length) {a:Addr} (ha:as[argBest (lexG (ps.map pl2)) (as.length - 1)]? = some a):
 ∃ v,IsBest ps v/\H a = some (.tup [.int v.1,.int v.2])/\v∈ps/\∀ x∈ps,HT.lexLt (pl2 v) (pl2 x) = false:=by
 have hl:as.length = ps.length:=by have:=hk.1;rw [List.length_map] at this;exact this
 obtain⟨h1,h2⟩:=arg_max (ps.map pl2) (as.length - 1)
 obtain⟨v,hv,r,e,hr⟩:=hk.2 _ (.ref a) (by rw [List.getElem?_map,ha];rfl)
 cases e
 have gd:∀ {i:Nat}{x:Int×Int},ps[i]? = some x->(ps.map pl2).getD i [] = pl2 x:=fun {i x} h=>by
  rw [List.getD_eq_getElem?_getD,List.getElem?_map,h];rfl
 have hmax:∀ x∈ps,HT.lexLt (pl2 v) (pl2 x) = false:=fun x hx=>by
  obtain⟨i,hi,e⟩:=List.getElem_of_mem hx
  have:=h2 i (by omega)
  rw [gd hv,gd (i:=i) (x:=x) (by rw [List.getElem?_eq_getElem hi,e])] at this
  exact this
 exact⟨v,.inr ⟨List.mem_of_getElem? hv,hmax⟩,hr,List.mem_of_getElem? hv,hmax⟩
theorem kinds_tups {K:PySem.W.Frag}{as:List Addr} (hk:Kinds H (as.map V.ref) ps):as.length = (ps.map pl2).length/\∀ (i:Nat) (a:Addr) (ns:List Int),as[i]? = some a->(ps.map pl2)[i]? = some ns->SqT K H a (ns.map V.int):=by
 refine⟨by have:=hk.1;simp_all,fun i a ns h1 h2=>?_⟩
 obtain⟨q,hq,r,e,hr⟩:=hk.2 i (.ref a) (by simp_all)
 cases e
 rw [List.getElem?_map,hq] at h2
 cases h2
 exact SqT.of hr
abbrev sMade:Stmt:=top 30
theorem scMade:FnScope ["need","table","place","steps"] ["need","table","place","steps"] (defScope sMade):=by wtm_at "sc"
def spMade:Sp:=fun vs H Q _=>∃ (need:Int) (t st:Addr) (k:Nat) (ts ss:List V) (T steps:Qs),vs = [.int need,.ref t,.int k,.ref st]/\(H t = some (.lst ts)\/H t = some (.tup ts))/\Kinds H ts T/\k<=T.length/\H st = some (.lst ss)/\Kinds H ss steps/\StepsOk k steps/\steps.length<=9/\
 ∀ (l:Addr) (as:List Addr) (H':Hp),H l = none->L2.Same H H'->H' l = some (.lst (as.map V.ref))->Kinds H' (as.map V.ref) (made need T k steps)->Q (.ref l) H'
theorem ok_made (F:Fun K "made_last" "made_last" sMade Z fd) (cP:Callee CX0 P W K mg base "put_to" 1 ["need","pair","size"] spPut):FnOk P W K mg base CX0 2 Z fd ["need","table","place","steps"] spMade:=by
 refine Br.Fun.j F scMade (fun vs H Q E h=>?_) (fun _ A _ s H vs Q E hr h=>?_)
 · obtain⟨_,_,_,_,_,_,_,_,rfl,_⟩:=h;rfl
 · obtain⟨need,t,st,k,ts,ss,T,steps,rfl,hT,hkT,hkl,hS,hkS,hok,hs8,h⟩:=h
   have nd:=scMade.nd
   have hsz:=sizeLine_eq
   have hsl:=hkS.1
   refine' ⟨_,?d,?r⟩
   case d=>wtm_at "body"
   case r=>
    refine⟨_,rfl,st,rfl,.inl ⟨⟨_,SqL.of hS⟩,?_⟩⟩
    refine cmp_list (K:=K) (a:=st) (xs:=ss) (fun j ys σ G=>L2.Same H G/\∃ (as:List Addr) (x y:Option V),ys = as.map V.ref/\as.length = j/\Kinds G (as.map V.ref) ((made need T k steps).take j)/\σ = [x,y,some (.int need),some (.ref t),some (.int (k:Int)),some (.ref st)])
     ⟨L2.Same.refl _,[],none,none,rfl,rfl,Kinds.nil,rfl⟩ (by omega) (fun j ys σ G _ ⟨sG,as,_,_,e3,e4,_⟩=>⟨SqL.of (sG _ _ hS),by rw [e3,List.length_map];omega⟩) ?_ ?_
    · rintro j x ys σ G N hx ⟨sG,as,x0,y0,rfl,hal,hk,rfl⟩ hN
      obtain⟨q,hq,r,rfl,hrr⟩:=hkS.2 j x hx
      obtain⟨o1,o2,o3⟩:=hok q (List.mem_of_getElem? hq)
      refine⟨r,_,rfl,SqT.of (sG _ _ hrr),rfl,_,_,rfl,_,_,rfl,rfl,?_⟩
      have hix:k - q.2.toNat < T.length:=by omega
      obtain⟨v,hv⟩:∃ v,ts[k - q.2.toNat]? = some v:=⟨_,List.getElem?_eq_getElem (by rw [hkT.1];exact hix)⟩
      obtain⟨p,hp,rp,rfl,hrp⟩:=hkT.2 _ v hv
      have hat:atI ts ((k:Int) - q.2) = some (.ref rp):=by
       rw [show (k:Int) - q.2 = ((k - q.2.toNat:Nat):Int) by omega];exact atI_nat hv
      have fin:spPut [.int need,.ref rp,.int q.1] G (fun y H5=>N (as.map V.ref ++ [y]) [some (.int q.1),some (.int q.2),some (.int need),some (.ref t),some (.int (k:Int)),some (.ref st)] H5) E0:=by
       refine⟨need,rp,p,q.1,rfl,sG _ _ hrp,fun r2 G2 n2 s2 e2=>hN _ _ _ ⟨sG.trans s2,as ++ [r2],_,_,by rw [List.map_append];rfl,by rw [List.length_append,hal];rfl,?_,rfl⟩⟩
       have hm:(made need T k steps)[j]? = some (putP need p q.1):=by
        unfold made
        rw [List.getElem?_map,hq]
        show some (putP need (T.getD (k - q.2.toNat) (0,0)) q.1) = _
        rw [List.getD_eq_getElem?_getD,hp];rfl
       rw [List.take_add_one,hm,List.map_append]
       exact (hk.same s2).snoc e2
      refine⟨_,rfl,_,rfl,_,rfl,_,rfl,_,_,rfl,rfl,?_⟩
      rcases hT with e | e
      · exact .inl ⟨t,_,_,_,rfl,rfl,SqL.of (sG _ _ e),hat,_,rfl,fin⟩
      · exact .inr (.inl ⟨t,_,_,_,rfl,rfl,SqT.of (sG _ _ e),hat,_,rfl,fin⟩)
    · rintro ys σ G ⟨sG,as,x0,y0,rfl,hal,hk,rfl⟩ pl G1 npl s1 e1
      rw [List.take_of_length_le (by unfold made;rw [List.length_map];omega)] at hk
      exact h pl as G1 (none_of sG npl) (sG.trans s1) e1 (hk.same s1)
section
local macro_rules | `(tactic| wtm_at "pi")=>`(tactic| (apply EG.k_enum;(wtm_at "K");(with_reducible rfl);(rfl);(assumption);(rfl);(wtm_at "pa")))
local macro_rules | `(tactic| wtm_at "call")=>`(tactic| (apply k_maxTD;(wtm_at "K");(assumption);(rfl);(rfl);(rfl);(with_reducible rfl);(with_reducible rfl);(rfl);(assumption);(wtm_at "pa");(wtm_at "pe")))
abbrev sTabBy:Stmt:=top 31
theorem scTabBy:FnScope ["need","lasts","table","place","steps"] ["need","lasts"] (defScope sTabBy):=by wtm_at "sc"
def spTabBy:Sp:=fun vs H Q _=>∃ (need:Int) (ll:Addr) (ls:List Addr) (LL:List (Qs)),vs = [.int need,.ref ll]/\H ll = some (.lst (ls.map V.ref))/\LsAt H ls LL/\ls.length<=2000/\(∀ k steps,LL[k]? = some steps->StepsOk k steps/\steps.length<=9)/\
 ∀ (tt:Addr) (us:List V) (T:Qs) (H':Hp),L2.Same H H'->H' tt = some (.tup us)->Kinds H' us T->IsTab need LL T->Nng T->Q (.ref tt) H'
theorem ok_tabBy (F:Fun K "table_by" "table_by" sTabBy Z fd) (cM:Callee CX0 P W K mg base "made_last" 2 ["need","table","place","steps"] spMade) (mE:mg "enumerate" = none) (mX:mg "max" = none) (mT:mg "tuple" = none):FnOk P W K mg base CX0 3 Z fd ["need","lasts"] spTabBy:=by
 refine Br.Fun.j F scTabBy (fun vs H Q E h=>?_) (fun _ A _ s H vs Q E hr h=>?_)
 · obtain⟨_,_,_,_,rfl,_⟩:=h;rfl
 · obtain⟨need,ll,ls,LL,rfl,hl,hL,hl2,hok,h⟩:=h
   have nd:=scTabBy.nd
   have hsz:=sizeLine_eq
   have hll:=hL.1
   refine' ⟨_,?d,?r⟩
   case d=>wtm_at "body"
   case r=>
    refine⟨by simp,fun tb H1 ntb s1 e1=>?_⟩
    refine⟨_,rfl,false,ll,_,rfl,SqL.of (s1 _ _ hl),?_⟩
    have okS:∀ k steps,LL[k]? = some steps->StepsOk k steps:=fun k st e=>(hok k st e).1
    refine EG.for_enum (f:=false) (K:=K) (a:=ll) (xs:=ls.map V.ref) (fun k σ G=>L2.Same H G/\∃ (ts:List V) (T:Qs) (x y:Option V),G tb = some (.lst ts)/\Kinds G ts T/\IsTab need (LL.take k) T/\Nng T/\σ = [some (.int need),some (.ref ll),some (.ref tb),x,y])
     ⟨s1,[],[],none,none,e1,Kinds.nil,⟨rfl,fun k st v e=>by simp at e⟩,fun v hv=>(nomatch hv),rfl⟩ (fun k σ G _ ⟨sG,_⟩=>SqL.of (sG _ _ hl)) ?_ ?_
    · rintro k x σ G T hx ⟨sG,ts,TT,x0,y0,etb,hk,tab,nn,rfl⟩ nT
      rw [List.getElem?_map] at hx
      obtain⟨a,ha,rfl⟩:=Option.map_eq_some_iff.mp hx
      obtain⟨steps,ss,hst,hss,hks⟩:=hL.2 k a ha
      obtain⟨ok1,ok8⟩:=hok k steps hst
      have hkl:k < LL.length:=(List.getElem?_eq_some_iff.mp hst).1
      have hTl:TT.length = k:=by rw [tab.1,List.length_take];omega
      have sT:L2.Same G (upd G T (.tup [.int (k:Int),.ref a])):=Br.Same.upd nT
      generalize hG1:upd G T (.tup [.int (k:Int),.ref a]) = G1 at sT
      have eT:G1 T = some (.tup [.int (k:Int),.ref a]):=by rw [<- hG1];exact upd_same
      refine⟨T,_,rfl,SqT.of eT,rfl,_,_,rfl,_,_,rfl,rfl,?_⟩
      have etb1:=sT _ _ etb
      have sH1:=sG.trans sT
      refine⟨_,rfl,.inl ⟨rfl,_,SqL.of etb1⟩,?_⟩
      refine⟨_,rfl,_,rfl,_,rfl,_,rfl,need,tb,a,k,ts,ss,TT,steps,rfl,.inl etb1,hk.same sT,by omega,sH1 _ _ hss,hks.same sH1,ok1,ok8,fun lm as G2 nlm s2 e2 hk2=>?_⟩
      refine⟨lenLe (n:=2) rfl (by decide),fun d G3 nd3 s3 e3=>?_⟩
      have hk3:=hk2.same s3
      obtain⟨kt1,kt2⟩:=kinds_tups (K:=K) hk3
      have sT3:=sT.trans (s2.trans s3)
      have etb3:=s3 _ _ (s2 _ _ etb1)
      have fin:∀ (a2:Addr) (v:Int×Int),IsBest (made need TT k steps) v->G3 a2 = some (.tup [.int v.1,.int v.2])->∃ l xs y,V.ref tb = .ref l/\[V.ref a2] = [y]/\G3 l = some (.lst xs)/\xs.length < sizeLine/\
       (L2.Same H (upd G3 l (.lst (xs ++ [y])))/\∃ (ts:List V) (T:Qs) (x y2:Option V),upd G3 l (.lst (xs ++ [y])) tb = some (.lst ts)/\Kinds (upd G3 l (.lst (xs ++ [y]))) ts T/\IsTab need (LL.take (k + 1)) T/\Nng T/\[some (.int need),some (.ref ll),some (.ref tb),some (.int (k:Int)),some (.ref a)] = [some (.int need),some (.ref ll),some (.ref tb),x,y2]):=fun a2 v hb ea=>by
       refine⟨tb,ts,_,rfl,rfl,etb3,by rw [hk.1,hTl,hsz];omega,fun c o e=>?_,ts ++ [.ref a2],TT ++ [v],_,_,upd_same,?_,isTab_snoc okS tab hst hb,fun u hu=>?_,rfl⟩
       · rw [upd_ne (ne_of_none e ntb)];exact sT3 _ _ (sG _ _ e)
       · have tu:Tu G3 (upd G3 tb (.lst (ts ++ [.ref a2]))):=fun c o e ⟨xs,ho⟩=>by
          rw [upd_ne (fun z=>by rw [z,etb3] at e;cases e;cases ho)];exact e
         exact ((hk.same sT3).tu tu).snoc (tu _ _ ea ⟨_,rfl⟩)
       · rcases List.mem_append.mp hu with z | z
         · exact nn u z
         · rw [List.mem_singleton.mp z];exact best_nn hb (made_nn ok1 nn)
      refine⟨lm,as,(made need TT k steps).map pl2,rfl,SqL.of (s3 _ _ e2),kt1,kt2,fun h0 a2 ha2=>?_,fun h0=>?_⟩
      · obtain⟨v,hb,hv,_⟩:=best_of hk3 h0 ha2
        exact fin a2 v hb hv
      · refine fin d (0,0) (.inl ⟨?_,rfl⟩) e3
        have:=hk3.1
        rw [List.length_map,h0] at this
        exact List.length_eq_zero_iff.mp this.symm
    · rintro σ G ⟨sG,ts,TT,x0,y0,etb,hk,tab,nn,rfl⟩
      rw [List.length_map,List.take_of_length_le (by omega)] at tab
      refine⟨_,rfl,tb,_,rfl,SqL.of etb,fun t2 G2 n2 s2 e2=>?_⟩
      exact h t2 ts TT G2 (sG.trans s2) e2 (hk.same s2) tab nn
end
abbrev sTabOf:Stmt:=top 32
theorem scTabOf:FnScope ["heap"] ["heap"] (defScope sTabOf):=⟨rfl,rfl,rfl,by simp,rfl,by decide +kernel,by decide +kernel⟩
theorem LS_8 (h8:qs.length<=9):∀ (k:Nat) (steps:Qs),(LS qs)[k]? = some steps->steps.length<=9:=fun k steps h=>by
 unfold LS at h
 rw [List.getElem?_map] at h
 obtain⟨w,hw,rfl⟩:=Option.map_eq_some_iff.mp h
 unfold lastsOf
 rw [List.length_map]
 refine Nat.le_trans (List.length_filter_le _ _) ?_
 rw [List.length_zip,paces_len]
 omega
def spTabOf:Sp:=fun vs H Q _=>∃ (h:Addr) (need:Int) (qs:Qs),vs = [.ref h]/\HeapAt H h need qs/\(qs.map (·.2)).sum<=60/\prodc qs<=2000/\
 ∀ (tt:Addr) (us:List V) (T:Qs) (H':Hp),L2.Same H H'->H' tt = some (.tup us)->Kinds H' us T->IsTab need (LS qs) T->Nng T->Q (.ref tt) H'
theorem ok_tabOf (F:Fun K "table_of" "table_of" sTabOf Z fd) (cL:Callee CX0 P W K mg base "lasts_of" 4 ["heap"] spLasts) (cB:Callee CX0 P W K mg base "table_by" 3 ["need","lasts"] spTabBy):FnOk P W K mg base CX0 5 Z fd ["heap"] spTabOf:=by
 refine Br.Fun.j F scTabOf (fun vs H Q E h=>?_) (fun _ A _ s H vs Q E hr h=>?_)
 · obtain⟨_,_,_,rfl,_⟩:=h;rfl
 · obtain⟨hp,need,qs,rfl,hh,hs60,hp2,h⟩:=h
   refine' ⟨_,?d,?r⟩
   case d=>wtm_at "body"
   case r=>
    obtain⟨t,us0,h1,h2,h3,h4,h5,h6,h7⟩:=id hh
    refine⟨_,rfl,.inr (.inl ⟨hp,_,_,_,rfl,rfl,SqT.of h1,(rfl),?_⟩)⟩
    refine⟨_,rfl,hp,need,qs,rfl,hh,hs60,hp2,fun l ls H1 nl s1 e1 hL hl=>?_⟩
    refine⟨need,l,ls,LS qs,rfl,e1,hL,hl,fun k st e=>⟨LS_ok (fun q h=>⟨(h7 q h).1,(h7 q h).2.2.1⟩) k st e,LS_8 h4 k st e⟩,fun tt us T H2 s2 e2 hk tab nn=>?_⟩
    exact h tt us T H2 (s1.trans s2) e2 hk tab nn
theorem LS_ne (qs:Qs) (hq:∀ q∈qs,1<=q.2):0 < (LS qs).length:=by
 rw [LS_len]
 obtain⟨i,hi⟩:=(ways_ok _ (cnts qs).length (Nat.le_refl _)).all (List.replicate (cnts qs).length 0) (by simp) fun j x h=>by
  obtain⟨h1,h2⟩:=List.getElem?_eq_some_iff.mp h
  rw [List.getElem_replicate] at h2
  rw [List.length_replicate] at h1
  exact⟨by omega,_,List.getElem?_eq_getElem h1,by omega⟩
 rw [List.take_length] at hi
 have:=(List.getElem?_eq_some_iff.mp hi).1
 omega
theorem atI_end {u:V} (h:us[us.length - 1]? = some u):atI us (-1) = some u:=by
 rcases List.eq_nil_or_concat us with e | ⟨l,b,e⟩
 · simp_all
 · rw [List.concat_eq_append] at e;rw [e] at h ⊢
   simp at h
   rw [h];exact atI_last _ _
def MostOf (need:Int) (qs:Qs) (v:Int×Int):Prop:=∃ T,IsTab need (LS qs) T/\Nng T/\T[T.length - 1]? = some v
theorem MostOf.uniq (hq:∀ q∈qs,1<=q.1/\1<=q.2) (h:MostOf need qs v) (h':MostOf need qs v'):v = v':=by
 obtain⟨T,h1,_,h2⟩:=h
 obtain⟨T',h1',_,h2'⟩:=h'
 have e:=tab_uniq (LS_ok hq) h1 h1'
 simp_all
theorem ok_tabOfX (F:Fun K "table_of" "table_of" sTabOf Z fd) (cB:Callee CX0 P W K mg base "table_by" 3 ["need","lasts"] spTabBy) (cL:Callee (CXF P W) P W K mg base "lasts_of" 4 ["heap"] (spX C)):FnOk P W K mg base (CXF P W) 5 Z fd ["heap"] (spX C):=by
 refine Br.Fun.jX F scTabOf (fun vs H Q E h=>?_) (fun _ A _ s H vs Q E hr h=>?_)
 · obtain⟨_,_,_,rfl,_⟩:=h;rfl
 · obtain⟨hp,need,qs,rfl,hh,hb,h⟩:=h
   refine' ⟨_,?d,?r⟩
   case d=>wtm_at "body"
   case r=>
    obtain⟨t,us0,h1,h2,h3,h4,h5,h6,h7⟩:=id hh
    refine⟨_,rfl,.inr (.inl ⟨hp,_,_,_,rfl,rfl,SqT.of h1,(rfl),?_⟩)⟩
    exact⟨_,rfl,hp,need,qs,rfl,hh,hb,h⟩
theorem lex_snoc_eq:∀ (w:List Int) (a b:Int),HT.lexLt (w ++ [a]) (w ++ [b]) = decide (a < b)
 | [],a,b=>by
  show HT.lexLt [a] [b] = _
  rw [HT.lexLt_cons]
  by_cases e:a = b
  · subst e;simp [HT.lexLt_nil_nil]
  simp_all
 | x :: w,a,b=>by
  show HT.lexLt (x :: (w ++ [a])) (x :: (w ++ [b])) = _
  rw [HT.lexLt_cons,if_pos rfl,lex_snoc_eq w a b]
theorem lex_snoc:∀ {u v:List Int} (a b:Int),u.length = v.length->HT.lexLt u v = true->HT.lexLt (u ++ [a]) (v ++ [b]) = true
 | [],[],a,b,_,h=>by cases h
 | x :: u,y :: v,a,b,hl,h=>by
  show HT.lexLt (x :: _) (y :: _) = _
  rw [HT.lexLt_cons] at h ⊢
  by_cases e:x = y
  · rw [if_pos e] at h ⊢;exact lex_snoc a b (by simp_all) h
  simp_all
theorem ways_rise (ms:List Nat):∀ n,n<=ms.length->∀ (k k':Nat) (u u':List Int),k < k'->(waysL (ms.take n))[k]? = some u->(waysL (ms.take n))[k']? = some u'->HT.lexLt u u' = true
 | 0,_,k,k',u,u',hk,h,h'=>by
  have e:waysL (ms.take 0) = [[]]:=rfl
  rw [e] at h'
  cases k' with
  | zero=>omega
  | succ k'=>simp at h'
 | n + 1,hn,k,k',u,u',hk,h,h'=>by
  obtain⟨m,hm⟩:∃ m,ms[n]? = some m:=⟨_,List.getElem?_eq_getElem (by omega)⟩
  rw [waysL_take hm] at h h'
  obtain⟨i,t,w,h1,hw,rfl,rfl⟩:=fm_inv h
  obtain⟨i',t',w',h1',hw',rfl,rfl⟩:=fm_inv h'
  have ok:=ways_ok ms n (by omega)
  have hl:=ok.len i w hw
  have hl':=ok.len i' w' hw'
  by_cases e:i = i'
  · subst e
    rw [hw] at hw';cases hw'
    rw [lex_snoc_eq]
    exact decide_eq_true (by omega)
  · have hlt:i < i':=by
     by_cases z:i < i'
     · exact z
     · have:(i' + 1) * (m + 1)<=i * (m + 1):=Nat.mul_le_mul_right _ (by omega)
       rw [Nat.succ_mul] at this
       omega
    exact lex_snoc _ _ (by omega) (ways_rise ms n (by omega) i i' w w' hlt hw hw')
def kys (w:List Int):List Key:=w.map Sum.inl
theorem kys_v (w:List Int):(kys w).map kV = w.map V.int:=by unfold kys;rw [List.map_map];rfl
theorem kys_inj:∀ {w u:List Int},kys w = kys u->w = u
 | [],[],_=>rfl
 | [],b :: u,h=>by cases h
 | a :: w,[],h=>by cases h
 | a :: w,b :: u,h=>by
  injection h with h1 h2
  injection h1 with h1
  rw [h1,kys_inj h2]
def less (w:List Int) (j:Nat):List Int:=w.set j (w.getD j 0 - 1)
def jsOf (w:List Int) (n:Nat):List Nat:=(List.range n).filter fun j=>decide (0 < w.getD j 0)
theorem jsOf_succ (w:List Int) (n:Nat):jsOf w (n + 1) = jsOf w n ++ (if 0 < w.getD n 0 then [n] else []):=by
 unfold jsOf
 rw [List.range_succ,List.filter_append]
 by_cases h:0 < w.getD n 0
 · simp_all
 simp_all
theorem zip_range:∀ {w:List Int}{ps:Qs},w.length = ps.length->w.zip ps = (List.range ps.length).map fun j=>(w.getD j 0,ps.getD j (0,0)):=fun {w ps} h=>by
 apply List.ext_getElem?
 intro i
 rw [List.getElem?_map]
 by_cases hi:i < ps.length
 · simp_all
 grind
theorem lasts_js (h:w.length = ps.length):lastsOf w ps = (jsOf w ps.length).map fun j=>ps.getD j (0,0):=by
 unfold lastsOf jsOf
 rw [zip_range h,List.filter_map,List.map_map]
 rfl
def DkAt (H:Hp) (kvs:List (List Key×V)) (qs T:Qs):Prop:=∀ (i:Nat) w v,(waysL (cnts qs))[i]? = some w->T[i]? = some v->∃ a:Addr,valV kvs (kys w) = some (.ref a)/\H a = some (.tup [.int v.1,.int v.2])
theorem max_step (e:v' = if HT.lexLt (pl2 v) (pl2 x) = true then x else v) (hv:v∈l) (hm:∀ y∈l,HT.lexLt (pl2 v) (pl2 y) = false):v'∈l ++ [x]/\∀ y∈l ++ [x],HT.lexLt (pl2 v') (pl2 y) = false:=by
 subst e
 by_cases h:HT.lexLt (pl2 v) (pl2 x) = true
 · rw [if_pos h]
   refine⟨List.mem_append_right _ (.head _),fun y hy=>?_⟩
   rcases List.mem_append.mp hy with z | z
   · cases e:HT.lexLt _ _ with
     | false=>rfl
     | true=>have:=lexLt_tr h e;simp_all
   · rw [List.mem_singleton.mp z];exact lexLt_irr _
 · rw [if_neg h]
   refine⟨List.mem_append_left _ hv,fun y hy=>?_⟩
   rcases List.mem_append.mp hy with z | z
   · simp_all
   simp_all
theorem ways_end:∀ (ms:List Nat) (n:Nat),n<=ms.length->(waysL (ms.take n)).getLast? = some ((ms.take n).map Int.ofNat)
 | ms,0,_=>rfl
 | ms,n + 1,h=>by
  have hm:ms[n]? = some ms[n]:=List.getElem?_eq_getElem (by omega)
  have ih:=ways_end ms n (by omega)
  rw [waysL_take hm]
  obtain⟨l,e⟩:∃ l,waysL (ms.take n) = l ++ [(ms.take n).map Int.ofNat]:=by
   rcases List.eq_nil_or_concat (waysL (ms.take n)) with z | ⟨l,b,z⟩
   · rw [z] at ih;cases ih
   · rw [List.concat_eq_append] at z
     rw [z,List.getLast?_append] at ih
     simp at ih
     exact⟨l,by rw [z,ih,List.map_take]⟩
  rw [e,List.flatMap_append,List.flatMap_cons,List.flatMap_nil,List.append_nil,List.getLast?_append]
  have e2:(ext ms[n] ((ms.take n).map Int.ofNat)).getLast? = some ((ms.take n).map Int.ofNat ++ [(ms[n]:Int)]):=by
   unfold ext
   rw [List.range_succ,List.map_append,List.getLast?_append];rfl
  rw [e2,List.take_add_one,hm,List.map_append];rfl
theorem ways_top (hq:∀ q∈qs,1<=q.2):(waysL (cnts qs))[(LS qs).length - 1]? = some (qs.map (·.2)):=by
 have h:=ways_end _ (cnts qs).length (Nat.le_refl _)
 rw [List.take_length] at h
 rw [LS_len,<- List.getLast?_eq_getElem?,h]
 unfold cnts
 rw [List.map_map]
 congr 1
 refine List.map_congr_left fun q hm=>?_
 grind
section
local macro_rules | `(tactic| wtm_at "op")=>`(tactic| first | apply o_addB | apply o_addC)
local macro_rules | `(tactic| wtm_at "call")=>`(tactic| (apply k_max2T;(wtm_at "K");(assumption);(rfl);(rfl);(rfl);(with_reducible rfl);(rfl);(assumption);(wtm_at "pa")))
local macro_rules | `(tactic| wtm_at "pe")=>`(tactic| first | apply j_dictT | (apply j_dgetA "known";(assumption);(exact fun _ _=>rfl);(wtm_at "pe");(wtm_at "pe")))
local macro_rules | `(tactic| wtm_at "ps")=>`(tactic| (apply s_dputA "known";(assumption);(rfl);(wtm_at "pe");(wtm_at "pe");(wtm_at "pe")))
abbrev sPair:Stmt:=top 47
theorem scPair:FnScope ["heap","need","kinds","known","way","best","at","bins","lying"] ["heap"] (defScope sPair):=by wtm_at "sc"
def spPair:Sp:=fun vs H Q _=>∃ (h:Addr) (need:Int) (qs:Qs),vs = [.ref h]/\HeapAt H h need qs/\prodc qs<=2000/\
 ∀ (a:Addr) (v:Int×Int) (H':Hp),L2.Same H H'->H' a = some (.tup [.int v.1,.int v.2])->MostOf need qs v->Q (.ref a) H'
theorem ok_pair (F:Fun K "_law_pair" "_law_pair" sPair Z fd) (cW:Callee CX0 P W K mg base "_law_ways" 1 ["heap"] spWays) (mX:mg "max" = none) (mR:mg "range" = none) (mL:mg "len" = none) (mT:mg "tuple" = none):FnOk P W K mg base CX0 2 Z fd ["heap"] spPair:=by
 refine Br.Fun.j F scPair (fun vs H Q E h=>?_) (fun _ A _ s H vs Q E hr h=>?_)
 · obtain⟨_,_,_,rfl,_⟩:=h;rfl
 · obtain⟨hp,need,qs,rfl,hh,hp2,h⟩:=h
   obtain⟨t,us,h1,h2,h3,h4,h5,h6,h7⟩:=id hh
   have nd:=scPair.nd
   have hsz:=sizeLine_eq
   have hul:=h3.1
   have hq1:∀ q∈qs,1<=q.2:=fun q h=>(h7 q h).2.2.1
   have hN:=prodc_N hq1
   refine' ⟨_,?d,?r⟩
   case d=>wtm_at "body"
   case r=>
    have hN2:prodN (cnts qs)<=2000:=by omega
    have okS:=LS_ok (qs:=qs) fun q h=>⟨(h7 q h).1,(h7 q h).2.2.1⟩
    refine⟨_,rfl,hp,_,rfl,SqT.of h1,rfl,_,_,rfl,_,_,rfl,rfl,?_⟩
    refine fun d H1 hd s1 e1=>?_
    refine⟨_,rfl,hp,need,qs,rfl,hh.same s1,hN2,fun l as H2 nl s2 e2 al hal=>?_⟩
    refine⟨l,rfl,.inl ⟨⟨_,SqL.of e2⟩,?_⟩⟩
    have hlen:=al.len
    have s12:=s1.trans s2
    have ld:l≠d:=fun z=>by rw [z,e1] at nl;cases nl
    have tud:∀ {G:Hp},Mo [d] H2 G->Tu H2 G:=fun m c o e ⟨xs,ho⟩=>m c o (fun z=>by rw [List.mem_singleton.mp z,s2 _ _ e1] at e;cases e;cases ho) e
    refine for_list (K:=K) (a:=l) (xs:=as.map V.ref) (fun i σ G=>Mo [d] H2 G/\∃ (kvs:List (List Key×V)) (T:Qs) (x4 x5 x6 x7 x8:Option V),G d = some (.dT kvs)/\kvs.length<=i/\IsTab need ((LS qs).take i) T/\Nng T/\DkAt G kvs qs T/\
     σ = [some (.ref hp),some (.int need),some (.ref t),some (.ref d),x4,x5,x6,x7,x8])
     ⟨Mo.refl,[],[],none,none,none,none,none,s2 _ _ e1,Nat.le_refl _,⟨rfl,fun k st v e=>by simp at e⟩,fun v hv=>(nomatch hv),fun i w v _ e=>by simp at e,rfl⟩ (fun i σ G _ ⟨m,_⟩=>SqL.of (m _ _ (fun z=>ld (List.mem_singleton.mp z)) e2)) ?_ ?_
    · rintro i x σ G hx ⟨mG,kvs,T,x4,x5,x6,x7,x8,eD,hkl,tab,nn,hD,rfl⟩
      rw [List.getElem?_map] at hx
      obtain⟨a,ha,rfl⟩:=Option.map_eq_some_iff.mp hx
      obtain⟨w,hw,hwa⟩:=al.get ha
      have hil:i < (waysL (cnts qs)).length:=(List.getElem?_eq_some_iff.mp hw).1
      have hwl:w.length = qs.length:=by
       have:=(ways_ok (cnts qs) (cnts qs).length (Nat.le_refl _)).len i w (by rw [List.take_length];exact hw)
       rw [this];unfold cnts;rw [List.length_map]
      have hTl:T.length = i:=by rw [tab.1,List.length_take,LS_len];omega
      have tG:=tud mG
      have hwG:=tG _ _ hwa ⟨_,rfl⟩
      have htG:FrT G t us:=by
       obtain⟨o,b,e⟩:=h2.same s12
       exact⟨o,b,mG _ _ (fun z=>by rw [List.mem_singleton.mp z,s2 _ _ e1] at e;cases e) e⟩
      have hkG:=(h3.same s12).tu tG
      have hls:lastsOf w (paces qs) = (jsOf w qs.length).map fun j=>(paces qs).getD j (0,0):=by
       have:=lasts_js (w:=w) (ps:=paces qs) (by rw [paces_len];exact hwl)
       rw [paces_len] at this;exact this
      have hLi:(LS qs)[i]? = some (lastsOf w (paces qs)):=LS_at hw
      generalize hmk:(fun j:Nat=>putP need (T.getD (i - ((paces qs).getD j (0,0)).2.toNat) (0,0)) ((paces qs).getD j (0,0)).1) = mk
      have hmd:made need T i (lastsOf w (paces qs)) = (jsOf w qs.length).map mk:=by
       rw [hls,<- hmk];unfold made;rw [List.map_map];rfl
      refine⟨lenLe (n:=2) rfl (by decide),fun z0 G0 n0 s0 e0=>?_⟩
      refine⟨_,rfl,.inl ⟨t,_,rfl,.inr ((htG.same s0).sq),_,rfl,by omega,by omega,for_range (fun k σ G'=>L2.Same G G'/\∃ (bA:Addr) (v:Int×Int) (x6 x7 x8:Option V),G' bA = some (.tup [.int v.1,.int v.2])/\v∈(0,0) :: (jsOf w k).map mk/\(∀ x∈(0,0) :: (jsOf w k).map mk,HT.lexLt (pl2 v) (pl2 x) = false)/\
       σ = [some (.ref hp),some (.int need),some (.ref t),some (.ref d),some (.ref a),some (.ref bA),x6,x7,x8])
       ⟨s0,z0,(0,0),x6,x7,x8,e0,.head _,fun x hx=>by rw [List.mem_singleton.mp hx];exact lexLt_irr _,rfl⟩ ?_ ?_⟩⟩
      · rintro k σ G' hk' ⟨sG,bA,v,x6,x7,x8,eB,hv1,hv2,rfl⟩
        have hkq:k < qs.length:=by omega
        obtain⟨x,hx⟩:∃ x,w[k]? = some x:=⟨_,List.getElem?_eq_getElem (by omega)⟩
        obtain⟨vk,hvk⟩:∃ v,us[k]? = some v:=⟨_,List.getElem?_eq_getElem (by omega)⟩
        obtain⟨q,hq,rr,rfl,hrr⟩:=hkG.2 k vk hvk
        have hxd:w.getD k 0 = x:=by rw [List.getD_eq_getElem?_getD,hx];rfl
        have haG:=sG _ _ hwG
        have hat:atI (w.map V.int) (0 + (k:Int)) = some (.int x):=by rw [Int.zero_add];exact atI_nat (by rw [List.getElem?_map,hx];rfl)
        have hatK:atI us (0 + (k:Int)) = some (.ref rr):=by rw [Int.zero_add];exact atI_nat hvk
        refine⟨_,?_,fun _ _ h=>h⟩
        refine⟨_,rfl,_,rfl,.inr (.inl ⟨a,_,_,_,rfl,rfl,SqT.of haG,hat,?_⟩)⟩
        refine⟨_,_,rfl,rfl,_,rfl,ite2 (fun hc=>?_) (fun hc=>?_)⟩
        · have hx0:0 < x:=of_decide_eq_true hc
          have hcut1:cutV (w.map V.int) none (some (0 + (k:Int))) = (w.take k).map V.int:=by
           rw [Int.zero_add]
           unfold cutV
           rw [HT.sIx_nat,HT.sIx_none,List.length_map,Nat.min_eq_left (by omega),List.drop_zero,Nat.sub_zero,List.map_take]
          have hcut2:cutV (w.map V.int) (some (0 + (k:Int) + 1)) none = (w.drop (k + 1)).map V.int:=by
           rw [show (0 + (k:Int) + 1) = ((k + 1:Nat):Int) by omega,cut_dropV,List.map_drop]
          obtain⟨pb1,pb2,pb3⟩:=pace_back hq1 hw hx hx0
          have hpd:(paces qs).getD k (0,0) = (q.1,prodc (qs.drop (k + 1))):=by rw [List.getD_eq_getElem?_getD,paces_at hq];rfl
          generalize hpc:prodc (qs.drop (k + 1)) = pc at pb1 pb2 pb3 hpd
          obtain⟨p,hp'⟩:∃ p,T[i - pc.toNat]? = some p:=⟨_,List.getElem?_eq_getElem (by omega)⟩
          obtain⟨A0,v1,v2⟩:=hD _ _ _ pb3 hp'
          refine⟨_,rfl,?_⟩
          wtm_at "rd"
          refine⟨a,_,rfl,.inr ⟨SqT.of haG,fun⟨_,z⟩=>?_,fun u1 G2 hu1 s2' e2'=>?_⟩⟩
          · rw [Int.zero_add,HT.sIx_nat,List.length_map] at z;omega
          rw [hcut1] at e2'
          wtm_at "rd"
          refine .inr (.inl ⟨a,_,_,_,rfl,rfl,SqT.of (s2' _ _ haG),hat,_,_,rfl,rfl,?_⟩)
          refine⟨lenLe (n:=1) rfl (by decide),fun u2 G3 hu2 s3' e3'=>?_⟩
          refine .inr ⟨u1,u2,_,_,rfl,rfl,s3' _ _ e2',e3',by rw [List.length_map,List.length_take,hsz];simp only [List.length_cons,List.length_nil];omega,fun u3 G4 s4' e4'=>?_⟩
          have s24:=s2'.trans (s3'.trans s4')
          wtm_at "rd"
          refine⟨a,_,rfl,.inr ⟨SqT.of (s24 _ _ haG),fun⟨z,_⟩=>?_,fun u4 G5 hu4 s5' e5'=>?_⟩⟩
          · rw [show (0 + (k:Int) + 1) = ((k + 1:Nat):Int) by omega,HT.sIx_nat,List.length_map] at z;omega
          rw [hcut2] at e5'
          refine .inr ⟨u3,u4,_,_,rfl,rfl,s5' _ _ e4',e5',by rw [List.length_append,List.length_map,List.length_map,List.length_take,List.length_drop,hsz];simp only [List.length_cons,List.length_nil];omega,fun u5 G6 s6' e6'=>?_⟩
          have s26:=s24.trans (s5'.trans s6')
          have e6:G6 u5 = some (.tup ((kys (w.set k (x - 1))).map kV)):=by
           rw [kys_v,e6',List.set_eq_take_append_cons_drop,if_pos (by omega),List.map_append,List.map_cons,List.append_assoc];rfl
          have sGG:=sG.trans s26
          have dg:=DGet.t (sGG _ _ eD) e6
          rw [v1] at dg
          refine⟨d,.ref A0,rfl,dg,?_⟩
          refine⟨A0,_,rfl,SqT.of (sGG _ _ v2),rfl,_,_,rfl,_,_,rfl,rfl,?_⟩
          refine⟨_,rfl,_,rfl,_,rfl,.inr (.inl ⟨t,_,_,_,rfl,rfl,(htG.same sGG).sq,hatK,?_⟩)⟩
          refine .inr (.inl ⟨rr,_,_,_,rfl,rfl,SqT.of (sGG _ _ hrr),(show atI [V.int q.1,V.int q.2] 0 = some (.int q.1) from rfl),.inl ⟨_,_,rfl,rfl,?_⟩⟩)
          have hmkk:mk k = putP need p q.1:=by
           rw [<- hmk]
           show putP need (T.getD (i - ((paces qs).getD k (0,0)).2.toNat) (0,0)) ((paces qs).getD k (0,0)).1 = _
           rw [hpd]
           show putP need (T.getD (i - pc.toNat) (0,0)) q.1 = _
           rw [List.getD_eq_getElem?_getD,hp'];rfl
          refine⟨fun σ' G'=>G' = G6/\σ' = [some (.ref hp),some (.int need),some (.ref t),some (.ref d),some (.ref a),some (.ref bA),some (.int (0 + (k:Int))),some (.int (putP need p q.1).1),some (.int (putP need p q.1).2)],?_,?_⟩
          · refine⟨_,rfl,_,rfl,_,_,rfl,rfl,_,rfl,ite2 (fun hc2=>?_) (fun hc2=>?_)⟩
            · have hc2:=of_decide_eq_true hc2
              refine⟨_,rfl,.inl ⟨_,_,rfl,rfl,rfl,?_⟩⟩
              unfold putP
              rw [if_pos hc2];rfl
            · have hc2:¬ need<=p.2 + q.1:=fun z=>hc2 (decide_eq_true z)
              refine⟨rfl,?_⟩
              unfold putP
              rw [if_neg hc2];rfl
          rintro σ' G7 ⟨rfl,rfl⟩
          refine⟨_,rfl,_,rfl,_,rfl,lenLe (n:=2) rfl (by decide),fun r8 G8 n8 s8 e8=>?_⟩
          refine⟨bA,r8,pl2 v,pl2 (mk k),rfl,SqT.of (s8 _ _ (s26 _ _ eB)),by rw [hmkk];exact SqT.of e8,?_⟩
          have js:jsOf w (k + 1) = jsOf w k ++ [k]:=by rw [jsOf_succ,if_pos (by rw [hxd];exact hx0)]
          obtain⟨m1,m2⟩:=max_step (x:=mk k) rfl hv1 hv2
          have el:(0,0) :: (jsOf w (k + 1)).map mk = ((0,0) :: (jsOf w k).map mk) ++ [mk k]:=by rw [js,List.map_append];rfl
          refine⟨sGG.trans s8,_,(if HT.lexLt (pl2 v) (pl2 (mk k)) = true then mk k else v),_,_,_,?_,by rw [el];exact m1,by rw [el];exact m2,rfl⟩
          split
          · rw [hmkk];exact e8
          · exact s8 _ _ (s26 _ _ eB)
        · have js:jsOf w (k + 1) = jsOf w k:=by rw [jsOf_succ,if_neg (fun z=>hc (decide_eq_true (by rw [hxd] at z;exact z))),List.append_nil]
          exact⟨sG,bA,v,_,_,_,eB,by rw [js];exact hv1,by rw [js];exact hv2,rfl⟩
      · rintro σ G' ⟨sG,bA,v,x6,x7,x8,eB,hv1,hv2,rfl⟩
        have e:((us.length:Int)).toNat = qs.length:=by omega
        rw [e,<- hmd] at hv1 hv2
        have hb:=best_zero (made_nn (okS i _ hLi) nn) hv1 hv2
        have eD5:=sG _ _ eD
        have hwa':=sG _ _ hwG
        rw [<- kys_v] at hwa'
        refine⟨_,rfl,_,rfl,_,rfl,d,_,rfl,DPut.t eD5 hwa' (by rw [hsz];omega),?_⟩
        have tU:Tu G' (upd G' d (.dT (putK kvs (kys w) (.ref bA)))):=fun c o e ⟨xs,ho⟩=>by
         rw [upd_ne (fun z=>by rw [z,eD5] at e;cases e;cases ho)];exact e
        refine⟨mG.trans ((Mo.of sG).trans (Mo.put (by simp))),_,T ++ [v],_,_,_,_,_,upd_same,?_,isTab_snoc okS tab hLi hb,fun u hu=>?_,fun n u y hu hy=>?_,rfl⟩
        · have:=length_putK kvs (kys w) (.ref bA);omega
        · rcases List.mem_append.mp hu with z | z
          · exact nn u z
          · rw [List.mem_singleton.mp z];exact best_nn hb (made_nn (okS i _ hLi) nn)
        · by_cases hni:n < i
          · rw [List.getElem?_append_left (by omega)] at hy
            obtain⟨a',w1,w2⟩:=hD n u y hu hy
            have hne:u≠w:=fun e=>by
             have hr:=ways_rise (cnts qs) (cnts qs).length (Nat.le_refl _) n i u w hni
             rw [List.take_length] at hr
             have:=hr hu hw
             rw [e,lexLt_irr] at this;cases this
            exact⟨a',by rw [valV_put,if_neg (fun z=>hne (kys_inj z))];exact w1,tU _ _ (sG _ _ w2) ⟨_,rfl⟩⟩
          · have hne:n = i:=by have:=(List.getElem?_eq_some_iff.mp hy).1;rw [List.length_append] at this;simp at this;omega
            subst hne
            rw [hw] at hu;cases hu
            rw [List.getElem?_append_right (by omega),hTl,Nat.sub_self] at hy
            simp at hy;subst hy
            exact⟨bA,by rw [valV_put,if_pos rfl],tU _ _ eB ⟨_,rfl⟩⟩
    · rintro σ G ⟨mG,kvs,T,x4,x5,x6,x7,x8,eD,hkl,tab,nn,hD,rfl⟩
      rw [List.length_map,List.take_of_length_le (by rw [LS_len];omega)] at tab
      have sHG:L2.Same H G:=fun b o e=>mG b o (fun z=>by rw [List.mem_singleton.mp z,hd] at e;cases e) (s12 _ _ e)
      have htG:=h2.same sHG
      have hkG:=h3.same sHG
      have hTl:=tab.1
      have hl0:=LS_ne qs hq1
      refine⟨_,rfl,_,rfl,t,rfl,.inr ⟨⟨_,htG.sq⟩,?_⟩⟩
      refine cmp_tup (K:=K) (a:=t) (xs:=us) (fun j ys σ G'=>G' = G/\ys = (qs.take j).map (fun q=>V.int q.2)/\∃ x y:Option V,σ = [x,y,some (.ref hp),some (.int need),some (.ref t),some (.ref d),x4,x5,x6,x7,x8])
       ⟨rfl,rfl,none,none,rfl⟩ (by rw [hul];omega) (fun j ys σ G' _ ⟨e1,e2,_⟩=>⟨by rw [e1];exact htG.sq,by rw [e2,List.length_map,List.length_take];omega⟩) ?_ ?_
      · rintro j x ys σ G' N hx ⟨rfl,rfl,x0,y0,rfl⟩ hNx
        obtain⟨q,hq,r,rfl,hrr⟩:=hkG.2 j x hx
        refine⟨r,_,rfl,SqT.of hrr,rfl,_,_,rfl,_,_,rfl,rfl,?_⟩
        refine⟨_,rfl,hNx _ _ _ ⟨rfl,?_,_,_,rfl⟩⟩
        rw [List.take_add_one,hq,List.map_append];rfl
      rintro ys σ G' ⟨eG,rfl,x0,y0,rfl⟩ pl G1 hpl s3 e3
      rw [eG] at s3
      rw [hul,List.take_length] at e3
      refine⟨pl,_,rfl,SqL.of e3,fun tu G2 ntu s4 e4=>?_⟩
      obtain⟨v,hv⟩:∃ v,T[T.length - 1]? = some v:=⟨_,List.getElem?_eq_getElem (by omega)⟩
      have hwt:=ways_top hq1
      rw [<- hTl] at hwt
      obtain⟨A0,v1,v2⟩:=hD _ _ _ hwt hv
      have e5:G2 tu = some (.tup ((kys (qs.map (·.2))).map kV)):=by rw [kys_v,List.map_map];exact e4
      have dg:=DGet.t ((s3.trans s4) _ _ eD) e5
      rw [v1] at dg
      exact⟨d,.ref A0,rfl,dg,h A0 v G2 (sHG.trans (s3.trans s4)) ((s3.trans s4) _ _ v2) ⟨T,tab,nn,hv⟩⟩
end
def bt (q:Int×Int) (z:Int):Int:=if decide (V.int q.1 = V.int z) = true then 1 else 0
def wo (z:Int) (qs:Qs):Qs:=(qs.filter fun q=>decide (bt q z < q.2)).map fun q=>(q.1,q.2 - bt q z)
theorem bt_le (q:Int×Int) (z:Int):0<=bt q z/\bt q z<=1:=by unfold bt;grind
section
local macro_rules | `(tactic| wtm_at "call")=>`(tactic| (apply k_tupleF;(rfl);(rfl);(rfl);(wtm_at "K");(with_reducible rfl);(assumption);(wtm_at "pa")))
abbrev sWo:Stmt:=top 45
theorem scWo:FnScope ["heap","size"] ["heap","size"] (defScope sWo):=by wtm_at "sc"
def spWo:Sp:=fun vs H Q _=>∃ (h:Addr) (need z:Int) (qs:Qs),vs = [.ref h,.int z]/\HeapAt H h need qs/\∀ (h':Addr) (H':Hp),L2.Same H H'->HeapAt H' h' need (wo z qs)->Q (.ref h') H'
theorem ok_wo (F:Fun K "_law_without" "_law_without" sWo Z fd) (mT:mg "tuple" = none) (mI:mg "int" = none):FnOk P W K mg base CX0 1 Z fd ["heap","size"] spWo:=by
 refine Br.Fun.j F scWo (fun vs H Q E h=>?_) (fun _ A _ s H vs Q E hr h=>?_)
 · obtain⟨_,_,_,_,rfl,_⟩:=h;rfl
 · obtain⟨hp,need,z,qs,rfl,hh,h⟩:=h
   have nd:=scWo.nd
   have hsz:=sizeLine_eq
   obtain⟨t,us,h1,h2,h3,h4,h5,h6,h7⟩:=id hh
   have hul:=h3.1
   refine' ⟨_,?d,?r⟩
   case d=>wtm_at "body"
   case r=>
    refine⟨_,rfl,.inr (.inl ⟨hp,_,_,_,rfl,rfl,SqT.of h1,(show atI [V.int need,V.ref t] 0 = some (.int need) from rfl),?_⟩)⟩
    refine⟨_,rfl,.inr (.inl ⟨hp,_,_,_,rfl,rfl,SqT.of h1,(show atI [V.int need,V.ref t] 1 = some (.ref t) from rfl),?_⟩)⟩
    refine⟨t,rfl,.inr ⟨⟨_,h2.sq⟩,?_⟩⟩
    refine cmp_tup (K:=K) (a:=t) (xs:=us) (fun j ys σ G=>L2.Same H G/\ys.length<=j/\Kinds G ys (wo z (qs.take j))/\∃ x y:Option V,σ = [x,y,some (.ref hp),some (.int z)])
     ⟨L2.Same.refl _,Nat.le_refl _,Kinds.nil,none,none,rfl⟩ (by omega) (fun j ys σ G _ ⟨sG,e2,_⟩=>⟨(h2.same sG).sq,e2⟩) ?_ ?_
    · rintro j x ys σ G N hx ⟨sG,hyl,hk,x0,y0,rfl⟩ hN
      obtain⟨q,hq,r,rfl,hrr⟩:=h3.2 j x hx
      have step:wo z (qs.take (j + 1)) = wo z (qs.take j) ++ wo z [q]:=by
       unfold wo
       rw [List.take_add_one,hq,List.filter_append,List.map_append];rfl
      refine⟨r,_,rfl,SqT.of (sG _ _ hrr),rfl,_,_,rfl,_,_,rfl,rfl,?_⟩
      refine⟨_,rfl,_,rfl,_,rfl,rfl,.inr ⟨_,rfl,?_⟩⟩
      refine⟨_,_,rfl,rfl,_,rfl,ite2 (fun hc=>?_) (fun hc=>?_)⟩
      · refine⟨_,rfl,_,rfl,_,rfl,_,rfl,rfl,.inr ⟨_,rfl,_,_,rfl,rfl,?_⟩⟩
        refine⟨lenLe (n:=2) rfl (by decide),fun r2 G2 n2 s2 e2=>hN _ _ _ ⟨sG.trans s2,by rw [List.length_append];simp;omega,?_,_,_,rfl⟩⟩
        have e:wo z [q] = [(q.1,q.2 - bt q z)]:=by
         unfold wo
         rw [List.filter_cons,if_pos (show decide (bt q z < q.2) = true from hc)];rfl
        rw [step,e]
        exact (hk.same s2).snoc e2
      · refine hN _ _ _ ⟨sG,by omega,?_,_,_,rfl⟩
        rw [step]
        have e:wo z [q] = []:=by
         unfold wo
         rw [List.filter_cons,if_neg (show ¬ decide (bt q z < q.2) = true from hc)];rfl
        rw [e,List.append_nil];exact hk
    · rintro ys σ G ⟨sG,hyl,hk,x0,y0,rfl⟩ pl G1 npl s1 e1
      rw [hul,List.take_length] at hk
      refine⟨pl,_,rfl,SqL.of e1,fun tt ob G2 ntt b2 s2 e2=>?_⟩
      refine⟨lenLe (n:=2) rfl (by decide),fun h' G3 nh s3 e3=>?_⟩
      refine h h' G3 (sG.trans (s1.trans (s2.trans s3))) ⟨tt,ys,e3,⟨ob,b2,s3 _ _ e2⟩,hk.same (s1.trans (s2.trans s3)),?_,h5,h6,fun q hq=>?_⟩
      · unfold wo
        rw [List.length_map]
        exact Nat.le_trans (List.length_filter_le _ _) h4
      · unfold wo at hq
        obtain⟨q0,hq0,rfl⟩:=List.mem_map.mp hq
        obtain⟨m1,m2⟩:=List.mem_filter.mp hq0
        have m2:=of_decide_eq_true m2
        have:=h7 q0 m1
        have:=bt_le q0 z
        exact⟨by show 1<=q0.1;omega,by show q0.1<=_;omega,by show 1<=q0.2 - bt q0 z;omega,by show q0.2 - bt q0 z<=_;omega⟩
end
theorem ge2:HT.lexLt (pl2 u) (pl2 v) = false↔v.1 < u.1\/(v.1 = u.1/\v.2<=u.2):=by
 unfold pl2
 rw [HT.lexLt_cons]
 by_cases e:u.1 = v.1
 · rw [if_pos e,HT.lexLt_cons]
   by_cases e2:u.2 = v.2
   · rw [if_pos e2]
     exact⟨fun _=>.inr ⟨e.symm,by omega⟩,fun _=>rfl⟩
   grind
 grind
theorem put_mono (p0:0<=p.2) (z0:1<=z) (h:HT.lexLt (pl2 p) (pl2 F) = false):HT.lexLt (pl2 (putP need p z)) (pl2 (putP need F z)) = false:=by
 rw [ge2] at h ⊢
 unfold putP
 grind
def Cn (qs:Qs) (w zs:List Int):Prop:=(∀ z∈zs,∃ (j:Nat) (q:Int×Int),qs[j]? = some q/\q.1 = z)/\∀ (j:Nat) (q:Int×Int) (x:Int),qs[j]? = some q->w[j]? = some x->((zs.count q.1:Nat):Int) = x
theorem ris_at (h:Ris qs) {i j:Nat} (hi:qs[i]? = some q) (hj:qs[j]? = some r) (e:q.1 = r.1):i = j:=by
 obtain⟨h1,h2⟩:=List.getElem?_eq_some_iff.mp hi
 obtain⟨h3,h4⟩:=List.getElem?_eq_some_iff.mp hj
 rcases Nat.lt_trichotomy i j with z | z | z
 · have:=List.pairwise_iff_getElem.mp h i j h1 h3 z
   grind
 · omega
 · have:=List.pairwise_iff_getElem.mp h j i h3 h1 z
   grind
theorem Cn.snoc (rq:Ris qs) (hq:qs[j]? = some q) (hx:w[j]? = some x):Cn qs (w.set j (x - 1)) zs↔Cn qs w (zs ++ [q.1]):=by
 have hjl:=(List.getElem?_eq_some_iff.mp hx).1
 constructor
 · rintro⟨h1,h2⟩
   refine⟨fun z hz=>?_,fun j' q' x' hq' hx'=>?_⟩
   · rcases List.mem_append.mp hz with y | y
     · exact h1 z y
     · exact⟨j,q,hq,(List.mem_singleton.mp y).symm⟩
   · rw [List.count_append]
     by_cases e:j' = j
     · subst e
       rw [hq] at hq';cases hq'
       rw [hx] at hx';cases hx'
       have:=h2 j' q (x - 1) hq (by rw [List.getElem?_set_self hjl])
       have c:List.count q.1 [q.1] = 1:=by simp
       omega
     · have:=h2 j' q' x' hq' (by rw [List.getElem?_set_ne (Ne.symm e)];exact hx')
       have c:List.count q'.1 [q.1] = 0:=List.count_eq_zero.mpr fun z=>e (ris_at rq hq' hq (List.mem_singleton.mp z))
       omega
 · rintro⟨h1,h2⟩
   refine⟨fun z hz=>h1 z (List.mem_append_left _ hz),fun j' q' x' hq' hx'=>?_⟩
   by_cases e:j' = j
   · subst e
     rw [hq] at hq';cases hq'
     rw [List.getElem?_set_self hjl] at hx'
     cases hx'
     have:=h2 j' q x hq hx
     rw [List.count_append] at this
     have c:List.count q.1 [q.1] = 1:=by simp
     omega
   · rw [List.getElem?_set_ne (Ne.symm e)] at hx'
     have:=h2 j' q' x' hq' hx'
     rw [List.count_append] at this
     have c:List.count q'.1 [q.1] = 0:=List.count_eq_zero.mpr fun z=>e (ris_at rq hq' hq (List.mem_singleton.mp z))
     omega
abbrev fold (need:Int) (a:Int×Int) (zs:List Int):Int×Int:=zs.foldl (putP need) a
section
variable {need:Int}{qs T:Qs}
theorem mk_in (hq:∀ q∈qs,1<=q.1/\1<=q.2) (hw:(waysL (cnts qs))[k]? = some w) (hqj:qs[j]? = some q) (hx:w[j]? = some x) (h0:0 < x):putP need (T.getD (k - (prodc (qs.drop (j + 1))).toNat) (0,0)) q.1∈made need T k (lastsOf w (paces qs)):=by
 have hwl:w.length = qs.length:=by
  have:=(ways_ok (cnts qs) (cnts qs).length (Nat.le_refl _)).len k w (by simp_all)
  rw [this];unfold cnts;rw [List.length_map]
 have hls:=lasts_js (w:=w) (ps:=paces qs) (by rw [paces_len];exact hwl)
 rw [paces_len] at hls
 unfold made
 rw [hls,List.map_map]
 refine List.mem_map.mpr ⟨j,?_,?_⟩
 · unfold jsOf
   have:=(List.getElem?_eq_some_iff.mp hqj).1
   exact List.mem_filter.mpr ⟨List.mem_range.mpr this,decide_eq_true (by simp_all)⟩
 · show putP need (T.getD (k - ((paces qs).getD j (0,0)).2.toNat) (0,0)) ((paces qs).getD j (0,0)).1 = _
   rw [List.getD_eq_getElem?_getD (l:=paces qs),paces_at hqj];rfl
theorem attain (rq:Ris qs) (hq:∀ q∈qs,1<=q.1/\1<=q.2) (tab:IsTab need (LS qs) T) (k:Nat):∀ w v,(waysL (cnts qs))[k]? = some w->T[k]? = some v->∃ zs,fold need (0,0) zs = v/\Cn qs w zs:=by
 induction k using Nat.strongRecOn with
 | ind k ih=>
  intro w v hw hv
  have hq2:∀ q∈qs,1<=q.2:=fun q h=>(hq q h).2
  have hwl:w.length = qs.length:=by
   have:=(ways_ok (cnts qs) (cnts qs).length (Nat.le_refl _)).len k w (by rw [List.take_length];exact hw)
   rw [this];unfold cnts;rw [List.length_map]
  have hTl:=tab.1
  rw [LS_len] at hTl
  have hkl:=(List.getElem?_eq_some_iff.mp hw).1
  rcases tab.2 k _ v (LS_at hw) hv with ⟨h1,h2⟩ | ⟨h1,h2⟩
  · refine⟨[],h2.symm,⟨fun z hz=>(nomatch hz),fun j q x hqj hx=>?_⟩⟩
    have hb:=((ways_ok (cnts qs) (cnts qs).length (Nat.le_refl _)).bd k w j x (by rw [List.take_length];exact hw) hx).1
    by_cases z:0 < x
    · have:=mk_in (need:=need) (T:=T) hq hw hqj hx z
      rw [h1] at this;cases this
    · show (0:Int) = x;omega
  · have hls:=lasts_js (w:=w) (ps:=paces qs) (by rw [paces_len];exact hwl)
    rw [paces_len] at hls
    unfold made at h1
    rw [hls,List.map_map] at h1
    obtain⟨j,hj,e⟩:=List.mem_map.mp h1
    have hjm:=List.mem_filter.mp hj
    have hjn:j < qs.length:=List.mem_range.mp hjm.1
    have hx0:0 < w.getD j 0:=of_decide_eq_true hjm.2
    have hxj:w[j]? = some (w.getD j 0):=by rw [List.getD_eq_getElem?_getD,List.getElem?_eq_getElem (by omega)];rfl
    obtain⟨q,hqj⟩:∃ q,qs[j]? = some q:=⟨_,List.getElem?_eq_getElem hjn⟩
    obtain⟨pb1,pb2,pb3⟩:=pace_back hq2 hw hxj hx0
    have e:putP need (T.getD (k - ((paces qs).getD j (0,0)).2.toNat) (0,0)) ((paces qs).getD j (0,0)).1 = v:=e
    rw [List.getD_eq_getElem?_getD (l:=paces qs),paces_at hqj] at e
    have e:putP need (T.getD (k - (prodc (qs.drop (j + 1))).toNat) (0,0)) q.1 = v:=e
    generalize prodc (qs.drop (j + 1)) = pc at pb1 pb2 pb3 e
    obtain⟨p,hp⟩:∃ p,T[k - pc.toNat]? = some p:=⟨_,List.getElem?_eq_getElem (by omega)⟩
    rw [List.getD_eq_getElem?_getD,hp] at e
    obtain⟨zs,z1,z2⟩:=ih (k - pc.toNat) (by omega) _ p pb3 hp
    refine⟨zs ++ [q.1],?_,(Cn.snoc rq hqj hxj).mp z2⟩
    unfold fold
    rw [List.foldl_append]
    show putP need (fold need (0,0) zs) q.1 = v
    rw [z1];exact e
theorem bound (rq:Ris qs) (hq:∀ q∈qs,1<=q.1/\1<=q.2) (tab:IsTab need (LS qs) T) (nn:Nng T):∀ (zs:List Int) (k:Nat) (w:List Int) (v:Int×Int),(waysL (cnts qs))[k]? = some w->T[k]? = some v->Cn qs w zs->HT.lexLt (pl2 v) (pl2 (fold need (0,0) zs)) = false:=by
 refine snoc_ind (fun k w v hw hv _=>?_) (fun zs z ih k w v hw hv hc=>?_)
 · have:=nn v (List.mem_of_getElem? hv)
   rw [ge2]
   show (0:Int) < v.1\/((0:Int) = v.1/\(0:Int)<=v.2)
   omega
 · have hq2:∀ q∈qs,1<=q.2:=fun q h=>(hq q h).2
   have hwl:w.length = qs.length:=by
    have:=(ways_ok (cnts qs) (cnts qs).length (Nat.le_refl _)).len k w (by rw [List.take_length];exact hw)
    rw [this];unfold cnts;rw [List.length_map]
   have hTl:=tab.1
   rw [LS_len] at hTl
   have hkl:=(List.getElem?_eq_some_iff.mp hw).1
   obtain⟨j,q,hqj,rfl⟩:=hc.1 z (List.mem_append_right _ (.head _))
   have hjn:=(List.getElem?_eq_some_iff.mp hqj).1
   obtain⟨x,hx⟩:∃ x,w[j]? = some x:=⟨_,List.getElem?_eq_getElem (by omega)⟩
   have hx0:0 < x:=by
    have:=hc.2 j q x hqj hx
    grind
   obtain⟨pb1,pb2,pb3⟩:=pace_back hq2 hw hx hx0
   have hm:=mk_in (need:=need) (T:=T) hq hw hqj hx hx0
   generalize prodc (qs.drop (j + 1)) = pc at pb1 pb2 pb3 hm
   obtain⟨p,hp⟩:∃ p,T[k - pc.toNat]? = some p:=⟨_,List.getElem?_eq_getElem (by omega)⟩
   rw [List.getD_eq_getElem?_getD,hp] at hm
   have h1:=ih _ _ p pb3 hp ((Cn.snoc rq hqj hx).mpr hc)
   have h2:=put_mono (need:=need) (nn p (List.mem_of_getElem? hp)).2 (hq q (List.mem_of_getElem? hqj)).1 h1
   have h3:HT.lexLt (pl2 v) (pl2 (putP need p q.1)) = false:=by
    rcases tab.2 k _ v (LS_at hw) hv with ⟨z,_⟩ | ⟨_,z⟩
    · rw [z] at hm;cases hm
    · exact z _ hm
   unfold fold
   rw [List.foldl_append]
   exact lexLt_ntr h2 h3
end
theorem cn_all (rq:Ris qs):Cn qs (qs.map (·.2)) zs↔(∀ z∈zs,z∈qs.map (·.1))/\∀ q∈qs,((zs.count q.1:Nat):Int) = q.2:=by
 constructor
 · rintro⟨h1,h2⟩
   refine⟨fun z hz=>?_,fun q hq=>?_⟩
   · obtain⟨j,q,hj,e⟩:=h1 z hz
     exact List.mem_map.mpr ⟨q,List.mem_of_getElem? hj,e⟩
   · obtain⟨j,hj,e⟩:=List.getElem_of_mem hq
     have:qs[j]? = some q:=by simp_all
     exact h2 j q q.2 this (by rw [List.getElem?_map,this];rfl)
 · rintro⟨h1,h2⟩
   refine⟨fun z hz=>?_,fun j q x hj hx=>?_⟩
   · obtain⟨q,hq,e⟩:=List.mem_map.mp (h1 z hz)
     obtain⟨j,hj,e2⟩:=List.getElem_of_mem hq
     exact⟨j,q,by simp_all,e⟩
   · rw [List.getElem?_map,hj] at hx
     cases hx
     exact h2 q (List.mem_of_getElem? hj)
theorem bt_self (q:Int×Int):bt q q.1 = 1:=by unfold bt;simp
theorem bt_ne (h:q.1≠z):bt q z = 0:=by
 unfold bt;simp_all
theorem wo_mem:r∈wo z qs↔∃ q∈qs,bt q z < q.2/\r = (q.1,q.2 - bt q z):=by
 unfold wo
 rw [List.mem_map]
 constructor
 · rintro⟨q,hq,e⟩
   obtain⟨h1,h2⟩:=List.mem_filter.mp hq
   exact⟨q,h1,of_decide_eq_true h2,e.symm⟩
 · rintro⟨q,h1,h2,e⟩
   exact⟨q,List.mem_filter.mpr ⟨h1,decide_eq_true h2⟩,e.symm⟩
theorem wo_ris (h:Ris qs):Ris (wo z qs):=by
 exact List.pairwise_map.mpr ((List.Pairwise.filter _ h).imp fun h=>h)
theorem wo_ok (h:∀ q∈qs,1<=q.1/\1<=q.2):∀ q∈wo z qs,1<=q.1/\1<=q.2:=fun r hr=>by
 obtain⟨q,hq,h1,rfl⟩:=wo_mem.mp hr
 have:=h q hq
 exact⟨this.1,by grind⟩
theorem cn_wo {qs:Qs} (rq:Ris qs) (hq:∀ q∈qs,1<=q.1/\1<=q.2) {j:Nat}{q:Int×Int} (hj:qs[j]? = some q) {zs:List Int}:
 Cn qs ((qs.map (·.2)).set j (q.2 - 1)) zs↔Cn (wo q.1 qs) ((wo q.1 qs).map (·.2)) zs:=by
 have hjl:=(List.getElem?_eq_some_iff.mp hj).1
 have hset:((qs.map (·.2)).set j (q.2 - 1))[j]? = some (q.2 - 1):=List.getElem?_set_self (by rw [List.length_map];exact hjl)
 have hoth:∀ {j':Nat}{q':Int×Int},qs[j']? = some q'->j'≠j->((qs.map (·.2)).set j (q.2 - 1))[j']? = some q'.2:=fun {j' q'} h1 h2=>by
  rw [List.getElem?_set_ne (Ne.symm h2),List.getElem?_map,h1];rfl
 have hne:∀ {j':Nat}{q':Int×Int},qs[j']? = some q'->j'≠j->q'.1≠q.1:=fun h1 h2 e=>h2 (ris_at rq h1 hj e)
 rw [cn_all (wo_ris rq)]
 constructor
 · rintro⟨h1,h2⟩
   refine⟨fun z hz=>?_,fun r hr=>?_⟩
   · obtain⟨j',q',hj',rfl⟩:=h1 z hz
     have hc:1<=zs.count q'.1:=List.count_pos_iff.mpr hz
     by_cases e:j' = j
     · subst e
       rw [hj] at hj';cases hj'
       have:=h2 j' q _ hj hset
       exact List.mem_map.mpr ⟨(q.1,q.2 - bt q q.1),wo_mem.mpr ⟨q,List.mem_of_getElem? hj,by rw [bt_self];omega,rfl⟩,rfl⟩
     · refine List.mem_map.mpr ⟨(q'.1,q'.2 - bt q' q.1),wo_mem.mpr ⟨q',List.mem_of_getElem? hj',?_,rfl⟩,rfl⟩
       rw [bt_ne (hne hj' e)]
       have:=hq q' (List.mem_of_getElem? hj');omega
   · obtain⟨q',hq',h3,rfl⟩:=wo_mem.mp hr
     obtain⟨j',hj'⟩:=List.getElem?_of_mem hq'
     show ((zs.count q'.1:Nat):Int) = q'.2 - bt q' q.1
     by_cases e:j' = j
     · subst e
       rw [hj] at hj';cases hj'
       rw [bt_self];exact h2 j' q _ hj hset
     · rw [bt_ne (hne hj' e),Int.sub_zero];exact h2 j' q' _ hj' (hoth hj' e)
 · rintro⟨h1,h2⟩
   refine⟨fun z hz=>?_,fun j' q' x hj' hx=>?_⟩
   · obtain⟨r,hr,rfl⟩:=List.mem_map.mp (h1 z hz)
     obtain⟨q',hq',h3,rfl⟩:=wo_mem.mp hr
     obtain⟨j',hj'⟩:=List.getElem?_of_mem hq'
     exact⟨j',q',hj',rfl⟩
   · by_cases e:j' = j
     · subst e
       rw [hj] at hj';cases hj'
       rw [hset] at hx;cases hx
       by_cases h:1 < q.2
       · have:=h2 (q.1,q.2 - bt q q.1) (wo_mem.mpr ⟨q,List.mem_of_getElem? hj,by rw [bt_self];exact h,rfl⟩)
         rw [bt_self] at this;exact this
       · have h0:=(hq q (List.mem_of_getElem? hj)).2
         have:zs.count q.1 = 0:=List.count_eq_zero.mpr fun hz=>by
          obtain⟨r,hr,e⟩:=List.mem_map.mp (h1 _ hz)
          obtain⟨q',hq',h3,rfl⟩:=wo_mem.mp hr
          obtain⟨k,hk⟩:=List.getElem?_of_mem hq'
          have:=ris_at rq hk hj e
          subst this
          rw [hj] at hk;cases hk
          rw [bt_self] at h3;omega
         omega
     · rw [hoth hj' e] at hx;cases hx
       have b0:=bt_ne (hne hj' e)
       have:=h2 (q'.1,q'.2 - bt q' q.1) (wo_mem.mpr ⟨q',List.mem_of_getElem? hj',by rw [b0];have:=hq q' (List.mem_of_getElem? hj');omega,rfl⟩)
       rw [b0,Int.sub_zero] at this;exact this
theorem pl_anti (h:HT.lexLt (pl2 u) (pl2 v) = false) (h':HT.lexLt (pl2 v) (pl2 u) = false):u = v:=by
 rw [ge2] at h h'
 grind
theorem most_wo {need:Int}{qs T:Qs} (rq:Ris qs) (hq:∀ q∈qs,1<=q.1/\1<=q.2) (tab:IsTab need (LS qs) T) (nn:Nng T) {j:Nat}{q v v':Int×Int} (hj:qs[j]? = some q)
 (hv:T[T.length - 1 - (prodc (qs.drop (j + 1))).toNat]? = some v) (hm:MostOf need (wo q.1 qs) v'):v = v':=by
 have hq2:∀ q∈qs,1<=q.2:=fun q h=>(hq q h).2
 have hwt:=ways_top hq2
 have hTl:=tab.1
 rw [<- hTl] at hwt
 obtain⟨pb1,pb2,pb3⟩:=pace_back hq2 hwt (show (qs.map (·.2))[j]? = some q.2 by rw [List.getElem?_map,hj];rfl) (by have:=hq2 q (List.mem_of_getElem? hj);omega)
 obtain⟨zs,z1,z2⟩:=attain rq hq tab _ _ _ pb3 hv
 obtain⟨T',tab',nn',hv'⟩:=hm
 have hq':=wo_ok (z:=q.1) hq
 have rq':=wo_ris (z:=q.1) rq
 have hwt':=ways_top fun r h=>(hq' r h).2
 have hTl':=tab'.1
 rw [<- hTl'] at hwt'
 obtain⟨ys,y1,y2⟩:=attain rq' hq' tab' _ _ _ hwt' hv'
 refine pl_anti ?_ ?_
 · rw [<- y1];exact bound rq hq tab nn ys _ _ _ pb3 hv ((cn_wo rq hq hj).mpr y2)
 · rw [<- z1];exact bound rq' hq' tab' nn' zs _ _ _ hwt' hv' ((cn_wo rq hq hj).mp z2)
section
local macro_rules | `(tactic| wtm_at "pe")=>`(tactic| first | (apply k_indexB;(wtm_at "K");(rfl);(rfl);(rfl);(rfl);(rfl);(wtm_at "pe");(wtm_at "pa")) | (apply k_count;(wtm_at "K");(rfl);(rfl);(rfl);(rfl);(rfl);(wtm_at "pe");(wtm_at "pa")))
theorem kitAny_no:∀ {Ds:List Addr},(∀ D∈Ds,PySem.W.kitOne K (.ref C) (.ref D) = some false)->PySem.W.kitAny K (.ref C) (Ds.map Value.ref) = some false
 | [],_=>rfl
 | D :: r,h=>by
  rw [List.map_cons]
  unfold PySem.W.kitAny
  rw [h D (.head _)]
  exact kitAny_no fun E hE=>h E (.tail _ hE)
abbrev sKindE:Stmt:=top 51
theorem scKindE:FnScope ["e","kinds","others"] ["e"] (defScope sKindE):=by wtm_at "sc"
def spKindE (C:Addr) (x:Str):Sp:=fun vs H Q _=>∃ ea:Addr,vs = [.ref ea]/\H ea = some (ExcO ea C)/\∀ H',L2.Same H H'->Q (.str x) H'
abbrev three:List Str:=["too many","no size","unlike"]
theorem ok_kindE {C B h1 h2 h3 c1 c2 c3 c4 c5 c6:Addr}{j:Nat}{x nm:Str} (F:Fun K "_law_kind" "_law_kind" sKindE Z fd) (eR:ECls K mg nm C B)
 (i1:ECls K mg "TooMany" h1 B) (i2:ECls K mg "NoSize" h2 B) (i3:ECls K mg "Unlike" h3 B)
 (e1:ECls K mg "NoHeap" c1 B) (e2:ECls K mg "NoLot" c2 B) (e3:ECls K mg "NoRatio" c3 B) (e4:ECls K mg "NoRow" c4 B) (e5:ECls K mg "NoText" c5 B) (e6:ECls K mg "TooFew" c6 B)
 (b1 b2 b3:Bool) (k1:PySem.W.kitOne K (.ref C) (.ref h1) = some b1) (k2:PySem.W.kitOne K (.ref C) (.ref h2) = some b2) (k3:PySem.W.kitOne K (.ref C) (.ref h3) = some b3)
 (hc:[b1,b2,b3].count true = 1) (hj:[b1,b2,b3][j]? = some true) (hno:∀ m,m < j->[b1,b2,b3][m]?≠some true) (hx:three[j]? = some x)
 (hn:∀ D∈[c1,c2,c3,c4,c5,c6],C≠D/\B≠D) (mI:mg "isinstance" = none) (mV:mg "ValueError" = none):FnOkH P W K mg base CX0 1 Z fd ["e"] (spKindE C x):=by
 refine Br.Fun.jH F scKindE (fun vs H Q E h=>?_) (fun _ A _ s H vs Q E hr h=>?_)
 · obtain⟨_,rfl,_⟩:=h;rfl
 · obtain⟨ea,rfl,hE,h⟩:=h
   have nd:=scKindE.nd
   have hsz:=sizeLine_eq
   refine' ⟨_,?d,?r⟩
   case d=>wtm_at "body"
   case r=>
    have ko1:PySem.W.kitAny K (.ref C) ([c1,c2,c3].map Value.ref) = some false:=by
     refine kitAny_no fun D hD=>?_
     simp only [List.mem_cons,List.mem_nil_iff,or_false] at hD
     rcases hD with rfl | rfl | rfl
     · exact eR.other e1 (hn _ (by simp)).1 (hn _ (by simp)).2
     · exact eR.other e2 (hn _ (by simp)).1 (hn _ (by simp)).2
     · exact eR.other e3 (hn _ (by simp)).1 (hn _ (by simp)).2
    have ko2:PySem.W.kitAny K (.ref C) ([c4,c5,c6].map Value.ref) = some false:=by
     refine kitAny_no fun D hD=>?_
     simp only [List.mem_cons,List.mem_nil_iff,or_false] at hD
     rcases hD with rfl | rfl | rfl
     · exact eR.other e4 (hn _ (by simp)).1 (hn _ (by simp)).2
     · exact eR.other e5 (hn _ (by simp)).1 (hn _ (by simp)).2
     · exact eR.other e6 (hn _ (by simp)).1 (hn _ (by simp)).2
    refine⟨.ref ea,rfl,.inr (.inl ⟨_,_,_,_,rfl,.exc hE eR.exc,k1,?_⟩)⟩
    refine⟨.ref ea,rfl,.inr (.inl ⟨_,_,_,_,rfl,.exc hE eR.exc,k2,?_⟩)⟩
    refine⟨.ref ea,rfl,.inr (.inl ⟨_,_,_,_,rfl,.exc hE eR.exc,k3,?_⟩)⟩
    refine⟨lenLe (n:=3) rfl (by decide),fun l1 H1 n1 s1 f1=>?_⟩
    refine⟨_,rfl,lenLe (n:=3) rfl (by decide),fun tp H2 n2 s2 f2=>?_⟩
    refine .inr (.inr ⟨ea,C,tp,[c1,c2,c3],false,rfl,s2 _ _ (s1 _ _ hE),eR.exc,f2,ko1,_,rfl,iteF ?_⟩)
    refine⟨_,rfl,lenLe (n:=3) rfl (by decide),fun tq H3 n3 s3 f3=>?_⟩
    refine .inr (.inr ⟨ea,C,tq,[c4,c5,c6],false,rfl,s3 _ _ (s2 _ _ (s1 _ _ hE)),eR.exc,f3,ko2,?_⟩)
    have f4:H3 l1 = some (.lst ([b1,b2,b3].map V.bl)):=s3 _ _ (s2 _ _ f1)
    have s04:=s1.trans (s2.trans s3)
    refine⟨_,?_,fun _ _ h=>h⟩
    refine⟨_,rfl,.inl ⟨rfl,_,SqL.of f4⟩,?_⟩
    refine .inr ⟨l1,_,true,rfl,rfl,SqL.of f4,?_⟩
    rw [hc]
    refine⟨rfl,_,rfl,iteF ?_⟩
    refine⟨_,rfl,_,rfl,iteF ?_⟩
    refine⟨.ref ea,rfl,.inl ⟨_,_,_,_,rfl,.exc (s04 _ _ hE) eR.exc,eR.value,_,rfl,iteF ?_⟩⟩
    refine⟨lenLe (n:=3) rfl (by decide),fun l4 H4 n4 s4 f5=>?_⟩
    refine⟨_,rfl,.inl ⟨rfl,_,SqL.of (s4 _ _ f4)⟩,l1,_,true,j,rfl,rfl,s4 _ _ f4,hj,hno,?_⟩
    exact .inl ⟨l4,_,_,_,rfl,rfl,SqL.of f5,atI_nat (show (three.map V.str)[j]? = some (.str x) by rw [List.getElem?_map,hx];rfl),h H4 (s04.trans s4)⟩
end
def seqL (z c:Int) (n:Nat):Qs:=(List.range n).map fun k:Nat=>(z + (k:Int),c)
theorem seq_snoc (z c:Int) (n:Nat):seqL z c (n + 1) = seqL z c n ++ [(z + (n:Int),c)]:=by
 unfold seqL;rw [List.range_succ,List.map_append];rfl
theorem seq_len (z c:Int) (n:Nat):(seqL z c n).length = n:=by unfold seqL;simp
theorem seq_ris (z c:Int) (n:Nat):Ris (seqL z c n):=by
 unfold seqL Ris
 rw [List.pairwise_map]
 refine List.Pairwise.imp (fun {a b} h=>?_) List.pairwise_lt_range
 grind
theorem seq_mem (h:q∈seqL z c n):z<=q.1/\q.1 < z + (n:Int)/\q.2 = c:=by
 obtain⟨k,hk,rfl⟩:=List.mem_map.mp h
 grind
theorem seq_sum (z c:Int):∀ n:Nat,((seqL z c n).map (·.2)).sum = (n:Int) * c
 | 0=>by show (0:Int) = 0 * c;omega
 | n + 1=>by
  rw [seq_snoc,List.map_append,List.sum_append,seq_sum z c n]
  grind
theorem seq_prod (z c:Int):∀ n:Nat,prodc (seqL z c n) = (c + 1) ^ n
 | 0=>by rw [Int.pow_zero];rfl
 | n + 1=>by rw [seq_snoc,prodc_app,seq_prod z c n,Int.pow_succ]
theorem FrT.mo (h:FrT H t vs) (hp:Pool H p) (m:Mo [p] H H'):FrT H' t vs:=by
 obtain⟨o,b,e⟩:=h
 refine⟨o,b,m _ _ (fun z=>?_) e⟩
 obtain⟨_,e2,_⟩:=hp
 grind
section
theorem j_tup1F (ha:JA X [.Tuple es k p] t):JE X (.Tuple [.Tuple es k p] k2 pos) (tTupF t):=j_tupF ha
local macro_rules | `(tactic| wtm_at "op")=>`(tactic| (apply o_addF;(wtm_at "K")))
local macro_rules | `(tactic| wtm_at "call")=>`(tactic| (apply k_tupleF;(rfl);(rfl);(rfl);(wtm_at "K");(with_reducible rfl);(assumption);(wtm_at "pa")))
local macro_rules | `(tactic| wtm_at "pe")=>`(tactic| (apply j_tup1F;(wtm_at "pa")))
abbrev sBey:Stmt:=top 50
theorem scBey:FnScope ["pot","need","size","many","wide"] ["pot"] (defScope sBey):=by wtm_at "sc"
def spBey:Sp:=fun vs H Q _=>∃ p:Addr,vs = [.ref p]/\Pool H p/\∀ (h:Addr) (need:Int) (qs:Qs) (H':Hp),Mo [p] H H'->Pool H' p->HeapAt H' h need qs->Ris qs->Bad qs->qs≠[]->(∀ q∈qs,q.1 < 60)->Q (.ref h) H'
theorem ok_bey (F:Fun K "_law_beyond" "_law_beyond" sBey Z fd) (cT:Callee CX0 P W K mg base "_law_take" 1 ["pot","many"] spTake) (mR:mg "range" = none) (mT:mg "tuple" = none):FnOk P W K mg base CX0 2 Z fd ["pot"] spBey:=by
 refine Br.Fun.j F scBey (fun vs H Q E h=>?_) (fun _ A _ s H vs Q E hr h=>?_)
 · obtain⟨_,rfl,_⟩:=h;rfl
 · obtain⟨p,rfl,hp,h⟩:=h
   have nd:=scBey.nd
   have hsz:=sizeLine_eq
   have e12:(10:Int) ^ Int.toNat 12 = 1000000000000:=by decide
   have e9:(10:Int) ^ Int.toNat 9 = 1000000000:=by decide
   refine' ⟨_,?d,?r⟩
   case d=>wtm_at "body"
   case r=>
    wtm_at "rd"
    refine⟨hp,by decide,by decide,fun r1 H1 m1 p1 a0 a1=>.inl ⟨_,_,rfl,rfl,?_⟩⟩
    refine⟨_,rfl,p,9,rfl,p1,by decide,by decide,fun r2 H2 m2 p2 b0 b1=>.inl ⟨_,_,rfl,rfl,?_⟩⟩
    wtm_at "rd"
    refine⟨p2,by decide,by decide,fun r3 H3 m3 p3 c0 c1=>.inl ⟨_,_,rfl,rfl,?_⟩⟩
    wtm_at "rd"
    refine⟨lenLe (n:=3) rfl (by decide),fun l1 H4 hl1 s4 e4=>?_⟩
    have p4:=p3.same s4
    have l1p:l1≠p:=fun z=>by obtain⟨_,e,_⟩:=p3;rw [z,e] at hl1;cases hl1
    refine⟨_,rfl,p,3,rfl,p4,by decide,by decide,fun r5 H5 m5 p5 d0 d1=>?_⟩
    have e5:=m5 l1 _ (by simpa using l1p) e4
    obtain⟨mn,hmn,_,emn⟩:=atI_ints (zs:=[61,62 + r3,10 ^ 12]) (i:=r5) (by omega) (by simp;omega)
    have hmn':61<=mn/\mn<=10 ^ 12:=by simp at hmn;omega
    refine .inl ⟨l1,_,_,_,rfl,rfl,SqL.of e5,emn,?_⟩
    have m05:Mo [p] H H5:=m1.trans (m2.trans (m3.trans ((Mo.of s4).trans m5)))
    wtm_at "rd"
    refine⟨by decide,by decide,?_⟩
    refine cmp_range (lo:=0) (n:=7) (fun k ys σ G=>L2.Same H5 G/\ys.length = k/\Kinds G ys (seqL (1 + r2) 2 k)/\∃ x:Option V,σ = [x,some (.ref p),some (.int (1 + r1)),some (.int (1 + r2)),some (.int mn),none])
     ⟨L2.Same.refl _,rfl,Kinds.nil,none,rfl⟩ (by omega) (fun k ys σ G _ ⟨_,e,_⟩=>by omega) ?_ ?_
    · rintro k ys σ G N hk ⟨sG,hy,hkk,x0,rfl⟩ hN
      refine⟨_,rfl,_,rfl,.inl ⟨_,_,rfl,rfl,?_⟩⟩
      refine⟨lenLe (n:=2) rfl (by decide),fun r G2 nr s2 e2=>hN _ _ _ ⟨sG.trans s2,by rw [List.length_append,hy];rfl,?_,_,rfl⟩⟩
      rw [seq_snoc]
      exact (hkk.same s2).snoc (by rw [Int.zero_add] at e2;exact e2)
    rintro ys σ G ⟨sG,hy,hkk,x0,rfl⟩ pl H6 hpl s6 e6
    refine⟨pl,_,rfl,SqL.of e6,fun wt ow H7 nw bw s7 e7=>?_⟩
    have s57:=sG.trans (s6.trans s7)
    have hkw:Kinds H7 ys (seqL (1 + r2) 2 7):=hkk.same (s6.trans s7)
    wtm_at "rd"
    refine⟨lenLe (n:=2) rfl (by decide),fun pr H8 n8 s8 e8=>?_⟩
    refine⟨lenLe (n:=1) rfl (by decide),fun t1 o1 H9 n9 b9 s9 e9=>?_⟩
    have p9:=(p5.same s57).same (s8.trans s9)
    have fw9:FrT H9 wt ys:=⟨ow,bw,(s8.trans s9) _ _ e7⟩
    have kw9:=hkw.same (s8.trans s9)
    have f19:FrT H9 t1 [.ref pr]:=⟨o1,b9,e9⟩
    have k19:Kinds H9 [.ref pr] [(1 + r2,mn)]:=Kinds.snoc (vs:=[]) (qs:=[]) (q:=(1 + r2,mn)) Kinds.nil (s9 _ _ e8)
    refine⟨_,rfl,_,rfl,_,rfl,.inl ⟨_,_,rfl,rfl,?_⟩⟩
    refine⟨_,rfl,p,9,rfl,p9,by decide,by decide,fun r6 HA mA pA f0 f1=>.inl ⟨_,_,rfl,rfl,?_⟩⟩
    have tA:=Tu.mo p9 mA
    refine⟨lenLe (n:=2) rfl (by decide),fun pr2 HB nB sB eB=>?_⟩
    refine⟨lenLe (n:=1) rfl (by decide),fun t2 o2 HC nC bC sC eC=>?_⟩
    have fwC:=(fw9.mo p9 mA).same (sB.trans sC)
    refine .inr ⟨wt,t2,ys,[.ref pr2],rfl,rfl,fwC.sq,.inl (.inr ⟨_,eC⟩),fun z=>(by rw [z] at hy;cases hy),by simp,by rw [hsz,hy];simp,fun t3 o3 HD nD bD sD eD=>?_⟩
    refine⟨lenLe (n:=3) rfl (by decide),fun l2 HE nE sE eE=>?_⟩
    have sAE:=sB.trans (sC.trans (sD.trans sE))
    have pE:=pA.same sAE
    have l2p:l2≠p:=fun z=>by obtain⟨_,e,_⟩:=pA.same (sB.trans (sC.trans sD));rw [z,e] at nE;cases nE
    refine⟨_,rfl,p,3,rfl,pE,by decide,by decide,fun r7 HF mF pF g0 g1=>?_⟩
    have eF:=mF l2 _ (by simpa using l2p) eE
    have tF:=Tu.mo pE mF
    have m59:Mo [p] H5 H9:=Mo.of (s57.trans (s8.trans s9))
    have mAll:Mo [p] H HF:=m05.trans (m59.trans (mA.trans ((Mo.of sAE).trans mF)))
    have done:∀ (t:Addr) (vs:List V) (qs:Qs),FrT HF t vs->Kinds HF vs qs->qs.length<=9->(∀ q∈qs,1<=q.1/\q.1<=10 ^ 12/\1<=q.2/\q.2<=10 ^ 12)->Ris qs->Bad qs->qs≠[]->(∀ q∈qs,q.1 < 60)->
     ∀ (hh:Addr) (G:Hp),L2.Same HF G->G hh = some (.tup [.int (1 + r1),.ref t])->Q (.ref hh) G:=fun t vs qs ft kt l8 bd ri ba ne lt hh G sG eG=>
     h hh (1 + r1) qs G (mAll.trans (Mo.of sG)) (pF.same sG) ⟨t,vs,eG,ft.same sG,kt.same sG,l8,by omega,by omega,bd⟩ ri ba ne lt
    have ft1:FrT HF t1 [.ref pr]:=((f19.mo p9 mA).same sAE).mo pE mF
    have kt1:Kinds HF [.ref pr] [(1 + r2,mn)]:=((k19.tu tA).same sAE).tu tF
    have ftw:FrT HF wt ys:=((fw9.mo p9 mA).same sAE).mo pE mF
    have ktw:Kinds HF ys (seqL (1 + r2) 2 7):=((kw9.tu tA).same sAE).tu tF
    have ft3:FrT HF t3 (ys ++ [.ref pr2]):=FrT.mo ⟨o3,bD,sE _ _ eD⟩ pE mF
    have kt3:Kinds HF (ys ++ [.ref pr2]) (seqL (1 + r2) 2 7 ++ [(1 + r2 + 50,1 + r6)]):=ktw.snoc (tF _ _ ((sC.trans (sD.trans sE)) _ _ eB) ⟨_,rfl⟩)
    have bd7:∀ q∈seqL (1 + r2) 2 7,1<=q.1/\q.1<=10 ^ 12/\1<=q.2/\q.2<=10 ^ 12:=fun q hq=>by
     obtain⟨x1,x2,x3⟩:=seq_mem hq
     omega
    have pr7:prodc (seqL (1 + r2) 2 7) = 2187:=by rw [seq_prod];rfl
    obtain rfl | rfl | rfl:r7 = 0\/r7 = 1\/r7 = 2:=by omega
    · refine .inl ⟨l2,_,0,_,rfl,rfl,SqL.of eF,(show atI [V.ref t1,V.ref wt,V.ref t3] 0 = some (.ref t1) from rfl),?_⟩
      refine⟨lenLe (n:=2) rfl (by decide),fun hh G nh sG eG=>done t1 _ _ ft1 kt1 (by simp) (fun q hq=>?_) (List.pairwise_singleton _ _) (.inl ?_) (by simp) (fun q hq=>by rw [List.mem_singleton.mp hq];show 1 + r2 < 60;omega) hh G sG eG⟩
      · rw [List.mem_singleton.mp hq];exact⟨by show 1<=1 + r2;omega,by show 1 + r2<=_;omega,by show 1<=mn;omega,hmn'.2⟩
      · show 60 < mn + 0;omega
    · refine .inl ⟨l2,_,1,_,rfl,rfl,SqL.of eF,(show atI [V.ref t1,V.ref wt,V.ref t3] 1 = some (.ref wt) from rfl),?_⟩
      exact⟨lenLe (n:=2) rfl (by decide),fun hh G nh sG eG=>done wt _ _ ftw ktw (by rw [seq_len];decide) bd7 (seq_ris _ _ _) (.inr (by rw [pr7];decide)) (fun z=>by have:=seq_len (1 + r2) 2 7;rw [z] at this;cases this) (fun q hq=>by have:=seq_mem hq;omega) hh G sG eG⟩
    · refine .inl ⟨l2,_,2,_,rfl,rfl,SqL.of eF,(show atI [V.ref t1,V.ref wt,V.ref t3] 2 = some (.ref t3) from rfl),?_⟩
      refine⟨lenLe (n:=2) rfl (by decide),fun hh G nh sG eG=>done t3 _ _ ft3 kt3 (by rw [List.length_append,seq_len];simp) (fun q hq=>?_) ?_ (.inr ?_) (by simp) (fun q hq=>by exact (List.mem_append.mp hq).elim (fun y=>by have:=seq_mem y;omega) (fun y=>by rw [List.mem_singleton.mp y];show 1 + r2 + 50 < 60;omega)) hh G sG eG⟩
      · rcases List.mem_append.mp hq with z | z
        · exact bd7 q z
        · rw [List.mem_singleton.mp z];exact⟨by show 1<=1 + r2 + 50;omega,by show 1 + r2 + 50<=_;omega,by show 1<=1 + r6;omega,by show 1 + r6<=_;omega⟩
      · unfold Ris
        rw [List.pairwise_append]
        refine⟨seq_ris _ _ _,List.pairwise_singleton _ _,fun a ha b hb=>?_⟩
        rw [List.mem_singleton.mp hb]
        have:=seq_mem ha
        show a.1 < 1 + r2 + 50
        omega
      · rw [prodc_app,pr7]
        show 2000 < 2187 * (1 + r6 + 1)
        omega
end
end K44
namespace K44B
open K44 (top)
abbrev sInit:Stmt:=inClass (top 16) 0
abbrev sPut:Stmt:=inClass (top 16) 1
abbrev sShut:Stmt:=inClass (top 16) 2
abbrev sOpen:Stmt:=inClass (top 16) 3
def fl (n:Int) (ls ll:Addr) (g:Int):List (Str×V):=[("need",.int n),("shut",.ref ls),("lying",.ref ll),("greatest",.int g)]
theorem fl_need:(fl n ls ll g).lookup ("need" : Str) = some (.int n):=rfl
theorem fl_shut:(fl n ls ll g).lookup ("shut" : Str) = some (.ref ls):=rfl
theorem fl_lying:(fl n ls ll g).lookup ("lying" : Str) = some (.ref ll):=rfl
theorem fl_greatest:(fl n ls ll g).lookup ("greatest" : Str) = some (.int g):=rfl
theorem fl_open:(fl n ls ll g).lookup ("open_lot" : Str) = none:=rfl
theorem fl_put:(fl n ls ll g).lookup ("put" : Str) = none:=rfl
theorem fl_shutL:(fl n ls ll g).lookup ("shut_lots" : Str) = none:=rfl
theorem fl_set1:putF "greatest" (.int g') (fl n ls ll g) = fl n ls ll g':=rfl
theorem fl_set2:putF "lying" (.ref ll') (fl n ls ll g) = fl n ls ll' g:=rfl
theorem fl_new:putF "greatest" (.int g) (putF "lying" (.ref ll) (putF "shut" (.ref ls) (putF "need" (.int n) []))) = fl n ls ll g:=rfl
theorem ln1:(putF "need" (.int n) []).length = 1:=rfl
theorem ln2:(putF "shut" (.ref ls) (putF "need" (.int n) [])).length = 2:=rfl
theorem ln3:(putF "lying" (.ref ll) (putF "shut" (.ref ls) (putF "need" (.int n) []))).length = 3:=rfl
theorem upd_none (h:upd H p o b = none):b≠p/\H b = none:=by
 by_cases e:b = p
 · rw [e,upd_same] at h;grind
 · rw [upd_ne e] at h;simp_all
def srt (l:List Int):List Int:=l.mergeSort fun a b=>decide (a<=b)
theorem srt_perm (l:List Int):(srt l).Perm l:=List.mergeSort_perm _ _
theorem srt_sorted (l:List Int):(srt l).Pairwise (·<=·):=by
 have:=List.pairwise_mergeSort (le:=fun a b=>decide (a<=b)) (by grind) (by simp;omega) l
 exact this.imp fun h=>of_decide_eq_true h
theorem srt_eq (p:m.Perm l) (s:m.Pairwise (·<=·)):m = srt l:=
 List.Perm.eq_of_pairwise (fun a b _ _ h1 h2=>Int.le_antisymm h1 h2) s (srt_sorted l) (p.trans (srt_perm l).symm)
def Lots (H:Hp) (ts:List Addr) (ls:List (List Int)):Prop:=ts.length = ls.length/\∀ (i:Nat) (t:Addr) (l:List Int),ts[i]? = some t->ls[i]? = some l->H t = some (.tup (l.map V.int))
theorem Lots.tu (h:Lots H ts ls) (m:∀ b xs,H b = some (.tup xs)->H' b = some (.tup xs)):Lots H' ts ls:=⟨h.1,fun i t l a b=>m _ _ (h.2 i t l a b)⟩
theorem Lots.snoc (h:Lots H ts ls) (e:H t = some (.tup (l.map V.int))):Lots H (ts ++ [t]) (ls ++ [l]):=by
 refine⟨by rw [List.length_append,List.length_append,h.1];rfl,fun i t' l' a b=>?_⟩
 by_cases hi:i < ts.length
 · rw [List.getElem?_append_left hi] at a
   rw [List.getElem?_append_left (by rw [<- h.1];exact hi)] at b
   exact h.2 i t' l' a b
 · rw [List.getElem?_append_right (by omega)] at a
   rw [List.getElem?_append_right (by rw [<- h.1];omega),<- h.1] at b
   have hi0:i - ts.length = 0:=by
    by_cases z:i - ts.length = 0
    · exact z
    · rw [List.getElem?_eq_none (by simp;omega)] at a;cases a
   rw [hi0] at a b
   simp at a b
   subst a;subst b
   exact e
structure BenchAt (C:Addr) (H:Hp) (p ls ll:Addr) (need:Int) (lots:List (List Int)) (lying:List Int) (g:Int):Prop where
 ob:∃ dx,H p = some (.ins C dx (fl need ls ll g))
 sh:∃ ts,H ls = some (.lst (ts.map V.ref))/\Lots H ts lots
 ly:H ll = some (.lst (lying.map V.int))
 ne:ls≠ll
structure Txt (K:PySem.W.Frag) (C:Addr):Prop where
 cl:Cls K C
 n1:NoAttr K C "need"
 n2:NoAttr K C "shut"
 n3:NoAttr K C "lying"
 n4:NoAttr K C "greatest"
theorem scInit:FnScope ["self","need"] ["self","need"] (defScope sInit):=by wtm_at "sc"
def spInit (C:Addr):Sp:=fun vs H Q _=>∃ (p dx:Addr) (n:Int),vs = [.ref p,.int n]/\H p = some (.ins C dx [])/\∀ (ls ll:Addr) (H':Hp),H ls = none->H ll = none->BenchAt C H' p ls ll n [] [] 0->(∀ b o,H b = some o->b≠p->H' b = some o)->Q .non H'
theorem ok_init (F:Fun K "__init__" "Bench.__init__" sInit Z fd) (T:Txt K C):FnOk P W K mg base CX0 1 Z fd ["self","need"] (spInit C):=by
 refine Br.Fun.j F scInit (fun vs H Q E h=>?_) (fun _ A _ s H vs Q E hr h=>?_)
 · obtain⟨_,_,_,rfl,_⟩:=h;rfl
 · obtain⟨p,dx,n,rfl,hp,k⟩:=h
   have nd:=scInit.nd
   refine' ⟨_,?d,?r⟩
   case d=>wtm_at "body"
   case r=>
    refine⟨_,rfl,_,rfl,p,C,dx,[],rfl,hp,T.cl,T.n1,by decide,?_⟩
    refine⟨by decide,fun ls H1 hls s1 e1=>?_⟩
    refine⟨_,rfl,p,C,dx,_,rfl,s1 _ _ upd_same,T.cl,T.n2,by rw [ln1];decide,?_⟩
    refine⟨by decide,fun ll H2 hll s2 e2=>?_⟩
    refine⟨_,rfl,p,C,dx,_,rfl,s2 _ _ upd_same,T.cl,T.n3,by rw [ln2];decide,?_⟩
    refine⟨_,rfl,p,C,dx,_,rfl,upd_same,T.cl,T.n4,by rw [ln3];decide,?_⟩
    obtain⟨a1,a2⟩:=upd_none hls
    obtain⟨b1,b2⟩:=upd_none hll
    have b3:H ll = none:=by
     cases q:H ll with
     | none=>rfl
     | some o=>have:=s1 ll o (by rw [upd_ne b1];exact q);rw [this] at b2;cases b2
    have nll:ls≠ll:=fun z=>by rw [z,b2] at e1;cases e1
    refine k ls ll _ a2 b3 ⟨⟨dx,by rw [upd_same,fl_new]⟩,⟨[],?_,rfl,fun i t l e=>by simp at e⟩,?_,nll⟩ fun b o e hb=>?_
    · rw [upd_ne a1,upd_ne a1];exact s2 _ _ (by rw [upd_ne a1];exact e1)
    · rw [upd_ne b1,upd_ne b1];exact e2
    · rw [upd_ne hb,upd_ne hb]
      exact s2 _ _ (by rw [upd_ne hb];exact s1 _ _ (by rw [upd_ne hb];exact e))
theorem scOpen:FnScope ["self"] ["self"] (defScope sOpen):=⟨rfl,rfl,rfl,by simp,rfl,by decide +kernel,by decide +kernel⟩
def spOpen (C:Addr):Sp:=fun vs H Q _=>∃ (p ls ll:Addr) (n:Int) (lots:List (List Int)) (lying:List Int) (g:Int),vs = [.ref p]/\BenchAt C H p ls ll n lots lying g/\lying.length < 64/\∀ (t:Addr) (H':Hp),H t = none->L2.Same H H'->H' t = some (.tup ((srt lying).map V.int))->Q (.ref t) H'
theorem ok_open (F:Fun K "open_lot" "Bench.open_lot" sOpen Z fd) (T:Txt K C) (mS:mg "sorted" = none) (mT:mg "tuple" = none):FnOk P W K mg base CX0 1 Z fd ["self"] (spOpen C):=by
 refine Br.Fun.j F scOpen (fun vs H Q E h=>?_) (fun _ A _ s H vs Q E hr h=>?_)
 · obtain⟨_,_,_,_,_,_,_,rfl,_⟩:=h;rfl
 · obtain⟨p,ls,ll,n,lots,lying,g,rfl,hB,h64,k⟩:=h
   obtain⟨⟨dx,e0⟩,⟨ts,e1,hl⟩,e2,nll⟩:=id hB
   refine' ⟨_,?d,?r⟩
   case d=>wtm_at "body"
   case r=>
    refine⟨_,rfl,p,C,dx,_,_,rfl,e0,T.cl,T.n3,fl_lying,?_⟩
    refine .inr ⟨ll,lying,rfl,.inl (SqL.of e2),.inl h64,fun l ms H1 hl' s1 f1 pm pw=>?_⟩
    rw [srt_eq pm pw] at f1
    refine⟨l,_,rfl,SqL.of f1,fun t H2 ht s2 f2=>k t H2 ?_ (s1.trans s2) f2⟩
    cases q:H t with
    | none=>rfl
    | some o=>have:=s1 _ _ q;rw [this] at ht;cases ht
theorem scPut:FnScope ["self","size"] ["self","size"] (defScope sPut):=by wtm_at "sc"
def big (g z:Int):Int:=if z > g then z else g
def spPut (C:Addr):Sp:=fun vs H Q _=>∃ (p ls ll:Addr) (n z:Int) (lots:List (List Int)) (lying:List Int) (g:Int),vs = [.ref p,.int z]/\BenchAt C H p ls ll n lots lying g/\lying.length < 63/\lots.length<=1000/\
 ((lying ++ [z]).sum < n->∀ H':Hp,BenchAt C H' p ls ll n lots (lying ++ [z]) (big g z)->(∀ c o,H c = some o->c≠p->c≠ls->c≠ll->H' c = some o)->Q (.bl false) H')/\
 (¬ (lying ++ [z]).sum < n->∀ (l':Addr) (H':Hp),H l' = none->BenchAt C H' p ls l' n (lots ++ [srt (lying ++ [z])]) [] (big g z)->(∀ c o,H c = some o->c≠p->c≠ls->c≠ll->H' c = some o)->Q (.bl true) H')
theorem ok_put (F:Fun K "put" "Bench.put" sPut Z fd) (T:Txt K C) (cO:CalleeM P W K mg base C "open_lot" 1 ["self"] (spOpen C)) (mX:mg "max" = none) (mS:mg "sum" = none):FnOk P W K mg base CX0 2 Z fd ["self","size"] (spPut C):=by
 refine Br.Fun.j F scPut (fun vs H Q E h=>?_) (fun _ A _ s H vs Q E hr h=>?_)
 · obtain⟨_,_,_,_,_,_,_,_,rfl,_⟩:=h;rfl
 · obtain⟨p,ls,ll,n,z,lots,lying,g,rfl,hB,h63,hlo,k1,k2⟩:=h
   obtain⟨⟨dx,e0⟩,⟨ts,e1,hl⟩,e2,nll⟩:=id hB
   have nd:=scPut.nd
   have hsz:=sizeLine_eq
   have npl:p≠ll:=fun z=>by rw [z,e2] at e0;cases e0
   have nps:p≠ls:=fun z=>by rw [z,e1] at e0;cases e0
   refine' ⟨_,?d,?r⟩
   case d=>wtm_at "body"
   case r=>
    refine⟨_,rfl,p,C,dx,_,_,rfl,e0,T.cl,T.n4,fl_greatest,?_⟩
    wtm_at "rd"
    refine⟨p,C,dx,_,rfl,e0,T.cl,T.n4,by show 4 < 1000;decide,?_⟩
    rw [fl_set1]
    have f0:upd H p (.ins C dx (fl n ls ll (big g z))) p = some (.ins C dx (fl n ls ll (big g z))):=upd_same
    have f2:upd H p (.ins C dx (fl n ls ll (big g z))) ll = some (.lst (lying.map V.int)):=by rw [upd_ne npl.symm];exact e2
    have f1:upd H p (.ins C dx (fl n ls ll (big g z))) ls = some (.lst (ts.map V.ref)):=by rw [upd_ne nps.symm];exact e1
    have hother:∀ c o,H c = some o->c≠p->upd H p (.ins C dx (fl n ls ll (big g z))) c = some o:=fun c o e hc=>by rw [upd_ne hc];exact e
    change tSeq _ _ _ _ (upd H p (.ins C dx (fl n ls ll (big g z))))
    generalize upd H p (.ins C dx (fl n ls ll (big g z))) = Ha at f0 f1 f2 hother ⊢
    refine⟨_,rfl,p,C,dx,_,_,rfl,f0,T.cl,T.n3,fl_lying,.inl ⟨rfl,_,SqL.of f2⟩,?_⟩
    refine⟨_,rfl,ll,_,_,rfl,rfl,f2,by rw [List.length_map];omega,?_⟩
    have g2:upd Ha ll (.lst (lying.map V.int ++ [V.int z])) ll = some (.lst ((lying ++ [z]).map V.int)):=by rw [upd_same,List.map_append];rfl
    have g0:upd Ha ll (.lst (lying.map V.int ++ [V.int z])) p = some (.ins C dx (fl n ls ll (big g z))):=by rw [upd_ne npl];exact f0
    have g1:upd Ha ll (.lst (lying.map V.int ++ [V.int z])) ls = some (.lst (ts.map V.ref)):=by rw [upd_ne nll];exact f1
    have hoth2:∀ c o,H c = some o->c≠p->c≠ll->upd Ha ll (.lst (lying.map V.int ++ [V.int z])) c = some o:=fun c o e hc hd=>by rw [upd_ne hd];exact hother c o e hc
    change tSeq _ _ _ _ (upd Ha ll (.lst (lying.map V.int ++ [V.int z])))
    generalize upd Ha ll (.lst (lying.map V.int ++ [V.int z])) = Hb at g0 g1 g2 hoth2 ⊢
    have hlB:Lots Hb ts lots:=hl.tu fun b xs e=>hoth2 b _ e (fun q=>by rw [q,e0] at e;cases e) (fun q=>by rw [q,e2] at e;cases e)
    have hBb:BenchAt C Hb p ls ll n lots (lying ++ [z]) (big g z):=⟨⟨dx,g0⟩,⟨ts,g1,hlB⟩,g2,nll⟩
    refine⟨fun σ' H'=>H' = Hb/\¬ (lying ++ [z]).sum < n/\σ' = [some (.ref p),some (.int z)],?_,?_⟩
    · refine⟨_,rfl,p,C,dx,_,_,rfl,g0,T.cl,T.n3,fl_lying,?_⟩
      refine⟨ll,_,rfl,.inl (SqL.of g2),?_⟩
      refine⟨_,rfl,p,C,dx,_,_,rfl,g0,T.cl,T.n1,fl_need,?_⟩
      refine⟨_,_,rfl,rfl,_,rfl,?_⟩
      refine ite2 (fun hc=>?_) (fun hc=>?_)
      · exact k1 (of_decide_eq_true hc) Hb hBb fun c o e h1 h2 h3=>hoth2 c o e h1 h3
      · exact⟨rfl,fun q=>hc (decide_eq_true q),rfl⟩
    · rintro σ' H' ⟨rfl,hns,rfl⟩
      refine⟨_,rfl,p,C,dx,_,_,rfl,g0,T.cl,T.n2,fl_shut,.inl ⟨rfl,_,SqL.of g1⟩,?_⟩
      refine⟨_,rfl,p,dx,_,rfl,g0,fl_open,?_⟩
      refine⟨p,ls,ll,n,lots,lying ++ [z],big g z,rfl,hBb,by rw [List.length_append];simp;omega,fun t H1 ht s1 f3=>?_⟩
      refine⟨ls,_,_,rfl,rfl,s1 _ _ g1,by rw [List.length_map,hl.1];omega,?_⟩
      have h0:upd H1 ls (.lst (ts.map V.ref ++ [V.ref t])) p = some (.ins C dx (fl n ls ll (big g z))):=by rw [upd_ne nps];exact s1 _ _ g0
      have h1:upd H1 ls (.lst (ts.map V.ref ++ [V.ref t])) ls = some (.lst ((ts ++ [t]).map V.ref)):=by rw [upd_same,List.map_append];rfl
      have tls:t≠ls:=fun q=>by rw [q,g1] at ht;cases ht
      have h3:upd H1 ls (.lst (ts.map V.ref ++ [V.ref t])) t = some (.tup ((srt (lying ++ [z])).map V.int)):=by rw [upd_ne tls];exact f3
      have hoth3:∀ c o,H' c = some o->c≠ls->upd H1 ls (.lst (ts.map V.ref ++ [V.ref t])) c = some o:=fun c o e hc=>by rw [upd_ne hc];exact s1 _ _ e
      change tSeq _ _ _ _ (upd H1 ls (.lst (ts.map V.ref ++ [V.ref t])))
      generalize upd H1 ls (.lst (ts.map V.ref ++ [V.ref t])) = Hc at h0 h1 h3 hoth3 ⊢
      have hlC:Lots Hc (ts ++ [t]) (lots ++ [srt (lying ++ [z])]):=(hlB.tu fun b xs e=>hoth3 b _ e (fun q=>by rw [q,g1] at e;cases e)).snoc h3
      refine⟨by decide,fun l' H2 hl' s2 e2'=>?_⟩
      refine⟨_,rfl,p,C,dx,_,rfl,s2 _ _ h0,T.cl,T.n3,by show 4 < 1000;decide,?_⟩
      rw [fl_set2]
      have l'p:l'≠p:=fun q=>by rw [q,h0] at hl';cases hl'
      have l's:ls≠l':=fun q=>by rw [<- q,h1] at hl';cases hl'
      have hlH:H l' = none:=by
       cases q:H l' with
       | none=>rfl
       | some o=>
        by_cases w1:l' = ll
        · rw [w1] at hl'
          have:=hoth3 ll _ g2 (fun z=>nll z.symm)
          rw [hl'] at this;cases this
        · have:=hoth3 l' o (hoth2 l' o q l'p w1) l's.symm
          rw [hl'] at this;cases this
      refine k2 hns l' _ hlH ⟨⟨dx,upd_same⟩,⟨ts ++ [t],by rw [upd_ne nps.symm];exact s2 _ _ h1,hlC.tu fun b xs e=>?_⟩,by rw [upd_ne l'p];exact e2',l's⟩ fun c o e c1 c2 c3=>?_
      · rw [upd_ne (fun q=>by rw [q,h0] at e;cases e)];exact s2 _ _ e
      · rw [upd_ne c1]
        exact s2 _ _ (hoth3 c o (hoth2 c o e c1 c3) c2)
end K44B
namespace K44B
theorem scShut:FnScope ["self"] ["self"] (defScope sShut):=⟨rfl,rfl,rfl,by simp,rfl,by decide +kernel,by decide +kernel⟩
def spShut (C:Addr):Sp:=fun vs H Q _=>∃ (p ls ll:Addr) (n:Int) (lots:List (List Int)) (lying:List Int) (g:Int),vs = [.ref p]/\BenchAt C H p ls ll n lots lying g/\∀ (l:Addr) (ts:List Addr) (H':Hp),H l = none->L2.Same H H'->H' l = some (.lst (ts.map V.ref))->Lots H' ts lots->Q (.ref l) H'
theorem ok_shut (F:Fun K "shut_lots" "Bench.shut_lots" sShut Z fd) (T:Txt K C) (mL:mg "list" = none):FnOk P W K mg base CX0 1 Z fd ["self"] (spShut C):=by
 refine Br.Fun.j F scShut (fun vs H Q E h=>?_) (fun _ A _ s H vs Q E hr h=>?_)
 · obtain⟨_,_,_,_,_,_,_,rfl,_⟩:=h;rfl
 · obtain⟨p,ls,ll,n,lots,lying,g,rfl,hB,k⟩:=h
   obtain⟨⟨dx,e0⟩,⟨ts,e1,hl⟩,e2,nll⟩:=id hB
   refine' ⟨_,?d,?r⟩
   case d=>wtm_at "body"
   case r=>
    refine⟨_,rfl,p,C,dx,_,_,rfl,e0,T.cl,T.n2,fl_shut,?_⟩
    exact⟨ls,_,rfl,.inl (SqL.of e1),fun l H1 hl1 s1 f1=>k l ts H1 hl1 s1 f1 (hl.tu fun b xs e=>s1 _ _ e)⟩
end K44B
namespace K44
theorem nLt_app:∀ {a c:List Int} (b d:List Int),a.length = c.length->nLt (a,b) (c,d) = HT.lexLt (a ++ b) (c ++ d)
 | [],[],b,d,_=>by rfl
 | [],_ :: _,_,_,h=>by grind
 | _ :: _,[],_,_,h=>by grind
 | x :: a,y :: c,b,d,h=>by
  have ih:=nLt_app b d (by simpa using h)
  unfold nLt at ih ⊢
  show _ = HT.lexLt (x :: _) (y :: _)
  rw [HT.lexLt_cons,HT.lexLt_cons]
  by_cases e:x = y
  · simp_all
  simp_all
theorem argBest_le (f:Nat->Nat->Bool):∀ j,argBest f j<=j
 | 0=>Nat.le_refl _
 | j + 1=>by
  have:=argBest_le f j
  simp only [argBest]
  grind
theorem argBest_congr:∀ j,(∀ a b,a<=j->b<=j->f a b = g a b)->argBest f j = argBest g j
 | 0,_=>rfl
 | j + 1,h=>by
  have ih:=argBest_congr j fun a b ha hb=>h a b (by omega) (by omega)
  simp only [argBest]
  rw [ih,h _ _ (Nat.le_refl _) (by have:=argBest_le g j;omega)]
theorem lex_anti:∀ {a b:List Int},HT.lexLt a b = false->HT.lexLt b a = false->a = b
 | [],[],_,_=>rfl
 | [],_ :: _,h,_=>by cases h
 | _ :: _,[],_,h=>by cases h
 | x :: a,y :: b,h1,h2=>by
  rw [HT.lexLt_cons] at h1 h2
  by_cases e:x = y
  · subst e;rw [if_pos rfl] at h1 h2;rw [lex_anti h1 h2]
  grind
def lastP (need:Int) (T:Qs) (k:Nat) (st:Int×Int):Int×Int:=putP need (T.getD (k - st.2.toNat) (0,0)) st.1
def keyN (need:Int) (T:Qs) (k:Nat) (st:Int×Int):List Int×List Int:=(pl2 (lastP need T k st),[st.1,st.2])
def keyL (need:Int) (T:Qs) (k:Nat) (st:Int×Int):List Int:=pl2 (lastP need T k st) ++ [st.1,st.2]
def IsLast (need:Int) (T:Qs) (k:Nat) (steps:Qs) (st:Int×Int):Prop:=st∈steps/\∀ x∈steps,HT.lexLt (keyL need T k st) (keyL need T k x) = false
theorem last_uniq (h:IsLast need T k steps a) (h':IsLast need T k steps b):a = b:=by
 have e:=lex_anti (h.2 _ h'.1) (h'.2 _ h.1)
 have e:=(List.append_inj e rfl).2
 injection e with e1 e2
 injection e2 with e2 _
 exact Prod.ext e1 e2
theorem last_best {need:Int}{k:Nat}{st v:Int×Int} (h:IsLast need T k steps st) (hb:IsBest (made need T k steps) v):lastP need T k st = v:=by
 have hm:lastP need T k st∈made need T k steps:=List.mem_map.mpr ⟨st,h.1,rfl⟩
 rcases hb with ⟨z,_⟩ | ⟨hv,hm2⟩
 · grind
 · obtain⟨x,hx,e⟩:=List.mem_map.mp hv
   have e:lastP need T k x = v:=e
   have h2:=h.2 x hx
   unfold keyL at h2
   rw [<- nLt_app (a:=pl2 (lastP need T k st)) (c:=pl2 (lastP need T k x)) _ _ rfl] at h2
   unfold nLt at h2
   by_cases q:pl2 (lastP need T k st) = pl2 (lastP need T k x)
   · injection q with q1 q2
     injection q2 with q2 _
     rw [<- e];exact Prod.ext q1 q2
   · rw [if_neg q,e] at h2
     exact lex2_anti h2 (hm2 _ hm)
theorem nst_same (h:NstAt H as ps) (s:L2.Same H H'):NstAt H' as ps:=⟨h.1,fun i a q e1 e2=>let ⟨c,g1,g2⟩:=h.2 i a q e1 e2;⟨c,s _ _ g1,s _ _ g2⟩⟩
theorem nst_snoc (h:NstAt H as ps) (e1:H a = some (.tup (.ref c :: q.2.map V.int))) (e2:H c = some (.tup (q.1.map V.int))):NstAt H (as ++ [a]) (ps ++ [q]):=by
 refine⟨by rw [List.length_append,List.length_append,h.1];rfl,fun i a' q' x1 x2=>?_⟩
 by_cases hi:i < as.length
 · rw [List.getElem?_append_left hi] at x1
   rw [List.getElem?_append_left (by rw [<- h.1];grind)] at x2
   exact h.2 i a' q' x1 x2
 · rw [List.getElem?_append_right (by omega)] at x1
   rw [List.getElem?_append_right (by rw [<- h.1];omega),<- h.1] at x2
   have hi0:i - as.length = 0:=by
    by_cases z:i - as.length = 0
    · exact z
    simp_all
   simp_all
theorem last_of {need:Int}{T:Qs}{k:Nat}{steps:Qs} (h0:0 < steps.length) {st:Int×Int} (h:steps[argBest (nG (steps.map (keyN need T k))) (steps.length - 1)]? = some st):IsLast need T k steps st:=by
 have gd:∀ {i:Nat}{x:Int×Int},steps[i]? = some x->(steps.map (keyL need T k)).getD i [] = keyL need T k x:=fun {i x} h=>by rw [List.getD_eq_getElem?_getD,List.getElem?_map,h];rfl
 have gn:∀ {i:Nat}{x:Int×Int},steps[i]? = some x->(steps.map (keyN need T k)).getD i ([],[]) = keyN need T k x:=fun {i x} h=>by rw [List.getD_eq_getElem?_getD,List.getElem?_map,h];rfl
 have hc:=argBest_congr (f:=nG (steps.map (keyN need T k))) (g:=lexG (steps.map (keyL need T k))) (steps.length - 1) fun a b ha hb=>by
  have ea:steps[a]? = some (steps[a]'(by omega)):=List.getElem?_eq_getElem _
  have eb:steps[b]? = some (steps[b]'(by omega)):=List.getElem?_eq_getElem _
  unfold nG lexG
  rw [gd ea,gd eb,gn ea,gn eb]
  unfold keyN keyL
  exact nLt_app _ _ rfl
 obtain⟨h1,h2⟩:=arg_max (steps.map (keyL need T k)) (steps.length - 1)
 rw [hc] at h
 refine⟨List.mem_of_getElem? h,fun x hx=>?_⟩
 obtain⟨i,hi,e⟩:=List.getElem_of_mem hx
 have:=h2 i (by omega)
 rw [gd h,gd (i:=i) (x:=x) (by rw [List.getElem?_eq_getElem hi,e])] at this
 exact this
section
local macro_rules | `(tactic| wtm_at "call")=>`(tactic| (apply k_maxN;(wtm_at "K");(assumption);(rfl);(rfl);(rfl);(with_reducible rfl);(rfl);(assumption);(wtm_at "pa")))
abbrev sLastP:Stmt:=top 34
theorem scLastP:FnScope ["need","table","place","steps"] ["need","table","place","steps"] (defScope sLastP):=by wtm_at "sc"
def spLastP:Sp:=fun vs H Q _=>∃ (need:Int) (t st:Addr) (k:Nat) (ts ss:List V) (T steps:Qs),vs = [.int need,.ref t,.int k,.ref st]/\H t = some (.tup ts)/\Kinds H ts T/\k<=T.length/\H st = some (.lst ss)/\Kinds H ss steps/\StepsOk k steps/\steps.length<=9/\0 < steps.length/\
 ∀ (r:Addr) (x:Int×Int) (H':Hp),L2.Same H H'->H' r = some (.tup [.int x.1,.int x.2])->IsLast need T k steps x->Q (.ref r) H'
theorem ok_lastP (F:Fun K "last_put" "last_put" sLastP Z fd) (cP:Callee CX0 P W K mg base "put_to" 1 ["need","pair","size"] spPut) (mX:mg "max" = none):FnOk P W K mg base CX0 2 Z fd ["need","table","place","steps"] spLastP:=by
 refine Br.Fun.j F scLastP (fun vs H Q E h=>?_) (fun _ A _ s H vs Q E hr h=>?_)
 · obtain⟨_,_,_,_,_,_,_,_,rfl,_⟩:=h;rfl
 · obtain⟨need,t,st,k,ts,ss,T,steps,rfl,hT,hkT,hkl,hS,hkS,hok,hs8,hs0,h⟩:=h
   have nd:=scLastP.nd
   have hsz:=sizeLine_eq
   have hsl:=hkS.1
   refine' ⟨_,?d,?r⟩
   case d=>wtm_at "body"
   case r=>
    refine⟨_,rfl,st,rfl,.inl ⟨⟨_,SqL.of hS⟩,?_⟩⟩
    refine cmp_list (K:=K) (a:=st) (xs:=ss) (fun j ys σ G=>L2.Same H G/\∃ (as:List Addr) (x y:Option V),ys = as.map V.ref/\as.length = j/\NstAt G as ((steps.take j).map (keyN need T k))/\σ = [x,y,some (.int need),some (.ref t),some (.int (k:Int)),some (.ref st)])
     ⟨L2.Same.refl _,[],none,none,rfl,rfl,⟨rfl,fun i a q e=>by simp at e⟩,rfl⟩ (by omega) (fun j ys σ G _ ⟨sG,as,_,_,e3,e4,_⟩=>⟨SqL.of (sG _ _ hS),by rw [e3,List.length_map];omega⟩) ?_ ?_
    · rintro j x ys σ G N hx ⟨sG,as,x0,y0,rfl,hal,hk,rfl⟩ hN
      obtain⟨q,hq,r,rfl,hrr⟩:=hkS.2 j x hx
      obtain⟨o1,o2,o3⟩:=hok q (List.mem_of_getElem? hq)
      refine⟨r,_,rfl,SqT.of (sG _ _ hrr),rfl,_,_,rfl,_,_,rfl,rfl,?_⟩
      have hix:k - q.2.toNat < T.length:=by omega
      obtain⟨v,hv⟩:∃ v,ts[k - q.2.toNat]? = some v:=⟨_,List.getElem?_eq_getElem (by rw [hkT.1];exact hix)⟩
      obtain⟨p,hp,rp,rfl,hrp⟩:=hkT.2 _ v hv
      have hat:atI ts ((k:Int) - q.2) = some (.ref rp):=by
       rw [show (k:Int) - q.2 = ((k - q.2.toNat:Nat):Int) by omega];exact atI_nat hv
      refine⟨_,rfl,_,rfl,_,rfl,_,rfl,_,_,rfl,rfl,?_⟩
      refine .inr (.inl ⟨t,_,_,_,rfl,rfl,SqT.of (sG _ _ hT),hat,_,rfl,?_⟩)
      refine⟨need,rp,p,q.1,rfl,sG _ _ hrp,fun r2 G2 n2 s2 e2=>?_⟩
      refine⟨_,rfl,_,rfl,?_⟩
      refine⟨lenLe (n:=3) rfl (by decide),fun r3 G3 n3 s3 e3=>hN _ _ _ ⟨sG.trans (s2.trans s3),as ++ [r3],_,_,by rw [List.map_append];rfl,by rw [List.length_append,hal];rfl,?_,rfl⟩⟩
      rw [List.take_add_one,hq,List.map_append]
      have hl:lastP need T k q = putP need p q.1:=by
       unfold lastP
       rw [List.getD_eq_getElem?_getD,hp];rfl
      refine nst_snoc (c:=r2) (nst_same hk (s2.trans s3)) e3 ?_
      unfold keyN
      rw [hl]
      exact s3 _ _ e2
    · rintro ys σ G ⟨sG,as,x0,y0,rfl,hal,hk,rfl⟩ pl G1 npl s1 e1
      rw [List.take_of_length_le (by omega)] at hk
      have hal':as.length = steps.length:=by omega
      refine⟨pl,as,_,rfl,SqL.of e1,by omega,nst_same hk s1,fun a ha=>?_⟩
      rw [hal'] at ha
      obtain⟨x,hx⟩:∃ x,steps[argBest (nG (steps.map (keyN need T k))) (steps.length - 1)]? = some x:=⟨_,List.getElem?_eq_getElem (by have:=argBest_le (nG (steps.map (keyN need T k))) (steps.length - 1);omega)⟩
      obtain⟨c,g1,g2⟩:=(nst_same hk s1).2 _ a _ ha (by rw [List.getElem?_map,hx];rfl)
      have hl:=last_of hs0 hx
      wtm_at "rd"
      refine⟨a,_,rfl,.inr ⟨SqT.of g1,(fun z=>absurd z.1 (by show ¬ HT.sIx 3 0 (some 1) = 0;decide)),fun l2 G2 n2 s2 e2=>?_⟩⟩
      exact h l2 x G2 (sG.trans (s1.trans s2)) e2 hl
end
theorem zero_way (ms:List Nat):∀ n,n<=ms.length->∀ (k:Nat) (u:List Int),(waysL (ms.take n))[k]? = some u->(∀ x∈u,x<=0)->k = 0
 | 0,_,k,u,h,_=>by
  have e:waysL (ms.take 0) = [[]]:=rfl
  cases k with
  | zero=>rfl
  | succ k=>grind
 | n + 1,hn,k,u,h,hz=>by
  obtain⟨m,hm⟩:∃ m,ms[n]? = some m:=⟨_,List.getElem?_eq_getElem (by omega)⟩
  rw [waysL_take hm] at h
  obtain⟨i,t,w,h1,hw,rfl,rfl⟩:=fm_inv h
  have h0:=zero_way ms n (by omega) i w hw fun x hx=>hz x (List.mem_append_left _ hx)
  have ht:=hz (t:Int) (by simp)
  grind
theorem way_len {k:Nat} (h:(waysL (cnts qs))[k]? = some w):w.length = qs.length:=by
 have:=(ways_ok _ (cnts qs).length (Nat.le_refl _)).len k w (by simp_all)
 rw [this];unfold cnts;simp
theorem LS_pos (hk:0 < k) (h:(LS qs)[k]? = some steps):0 < steps.length:=by
 unfold LS at h
 rw [List.getElem?_map] at h
 obtain⟨w,hw,rfl⟩:=Option.map_eq_some_iff.mp h
 by_cases hz:∀ x∈w,x<=0
 · have:=zero_way (cnts qs) (cnts qs).length (Nat.le_refl _) k w (by rw [List.take_length];exact hw) hz
   omega
 · obtain⟨x,hx⟩:=Classical.not_forall.mp hz
   obtain⟨hx,hp⟩:=Classical.not_imp.mp hx
   obtain⟨j,hj,e⟩:=List.getElem_of_mem hx
   have hl:=way_len hw
   have hj':j < (paces qs).length:=by rw [paces_len];omega
   have hm:(x,(paces qs)[j])∈(w.zip (paces qs)).filter fun x=>decide (0 < x.1):=List.mem_filter.mpr ⟨List.mem_of_getElem? (i:=j) (by rw [List.getElem?_zip_eq_some];exact⟨by rw [List.getElem?_eq_getElem hj,e],List.getElem?_eq_getElem hj'⟩),decide_eq_true (by show 0 < x;omega)⟩
   unfold lastsOf
   exact List.length_pos_of_mem (List.mem_map.mpr ⟨_,hm,rfl⟩)
inductive RowOf (need:Int) (LL:List (Qs)) (T:Qs):Nat->List Int->Prop
 | nil:RowOf need LL T 0 []
 | snoc {k:Nat}{steps:Qs}{st:Int×Int}{r:List Int} (hk:0 < k) (hs:LL[k]? = some steps) (hl:IsLast need T k steps st) (h:RowOf need LL T (k - st.2.toNat) r):RowOf need LL T k (r ++ [st.1])
theorem RowOf.uniq (h:RowOf need LL T k r):∀ {r':List Int},RowOf need LL T k r'->r = r':=by
 induction h with
 | nil=>
  intro r' h'
  cases h' with
  | nil=>rfl
  | snoc a _ _ _=>omega
 | snoc hk hs hl h ih=>
  intro r' h'
  cases h' with
  | nil=>omega
  | snoc hk' hs' hl' h'=>
   rw [hs] at hs'
   cases hs'
   have e:=last_uniq hl hl'
   subst e
   rw [ih h']
section
local macro_rules | `(tactic| wtm_at "pe")=>`(tactic| (apply k_revL;(wtm_at "K");(wtm_at "pe");(wtm_at "pe")))
local macro_rules | `(tactic| wtm_at "ps")=>`(tactic| (apply s_augSub;(wtm_at "at");(assumption);(exact .inl rfl);(rfl);(wtm_at "pe")))
abbrev sRowTo:Stmt:=top 35
theorem scRowTo:FnScope ["heap","table","place","lasts","row","size","pace"] ["heap","table","place"] (defScope sRowTo):=by wtm_at "sc"
def spRowTo:Sp:=fun vs H Q _=>∃ (h t:Addr) (need:Int) (qs:Qs) (k0:Nat) (ts:List V) (T:Qs),vs = [.ref h,.ref t,.int k0]/\HeapAt H h need qs/\(qs.map (·.2)).sum<=60/\prodc qs<=2000/\H t = some (.tup ts)/\Kinds H ts T/\T.length = (LS qs).length/\k0 < T.length/\
 ∀ (l:Addr) (row:List Int) (H':Hp),L2.Same H H'->H' l = some (.lst (row.map V.int))->RowOf need (LS qs) T k0 row->Q (.ref l) H'
theorem ok_rowTo (F:Fun K "row_to" "row_to" sRowTo Z fd) (cL:Callee CX0 P W K mg base "lasts_of" 4 ["heap"] spLasts) (cP:Callee CX0 P W K mg base "last_put" 2 ["need","table","place","steps"] spLastP):FnOk P W K mg base CX0 5 Z fd ["heap","table","place"] spRowTo:=by
 refine Br.Fun.j F scRowTo (fun vs H Q E h=>?_) (fun _ A _ s H vs Q E hr h=>?_)
 · obtain⟨_,_,_,_,_,_,_,rfl,_⟩:=h;rfl
 · obtain⟨hp,t,need,qs,k0,ts,T,rfl,hh,hs60,hp2,hT,hkT,hTl,hk0,h⟩:=h
   have nd:=scRowTo.nd
   have hsz:=sizeLine_eq
   obtain⟨t0,us0,h1,h2,h3,h4,h5,h6,h7⟩:=id hh
   have okS:∀ k steps,(LS qs)[k]? = some steps->StepsOk k steps:=LS_ok fun q h=>⟨(h7 q h).1,(h7 q h).2.2.1⟩
   refine' ⟨_,?d,?r⟩
   case d=>wtm_at "body"
   case r=>
    refine⟨_,rfl,hp,need,qs,rfl,hh,hs60,hp2,fun l ls H1 nl s1 e1 hL hl=>?_⟩
    refine⟨by decide,fun rw0 H2 nrw s2 e2=>?_⟩
    refine⟨fun m σ G=>L2.Same H1 G/\∃ (k:Nat) (acc:List Int) (x5 x6:Option V),m = k/\k<=k0/\acc.length + k<=k0/\G rw0 = some (.lst (acc.map V.int))/\(∀ r0,RowOf need (LS qs) T k r0->RowOf need (LS qs) T k0 (r0 ++ acc.reverse))/\σ = [some (.ref hp),some (.ref t),some (.int (k:Int)),some (.ref l),some (.ref rw0),x5,x6],
     ⟨_,s2,k0,[],none,none,rfl,Nat.le_refl _,by simp,e2,fun r0 hr0=>by simpa using hr0,rfl⟩,?_⟩
    rintro m σ G ⟨sG,k,acc,x5,x6,rfl,hkk,hak,eG,hrow,rfl⟩
    refine⟨_,rfl,?_⟩
    wtm_at "rd"
    refine ite2 (fun hc=>?_) (fun hc=>?_)
    · have hc:0 < (m:Int):=of_decide_eq_true hc
      have hmL:m < (LS qs).length:=by omega
      have eL:(LS qs)[m]? = some (LS qs)[m]:=List.getElem?_eq_getElem hmL
      have hml:m < ls.length:=by rw [hL.1];exact hmL
      obtain⟨steps,ss,hst,hss,hks⟩:=hL.2 m ls[m] (List.getElem?_eq_getElem hml)
      have sH:=s1.trans sG
      refine⟨_,fun _ _ hN=>hN,?_⟩
      refine⟨_,rfl,.inr (.inl ⟨hp,_,0,_,rfl,rfl,SqT.of (sH _ _ h1),(show atI [V.int need,V.ref t0] 0 = some (.int need) from rfl),?_⟩)⟩
      refine⟨_,rfl,_,rfl,_,rfl,_,rfl,.inl ⟨l,_,_,_,rfl,rfl,SqL.of (sG _ _ e1),atI_nat (by rw [List.getElem?_map,List.getElem?_eq_getElem hml];rfl),?_⟩⟩
      refine⟨need,t,ls[m],m,ts,ss,T,steps,rfl,sH _ _ hT,hkT.same sH,by omega,sG _ _ hss,hks.same sG,okS _ _ hst,LS_8 h4 _ _ hst,LS_pos (by omega) hst,fun r x G1 s3 e3 hlast=>?_⟩
      obtain⟨o1,o2,o3⟩:=okS _ _ hst x hlast.1
      have sG1:=sG.trans s3
      have eG1:=s3 _ _ eG
      refine⟨r,_,rfl,SqT.of e3,rfl,_,_,rfl,_,_,rfl,rfl,?_⟩
      refine⟨_,rfl,.inl ⟨rfl,_,SqL.of eG1⟩,?_⟩
      refine⟨_,rfl,rw0,_,_,rfl,rfl,eG1,by rw [List.length_map];have:=hL.1;omega,?_⟩
      wtm_at "rd"
      refine⟨m - x.2.toNat,by omega,fun b o e=>?_,m - x.2.toNat,acc ++ [x.1],some (.int x.1),some (.int x.2),rfl,by omega,by rw [List.length_append];simp;omega,by rw [upd_same,List.map_append];rfl,fun r0 hr0=>?_,?_⟩
      · rw [upd_ne (ne_of_none e nrw)];exact sG1 _ _ e
      · have:=hrow _ (RowOf.snoc (by omega) hst hlast hr0)
        rw [List.reverse_append]
        simpa using this
      · rw [show ((m - x.2.toNat:Nat):Int) = (m:Int) - x.2 by omega];rfl
    · have hc:¬ 0 < (m:Int):=fun z=>hc (decide_eq_true z)
      have hm0:m = 0:=by omega
      subst hm0
      refine⟨_,rfl,?_⟩
      wtm_at "rd"
      refine⟨rw0,_,rfl,rfl,SqL.of eG,fun p H3 n3 s3 e3=>?_⟩
      refine h p acc.reverse H3 (s1.trans (sG.trans s3)) (by rw [e3,<- List.map_reverse]) ?_
      have:=hrow [] .nil
      simpa using this
end
structure Bn where
 lots:List (List Int)
 ly:List Int
 g:Int
def stp (n:Int) (s:Bn) (z:Int):Bn:=if (s.ly ++ [z]).sum < n then ⟨s.lots,s.ly ++ [z],K44B.big s.g z⟩ else ⟨s.lots ++ [K44B.srt (s.ly ++ [z])],[],K44B.big s.g z⟩
def run (n:Int) (zs:List Int):Bn:=zs.foldl (stp n) ⟨[],[],0⟩
theorem run_snoc (n:Int) (zs:List Int) (z:Int):run n (zs ++ [z]) = stp n (run n zs) z:=by unfold run;simp
theorem run_len (n:Int) (zs:List Int):(run n zs).ly.length<=zs.length/\(run n zs).lots.length<=zs.length:=
 snoc_ind (p:=fun zs=>(run n zs).ly.length<=zs.length/\(run n zs).lots.length<=zs.length) ⟨Nat.le_refl _,Nat.le_refl _⟩ (fun l z ih=>by
  rw [run_snoc]
  unfold stp
  split
  · grind
  simp_all) zs
theorem run_perm (n:Int) (zs:List Int):((run n zs).lots.flatten ++ (run n zs).ly).Perm zs:=
 snoc_ind (p:=fun zs=>((run n zs).lots.flatten ++ (run n zs).ly).Perm zs) .nil (fun l z ih=>by
  rw [run_snoc]
  unfold stp
  split
  · rw [<- List.append_assoc];exact ih.append_right [z]
  · rw [List.append_nil,List.flatten_append]
    rw [List.flatten_singleton]
    refine ((K44B.srt_perm _).append_left _).trans ?_
    rw [<- List.append_assoc];exact ih.append_right [z]) zs
theorem run_lots (n:Int) (zs:List Int):∀ l∈(run n zs).lots,n<=l.sum/\l≠[]/\l.Pairwise (·<=·):=
 snoc_ind (p:=fun zs=>∀ l∈(run n zs).lots,n<=l.sum/\l≠[]/\l.Pairwise _) (fun l h=>nomatch h) (fun l z ih=>by
  rw [run_snoc]
  unfold stp
  split
  · omega
  · next hn=>
    intro x hx
    rcases List.mem_append.mp hx with h | h
    · simp_all
    · rw [List.mem_singleton.mp h]
      refine⟨by rw [perm_sum (K44B.srt_perm _)];omega,fun e=>?_,K44B.srt_sorted _⟩
      have:=(K44B.srt_perm ((run n l).ly ++ [z])).length_eq
      simp_all) zs
theorem run_put (n:Int) (zs:List Int):zs.foldl (putP n) (0,0) = (((run n zs).lots.length:Int),(run n zs).ly.sum):=
 snoc_ind (p:=fun zs=>zs.foldl _ (0,0) = (((run n zs).lots.length:Int),(run n zs).ly.sum)) rfl (fun l z ih=>by
  rw [List.foldl_append,ih,run_snoc]
  show putP n _ z = _
  have hs:((run n l).ly ++ [z]).sum = (run n l).ly.sum + z:=by simp
  unfold putP stp
  by_cases h:((run n l).ly ++ [z]).sum < n
  · rw [if_pos h,if_neg (by grind)]
    simp
  · rw [if_neg h,if_pos (by omega)]
    simp) zs
theorem row_fold (hq:∀ q∈qs,1<=q.1/\1<=q.2) (tab:IsTab need (LS qs) T) (h:RowOf need (LS qs) T k r):∀ v,T[k]? = some v->r.foldl (putP need) (0,0) = v:=by
 induction h with
 | nil=>
  intro v hv
  have hl:0 < (LS qs).length:=by rw [<- tab.1];grind
  have e:(LS qs)[0]? = some (LS qs)[0]:=List.getElem?_eq_getElem hl
  have ok:=LS_ok hq 0 _ e
  have hn:(LS qs)[0] = []:=by
   cases q:(LS qs)[0] with
   | nil=>rfl
   | cons a l=>rw [q] at ok;obtain⟨a1,a2,_⟩:=ok a (.head _);omega
  rcases tab.2 0 _ v e hv with ⟨_,z⟩ | ⟨z,_⟩
  · exact z.symm
  · rw [hn] at z;cases z
 | @snoc k steps st r hk hs hl h ih=>
  intro v hv
  have hlt:=(List.getElem?_eq_some_iff.mp hv).1
  have hv':T[k - st.2.toNat]? = some (T[k - st.2.toNat]'(by omega)):=List.getElem?_eq_getElem _
  have e1:=ih _ hv'
  have e2:=last_best hl (tab.2 k _ v hs hv)
  rw [List.foldl_append,e1]
  rw [<- e2]
  unfold lastP
  rw [List.getD_eq_getElem?_getD,hv']
  rfl
theorem sum_set:∀ {w:List Int}{j:Nat}{x y:Int},w[j]? = some x->(w.set j y).sum = w.sum - x + y
 | a :: w,0,x,y,h=>by grind
 | a :: w,j + 1,x,y,h=>by
  have h:=by simpa using h
  rw [List.set_cons_succ,List.sum_cons,List.sum_cons,sum_set h];omega
structure RowIn (qs:Qs) (w r:List Int):Prop where
 mem:∀ z∈r,∃ q∈qs,z = q.1
 cnt:∀ (j:Nat) (q:Int×Int) (x:Int),qs[j]? = some q->w[j]? = some x->((r.count q.1:Nat):Int)<=x
 len:((r.length:Nat):Int)<=w.sum
theorem nodup_at {qs:Qs} (nd:(qs.map (·.1)).Nodup) {i j:Nat} (hi:qs[i]? = some p) (hj:qs[j]? = some q) (e:p.1 = q.1):i = j:=by
 have h1:(qs.map (·.1))[i]? = some p.1:=by simp_all
 have h2:(qs.map (·.1))[j]? = some p.1:=by simp_all
 exact (List.getElem?_inj (List.getElem?_eq_some_iff.mp h1).1 nd).mp (h1.trans h2.symm)
theorem row_in (hq:∀ q∈qs,1<=q.1/\1<=q.2) (nd:(qs.map (·.1)).Nodup) (h:RowOf need (LS qs) T k r):∀ w,(waysL (cnts qs))[k]? = some w->RowIn qs w r:=by
 have bd:=fun (k:Nat) (w:List Int) (hw:(waysL (cnts qs))[k]? = some w)=>(ways_ok (cnts qs) (cnts qs).length (Nat.le_refl _)).bd k w
 have nn:∀ (k:Nat) (w:List Int),(waysL (cnts qs))[k]? = some w->∀ x∈w,0<=x:=fun k w hw x hx=>by
  obtain⟨j,hj,e⟩:=List.getElem_of_mem hx
  exact (bd k w hw j x (by rw [List.take_length];exact hw) (by rw [List.getElem?_eq_getElem hj,e])).1
 have sn:∀ l:List Int,(∀ x∈l,0<=x)->0<=l.sum:=fun l=>by
  induction l with
  | nil=>exact fun _=>Int.le_refl _
  | cons a l ih=>intro h;rw [List.sum_cons];have:=ih fun x hx=>h x (.tail _ hx);have:=h a (.head _);omega
 induction h with
 | nil=>exact fun w hw=>⟨fun z hz=>(nomatch hz),fun j q x _ hx=>nn 0 w hw x (List.mem_of_getElem? hx),sn w (nn 0 w hw)⟩
 | @snoc k steps st r hk hs hl h ih=>
  intro w hw
  have hs':=hs
  unfold LS at hs'
  rw [List.getElem?_map,hw] at hs'
  cases hs'
  obtain⟨j,x,h1,h2,h3⟩:=lasts_mem hl.1
  have hj:j < qs.length:=by have:=(List.getElem?_eq_some_iff.mp h3).1;rw [paces_len] at this;exact this
  obtain⟨q,hqj⟩:∃ q,qs[j]? = some q:=⟨_,List.getElem?_eq_getElem hj⟩
  rw [paces_at hqj] at h3
  cases h3
  obtain⟨_,_,hb⟩:=pace_back (fun q h=>(hq q h).2) hw h1 h2
  obtain⟨i1,i2,i3⟩:=ih _ hb
  refine⟨fun z hz=>?_,fun j' q' x' g1 g2=>?_,?_⟩
  · rcases List.mem_append.mp hz with z | z
    · exact i1 _ z
    · exact⟨q,List.mem_of_getElem? hqj,List.mem_singleton.mp z⟩
  · rw [List.count_append,List.count_singleton]
    by_cases e:j = j'
    · subst e
      rw [hqj] at g1;cases g1
      rw [h1] at g2;cases g2
      have:=i2 j q (x - 1) hqj (by rw [List.getElem?_set_self (List.getElem?_eq_some_iff.mp h1).1])
      simp
      omega
    · have:=i2 j' q' x' g1 (by rw [List.getElem?_set_ne e];exact g2)
      rw [show (q.1 == q'.1) = false from beq_eq_false_iff_ne.mpr fun z=>e (nodup_at nd hqj g1 z)]
      simp
      omega
  · rw [sum_set h1] at i3
    rw [List.length_append]
    simp
    omega
abbrev sFull:Stmt:=top 18
theorem scFull:FnScope ["need","lot"] ["need","lot"] (defScope sFull):=by wtm_at "sc"
def spFull (K:PySem.W.Frag):Sp:=fun vs H Q _=>∃ (n:Int) (a:Addr) (zs:List Int),vs = [.int n,.ref a]/\SqT K H a (zs.map V.int)/\Q (.bl (decide (n<=zs.sum))) H
theorem ok_full (F:Fun K "is_full" "is_full" sFull Z fd) (mU:mg "sum" = none):FnOk P W K mg base CX0 1 Z fd ["need","lot"] (spFull K):=by
 refine Br.Fun.j F scFull (fun vs H Q E h=>?_) (fun _ A _ s H vs Q E hr h=>?_)
 · obtain⟨_,_,_,rfl,_⟩:=h;rfl
 · obtain⟨n,a,zs,rfl,ha,h⟩:=h
   refine' ⟨_,?d,?r⟩
   case d=>wtm_at "body"
   case r=>exact⟨_,rfl,a,zs,rfl,.inr ha,_,rfl,_,_,rfl,rfl,h⟩
section
local macro_rules | `(tactic| wtm_at "ps")=>`(tactic| (apply s_if;(wtm_at "pt");(apply ss_cons;(apply s_dead);(apply ss_nil));(wtm_at "pss")))
abbrev sLeanOf:Stmt:=top 19
theorem scLeanOf:FnScope ["need","lot"] ["need","lot"] (defScope sLeanOf):=by wtm_at "sc"
def spLean:Sp:=fun vs H Q _=>∃ (n:Int) (a:Addr) (zs:List Int),vs = [.int n,.ref a]/\H a = some (.tup (zs.map V.int))/\zs≠[]/\1<=n/\n<=zs.sum/\∀ (b:Addr) (H':Hp),L2.Same H H'->H' b = some (.tup ((leanL n zs).map V.int))->Q (.ref b) H'
theorem ok_leanOf (F:Fun K "lean_of" "lean_of" sLeanOf Z fd) (cF:Callee CX0 P W K mg base "is_full" 1 ["need","lot"] (spFull K)):FnOk P W K mg base CX0 2 Z fd ["need","lot"] spLean:=by
 refine Br.Fun.j F scLeanOf (fun vs H Q E h=>?_) (fun _ A _ s H vs Q E hr h=>?_)
 · obtain⟨_,_,_,rfl,_⟩:=h;rfl
 · obtain⟨n,a,zs,rfl,ha,hne,hn1,hfull,h⟩:=h
   have nd:=scLeanOf.nd
   refine' ⟨_,?d,?r⟩
   case d=>wtm_at "body"
   case r=>
    refine⟨fun σ' H'=>H' = H/\σ' = [some (.int n),some (.ref a)],?_,?_⟩
    · refine⟨_,rfl,_,rfl,n,a,zs,rfl,SqT.of ha,_,rfl,ite2 (fun hc=>?_) (fun hc=>⟨rfl,rfl⟩)⟩
      rw [decide_eq_true hfull] at hc;cases hc
    rintro σ' H' ⟨rfl,rfl⟩
    refine⟨fun m σ G=>L2.Same H' G/\∃ (b:Addr) (ys:List Int),m = ys.length/\G b = some (.tup (ys.map V.int))/\ys≠[]/\leanL n ys = leanL n zs/\σ = [some (.int n),some (.ref b)],⟨_,L2.Same.refl _,a,zs,rfl,ha,hne,rfl,rfl⟩,?_⟩
    rintro m σ G ⟨sG,b,ys,rfl,hb,hyn,hys,rfl⟩
    obtain⟨y,yr,rfl⟩:∃ y yr,ys = y :: yr:=by
     cases ys with
     | nil=>exact absurd rfl hyn
     | cons y yr=>exact⟨y,yr,rfl⟩
    refine⟨_,rfl,?_⟩
    wtm_at "rd"
    refine⟨b,_,rfl,.inr ⟨SqT.of hb,tail_no hyn,fun l2 G1 n2 s1 e1=>?_⟩⟩
    rw [tail_cut] at e1
    refine⟨n,l2,yr,rfl,SqT.of e1,_,rfl,ite2 (fun hc=>?_) (fun hc=>?_)⟩
    · have hc:=of_decide_eq_true hc
      refine⟨_,fun _ _ hN=>hN,?_⟩
      wtm_at "rd"
      refine⟨b,_,rfl,.inr ⟨SqT.of (s1 _ _ hb),tail_no hyn,fun l3 G2 n3 s2 e2=>?_⟩⟩
      rw [tail_cut] at e2
      have hyr:yr≠[]:=fun z=>by subst z;simp at hc;omega
      exact⟨yr.length,by simp,sG.trans (s1.trans s2),l3,yr,rfl,e2,hyr,by rw [<- hys,leanL_step hc],rfl⟩
    · have hc':¬ n<=yr.sum:=fun z=>hc (decide_eq_true z)
      refine⟨_,rfl,h b G1 (sG.trans s1) ?_⟩
      rw [<- hys,leanL_end hc']
      exact s1 _ _ hb
end
def Lotp (H:Hp) (v:V) (q:List Int×Int):Prop:=∃ r c:Addr,v = .ref r/\H r = some (.tup [.ref c,.int q.2])/\H c = some (.tup (q.1.map V.int))
def Prs (H:Hp) (vs:List V) (fs:Fs):Prop:=vs.length = fs.length/\∀ (i:Nat) (v:V),vs[i]? = some v->∃ q,fs[i]? = some q/\Lotp H v q
def FillAt (H:Hp) (f:Addr) (fs:Fs):Prop:=∃ vs,H f = some (.tup vs)/\Prs H vs fs
theorem Lotp.tu (x:Lotp H v q) (m:Tu H H'):Lotp H' v q:=let ⟨r,c,h1,h2,h3⟩:=x;⟨r,c,h1,m _ _ h2 ⟨_,rfl⟩,m _ _ h3 ⟨_,rfl⟩⟩
theorem Prs.tu (x:Prs H vs fs) (m:Tu H H'):Prs H' vs fs:=⟨x.1,fun i v e=>let ⟨q,h1,h2⟩:=x.2 i v e;⟨q,h1,h2.tu m⟩⟩
theorem FillAt.tu (x:FillAt H f fs) (m:Tu H H'):FillAt H' f fs:=let ⟨vs,h1,h2⟩:=x;⟨vs,m _ _ h1 ⟨_,rfl⟩,h2.tu m⟩
theorem Prs.nil:Prs H [] []:=⟨rfl,fun i v e=>by simp_all⟩
theorem Prs.snoc (k:Prs H vs fs) (e:Lotp H v q):Prs H (vs ++ [v]) (fs ++ [q]):=by
 have k1:=k.1
 refine⟨by simp_all,fun i u h=>?_⟩
 by_cases hi:i < vs.length
 · rw [List.getElem?_append_left hi] at h
   obtain⟨q',h1,h2⟩:=k.2 i u h
   exact⟨q',by grind,h2⟩
 · have hi2:=by have:=(List.getElem?_eq_some_iff.mp h).1;omega
   simp_all
abbrev sLotsR:Stmt:=top 36
theorem scLotsR:FnScope ["need","row","bench","size"] ["need","row"] (defScope sLotsR):=by wtm_at "sc"
def spLotsR:Sp:=fun vs H Q _=>∃ (n:Int) (l:Addr) (zs:List Int),vs = [.int n,.ref l]/\H l = some (.lst (zs.map V.int))/\zs.length<=61/\∀ (a:Addr) (ts:List Addr) (H':Hp),L2.Same H H'->H' a = some (.lst (ts.map V.ref))->K44B.Lots H' ts (run n zs).lots->Q (.ref a) H'
theorem ok_lotsR (F:Fun K "lots_of_row" "lots_of_row" sLotsR Z fd) (cN:CalleeC P W K mg base "Bench" C 1 ["self","need"] (K44B.spInit C)) (cP:CalleeM P W K mg base C "put" 2 ["self","size"] (K44B.spPut C))
 (cS:CalleeM P W K mg base C "shut_lots" 1 ["self"] (K44B.spShut C)):FnOk P W K mg base CX0 3 Z fd ["need","row"] spLotsR:=by
 refine Br.Fun.j F scLotsR (fun vs H Q E h=>?_) (fun _ A _ s H vs Q E hr h=>?_)
 · obtain⟨_,_,_,rfl,_⟩:=h;rfl
 · obtain⟨n,l,zs,rfl,hl,hlen,h⟩:=h
   have nd:=scLotsR.nd
   have hsz:=sizeLine_eq
   refine' ⟨_,?d,?r⟩
   case d=>wtm_at "body"
   case r=>
    refine⟨_,rfl,fun x dx nx ndx nex=>?_⟩
    refine⟨x,dx,n,rfl,upd_same,fun ls ll H1 nls nll B1 kp=>⟨rfl,?_⟩⟩
    have nls0:H ls = none:=(K44B.upd_none (K44B.upd_none nls).2).2
    have nll0:H ll = none:=(K44B.upd_none (K44B.upd_none nll).2).2
    have s1:L2.Same H H1:=fun b ob e=>kp b ob (by rw [upd_ne (ne_of_none e nx),upd_ne (ne_of_none e ndx)];exact e) (ne_of_none e nx)
    refine⟨_,rfl,l,rfl,.inl ⟨⟨_,SqL.of (s1 _ _ hl)⟩,?_⟩⟩
    refine for_list (K:=K) (a:=l) (xs:=zs.map V.int) (fun i σ Hh=>∃ (lb:Addr) (x0:Option V),K44B.BenchAt C Hh x ls lb n (run n (zs.take i)).lots (run n (zs.take i)).ly (run n (zs.take i)).g/\L2.Same H Hh/\H lb = none/\σ = [some (.int n),some (.ref l),some (.ref x),x0])
     ⟨ll,none,B1,s1,nll0,rfl⟩ (fun i σ Hh hi ⟨_,_,_,sH,_⟩=>SqL.of (sH _ _ hl)) ?_ ?_
    · rintro i v σ Hh hi ⟨lb,x0,B,sH,nlb,rfl⟩
      have hil:i < zs.length:=by have:=(List.getElem?_eq_some_iff.mp hi).1;rw [List.length_map] at this;exact this
      rw [List.getElem?_map] at hi
      obtain⟨z,hzi,rfl⟩:=Option.map_eq_some_iff.mp hi
      have htk:zs.take (i + 1) = zs.take i ++ [z]:=by rw [List.take_add_one,hzi];rfl
      obtain⟨b1,b2⟩:=run_len n (zs.take i)
      have htl:(zs.take i).length<=61:=by rw [List.length_take];omega
      have hrun:run n (zs.take (i + 1)) = stp n (run n (zs.take i)) z:=by rw [htk,run_snoc]
      rw [hrun]
      generalize run n (zs.take i) = r at B b1 b2 ⊢
      obtain⟨dxh,oh⟩:=B.ob
      refine⟨_,rfl,x,dxh,_,rfl,oh,K44B.fl_put,_,rfl,?_⟩
      refine⟨x,ls,lb,n,z,r.lots,r.ly,r.g,rfl,B,by omega,by omega,fun hlt H2 B2 k2=>?_,fun hge l' H2 nl' B2 k2=>?_⟩
      · refine⟨lb,_,?_,fun b o e=>k2 b o (sH _ _ e) (ne_of_none e nx) (ne_of_none e nls0) (ne_of_none e nlb),nlb,rfl⟩
        unfold stp;rw [if_pos hlt];exact B2
      · refine⟨l',_,?_,fun b o e=>k2 b o (sH _ _ e) (ne_of_none e nx) (ne_of_none e nls0) (ne_of_none e nlb),none_of sH nl',rfl⟩
        unfold stp;rw [if_neg hge];exact B2
    rintro σ H2 ⟨lb,x0,B,sH,nlb,rfl⟩
    rw [List.length_map,List.take_length] at B
    obtain⟨d3,o3⟩:=B.ob
    refine⟨_,rfl,x,d3,_,rfl,o3,K44B.fl_shutL,?_⟩
    exact⟨x,ls,lb,n,_,_,_,rfl,B,fun l4 ts H4 nl4 s4 e4 lo4=>h l4 ts H4 (sH.trans s4) e4 lo4⟩
theorem dgetT (e:H a = some (.dT (vT ks))) (eb:H b = some (.tup (zs.map V.int))):DGet H a (.ref b) ((tlook ks zs).map V.int):=by
 rw [<- val_vT];exact DGet.t e (by rw [kV_inl];omega)
theorem dputT (e:H a = some (.dT (vT ks))) (eb:H b = some (.tup (zs.map V.int))) (nd:(ks.map (·.1)).Nodup) (hl:ks.length < sizeLine):DPut H a (.ref b) (.int m) (upd H a (.dT (vT (tput ks zs m)))):=by
 rw [<- put_vT zs m nd];exact DPut.t e (by rw [kV_inl];omega) (by unfold vT;simp_all)
section
local macro_rules | `(tactic| wtm_at "pe")=>`(tactic| first | apply j_dictT | (apply j_dget2;(assumption);(rfl);(rfl);(rfl);(rfl);(wtm_at "pe");(wtm_at "pe");(wtm_at "pe")) | (apply k_sortIt2S;(assumption);(rfl);(rfl);(rfl);(rfl);(rfl);(assumption);(rfl);(rfl);(rfl);(wtm_at "pe")))
local macro_rules | `(tactic| wtm_at "ps")=>`(tactic| (apply s_dputA "leans";(assumption);(rfl);(wtm_at "pe");(wtm_at "pe");(wtm_at "pe")))
abbrev sLeanF:Stmt:=top 21
theorem scLeanF:FnScope ["heap","filling","leans","lot","times","lean"] ["heap","filling"] (defScope sLeanF):=by wtm_at "sc"
def spLeanF:Sp:=fun vs H Q _=>∃ (h t f:Addr) (need:Int) (us:List V) (fs:Fs),vs = [.ref h,.ref f]/\H h = some (.tup [.int need,.ref t])/\1<=need/\H f = some (.lst us)/\Prs H us fs/\fs.length<=61/\(∀ g∈fs,g.1≠[]/\need<=g.1.sum)/\
 ∀ (r:Addr) (gs:Fs) (H':Hp),L2.Same H H'->FillAt H' r gs->IsLean need fs gs->Q (.ref r) H'
theorem ok_leanF (F:Fun K "lean_filling" "lean_filling" sLeanF Z fd) (cL:Callee CX0 P W K mg base "lean_of" 2 ["need","lot"] spLean) (mS:mg "sorted" = none) (mT:mg "tuple" = none):FnOk P W K mg base CX0 3 Z fd ["heap","filling"] spLeanF:=by
 refine Br.Fun.j F scLeanF (fun vs H Q E h=>?_) (fun _ A _ s H vs Q E hr h=>?_)
 · obtain⟨_,_,_,_,_,_,rfl,_⟩:=h;rfl
 · obtain⟨hp,t,fa,need,us,fs,rfl,hh,hn,h1,h2,hfl,hfs,h⟩:=h
   have nd:=scLeanF.nd
   have hsz:=sizeLine_eq
   have hul:=h2.1
   refine' ⟨_,?d,?r⟩
   case d=>wtm_at "body"
   case r=>
    refine fun d H1 hd s1 e1=>?_
    refine⟨_,rfl,fa,rfl,.inl ⟨⟨_,SqL.of (s1 _ _ h1)⟩,?_⟩⟩
    refine for_list (K:=K) (a:=fa) (xs:=us) (fun i σ G=>L2.Same H G/\∃ (x3 x4 x5:Option V),G d = some (.dT (vT (leanK need (fs.take i))))/\σ = [some (.ref hp),some (.ref fa),some (.ref d),x3,x4,x5])
     ⟨s1,none,none,none,e1,rfl⟩ (fun i σ G _ ⟨sG,_⟩=>SqL.of (sG _ _ h1)) ?_ ?_
    · rintro i x σ G hx ⟨sG,x3,x4,x5,eG,rfl⟩
      obtain⟨q,hq,r,c,rfl,hrr,hcc⟩:=h2.2 i x hx
      obtain⟨hq1,hq2⟩:=hfs q (List.mem_of_getElem? hq)
      have hix0:atI [V.int need,V.ref t] 0 = some (.int need):=rfl
      refine⟨r,_,rfl,SqT.of (sG _ _ hrr),rfl,_,_,rfl,_,_,rfl,rfl,?_⟩
      refine⟨_,rfl,.inr (.inl ⟨hp,_,0,_,rfl,rfl,SqT.of (sG _ _ hh),hix0,?_⟩)⟩
      refine⟨_,rfl,need,c,q.1,rfl,sG _ _ hcc,hq1,hn,hq2,fun b G1 s2 eb=>?_⟩
      have eG1:=s2 _ _ eG
      have nk:=leanK_nodup need (fs.take i)
      have lk:=leanK_len need (fs.take i)
      have lt:(fs.take i).length<=fs.length:=by rw [List.length_take];omega
      have dg:=dgetT eG1 eb
      have gd:((tlook (leanK need (fs.take i)) (leanL need q.1)).map V.int).getD (.int 0) = .int ((tlook (leanK need (fs.take i)) (leanL need q.1)).getD 0):=by cases tlook (leanK need (fs.take i)) (leanL need q.1) <;> rfl
      refine⟨_,rfl,d,rfl,.inr ⟨_,.inl eG1⟩,_,rfl,_,dg,?_⟩
      rw [gd]
      refine⟨_,rfl,.inl ⟨_,_,rfl,rfl,?_⟩⟩
      refine⟨_,rfl,_,rfl,d,_,rfl,dputT eG1 eb nk (by omega),fun b o e=>?_,_,_,_,by rw [upd_same,leanK_take hq],rfl⟩
      rw [upd_ne (ne_of_none e hd)];exact s2 _ _ (sG _ _ e)
    · rintro σ G ⟨sG,x3,x4,x5,eG,rfl⟩
      rw [hul,List.take_length] at eG
      have nk:=leanK_nodup need fs
      have lk:=leanK_len need fs
      refine⟨_,rfl,d,_,rfl,eG,by omega,fun l bs qs G1 nl s2 e2 hbl hb pm pw=>?_⟩
      refine⟨l,_,rfl,SqL.of e2,fun r G2 nr s3 e3=>?_⟩
      refine h r qs G2 (sG.trans (s2.trans s3)) ⟨_,e3,by rw [List.length_map];exact hbl,fun i v hv=>?_⟩ ⟨sort_itemsT nk pm pw,pm⟩
      rw [List.getElem?_map] at hv
      obtain⟨b,hb1,rfl⟩:=Option.map_eq_some_iff.mp hv
      obtain⟨q,c,g1,g2,g3⟩:=hb i b hb1
      exact⟨q,g1,b,c,rfl,s3 _ _ g2,s3 _ _ g3⟩
end
abbrev sFillR:Stmt:=top 37
theorem scFillR:FnScope ["heap","row"] ["heap","row"] (defScope sFillR):=by wtm_at "sc"
def ones (ls:List (List Int)):Fs:=ls.map fun l=>(l,1)
def spFillR:Sp:=fun vs H Q _=>∃ (h t l:Addr) (need:Int) (zs:List Int),vs = [.ref h,.ref l]/\H h = some (.tup [.int need,.ref t])/\1<=need/\H l = some (.lst (zs.map V.int))/\zs.length<=61/\
 ∀ (r:Addr) (gs:Fs) (H':Hp),L2.Same H H'->FillAt H' r gs->IsLean need (ones (run need zs).lots) gs->Q (.ref r) H'
theorem ok_fillR (F:Fun K "filling_of_row" "filling_of_row" sFillR Z fd) (cR:Callee CX0 P W K mg base "lots_of_row" 3 ["need","row"] spLotsR) (cL:Callee CX0 P W K mg base "lean_filling" 3 ["heap","filling"] spLeanF):FnOk P W K mg base CX0 4 Z fd ["heap","row"] spFillR:=by
 refine Br.Fun.j F scFillR (fun vs H Q E h=>?_) (fun _ A _ s H vs Q E hr h=>?_)
 · obtain⟨_,_,_,_,_,rfl,_⟩:=h;rfl
 · obtain⟨hp,t,l,need,zs,rfl,hh,hn,hl,hlen,h⟩:=h
   have nd:=scFillR.nd
   have hsz:=sizeLine_eq
   refine' ⟨_,?d,?r⟩
   case d=>wtm_at "body"
   case r=>
    refine⟨_,rfl,_,rfl,.inr (.inl ⟨hp,_,0,_,rfl,rfl,SqT.of hh,(show atI [V.int need,V.ref t] 0 = some (.int need) from rfl),?_⟩)⟩
    refine⟨_,rfl,need,l,zs,rfl,hl,hlen,fun a ts H1 s1 e1 lo=>?_⟩
    refine⟨a,rfl,.inl ⟨⟨_,SqL.of e1⟩,?_⟩⟩
    obtain⟨r1,r2⟩:=run_len need zs
    have hts:=lo.1
    refine cmp_list (K:=K) (a:=a) (xs:=ts.map V.ref) (fun j ys σ G=>L2.Same H1 G/\∃ (x:Option V),Prs G ys (ones ((run need zs).lots.take j))/\σ = [x,some (.ref hp),some (.ref l)])
     ⟨L2.Same.refl _,none,Prs.nil,rfl⟩ (by rw [List.length_map];omega) (fun j ys σ G hj ⟨sG,_,k,_⟩=>⟨SqL.of (sG _ _ e1),by rw [k.1];unfold ones;rw [List.length_map,List.length_take];omega⟩) ?_ ?_
    · rintro j x ys σ G N hx ⟨sG,x0,hk,rfl⟩ hN
      rw [List.getElem?_map] at hx
      obtain⟨b,hb,rfl⟩:=Option.map_eq_some_iff.mp hx
      have hj:j < (run need zs).lots.length:=by have:=(List.getElem?_eq_some_iff.mp hb).1;omega
      have el:(run need zs).lots[j]? = some (run need zs).lots[j]:=List.getElem?_eq_getElem hj
      have eb:=lo.2 j b _ hb el
      refine⟨_,rfl,lenLe (n:=2) rfl (by decide),fun r3 G3 n3 s3 e3=>hN _ _ _ ⟨sG.trans s3,_,?_,rfl⟩⟩
      rw [List.take_add_one,el]
      unfold ones
      rw [List.map_append]
      exact (hk.tu (Tu.of s3)).snoc ⟨r3,b,rfl,e3,s3 _ _ (sG _ _ eb)⟩
    · rintro ys σ G ⟨sG,x0,hk,rfl⟩ pl G1 npl s2 e2
      rw [List.length_map,hts,List.take_length] at hk
      have sH:=s1.trans (sG.trans s2)
      refine⟨hp,t,pl,need,ys,_,rfl,sH _ _ hh,hn,e2,hk.tu (Tu.of s2),by unfold ones;rw [List.length_map];omega,fun g hg=>?_,fun r gs H' s3 hf il=>h r gs H' (sH.trans s3) hf il⟩
      unfold ones at hg
      obtain⟨lt,hlt,rfl⟩:=List.mem_map.mp hg
      obtain⟨a1,a2,_⟩:=run_lots need zs lt hlt
      exact⟨a2,a1⟩
theorem cnt_take {zs:List Int} (e:zs[i]? = some z) (n:Int):(zs.take (i + 1)).count n = (zs.take i).count n + if z = n then 1 else 0:=by
 rw [List.take_add_one,e,List.count_append]
 show _ + List.count n [z] = _
 rw [List.count_singleton]
 simp
theorem dput_getD (ks:Qs) (z v n:Int):(dlook (dput ks z v) n).getD 0 = if z = n then v else (dlook ks n).getD 0:=by
 rw [dput_look];split <;> rfl
def tl (fs:Fs):Nat:=(fs.map fun g=>g.1.length).sum
theorem tl_take {fs:Fs} (h:fs[i]? = some q):tl (fs.take (i + 1)) = tl (fs.take i) + q.1.length:=by
 unfold tl
 rw [List.take_add_one,h,List.map_append,List.sum_append]
 rfl
theorem tl_le (fs:Fs) (i:Nat):tl (fs.take i)<=tl fs:=by
 have e:tl fs = tl (fs.take i) + tl (fs.drop i):=by
  unfold tl
  rw [<- List.sum_append,<- List.map_append,List.take_append_drop]
 omega
structure FilOk (need:Int) (qs:Qs) (gs:Fs):Prop where
 ris:RisT gs
 len:gs.length<=61
 lot:∀ g∈gs,1<=g.2/\g.1.Pairwise (·<=·)/\need<=g.1.sum/\g.1≠[]/\g.1.length<=61/\∀ z∈g.1,1<=z/\z<=10 ^ 12
 tot:tl gs<=61
 fit:∀ n,cntF gs n<=(dlook qs n).getD 0
theorem tl_perm (h:a.Perm b):tl a = tl b:=by
 unfold tl
 grind
theorem tl_tput (n:List Int) (m:Int):∀ ks:Fs,tl (tput ks n m)<=tl ks + n.length
 | []=>by unfold tl tput;simp
 | q :: ks=>by
  have ih:=tl_tput n m ks
  unfold tput
  split
  · next e=>unfold tl;grind
  · unfold tl at ih ⊢;grind
theorem tl_lean (need:Int) (fs:Fs):tl (leanK need fs)<=tl fs:=
 snoc_ind (p:=fun fs=>tl (leanK need fs)<=tl fs) (Nat.le_refl _) (fun l a ih=>by
  rw [leanK_snoc]
  have h1:=tl_tput (leanL need a.1) ((tlook (leanK need l) (leanL need a.1)).getD 0 + a.2) (leanK need l)
  have h2:=(leanL_suf need a.1).sublist.length_le
  have h3:tl (l ++ [a]) = tl l + a.1.length:=by unfold tl;simp
  omega) fs
theorem tl_ones:∀ ls:List (List Int),tl (ones ls) = ls.flatten.length
 | []=>rfl
 | l :: ls=>by
  have ih:=tl_ones ls
  unfold ones tl at ih ⊢
  simp_all
theorem cnt_lean (need n:Int) (fs:Fs):(∀ f∈fs,0<=f.2)->cntF (leanK need fs) n<=cntF fs n:=
 snoc_ind (p:=fun fs=>(∀ f∈fs,0<=f.2)->cntF (leanK need fs) n<=cntF fs n) (fun _=>Int.le_refl _) (fun l a ih hp=>by
  have ih:=ih fun f hf=>hp f (List.mem_append_left _ hf)
  have ha:=hp a (List.mem_append_right _ (.head _))
  rw [leanK_snoc,cntF_append,cntF_one]
  unfold cntF at ih ⊢
  rw [wsum_tput]
  have hc:=Int.ofNat_le.mpr ((leanL_suf need a.1).sublist.count_le n)
  have:=Int.mul_le_mul_of_nonneg_left hc ha
  omega) fs
theorem cnt_ones (n:Int):∀ ls:List (List Int),cntF (ones ls) n = ((ls.flatten.count n:Nat):Int)
 | []=>rfl
 | l :: ls=>by
  have ih:=cnt_ones n ls
  unfold ones cntF at ih ⊢
  rw [List.map_cons,wsum_cons,ih,List.flatten_cons,List.count_append]
  simp
theorem sum_ones:∀ ls:List (List Int),((ones ls).map (·.2)).sum = (ls.length:Int)
 | []=>rfl
 | l :: ls=>by
  have ih:=sum_ones ls
  unfold ones at ih ⊢
  grind
theorem row_fil {need:Int}{qs:Qs}{row:List Int}{gs:Fs} (hn:1<=need) (hb:∀ z∈row,1<=z/\z<=10 ^ 12) (hl:row.length<=61) (fit:∀ n,((row.count n:Nat):Int)<=(dlook qs n).getD 0) (il:IsLean need (ones (run need row).lots) gs):
 FilOk need qs gs/\(gs.map (·.2)).sum = ((run need row).lots.length:Int):=by
 obtain⟨r1,r2⟩:=run_len need row
 have hpm:=run_perm need row
 have hp1:∀ f∈ones (run need row).lots,1<=f.2:=fun f hf=>by
  unfold ones at hf
  obtain⟨l,_,rfl⟩:=List.mem_map.mp hf
  exact Int.le_refl _
 have each:∀ g∈gs,1<=g.2/\∃ l∈(run need row).lots,g.1 = leanL need l:=fun g hg=>by
  obtain⟨a,f,hf,e⟩:=leanK_mem hp1 g (il.2.mem_iff.mp hg)
  unfold ones at hf
  obtain⟨l,hl,rfl⟩:=List.mem_map.mp hf
  exact⟨a,l,hl,e⟩
 have inrow:∀ l∈(run need row).lots,∀ z∈l,z∈row:=fun l hl z hz=>hpm.mem_iff.mp (List.mem_append_left _ (List.mem_flatten.mpr ⟨l,hl,hz⟩))
 have c3:=hpm.length_eq
 rw [List.length_append] at c3
 refine⟨⟨il.1,?_,fun g hg=>?_,?_,fun n=>?_⟩,?_⟩
 · rw [il.2.length_eq]
   have:=leanK_len need (ones (run need row).lots)
   unfold ones at this
   rw [List.length_map] at this
   unfold ones
   omega
 · obtain⟨a,l,hl,e⟩:=each g hg
   obtain⟨b1,b2,b3⟩:=run_lots need row l hl
   have sf:=leanL_suf need l
   rw [e]
   refine⟨a,b3.sublist sf.sublist,leanL_full b1,leanL_ne hn b1,?_,fun z hz=>hb z (inrow l hl z (sf.subset hz))⟩
   have c1:=sf.sublist.length_le
   have c2:l.length<=(run need row).lots.flatten.length:=(List.sublist_flatten_of_mem hl).length_le
   omega
 · rw [tl_perm il.2]
   have c1:=tl_lean need (ones (run need row).lots)
   rw [tl_ones] at c1
   omega
 · have e1:cntF gs n = cntF (leanK need (ones (run need row).lots)) n:=wsum_perm _ il.2
   have e2:=cnt_lean need n (ones (run need row).lots) fun f hf=>by have:=hp1 f hf;omega
   rw [cnt_ones] at e2
   have e3:((run need row).lots.flatten.count n)<=row.count n:=by
    rw [<- hpm.count_eq n,List.count_append];omega
   have:=fit n
   omega
 · rw [perm_sum (il.2.map (·.2)),leanK_sum,sum_ones]
theorem sum_le:∀ {w l:List Int},w.length = l.length->(∀ (j:Nat) (x y:Int),w[j]? = some x->l[j]? = some y->x<=y)->w.sum<=l.sum
 | [],[],_,_=>Int.le_refl _
 | [],_ :: _,h,_=>by cases h
 | _ :: _,[],h,_=>by cases h
 | x :: w,y :: l,h,k=>by
  rw [List.sum_cons,List.sum_cons]
  have a:=k 0 x y rfl rfl
  have b:=sum_le (by simpa using h) fun j x y h1 h2=>k (j + 1) x y (by grind) (by grind)
  omega
theorem way_sum (hq:∀ q∈qs,1<=q.2) {k:Nat} (hw:(waysL (cnts qs))[k]? = some w):w.sum<=(qs.map (·.2)).sum:=by
 refine sum_le (by rw [way_len hw,List.length_map]) fun j x y h1 h2=>?_
 obtain⟨_,m,hm,hx⟩:=(ways_ok _ (cnts qs).length (Nat.le_refl _)).bd k w j x (by simp_all) h1
 rw [List.getElem?_map] at h2
 obtain⟨q,hqj,rfl⟩:=Option.map_eq_some_iff.mp h2
 unfold cnts at hm
 rw [List.getElem?_map,hqj] at hm
 cases hm
 have:=hq q (List.mem_of_getElem? hqj)
 grind
theorem plL (ns:List Int):Pl (.list (ns.map PyData.int)):=by
 have h1:∀ ns:List Int,PyData.canLayAll0 (ns.map PyData.int) = true:=fun ns=>by
  induction ns with
  | nil=>rfl
  | cons n ns ih=>assumption
 have h2:∀ ns:List Int,PyData.depthAll (ns.map PyData.int)<=1:=fun ns=>by
  induction ns with
  | nil=>simp [PyData.depthAll]
  | cons n ns ih=>assumption
 refine⟨by exact h1 ns,?_⟩
 have:=h2 ns
 simp [PyData.depth];omega
theorem kinds_refs {H:Hp}:∀ {vs:List V}{qs:Qs},Kinds H vs qs->∃ as:List Addr,vs = as.map V.ref/\as.length = qs.length/\∀ (i:Nat) (a:Addr) (q:Int×Int),as[i]? = some a->qs[i]? = some q->H a = some (.tup [.int q.1,.int q.2])
 | [],[],_=>⟨[],rfl,rfl,fun i a q h=>by simp at h⟩
 | [],_ :: _,h=>by have:=h.1;simp at this
 | _ :: _,[],h=>by have:=h.1;simp at this
 | v :: vs,q :: qs,h=>by
  obtain⟨q',e,r,rfl,hr⟩:=h.2 0 v rfl
  simp at e;subst e
  obtain⟨as,h1,h2,h3⟩:=kinds_refs ⟨by simpa using h.1,fun i u e=>h.2 (i + 1) u (by simpa using e)⟩
  refine⟨r :: as,by rw [h1];rfl,by grind,fun i a q e1 e2=>?_⟩
  cases i with
  | zero=>simp at e1 e2;subst e1;subst e2;exact hr
  | succ i=>exact h3 i a q (by simpa using e1) (by simpa using e2)
theorem merge_vv2 (nd:(qs.map (·.1)).Nodup):mergeK [] (vv2 qs) = vv2 qs:=by
 have gen:∀ (rs ks:List _),((ks ++ rs).map (·.1)).Nodup->mergeK (vv2 ks) (vv2 rs) = vv2 (ks ++ rs):=fun rs=>by
  induction rs with
  | nil=>intro ks _;rw [List.append_nil];rfl
  | cons r rs ih=>
   intro ks h
   have e:mergeK (vv2 ks) (vv2 (r :: rs)) = mergeK (putK (vv2 ks) (.inl r.1) (.int r.2)) (vv2 rs):=rfl
   have hr:=fun z=>by
    rw [List.map_append,List.nodup_append] at h
    exact h.2.2 _ z r.1 (.head _) rfl
   rw [e,put_vv2,show dput ks r.1 r.2 = ks ++ [r] by unfold dput;rw [if_neg hr],ih _ (by simp_all),List.append_assoc];rfl
 exact gen qs [] nd
abbrev sWhole:Stmt:=top 48
theorem scWhole:FnScope ["thing"] ["thing"] (defScope sWhole):=⟨rfl,rfl,rfl,by simp,rfl,by decide +kernel,by decide +kernel⟩
def spWhole:Sp:=fun vs H Q _=>∃ n:Int,vs = [.int n]/\Q (.bl true) H
theorem ok_whole (F:Fun K "_law_whole" "_law_whole" sWhole Z fd) (mI:mg "isinstance" = none) (mN:mg "int" = none) (mB:mg "bool" = none):FnOk P W K mg base CX0 1 Z fd ["thing"] spWhole:=by
 refine Br.Fun.j F scWhole (fun vs H Q E h=>?_) (fun _ A _ s H vs Q E hr h=>?_)
 · obtain⟨_,rfl,_⟩:=h;rfl
 · obtain⟨n,rfl,h⟩:=h
   refine' ⟨_,?d,?r⟩
   case d=>wtm_at "body"
   case r=>
    wtm_at "rd"
    refine Or.inl ⟨_,_,_,_,rfl,.of (TyOf.int _),rfl,_,rfl,iteT ?_⟩
    wtm_at "rd"
    exact Or.inl ⟨_,_,_,_,rfl,.of (TyOf.int _),rfl,_,rfl,h⟩
def lastL (gs:Fs) (i:Nat):List Int:=match i with
 | 0=>[]
 | i + 1=>(gs.getD i ([],0)).1
section
local macro_rules | `(tactic| wtm_at "cop")=>`(tactic| first | (apply c_leT;(wtm_at "K");(assumption)) | (apply c_neD;assumption))
local macro_rules | `(tactic| wtm_at "pe")=>`(tactic| first | (apply j_dictP;(rfl);(rfl);(rfl);(with_reducible rfl);(rfl);(assumption);(wtm_at "pa")) | (apply j_dget2;(assumption);(rfl);(rfl);(rfl);(rfl);(wtm_at "pe");(wtm_at "pe");(wtm_at "pe")) | (apply k_values;(rfl);(rfl);(rfl);(rfl);(wtm_at "pe")))
local macro_rules | `(tactic| wtm_at "call")=>`(tactic| (apply k_minV;(rfl);(rfl);(rfl);(with_reducible rfl);(with_reducible rfl);(rfl);(assumption);(wtm_at "pa");(wtm_at "pe")))
local macro_rules | `(tactic| wtm_at "ps")=>`(tactic| (apply s_dputA "left";(assumption);(rfl);(wtm_at "pe");(wtm_at "pe");(wtm_at "pe")))
abbrev sCnt:Stmt:=top 49
theorem scCnt:FnScope ["heap","filling","left","count","last","lot","times","size"] ["heap","filling"] (defScope sCnt):=by wtm_at "sc"
def spCnt:Sp:=fun vs H Q _=>∃ (h f:Addr) (need:Int) (qs:Qs) (gs:Fs),vs = [.ref h,.ref f]/\HeapAt H h need qs/\(qs.map (·.1)).Nodup/\FillAt H f gs/\FilOk need qs gs/\∀ H',L2.Same H H'->Q (.int (gs.map (·.2)).sum) H'
theorem ok_cnt (F:Fun K "_law_count" "_law_count" sCnt Z fd) (cW:Callee CX0 P W K mg base "_law_whole" 1 ["thing"] spWhole) (mA:mg "all" = none) (mD:mg "dict" = none) (mI:mg "isinstance" = none) (mT:mg "tuple" = none) (mLi:mg "list" = none) (mS:mg "sorted" = none) (mU:mg "sum" = none) (mN:mg "min" = none):FnOk P W K mg base CX0 2 Z fd ["heap","filling"] spCnt:=by
 refine Br.Fun.j F scCnt (fun vs H Q E h=>?_) (fun _ A _ s H vs Q E hr h=>?_)
 · obtain⟨_,_,_,_,_,rfl,_⟩:=h;rfl
 · obtain⟨hp,fa,need,qs,gs,rfl,hh,hnd,⟨us,g1,g2⟩,hok,h⟩:=h
   have nd:=scCnt.nd
   have hsz:=sizeLine_eq
   obtain⟨t0,us0,h1,⟨ob,hb,h2⟩,h3,h4,h5,h6,h7⟩:=id hh
   refine' ⟨_,?d,?r⟩
   case d=>wtm_at "body"
   case r=>
    obtain⟨as,rfl,hasl,hat⟩:=kinds_refs h3
    have hul:=g2.1
    have hgl:=hok.len
    refine⟨fun σ' H'=>L2.Same H H'/\σ' = [some (.ref hp),some (.ref fa),none,none,none,none,none,none],?_,?_⟩
    · refine⟨_,rfl,Or.inl ⟨_,_,_,_,rfl,.of (TyOf.tup g1),rfl,_,rfl,iteF ?_⟩⟩
      refine⟨_,rfl,fa,rfl,.inr ⟨⟨_,SqT.of g1⟩,?_⟩⟩
      refine cmp_tup (K:=K) (a:=fa) (xs:=us) (fun j ys σ G=>G = H/\ys = (List.replicate j true).map V.bl/\∃ x:Option V,σ = [x,some (.ref hp),some (.ref fa),none,none,none,none,none,none])
       ⟨rfl,rfl,none,rfl⟩ (by omega) (fun j ys σ G _ ⟨e1,e2,_⟩=>⟨by rw [e1];exact SqT.of g1,by rw [e2,List.length_map,List.length_replicate];exact Nat.le_refl _⟩) ?_ ?_
      · rintro j x ys σ G N hx ⟨eG,rfl,x0,rfl⟩ hN
        subst eG
        obtain⟨q,hq,r,c,rfl,hr',hc'⟩:=g2.2 j x hx
        refine⟨_,rfl,Or.inl ⟨_,_,_,_,rfl,.of (TyOf.tup hr'),rfl,hN _ _ _ ⟨rfl,?_,_,rfl⟩⟩⟩
        rw [List.replicate_succ',List.map_append];rfl
      rintro ys σ G ⟨eG,rfl,x0,rfl⟩ pl G1 npl s1 e1
      subst eG
      refine⟨pl,_,rfl,SqL.of e1,_,rfl,ite2 (fun hc=>?_) (fun _=>⟨s1,rfl⟩)⟩
      simp at hc
    rintro σ' H0 ⟨s0,rfl⟩
    refine⟨_,rfl,.inr (.inl ⟨hp,_,1,_,rfl,rfl,SqT.of (s0 _ _ h1),(show atI [V.int need,V.ref t0] 1 = some (.ref t0) from rfl),?_⟩)⟩
    refine⟨t0,vv2 qs,rfl,⟨ob,as,hb,s0 _ _ h2,by unfold vv2;rw [List.length_map];exact hasl,by unfold vv2;rw [List.length_map];omega,fun i a kv e1 e2=>?_⟩,fun d H1 hd s1 e1=>?_⟩
    · unfold vv2 at e2
      rw [List.getElem?_map] at e2
      obtain⟨q,hq,rfl⟩:=Option.map_eq_some_iff.mp e2
      exact .inl (s0 _ _ (hat i a q e1 hq))
    rw [merge_vv2 hnd] at e1
    refine⟨lenLe (n:=0) rfl (by decide),fun la H2 nla s2 e2=>?_⟩
    have s02:L2.Same H H2:=s0.trans (s1.trans s2)
    refine⟨_,rfl,fa,rfl,.inr ⟨⟨_,SqT.of (s02 _ _ g1)⟩,?_⟩⟩
    refine for_tup (K:=K) (a:=fa) (xs:=us) (fun i σ G=>L2.Same H G/\∃ (ks:Qs) (lb:Addr) (x5 x6 x7:Option V),G d = some (.dK (vv2 ks))/\(ks.map (·.1)).Nodup/\(∀ n,(dlook ks n).getD 0 = (dlook qs n).getD 0 - cntF (gs.take i) n)/\ks.length<=qs.length + tl (gs.take i)/\G lb = some (.tup ((lastL gs i).map V.int))/\
     σ = [some (.ref hp),some (.ref fa),some (.ref d),some (.int ((gs.take i).map (·.2)).sum),some (.ref lb),x5,x6,x7])
     ⟨s02,qs,la,none,none,none,s2 _ _ e1,hnd,fun n=>by show _ = _ - (0:Int);omega,Nat.le_add_right _ _,e2,rfl⟩ (fun i σ G _ ⟨sG,_⟩=>SqT.of (sG _ _ g1)) ?_ ?_
    · rintro i x σ G hx ⟨sG,ks,lb,x5,x6,x7,eG,ndk,hC,hkl,eL,rfl⟩
      obtain⟨q,hq,r,c,rfl,kr,kc⟩:=g2.2 i x hx
      obtain⟨o1,o2,o3,o4,o5,o6⟩:=hok.lot q (List.mem_of_getElem? hq)
      have kcG:=sG _ _ kc
      have hlx:HT.lexLt (lastL gs i) q.1 = true:=by
       cases i with
       | zero=>
        obtain⟨z,zr,ez⟩:∃ z zr,q.1 = z :: zr:=by
         cases e:q.1 with
         | nil=>exact absurd e o4
         | cons z zr=>exact⟨z,zr,rfl⟩
        show HT.lexLt [] q.1 = true
        rw [ez,HT.lexLt_nil_cons]
       | succ i=>
        have hil:i < gs.length:=by have:=(List.getElem?_eq_some_iff.mp hq).1;omega
        have hp:=List.pairwise_iff_getElem.mp hok.ris i (i + 1) hil (List.getElem?_eq_some_iff.mp hq).1 (by omega)
        rw [(List.getElem?_eq_some_iff.mp hq).2] at hp
        show HT.lexLt (gs.getD i ([],0)).1 q.1 = true
        rw [List.getD_eq_getElem?_getD,List.getElem?_eq_getElem hil]
        exact hp
      refine⟨r,_,rfl,SqT.of (sG _ _ kr),rfl,_,_,rfl,_,_,rfl,rfl,?_⟩
      refine⟨fun σ' G'=>G' = G/\σ' = [some (.ref hp),some (.ref fa),some (.ref d),some (.int ((gs.take i).map (·.2)).sum),some (.ref lb),some (.ref c),some (.int q.2),x7],?_,?_⟩
      · refine⟨_,rfl,Or.inl ⟨_,_,_,_,rfl,.of (TyOf.tup kcG),rfl,_,rfl,iteF ?_⟩⟩
        refine⟨_,rfl,q.2,rfl,_,rfl,iteF ?_⟩
        refine⟨_,rfl,_,_,rfl,rfl,_,rfl,ite2 (fun hc=>absurd (of_decide_eq_true hc) (by omega)) (fun _=>?_)⟩
        refine⟨_,rfl,_,rfl,.inr ⟨c,lb,q.1,_,rfl,rfl,SqT.of kcG,SqT.of eL,_,rfl,?_⟩⟩
        rw [hlx]
        refine iteF ?_
        refine⟨_,rfl,c,q.1,rfl,.inr (SqT.of kcG),?_⟩
        refine⟨_,rfl,.inr (.inl ⟨hp,_,0,_,rfl,rfl,SqT.of (sG _ _ h1),(show atI [V.int need,V.ref t0] 0 = some (.int need) from rfl),?_⟩)⟩
        exact⟨_,_,rfl,rfl,_,rfl,ite2 (fun hc=>absurd (of_decide_eq_true hc) (by omega)) (fun _=>⟨rfl,rfl⟩)⟩
      rintro σ' G' ⟨rfl,rfl⟩
      refine⟨fun σ' G2=>L2.Same G' G2/\σ' = [some (.ref hp),some (.ref fa),some (.ref d),some (.int ((gs.take i).map (·.2)).sum),some (.ref lb),some (.ref c),some (.int q.2),x7],?_,?_⟩
      · refine⟨_,rfl,c,rfl,.inr ⟨⟨_,SqT.of kcG⟩,?_⟩⟩
        refine cmp_tup (K:=K) (a:=c) (xs:=q.1.map V.int) (fun j ys σ G2=>G2 = G'/\ys = (List.replicate j true).map V.bl/\∃ x:Option V,σ = [x,some (.ref hp),some (.ref fa),some (.ref d),some (.int ((gs.take i).map (·.2)).sum),some (.ref lb),some (.ref c),some (.int q.2),x7])
         ⟨rfl,rfl,none,rfl⟩ (by rw [List.length_map];omega) (fun j ys σ G2 _ ⟨e1,e2,_⟩=>⟨by rw [e1];exact SqT.of kcG,by rw [e2,List.length_map,List.length_replicate];exact Nat.le_refl _⟩) ?_ ?_
        · rintro j x ys σ G2 N hx ⟨eG2,rfl,x0,rfl⟩ hN
          subst eG2
          rw [List.getElem?_map] at hx
          obtain⟨z,hz,rfl⟩:=Option.map_eq_some_iff.mp hx
          refine⟨_,rfl,z,rfl,hN _ _ _ ⟨rfl,?_,_,rfl⟩⟩
          rw [List.replicate_succ',List.map_append];rfl
        rintro ys σ G2 ⟨eG2,rfl,x0,rfl⟩ pl G1 npl s3 e3
        subst eG2
        refine⟨pl,_,rfl,SqL.of e3,_,rfl,ite2 (fun hc=>?_) (fun _=>?_)⟩
        · simp at hc
        refine⟨_,rfl,c,_,rfl,.inr (SqT.of (s3 _ _ kcG)),fun l1 G3 nl1 s4 e4=>?_⟩
        refine⟨_,rfl,.inr ⟨c,q.1,rfl,.inr (SqT.of (s4 _ _ (s3 _ _ kcG))),.inl (by omega),fun l2 ms G4 nl2 s5 e5 pm pw=>?_⟩⟩
        obtain rfl:ms = q.1:=List.Perm.eq_of_pairwise (le:=(·<=·)) (fun a b _ _ h1 h2=>Int.le_antisymm h1 h2) pw o2 pm
        refine .inr ⟨.list (q.1.map PyData.int),.list (q.1.map PyData.int),.lst (s5 _ _ e4) (Reps.ints _),.lst e5 (Reps.ints _),plL _,plL _,?_⟩
        rw [SeqAt.eqv_refl _ (plL _).1]
        exact⟨_,rfl,iteF ⟨s3.trans (s4.trans s5),rfl⟩⟩
      rintro σ' G2 ⟨sG2,rfl⟩
      have kc2:=sG2 _ _ kcG
      have eG2:=sG2 _ _ eG
      have eL2:=sG2 _ _ eL
      have tk:=tl_le gs (i + 1)
      rw [tl_take hq] at tk
      have htot:=hok.tot
      refine⟨_,rfl,c,rfl,.inr ⟨⟨_,SqT.of kc2⟩,?_⟩⟩
      refine for_tup (K:=K) (a:=c) (xs:=q.1.map V.int) (fun j σ G3=>L2.Same H G3/\∃ (ks:Qs) (x7:Option V),G3 d = some (.dK (vv2 ks))/\(ks.map (·.1)).Nodup/\(∀ n,(dlook ks n).getD 0 = (dlook qs n).getD 0 - cntF (gs.take i) n - q.2 * (((q.1.take j).count n:Nat):Int))/\ks.length<=qs.length + tl (gs.take i) + j/\G3 lb = some (.tup ((lastL gs i).map V.int))/\
       σ = [some (.ref hp),some (.ref fa),some (.ref d),some (.int ((gs.take i).map (·.2)).sum),some (.ref lb),some (.ref c),some (.int q.2),x7])
       ⟨sG.trans sG2,ks,x7,eG2,ndk,fun n=>by rw [hC n];show _ = _ - q.2 * ((0:Nat):Int);omega,hkl,eL2,rfl⟩ (fun j σ G3 _ ⟨sG3,_⟩=>SqT.of (sG3 _ _ kc)) ?_ ?_
      · rintro j x σ G3 hx ⟨sG3,ks2,x7,e3,nd3,hC3,hl3,eL3,rfl⟩
        rw [List.getElem?_map] at hx
        obtain⟨z,hz,rfl⟩:=Option.map_eq_some_iff.mp hx
        have hjl:=(List.getElem?_eq_some_iff.mp hz).1
        have dg:=DGet.k (k:=.inl z) e3
        rw [val_vv2] at dg
        have gd:((dlook ks2 z).map V.int).getD (.int 0) = .int ((dlook ks2 z).getD 0):=by cases dlook ks2 z <;> rfl
        refine⟨_,rfl,d,rfl,.inl ⟨_,.inl e3⟩,_,rfl,_,dg,?_⟩
        rw [gd]
        refine⟨_,rfl,_,_,rfl,rfl,?_⟩
        refine⟨_,rfl,_,rfl,d,_,rfl,DPut.k (k:=.inl z) e3 (by unfold vv2;rw [List.length_map];omega),?_⟩
        rw [put_vv2]
        refine⟨fun b o e=>by rw [upd_ne (ne_of_none e (none_of s0 hd))];exact sG3 _ _ e,_,_,upd_same,dput_nodup _ _ nd3,fun n=>?_,by have:=dput_len ks2 z ((dlook ks2 z).getD 0 - q.2);omega,?_,rfl⟩
        · rw [dput_getD,cnt_take hz]
          have h1:=hC3 n
          by_cases y:z = n
          · subst y
            rw [if_pos rfl,if_pos rfl,h1,Int.natCast_add,Int.mul_add]
            show _ - q.2 = _ - (_ + q.2 * 1)
            omega
          · rw [if_neg y,if_neg y,h1];rfl
        · rw [upd_ne (fun y=>by rw [y,e3] at eL3;cases eL3)];exact eL3
      · rintro σ G3 ⟨sG3,ks2,x7,e3,nd3,hC3,hl3,eL3,rfl⟩
        rw [List.length_map,List.take_length] at hC3
        rw [List.length_map] at hl3
        refine⟨_,rfl,_,rfl,_,rfl,.inl ⟨_,_,rfl,rfl,?_⟩⟩
        have es:((gs.take (i + 1)).map (·.2)).sum = ((gs.take i).map (·.2)).sum + q.2:=by rw [List.take_add_one,hq,List.map_append,List.sum_append];simp
        refine⟨sG3,ks2,c,_,_,_,e3,nd3,fun n=>?_,by rw [tl_take hq];omega,?_,by rw [es];rfl⟩
        · rw [hC3 n,List.take_add_one,hq,cntF_append]
          show _ = _ - (_ + cntF [q] n)
          rw [cntF_one];omega
        · show G3 c = some (.tup ((gs.getD i ([],0)).1.map V.int))
          rw [List.getD_eq_getElem?_getD,hq]
          exact sG3 _ _ kc
    · rintro σ G ⟨sG,ks,lb,x5,x6,x7,eG,ndk,hC,hkl,eL,rfl⟩
      rw [hul,List.take_length] at hC
      refine⟨fun σ' G'=>L2.Same H G'/\σ' = [some (.ref hp),some (.ref fa),some (.ref d),some (.int ((gs.take us.length).map (·.2)).sum),some (.ref lb),x5,x6,x7],?_,?_⟩
      · refine⟨_,rfl,d,_,rfl,eG,fun v G1 nv s3 ev=>?_⟩
        refine⟨v,d,vv2 ks,ks.map (·.2),rfl,ev,s3 _ _ eG,by unfold vv2;rw [List.map_map,List.map_map];rfl,fun m hm _=>?_,fun _=>?_⟩
        · refine⟨_,_,rfl,rfl,_,rfl,ite2 (fun hc=>?_) (fun _=>⟨sG.trans s3,rfl⟩)⟩
          have hc:=of_decide_eq_true hc
          obtain⟨k,hk,rfl⟩:=List.mem_map.mp hm
          have h1:=hC k.1
          rw [(dlook_mem ndk k).mp hk] at h1
          have h1:k.2 = _:=h1
          have h2:=hok.fit k.1
          omega
        · exact⟨_,_,rfl,rfl,_,rfl,ite2 (fun hc=>absurd (of_decide_eq_true hc) (by decide)) (fun _=>⟨sG.trans s3,rfl⟩)⟩
      rintro σ' G' ⟨sG',rfl⟩
      rw [hul,List.take_length]
      exact⟨_,rfl,h G' sG'⟩
end
def plc (T qs:Qs) (j:Nat):Nat:=T.length - 1 - (prodc (qs.drop (j + 1))).toNat
structure LeftIs (need:Int) (qs:Qs) (j:Nat) (gs:Fs):Prop where
 it:∃ (T:Qs) (row:List Int),IsTab need (LS qs) T/\Nng T/\RowOf need (LS qs) T (plc T qs j) row/\IsLean need (ones (run need row).lots) gs
theorem LeftIs.uniq (hq:∀ q∈qs,1<=q.1/\1<=q.2) (h:LeftIs need qs j gs) (h':LeftIs need qs j gs'):gs = gs':=by
 obtain⟨T,row,a1,_,a3,a4⟩:=h.it
 obtain⟨T',row',b1,_,b3,b4⟩:=h'.it
 have e:=tab_uniq (LS_ok hq) a1 b1
 subst e
 have e:=a3.uniq b3
 subst e
 exact a4.uniq b4
theorem paces_keys (qs:Qs):(paces qs).map (·.1) = qs.map (·.1):=by
 apply List.ext_getElem?
 intro i
 rw [List.getElem?_map,List.getElem?_map]
 cases e:qs[i]? with
 | none=>rw [List.getElem?_eq_none (by rw [paces_len];simp_all)]
 | some q=>rw [paces_at e];rfl
theorem s_noRaise:JS X (.Raise e c pos) (fun _ _ _=>False):=s_dead
section
local macro_rules | `(tactic| wtm_at "ps")=>`(tactic| apply s_noRaise)
local macro_rules | `(tactic| wtm_at "pe")=>`(tactic| first | (apply j_dictL;(rfl);(rfl);(rfl);(with_reducible rfl);(rfl);(assumption);(wtm_at "pa")) | (apply j_dgetA "paces";(assumption);(exact fun _ _=>rfl);(wtm_at "pe");(wtm_at "pe")))
local macro_rules | `(tactic| wtm_at "cop")=>`(tactic| (apply c_dnotin;(assumption)))
abbrev sLeft:Stmt:=top 39
theorem scLeft:FnScope ["heap","size","paces","table","place"] ["heap","size"] (defScope sLeft):=by wtm_at "sc"
def spLeft:Sp:=fun vs H Q _=>∃ (h:Addr) (need:Int) (qs:Qs) (j:Nat) (q:Int×Int),vs = [.ref h,.int q.1]/\HeapAt H h need qs/\(qs.map (·.2)).sum<=60/\prodc qs<=2000/\Ris qs/\qs[j]? = some q/\
 ∀ (T:Qs) (v v':Int×Int),IsTab need (LS qs) T->Nng T->T[T.length - 1]? = some v->T[plc T qs j]? = some v'->
  (v'.1 < v.1->∀ H',L2.Same H H'->Q .non H')/\(¬ v'.1 < v.1->∀ (r:Addr) (gs:Fs) (H':Hp),L2.Same H H'->FillAt H' r gs->LeftIs need qs j gs->Q (.ref r) H')
theorem ok_left (F:Fun K "size_left" "size_left" sLeft Z fd) (cP:Callee CX0 P W K mg base "paces_of" 2 ["heap"] spPaces) (cT:Callee CX0 P W K mg base "table_of" 5 ["heap"] spTabOf) (cR:Callee CX0 P W K mg base "row_to" 5 ["heap","table","place"] spRowTo) (cF:Callee CX0 P W K mg base "filling_of_row" 4 ["heap","row"] spFillR) (mL:mg "len" = none) (mD:mg "dict" = none):FnOk P W K mg base CX0 6 Z fd ["heap","size"] spLeft:=by
 refine Br.Fun.j F scLeft (fun vs H Q E h=>?_) (fun _ A _ s H vs Q E hr h=>?_)
 · obtain⟨_,_,_,_,_,rfl,_⟩:=h;rfl
 · obtain⟨hp,need,qs,j,q,rfl,hh,hs60,hp2,rq,hj,h⟩:=h
   have nd:=scLeft.nd
   have hsz:=sizeLine_eq
   obtain⟨t0,us0,h1,h2,h3,h4,h5,h6,h7⟩:=id hh
   have hq:∀ q∈qs,1<=q.1/\1<=q.2:=fun q h=>⟨(h7 q h).1,(h7 q h).2.2.1⟩
   have hl0:=LS_ne qs fun q h=>(hq q h).2
   refine' ⟨_,?d,?r⟩
   case d=>wtm_at "body"
   case r=>
    have h3':=prodc_hundred (fun q hq=>(h7 q hq).2.2) h4
    refine⟨_,rfl,hp,need,qs,rfl,hh,h3',fun pl pus H1 npl s1 e1 hkp=>?_⟩
    obtain⟨as,rfl,hasl,hat⟩:=kinds_refs hkp
    have hpl:=paces_len qs
    have hpn:((paces qs).map (·.1)).Nodup:=by rw [paces_keys];exact rq.nodup
    refine .inr ⟨pl,as,vv2 (paces qs),rfl,e1,by unfold vv2;rw [List.length_map];exact hasl,by unfold vv2;rw [List.length_map];omega,fun i a kv e2 e3=>?_,fun d H2 hd s2 e2=>?_⟩
    · unfold vv2 at e3
      rw [List.getElem?_map] at e3
      obtain⟨q,hq,rfl⟩:=Option.map_eq_some_iff.mp e3
      exact .inl (hat i a q e2 hq)
    rw [merge_vv2 hpn] at e2
    have hpj:=paces_at hj
    have hlk:dlook (paces qs) q.1 = some (prodc (qs.drop (j + 1))):=(dlook_mem hpn (q.1,prodc (qs.drop (j + 1)))).mp (List.mem_of_getElem? hpj)
    have dg:=DGet.k (k:=.inl q.1) e2
    rw [val_vv2,hlk] at dg
    refine⟨fun σ' G=>G = H2/\σ' = [some (.ref hp),some (.int q.1),some (.ref d),none,none],?_,?_⟩
    · refine⟨_,rfl,_,rfl,d,_,rfl,dg,_,rfl,ite2 (fun hc=>?_) (fun _=>⟨rfl,rfl⟩)⟩
      cases hc
    rintro σ' G ⟨rfl,rfl⟩
    have s12:=s1.trans s2
    refine⟨_,rfl,hp,need,qs,rfl,hh.same s12,hs60,hp2,fun tt us T H3 s3 e3 hk tab nn=>?_⟩
    have hTl:=tab.1
    have hul:=hk.1
    have hq1:∀ q∈qs,1<=q.2:=fun q h=>(hq q h).2
    have hwt:=ways_top hq1
    rw [<- hTl] at hwt
    obtain⟨pb1,pb2,pb3⟩:=pace_back hq1 hwt (show (qs.map (·.2))[j]? = some q.2 by rw [List.getElem?_map,hj];rfl) (by have:=hq1 q (List.mem_of_getElem? hj);omega)
    obtain⟨v,hv⟩:∃ v,T[T.length - 1]? = some v:=⟨_,List.getElem?_eq_getElem (by omega)⟩
    obtain⟨v',hv'⟩:∃ v,T[plc T qs j]? = some v:=⟨_,List.getElem?_eq_getElem (by unfold plc;omega)⟩
    have hpe:plc T qs j = T.length - 1 - (prodc (qs.drop (j + 1))).toNat:=rfl
    obtain⟨hno,hyes⟩:=h T v v' tab nn hv hv'
    have dg3:=DGet.k (k:=.inl q.1) (s3 _ _ e2)
    rw [val_vv2,hlk] at dg3
    generalize hpc:prodc (qs.drop (j + 1)) = pc at *
    have at_:∀ {i:Nat}{u:Int×Int},T[i]? = some u->∃ ra:Addr,us[i]? = some (.ref ra)/\H3 ra = some (.tup [.int u.1,.int u.2]):=fun {i u} hu=>by
     obtain⟨w',hw'⟩:∃ w',us[i]? = some w':=⟨_,List.getElem?_eq_getElem (by have:=(List.getElem?_eq_some_iff.mp hu).1;omega)⟩
     obtain⟨u',hu',ra,rfl,hra⟩:=hk.2 i w' hw'
     rw [hu] at hu';cases hu'
     exact⟨ra,hw',hra⟩
    obtain⟨ra,ha1,ha2⟩:=at_ hv'
    obtain⟨rb,hb1,hb2⟩:=at_ hv
    rw [<- hul] at hb1
    have hb1:=atI_end hb1
    have ha1:atI us (((plc T qs j:Nat):Int)) = some (.ref ra):=atI_nat ha1
    have ep:(us.length:Int) - 1 - pc = ((plc T qs j:Nat):Int):=by omega
    refine⟨_,rfl,.inl ⟨tt,_,rfl,.inr (SqT.of e3),?_⟩⟩
    wtm_at "rd"
    refine⟨d,.int pc,rfl,dg3,?_⟩
    refine⟨_,_,rfl,rfl,?_⟩
    rw [<- ep] at ha1
    refine⟨fun σ' G=>G = H3/\¬ v'.1 < v.1/\σ' = [some (.ref hp),some (.int q.1),some (.ref d),some (.ref tt),some (.int ((us.length:Int) - 1 - pc))],?_,?_⟩
    · refine⟨_,rfl,?_⟩
      wtm_at "rd"
      refine .inr (.inl ⟨tt,_,_,_,rfl,rfl,SqT.of e3,ha1,?_⟩)
      refine .inr (.inl ⟨ra,_,0,_,rfl,rfl,SqT.of ha2,(show atI [V.int v'.1,V.int v'.2] 0 = some (.int v'.1) from rfl),?_⟩)
      refine⟨_,rfl,?_⟩
      wtm_at "rd"
      refine .inr (.inl ⟨tt,_,-1,_,rfl,rfl,SqT.of e3,hb1,?_⟩)
      refine .inr (.inl ⟨rb,_,0,_,rfl,rfl,SqT.of hb2,(show atI [V.int v.1,V.int v.2] 0 = some (.int v.1) from rfl),?_⟩)
      refine⟨_,_,rfl,rfl,_,rfl,ite2 (fun hc=>?_) (fun hc=>⟨rfl,fun z=>hc (decide_eq_true z),rfl⟩)⟩
      exact hno (of_decide_eq_true hc) H3 (s12.trans s3)
    rintro σ' G ⟨rfl,hnl,rfl⟩
    have hh3:=hh.same (s12.trans s3)
    refine⟨_,rfl,_,rfl,_,rfl,?_⟩
    wtm_at "rd"
    refine⟨hp,tt,need,qs,plc T qs j,us,T,by rw [<- ep];rfl,hh3,hs60,hp2,e3,hk,hTl,by omega,fun l row H4 s4 e4 hrow=>?_⟩
    have pb4:(waysL (cnts qs))[plc T qs j]? = some ((qs.map (·.2)).set j (q.2 - 1)):=by rw [hpe];exact pb3
    have hin:=row_in hq rq.nodup hrow _ pb4
    have hws:=way_sum hq1 pb4
    have hrl:row.length<=60:=by have:=hin.len;omega
    refine⟨hp,t0,l,need,row,rfl,s4 _ _ ((s12.trans s3) _ _ h1),h5,e4,by omega,fun fa gs H5 s5 hf il=>?_⟩
    exact hyes hnl fa gs H5 (s12.trans (s3.trans (s4.trans s5))) hf ⟨T,row,tab,nn,hrow,il⟩
end
section
local macro_rules | `(tactic| wtm_at "pe")=>`(tactic| first | (apply j_dictL;(rfl);(rfl);(rfl);(with_reducible rfl);(rfl);(assumption);(wtm_at "pa")) | (apply j_dgetA "paces";(assumption);(exact fun _ _=>rfl);(wtm_at "pe");(wtm_at "pe")))
local macro_rules | `(tactic| wtm_at "cop")=>`(tactic| (apply c_dnotin;(assumption)))
local macro_rules | `(tactic| wtm_at "pss")=>`(tactic| (apply ss_cons;(wtm_at "ps");(apply ss_cons;(wtm_at "ps");(apply ss_dead))))
def spLeftX (CN CM:Addr):Sp:=fun vs H _ E=>∃ (h:Addr) (need z:Int) (qs:Qs),vs = [.ref h,.int z]/\HeapAt H h need qs/\Ris qs/\((z∉qs.map (·.1)/\∀ H',L2.Same H H'->E (.ref CN) none H')\/(z∈qs.map (·.1)/\Bad qs/\∀ H',L2.Same H H'->E (.ref CM) none H'))
theorem ok_leftX (F:Fun K "size_left" "size_left" sLeft Z fd) (eN:ECls K mg "NoSize" CN B) (cP:Callee CX0 P W K mg base "paces_of" 2 ["heap"] spPaces) (cT:Callee (CXF P W) P W K mg base "table_of" 5 ["heap"] (spX CM)) (mD:mg "dict" = none):FnOk P W K mg base (CXF P W) 6 Z fd ["heap","size"] (spLeftX CN CM):=by
 refine Br.Fun.jX F scLeft (fun vs H Q E h=>?_) (fun _ A _ s H vs Q E hr h=>?_)
 · obtain⟨_,_,_,_,rfl,_⟩:=h;rfl
 · obtain⟨hp,need,z,qs,rfl,hh,rq,h⟩:=h
   have nd:=scLeft.nd
   have hsz:=sizeLine_eq
   obtain⟨t0,us0,h1,h2,h3,h4,h5,h6,h7⟩:=id hh
   refine' ⟨_,?d,?r⟩
   case d=>wtm_at "body"
   case r=>
    have h3':=prodc_hundred (fun q hq=>(h7 q hq).2.2) h4
    refine⟨_,rfl,hp,need,qs,rfl,hh,h3',fun pl pus H1 npl s1 e1 hkp=>?_⟩
    obtain⟨as,rfl,hasl,hat⟩:=kinds_refs hkp
    have hpl:=paces_len qs
    have hpn:((paces qs).map (·.1)).Nodup:=by rw [paces_keys];exact rq.nodup
    refine .inr ⟨pl,as,vv2 (paces qs),rfl,e1,by unfold vv2;rw [List.length_map];exact hasl,by unfold vv2;rw [List.length_map];omega,fun i a kv e2 e3=>?_,fun d H2 hd s2 e2=>?_⟩
    · unfold vv2 at e3
      rw [List.getElem?_map] at e3
      obtain⟨q,hq,rfl⟩:=Option.map_eq_some_iff.mp e3
      exact .inl (hat i a q e2 hq)
    rw [merge_vv2 hpn] at e2
    have dg:=DGet.k (k:=.inl z) e2
    rw [val_vv2] at dg
    have s12:=s1.trans s2
    refine⟨fun σ' G=>G = H2/\z∈qs.map (·.1)/\σ' = [some (.ref hp),some (.int z),some (.ref d),none,none],?_,?_⟩
    · refine⟨_,rfl,_,rfl,d,_,rfl,dg,_,rfl,ite2 (fun hc=>?_) (fun hc=>⟨rfl,?_,rfl⟩)⟩
      · rcases h with ⟨hz,hE⟩ | ⟨hz,_⟩
        · exact hE H2 s12
        · rw [<- paces_keys] at hz
          obtain⟨c,e⟩:=dlook_key hz
          rw [e] at hc;cases hc
      · by_cases hz:z∈qs.map (·.1)
        · exact hz
        · rw [<- paces_keys] at hz
          rw [dlook_none hz] at hc
          exact absurd rfl hc
    rintro σ' G ⟨rfl,hz,rfl⟩
    rcases h with ⟨hn,_⟩ | ⟨_,hb,hE⟩
    · exact absurd hz hn
    · exact⟨_,rfl,hp,need,qs,rfl,hh.same s12,hb,fun H' s'=>hE H' (s12.trans s')⟩
end
theorem mo_same (s:L2.Same H H1) (hp:H p = none) (m:Mo [p] H1 H2):L2.Same H H2:=fun b o e=>m b o (fun z=>by simp_all) (s _ _ e)
theorem can_ints:∀ zs:List Int,PyData.canLayAll0 (zs.map PyData.int) = true
 | []=>rfl
 | z :: r=>by exact can_ints r
theorem dep_ints:∀ zs:List Int,PyData.depthAll (zs.map PyData.int)<=1
 | []=>by simp [PyData.depthAll]
 | z :: r=>by
  have:=dep_ints r
  assumption
def dLot (g:List Int×Int):PyData:=.tuple [.tuple (g.1.map PyData.int),.int g.2]
def dFill (fs:Fs):PyData:=.tuple (fs.map dLot)
theorem can_lots:∀ fs:Fs,PyData.canLayAll0 (fs.map dLot) = true
 | []=>rfl
 | g :: r=>by rw [List.map_cons];unfold dLot;simp only [PyData.canLayAll0,PyData.canLay0,can_ints,Bool.true_and];exact can_lots r
theorem dep_lots:∀ fs:Fs,PyData.depthAll (fs.map dLot)<=3
 | []=>by simp [PyData.depthAll]
 | g :: r=>by
  have:=dep_lots r
  have:=dep_ints g.1
  rw [List.map_cons];unfold dLot at *;simp only [PyData.depthAll,PyData.depth];omega
theorem Prs.reps:∀ {vs:List V}{fs:Fs},Prs H vs fs->Reps H vs (fs.map dLot)
 | [],[],_=>.nil
 | [],_ :: _,h=>by have:=h.1;simp_all
 | _ :: _,[],h=>by have:=h.1;simp_all
 | v :: vs,q :: fs,h=>by
  obtain⟨q',e,r,c,rfl,hr,hc⟩:=h.2 0 v rfl
  simp at e;subst e
  exact .cons (.tup hr (.cons (.tup hc (Reps.ints _)) (.cons (.int _) .nil))) (Prs.reps ⟨by simpa using h.1,fun i u e=>h.2 (i + 1) u (by simp_all)⟩)
theorem HeapAt.mo (x:HeapAt H h need qs) (hp:Pool H p) (m:Mo [p] H H'):HeapAt H' h need qs:=
 let ⟨t,vs,b1,b2,b3,b4⟩:=x;⟨t,vs,Tu.mo hp m _ _ b1 ⟨_,rfl⟩,b2.mo hp m,b3.tu (Tu.mo hp m),b4⟩
theorem in_ints (x:Int):∀ zs:List Int,inV (.int x) (zs.map V.int) = decide (x∈zs)
 | []=>by rfl
 | z :: r=>by
  have ih:=in_ints x r
  unfold inV at *
  rw [List.map_cons,List.any_cons,ih]
  by_cases c:z = x
  · subst c;simp [eqV]
  · have c':¬ x = z:=fun q=>c q.symm
    simp [eqV,c,c']
theorem pl_fill (gs:Fs):Pl (dFill gs):=by
 have h1:=can_lots gs
 have h2:=dep_lots gs
 unfold dFill
 refine⟨?_,?_⟩
 · assumption
 · simp only [PyData.depth];omega
theorem rep_fill (hf:FillAt H fa gs):Rep H (.ref fa) (dFill gs):=let ⟨_,h1,h2⟩:=hf;.tup h1 h2.reps
theorem prodc_wo (z:Int):∀ (qs:Qs),(∀ q∈qs,1<=q.2)->prodc (wo z qs)<=prodc qs/\1<=prodc (wo z qs)
 | [],_=>⟨Int.le_refl _,Int.le_refl _⟩
 | q :: qs,h=>by
  obtain⟨ih1,ih2⟩:=prodc_wo z qs fun r hr=>h r (.tail _ hr)
  have hq:=h q (.head _)
  have hb:=bt_le q z
  have big:prodc qs<=(q.2 + 1) * prodc qs:=by
   have:=Int.mul_le_mul_of_nonneg_right (show 1<=q.2 + 1 by omega) (show 0<=prodc qs by omega)
   rw [Int.one_mul] at this;exact this
  by_cases hc:bt q z < q.2
  · have e:wo z (q :: qs) = (q.1,q.2 - bt q z) :: wo z qs:=by unfold wo;simp_all
    rw [e]
    have m1:=Int.mul_le_mul_of_nonneg_right (show q.2 - bt q z + 1<=q.2 + 1 by omega) (show 0<=prodc (wo z qs) by omega)
    have m2:=Int.mul_le_mul_of_nonneg_left ih1 (show 0<=q.2 + 1 by omega)
    have m3:=Int.mul_le_mul_of_nonneg_right (show 1<=q.2 - bt q z + 1 by omega) (show 0<=prodc (wo z qs) by omega)
    rw [Int.one_mul] at m3
    exact⟨Int.le_trans m1 m2,Int.le_trans ih2 m3⟩
  · have e:wo z (q :: qs) = wo z qs:=by unfold wo;rw [List.filter_cons,if_neg (by simpa using hc)]
    rw [e]
    exact⟨Int.le_trans ih1 big,ih2⟩
theorem wo_look (rq:Ris qs) (h1:∀ q∈qs,1<=q.2) (hq:q∈qs) (n:Int):(dlook (wo q.1 qs) n).getD 0 = (dlook qs n).getD 0 - if q.1 = n then 1 else 0:=by
 have rw':=wo_ris (z:=q.1) rq
 by_cases hm:n∈qs.map (·.1)
 · obtain⟨p,hp,rfl⟩:=List.mem_map.mp hm
   rw [(dlook_mem rq.nodup p).mp hp]
   have hp1:=h1 p hp
   have eb:bt p q.1 = if q.1 = p.1 then 1 else 0:=by
    by_cases e:q.1 = p.1
    · rw [if_pos e,e,bt_self]
    · rw [if_neg e,bt_ne (Ne.symm e)]
   by_cases hb:bt p q.1 < p.2
   · rw [(dlook_mem rw'.nodup (p.1,p.2 - bt p q.1)).mp (wo_mem.mpr ⟨p,hp,hb,rfl⟩),<- eb];rfl
   · have:p.1∉(wo q.1 qs).map (·.1):=fun z=>by
      obtain⟨r,hr,e⟩:=List.mem_map.mp z
      obtain⟨p',hp',hb',rfl⟩:=wo_mem.mp hr
      have e:p'.1 = p.1:=e
      have h2:=(dlook_mem rq.nodup p').mp hp'
      rw [e,(dlook_mem rq.nodup p).mp hp] at h2
      have:p = p':=Prod.ext e.symm (Option.some.inj h2)
      subst this
      exact hb hb'
     rw [dlook_none this,<- eb]
     have:=bt_le p q.1
     show (0:Int) = p.2 - _
     omega
 · have:n∉(wo q.1 qs).map (·.1):=fun z=>by
    obtain⟨r,hr,e⟩:=List.mem_map.mp z
    obtain⟨p',hp',hb',rfl⟩:=wo_mem.mp hr
    exact hm (List.mem_map.mpr ⟨p',hp',e⟩)
   rw [dlook_none this,dlook_none hm,if_neg (fun e=>hm (by grind))]
   rfl
theorem less_le (rq:Ris qs) (hq:∀ q∈qs,1<=q.1/\1<=q.2) (tab:IsTab need (LS qs) T) (nn:Nng T) (hj:qs[j]? = some q) (hv:T[T.length - 1]? = some v) (hv':T[plc T qs j]? = some v'):v'.1<=v.1:=by
 have hq1:=fun q h=>(hq q h).2
 have hTl:=tab.1
 have hwt:=ways_top hq1
 rw [<- hTl] at hwt
 have hx:(qs.map (·.2))[j]? = some q.2:=by simp_all
 obtain⟨pb1,pb2,pb3⟩:=pace_back hq1 hwt hx (by have:=hq1 q (List.mem_of_getElem? hj);omega)
 obtain⟨zs,z1,z2⟩:=attain rq hq tab _ _ _ pb3 hv'
 have b:=bound rq hq tab nn (zs ++ [q.1]) _ _ v hwt hv ((Cn.snoc rq hj hx).mp z2)
 have e:fold need (0,0) (zs ++ [q.1]) = putP need v' q.1:=by simp_all
 rw [e,ge2] at b
 unfold putP at b
 split at b <;> (simp only at b;omega)
theorem left_fil {need:Int}{qs T:Qs}{j:Nat}{q v':Int×Int}{gs:Fs} (hn:1<=need) (rq:Ris qs) (h7:∀ q∈qs,1<=q.1/\q.1<=10 ^ 12/\1<=q.2/\q.2<=10 ^ 12) (h60:(qs.map (·.2)).sum<=60) (hj:qs[j]? = some q) (tab:IsTab need (LS qs) T) (hv:T[plc T qs j]? = some v') (h:LeftIs need qs j gs):
 FilOk need (wo q.1 qs) gs/\(gs.map (·.2)).sum = v'.1:=by
 obtain⟨T',row,tab',nn,hrow,il⟩:=h.it
 have hq:∀ q∈qs,1<=q.1/\1<=q.2:=fun q h=>⟨(h7 q h).1,(h7 q h).2.2.1⟩
 have hq1:∀ q∈qs,1<=q.2:=fun q h=>(hq q h).2
 have e:=tab_uniq (LS_ok hq) tab' tab
 subst e
 have hTl:=tab.1
 have hwt:=ways_top hq1
 rw [<- hTl] at hwt
 obtain⟨pb1,pb2,pb3⟩:=pace_back hq1 hwt (show (qs.map (·.2))[j]? = some q.2 by rw [List.getElem?_map,hj];rfl) (by have:=hq1 q (List.mem_of_getElem? hj);omega)
 have pb4:(waysL (cnts qs))[plc T' qs j]? = some ((qs.map (·.2)).set j (q.2 - 1)):=pb3
 have hin:=row_in hq rq.nodup hrow _ pb4
 have hws:=way_sum hq1 pb4
 have hf:=row_fold hq tab hrow v' hv
 rw [run_put] at hf
 have hv1:v'.1 = ((run need row).lots.length:Int):=by rw [<- hf]
 have hjl:=(List.getElem?_eq_some_iff.mp hj).1
 obtain⟨a1,a2⟩:=row_fil (qs:=wo q.1 qs) hn (fun z hz=>by
  obtain⟨x,hx,rfl⟩:=hin.mem z hz
  exact⟨(h7 x hx).1,(h7 x hx).2.1⟩) (by have:=hin.len;omega) (fun n=>by
  rw [wo_look rq hq1 (List.mem_of_getElem? hj)]
  by_cases hm:n∈qs.map (·.1)
  · obtain⟨p,hp,rfl⟩:=List.mem_map.mp hm
    obtain⟨i,hi⟩:=List.getElem?_of_mem hp
    rw [(dlook_mem rq.nodup p).mp hp]
    show _<=p.2 - _
    by_cases e:i = j
    · subst e
      rw [hj] at hi;cases hi
      have:=hin.cnt i q (q.2 - 1) hj (List.getElem?_set_self (by rw [List.length_map];exact hjl))
      rw [if_pos rfl];exact this
    · have:=hin.cnt i p p.2 hi (by rw [List.getElem?_set_ne (Ne.symm e),List.getElem?_map,hi];rfl)
      rw [if_neg (fun z=>e (ris_at rq hi hj z.symm))]
      omega
  · have z:row.count n = 0:=List.count_eq_zero.mpr fun hr=>by
     obtain⟨p,hp,e⟩:=hin.mem n hr
     exact hm (List.mem_map.mpr ⟨p,hp,e.symm⟩)
    rw [z,dlook_none hm,if_neg (fun e=>hm (by rw [<- e];exact List.mem_map.mpr ⟨q,List.mem_of_getElem? hj,rfl⟩))]
    exact Int.le_refl _) il
 exact⟨a1,by rw [a2,hv1]⟩
theorem orH (F1:FnOkH P W K mg base CX0 k Z fd ps sp1) (F2:FnOkH P W K mg base CX0 k Z fd ps sp2):FnOkH P W K mg base CX0 k Z fd ps (fun vs H Q E=>sp1 vs H Q E\/sp2 vs H Q E):=
 ⟨fun vs H Q E h=>h.elim (F1.len vs H Q E) (F2.len vs H Q E),fun A outer s H args us vs Q E hr he hb hv h=>h.elim (F1.run A outer s H args us vs Q E hr he hb hv) (F2.run A outer s H args us vs Q E hr he hb hv)⟩
def spKindA (CM CN:Addr):Sp:=fun vs H Q E=>spKindE CM "too many" vs H Q E\/spKindE CN "no size" vs H Q E
theorem ok_kindA (F:Fun K "_law_kind" "_law_kind" sKindE Z fd) (i1:ECls K mg "TooMany" h1 B) (i2:ECls K mg "NoSize" h2 B) (i3:ECls K mg "Unlike" h3 B)
 (e1:ECls K mg "NoHeap" c1 B) (e2:ECls K mg "NoLot" c2 B) (e3:ECls K mg "NoRatio" c3 B) (e4:ECls K mg "NoRow" c4 B) (e5:ECls K mg "NoText" c5 B) (e6:ECls K mg "TooFew" c6 B)
 (hn:∀ C∈[h1,h2],∀ D∈[c1,c2,c3,c4,c5,c6],C≠D/\B≠D) (hh:(h1≠h2/\h1≠h3/\h2≠h3)/\B≠h1/\B≠h2/\B≠h3) (mI:mg "isinstance" = none) (mV:mg "ValueError" = none):FnOkH P W K mg base CX0 1 Z fd ["e"] (spKindA h1 h2):=by
 obtain⟨⟨n12,n13,n23⟩,m1,m2,m3⟩:=hh
 refine orH (ok_kindE (j:=0) F i1 i1 i2 i3 e1 e2 e3 e4 e5 e6 true false false i1.self (i1.other i2 n12 m2) (i1.other i3 n13 m3) rfl rfl (fun m hm=>by omega) rfl (hn _ (by simp)) mI mV)
  (ok_kindE (j:=1) F i2 i1 i2 i3 e1 e2 e3 e4 e5 e6 false true false (i2.other i1 n12.symm m1) i2.self (i2.other i3 n23 m3) rfl rfl (fun m hm=>?_) rfl (hn _ (by simp)) mI mV)
 grind
abbrev sAsk:Stmt:=top 52
theorem scAsk:FnScope ["heap","size","found","e"] ["heap","size"] (defScope sAsk):=by wtm_at "sc"
def spAsk:Sp:=fun vs H Q _=>∃ (h:Addr) (need z:Int) (qs:Qs),vs = [.ref h,.int z]/\HeapAt H h need qs/\Ris qs/\((z∉qs.map (·.1)/\∀ H',L2.Same H H'->Q (.str "no size") H')\/(z∈qs.map (·.1)/\Bad qs/\∀ H',L2.Same H H'->Q (.str "too many") H'))
theorem ok_ask (F:Fun K "_law_asked" "_law_asked" sAsk Z fd) (cG:Callee (CXF P W) P W K mg base "size_left" 6 ["heap","size"] (spLeftX CN CM)) (cR:CalleeH CX0 P W K mg base "_law_kind" 1 ["e"] (spKindA CM CN)) (iN:ECls K mg "NoSize" CN B) (iM:ECls K mg "TooMany" CM B) (bB:BCls K mg "BrimError" B):FnOk P W K mg base CX0 7 Z fd ["heap","size"] spAsk:=by
 refine Br.Fun.j F scAsk (fun vs H Q E h=>?_) (fun _ A _ s H vs Q E hr h=>?_)
 · obtain⟨_,_,_,_,rfl,_⟩:=h;rfl
 · obtain⟨hp,need,z,qs,rfl,hh,rq,h⟩:=h
   have nd:=scAsk.nd
   refine' ⟨_,?d,?r⟩
   case d=>wtm_at "body"
   case r=>
    rcases h with ⟨hz,h⟩ | ⟨hz,hb,h⟩
    · refine⟨_,rfl,_,rfl,hp,need,z,qs,rfl,hh,rq,.inl ⟨hz,fun H1 s1=>⟨iN.caught bB,CN,rfl,fun ea hea=>?_⟩⟩⟩
      exact⟨_,rfl,.inr ⟨ea,rfl,upd_same,fun H2 s2=>⟨_,rfl,h H2 (s1.trans ((Br.Same.upd hea).trans s2))⟩⟩⟩
    · refine⟨_,rfl,_,rfl,hp,need,z,qs,rfl,hh,rq,.inr ⟨hz,hb,fun H1 s1=>⟨iM.caught bB,CM,rfl,fun ea hea=>?_⟩⟩⟩
      exact⟨_,rfl,.inl ⟨ea,rfl,upd_same,fun H2 s2=>⟨_,rfl,h H2 (s1.trans ((Br.Same.upd hea).trans s2))⟩⟩⟩
theorem c_isN:JCop X .Is (fun x y H Q=>y = .non/\Q (.bl (decide (x = .non))) H):=⟨op_isN⟩
section
local macro_rules | `(tactic| wtm_at "pi")=>`(tactic| (apply EG.k_enum;(wtm_at "K");(with_reducible rfl);(rfl);(assumption);(rfl);(wtm_at "pa")))
local macro_rules | `(tactic| wtm_at "cop")=>`(tactic| first | apply c_isN | (apply c_neD;assumption))
abbrev sLaw:Stmt:=top 53
theorem scLaw:FnScope ["script","k","cell","pot","heap","most","size","many","found","less","needed","beyond","odd"] ["script"] (defScope sLaw):=by wtm_at "sc"
def spLaw (K:PySem.W.Frag):Sp:=fun vs H Q _=>∃ (a:Addr) (ns:List Int),vs = [.ref a]/\SqL K H a (ns.map V.int)/\ns.length<=63/\(∀ n∈ns,Bd 1048576 n)/\∀ H',Q (.bl true) H'
theorem ok_law (F:Fun K "law" "law" sLaw Z fd) (cD:Callee CX0 P W K mg base "_law_deal" 1 ["cell","many"] spDeal) (cT:Callee CX0 P W K mg base "_law_take" 1 ["pot","many"] spTake) (cH:Callee CX0 P W K mg base "_law_heap" 3 ["pot","most_ways"] spHeap)
 (cP:Callee CX0 P W K mg base "_law_pair" 2 ["heap"] spPair) (cF:Callee CX0 P W K mg base "size_left" 6 ["heap","size"] spLeft) (cC:Callee CX0 P W K mg base "_law_count" 2 ["heap","filling"] spCnt) (cWo:Callee CX0 P W K mg base "_law_without" 1 ["heap","size"] spWo)
 (cA:Callee CX0 P W K mg base "_law_asked" 7 ["heap","size"] spAsk) (cY:Callee CX0 P W K mg base "_law_beyond" 2 ["pot"] spBey)
 (mE:mg "enumerate" = none) (mN:mg "int" = none):FnOk P W K mg base CX0 8 Z fd ["script"] (spLaw K):=by
 refine Br.Fun.j F scLaw (fun vs H Q E h=>?_) (fun _ A _ s H vs Q E hr h=>?_)
 · obtain⟨_,_,rfl,_⟩:=h;rfl
 · obtain⟨a,ns,rfl,hS,hlen,hbd,k⟩:=h
   have nd:=scLaw.nd
   have hsz:=sizeLine_eq
   refine' ⟨_,?d,?r⟩
   case d=>wtm_at "body"
   case r=>
    wtm_at "rd"
    refine⟨a,_,rfl,.inl ⟨hS,fun la H1 nla s1 e1=>?_⟩⟩
    have hcut:cutV (ns.map V.int) none (some 6) = (ns.take 6).map V.int:=by
     unfold cutV
     rw [show (6:Int) = ((6:Nat):Int) from rfl,HT.sIx_nat,HT.sIx_none,List.drop_zero,Nat.sub_zero,<- List.map_take,List.length_map]
     congr 1
     rw [List.take_eq_take_iff];omega
    rw [hcut] at e1
    refine⟨lenLe (n:=1) rfl (by decide),fun lb H2 nlb s2 e2=>?_⟩
    refine .inr (.inl ⟨la,lb,_,_,rfl,rfl,s2 _ _ e1,e2,by rw [hsz,List.length_map,List.length_take];simp only [List.length_cons,List.length_nil];omega,fun lc H3 nlc s3 e3=>?_⟩)
    have e3:H3 lc = some (.lst ((ns.take 6 ++ [6]).map V.int)):=by rw [e3,List.map_append];rfl
    refine⟨false,lc,_,rfl,SqL.of e3,?_⟩
    have s03:=s1.trans (s2.trans s3)
    refine EG.for_enum (f:=false) (K:=K) (a:=lc) (xs:=(ns.take 6 ++ [6]).map V.int) (fun i σ G=>L2.Same H3 G/\∃ x1 x2 x3 x4 x5 x6 x7 x8 x9 y1 y2 y3:Option V,σ = [some (.ref a),x1,x2,x3,x4,x5,x6,x7,x8,x9,y1,y2,y3])
     ⟨L2.Same.refl _,none,none,none,none,none,none,none,none,none,none,none,none,rfl⟩ (fun i σ G _ ⟨sG,_⟩=>SqL.of (sG _ _ e3)) ?_ ?_
    · rintro i x σ G T hx ⟨sG,x1,x2,x3,x4,x5,x6,x7,x8,x9,y1,y2,y3,rfl⟩ hT
      rw [List.getElem?_map] at hx
      obtain⟨c,hc,rfl⟩:=Option.map_eq_some_iff.mp hx
      have hcb:Bd 1048576 c:=by
       rcases List.mem_append.mp (List.mem_of_getElem? hc) with z | z
       · exact hbd c (List.mem_of_mem_take z)
       · rw [List.mem_singleton.mp z]
         show (6:Int).natAbs < 2 ^ 1048576
         exact Nat.lt_of_lt_of_le (show (6:Int).natAbs < 2 ^ 3 by decide) (Nat.pow_le_pow_right (by decide) (by decide))
      have sT:L2.Same H3 (upd G T (.tup [.int i,.int c])):=sG.trans (Br.Same.upd hT)
      generalize hGT:upd G T (.tup [.int i,.int c]) = GT at sT
      have eT:GT T = some (.tup [.int i,.int c]):=by rw [<- hGT];exact upd_same
      refine⟨T,_,rfl,SqT.of eT,rfl,_,_,rfl,_,_,rfl,rfl,?_⟩
      refine⟨_,rfl,c,60,rfl,hcb,by decide,by decide,fun r hr0=>?_⟩
      refine⟨lenLe (n:=1) rfl (by decide),fun p G1 np q1 f1=>?_⟩
      have npH:H3 p = none:=none_of sT np
      have p1:Pool G1 p:=⟨r,f1,hr0⟩
      refine⟨_,rfl,lenLe (n:=2) rfl (by decide),fun lm G2 nlm q2 e2'=>?_⟩
      have lmp:lm≠p:=fun z=>by rw [z,f1] at nlm;cases nlm
      refine⟨_,rfl,p,6,rfl,p1.same q2,by decide,by decide,fun r1 G3 m3 p3 h10 h11=>?_⟩
      refine⟨rfl,?_⟩
      generalize hwb:decide (V.int r1 = V.int 0) = wb
      refine .inr ⟨_,rfl,?_⟩
      obtain⟨mw,hmw,hat⟩:∃ mw:Int,mw<=2000/\atI [V.int 120,V.int 2000] (if wb = true then 1 else 0) = some (.int mw):=by
       cases wb
       · exact⟨120,by decide,rfl⟩
       · exact⟨2000,by decide,rfl⟩
      refine .inl ⟨lm,_,_,_,rfl,rfl,SqL.of (m3 _ _ (by simpa using lmp) e2'),hat,?_⟩
      refine⟨p,mw,rfl,hmw,p3,fun hp need qs G4 m4 p4 hO h60 h2000 rq h8=>?_⟩
      have s34:L2.Same H3 G4:=mo_same (mo_same ((sT.trans q1).trans q2) npH m3) npH m4
      obtain⟨t,us,o1,o2,o3,o4,o5,o6,o7⟩:=id hO
      have hqq:∀ q∈qs,1<=q.1/\1<=q.2:=fun q h=>⟨(o7 q h).1,(o7 q h).2.2.1⟩
      refine⟨_,rfl,hp,need,qs,rfl,hO,h2000,fun pa v G5 q5 e5 mo=>?_⟩
      refine .inr (.inl ⟨pa,_,0,_,rfl,rfl,SqT.of e5,(show atI [V.int v.1,V.int v.2] 0 = some (.int v.1) from rfl),?_⟩)
      have hx1:atI [V.int need,V.ref t] 1 = some (.ref t):=rfl
      refine⟨_,rfl,.inr (.inl ⟨hp,_,1,_,rfl,rfl,SqT.of (q5 _ _ o1),hx1,?_⟩)⟩
      refine⟨t,rfl,.inr ⟨⟨_,(o2.same q5).sq⟩,?_⟩⟩
      refine for_tup (K:=K) (a:=t) (xs:=us) (fun j σ G=>L2.Same G5 G/\∃ x6 x7 x8 x9 y1:Option V,σ = [some (.ref a),some (.int i),some (.int c),some (.ref p),some (.ref hp),some (.int v.1),x6,x7,x8,x9,y1,y2,y3])
       ⟨L2.Same.refl _,_,_,_,_,_,rfl⟩ (fun j σ G _ ⟨sG,_⟩=>((o2.same q5).same sG).sq) ?_ ?_
      · rintro j x σ G hx ⟨sG,x6,x7,x8,x9,y1,rfl⟩
        obtain⟨q,hq,r,rfl,hrr⟩:=o3.2 j x hx
        have s5G:=q5.trans sG
        have hOG:=hO.same s5G
        refine⟨r,_,rfl,SqT.of (s5G _ _ hrr),rfl,_,_,rfl,_,_,rfl,rfl,?_⟩
        have hwp:=Int.le_trans (prodc_wo q.1 qs fun r hr=>(hqq r hr).2).1 h2000
        refine⟨_,rfl,_,rfl,hp,need,qs,j,q,rfl,hOG,h60,h2000,rq,hq,fun T u u' tab nn hu hu'=>⟨fun hlt G6 q6=>?_,fun hge fa gs G6 q6 hf hL=>?_⟩⟩
        all_goals
         have eu:=MostOf.uniq hqq ⟨T,tab,nn,hu⟩ mo
         subst eu
         refine⟨_,rfl,_,rfl,hp,need,q.1,qs,rfl,hOG.same q6,fun h' G7 q7 hW=>?_⟩
         refine⟨_,rfl,h',need,wo q.1 qs,rfl,hW,hwp,fun pb z G8 q8 e8 mz=>?_⟩
         have ez:=most_wo rq hqq tab nn hq hu' mz
         subst ez
         refine .inr (.inl ⟨pb,_,0,_,rfl,rfl,SqT.of e8,(show atI [V.int u'.1,V.int u'.2] 0 = some (.int u'.1) from rfl),?_⟩)
         refine⟨_,rfl,_,_,rfl,rfl,?_⟩
         have s68:=q6.trans (q7.trans q8)
         have hO8:=hOG.same s68
        · refine⟨fun σ' G'=>L2.Same G8 G'/\σ' = [some (.ref a),some (.int i),some (.int c),some (.ref p),some (.ref hp),some (.int u.1),some (.int q.1),some (.int q.2),some .non,some (.ref h'),some (.bl (decide (u'.1 < u.1))),y2,y3],?_,?_⟩
          · refine⟨_,rfl,rfl,?_⟩
            refine⟨_,rfl,.inl ⟨rfl,_,rfl,?_⟩⟩
            rw [decide_eq_true (show V.bl (decide (V.non = V.non)) = V.bl (decide (u'.1 < u.1)) by rw [decide_eq_true hlt];rfl)]
            refine iteF ?_
            refine⟨_,rfl,_,rfl,hp,need,qs,j,q,rfl,hO8,h60,h2000,rq,hq,fun T2 w w' tab2 nn2 hw hw'=>⟨fun _ G9 q9=>?_,fun hge2=>?_⟩⟩
            · exact⟨_,rfl,.inl ⟨rfl,_,rfl,iteF ⟨q9,rfl⟩⟩⟩
            · have e2:=tab_uniq (LS_ok hqq) tab2 tab
              subst e2
              rw [hu] at hw;cases hw
              rw [hu'] at hw';cases hw'
              exact absurd hlt hge2
          rintro σ' G9 ⟨q9,rfl⟩
          refine⟨_,?_,fun _ _ h=>h⟩
          refine⟨_,rfl,_,rfl,ite2 (fun hc=>?_) (fun _=>⟨sG.trans (s68.trans q9),_,_,_,_,_,rfl⟩)⟩
          rw [decide_eq_true hlt] at hc;cases hc
        · have hf8:=hf.tu (Tu.of (q7.trans q8))
          refine⟨fun σ' G'=>L2.Same G8 G'/\σ' = [some (.ref a),some (.int i),some (.int c),some (.ref p),some (.ref hp),some (.int u.1),some (.int q.1),some (.int q.2),some (.ref fa),some (.ref h'),some (.bl (decide (u'.1 < u.1))),y2,y3],?_,?_⟩
          · refine⟨_,rfl,rfl,?_⟩
            refine⟨_,rfl,.inl ⟨rfl,_,rfl,?_⟩⟩
            rw [decide_eq_true (show V.bl (decide (V.ref fa = V.non)) = V.bl (decide (u'.1 < u.1)) by rw [decide_eq_false hge];rfl)]
            refine iteF ?_
            refine⟨_,rfl,_,rfl,hp,need,qs,j,q,rfl,hO8,h60,h2000,rq,hq,fun T2 w w' tab2 nn2 hw hw'=>⟨fun hlt2=>?_,fun _ fa2 gs2 G9 q9 hf9 hL2=>?_⟩⟩
            · have e2:=tab_uniq (LS_ok hqq) tab2 tab
              subst e2
              rw [hu] at hw;cases hw
              rw [hu'] at hw';cases hw'
              exact absurd hlt2 hge
            · have e2:=hL2.uniq hqq hL
              subst e2
              refine⟨_,rfl,.inr ⟨_,_,rep_fill hf9,rep_fill (hf8.tu (Tu.of q9)),pl_fill _,pl_fill _,?_⟩⟩
              rw [SeqAt.eqv_refl _ (pl_fill _).1]
              exact⟨_,rfl,iteF ⟨q9,rfl⟩⟩
          rintro σ' G9 ⟨q9,rfl⟩
          obtain⟨fok,fsm⟩:=left_fil o5 rq o7 h60 hq tab hu' hL
          have em:u'.1 = u.1:=by have:=less_le rq hqq tab nn hq hu hu';omega
          refine⟨_,?_,fun _ _ h=>h⟩
          refine⟨_,rfl,_,rfl,ite2 (fun _=>?_) (fun _=>⟨sG.trans (s68.trans q9),_,_,_,_,_,rfl⟩)⟩
          refine⟨_,rfl,_,rfl,h',fa,need,wo q.1 qs,gs,rfl,hW.same (q8.trans q9),(wo_ris rq).nodup,hf8.tu (Tu.of q9),fok,fun GA qA=>?_⟩
          refine⟨_,rfl,.inl ⟨rfl,_,rfl,?_⟩⟩
          rw [decide_eq_true (show V.int (gs.map (·.2)).sum = V.int u.1 by rw [fsm,em])]
          exact iteF ⟨sG.trans (s68.trans (q9.trans qA)),_,_,_,_,_,rfl⟩
      · rintro σ G ⟨sG,x6,x7,x8,x9,y1,rfl⟩
        have p5:=p4.same (q5.trans sG)
        refine⟨_,rfl,p,rfl,p5,fun hb nb bs GA mA pA hB rb bad bne blt=>?_⟩
        obtain⟨tb,ub,w1,w2,w3,w4,w5,w6,w7⟩:=id hB
        obtain⟨b0,br,rfl⟩:∃ b0 br,bs = b0 :: br:=by
         cases bs with
         | nil=>exact absurd rfl bne
         | cons b0 br=>exact⟨b0,br,rfl⟩
        obtain⟨vb,hvb⟩:∃ v,ub[0]? = some v:=⟨_,List.getElem?_eq_getElem (by rw [w3.1];simp)⟩
        obtain⟨qb,hqb,rb0,rfl,hrb⟩:=w3.2 0 vb hvb
        simp at hqb
        subst hqb
        have hb0:=blt b0 (.head _)
        have hb1:=(w7 b0 (.head _)).1
        have i1:atI [V.int nb,V.ref tb] 1 = some (.ref tb):=rfl
        have i0:atI ub 0 = some (.ref rb0):=(show atI ub ((0:Nat):Int) = _ from atI_nat hvb)
        have i00:atI [V.int b0.1,V.int b0.2] 0 = some (.int b0.1):=rfl
        have e13:(10:Int) ^ Int.toNat 13 = 10000000000000:=by decide
        wtm_at "rd"
        refine⟨pA,by decide,by decide,fun r7 GB mB pB c0 c1=>.inl ⟨_,_,rfl,rfl,?_⟩⟩
        have tB:=Tu.mo pA mB
        have w1B:=tB _ _ w1 ⟨_,rfl⟩
        refine⟨_,rfl,.inr (.inl ⟨hb,_,1,_,rfl,rfl,SqT.of w1B,i1,?_⟩)⟩
        refine .inr (.inl ⟨tb,_,0,_,rfl,rfl,(w2.mo pA mB).sq,i0,?_⟩)
        refine .inr (.inl ⟨rb0,_,0,_,rfl,rfl,SqT.of (tB _ _ hrb ⟨_,rfl⟩),i00,?_⟩)
        refine⟨_,_,rfl,rfl,lenLe (n:=5) rfl (by decide),fun lo GC nlo qC eC=>?_⟩
        have eC:GC lo = some (.lst ([0,-1,10 ^ Int.toNat 13,60 + r7,0 - b0.1].map V.int)):=eC
        have pC:=pB.same qC
        have lop:lo≠p:=fun z=>by obtain⟨_,e,_⟩:=pB;rw [z,e] at nlo;cases nlo
        refine⟨_,rfl,p,5,rfl,pC,by decide,by decide,fun r8 GD mD pD d0 d1=>?_⟩
        obtain⟨od,hz,_,ez⟩:=atI_ints (zs:=[0,-1,10 ^ Int.toNat 13,60 + r7,0 - b0.1]) (i:=r8) (by omega) (by simp;omega)
        have hod:od < 1\/60<=od:=by rw [e13] at hz;simp at hz;omega
        refine .inl ⟨lo,_,_,_,rfl,rfl,SqL.of (mD _ _ (by simpa using lop) eC),ez,?_⟩
        have hBD:=((hB.mo pA mB).same qC).mo pC mD
        have hno:od∉((b0 :: br).map (·.1)):=fun z=>by
         obtain⟨x,hx,e⟩:=List.mem_map.mp z
         have:=blt x hx
         have:=(w7 x hx).1
         omega
        refine⟨fun σ' G'=>L2.Same GD G'/\σ' = [some (.ref a),some (.int i),some (.int c),some (.ref p),some (.ref hp),some (.int v.1),x6,x7,x8,x9,y1,some (.ref hb),some (.int od)],?_,?_⟩
        · refine⟨_,rfl,_,rfl,hb,nb,od,_,rfl,hBD,rb,.inl ⟨hno,fun GE qE=>?_⟩⟩
          refine .inl ⟨rfl,_,rfl,?_⟩
          rw [decide_eq_true rfl]
          refine iteF ?_
          have tD:=Tu.mo pC mD
          refine⟨_,rfl,_,rfl,.inr (.inl ⟨hb,_,1,_,rfl,rfl,SqT.of (qE _ _ (tD _ _ (qC _ _ w1B) ⟨_,rfl⟩)),i1,?_⟩)⟩
          refine .inr (.inl ⟨tb,_,0,_,rfl,rfl,((((w2.mo pA mB).same qC).mo pC mD).same qE).sq,i0,?_⟩)
          refine .inr (.inl ⟨rb0,_,0,_,rfl,rfl,SqT.of (qE _ _ (tD _ _ (qC _ _ (tB _ _ hrb ⟨_,rfl⟩)) ⟨_,rfl⟩)),i00,?_⟩)
          refine⟨hb,nb,b0.1,_,rfl,hBD.same qE,rb,.inr ⟨.head _,bad,fun GF qF=>?_⟩⟩
          refine .inl ⟨rfl,_,rfl,?_⟩
          rw [decide_eq_true rfl]
          exact iteF ⟨qE.trans qF,rfl⟩
        rintro σ' GE ⟨qE,rfl⟩
        have tAll:∀ b o,G5 b = some o->b≠p->GE b = some o:=fun b o e hb=>qE _ _ (mD b o (by simpa using hb) (qC _ _ (mB b o (by simpa using hb) (mA b o (by simpa using hb) (sG _ _ e)))))
        have p5':=p4.same q5
        have hOE:HeapAt GE hp need qs:=((((hO.same (q5.trans sG)).mo p5 mA).mo pA mB).same qC).mo pC mD |>.same qE
        have oE:GE hp = some (.tup [.int need,.ref t]):=tAll _ _ (q5 _ _ o1) (fun z=>by obtain⟨_,e,_⟩:=p5';rw [z] at o1;have:=q5 _ _ o1;rw [e] at this;cases this)
        have fE:FrT GE t us:=(((((o2.same (q5.trans sG)).mo p5 mA).mo pA mB).same qC).mo pC mD).same qE
        have kE:Kinds GE us qs:=(((((o3.same (q5.trans sG)).tu (Tu.mo p5 mA)).tu (Tu.mo pA mB)).same qC).tu (Tu.mo pC mD)).same qE
        have fin:∀ G,L2.Same GE G->L2.Same H3 G:=fun G s=>by
         have a1:=mo_same (s34.trans (q5.trans sG)) npH mA
         exact (mo_same ((mo_same a1 npH mB).trans qC) npH mD).trans (qE.trans s)
        refine⟨_,?_,fun _ _ h=>h⟩
        refine⟨_,rfl,?_⟩
        refine⟨_,rfl,.inr (.inl ⟨hp,_,1,_,rfl,rfl,SqT.of oE,hx1,?_⟩)⟩
        refine⟨t,rfl,.inr ⟨⟨_,fE.sq⟩,?_⟩⟩
        have hul:=kE.1
        refine cmp_tup (K:=K) (a:=t) (xs:=us) (fun j ys σ G=>G = GE/\ys = ((qs.map (·.1)).take j).map V.int/\∃ x y:Option V,σ = [x,y,some (.ref a),some (.int i),some (.int c),some (.ref p),some (.ref hp),some (.int v.1),x6,x7,x8,x9,y1,some (.ref hb),some (.int od)])
         ⟨rfl,rfl,none,none,rfl⟩ (by omega) (fun j ys σ G _ ⟨e1,e2,_⟩=>⟨by rw [e1];exact fE.sq,by rw [e2,List.length_map,List.length_take];omega⟩) ?_ ?_
        · rintro j x ys σ G N hx ⟨rfl,rfl,z0,z1,rfl⟩ hN
          obtain⟨q,hq,r,rfl,hrr⟩:=kE.2 j x hx
          refine⟨r,_,rfl,SqT.of hrr,rfl,_,_,rfl,_,_,rfl,rfl,?_⟩
          refine⟨_,rfl,hN _ _ _ ⟨rfl,?_,_,_,rfl⟩⟩
          rw [List.take_add_one,List.getElem?_map,hq,List.map_append];rfl
        rintro ys σ G ⟨eG,rfl,z0,z1,rfl⟩ pl GF npl qF eF
        rw [eG] at qF
        rw [hul,List.take_of_length_le (by rw [List.length_map];exact Nat.le_refl _)] at eF
        refine⟨pl,_,rfl,.inl (SqL.of eF),rfl,by rw [List.all_eq_true];intro x hx;obtain⟨n,_,rfl⟩:=List.mem_map.mp hx;rfl,?_⟩
        rw [in_ints]
        refine⟨_,rfl,ite2 (fun hc=>?_) (fun _=>⟨fin _ qF,_,_,_,_,_,_,_,_,_,_,_,_,rfl⟩)⟩
        have hnq:od∉qs.map (·.1):=fun z=>by
         rw [decide_eq_true z] at hc;cases hc
        refine⟨_,rfl,_,rfl,hp,need,od,qs,rfl,hOE.same qF,rq,.inl ⟨hnq,fun GG qG=>?_⟩⟩
        refine .inl ⟨rfl,_,rfl,?_⟩
        rw [decide_eq_true rfl]
        exact iteF ⟨fin _ (qF.trans qG),_,_,_,_,_,_,_,_,_,_,_,_,rfl⟩
    · rintro σ G ⟨sG,x1,x2,x3,x4,x5,x6,x7,x8,x9,y1,y2,y3,rfl⟩
      exact k _
end
open PySem.W
abbrev GAt (K:Frag) (x:Str) (v:Value):Prop:=nsIn K mainGlobals x = some (some v)
abbrev NAt (K:Frag) (x:Str):Prop:=nsIn K mainGlobals x = some none
def DfAt (K:Frag) (x:Str) (st:Stmt):Prop:=∃ f oc od kV dc pm an cd ct sl,GAt K x (.ref f)/\K.lookup f = some ⟨oc,od,.func (fnOf x x (defArgs st) (defBody st) (defScope st) .none kV dc pm an cd ct),sl⟩/\codeIn K cd x = true/\keepIn K (.ref f) = true
theorem DfAt.of {K:Frag}{x:Str}{st:Stmt}{f:Addr}{oc kV dc pm cd ct:Value}{od an:Option Addr}{sl:Array (Option Value)} (a:nsIn K mainGlobals x = some (some (.ref f))) (l:K.lookup f = some ⟨oc,od,.func (fnOf x x (defArgs st) (defBody st) (defScope st) .none kV dc pm an cd ct),sl⟩) (c:codeIn K cd x = true) (k:keepIn K (.ref f) = true):DfAt K x st:=⟨_,_,_,_,_,_,_,_,_,_,a,l,c,k⟩
theorem DfAt.cal {K:Frag}{h:Heap}{mg:Str->Option Value}{x:Str}{st:Stmt}{CX:CXT}{k:Nat}{ps:List Str}{sp:Sp} (d:DfAt K x st) (P:Program) (w:World) (base:Heap) (X:K.In h) (G:h.Ns mainGlobals mg) (ok:∀ {f:Addr}{fd:FuncData},Fun K x x st f fd->FnOk P w K mg base CX k f fd ps sp)
 (b:∀ (kV doc pm:Value) (an:Option Addr) (cdv ct:Value) (us:List Value),us.length = ps.length->bindArgs (fnOf x x (defArgs st) (defBody st) (defScope st) .none kV doc pm an cdv ct) ⟨us,[]⟩ = pure (ps.zip us)):Callee CX P w K mg base x k ps sp:=
 let ⟨_,_,_,_,_,_,_,_,_,_,a,l,c,k⟩:=d;⟨_,_,ok (fun_mk l c k),mg_of X G a,k,(fun_mk l c k).binds b⟩
theorem DfAt.calH {K:Frag}{h:Heap}{mg:Str->Option Value}{x:Str}{st:Stmt}{CX:CXT}{k:Nat}{ps:List Str}{sp:Sp} (d:DfAt K x st) (P:Program) (w:World) (base:Heap) (X:K.In h) (G:h.Ns mainGlobals mg) (ok:∀ {f:Addr}{fd:FuncData},Fun K x x st f fd->FnOkH P w K mg base CX k f fd ps sp)
 (b:∀ (kV doc pm:Value) (an:Option Addr) (cdv ct:Value) (us:List Value),us.length = ps.length->bindArgs (fnOf x x (defArgs st) (defBody st) (defScope st) .none kV doc pm an cdv ct) ⟨us,[]⟩ = pure (ps.zip us)):CalleeH CX P w K mg base x k ps sp:=
 let ⟨_,_,_,_,_,_,_,_,_,_,a,l,c,k⟩:=d;⟨_,_,ok (fun_mk l c k),mg_of X G a,k,(fun_mk l c k).binds b⟩
local macro_rules | `(tactic| wtm_at "b1")=>`(tactic| exact fun _ _ _ _ _ _ us hl=>match us,hl with | [_],_=>rfl)
local macro_rules | `(tactic| wtm_at "b2")=>`(tactic| exact fun _ _ _ _ _ _ us hl=>match us,hl with | [_,_],_=>rfl)
local macro_rules | `(tactic| wtm_at "b3")=>`(tactic| exact fun _ _ _ _ _ _ us hl=>match us,hl with | [_,_,_],_=>rfl)
local macro_rules | `(tactic| wtm_at "b4")=>`(tactic| exact fun _ _ _ _ _ _ us hl=>match us,hl with | [_,_,_,_],_=>rfl)
theorem all_mk {l:OpenLaw}{w:World}{K:Frag}{h:Heap}{mg:Str->Option Value}{fa:Addr} (X:K.In h) (G:h.Ns mainGlobals mg) (hfa:mg "law" = some (.ref fa)) {tgM1 tgM2:Tok}
 {C:Addr}
 {od23 an23:Option Addr}{sl23:Array (Option Value)}{oc23 kV23 dc23 pm23 cd23 ct23:Value}{f23:Addr}
 {od24 an24:Option Addr}{sl24:Array (Option Value)}{oc24 kV24 dc24 pm24 cd24 ct24:Value}{f24:Addr}
 {od25 an25:Option Addr}{sl25:Array (Option Value)}{oc25 kV25 dc25 pm25 cd25 ct25:Value}{f25:Addr}
 {od26 an26:Option Addr}{sl26:Array (Option Value)}{oc26 kV26 dc26 pm26 cd26 ct26:Value}{f26:Addr}
 {cB cNoRatio cNoHeap cNoLot cUnlike cTooMany cNoSize cTooFew cNoText cNoRow:Addr}
 (aC:nsIn K mainGlobals "Bench" = some (some (.ref C)))
 (d1:DfAt K "_law_deal" sDeal)
 (d2:DfAt K "_law_take" sTake)
 (d3:DfAt K "_law_size" sSize)
 (d4:DfAt K "_law_heap" sHeap)
 (d5:DfAt K "_law_ways" sWays)
 (d6:DfAt K "number_of_ways" sNWays)
 (d7:DfAt K "number_of_things" sNThings)
 (d8:DfAt K "refuse_above" sRefuse)
 (d10:DfAt K "ways_of" sWaysOf)
 (d12:DfAt K "paces_of" sPaces)
 (d13:DfAt K "put_to" sPut)
 (d14:DfAt K "lasts_of" sLasts)
 (d16:DfAt K "made_last" sMade)
 (d17:DfAt K "table_by" sTabBy)
 (d18:DfAt K "table_of" sTabOf)
 (d20:DfAt K "_law_pair" sPair)
 (d21:DfAt K "_law_without" sWo)
 (d22:DfAt K "_law_beyond" sBey)
 (a23:findIn K (.ref C) "__init__" = some (some (.ref f23))) (i23:isFn K (.ref f23) = true)
 (l23:K.lookup f23 = some ⟨oc23,od23,.func (fnOf "__init__" "Bench.__init__" (defArgs K44B.sInit) (defBody K44B.sInit) (defScope K44B.sInit) .none kV23 dc23 pm23 an23 cd23 ct23),sl23⟩) (c23:codeIn K cd23 "Bench.__init__" = true) (k23:keepIn K (.ref f23) = true)
 (a24:findIn K (.ref C) "open_lot" = some (some (.ref f24))) (i24:isFn K (.ref f24) = true)
 (l24:K.lookup f24 = some ⟨oc24,od24,.func (fnOf "open_lot" "Bench.open_lot" (defArgs K44B.sOpen) (defBody K44B.sOpen) (defScope K44B.sOpen) .none kV24 dc24 pm24 an24 cd24 ct24),sl24⟩) (c24:codeIn K cd24 "Bench.open_lot" = true) (k24:keepIn K (.ref f24) = true)
 (a25:findIn K (.ref C) "put" = some (some (.ref f25))) (i25:isFn K (.ref f25) = true)
 (l25:K.lookup f25 = some ⟨oc25,od25,.func (fnOf "put" "Bench.put" (defArgs K44B.sPut) (defBody K44B.sPut) (defScope K44B.sPut) .none kV25 dc25 pm25 an25 cd25 ct25),sl25⟩) (c25:codeIn K cd25 "Bench.put" = true) (k25:keepIn K (.ref f25) = true)
 (a26:findIn K (.ref C) "shut_lots" = some (some (.ref f26))) (i26:isFn K (.ref f26) = true)
 (l26:K.lookup f26 = some ⟨oc26,od26,.func (fnOf "shut_lots" "Bench.shut_lots" (defArgs K44B.sShut) (defBody K44B.sShut) (defScope K44B.sShut) .none kV26 dc26 pm26 an26 cd26 ct26),sl26⟩) (c26:codeIn K cd26 "Bench.shut_lots" = true) (k26:keepIn K (.ref f26) = true)
 (d27:DfAt K "last_put" sLastP)
 (d28:DfAt K "row_to" sRowTo)
 (d29:DfAt K "is_full" sFull)
 (d30:DfAt K "lean_of" sLeanOf)
 (d31:DfAt K "lots_of_row" sLotsR)
 (d32:DfAt K "lean_filling" sLeanF)
 (d33:DfAt K "filling_of_row" sFillR)
 (d34:DfAt K "_law_whole" sWhole)
 (d35:DfAt K "_law_count" sCnt)
 (d36:DfAt K "size_left" sLeft)
 (d38:DfAt K "_law_kind" sKindE)
 (d39:DfAt K "_law_asked" sAsk)
 (d40:DfAt K "law" sLaw)
 (pg:plainGet K C Str.empty = true) (hd:hasDictIn K C = true) (po:plainOver K C = true) (sa:findIn K (.ref C) "__setattr__" = some (some (.builtin "object.__setattr__"))) (mk:makesIn K C = true) (kc:keepIn K (.ref C) = true)
 (nf0:findIn K (.ref C) "need" = some none)
 (nf1:findIn K (.ref C) "shut" = some none)
 (nf2:findIn K (.ref C) "lying" = some none)
 (nf3:findIn K (.ref C) "greatest" = some none)
 (gB:GAt K "BrimError" (.ref cB))
 (gNoRatio:GAt K "NoRatio" (.ref cNoRatio))
 (gNoHeap:GAt K "NoHeap" (.ref cNoHeap))
 (gNoLot:GAt K "NoLot" (.ref cNoLot))
 (gUnlike:GAt K "Unlike" (.ref cUnlike))
 (gTooMany:GAt K "TooMany" (.ref cTooMany))
 (gNoSize:GAt K "NoSize" (.ref cNoSize))
 (gTooFew:GAt K "TooFew" (.ref cTooFew))
 (gNoText:GAt K "NoText" (.ref cNoText))
 (gNoRow:GAt K "NoRow" (.ref cNoRow))
 (uB1:(clsIn K cB).isSome = true) (uB2:typeIn K (.ref cB) = some (.type "type")) (uB3:mroIn K cB (.type "BaseException") = some true)
 (uNoRatio:eclsIn K cNoRatio cB = true)
 (uNoHeap:eclsIn K cNoHeap cB = true)
 (uNoLot:eclsIn K cNoLot cB = true)
 (uUnlike:eclsIn K cUnlike cB = true)
 (uTooMany:eclsIn K cTooMany cB = true)
 (uNoSize:eclsIn K cNoSize cB = true)
 (uTooFew:eclsIn K cTooFew cB = true)
 (uNoText:eclsIn K cNoText cB = true)
 (uNoRow:eclsIn K cNoRow cB = true)
 (gM1:nsIn K mainGlobals "MOST_TABLED" = some (some (.int 60 tgM1)))
 (gM2:nsIn K mainGlobals "MOST_WAYS" = some (some (.int 2000 tgM2)))
 (hdis:∀ C∈[cTooMany,cNoSize],∀ D∈[cNoHeap,cNoLot,cNoRatio,cNoRow,cNoText,cTooFew],C≠D/\cB≠D)
 (hdis2:(cTooMany≠cNoSize/\cTooMany≠cUnlike/\cNoSize≠cUnlike)/\cB≠cTooMany/\cB≠cNoSize/\cB≠cUnlike)
 (n_range:NAt K "range")
 (n_max:NAt K "max")
 (n_min:NAt K "min")
 (n_sorted:NAt K "sorted")
 (n_tuple:NAt K "tuple")
 (n_sum:NAt K "sum")
 (n_enumerate:NAt K "enumerate")
 (n_zip:NAt K "zip")
 (n_len:NAt K "len")
 (n_int:NAt K "int")
 (n_list:NAt K "list")
 (n_isinstance:NAt K "isinstance")
 (n_bool:NAt K "bool")
 (n_all:NAt K "all")
 (n_dict:NAt K "dict")
 (n_ValueError:NAt K "ValueError"):
 ∃ fd:FuncData,(∀ (s:Shared) (v:Value),BindsTo s fd ⟨[v],[]⟩ [("script",v)])/\∀ base:Heap,K.In base->base.Ns mainGlobals mg->FnOk l.prog w K mg base CX0 8 fa fd ["script"] (spLaw K):=by
 obtain⟨fL,oc,od,kV,dc,pm,an,cd,ct,sl,aL,lL,cL,kL⟩:=d40
 have e:=hfa.symm.trans (mg_of X G aL)
 cases e
 have F40:=fun_mk (st:=sLaw) lL cL kL
 have z_range:=mg_none_of X G n_range
 have z_max:=mg_none_of X G n_max
 have z_min:=mg_none_of X G n_min
 have z_sorted:=mg_none_of X G n_sorted
 have z_tuple:=mg_none_of X G n_tuple
 have z_sum:=mg_none_of X G n_sum
 have z_enumerate:=mg_none_of X G n_enumerate
 have z_zip:=mg_none_of X G n_zip
 have z_len:=mg_none_of X G n_len
 have z_int:=mg_none_of X G n_int
 have z_list:=mg_none_of X G n_list
 have z_isinstance:=mg_none_of X G n_isinstance
 have z_bool:=mg_none_of X G n_bool
 have z_all:=mg_none_of X G n_all
 have z_dict:=mg_none_of X G n_dict
 have z_ValueError:=mg_none_of X G n_ValueError
 have bB:BCls K mg "BrimError" cB:=⟨mg_of X G gB,uB1,uB2,uB3⟩
 have eNoRatio:ECls K mg "NoRatio" cNoRatio cB:=⟨mg_of X G gNoRatio,uNoRatio⟩
 have eNoHeap:ECls K mg "NoHeap" cNoHeap cB:=⟨mg_of X G gNoHeap,uNoHeap⟩
 have eNoLot:ECls K mg "NoLot" cNoLot cB:=⟨mg_of X G gNoLot,uNoLot⟩
 have eUnlike:ECls K mg "Unlike" cUnlike cB:=⟨mg_of X G gUnlike,uUnlike⟩
 have eTooMany:ECls K mg "TooMany" cTooMany cB:=⟨mg_of X G gTooMany,uTooMany⟩
 have eNoSize:ECls K mg "NoSize" cNoSize cB:=⟨mg_of X G gNoSize,uNoSize⟩
 have eTooFew:ECls K mg "TooFew" cTooFew cB:=⟨mg_of X G gTooFew,uTooFew⟩
 have eNoText:ECls K mg "NoText" cNoText cB:=⟨mg_of X G gNoText,uNoText⟩
 have eNoRow:ECls K mg "NoRow" cNoRow cB:=⟨mg_of X G gNoRow,uNoRow⟩
 have T:K44B.Txt K C:=⟨⟨pg,hd,po,sa⟩,nf0,nf1,nf2,nf3⟩
 refine⟨fnOf "law" "law" (defArgs sLaw) (defBody sLaw) (defScope sLaw) .none kV dc pm an cd ct,fun s v=>.of_eq rfl,fun base _ _=>?_⟩
 have C1:=d1.cal l.prog w base X G (fun F=>ok_deal F z_range) (by wtm_at "b2")
 have C2:=d2.cal l.prog w base X G (fun F=>ok_take F) (by wtm_at "b2")
 have C3:=d3.cal l.prog w base X G (fun F=>ok_size F C2 z_max z_min) (by wtm_at "b2")
 have C4:=d4.cal l.prog w base X G (fun F=>ok_heap F C2 C3 z_range z_sorted z_tuple z_sum) (by wtm_at "b2")
 have C5:=d5.cal l.prog w base X G (fun F=>ok_ways F z_range) (by wtm_at "b1")
 have C6:=d6.cal l.prog w base X G (fun F=>ok_nways F) (by wtm_at "b1")
 have C7:=d7.cal l.prog w base X G (fun F=>ok_nthings F z_sum) (by wtm_at "b1")
 have C8:=d8.cal l.prog w base X G (fun F=>ok_refuse F C7) (by wtm_at "b2")
 have C9:=d8.cal l.prog w base X G (fun F=>ok_refuseX F eTooMany C7) (by wtm_at "b2")
 have C10:=d10.cal l.prog w base X G (fun F=>ok_waysOf F C8 C6 ⟨⟨_,mg_of X G gM1⟩⟩ ⟨⟨_,mg_of X G gM2⟩⟩ z_range) (by wtm_at "b1")
 have C11:=d10.cal l.prog w base X G (fun F=>ok_waysOfX F eTooMany C9 C6 ⟨⟨_,mg_of X G gM1⟩⟩ ⟨⟨_,mg_of X G gM2⟩⟩) (by wtm_at "b1")
 have C12:=d12.cal l.prog w base X G (fun F=>ok_paces F C6 z_enumerate) (by wtm_at "b1")
 have C13:=d13.cal l.prog w base X G (fun F=>ok_put F) (by wtm_at "b3")
 have C14:=d14.cal l.prog w base X G (fun F=>ok_lasts F C12 C10 z_zip) (by wtm_at "b1")
 have C15:=d14.cal l.prog w base X G (fun F=>ok_lastsX F C12 C11 z_zip) (by wtm_at "b1")
 have C16:=d16.cal l.prog w base X G (fun F=>ok_made F C13) (by wtm_at "b4")
 have C17:=d17.cal l.prog w base X G (fun F=>ok_tabBy F C16 z_enumerate z_max z_tuple) (by wtm_at "b2")
 have C18:=d18.cal l.prog w base X G (fun F=>ok_tabOf F C14 C17) (by wtm_at "b1")
 have C19:=d18.cal l.prog w base X G (fun F=>ok_tabOfX F C17 C15) (by wtm_at "b1")
 have C20:=d20.cal l.prog w base X G (fun F=>ok_pair F C5 z_max z_range z_len z_tuple) (by wtm_at "b1")
 have C21:=d21.cal l.prog w base X G (fun F=>ok_wo F z_tuple z_int) (by wtm_at "b2")
 have C22:=d22.cal l.prog w base X G (fun F=>ok_bey F C2 z_range z_tuple) (by wtm_at "b1")
 have F23:=fun_mk (st:=K44B.sInit) l23 c23 k23
 have b23:=F23.binds (ps:=["self","need"]) (by wtm_at "b2")
 have C23:CalleeC l.prog w K mg base "Bench" C 1 ["self","need"] (K44B.spInit C):=⟨_,_,K44B.ok_init F23 T,⟨mk,a23,i23,kc⟩,mg_of X G aC,b23⟩
 have F24:=fun_mk (st:=K44B.sOpen) l24 c24 k24
 have b24:=F24.binds (ps:=["self"]) (by wtm_at "b1")
 have C24:CalleeM l.prog w K mg base C "open_lot" 1 ["self"] (K44B.spOpen C):=⟨_,_,K44B.ok_open F24 T z_sorted z_tuple,⟨a24,i24,k24⟩,b24,T.cl⟩
 have F25:=fun_mk (st:=K44B.sPut) l25 c25 k25
 have b25:=F25.binds (ps:=["self","size"]) (by wtm_at "b2")
 have C25:CalleeM l.prog w K mg base C "put" 2 ["self","size"] (K44B.spPut C):=⟨_,_,K44B.ok_put F25 T C24 z_max z_sum,⟨a25,i25,k25⟩,b25,T.cl⟩
 have F26:=fun_mk (st:=K44B.sShut) l26 c26 k26
 have b26:=F26.binds (ps:=["self"]) (by wtm_at "b1")
 have C26:CalleeM l.prog w K mg base C "shut_lots" 1 ["self"] (K44B.spShut C):=⟨_,_,K44B.ok_shut F26 T z_list,⟨a26,i26,k26⟩,b26,T.cl⟩
 have C27:=d27.cal l.prog w base X G (fun F=>ok_lastP F C13 z_max) (by wtm_at "b4")
 have C28:=d28.cal l.prog w base X G (fun F=>ok_rowTo F C14 C27) (by wtm_at "b3")
 have C29:=d29.cal l.prog w base X G (fun F=>ok_full F z_sum) (by wtm_at "b2")
 have C30:=d30.cal l.prog w base X G (fun F=>ok_leanOf F C29) (by wtm_at "b2")
 have C31:=d31.cal l.prog w base X G (fun F=>ok_lotsR F C23 C25 C26) (by wtm_at "b2")
 have C32:=d32.cal l.prog w base X G (fun F=>ok_leanF F C30 z_sorted z_tuple) (by wtm_at "b2")
 have C33:=d33.cal l.prog w base X G (fun F=>ok_fillR F C31 C32) (by wtm_at "b2")
 have C34:=d34.cal l.prog w base X G (fun F=>ok_whole F z_isinstance z_int z_bool) (by wtm_at "b1")
 have C35:=d35.cal l.prog w base X G (fun F=>ok_cnt F C34 z_all z_dict z_isinstance z_tuple z_list z_sorted z_sum z_min) (by wtm_at "b2")
 have C36:=d36.cal l.prog w base X G (fun F=>ok_left F C12 C18 C28 C33 z_len z_dict) (by wtm_at "b2")
 have C37:=d36.cal l.prog w base X G (fun F=>ok_leftX F eNoSize C12 C19 z_dict) (by wtm_at "b2")
 have C38:=d38.calH l.prog w base X G (fun F=>ok_kindA F eTooMany eNoSize eUnlike eNoHeap eNoLot eNoRatio eNoRow eNoText eTooFew hdis hdis2 z_isinstance z_ValueError) (by wtm_at "b1")
 have C39:=d39.cal l.prog w base X G (fun F=>ok_ask F C37 C38 eNoSize eTooMany bB) (by wtm_at "b2")
 exact ok_law F40 C1 C2 C4 C20 C36 C35 C21 C39 C22 z_enumerate z_int
theorem walk {l:OpenLaw}{q:Program}{loose:List Str}{XP:(Str->Option Value)->Heap->Prop}{YP:World->Heap->Prop}{d:DefRec}{K:Params->Frag} (hn:l.most = some 63) (hdf:d.params.defaults = [])
 (hY:∀ (w:World) (h:Heap),YP w h->(K w.params).In h)
 (F:∀ (w:World) (mg:Str->Option Value) (fa:Addr) (h:Heap),(K w.params).In h->h.Ns mainGlobals mg->mg d.name = some (.ref fa)->
  ∃ fd:FuncData,(∀ (s:Shared) (u:Value),BindsTo s fd ⟨[u],[]⟩ [("script",u)])/\∀ base:Heap,(K w.params).In base->base.Ns mainGlobals mg->FnOk l.prog w (K w.params) mg base CX0 8 fa fd ["script"] (spLaw (K w.params))):
 WalkO q loose XP YP l.row.toRowW d [] (fun f vs=>PySem.call f vs):=
 walkB_of (n:=63) (k:=8) (x:="script") (CX:=fun _=>CX0) (sp:=fun w=>spLaw (K w.params)) hn (by decide) hdf ⟨rfl,by decide,by decide⟩ hY F (fun _ _ a ns hl hb hS=>⟨a,ns,rfl,hS,hl,hb,fun _=>rfl⟩) fun _ _ _ _ _ z=>z
end K44
local macro_rules | `(tactic| wtm_at "keq")=>`(tactic| (show _ = _;k_is))
local macro_rules | `(tactic| wtm_at "dat")=>`(tactic| (refine' K44.DfAt.of ?a ?l ?c ?k;(case a=>k_is);(case l=>k_is);(case c=>k_is);(case k=>k_is)))
namespace PySem.W.Fast
def tw10459467888417866868:=0
def tw10575226931371780561:=0
def tw11191974668815305935:=0
def tw947786770124907572:=0
def tw5893322088816511636:=0
def tw15873236241919625074:=0
def tw6566673563765828990:=0
def tw13770588571344262279:=0
def tw12577778566064569760:=0
def tw6546010277090169745:=0
def tw14987594979023611814:=0
def tw3199236705600681041:=0
def tw13889880231280444490:=0
def tw17590188025978473453:=0
def tw16584253471718468015:=0
def tw17851289257930352428:=0
def tw4003670717887411240:=0
def tw2592294018527995194:=0
def tw7534106080853391691:=0
def tw12616045853809298422:=0
def tw7550341623910943919:=0
def tw6674736333844200553:=0
def tw10297875506489114524:=0
def tw3631379364354173140:=0
def tw12262957959791250855:=0
def tw16525497843432214528:=0
def tw10333635554158543817:=0
def tw18169988819581683161:=0
def tw14453475516107938850:=0
def tw39062360540120023:=0
def tw8984153010254289357:=0
def tw10230182593742365953:=0
def tw3374465174736201749:=0
def tw10178062846695446294:=0
def tw6111541233897378718:=0
def tw13060499547249575286:=0
def tw1344113344550730576:=0
def tw5654415816824907584:=0
def tw12523445130348067000:=0
def tw9763481591919692337:=0
def tw10576727974533194292:=0
def tw5835580485257053707:=0
def tw2670411911579273259:=0
def tw4200876738266163159:=0
def tw1751090579232656310:=0
def tw3124856654597782679:=0
def tw17348897271815516462:=0
def tw11452321054152262207:=0
def tw5944849991167783651:=0
def tw9935060750196016431:=0
def tw11621426855748819530:=0
def tw507064890922208944:=0
def tw9814759967697761411:=0
def tw5630422244337913641:=0
def tw851635003840071224:=0
def tw17128112346210239088:=0
def tw9954741591778051989:=0
def tw7825680971962835540:=0
def tw13711043922540632208:=0
def tw13496138883826427968:=0
def tw17098529982904734793:=0
def tw1316657169247352489:=0
def tw7116813063966944384:=0
def tw18400059744483037289:=0
def tw16972728488812932087:=0
def tw7435552093475276437:=0
def tw594704900009141493:=0
def tw7320460539879434292:=0
def tw16421350968611539688:=0
def tw14827768835101858455:=0
def tw18151738638259241838:=0
def tw5400212067229091862:=0
def tw10178759825998467895:=0
def tw2605005590773979530:=0
def tw2946483897368908264:=0
def tw4805025580708973141:=0
def tw1373135469252996262:=0
def tw2772548392344829442:=0
def tw5708810171292296138:=0
def tw17718510631021063846:=0
def tw13868136831480670064:=0
def tw17997071628503785243:=0
def tw10081080993658423344:=0
def tw6815463984115155762:=0
def tw10447731800308994933:=0
def tw15610423955991918134:=0
def tw7149744323635447524:=0
def tw7009331004198389560:=0
def tw9706863221549082275:=0
def tw10692514733807428918:=0
def tw17908441678516922165:=0
def tw12369496702910884874:=0
def tw17334191914632709003:=0
def tw2259457288731210887:=0
def tw1387588208496058910:=0
def tw16233836565738154993:=0
def tw9634328101477834929:=0
def tw8239616075587638221:=0
def tw1370383915404827440:=0
def tw542666666429706185:=0
def tw7215795526329310632:=0
def tw12947299984778609983:=0
def tw1181937579105057187:=0
def tw5282659826084572388:=0
def tw8890729542116938542:=0
def tw7673797035313932224:=0
def tw17598478617965937708:=0
def tw14490712090398062127:=0
def tw1672152938609103971:=0
def tw10782171248144413408:=0
def tw11399056311176751526:=0
def tw10915941705470023776:=0
def tw5469996867701697657:=0
def tw16780616331758375770:=0
def tw1426857780121558400:=0
def tw14051717187640958314:=0
def tw6183917142950816634:=0
def tw14090574016787542962:=0
def tw3024547823925312832:=0
def tw17352476456569669642:=0
def tw6861945542166280753:=0
def tw6212795154606618888:=0
def tw15700842792252255585:=0
def tw14759697304478564061:=0
def tw13889732864936989676:=0
def tw10741851839970898486:=0
def tw10178492404437058031:=0
def tw8888336369970335057:=0
def tw17055881783463840113:=0
def tw9684748369732288145:=0
def tw15434029239870792170:=0
def tw15260621479531595119:=0
def tw6831574620383745676:=0
def tw6134492161492063768:=0
def tw14981431927019288687:=0
def tw6371539686246878792:=0
def tw10357100532908310061:=0
def tw14591201464474505003:=0
def tw8620920951788315930:=0
def tw4600937878251633227:=0
end PySem.W.Fast
open PySem PySem.W PyProof.Rows
set_option maxRecDepth 100000 in
set_option maxHeartbeats 0 in
theorem PySem.Challenge.cw_brimyard_k44_sizes_left_holds : PySem.Challenge.rw_brimyard_k44_sizes_left.Holds := by
 w_on;refine holds_law (by decide +kernel) fun said=>?_
 k_head;(case hw=>w_witness2)
 k_fill
 refine K44.walk (l:=PySem.Challenge.rw_brimyard_k44_sizes_left) rfl rfl (fun w h Y=>PySem.W.kIn_of Y) ?F
 case F=>
  intro w mg fa h KX G hmg
  refine' K44.all_mk KX G hmg ?aC ?d1 ?d2 ?d3 ?d4 ?d5 ?d6 ?d7 ?d8 ?d10 ?d12 ?d13 ?d14 ?d16 ?d17 ?d18 ?d20 ?d21 ?d22 ?a23 ?i23 ?l23 ?c23 ?k23 ?a24 ?i24 ?l24 ?c24 ?k24 ?a25 ?i25 ?l25 ?c25 ?k25 ?a26 ?i26 ?l26 ?c26 ?k26 ?d27 ?d28 ?d29 ?d30 ?d31 ?d32 ?d33 ?d34 ?d35 ?d36 ?d38 ?d39 ?d40 ?pg ?hd ?po ?sa ?mk ?kc ?nf0 ?nf1 ?nf2 ?nf3 ?gB ?gNoRatio ?gNoHeap ?gNoLot ?gUnlike ?gTooMany ?gNoSize ?gTooFew ?gNoText ?gNoRow ?uB1 ?uB2 ?uB3 ?uNoRatio ?uNoHeap ?uNoLot ?uUnlike ?uTooMany ?uNoSize ?uTooFew ?uNoText ?uNoRow ?gM1 ?gM2 ?hdis ?hdis2 ?n_range ?n_max ?n_min ?n_sorted ?n_tuple ?n_sum ?n_enumerate ?n_zip ?n_len ?n_int ?n_list ?n_isinstance ?n_bool ?n_all ?n_dict ?n_ValueError
  (case aC=>k_is)
  (case d1 | d2 | d3 | d4 | d5 | d6 | d7 | d8 | d10 | d12 | d13 | d14 | d16 | d17 | d18 | d20 | d21 | d22=>wtm_at "dat")
  (case a23 | i23 | l23 | c23 | k23 | a24 | i24 | l24 | c24 | k24 | a25 | i25 | l25 | c25 | k25 | a26 | i26 | l26 | c26 | k26=>k_is)
  (case d27 | d28 | d29 | d30 | d31 | d32 | d33 | d34 | d35 | d36 | d38 | d39 | d40=>wtm_at "dat")
  (case pg | hd | po | sa | mk | kc | nf0 | nf1 | nf2 | nf3=>k_is)
  (case gB | gNoRatio | gNoHeap | gNoLot | gUnlike | gTooMany | gNoSize | gTooFew | gNoText | gNoRow=>wtm_at "keq")
  (case uB1=>kernel_rfl)
  (case uB2 | uB3=>k_is)
  (case uNoRatio | uNoHeap | uNoLot | uUnlike | uTooMany | uNoSize | uTooFew | uNoText | uNoRow=>kernel_rfl)
  (case gM1 | gM2=>k_is)
  (case hdis | hdis2=>decide)
  (case n_range | n_max | n_min | n_sorted | n_tuple | n_sum | n_enumerate | n_zip | n_len | n_int | n_list | n_isinstance | n_bool | n_all | n_dict | n_ValueError=>wtm_at "keq")
